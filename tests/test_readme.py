import doctest
import unittest


class TestReadme(unittest.TestCase):

    def test_its_examples(self):
        failed, tried = doctest.testfile("../README.md")
        self.assertEqual(failed, 0)
        self.assertGreater(tried, 0)


if __name__ == "__main__":
    unittest.main()
