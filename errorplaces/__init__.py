"""Trees of errors in nested handlers."""
