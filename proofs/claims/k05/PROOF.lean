import PyProof.Rows.All
import Wide.All
import OpenK.AllK
import Wide.FinOn
import HandS.ForMost
import PyProof.InstNe
import HandS.OwnEq
import HandS.Star
import HandS.ClsMeth
import HandS.Property
import HandS.FStr
import HandS.ListItems
import HandS.IsInst
import HandS.Wide
import HandS.Sort
import HandS.More
import HandS.CallLocal
import KE.KParD
import HandS.Codes
import HandS.Walk
import HandS.TupLen
import HandS.List
import HandS.Text
import HandS.Ends
import PyProof.ReprRoads
import PyProof.AutoSeq1
import HandS.Style
import KE.KRevSl
import HandS.Defaults
import HandS.Deep
import HandS.RevRange
import HandS.GenList
import PyProof.StrLawsRepr
import PyProof.Rows.StrFit
import PyProof.Rows.RegStrFacts
import HandS.TupAny
import HandS.Zip
import PyProof.EnumMake
import PySem.Challenge.RW_errorplaces_k05_leaves_and_places
set_option Elab.async false
set_option linter.all false
set_option maxRecDepth 100000
set_option maxHeartbeats 8000000
namespace Own
open PySem PySem.Spec PyProof.Rows L2
section
variable {X : Cx} {k : Nat} {f g C : Addr} {fd : FuncData} {ps : List Str} {sp : Sp} {E : XK} {pins : List (Addr × Obj)} {σ : L2.St} {H : Hp} {s : Shared}
/-- a def that raises nothing, called somewhere below the body -/
theorem run_sub {Q : VK} {us : List Value} {vs : List V} {E' : Value → Shared → Prop} {A : Around} (hA : A.frames = X.A.frames) (F : FnOk X.prog X.w X.K X.mg X.base CX0 k f fd ps sp) (hr : Room k A) (hb : Binds X.K fd ps []) (I : Inv X pins σ H s) (r : Vals vs us) (h : sp vs H Q E) :
    wpAny (model X.prog X.w) A (call (.ref f) us) (EP X pins σ Q) E' s := by
  have hl : (us ++ []).length = ps.length := by rw [List.append_nil, ← r.length]; exact F.len _ _ _ _ h
  have e := I.env0
  have e0 : Env0 X.prog X.w X.K X.mg X.base A X.stack s H := ⟨by rw [hA]; exact e.frames, e.mod, e.bs, e.bsz, e.funs, e.frf, e.hok, e.bare⟩
  have hb' : BindsTo s fd ⟨us, []⟩ (ps.zip us) := by
    have q := hb s us I.kIn hl
    rw [List.append_nil] at q
    exact q
  refine wpAny_call (codeAny_mono (F.run A X.stack s H ⟨us, []⟩ us vs Q E hr e0 hb' r h) fun r s' hq => ?_)
  cases r with
  | error e => exact False.elim hq
  | ok fl =>
    cases fl with
    | ret u => exact I.after hq
    | next => exact False.elim hq
    | brk => exact False.elim hq
    | cont => exact False.elim hq
theorem inst_of {C dx a : Addr} {fs : List (Str × V)} (I : Inv X pins σ H s) (e : H a = some (.ins C dx fs)) : ∃ od, PySem.W.InstAt s.heap a (PySem.W.instObj C dx) C (some od) := by
  obtain ⟨mA, J, _⟩ := ins_get I.hok e
  obtain ⟨od, J, _⟩ := J.look
  exact ⟨od, J⟩
/-- the class's own special method -/
structure Spc (K : PySem.W.Frag) (C : Addr) (m : Str) (f : Addr) : Prop where
  at_ : PySem.W.findIn K (.ref C) m = some (some (.ref f))
  fn : PySem.W.isFn K (.ref f) = true

/-- len(o) -/
theorem call_lenO (c : Spc X.K C "__len__" f) (F : FnOk X.prog X.w X.K X.mg X.base CX0 k f fd ["self"] sp) (hr : Room (k + 1) X.A) (hb : Binds X.K fd ["self"] []) :
    CallR X (.builtin "len") (fun xs H Q => ∃ a dx fs, xs = [.ref a] ∧ H a = some (.ins C dx fs) ∧ sp [.ref a] H (fun v H1 => ∃ n : Int, v = .int n ∧ 0 ≤ n ∧ n < 2 ^ 63 ∧ Q (.int n) H1) E0) := by
  intro pins s σ H xs us Q I r h
  obtain ⟨a, dx, fs, rfl, ha, q⟩ := h
  obtain rfl := Vals.ref1 r
  obtain ⟨od, J⟩ := inst_of I ha
  obtain ⟨m, hF⟩ := I.fr
  refine PySem.W.len_K hF I.ok.mod.kin J c.at_ c.fn (thn (run_sub (A := X.A.in1) rfl F hr.in1 hb I r q) fun u s1 ⟨v, H1, I1, rv, n, ev, h0, h1, q1⟩ => ?_)
  subst ev
  obtain ⟨t, rfl⟩ := rv
  exact ⟨⟨h0, h1⟩, .int n, H1, I1.tok _, ⟨_, rfl⟩, q1⟩
/-- repr(o) -/
theorem call_reprO (c : Spc X.K C "__repr__" f) (F : FnOk X.prog X.w X.K X.mg X.base CX0 k f fd ["self"] sp) (hr : Room (k + 1) X.A) (hb : Binds X.K fd ["self"] []) :
    CallR X (.builtin "repr") (fun xs H Q => ∃ a dx fs, xs = [.ref a] ∧ H a = some (.ins C dx fs) ∧ sp [.ref a] H (fun v H1 => ∃ z : Str, v = .str z ∧ Q (.str z) H1) E0) := by
  intro pins s σ H xs us Q I r h
  obtain ⟨a, dx, fs, rfl, ha, q⟩ := h
  obtain rfl := Vals.ref1 r
  obtain ⟨od, J⟩ := inst_of I ha
  obtain ⟨m, hF⟩ := I.fr
  refine PySem.W.repr_K hr.in1.units0 hF I.ok.mod.kin J c.at_ c.fn (thn (run_sub (A := X.A.in1) rfl F hr.in1 hb I r q) fun u s1 ⟨v, H1, I1, rv, z, ev, q1⟩ => ?_)
  subst ev
  obtain ⟨t, rfl⟩ := rv
  exact ⟨.str z, H1, I1, ⟨_, rfl⟩, q1⟩
/-- x in o, x not in o -/
theorem op_inO (c : Spc X.K C "__contains__" f) (F : FnOk X.prog X.w X.K X.mg X.base CX0 k f fd ["self", "x"] sp) (hr : Room k X.A) (hb : Binds X.K fd ["self", "x"] []) :
    OpR X (compareOp .In) (fun x y H Q => ∃ a dx fs, y = .ref a ∧ H a = some (.ins C dx fs) ∧ sp [.ref a, x] H (fun v H1 => ∃ b, v = .bl b ∧ Q (.bl b) H1) E0) := by
  intro pins s σ H x y v u Q I rx ry h
  obtain ⟨a, dx, fs, rfl, ha, q⟩ := h
  cases ry
  obtain ⟨od, J⟩ := inst_of I ha
  obtain ⟨m, hF⟩ := I.fr
  refine PySem.W.in_K hF I.ok.mod.kin J c.at_ c.fn (thn (run_sub (vs := [.ref a, x]) rfl F hr hb I (.cons rfl (.cons rx .nil)) q) fun u s1 ⟨v, H1, I1, rv, b, ev, q1⟩ => ?_)
  subst ev
  cases rv
  exact wpAny_truthy_bool ⟨.bl b, H1, I1, rfl, q1⟩
theorem op_notInO (c : Spc X.K C "__contains__" f) (F : FnOk X.prog X.w X.K X.mg X.base CX0 k f fd ["self", "x"] sp) (hr : Room k X.A) (hb : Binds X.K fd ["self", "x"] []) :
    OpR X (compareOp .NotIn) (fun x y H Q => ∃ a dx fs, y = .ref a ∧ H a = some (.ins C dx fs) ∧ sp [.ref a, x] H (fun v H1 => ∃ b, v = .bl b ∧ Q (.bl (!b)) H1) E0) := by
  intro pins s σ H x y v u Q I rx ry h
  obtain ⟨a, dx, fs, rfl, ha, q⟩ := h
  cases ry
  obtain ⟨od, J⟩ := inst_of I ha
  obtain ⟨m, hF⟩ := I.fr
  refine PySem.W.notIn_K hF I.ok.mod.kin J c.at_ c.fn (thn (run_sub (vs := [.ref a, x]) rfl F hr hb I (.cons rfl (.cons rx .nil)) q) fun u s1 ⟨v, H1, I1, rv, b, ev, q1⟩ => ?_)
  subst ev
  cases rv
  exact wpAny_truthy_bool ⟨.bl (!b), H1, I1, rfl, q1⟩
/-- len(o) asked below a built-in's body -/
theorem len_body (c : Spc X.K C "__len__" f) (F : FnOk X.prog X.w X.K X.mg X.base CX0 k f fd ["self"] sp) {A : Around} (hA : A.frames = X.A.frames) (hr : Room k A) (hb : Binds X.K fd ["self"] []) {Q : Int → Shared → Prop} {E' : Value → Shared → Prop} {R : Int → Hp → Prop}
    {a dx : Addr} {fs : List (Str × V)} (I : Inv X pins σ H s) (ha : H a = some (.ins C dx fs)) (q : sp [.ref a] H (fun v H1 => ∃ n : Int, v = .int n ∧ 0 ≤ n ∧ n < 2 ^ 63 ∧ R n H1) E0) (hR : ∀ n H1 s', Inv X pins σ H1 s' → R n H1 → Q n s') :
    wpAny (model X.prog X.w) A (Builtin.«len» ⟨[.ref a], []⟩) (fun z s' => ∃ n t, z = Fin.done (.ret (.int n t)) ∧ Q n s') E' s := by
  obtain ⟨od, J⟩ := inst_of I ha
  have KX := I.kIn
  unfold Builtin.«len»
  refine wpAny_bind (m := oneArg "len" _) (wpAny_pure ?_)
  refine wpAny_bind (m := callSpecial? (.ref a) (Str.ofString "__len__")) (PySem.W.special_fn KX J c.at_ (beq_iff_eq.mp c.fn) ?_)
  refine thn (run_sub (vs := [.ref a]) hA F hr hb I (.cons rfl .nil) q) fun u s1 ⟨v, H1, I1, rv, n, ev, h0, h1, q1⟩ => ?_
  subst ev
  obtain ⟨t, rfl⟩ := rv
  refine wpAny_bind (wpAny_holding (wpAny_pure (wpAny_bind (wpAny_letGo ?_))))
  show wpAny _ _ (if n < 0 then _ else _) _ _ _
  rw [if_neg (by omega)]
  show wpAny _ _ (if n ≥ 2 ^ 63 then _ else _) _ _ _
  rw [if_neg (by omega)]
  exact wpAny_bind (wpAny_mkInt (wpAny_pure ⟨n, _, rfl, hR n H1 _ (I1.tok _) q1⟩))
/-- truth by __len__ -/
theorem truthy_len (hn : PySem.W.findIn X.K (.ref C) "__bool__" = some none) (c : Spc X.K C "__len__" f) (F : FnOk X.prog X.w X.K X.mg X.base CX0 k f fd ["self"] sp) {A : Around} (hA : A.frames = X.A.frames) (hr : Room (k + 1) A) (hb : Binds X.K fd ["self"] []) {Q : Bool → Shared → Prop} {E' : Value → Shared → Prop} {R : Int → Hp → Prop}
    {a dx : Addr} {fs : List (Str × V)} (I : Inv X pins σ H s) (ha : H a = some (.ins C dx fs)) (q : sp [.ref a] H (fun v H1 => ∃ n : Int, v = .int n ∧ 0 ≤ n ∧ n < 2 ^ 63 ∧ R n H1) E0) (hR : ∀ n H1 s', Inv X pins σ H1 s' → R n H1 → Q (n != 0) s') :
    wpAny (model X.prog X.w) A (truthy (.ref a)) Q E' s := by
  obtain ⟨od, J⟩ := inst_of I ha
  have KX := I.kIn
  unfold truthy
  refine wpAny_bind (m := callSpecial? (.ref a) (Str.ofString "__bool__")) (wpAny_bind (wpAny_bind (J.type.here ((PySem.W.looks_findIn KX hn).here (wpAny_pure ?_)))))
  refine wpAny_bind (wpAny_bind (J.type.here ((PySem.W.looks_findIn KX c.at_).here ?_)))
  have key : wpAny (model X.prog X.w) A (runValue (.builtin "len" ⟨[.ref a], []⟩)) (fun r s' => ∃ n t, r = .int n t ∧ Q (n != 0) s') E' s := by
    refine wpAny_runValue (codeAny_builtin entry_len ?_)
    rw [Around.under_plainId plain_len _]
    refine wpAny_mono (len_body (Q := fun n s' => Q (n != 0) s') (A := A.in1) c F hA hr.in1 hb I ha q hR) (fun z s' hz => ?_) fun _ _ e => e
    obtain ⟨n, t, rfl, hq⟩ := hz
    exact ⟨n, t, rfl, hq⟩
  refine wpAny_bind (wpAny_mono key (fun r s' hv => ?_) fun _ _ e => e)
  obtain ⟨n, t, rfl, hq⟩ := hv
  exact wpAny_pure hq
end
end Own

namespace Own
open PySem PySem.Spec PyProof.Rows L2
/-! bool(o): the constructor of a built-in type whose own code is known in this model alone -/
section
variable {prog : Program} {w : World} {A : Around} {E : Value → Shared → Prop} {s : Shared}
theorem typeMade_in {T nid iid : String} {Bn Bi : Builtin} {as : List Value} {S : PySem.Spec} {Q Q1 : Value → Shared → Prop} (tc : TypeCalled T nid iid) (c1 : checkTypeCall T ⟨as, []⟩ = pure ()) (c2 : checkBuiltinCall nid ⟨.type T :: as, []⟩ = pure ())
    (e1 : entryFor table nid = some Bn) (e2 : entryFor table iid = some Bi) (g1 : MeetsIn prog w (Bn ⟨.type T :: as, []⟩) S) (h1 : S A.in1 (wants Q1 E) s)
    (h2 : ∀ o s1, Q1 o s1 → s1.TypeIs o T ∧ argsOk iid ⟨o :: as, []⟩ ∧ ∃ S2, Meets (Bi ⟨o :: as, []⟩) S2 ∧ S2 A.in1 (wants (fun r s2 => r = .none ∧ Q o s2) E) s1) : wpAny (model prog w) A (call (.type T) as) Q E s := by
  obtain ⟨mc, ml, mr⟩ := tc.mro
  have m1 := tc.made
  have m2 := tc.sub
  refine wpAny_call (codeAny_of_tree ?_)
  show wpAny _ _ (callAny (.type T) _) _ _ _
  refine wpAny_pure ⟨Code.quiet_builtin _ (by decide +kernel), codeAny_builtin PySem.F.entry_type_call ?_⟩
  rw [Around.under_plain (weight_type_call_type T as []) (units_type_call_type T as [])]
  have m3 := tc.notType
  have m4 := tc.canCreate
  repeat (any_goals (first | assumption | wp_step))
  refine codeAny_mono (codeAny_call_builtin tc.plain e1 (wpAny_of_eq c2 (g1 A.in1 _ s h1))) fun z s1 hz => ?_
  cases z with
  | error _ => exact hz
  | ok fl =>
    cases fl with
    | next => exact hz.elim
    | brk => exact hz.elim
    | cont => exact hz.elim
    | ret o =>
      obtain ⟨hT, hok, S2, g2, q2⟩ := h2 _ _ hz
      have l1 := tc.init.lookup
      have l2 := tc.init.bind o
      repeat (any_goals (first | assumption | wp_step))
      refine codeAny_mono (codeAny_call_builtin tc.init.plain e2 (tc.init.check _ _ _ _ _ _ _ _ hT hok (g2 prog w A.in1 _ s1 q2))) fun z2 s2 hz2 => ?_
      cases z2 with
      | error _ => exact hz2
      | ok fl2 =>
        cases fl2 with
        | next => exact hz2.elim
        | brk => exact hz2.elim
        | cont => exact hz2.elim
        | ret r =>
          obtain ⟨rfl, hq⟩ := hz2
          repeat (any_goals (first | assumption | wp_step))
end
section
variable {X : Cx} {k : Nat} {f g C : Addr} {fd : FuncData} {sp : Sp}
theorem call_boolO (hn : PySem.W.findIn X.K (.ref C) "__bool__" = some none) (c : Spc X.K C "__len__" f) (F : FnOk X.prog X.w X.K X.mg X.base CX0 k f fd ["self"] sp) (hr : Room (k + 4) X.A) (hb : Binds X.K fd ["self"] []) :
    CallR X (.type "bool") (fun xs H Q => ∃ a dx fs, xs = [.ref a] ∧ H a = some (.ins C dx fs) ∧ sp [.ref a] H (fun v H1 => ∃ n : Int, v = .int n ∧ 0 ≤ n ∧ n < 2 ^ 63 ∧ Q (.bl (n != 0)) H1) E0) := by
  intro pins s σ H xs us Q I r h
  obtain ⟨a, dx, fs, rfl, ha, q⟩ := h
  obtain rfl := Vals.ref1 r
  have g1 : MeetsIn X.prog X.w (Builtin.«bool.__new__» ⟨[.type "bool", .ref a], []⟩) (fun A' R s0 => A' = X.A.in1 ∧ s0 = s ∧ ∀ (b : Bool) (s' : Shared), EP X pins σ Q (.bool b) s' → R (.ok (.ret (.bool b))) s') := by
    rintro A' R s0 ⟨rfl, rfl, hR⟩
    have f1 := PySem.F.conv_sub_bool
    obtain ⟨hp, gg, d, tk, os⟩ := s0
    have tr : wpAny (model X.prog X.w) X.A.in1.in1 (truthy (.ref a)) (fun b s' => EP X pins σ Q (.bool b) s') (fun e s' => R (.error e) s') ⟨hp, gg, d, tk, os⟩ := by
      exact truthy_len (A := X.A.in1.in1) hn c F rfl (hr.mono (by omega : k + 1 + 1 + 1 ≤ k + 4)).in1.in1 hb I ha q fun n H1 s' I1 q1 => ⟨.bl (n != 0), H1, I1, rfl, q1⟩
    repeat (any_goals (first | assumption | (with_reducible refine thn tr fun b s' hb => ?_) | wp_step))
    exact hR _ _ (by assumption)
  exact typeMade_in (Q1 := fun o s1 => s1.TypeIs o "bool" ∧ EP X pins σ Q o s1) PySem.F.called_bool (PySem.F.typeCall_bool_1 _) (PySem.F.newCall_bool_1 _) PySem.F.entry_bool_new PySem.F.entry_object_init g1 ⟨rfl, rfl, fun b s' hb => ⟨PySem.typeIs_bool _ _, hb⟩⟩ fun o s1 hq => ⟨hq.1, PySem.F.args_object_init_2 _ _, _, object_init_meets PySem.F.called_bool.init.lookup PySem.F.called_bool.made PySem.F.newNe_bool, hq.1, rfl, hq.2⟩
end
end Own

namespace Own
open PySem PySem.Spec PyProof.Rows L2
/-! a != b by the own __eq__ (the class has no __ne__ of its own) -/
section
variable {X : Cx} {k : Nat} {f C : Addr} {fd : FuncData} {sp : Sp} {pins : List (Addr × Obj)} {σ : L2.St} {H : Hp} {s : Shared}
theorem ne_bind (self : Value) : bindSpecial (.builtin "object.__ne__") self = pure (.builtin "object.__ne__", [self]) := PySem.F.slot_tuple_iterator_ne.bind self
theorem cmp_eqO (c : Spc X.K C "__eq__" f) (F : FnOk X.prog X.w X.K X.mg X.base CX0 k f fd ["self", "other"] sp) (hr : Room k X.A) (hb : Binds X.K fd ["self", "other"] []) :
    OpR X (compareOp .Eq) (fun x y H Q => ∃ a b dx fs dy gs, x = .ref a ∧ y = .ref b ∧ H a = some (.ins C dx fs) ∧ H b = some (.ins C dy gs) ∧ sp [.ref a, .ref b] H (fun v H1 => ∃ z, v = .bl z ∧ Q (.bl z) H1) E0) := by
  intro pins s σ H x y v u Q I rx ry h
  obtain ⟨a, b, dx, fs, dy, gs, rfl, rfl, ha, hb', q⟩ := h
  cases rx
  cases ry
  obtain ⟨od, J⟩ := inst_of I ha
  obtain ⟨od', J'⟩ := inst_of I hb'
  obtain ⟨m, hF⟩ := I.fr
  refine PySem.W.cmp_ofEq (PySem.W.cmp_K (op := .Eq) (tb := .ref C) hr.units0 hF I.ok.mod.kin J J'.type (by simp [PySem.W.notFirst]) c.at_ c.fn ?_)
  refine thn (run_sub (vs := [.ref a, .ref b]) rfl F hr hb I (.cons rfl (.cons rfl .nil)) q) fun u s1 ⟨v, H1, I1, rv, z, ev, q1⟩ => ?_
  subst ev
  cases rv
  exact ⟨.bl z, H1, I1, rfl, q1⟩
/-- the class takes != from object -/
structure NeO (K : PySem.W.Frag) (C : Addr) : Prop where
  at_ : PySem.W.findIn K (.ref C) "__ne__" = some (some (.builtin "object.__ne__"))
  ob : PySem.W.mroIn K C (.type "object") = some true
theorem cmp_neO (n : NeO X.K C) (c : Spc X.K C "__eq__" f) (F : FnOk X.prog X.w X.K X.mg X.base CX0 k f fd ["self", "other"] sp) (hr : Room (k + 4) X.A) (hb : Binds X.K fd ["self", "other"] []) :
    OpR X (compareOp .NotEq) (fun x y H Q => ∃ a b dx fs dy gs, x = .ref a ∧ y = .ref b ∧ H a = some (.ins C dx fs) ∧ H b = some (.ins C dy gs) ∧ sp [.ref a, .ref b] H (fun v H1 => ∃ z, v = .bl z ∧ Q (.bl (!z)) H1) E0) := by
  intro pins s σ H x y v u Q I rx ry h
  obtain ⟨a, b, dx, fs, dy, gs, rfl, rfl, ha, hb', q⟩ := h
  cases rx
  cases ry
  obtain ⟨od, J⟩ := inst_of I ha
  obtain ⟨od', J'⟩ := inst_of I hb'
  have KX := I.kIn
  have inner : wpAny (model X.prog X.w) X.A.in1 (Builtin.«object.__ne__» ⟨[.ref a, .ref b], []⟩) (fun z s' => ∃ t, z = Fin.done (.ret (.bool t)) ∧ EP X pins σ Q (.bool t) s') X.xe s := by
    unfold Builtin.«object.__ne__»
    refine wpAny_bind (m := slotArgs "__ne__" 1 _) (wpAny_pure ?_)
    refine wpAny_bind (wpAny_cRoomFor (hr.mono (by omega : k + 3 + 1 ≤ k + 4)).in1.units0 ?_)
    refine wpAny_bind (m := callSpecialIfBound? (.ref a) (Str.ofString "__eq__") [.ref b]) (PySem.W.ifBound_K KX J c.at_ c.fn ?_)
    refine thn (run_sub (A := X.A.in1) (vs := [.ref a, .ref b]) rfl F (hr.mono (by omega : k + 1 ≤ k + 4)).in1 hb I (.cons rfl (.cons rfl .nil)) q) fun u s1 ⟨v, H1, I1, rv, z, ev, q1⟩ => ?_
    subst ev
    cases rv
    refine wpAny_bind (wpAny_truthy_bool (wpAny_pure ⟨_, rfl, .bl (!z), H1, I1, rfl, q1⟩))
  have one : wpAny (model X.prog X.w) X.A (tryCompare (.ref a) "__ne__" (.ref b)) (fun r s' => ∃ t, r = some (.bool t) ∧ EP X pins σ Q (.bool t) s') X.xe s := by
    have cl : wpAny (model X.prog X.w) X.A (call (.builtin "object.__ne__") [.ref a, .ref b]) (fun r s' => ∃ t, r = .bool t ∧ EP X pins σ Q (.bool t) s') X.xe s := by
      refine wpAny_call (codeAny_call_builtin PySem.F.slot_tuple_iterator_ne.plain PySem.F.cmpEntry_ne ?_)
      refine @PySem.W.check_slot (model X.prog X.w) _ _ s "object.__ne__" "object" "__ne__" (.ref a) [.ref b] [] _ PySem.F.cmpKind_ne PySem.F.cmpSplit_ne (J.type.andThen (PySem.W.looks_mroIn KX n.ob)) (PySem.F.cmpArgs_ne _ _) ?_
      refine wpAny_mono inner (fun z s' hz => ?_) fun _ _ e => e
      obtain ⟨t, rfl, hq⟩ := hz
      exact ⟨t, rfl, hq⟩
    simp only [tryCompare, callSpecialIfBound?, bindSpecialIfBound?]
    refine wpAny_bind (wpAny_holding (wpAny_bind (wpAny_bind (wpAny_bind (J.type.here ((PySem.W.looks_findIn KX n.at_).here ?_))))))
    refine wpAny_bind (wpAny_askSetting (wpAny_ite ?_))
    have fin : wpAny (model X.prog X.w) X.A (call (.builtin "object.__ne__") ([.ref a] ++ [.ref b]) >>= fun v => pure (some v)) (fun r s' => ∃ t, r = some (.bool t) ∧ EP X pins σ Q (.bool t) s') X.xe s :=
      wpAny_bind (wpAny_mono cl (fun v s' ⟨t, e, hq⟩ => wpAny_pure ⟨t, by rw [e], hq⟩) fun _ _ e => e)
    have fin2 : wpAny (model X.prog X.w) X.A (call (.builtin "object.__ne__") ([.ref a] ++ [.ref b]) >>= fun v => pure (some v)) (fun r s' => wpAny (model X.prog X.w) X.A (match r with | some .notImplemented | none => pure none | some v => pure (some v)) (fun r s' => ∃ t, r = some (.bool t) ∧ EP X pins σ Q (.bool t) s') X.xe s') X.xe s :=
      wpAny_mono fin (fun r s' ⟨t, e, hq⟩ => by subst e; exact wpAny_pure ⟨t, rfl, hq⟩) fun _ _ e => e
    split
    · exact wpAny_bind ((PySem.W.Looks.of_pure (ne_bind _)).here (wpAny_pure (by exact fin2)))
    · exact wpAny_tryCatch (wpAny_bind ((PySem.W.Looks.of_pure (ne_bind _)).here (wpAny_pure (by exact fin2))))
  show wpAny _ _ (richCompare .NotEq (.ref a) (.ref b)) _ _ _
  unfold richCompare
  simp only [oneThing_ref]
  refine wpAny_holding (wpAny_bind (wpAny_cRoomFor hr.units0 ?_))
  refine wpAny_bind (J.type.here (wpAny_bind (J'.type.here ?_)))
  rw [show (Value.ref C != Value.ref C) = false from by simp]
  simp only [Bool.false_eq_true, if_false]
  refine wpAny_bind (wpAny_pure ?_)
  simp only [Bool.false_eq_true, if_false]
  refine wpAny_bind (wpAny_mono one (fun r s' ⟨t, e, hq⟩ => ?_) fun _ _ e => e)
  subst e
  exact wpAny_pure hq
end
end Own

namespace Own
open PySem PySem.Spec PyProof.Rows L2
/-! a def that takes all keywords: f(self, **bases) -/
section
variable {prog : Program} {w : World} {A : Around} {E : Value → Shared → Prop} {d : Addr}
theorem put_one {s : Shared} {es : List DictEntry} {n : Nat} {k : Str} {v : Value} {Q : Unit → Shared → Prop} (D : s.heap.get? d = some (PySem.W.dictOf es n)) (hs : ∀ e ∈ es, e.key.isStr k = false) (hr : ∀ e ∈ es, e.refKey = false)
    (h : ∀ h', h'.get? d = some (PySem.W.dictOf (es ++ [⟨PyData.keyHash w.params k, .str k s.toks, v⟩]) (n + 1)) → (∀ b o, b ≠ d → s.heap.get? b = some o → h'.get? b = some o) → Q () { s with heap := h', toks := s.toks + 1 }) :
    wpAny (model prog w) A (nsSet d k v) Q E s := by
  have a1 : es.any (·.key.isStr k) = false := List.any_eq_false.mpr fun e he => by rw [hs e he]; decide
  have a2 : es.any (·.refKey) = false := List.any_eq_false.mpr fun e he => by rw [hr e he]; decide
  have a3 : Obj.putName k (PyData.keyHash w.params k) (.str k s.toks) v (PySem.W.dictOf es n) = PySem.W.dictOf (es ++ [⟨PyData.keyHash w.params k, .str k s.toks, v⟩]) (n + 1) := by
    rw [PySem.W.putName_dict, PySem.W.putL_new hs]
    show PySem.W.dictOf _ (if es.any (·.key.isStr k) then n else n + 1) = _
    rw [a1, if_neg Bool.false_ne_true]
  have a4 : aRefKeyMayBeTheName k es.toArray = false := by
    rw [aRefKeyMayBeTheName_at, ← Array.any_toList, ← Array.any_toList]
    show (!es.any (·.key.isStr k) && es.any (·.refKey)) = false
    rw [a2, Bool.and_false]
  unfold nsSet
  refine wpAny_bind (wpAny_bind (wpAny_askSetting (wpAny_pure (wpAny_bind (wpAny_mkText (wpAny_bind (wpAny_loadPart D ?_)))))))
  dsimp only
  rw [a4]
  refine wpAny_updatePart D (h _ ?_ fun b o hb e => ?_)
  · rw [← a3]
    exact Heap.get?_update_self _ D ((congrArg Obj.isFreed a3).trans rfl)
  · exact (Heap.get?_update_ne _ b d _ hb).trans e
def putAll (d : Addr) (l : List (Str × Value)) : Sem PUnit := forIn l PUnit.unit fun x _ => (nsSet d x.1 x.2 >>= fun _ => pure (ForInStep.yield PUnit.unit))
theorem put_all {Q : PUnit → Shared → Prop} : ∀ (l : List (Str × Value)) (s : Shared) (es : List DictEntry) (n : Nat), s.heap.get? d = some (PySem.W.dictOf es n) → (∀ e ∈ es, ∀ x ∈ l, e.key.isStr x.1 = false) → (∀ e ∈ es, e.refKey = false) → (l.map (·.1)).Nodup →
    (∀ h', h'.get? d = some (PySem.W.dictOf (es ++ PySem.W.kwEs w.params s.toks l) (n + l.length)) → (∀ b o, b ≠ d → s.heap.get? b = some o → h'.get? b = some o) → Q ⟨⟩ { s with heap := h', toks := s.toks + l.length }) → wpAny (model prog w) A (putAll d l) Q E s
  | [], s, es, n, D, _, _, _, h => by
    unfold putAll
    rw [List.forIn_nil]
    refine wpAny_pure (h s.heap ?_ fun _ _ _ e => e)
    show s.heap.get? d = some (PySem.W.dictOf (es ++ []) n)
    rw [List.append_nil]
    exact D
  | x :: r, s, es, n, D, hs, hr, hn, h => by
    obtain ⟨n1, n2⟩ := List.nodup_cons.mp (show (x.1 :: r.map (·.1)).Nodup from hn)
    unfold putAll
    rw [List.forIn_cons]
    refine wpAny_bind (wpAny_bind (put_one D (fun e he => hs e he x (.head _)) hr fun h' D' k' => wpAny_pure ?_))
    refine put_all r { s with heap := h', toks := s.toks + 1 } _ _ D' (fun e he y hy => ?_) (fun e he => ?_) n2 fun h2 D2 k2 => ?_
    · rcases List.mem_append.mp he with z | z
      · exact hs e z y (.tail _ hy)
      · obtain rfl := List.mem_singleton.mp z
        exact beq_eq_false_iff_ne.mpr fun q => n1 (by rw [q]; exact List.mem_map_of_mem hy)
    · rcases List.mem_append.mp he with z | z
      · exact hr e z
      · obtain rfl := List.mem_singleton.mp z
        rfl
    · have t1 : s.toks + 1 + r.length = s.toks + (r.length + 1) := by omega
      have t2 : n + 1 + r.length = n + (r.length + 1) := by omega
      show Q ⟨⟩ { s with heap := h2, toks := s.toks + 1 + r.length }
      rw [t1]
      refine h h2 ?_ fun b o hb e => k2 b o hb (k' b o hb e)
      rw [t2, List.append_assoc] at D2
      exact D2
/-- the keys are texts -/
def keyed {α : Type} (l : List (Str × α)) : List (Key × α) := l.map fun p => (.inr p.1, p.2)
theorem keyed_pairs : ∀ (l : List (Str × Value)) (t : Tok), Pairs (mixKind prog w) (PySem.W.kwEs w.params t l) (keyed l)
  | [], _ => Pairs.nil
  | x :: r, t => Pairs.cons (mixKind_str prog w x.1 t) rfl (keyed_pairs r (t + 1))
theorem keyed_keys {α : Type} (l : List (Str × α)) : (keyed l).map (·.1) = (l.map (·.1)).map Sum.inr := by
  unfold keyed
  rw [List.map_map, List.map_map]
  rfl
theorem keyed_nodup {α : Type} {l : List (Str × α)} (h : (l.map (·.1)).Nodup) : ((keyed l).map (·.1)).Nodup := by
  rw [keyed_keys]
  exact List.Pairwise.map _ (fun a b n e => n (Sum.inr.inj e)) h
theorem put_dict {h : Heap} {l : List (Str × Value)} {t : Tok} {n : Nat} (D : h.get? d = some (PySem.W.dictOf (PySem.W.kwEs w.params t l) n)) (hn : (l.map (·.1)).Nodup) : h.DictOf (mixKind prog w) d (keyed l) := by
  refine ⟨_, (PySem.W.kwEs w.params t l).toArray, n, D, ⟨rfl, rfl, rfl⟩, rfl, fun e he => ?_, keyed_pairs l t, keyed_nodup hn⟩
  obtain ⟨k, u, hk, hh⟩ := PySem.W.kwEs_key l t e (List.mem_toArray.mp he)
  exact ⟨.inr k, by rw [hk]; exact mixKind_str prog w k u, hh.trans rfl⟩
theorem keyed_kv : ∀ {ks : List Str} {vs : List V} {ws : List Value}, Vals vs ws → KV (keyed (ks.zip vs)) (keyed (ks.zip ws))
  | [], _, _, _ => by
    rw [List.zip_nil_left, List.zip_nil_left]
    exact .nil
  | _ :: _, _, _, .nil => .nil
  | k :: ks, _, _, .cons r t => .cons ⟨rfl, r⟩ (keyed_kv t)
end
end Own

namespace Own
open PySem PySem.Spec PyProof.Rows L2
section
variable {P : Program} {w : World} {K : PySem.W.Frag} {mg : Str → Option Value} {base : Heap} {A : Around} {outer : List Env} {s : Shared} {H : Hp}
theorem env0_grown {h' : Heap} {d : Addr} {u : HO} {t : Nat} (e0 : Env0 P w K mg base A outer s H) (kp : ∀ b x, s.heap.get? b = some x → h'.get? b = some x) (hd : s.heap.objs.size ≤ d) (sz : s.heap.objs.size ≤ h'.objs.size) (new : ObjOk P w (upd H d u) h' d u) :
    Env0 P w K mg base A outer { s with heap := h', toks := t } (upd H d u) := by
  refine ⟨e0.frames, e0.mod, fun b x e => ⟨kp b x (e0.bs b x e).1, ?_⟩, Nat.le_trans e0.bsz sz, Heap.FunFrames.of_keeps (fun b x e _ => ⟨x, kp b x e, rfl⟩) e0.funs, fun b hb => ?_, e0.hok.laid kp hd new, e0.bare⟩
  · rw [upd_ne (Nat.ne_of_lt (Nat.lt_of_lt_of_le (Heap.lt_size (e0.bs b x e).1) hd))]
    exact (e0.bs b x e).2
  · obtain ⟨_, x, hx, _⟩ := e0.funs.mem hb
    rw [upd_ne (Nat.ne_of_lt (Nat.lt_of_lt_of_le (Heap.lt_size hx) hd))]
    exact e0.frf b hb
/-- a promise of a def f(self, **bases): the object, the names, their values -/
abbrev SpK := Addr → List Str → List V → Hp → VK → Prop
def FnKw (P : Program) (w : World) (K : PySem.W.Frag) (mg : Str → Option Value) (base : Heap) (k : Nat) (f : Addr) (sp : SpK) : Prop :=
  ∀ (A : Around) (outer : List Env) (s : Shared) (H : Hp) (x : Addr) (ks : List Str) (ws : List Value) (vs : List V) (Q : VK) (E : XK), Room k A → Env0 P w K mg base A outer s H → Vals vs ws → vs.length = ks.length → sp x ks vs H Q →
    codeAny (model P w) A (.call (.ref f) ⟨[.ref x], ks.zip ws⟩) (CR CX0 outer P w H s Q E) s
theorem fn_kw {k : Nat} {f : Addr} {name qual : Str} {params : Arguments} {body : List Stmt} {scope : Scope} {dV kV doc pm cdv ct oc : Value} {an od : Option Addr} {osl : Array (Option Value)} {N : List Str} {sp : SpK} {p1 p2 : Str}
    (lk : K.lookup f = some ⟨oc, od, .func (PySem.W.fnOf name qual params body scope dV kV doc pm an cdv ct), osl⟩) (hcd : PySem.W.codeIn K cdv qual = true) (S : FnScope N [p1, p2] scope)
    (nd : ∀ x ks vs H Q, sp x ks vs H Q → ks.Nodup ∧ ks.length ≤ 1000)
    (hb : ∀ x ks vs H Q (ws : List Value), sp x ks vs H Q → ws.length = ks.length → bindArgs (PySem.W.fnOf name qual params body scope dV kV doc pm an cdv ct) ⟨[.ref x], ks.zip ws⟩ =
      (alloc ({ cls := .type "dict", data := .dict #[] } : Obj) >>= fun d => putAll d (ks.zip ws) >>= fun _ => pure [(p1, Value.ref x), (p2, Value.ref d)]))
    (hbody : ∀ (A : Around) (outer : List Env) (s : Shared) (H : Hp) (x d : Addr) (ks : List Str) (vs : List V) (Q : VK) (E : XK), Room k (A.deeper (envOfC qual scope s.heap.objs.size f cdv)) → sp x ks vs H Q → H d = none →
      ∃ t, PSs (cxOf CX0 P w K mg base N qual scope f cdv A outer s (upd H d (.dK (keyed (ks.zip vs)))) E).nox body t ∧ t { nx := fun _ H' => Q .non H', rt := Q } (start N [.ref x, .ref d]) (upd H d (.dK (keyed (ks.zip vs))))) :
    FnKw P w K mg base (k + 1) f sp := by
  intro A outer s H x ks ws vs Q E hr e0 r hl hsp
  have hlw : ws.length = ks.length := r.length.symm.trans hl
  have hn : H s.heap.objs.size = Option.none := e0.hok.fresh (Nat.le_refl _)
  obtain ⟨nd1, nd2⟩ := nd _ _ _ _ _ hsp
  have keysE : ((ks.zip ws).map (·.1)) = ks := by
    rw [List.map_fst_zip]
    omega
  refine StX.run_bnd (ps := [p1, p2]) lk hcd S hr e0 (G := fun xs H2 => ∃ d, H d = Option.none ∧ xs = [V.ref x, V.ref d] ∧ H2 = upd H d (.dK (keyed (ks.zip vs)))) (fun A' Ex Q' h => ?_) fun s2 H2 xs ⟨d, hd, ex, eH⟩ hr' => ?_
  · rw [hb x ks vs H Q ws hsp hlw]
    refine wpAny_bind (wpAny_alloc (wpAny_bind ?_))
    refine put_all (ks.zip ws) { s with heap := s.heap.push ({ cls := .type "dict", data := .dict #[] } : Obj) } [] 0 (Heap.get?_push_size _ rfl) (fun _ z => nomatch z) (fun _ z => nomatch z) (by rw [keysE]; exact nd1) fun h' D' kp' => wpAny_pure ?_
    have kp : ∀ b o, s.heap.get? b = some o → h'.get? b = some o := fun b o e => kp' b o (Nat.ne_of_lt (Heap.lt_size e)) (Heap.get?_push_of_some _ e)
    have dct : h'.DictOf (mixKind P w) s.heap.objs.size (keyed (ks.zip ws)) := put_dict (t := s.toks) (n := 0 + (ks.zip ws).length) (by simpa using D') (by rw [keysE]; exact nd1)
    have kv : KV (keyed (ks.zip vs)) (keyed (ks.zip ws)) := keyed_kv r
    have z : (keyed (ks.zip vs)).length ≤ sizeLine := by
      unfold keyed
      rw [List.length_map, List.length_zip]
      exact Nat.le_of_lt (small1000 (by omega))
    have big := StX.env0_big e0
    have new : ObjOk P w (upd H s.heap.objs.size (.dK (keyed (ks.zip vs)))) h' s.heap.objs.size (.dK (keyed (ks.zip vs))) := ⟨z, beq_eq_false_iff_ne.mpr (Ne.symm (Nat.ne_of_lt big)), _, kv, dct⟩
    have un : Un (frs outer) [] H (upd H s.heap.objs.size (.dK (keyed (ks.zip vs)))) s.heap h' := Un.laid kp (Nat.le_refl _) hn
    exact h { s with heap := h', toks := s.toks + (ks.zip ws).length } _ [V.ref x, V.ref s.heap.objs.size] [Value.ref x, Value.ref s.heap.objs.size] (env0_grown e0 kp (Nat.le_refl _) (Nat.le_of_lt (by
      obtain ⟨o, es, ep, ho, _⟩ := dct
      exact Heap.lt_size ho)) new) un rfl (fun e s' hh => hh) (.cons rfl (.cons rfl .nil)) rfl ⟨_, hn, rfl, rfl⟩
  · subst ex eH
    obtain ⟨t, ht, q⟩ := hbody A outer s2 H x d ks vs Q E hr' hsp hd
    exact ⟨t, ht.nox, q⟩
end
/-- C(k = v, ..), no positional argument -/
def tMakeKw (C : Addr) (ks : List Str) (sp : SpK) (tk : TA) : TE := fun σ H Q => tk σ H fun zs H2 => zs.length = ks.length ∧
  ∀ x dx, H2 x = none → H2 dx = none → dx ≠ x → sp x ks zs (upd (upd H2 dx (.own x)) x (.ins C dx [])) (fun v H3 => v = .non ∧ Q (.ref x) H3)
section
variable {X : Cx} {k i : Nat} {f C : Addr} {ks : List Str} {sp : SpK} {x : Str} {p pos : Pos} {kws : List Keyword} {tk : TA}
theorem run_makeKw {pins : List (Addr × Obj)} {σ : L2.St} {H : Hp} {s : Shared} {Q : VK} {ws : List Value} {zs : List V} (M : Mk X.K C f) (F : FnKw X.prog X.w X.K X.mg X.base k f sp) (hr : Room (k + 1) X.A) (I : Inv X pins σ H s) (rz : Vals zs ws) (l : zs.length = ks.length)
    (h : ∀ x dx, H x = none → H dx = none → dx ≠ x → sp x ks zs (upd (upd H dx (.own x)) x (.ins C dx [])) (fun v H3 => v = .non ∧ Q (.ref x) H3)) :
    wpAny (model X.prog X.w) X.A (call (.ref C) [] (ks.zip ws)) (EP X pins σ Q) X.xe s := by
  have hq := h (s.heap.objs.size + 1) s.heap.objs.size (I.hok.fresh (Nat.le_succ _)) (I.hok.fresh (Nat.le_refl _)) (Nat.ne_of_lt (Nat.lt_succ_self _))
  have I2 := Inv.made (C := C) I
  refine wpAny_call (make_map (f := f) I.kIn M.makes M.init (beq_iff_eq.mp M.fn) (codeAny_mono (F _ X.stack _ _ (s.heap.objs.size + 1) ks ws zs _ E0 (hr.make C [] (ks.zip ws)) (I2.env0.make C [] (ks.zip ws)) rz l hq) fun r s' z => ?_))
  cases r with
  | error e => exact False.elim z
  | ok fl =>
    cases fl with
    | next => exact False.elim z
    | brk => exact False.elim z
    | cont => exact False.elim z
    | ret u =>
      obtain ⟨v, H3, I3, rv, ev, q3⟩ := I2.after z
      subst ev
      exact ⟨rv, V.ref (s.heap.objs.size + 1), H3, I3, rfl, q3⟩
theorem pe_makeKw (M : Mk X.K C f) (F : FnKw X.prog X.w X.K X.mg X.base k f sp) (hr : Room (k + 1) X.A) (hg : Gl X x) (hm : X.mg x = some (.ref C)) (hkw : PK X kws tk)
    (hall : (backToKw pos (keywordEach kws X.env)).all (·.1.isSome) = true := by rfl) (hks : (backToKw pos (keywordEach kws X.env)).filterMap (·.1) = ks := by rfl) (hdb : (x == ("__debug__" : Str)) = false := by decide)
    (hpl : ((backTo pos (starEach [] X.env)).any (·.1) || (backToKw pos (keywordEach kws X.env)).any (·.1.isNone)) = false := by rfl) : PE X (.Call (.Name x p) [] kws pos) (tMakeKw C ks sp tk) := by
  refine ⟨fun pins s σ H Q I h => ?_⟩
  refine wpAny_Call_Name_kw (ld_glob I hg hm ?_ hdb)
  refine PySem.W.callWith_KW0 (h₀ := X.base) (first := []) I.ok.mod.kin M.kp hall (thn (hkw.run pos pins s σ H _ I h) fun ws s2 ⟨zs, H2, I2, rz, l, q⟩ => ⟨I2.kIn, ?_⟩) hpl
  rw [hks]
  exact run_makeKw M F hr I2 rz l q
/-- x(), x a local name that holds the class -/
def tMakeL (i : Nat) (C : Addr) (sp : SpK) : TE := fun σ H Q => σ[i]? = some (some (.ref C)) ∧ ∀ x dx, H x = none → H dx = none → dx ≠ x → sp x [] [] (upd (upd H dx (.own x)) x (.ins C dx [])) (fun v H3 => v = .non ∧ Q (.ref x) H3)
theorem pe_makeL (M : Mk X.K C f) (F : FnKw X.prog X.w X.K X.mg X.base k f sp) (hr : Room (k + 1) X.A) (hN : X.N[i]? = some x) (hv : Vis X.env.scope x) (hdb : (x == ("__debug__" : Str)) = false := by decide) (hcd : (x == ("__classdict__" : Str)) = false := by decide) :
    PE X (.Call (.Name x p) [] [] pos) (tMakeL i C sp) := by
  refine ⟨fun pins s σ H Q I h => ?_⟩
  obtain ⟨hs, h⟩ := h
  refine wpAny_Call_Name_kw (thn ((pe_var (pos := p) hN hv hdb hcd).run pins s σ H (fun v H1 => v = .ref C ∧ H1 = H) I ⟨.ref C, hs, rfl, rfl⟩) fun u s1 ⟨v, H1, I1, r1, q1⟩ => ?_)
  obtain ⟨rfl, rfl⟩ := q1
  cases r1
  exact PySem.W.callWith_K0 I1.kIn M.kp (run_makeKw (ks := []) M F hr I1 .nil rfl h)
end
end Own

namespace Own
open PySem PySem.Spec PyProof.Rows L2
/-- one value by place, one by its name -/
structure BK1 (fd : FuncData) (ps : List Str) (kw : Str) : Prop where
  to : ∀ (s : Shared) (u w : Value), BindsTo s fd ⟨[u], [(kw, w)]⟩ (ps.zip [u, w])
theorem bk1_of {K : PySem.W.Frag} {x qual : Str} {st : Stmt} {f : Addr} {fd : FuncData} {ps : List Str} {kw : Str} (F : Fun K x qual st f fd)
    (h : ∀ (kV doc pm : Value) (an : Option Addr) (cdv ct u w : Value), bindArgs (PySem.W.fnOf x qual (defArgs st) (defBody st) (defScope st) .none kV doc pm an cdv ct) ⟨[u], [(kw, w)]⟩ = pure (ps.zip [u, w])) : BK1 fd ps kw := by
  obtain ⟨oc, od, kV, doc, pm, an, cdv, ct, osl, rfl, lk, hcd⟩ := F.ex
  exact ⟨fun s u w => .of_eq (h kV doc pm an cdv ct u w)⟩
section
variable {X : Cx} {k : Nat} {f g C p : Addr} {fd : FuncData} {ps : List Str} {sp : Sp} {E : XK} {m kw : Str} {o e : Expr} {kpos pos apos : Pos} {ta te : TE} {mc : Value} {pl : Sem Bool}
theorem code_k1 {pins : List (Addr × Obj)} {σ : L2.St} {H : Hp} {s : Shared} {Q : VK} {u w : Value} {x y : V} (F : FnOk X.prog X.w X.K X.mg X.base CX0 k f fd ps sp) (hr : Room k X.A) (hb : BK1 fd ps kw) (I : Inv X pins σ H s) (rx : RelV x u) (ry : RelV y w) (h : sp [x, y] H Q E)
    {E' : Value → Shared → Prop} : codeAny (model X.prog X.w) X.A (.call (.ref f) ⟨[u], [(kw, w)]⟩) (wants (EP X pins σ Q) E') s := by
  refine codeAny_mono (F.run X.A X.stack s H ⟨[u], [(kw, w)]⟩ [u, w] [x, y] Q E hr I.env0 (hb.to s u w) (.cons rx (.cons ry .nil)) h) fun r s' hq => ?_
  cases r with
  | error e => exact False.elim hq
  | ok fl =>
    cases fl with
    | next => exact False.elim hq
    | brk => exact False.elim hq
    | cont => exact False.elim hq
    | ret u => exact I.after hq
/-- o.m(k = e) -/
def tMethK (C : Addr) (m : Str) (sp : Sp) (E : XK) (ta te : TE) : TE := fun σ H Q => ta σ H fun x H1 => ∃ a dx fs, x = .ref a ∧ H1 a = some (.ins C dx fs) ∧ fs.lookup m = none ∧ te σ H1 fun y H2 => sp [.ref a, y] H2 Q E
theorem pe_methK (he : PE X o ta) (c : Cls X.K C) (hm : Meth X.K C m f) (F : FnOk X.prog X.w X.K X.mg X.base CX0 k f fd ps sp) (hr : Room k X.A) (hb : BK1 fd ps kw) (hv : PE X e te)
    (hall : (backToKw pos (keywordEach [⟨some kw, e, kpos⟩] X.env)).all (·.1.isSome) = true := by rfl) (hks : (backToKw pos (keywordEach [⟨some kw, e, kpos⟩] X.env)).filterMap (·.1) = [kw] := by rfl)
    (hpl : ((backTo pos (starEach [] X.env)).any (·.1) || (backToKw pos (keywordEach [⟨some kw, e, kpos⟩] X.env)).any (·.1.isNone)) = false := by rfl)
    (ht : eval (.Call (.Attribute o m apos) [] [⟨some kw, e, kpos⟩] pos) X.env = (do
      let ov ← eval o X.env
      standAt apos.atName
      let (f, first) ← holding [ov] (getMethod ov m pl)
      callWith pos f first (backTo pos (starEach [] X.env)) (backToKw pos (keywordEach [⟨some kw, e, kpos⟩] X.env))) := by rfl) :
    PE X (.Call (.Attribute o m apos) [] [⟨some kw, e, kpos⟩] pos) (tMethK C m sp E ta te) := by
  refine ⟨fun pins s σ H Q I h => ?_⟩
  refine PySem.W.methodCall_KW (pl := pl) (thn (he.run pins s σ H _ I h) fun u s1 ⟨x, H1, I1, rx, a, dx, fs, ex, ea, l, q⟩ => ?_) ht
  subst ex
  obtain rfl : u = Value.ref a := rx
  refine getmeth_ok I1 ea c hm l ?_
  have pk : PK X [⟨some kw, e, kpos⟩] (tCons te tNil) := pk_cons hv pk_nil
  refine PySem.W.callWith_KW0 (first := [.ref a]) (h₀ := X.base) I.ok.mod.kin hm.kp hall (thn (pk.run pos pins s1 σ H1 (fun zs H2 => ∃ y, zs = [y] ∧ sp [.ref a, y] H2 Q E) I1 (show te σ H1 (fun y H2 => ∃ z, [y] = [z] ∧ sp [.ref a, z] H2 Q E) from ?_)) fun ws s2 ⟨zs, H2, I2, rz, y, ez, q2⟩ => ⟨I2.kIn, ?_⟩) hpl
  · have e2 : (fun (y : V) (H2 : Hp) => ∃ z, [y] = [z] ∧ sp [.ref a, z] H2 Q E) = fun y H2 => sp [.ref a, y] H2 Q E := by
      funext y H2
      exact propext ⟨fun ⟨z, ez, q⟩ => by cases ez; exact q, fun q => ⟨y, rfl, q⟩⟩
    rw [e2]
    exact q
  · subst ez
    obtain ⟨w, rfl, rw'⟩ := vals1 rz
    rw [hks]
    exact wpAny_call (code_k1 (x := V.ref a) F hr hb I2 rfl rw' q2)
/-- C.m(k = e), a classmethod -/
def tCMethK (C : Addr) (sp : Sp) (E : XK) (ta te : TE) : TE := fun σ H Q => ta σ H fun x H1 => x = .ref C ∧ te σ H1 fun y H2 => sp [.ref C, y] H2 Q E
theorem pe_cmethK (he : PE X o ta) (r : ClX.CRead X.K C mc) (c : ClX.CMet X.K C mc m p g) (F : FnOk X.prog X.w X.K X.mg X.base CX0 k g fd ps sp) (hr : Room k X.A) (hb : BK1 fd ps kw) (hv : PE X e te)
    (hall : (backToKw pos (keywordEach [⟨some kw, e, kpos⟩] X.env)).all (·.1.isSome) = true := by rfl) (hks : (backToKw pos (keywordEach [⟨some kw, e, kpos⟩] X.env)).filterMap (·.1) = [kw] := by rfl)
    (hpl : ((backTo pos (starEach [] X.env)).any (·.1) || (backToKw pos (keywordEach [⟨some kw, e, kpos⟩] X.env)).any (·.1.isNone)) = false := by rfl)
    (ht : eval (.Call (.Attribute o m apos) [] [⟨some kw, e, kpos⟩] pos) X.env = (do
      let ov ← eval o X.env
      standAt apos.atName
      let (f, first) ← holding [ov] (getMethod ov m pl)
      callWith pos f first (backTo pos (starEach [] X.env)) (backToKw pos (keywordEach [⟨some kw, e, kpos⟩] X.env))) := by rfl) :
    PE X (.Call (.Attribute o m apos) [] [⟨some kw, e, kpos⟩] pos) (tCMethK C sp E ta te) := by
  refine ⟨fun pins s σ H Q I h => ?_⟩
  refine PySem.W.methodCall_KW (pl := pl) (thn (he.run pins s σ H _ I h) fun u s1 ⟨x, H1, I1, rx, ex, q⟩ => ?_) ht
  subst ex
  obtain rfl : u = Value.ref C := rx
  refine ClX.getmethcm_ok I1 r c fun s2 I2 => ?_
  have pk : PK X [⟨some kw, e, kpos⟩] (tCons te tNil) := pk_cons hv pk_nil
  refine PySem.W.callWith_of hpl (PySem.W.keeps_M c.fi) (PyProof.Rows.evalArgs_kw2_nil hall (thn (pk.run pos _ s2 σ H1 (fun zs H2 => ∃ y, zs = [y] ∧ sp [.ref C, y] H2 Q E) I2 (show te σ H1 (fun y H2 => ∃ z, [y] = [z] ∧ sp [.ref C, z] H2 Q E) from ?_)) fun ws s3 ⟨zs, H2, I3, rz, y, ez, q2⟩ => ⟨⟨ClX.pin_at I3, I3.kIn⟩, ?_⟩))
  · have e2 : (fun (y : V) (H2 : Hp) => ∃ z, [y] = [z] ∧ sp [.ref C, z] H2 Q E) = fun y H2 => sp [.ref C, y] H2 Q E := by
      funext y H2
      exact propext ⟨fun ⟨z, ez, q⟩ => by cases ez; exact q, fun q => ⟨y, rfl, q⟩⟩
    rw [e2]
    exact q
  · subst ez
    obtain ⟨w, rfl, rw'⟩ := vals1 rz
    rw [hks]
    have z : wpAny (model X.prog X.w) X.A (call (.ref s1.heap.objs.size) [] [(kw, w)]) (EP X _ σ Q) X.xe s3 := wpAny_call (PySem.W.method_call (ClX.pin_at I3) (code_k1 (x := V.ref C) F hr hb I3 rfl rw' q2))
    exact thn z fun _ _ y => ClX.unpinE y
end
end Own

namespace K1
open PySem PySem.Spec PyProof.Rows L2
def top (i : Nat) : Stmt := PySem.Challenge.pw_errorplaces_k05_leaves_and_places.main.body.getD i (.Pass ⟨0, 0, 0, 0⟩)
abbrev sLeaves : Stmt := top 1
abbrev sChildren : Stmt := top 2
abbrev sSource : Stmt := top 4
abbrev sDraw : Stmt := top 5
abbrev sNames : Stmt := top 6
abbrev sLawRandomTree : Stmt := top 7
abbrev sLawExpected : Stmt := top 8
abbrev sLawPairs : Stmt := top 9
abbrev sLaw : Stmt := top 10
end K1

namespace Own
open PySem PySem.Spec PyProof.Rows L2
/-! sorted lists of texts -/
def notAbove (a b : List Nat) : Prop := ltCps b a = false
theorem na_trans : ∀ {a b c : List Nat}, notAbove a b → notAbove b c → notAbove a c
  | [], _, [], _, _ => rfl
  | [], _, _ :: _, _, _ => rfl
  | x :: r, [], _, h, _ => by simp [notAbove, ltCps] at h
  | x :: r, y :: t, [], _, h => by simp [notAbove, ltCps] at h
  | x :: r, y :: t, z :: u, h1, h2 => by
    simp only [notAbove, ltCps, Bool.or_eq_false_iff, Bool.and_eq_false_iff, decide_eq_false_iff_not, beq_eq_false_iff_ne] at h1 h2 ⊢
    refine ⟨by omega, ?_⟩
    by_cases e : z = x
    · refine .inr ?_
      have e1 : y = x := by omega
      have q1 : ltCps t r = false := h1.2.elim (fun n => absurd e1 n) id
      have q2 : ltCps u t = false := h2.2.elim (fun n => absurd (by omega) n) id
      exact na_trans (show notAbove r t from q1) (show notAbove t u from q2)
    · exact .inl e
theorem na_antisymm : ∀ {a b : List Nat}, notAbove a b → notAbove b a → a = b
  | [], [], _, _ => rfl
  | [], y :: t, _, h => by simp [notAbove, ltCps] at h
  | x :: r, [], h, _ => by simp [notAbove, ltCps] at h
  | x :: r, y :: t, h1, h2 => by
    simp only [notAbove, ltCps, Bool.or_eq_false_iff, Bool.and_eq_false_iff, decide_eq_false_iff_not, beq_eq_false_iff_ne] at h1 h2
    have e : x = y := by omega
    subst e
    have q1 : ltCps t r = false := h1.2.elim (fun n => absurd rfl n) id
    have q2 : ltCps r t = false := h2.2.elim (fun n => absurd rfl n) id
    rw [na_antisymm (show notAbove r t from q1) (show notAbove t r from q2)]
theorem str_ext {a b : Str} (h : a.cps.toList = b.cps.toList) : a = b := by
  cases a with
  | mk x =>
    cases b with
    | mk y =>
      have e : x = y := Array.toList_inj.mp h
      rw [e]
theorem rising_all : ∀ (p : Str) (l : List Str), risingS p l = true → (∀ x ∈ l, notAbove p.cps.toList x.cps.toList) ∧ l.Pairwise fun a b => notAbove a.cps.toList b.cps.toList
  | _, [], _ => ⟨(fun _ h => nomatch h), List.Pairwise.nil⟩
  | p, x :: r, h => by
    obtain ⟨h1, h2⟩ := Bool.and_eq_true_iff.mp (show (!ltCps x.cps.toList p.cps.toList && risingS x r) = true from h)
    obtain ⟨i1, i2⟩ := rising_all x r h2
    have n1 : notAbove p.cps.toList x.cps.toList := by
      unfold notAbove
      simpa using h1
    refine ⟨fun y hy => ?_, List.pairwise_cons.mpr ⟨i1, i2⟩⟩
    rcases List.mem_cons.mp hy with e | e
    · rw [e]
      exact n1
    · exact na_trans n1 (i1 y e)
theorem sorted_pw {l : List Str} (h : sortedS l = true) : l.Pairwise fun a b => notAbove a.cps.toList b.cps.toList := by
  cases l with
  | nil => exact .nil
  | cons x r =>
    obtain ⟨a, b⟩ := rising_all x r h
    exact List.pairwise_cons.mpr ⟨a, b⟩
theorem sorted_one {xs ys : List Str} (p : xs.Perm ys) (hx : sortedS xs = true) (hy : sortedS ys = true) : xs = ys :=
  List.Perm.eq_of_pairwise (le := fun a b => notAbove a.cps.toList b.cps.toList) (fun a b _ _ h1 h2 => str_ext (na_antisymm h1 h2)) (sorted_pw hx) (sorted_pw hy) p

/-! a list or a tuple -/
def SeqOf (H : Hp) (a : Addr) (xs : List V) : Prop := H a = some (.lst xs) ∨ H a = some (.tup xs)
theorem SeqOf.same {H H' : Hp} {a : Addr} {xs : List V} (h : SeqOf H a xs) (k : Same H H') : SeqOf H' a xs := h.elim (fun e => .inl (k _ _ e)) fun e => .inr (k _ _ e)
theorem SeqOf.lt {K : PySem.W.Frag} {H : Hp} {a : Addr} {xs : List V} (h : SeqOf H a xs) : SqL K H a xs ∨ SqT K H a xs := h.elim (fun e => .inl (SqL.of e)) fun e => .inr (SqT.of e)
def iSeq (K : PySem.W.Frag) (i : Nat) : TI := fun σ H R => ∃ a, σ[i]? = some (some (.ref a)) ∧ (((∃ xs, H a = some (.lst xs)) ∧ R (Itl K a) H) ∨ ((∃ xs, H a = some (.tup xs)) ∧ R (Itt K a) H))
section
variable {X : Cx} {tg : Expr}
theorem pi_seq (i : Nat) {x : Str} {pos : Pos} (hN : X.N[i]? = some x := by rfl) (hv : Vis X.env.scope x := by first | exact Or.inl rfl | exact Or.inr (Or.inl rfl) | exact Or.inr (Or.inr rfl)) (hd : (x == ("__debug__" : Str)) = false := by decide)
    (hcd : (x == ("__classdict__" : Str)) = false := by decide) : PI X tg (.Name x pos) (iSeq X.K i) := by
  refine ⟨fun pins s σ H R I h => ?_⟩
  obtain ⟨a, e, h⟩ := h
  rcases h with ⟨⟨xs, hs⟩, q⟩ | ⟨⟨xs, hs⟩, q⟩
  · exact (pi_list (pe_var hN hv hd hcd)).run pins s σ H R I ⟨_, e, a, rfl, ⟨xs, SqL.of hs⟩, q⟩
  · exact (pi_tup (pe_var hN hv hd hcd)).run pins s σ H R I ⟨_, e, a, rfl, ⟨xs, SqT.of hs⟩, q⟩
end
theorem for_seq {K : PySem.W.Frag} {i : Nat} {a : Addr} {xs : List V} {g : TG} {tb : TS} {D : Ends} {σ : L2.St} {H : Hp} (e : σ[i]? = some (some (.ref a))) (hs : SeqOf H a xs) (Pv : Nat → L2.St → Hp → Prop) (h0 : Pv 0 σ H) (hk : ∀ i σ H', i ≤ xs.length → Pv i σ H' → ∀ o, H a = some o → H' a = some o)
    (turn : ∀ i x σ H, xs[i]? = some x → Pv i σ H → g x σ H fun σ2 H2 => tb { D with nx := Pv (i + 1), ct := Pv (i + 1), bk := D.nx } σ2 H2) (hd : ∀ σ H, Pv xs.length σ H → D.nx σ H) : tFor (iSeq K i) g tb D σ H := by
  refine ⟨a, e, ?_⟩
  rcases hs with h | h
  · exact .inl ⟨⟨xs, h⟩, for_list Pv h0 (fun j σ' H' hj p => SqL.of (hk j σ' H' hj p _ h)) turn hd⟩
  · exact .inr ⟨⟨xs, h⟩, for_tup Pv h0 (fun j σ' H' hj p => SqT.of (hk j σ' H' hj p _ h)) turn hd⟩
theorem lc_seq {K : PySem.W.Frag} {j : Nat} {a : Addr} {xs : List V} {g : TG} {tt : TT} {te : TE} {vs : List Nat} {σ : L2.St} {H : Hp} {Q : VK} (e : σ[j]? = some (some (.ref a))) (hs : SeqOf H a xs) (Pv : Addr → Nat → Hp → Prop) (h0 : ∀ D, H D = none → Pv D 0 (upd H D (.lst [])))
    (hk : ∀ D i H', H D = none → i ≤ xs.length → Pv D i H' → ∀ o, H a = some o → H' a = some o)
    (turn : ∀ D i x H', H D = none → xs[i]? = some x → Pv D i H' → g x (wipe σ vs) H' fun σ2 H2 => wipe σ2 vs = wipe σ vs ∧ tt σ2 H2 fun b H3 =>
      if b = true then te σ2 H3 fun y H4 => ∃ acc, H4 D = some (.lst acc) ∧ acc.length < sizeLine ∧ Pv D (i + 1) (upd H4 D (.lst (acc ++ [y]))) else Pv D (i + 1) H3) (hd : ∀ D H', H D = none → Pv D xs.length H' → Q (.ref D) H') : tLc (iSeq K j) g tt te vs σ H Q := by
  refine ⟨a, e, ?_⟩
  rcases hs with h | h
  · exact .inl ⟨⟨xs, h⟩, fun D nD => lc_list (Pv D) (h0 D nD) (fun i H' hi p => SqL.of (hk D i H' nD hi p _ h)) (fun i x H' hx p => turn D i x H' nD hx p) fun H' p => hd D H' nD p⟩
  · exact .inr ⟨⟨xs, h⟩, fun D nD => lc_tup (Pv D) (h0 D nD) (fun i H' hi p => SqT.of (hk D i H' nD hi p _ h)) (fun i x H' hx p => turn D i x H' nD hx p) fun H' p => hd D H' nD p⟩
/-! sorted of a tuple, of a list or tuple -/
section
variable {X : Cx}
theorem cr_sortedT : CallR X (.builtin "sorted") (fun vs H Q => ∃ (a : Addr) (xs : List Str), vs = [V.ref a] ∧ H a = some (.tup (xs.map V.str)) ∧ xs.length < 64 ∧ ∀ (ys : List Str) (p : Addr), ys.Perm xs → sortedS ys = true → H p = none → Q (.ref p) (upd H p (.lst (ys.map V.str)))) := by
  intro pins s σ H vs us Q I r h
  obtain ⟨a, xs, rfl, ha, h64, q⟩ := h
  obtain rfl := Vals.ref1 r
  obtain ⟨z0, its, rv, o, ho, hc, n, hd⟩ := (show ObjOk X.prog X.w H s.heap a (.tup (xs.map V.str)) from I.hok a _ ha)
  have hS := rv.strs
  have hal : its.length = xs.length := by
    have z := rv.length
    rw [List.length_map] at z
    exact z.symm
  have hsz : its.length ≤ sizeLine := by rw [hal, sizeLine_eq]; omega
  refine Calls.call_function_entry PyProof.Rows.kind_sorted PyProof.Rows.plain_sorted PyProof.Rows.entry_sorted (PyProof.Rows.args_sorted1 _) ?_
  unfold Builtin.«sorted»
  refine wpAny_bind (m := checkCount "sorted" 1 1 _) (wpAny_pure ?_)
  refine wpAny_bind (wpAny_collect_seq a (.inr rfl) ho hc hd (fun h' hk => ?_) (by rw [List.size_toArray]; exact hsz))
  rw [show its.toArray.toList = its from by simp]
  have I1 : Inv X pins σ H { s with heap := h' } := I.kept (t' := s.toks) hk
  refine wpAny_bind (wpAny_newList ?_ hsz)
  have hoL : (h'.push (seqObj "list" its.toArray 0)).get? h'.objs.size = some (seqObj "list" its.toArray 0) := Heap.get?_push_size _ rfl
  show wpAny _ _ _ _ _ { s with heap := h'.push (seqObj "list" its.toArray 0) }
  refine wpAny_bind (wpAny_holding (wpAny_call_entry PyProof.Rows.slot_list_sort ⟨_, hoL, rfl⟩ PyProof.Rows.entry_list_sort
    (list_sort_treeK strKind_oneLt (s := { s with heap := h'.push (seqObj "list" its.toArray 0) }) hoL hS.keysOf (fun v₁ v₂ rest e => keyKind_strs (by rw [← e]; exact hS)) (by rw [hal]; exact h64) fun st' hp hs => ⟨_, rfl, ?_⟩)
    (PyProof.Rows.args_list_sort _)))
  obtain ⟨ys, g1, g2, g3⟩ := sorted_out_str hS hp hs
  obtain ⟨e', he'⟩ := PyProof.Rows.sortedHeap_at (vs := its) (out := (arrOf st').map (·.2)) hoL
  have hlen : (ys.map V.str).length ≤ sizeLine := by
    rw [List.length_map, g2.length_eq, sizeLine_eq]
    omega
  refine wpAny_pure ⟨_, rfl, .ref h'.objs.size, upd H h'.objs.size (.lst (ys.map V.str)), I1.laid (t' := s.toks) (fun b u e => ?_) (Nat.le_refl _)
    (show ObjOk X.prog X.w _ _ _ (.lst (ys.map V.str)) from ⟨hlen, ((arrOf st').map (·.2)).toList, e', vals_of_strs g1, by rw [Array.toArray_toList]; exact he'⟩), rfl, q ys _ g2 g3 (I1.hok.fresh (Nat.le_refl _))⟩
  have hb : b < h'.objs.size := Heap.lt_size e
  rw [PyProof.Rows.sortedHeap_old (Nat.ne_of_lt hb) (by rw [size_push']; exact Nat.lt_succ_of_lt hb)]
  exact Heap.get?_push_of_some _ e
/-- sorted of a list or a tuple of texts -/
def rSortedQ : List V → Hp → VK → Prop := fun vs H Q => ∃ (a : Addr) (xs : List Str), vs = [V.ref a] ∧ SeqOf H a (xs.map V.str) ∧ xs.length < 64 ∧ ∀ (ys : List Str) (p : Addr), ys.Perm xs → sortedS ys = true → H p = none → Q (.ref p) (upd H p (.lst (ys.map V.str)))
theorem cr_sortedQ : CallR X (.builtin "sorted") rSortedQ := by
  intro pins s σ H vs us Q I r h
  obtain ⟨a, xs, ev, ha, h64, q⟩ := h
  rcases ha with ha | ha
  · exact cr_sortedS pins s σ H vs us Q I r ⟨a, xs, ev, SqL.of ha, h64, q⟩
  · exact cr_sortedT pins s σ H vs us Q I r ⟨a, xs, ev, ha, h64, q⟩
end
end Own

namespace K1
open PySem PySem.Spec PyProof.Rows L2
/-! ### a source of draws -/
theorem same_upd {H : Hp} {p : Addr} {o : HO} (h : H p = none) : Same H (upd H p o) := fun b x e => by
  rw [upd_ne (ne_of_none e h)]
  exact e
/-- all but what stands at s stays -/
def Keep (s : Addr) (H H' : Hp) : Prop := ∀ b o, b ≠ s → H b = some o → H' b = some o
theorem Keep.of {s : Addr} {H H' : Hp} (h : Same H H') : Keep s H H' := fun b o _ e => h b o e
theorem Keep.trans {s : Addr} {H H1 H2 : Hp} (a : Keep s H H1) (b : Keep s H1 H2) : Keep s H H2 := fun c o n e => b c o n (a c o n e)
theorem Keep.refl (s : Addr) (H : Hp) : Keep s H H := fun _ _ _ e => e
theorem Keep.upd {s : Addr} {H : Hp} {o : HO} : Keep s H (upd H s o) := fun b x n e => by
  rw [upd_ne n]
  exact e
theorem Keep.new {s p : Addr} {H H' : Hp} {o : HO} (a : Keep s H H') (h : H' p = none) : Keep s H (L2.upd H' p o) := a.trans (.of (same_upd h))
def SrcOk (a b : Int) : Prop := (b = 0 ∧ 0 ≤ a) ∨ (1 ≤ b ∧ 0 ≤ a ∧ a < 2147483647)
def Src (H : Hp) (s : Addr) : Prop := ∃ a b : Int, H s = some (.lst [.int a, .int b]) ∧ SrcOk a b
/-- where s is a source, a place that is free later was free before -/
theorem Keep.free {s p : Addr} {H H' : Hp} (k : Keep s H H') (q : Src H' s) (h : H' p = none) : H p = none := by
  by_cases e : p = s
  · subst e
    obtain ⟨a, b, z, _⟩ := q
    rw [z] at h
    cases h
  · cases z : H p with
    | none => rfl
    | some o =>
      rw [k p o e z] at h
      cases h
theorem Src.new {s p : Addr} {H : Hp} {o : HO} (q : Src H s) (h : H p = none) : Src (upd H p o) s := by
  obtain ⟨a, b, z, ok⟩ := q
  exact ⟨a, b, by rw [upd_ne (ne_of_none z h)]; exact z, ok⟩
theorem Src.same {s : Addr} {H H' : Hp} (q : Src H s) (h : Same H H') : Src H' s := by
  obtain ⟨a, b, z, ok⟩ := q
  exact ⟨a, b, h _ _ z, ok⟩
theorem mod_lt {a m : Int} (h : 0 < m) : 0 ≤ a % m ∧ a % m < m := ⟨Int.emod_nonneg _ (by omega), Int.emod_lt_of_pos _ h⟩
theorem fmod_pos {a m : Int} (h : 0 < m) : 0 ≤ a.fmod m ∧ a.fmod m < m := by
  rw [Int.fmod_eq_emod_of_nonneg _ (by omega)]
  exact mod_lt h
/-- draw: a number below many -/
def spDraw : Sp := fun vs H Q _ => ∃ (s : Addr) (m : Int), vs = [.ref s, .int m] ∧ Src H s ∧ 0 < m ∧ m < 1073741824 ∧ ∀ (d : Int) (H' : Hp), 0 ≤ d → d < m → Src H' s → Keep s H H' → Q (.int d) H'
section
variable {P : Program} {w : World} {K : PySem.W.Frag} {mg : Str → Option Value} {base : Heap}
theorem scDraw : FnScope ["source", "many", "digit"] ["source", "many"] (defScope sDraw) := ⟨rfl, rfl, rfl, by decide +kernel, rfl, by decide +kernel, by decide +kernel⟩
theorem ok_draw {f : Addr} {fd : FuncData} (F : Fun K "_law_draw" "_law_draw" sDraw f fd) : FnOk P w K mg base CX0 1 f fd ["source", "many"] spDraw := by
  refine F.ok scDraw (fun vs H Q E h => ?_) (fun cdv A outer s H vs Q E hr h => ?_)
  · obtain ⟨a, m, rfl, _⟩ := h
    rfl
  · obtain ⟨s, m, rfl, ⟨a, b, hs, ok⟩, m0, m1, k⟩ := h
    refine ⟨_, pss_cons (ps_if (pt_cmpR op_eq (pe_ix ix_list (pv 0) pe_int (fun _ _ => rfl)) pe_int (nomark _))
        (pss_cons (ps_set (i := 2) scDraw.nd rfl (Or.inl rfl) (pe_op op_modN (pe_ix ix_list (pv 0) pe_int (fun _ _ => rfl)) (pv 1)))
          (pss_cons (ps_asg (pe_op op_fdivN (pe_ix ix_list (pv 0) pe_int (fun _ _ => rfl)) (pv 1)) (pg_sub (pv 0) pe_int set_list))
            (pss_one (ps_ret (pv 2))))) pss_nil)
      (pss_cons (ps_asg (pe_op op_mod (pe_op op_add (pe_op op_add (pe_op op_pow (pe_ix ix_list (pv 0) pe_int (fun _ _ => rfl)) pe_int) (pe_op op_mul pe_int (pe_ix ix_list (pv 0) pe_int (fun _ _ => rfl)))) pe_int) pe_int) (pg_sub (pv 0) pe_int set_list))
      (pss_cons (ps_asg (pe_op op_add (pe_ix ix_list (pv 0) pe_int (fun _ _ => rfl)) pe_int) (pg_sub (pv 0) pe_int set_list))
      (pss_one (ps_ret (pe_op op_modN (pe_op op_fdiv (pe_op op_mod (pe_op op_mul (pe_ix ix_list (pv 0) pe_int (fun _ _ => rfl)) pe_int) pe_int) pe_int) (pv 1)))))), ?_⟩
    refine ⟨_, rfl, s, _, 1, _, rfl, rfl, SqL.of hs, atI_nat (j := 1) rfl, rfl, _, rfl, ite2 (fun e => ?_) (fun e => ?_)⟩
    · have b0 : b = 0 := V.int.inj (of_decide_eq_true e)
      subst b0
      have a0 : 0 ≤ a := by
        rcases ok with z | z
        · exact z.2
        · omega
      refine ⟨_, rfl, s, _, 0, _, rfl, rfl, SqL.of hs, atI_nat (j := 0) rfl, _, rfl, _, _, rfl, rfl, (by omega), ?_⟩
      refine ⟨_, rfl, s, _, 0, _, rfl, rfl, SqL.of hs, atI_nat (j := 0) rfl, _, rfl, _, _, rfl, rfl, ⟨by omega, by omega⟩, ?_⟩
      refine ⟨_, rfl, s, _, 0, 0, rfl, rfl, hs, rfl, ?_⟩
      refine ⟨_, rfl, ?_⟩
      have q := fmod_pos (a := a) m0
      refine k _ _ q.1 q.2 ⟨_, _, upd_same, .inl ⟨rfl, ?_⟩⟩ Keep.upd
      rw [Int.fdiv_eq_ediv_of_nonneg _ (by omega)]
      exact Int.ediv_nonneg a0 (by omega)
    · have b0 : ¬ b = 0 := fun z => e (by rw [z]; exact decide_eq_true rfl)
      obtain ⟨b1, a0, a1⟩ : 1 ≤ b ∧ 0 ≤ a ∧ a < 2147483647 := by
        rcases ok with z | z
        · exact absurd z.1 b0
        · exact z
      refine ⟨_, rfl, s, _, 0, _, rfl, rfl, SqL.of hs, atI_nat (j := 0) rfl, _, _, rfl, rfl, ⟨by decide, by decide, by omega⟩, ?_⟩
      refine ⟨_, rfl, s, _, 1, _, rfl, rfl, SqL.of hs, atI_nat (j := 1) rfl, _, _, rfl, rfl, .inl ⟨by decide, by decide⟩, _, _, rfl, rfl, _, _, rfl, rfl, _, _, rfl, rfl, (by decide : (0 : Int) < 2147483647), ?_⟩
      refine ⟨_, rfl, s, _, 0, 0, rfl, rfl, hs, rfl, ?_⟩
      have q := mod_lt (a := a ^ (5 : Int).toNat + 48271 * b + 11) (m := 2147483647) (by decide)
      refine ⟨_, rfl, s, _, 1, _, rfl, rfl, SqL.of upd_same, atI_nat (j := 1) rfl, _, _, rfl, rfl, ?_⟩
      refine ⟨_, rfl, s, _, 1, 1, rfl, rfl, upd_same, rfl, ?_⟩
      rw [upd_upd]
      refine ⟨_, rfl, s, _, 0, _, rfl, rfl, SqL.of upd_same, atI_nat (j := 0) rfl, _, _, rfl, rfl, .inr ⟨by decide, by decide⟩, _, _, rfl, rfl, (by decide : (0 : Int) < 2147483629), _, _, rfl, rfl, ⟨by decide, by decide⟩, _, rfl, _, _, rfl, rfl, (by omega), ?_⟩
      exact k _ _ (fmod_pos m0).1 (fmod_pos m0).2 ⟨_, _, upd_same, .inr ⟨by omega, q.1, q.2⟩⟩ Keep.upd
end
end K1

namespace K1
open PySem PySem.Spec PyProof.Rows L2 Own
theorem iteTD {p A B : Prop} [Decidable p] (hp : p) (h : A) : if decide p = true then A else B := by
  rw [if_pos (decide_eq_true hp)]
  exact h
theorem iteFD {p A B : Prop} [Decidable p] (hp : ¬ p) (h : B) : if decide p = true then A else B := by
  rw [if_neg (by rw [decide_eq_false hp]; decide)]
  exact h
theorem iteNF {p A B : Prop} [Decidable p] (hp : ¬ p) (h : A) : if (!decide p) = true then A else B := by
  rw [decide_eq_false hp]
  exact iteT h
/-! ### names -/
def NameOk (z : Str) : Prop := 1 ≤ z.length ∧ z.length ≤ 8 ∧ ∀ c ∈ z.cps.toList, 97 ≤ c ∧ c ≤ 122
def abc : Str := "abcdefghijklmnopqrstuvwxyz"
theorem in_abc {c : Nat} (h0 : 97 ≤ c) (h1 : c ≤ 122) : c ∈ abc.cps.toList := by
  have h : ∀ d : Fin 26, (97 + d.val) ∈ abc.cps.toList := by decide +kernel
  have q := h ⟨c - 97, by omega⟩
  have e : 97 + (c - 97) = c := by omega
  simpa [e] using q
def spIsName : Sp := fun vs H Q _ => ∃ z, vs = [.str z] ∧ NameOk z ∧ ∀ H', Same H H' → Q (.bl true) H'
def spIsPair : Sp := fun vs H Q _ => ∃ t x y, vs = [.ref t] ∧ H t = some (.tup [x, y]) ∧ Q (.bl true) H
section
variable {P : Program} {w : World} {K : PySem.W.Frag} {mg : Str → Option Value} {base : Heap}
end
end K1

namespace K1
open PySem PySem.Spec PyProof.Rows L2 Own
/-! ### rows -/
abbrev Ln := Str × List Str
abbrev nms (ls : List Ln) : List Str := ls.map (·.1)
def RowAt (H : Hp) (v : V) (l : Ln) : Prop := ∃ t b, v = .ref t ∧ H t = some (.tup [.str l.1, .ref b]) ∧ SeqOf H b (l.2.map V.str)
def RowsAt (H : Hp) (a : Addr) (ls : List Ln) : Prop := ∃ vs, SeqOf H a vs ∧ Paired (RowAt H) vs ls
theorem RowAt.same {H H' : Hp} {v : V} {l : Ln} (k : Same H H') (h : RowAt H v l) : RowAt H' v l := by
  obtain ⟨t, b, e, ht, hb⟩ := h
  exact ⟨t, b, e, k _ _ ht, hb.same k⟩
theorem paired_imp {α β : Type} {F G : α → β → Prop} (h : ∀ a b, F a b → G a b) : ∀ {xs : List α} {ys : List β}, Paired F xs ys → Paired G xs ys
  | _, _, .nil => .nil
  | _, _, .cons a r => .cons (h _ _ a) (paired_imp h r)
theorem RowsAt.same {H H' : Hp} {a : Addr} {ls : List Ln} (k : Same H H') (h : RowsAt H a ls) : RowsAt H' a ls := by
  obtain ⟨vs, hs, p⟩ := h
  exact ⟨vs, hs.same k, paired_imp (fun _ _ => RowAt.same k) p⟩
theorem paired_at {α β : Type} {F : α → β → Prop} : ∀ {xs : List α} {ys : List β}, Paired F xs ys → ∀ {i : Nat} {x : α}, xs[i]? = some x → ∃ y, ys[i]? = some y ∧ F x y
  | _, _, .nil, _, _, h => by simp at h
  | _, _, .cons a r, 0, x, h => by
    have e := Option.some.inj h
    subst e
    exact ⟨_, rfl, a⟩
  | _, _, .cons a r, i + 1, x, h => by
    obtain ⟨y, e, q⟩ := paired_at r (i := i) (x := x) (by simpa using h)
    exact ⟨y, by simpa using e, q⟩
theorem paired_at' {α β : Type} {F : α → β → Prop} : ∀ {xs : List α} {ys : List β}, Paired F xs ys → ∀ {i : Nat} {y : β}, ys[i]? = some y → ∃ x, xs[i]? = some x ∧ F x y
  | _, _, .nil, _, _, h => by simp at h
  | _, _, .cons a r, 0, x, h => by
    have e := Option.some.inj h
    subst e
    exact ⟨_, rfl, a⟩
  | _, _, .cons a r, i + 1, x, h => by
    obtain ⟨y, e, q⟩ := paired_at' r (i := i) (y := x) (by simpa using h)
    exact ⟨y, by simpa using e, q⟩
theorem paired_len {α β : Type} {F : α → β → Prop} : ∀ {xs : List α} {ys : List β}, Paired F xs ys → xs.length = ys.length
  | _, _, .nil => rfl
  | _, _, .cons _ r => by rw [List.length_cons, List.length_cons, paired_len r]
structure LnsOk (ls : List Ln) : Prop where
  names : ∀ l ∈ ls, NameOk l.1
  nd : (nms ls).Nodup
  few : ls.length ≤ 7
  base : ∀ (i : Nat) l, ls[i]? = some l → l.2.Nodup ∧ (∀ b ∈ l.2, b ∈ nms (ls.take i)) ∧ l.2.length ≤ 7
theorem inV_str (x : Str) (ss : List Str) : inV (.str x) (ss.map V.str) = decide (x ∈ ss) := by
  unfold inV
  rw [List.any_map]
  rw [Bool.eq_iff_iff, List.any_eq_true]
  simp only [Function.comp, eqV, decide_eq_true_eq]
  exact ⟨fun ⟨y, hy, e⟩ => by rw [← beq_iff_eq.mp e]; exact hy, fun h => ⟨x, h, beq_self_eq_true x⟩⟩
theorem flat_strs (ss : List Str) : (ss.map V.str).all flatV = true := by
  rw [List.all_map, List.all_eq_true]
  intro x _
  rfl
theorem take_succ_map {α β : Type} {f : α → β} {l : List α} {i : Nat} {x : α} (h : l[i]? = some x) : (l.take (i + 1)).map f = (l.take i).map f ++ [f x] := by
  rw [List.take_add_one, h, List.map_append]
  rfl
theorem not_before {ls : List Ln} {i : Nat} {l : Ln} (nd : (nms ls).Nodup) (h : ls[i]? = some l) : l.1 ∉ nms (ls.take i) := by
  intro hm
  obtain ⟨x, hx, e⟩ := List.mem_map.mp hm
  obtain ⟨j, hj⟩ := List.mem_iff_getElem?.mp hx
  rw [List.getElem?_take] at hj
  split at hj
  · rename_i hji
    have h1 : (nms ls)[j]? = some l.1 := by rw [List.getElem?_map, hj]; simp [e]
    have h2 : (nms ls)[i]? = some l.1 := by rw [List.getElem?_map, h]; rfl
    have := nd_ix nd h1 h2
    omega
  · cases hj
theorem isi_lt {K : PySem.W.Frag} {H : Hp} {a : Addr} {xs : List V} (h : SeqOf H a xs) : ∃ t, TyX K H (.ref a) t ∧ PySem.W.kitAny K t [.type "list", .type "tuple"] = some true := by
  rcases h with h | h
  · exact ⟨_, .base (.lst h), kitAny_cons (b := true) (kit_ty (by decide +kernel)) (fun z => nomatch z) fun _ => rfl⟩
  · exact ⟨_, .base (.tup h), kitAny_cons (b := false) (kit_ty (by decide +kernel)) (fun _ => kitAny_cons (b := true) (kit_ty (by decide +kernel)) (fun z => nomatch z) fun _ => rfl) fun z => nomatch z⟩
theorem q_cb1 {r : List V → Hp → VK → Prop} {te : TE} {σ : L2.St} {H : Hp} {Q : VK} (h : te σ H fun x H1 => r [x] H1 Q) : tCB r (tCons te tNil) σ H Q := h
def spAreRows : Sp := fun vs H Q _ => ∃ a ls, vs = [.ref a] ∧ RowsAt H a ls ∧ ls.length ≤ 1000 ∧ ∀ H', Same H H' → Q (.bl true) H'
def spCkNames : Sp := fun vs H Q _ => ∃ a ls, vs = [.ref a] ∧ RowsAt H a ls ∧ LnsOk ls ∧ ∀ H', Same H H' → Q .non H'
section
variable {P : Program} {w : World} {K : PySem.W.Frag} {mg : Str → Option Value} {base : Heap}
end
end K1

namespace K1
open PySem PySem.Spec PyProof.Rows L2 Own
/-! ### what is above a kind -/
def grow (o : List Str) (x : Str) : List Str := if x ∈ o then o else o ++ [x]
theorem grow_mem {o : List Str} {x y : Str} : y ∈ grow o x ↔ y ∈ o ∨ y = x := by
  unfold grow
  split
  · rename_i h
    exact ⟨.inl, fun q => q.elim id fun e => by rw [e]; exact h⟩
  · simp
theorem grow_nd {o : List Str} {x : Str} (h : o.Nodup) : (grow o x).Nodup := by
  unfold grow
  split
  · exact h
  · rename_i n
    exact List.nodup_append.mpr ⟨h, List.nodup_cons.mpr ⟨List.not_mem_nil, List.nodup_nil⟩, fun a ha b hb => by
      rw [List.mem_singleton.mp hb]
      exact fun e => n (e ▸ ha)⟩
theorem grow_len (o : List Str) (x : Str) : (grow o x).length ≤ o.length + 1 := by
  unfold grow
  split
  · omega
  · rw [List.length_append, List.length_singleton]
    omega
abbrev Tb := List (Str × List Str)
def look (T : Tb) (n : Str) : List Str := (T.lookup n).getD []
theorem look_at : ∀ {T : Tb} {j : Nat} {n : Str} {y : List Str}, (T.map (·.1)).Nodup → T[j]? = some (n, y) → look T n = y
  | [], _, _, _, _, h => by simp at h
  | (m, z) :: r, 0, n, y, _, h => by
    have e := Option.some.inj h
    cases e
    unfold look
    rw [List.lookup_cons, beq_self_eq_true]
    rfl
  | (m, z) :: r, j + 1, n, y, nd, h => by
    have h' : r[j]? = some (n, y) := by simpa using h
    obtain ⟨n1, n2⟩ := List.nodup_cons.mp (show (m :: r.map (·.1)).Nodup from nd)
    have ne : ¬ n = m := fun e => n1 (by
      rw [← e]
      exact List.mem_map.mpr ⟨(n, y), List.mem_of_getElem? h', rfl⟩)
    have ih := look_at n2 h'
    unfold look at ih ⊢
    rw [List.lookup_cons, beq_eq_false_iff_ne.mpr ne]
    exact ih
/-- y is what is above the kind of this row, given what is above its bases -/
def UpsIs (F : Str → List Str) (l : Ln) (y : List Str) : Prop := y.Nodup ∧ ∀ x, x ∈ y ↔ x = l.1 ∨ ∃ b ∈ l.2, x ∈ F b
structure Tab (S : List Str → Prop) (ls : List Ln) (T : Tb) : Prop where
  len : T.length = ls.length
  row : ∀ (i : Nat) l, ls[i]? = some l → ∃ y, T[i]? = some (l.1, y) ∧ S y ∧ UpsIs (look (T.take i)) l y
theorem Tab.nms {S : List Str → Prop} {ls : List Ln} {T : Tb} (h : Tab S ls T) : T.map (·.1) = nms ls := by
  refine List.ext_getElem? fun i => ?_
  rw [List.getElem?_map, List.getElem?_map]
  cases e : ls[i]? with
  | none =>
    have q := List.getElem?_eq_none_iff.mp e
    rw [List.getElem?_eq_none_iff.mpr (by rw [h.len]; exact q)] <;> rfl
  | some l =>
    obtain ⟨y, hy, _⟩ := h.row i l e
    rw [hy]
    rfl
theorem Tab.nil {S : List Str → Prop} : Tab S [] [] := ⟨rfl, fun i l h => by simp at h⟩
theorem Tab.snoc {S : List Str → Prop} {ls : List Ln} {T : Tb} {l : Ln} {y : List Str} (h : Tab S ls T) (u : UpsIs (look T) l y) (s : S y) : Tab S (ls ++ [l]) (T ++ [(l.1, y)]) := by
  refine ⟨by rw [List.length_append, List.length_append, h.len]; rfl, fun i k hk => ?_⟩
  by_cases hi : i < ls.length
  · rw [List.getElem?_append_left hi] at hk
    obtain ⟨z, h1, h2, h3⟩ := h.row i k hk
    have hT : i < T.length := by rw [h.len]; exact hi
    refine ⟨z, by rw [List.getElem?_append_left hT]; exact h1, h2, ?_⟩
    rw [List.take_append_of_le_length (Nat.le_of_lt hT)]
    exact h3
  · have e : i = ls.length := by
      have q := (List.getElem?_eq_some_iff.mp hk).1
      rw [List.length_append, List.length_singleton] at q
      omega
    subst e
    rw [List.getElem?_append_right (Nat.le_refl _), Nat.sub_self] at hk
    have ek : l = k := Option.some.inj hk
    subst ek
    refine ⟨y, ?_, s, ?_⟩
    · rw [← h.len, List.getElem?_append_right (Nat.le_refl _), Nat.sub_self]
      rfl
    · rw [← h.len, List.take_append_of_le_length (Nat.le_refl _), List.take_length]
      exact u
theorem take_nodup {α : Type} {l : List α} (h : l.Nodup) (i : Nat) : (l.take i).Nodup := h.sublist (List.take_sublist _ _)
theorem mem_take {ls : List Ln} {i : Nat} {b : Str} (h : b ∈ nms (ls.take i)) : ∃ j l, j < i ∧ ls[j]? = some l ∧ l.1 = b := by
  obtain ⟨l, hl, e⟩ := List.mem_map.mp h
  obtain ⟨j, hj⟩ := List.mem_iff_getElem?.mp hl
  rw [List.getElem?_take] at hj
  split at hj
  · exact ⟨j, l, by assumption, hj, e⟩
  · cases hj
/-- the same names, the same bases in some order -/
def Alike (ls ls' : List Ln) : Prop := Paired (fun (l l' : Ln) => l.1 = l'.1 ∧ ∀ b, b ∈ l.2 ↔ b ∈ l'.2) ls ls'
theorem Alike.nms : ∀ {ls ls' : List Ln}, Alike ls ls' → nms ls = nms ls'
  | _, _, .nil => rfl
  | x :: xs, y :: ys, .cons a r => by
    have e : K1.nms xs = K1.nms ys := Alike.nms r
    show x.1 :: K1.nms xs = y.1 :: K1.nms ys
    rw [a.1, e]
theorem tab_alike {S S' : List Str → Prop} {ls ls' : List Ln} {T T' : Tb} (ok : LnsOk ls) (a : Alike ls ls') (h : Tab S ls T) (h' : Tab S' ls' T') :
    ∀ (i : Nat) (n n' : Str) (y y' : List Str), T[i]? = some (n, y) → T'[i]? = some (n', y') → n = n' ∧ ∀ x, x ∈ y ↔ x ∈ y' := by
  have ndT : (T.map (·.1)).Nodup := by rw [h.nms]; exact ok.nd
  have ndT' : (T'.map (·.1)).Nodup := by rw [h'.nms, ← a.nms]; exact ok.nd
  intro i
  induction i using Nat.strongRecOn with
  | ind i ih =>
    intro n n' y y' hy hy'
    have hi : i < ls.length := by
      rw [← h.len]
      exact (List.getElem?_eq_some_iff.mp hy).1
    obtain ⟨l', hl', e1, e2⟩ := paired_at a (List.getElem?_eq_getElem hi)
    obtain ⟨z, hz, _, _, uz⟩ := h.row i _ (List.getElem?_eq_getElem hi)
    obtain ⟨z', hz', _, _, uz'⟩ := h'.row i _ hl'
    rw [hy] at hz
    rw [hy'] at hz'
    cases hz
    cases hz'
    refine ⟨e1, fun x => ?_⟩
    have each : ∀ b ∈ (ls[i]).2, ∀ x, x ∈ look (T.take i) b ↔ x ∈ look (T'.take i) b := fun b hb x => by
      obtain ⟨j, k, hj, hk, ek⟩ := mem_take ((ok.base i _ (List.getElem?_eq_getElem hi)).2.1 b hb)
      subst ek
      obtain ⟨k', hk', f1, f2⟩ := paired_at a hk
      obtain ⟨u, hu, _, _⟩ := h.row j k hk
      obtain ⟨u', hu', _, _⟩ := h'.row j k' hk'
      have q := (ih j hj _ _ _ _ hu hu').2 x
      have g : (T.take i)[j]? = some (k.1, u) := by rw [List.getElem?_take_of_lt hj]; exact hu
      have g' : (T'.take i)[j]? = some (k.1, u') := by rw [List.getElem?_take_of_lt hj, f1]; exact hu'
      rw [look_at (by rw [List.map_take]; exact take_nodup ndT i) g, look_at (by rw [List.map_take]; exact take_nodup ndT' i) g']
      exact q
    rw [uz x, uz' x, e1]
    constructor
    · rintro (q | ⟨b, hb, q⟩)
      · exact .inl q
      · exact .inr ⟨b, (e2 b).mp hb, (each b hb x).mp q⟩
    · rintro (q | ⟨b, hb, q⟩)
      · exact .inl q
      · have hb' := (e2 b).mpr hb
        exact .inr ⟨b, hb', (each b hb' x).mpr q⟩
end K1

namespace K1
open PySem PySem.Spec PyProof.Rows L2 Own
def spAreBases : Sp := fun vs H Q _ => ∃ (b p : Addr) (bs ns : List Str), vs = [.ref b, .ref p] ∧ SeqOf H b (bs.map V.str) ∧ H p = some (.lst (ns.map V.str)) ∧ bs.Nodup ∧ (∀ x ∈ bs, x ∈ ns) ∧ bs.length ≤ 7 ∧ ∀ H', Same H H' → Q (.bl true) H'
theorem seq_keep {H H' : Hp} {a : Addr} {xs : List V} (h : SeqOf H a xs) (s : Same H H') : ∀ o, H a = some o → H' a = some o := fun o e => s _ _ e
theorem nd_not {ss : List Str} {i : Nat} {x : Str} (nd : ss.Nodup) (h : ss[i]? = some x) : x ∉ ss.take i := by
  intro hm
  obtain ⟨j, hj⟩ := List.mem_iff_getElem?.mp hm
  rw [List.getElem?_take] at hj
  split at hj
  · have := nd_ix nd hj h
    omega
  · cases hj
theorem same_past {H H' : Hp} {p : Addr} {o : HO} (np : H p = none) (s : Same H H') : Same H (upd H' p o) := fun b x e => by
  rw [upd_ne (ne_of_none e np)]
  exact s _ _ e
section
variable {P : Program} {w : World} {K : PySem.W.Frag} {mg : Str → Option Value} {base : Heap}
end
end K1

namespace K1
open PySem PySem.Spec PyProof.Rows L2 Own
/-! ### a dict of lists of names -/
def EntAt (N : Addr → Prop) (H : Hp) (kv : Key × V) (t : Str × List Str) : Prop := kv.1 = Sum.inr t.1 ∧ ∃ p, N p ∧ kv.2 = .ref p ∧ H p = some (.lst (t.2.map V.str))
def DictAt (N : Addr → Prop) (H : Hp) (d : Addr) (T : Tb) : Prop := N d ∧ ∃ kvs, H d = some (.dK kvs) ∧ Paired (EntAt N H) kvs T
theorem DictAt.same {N : Addr → Prop} {H H' : Hp} {d : Addr} {T : Tb} (s : Same H H') (h : DictAt N H d T) : DictAt N H' d T := by
  obtain ⟨n, kvs, e, p⟩ := h
  exact ⟨n, kvs, s _ _ e, paired_imp (fun _ _ ⟨a, q, b, c, z⟩ => ⟨a, q, b, c, s _ _ z⟩) p⟩
theorem ent_get {N : Addr → Prop} {H : Hp} {n : Str} {y : List Str} : ∀ {kvs : List (Key × V)} {T : Tb}, Paired (EntAt N H) kvs T → T.lookup n = some y → ∃ q, N q ∧ valV kvs (Sum.inr n) = some (.ref q) ∧ H q = some (.lst (y.map V.str))
  | _, _, .nil, h => by simp at h
  | kv :: kvs, t :: T, .cons a r, h => by
    obtain ⟨e, q, nq, ev, hq⟩ := a
    rw [show t = (t.1, t.2) from rfl, List.lookup_cons] at h
    by_cases c : n = t.1
    · rw [beq_iff_eq.mpr c] at h
      have h' : t.2 = y := Option.some.inj h
      exact ⟨q, nq, by rw [valV_pos (by rw [e, c]), ev], by rw [← h']; exact hq⟩
    · rw [beq_eq_false_iff_ne.mpr c] at h
      obtain ⟨q', n', e', h'⟩ := ent_get r h
      exact ⟨q', n', by rw [valV_neg (by rw [e]; exact fun z => c (Sum.inr.inj z).symm), e'], h'⟩
theorem ent_none {N : Addr → Prop} {H : Hp} {n : Str} : ∀ {kvs : List (Key × V)} {T : Tb}, Paired (EntAt N H) kvs T → n ∉ T.map (·.1) → valV kvs (Sum.inr n) = none
  | _, _, .nil, h => rfl
  | kv :: kvs, t :: T, .cons a r, h => by
    obtain ⟨e, _⟩ := a
    have h1 : ¬ n = t.1 ∧ n ∉ T.map (·.1) := by simpa using h
    rw [valV_neg (by rw [e]; exact fun z => h1.1 (Sum.inr.inj z).symm)]
    exact ent_none r h1.2
theorem look_in : ∀ {T : Tb} {n : Str}, n ∈ T.map (·.1) → T.lookup n = some (look T n)
  | [], _, h => by simp at h
  | (m, z) :: r, n, h => by
    unfold look
    rw [List.lookup_cons]
    by_cases c : n = m
    · rw [beq_iff_eq.mpr c]
      rfl
    · rw [beq_eq_false_iff_ne.mpr c]
      have h' : n ∈ r.map (·.1) := by
        rcases List.mem_cons.mp (show n ∈ m :: r.map (·.1) from h) with e | e
        · exact absurd e c
        · exact e
      have ih := look_in h'
      show r.lookup n = some ((r.lookup n).getD [])
      rw [ih]
      rfl
/-- the keys of a dict of Trues -/
def keysOf (o : List Str) : List (Key × V) := o.map fun x => (Sum.inr x, V.bl true)
theorem keysOf_keys (o : List Str) : (keysOf o).map (·.1) = o.map Sum.inr := by
  unfold keysOf
  rw [List.map_map]
  rfl
theorem keysOf_any (o : List Str) (x : Str) : ((keysOf o).any fun kv => decide (kv.1 = Sum.inr x)) = decide (x ∈ o) := by
  unfold keysOf
  rw [List.any_map, Bool.eq_iff_iff, List.any_eq_true]
  simp only [Function.comp, decide_eq_true_eq]
  exact ⟨fun ⟨y, hy, e⟩ => by rw [← Sum.inr.inj e]; exact hy, fun h => ⟨x, h, rfl⟩⟩
theorem put_keys (o : List Str) (x : Str) : putK (keysOf o) (Sum.inr x) (.bl true) = keysOf (grow o x) := by
  unfold putK grow
  rw [keysOf_any]
  by_cases h : x ∈ o
  · rw [if_pos (decide_eq_true h), if_pos h]
    unfold keysOf
    rw [List.map_map]
    refine List.map_congr_left fun y _ => ?_
    simp only [Function.comp]
    split <;> rfl
  · rw [if_neg (by rw [decide_eq_false h]; decide), if_neg h]
    unfold keysOf
    rw [List.map_append]
    rfl
theorem grows_mem : ∀ {ys o : List Str} {x : Str}, x ∈ ys.foldl grow o ↔ x ∈ o ∨ x ∈ ys
  | [], o, x => by simp
  | y :: r, o, x => by
    rw [List.foldl_cons, grows_mem, grow_mem, List.mem_cons]
    exact ⟨fun h => h.elim (fun h => h.elim .inl fun e => .inr (.inl e)) fun h => .inr (.inr h), fun h => h.elim (fun h => .inl (.inl h)) fun h => h.elim (fun e => .inl (.inr e)) .inr⟩
theorem grows_nd : ∀ {ys o : List Str}, o.Nodup → (ys.foldl grow o).Nodup
  | [], _, h => h
  | _ :: r, _, h => grows_nd (ys := r) (grow_nd h)
theorem nd_len : ∀ {xs ys : List Str}, xs.Nodup → (∀ x ∈ xs, x ∈ ys) → xs.length ≤ ys.length
  | [], _, _, _ => Nat.zero_le _
  | x :: r, ys, nd, h => by
    obtain ⟨n1, n2⟩ := List.nodup_cons.mp nd
    have hx := h x (List.mem_cons_self ..)
    have q := nd_len (xs := r) (ys := ys.erase x) n2 fun z hz => (List.mem_erase_of_ne (fun (e : z = x) => n1 (by rw [← e]; exact hz))).mpr (h z (List.mem_cons_of_mem _ hz))
    have l := List.length_erase_of_mem hx
    have l0 : 0 < ys.length := List.length_pos_of_mem hx
    rw [List.length_cons]
    omega
theorem take_sub {ls : List Ln} {i j : Nat} (h : i ≤ j) {x : Str} (hx : x ∈ nms (ls.take i)) : x ∈ nms (ls.take j) := by
  obtain ⟨k, l, hk, hl, e⟩ := mem_take hx
  subst e
  have g : (ls.take j)[k]? = some l := by rw [List.getElem?_take_of_lt (by omega)]; exact hl
  exact List.mem_map.mpr ⟨l, List.mem_of_getElem? g, rfl⟩
theorem tab_sub {S : List Str → Prop} {ls : List Ln} {T : Tb} (ok : LnsOk ls) (h : Tab S ls T) : ∀ (i : Nat) (n : Str) (y : List Str), T[i]? = some (n, y) → ∀ x ∈ y, x ∈ nms (ls.take (i + 1)) := by
  have ndT : (T.map (·.1)).Nodup := by rw [h.nms]; exact ok.nd
  intro i
  induction i using Nat.strongRecOn with
  | ind i ih =>
    intro n y hy x hx
    have hi : i < ls.length := by
      rw [← h.len]
      exact (List.getElem?_eq_some_iff.mp hy).1
    obtain ⟨z, hz, _, _, uz⟩ := h.row i _ (List.getElem?_eq_getElem hi)
    rw [hy] at hz
    cases hz
    rcases (uz x).mp hx with e | ⟨b, hb, q⟩
    · have g : (ls.take (i + 1))[i]? = some ls[i] := by rw [List.getElem?_take_of_lt (Nat.lt_succ_self _)]; exact List.getElem?_eq_getElem hi
      exact List.mem_map.mpr ⟨_, List.mem_of_getElem? g, e.symm⟩
    · obtain ⟨j, k, hj, hk, ek⟩ := mem_take ((ok.base i _ (List.getElem?_eq_getElem hi)).2.1 b hb)
      subst ek
      obtain ⟨u, hu, _, _⟩ := h.row j k hk
      have g : (T.take i)[j]? = some (k.1, u) := by rw [List.getElem?_take_of_lt hj]; exact hu
      rw [look_at (by rw [List.map_take]; exact take_nodup ndT i) g] at q
      exact take_sub (by omega) (ih j hj _ _ hu x q)
theorem look_sub {S : List Str → Prop} {ls : List Ln} {T : Tb} (ok : LnsOk ls) (h : Tab S ls T) {n x : Str} (hx : x ∈ look T n) : x ∈ nms ls := by
  by_cases c : n ∈ T.map (·.1)
  · have e := look_in c
    generalize look T n = y at e hx
    obtain ⟨l1, l2, e2, _⟩ := List.lookup_eq_some_iff.mp e
    have g : T[l1.length]? = some (n, y) := by rw [e2, List.getElem?_append_right (Nat.le_refl _), Nat.sub_self]; rfl
    have q := tab_sub ok h _ _ _ g x hx
    exact take_sub (ls := ls) (j := ls.length + (l1.length + 1)) (by omega) q |> fun z => by rwa [List.take_of_length_le (by omega)] at z
  · have e : T.lookup n = none := by
      cases e : T.lookup n with
      | none => rfl
      | some y =>
        obtain ⟨l1, l2, e2, _⟩ := List.lookup_eq_some_iff.mp e
        exact absurd (by rw [e2]; simp) c
    unfold look at hx
    rw [e] at hx
    exact nomatch hx
theorem look_nd {S : List Str → Prop} {ls : List Ln} {T : Tb} (h : Tab S ls T) (n : Str) : (look T n).Nodup := by
  cases e : T.lookup n with
  | none =>
    unfold look
    rw [e]
    exact List.nodup_nil
  | some y =>
    obtain ⟨l1, l2, e2, _⟩ := List.lookup_eq_some_iff.mp e
    have g : T[l1.length]? = some (n, y) := by rw [e2, List.getElem?_append_right (Nat.le_refl _), Nat.sub_self]; rfl
    have hi : l1.length < ls.length := by
      rw [← h.len]
      exact (List.getElem?_eq_some_iff.mp g).1
    obtain ⟨z, hz, _, u, _⟩ := h.row _ _ (List.getElem?_eq_getElem hi)
    rw [g] at hz
    cases hz
    unfold look
    rw [e]
    exact u
theorem look_len {S : List Str → Prop} {ls : List Ln} {T : Tb} (ok : LnsOk ls) (h : Tab S ls T) (n : Str) : (look T n).length ≤ 7 := by
  have q := nd_len (look_nd h n) fun x hx => look_sub ok h hx
  rw [List.length_map] at q
  have := ok.few
  omega
theorem grows_len : ∀ (ys o : List Str), (ys.foldl grow o).length ≤ o.length + ys.length
  | [], o => Nat.le_refl _
  | y :: r, o => by
    have a := grows_len r (grow o y)
    have b := grow_len o y
    rw [List.foldl_cons, List.length_cons]
    omega
theorem LnsOk.take {ls : List Ln} (ok : LnsOk ls) (i : Nat) : LnsOk (ls.take i) := by
  refine ⟨fun l hl => ok.names l (List.mem_of_mem_take hl), ?_, ?_, fun j l hl => ?_⟩
  · have e : nms (ls.take i) = (nms ls).take i := List.map_take ..
    rw [e]
    exact take_nodup ok.nd i
  · have := ok.few
    rw [List.length_take]
    omega
  · rw [List.getElem?_take] at hl
    split at hl
    · obtain ⟨a, b, c⟩ := ok.base j l hl
      refine ⟨a, fun x hx => ?_, c⟩
      rw [List.take_take, Nat.min_eq_left (Nat.le_of_lt (by assumption))]
      exact b x hx
    · cases hl
end K1

namespace K1
open PySem PySem.Spec PyProof.Rows L2 Own
abbrev Srt (y : List Str) : Prop := sortedS y = true
def spAllAbove : Sp := fun vs H Q _ => ∃ r ls, vs = [.ref r] ∧ RowsAt H r ls ∧ LnsOk ls ∧ ∀ H' d T, Same H H' → DictAt (fun p => H p = none) H' d T → Tab Srt ls T → Q (.ref d) H'
theorem seqs_keep {H H' : Hp} {a : Addr} {xs : List V} (h : SeqOf H a xs) {H0 : Hp} (s0 : Same H H0) (s : Same H H') : ∀ o, H0 a = some o → H' a = some o := fun o e => by
  rcases h with e' | e'
  · rw [s0 _ _ e'] at e
    rw [← e]
    exact s _ _ e'
  · rw [s0 _ _ e'] at e
    rw [← e]
    exact s _ _ e'
theorem merge_one (n : Str) (v : V) : mergeK [] [((Sum.inr n : Key), v)] = [((Sum.inr n : Key), v)] := rfl
theorem small_of {S : List Str → Prop} {ls : List Ln} {i : Nat} {l : Ln} {T : Tb} {o : List Str} (ok : LnsOk ls) (hl : ls[i]? = some l) (tab : Tab S (ls.take i) T) (no : o.Nodup) (h : ∀ x ∈ o, x = l.1 ∨ ∃ c, x ∈ look T c) : o.length ≤ 7 := by
  have q := nd_len (ys := nms ls) no fun x hx => by
    rcases h x hx with e | ⟨c, hc⟩
    · exact List.mem_map.mpr ⟨l, List.mem_of_getElem? hl, e.symm⟩
    · have z := look_sub (ok.take i) tab hc
      obtain ⟨m, hm, e⟩ := List.mem_map.mp z
      exact List.mem_map.mpr ⟨m, List.mem_of_mem_take hm, e⟩
  rw [List.length_map] at q
  have := ok.few
  omega
section
variable {P : Program} {w : World} {K : PySem.W.Frag} {mg : Str → Option Value} {base : Heap}
end
end K1

namespace K1
open PySem PySem.Spec PyProof.Rows L2 Own
/-! ### a table of kinds -/
theorem ra : ¬ (("_rows" : Str) = "_above") := by decide +kernel
theorem ar : ¬ (("_above" : Str) = "_rows") := by decide +kernel
def kf (r d : Addr) : List (Str × V) := [(("_rows" : Str), V.ref r), (("_above" : Str), V.ref d)]
theorem kf_rows (r d : Addr) : (kf r d).lookup ("_rows" : Str) = some (.ref r) := by
  unfold kf
  rw [List.lookup_cons, beq_self_eq_true]
theorem kf_above (r d : Addr) : (kf r d).lookup ("_above" : Str) = some (.ref d) := by
  unfold kf
  rw [List.lookup_cons, beq_eq_false_iff_ne.mpr ar, List.lookup_cons, beq_self_eq_true]
theorem kf_no (r d : Addr) {m : Str} (h1 : ¬ m = "_rows") (h2 : ¬ m = "_above") : (kf r d).lookup m = none := by
  unfold kf
  rw [List.lookup_cons, beq_eq_false_iff_ne.mpr h1, List.lookup_cons, beq_eq_false_iff_ne.mpr h2]
  rfl
/-- the fields of an object ahead of _take: none, or those of a table -/
def FsOk (fs : List (Str × V)) : Prop := fs = [] ∨ ∃ r d, fs = kf r d
theorem put_rows {fs : List (Str × V)} (h : FsOk fs) (r : Addr) : (putF "_rows" (.ref r) fs).lookup ("_rows" : Str) = some (.ref r) ∧ (putF "_rows" (.ref r) fs).length < 1000 ∧ ∀ d, putF "_above" (.ref d) (putF "_rows" (.ref r) fs) = kf r d := by
  refine ⟨by rw [lookup_putF, if_pos rfl], ?_, fun d => ?_⟩
  · have q := length_putF ("_rows" : Str) (.ref r) fs
    rcases h with e | ⟨r0, d0, e⟩
    · rw [e] at q ⊢
      exact Nat.lt_of_le_of_lt q (by decide)
    · rw [e] at q ⊢
      exact Nat.lt_of_le_of_lt q (by show 3 < 1000; decide)
  · rcases h with e | ⟨r0, d0, e⟩
    · subst e
      show (if ("_rows" : Str) = "_above" then [(("_rows" : Str), V.ref d)] else (("_rows" : Str), V.ref r) :: putF "_above" (V.ref d) []) = _
      rw [if_neg ra]
      rfl
    · subst e
      have e1 : putF "_rows" (.ref r) (kf r0 d0) = kf r d0 := by
        show (if ("_rows" : Str) = "_rows" then (("_rows" : Str), V.ref r) :: [(("_above" : Str), V.ref d0)] else _) = _
        rw [if_pos rfl]
        rfl
      rw [e1]
      show (if ("_rows" : Str) = "_above" then _ else (("_rows" : Str), V.ref r) :: (if ("_above" : Str) = "_above" then [(("_above" : Str), V.ref d)] else _)) = _
      rw [if_neg ra, if_pos rfl]
      rfl
theorem fs_limit {fs : List (Str × V)} (h : FsOk fs) : fs.lookup ("LIMIT" : Str) = none ∧ fs.length < 1000 := by
  rcases h with e | ⟨r, d, e⟩
  · subst e
    exact ⟨rfl, by decide⟩
  · subst e
    exact ⟨kf_no _ _ (by decide +kernel) (by decide +kernel), by show 2 < 1000; decide⟩
def RowIn (N : Addr → Prop) (H : Hp) (v : V) (l : Ln) : Prop := ∃ t b, v = .ref t ∧ N t ∧ N b ∧ H t = some (.tup [.str l.1, .ref b]) ∧ H b = some (.lst (l.2.map V.str))
theorem RowIn.row {N : Addr → Prop} {H : Hp} {v : V} {l : Ln} (h : RowIn N H v l) : RowAt H v l := by
  obtain ⟨t, b, e, _, _, h1, h2⟩ := h
  exact ⟨t, b, e, h1, .inl h2⟩
/-- the same rows with their bases in order -/
def SrtRel (l l' : Ln) : Prop := l.1 = l'.1 ∧ l'.2.Perm l.2 ∧ sortedS l'.2 = true
def SrtOf (ls ls' : List Ln) : Prop := Paired SrtRel ls ls'
theorem SrtOf.alike {ls ls' : List Ln} (h : SrtOf ls ls') : Alike ls ls' := paired_imp (fun _ _ a => ⟨a.1, fun b => (a.2.1.mem_iff (a := b)).symm⟩) h
theorem SrtOf.ok {ls ls' : List Ln} (h : SrtOf ls ls') (ok : LnsOk ls) : LnsOk ls' := by
  have en := h.alike.nms
  refine ⟨fun l' hl' => ?_, by rw [← en]; exact ok.nd, by rw [← paired_len h]; exact ok.few, fun i l' hl' => ?_⟩
  · obtain ⟨i, hi⟩ := List.mem_iff_getElem?.mp hl'
    obtain ⟨l, hl, a⟩ := paired_at' h hi
    rw [← a.1]
    exact ok.names l (List.mem_of_getElem? hl)
  · obtain ⟨l, hl, a1, a2, a3⟩ := paired_at' h hl'
    obtain ⟨b1, b2, b3⟩ := ok.base i l hl
    refine ⟨a2.nodup_iff.mpr b1, fun b hb => ?_, by rw [a2.length_eq]; exact b3⟩
    have q := b2 b (a2.mem_iff.mp hb)
    rw [show nms (ls'.take i) = (nms ls').take i from List.map_take .., ← en, ← List.map_take]
    exact q
theorem SrtOf.one {ls l1 l2 : List Ln} (h1 : SrtOf ls l1) (h2 : SrtOf ls l2) : l1 = l2 := by
  refine List.ext_getElem? fun i => ?_
  cases e : l1[i]? with
  | none =>
    have q := List.getElem?_eq_none_iff.mp e
    rw [List.getElem?_eq_none_iff.mpr (by rw [← paired_len h2, paired_len h1]; exact q)]
  | some a =>
    obtain ⟨l, hl, a1, a2, a3⟩ := paired_at' h1 e
    obtain ⟨b, hb, b1, b2, b3⟩ := paired_at h2 hl
    have e2 : a.2 = b.2 := sorted_one (a2.trans b2.symm) a3 b3
    have e3 : a = b := by
      cases a
      cases b
      simp only at e2 a1 b1
      rw [e2, ← a1, ← b1]
    rw [hb, e3]
def KObj (N : Addr → Prop) (C : Addr) (H : Hp) (x dx : Addr) (ls : List Ln) : Prop :=
  ∃ r d ls' T rs, H x = some (.ins C dx (kf r d)) ∧ N r ∧ H r = some (.lst rs) ∧ Paired (RowIn N H) rs ls' ∧ SrtOf ls ls' ∧ DictAt N H d T ∧ Tab Srt ls' T
theorem KObj.keep {N : Addr → Prop} {C : Addr} {H H' : Hp} {x dx : Addr} {ls : List Ln} (h : KObj N C H x dx ls) (k : ∀ a o, N a ∨ a = x → H a = some o → H' a = some o) : KObj N C H' x dx ls := by
  obtain ⟨r, d, ls', T, rs, hx, nr, hr, pr, so, ⟨nd, kvs, hd, pk⟩, tab⟩ := h
  refine ⟨r, d, ls', T, rs, k _ _ (.inr rfl) hx, nr, k _ _ (.inl nr) hr, paired_imp (fun _ _ ⟨t, b, e, nt, nb, h1, h2⟩ => ⟨t, b, e, nt, nb, k _ _ (.inl nt) h1, k _ _ (.inl nb) h2⟩) pr, so, ⟨nd, kvs, k _ _ (.inl nd) hd, ?_⟩, tab⟩
  exact paired_imp (fun _ _ ⟨a, q, nq, c, z⟩ => ⟨a, q, nq, c, k _ _ (.inl nq) z⟩) pk
theorem KObj.mono {N N' : Addr → Prop} {C : Addr} {H : Hp} {x dx : Addr} {ls : List Ln} (h : KObj N C H x dx ls) (k : ∀ a, N a → N' a) : KObj N' C H x dx ls := by
  obtain ⟨r, d, ls', T, rs, hx, nr, hr, pr, so, ⟨nd, kvs, hd, pk⟩, tab⟩ := h
  exact ⟨r, d, ls', T, rs, hx, k _ nr, hr, paired_imp (fun _ _ ⟨t, b, e, nt, nb, h1, h2⟩ => ⟨t, b, e, k _ nt, k _ nb, h1, h2⟩) pr, so, ⟨k _ nd, kvs, hd, paired_imp (fun _ _ ⟨a, q, nq, c, z⟩ => ⟨a, q, k _ nq, c, z⟩) pk⟩, tab⟩
/-- a table at x, its parts among N -/
def KAt (N : Addr → Prop) (C : Addr) (H : Hp) (x : Addr) (ls : List Ln) : Prop := N x ∧ ∃ dx, KObj N C H x dx ls
theorem KAt.same {N : Addr → Prop} {C : Addr} {H H' : Hp} {x : Addr} {ls : List Ln} (h : KAt N C H x ls) (k : ∀ a o, N a → H a = some o → H' a = some o) : KAt N C H' x ls := by
  obtain ⟨nx, dx, o⟩ := h
  exact ⟨nx, dx, o.keep fun a u e => k a u (e.elim id fun z => z ▸ nx)⟩
theorem q_seq {t u : TS} {D : Ends} {σ : L2.St} {H : Hp} (h : t { D with nx := u D } σ H) : tSeq t u D σ H := h
theorem q_fld {K : PySem.W.Frag} {ta tv : TE} {f : Str} {D : Ends} {σ : L2.St} {H : Hp} (h : tv σ H fun y H1 => ta σ H1 fun x H2 => ∃ a C dx fs, x = .ref a ∧ H2 a = some (.ins C dx fs) ∧ Cls K C ∧ NoAttr K C f ∧ fs.length < 1000 ∧ D.nx σ (upd H2 a (.ins C dx (putF f y fs)))) : sFld K ta tv f D σ H := h
structure KTxt (K : PySem.W.Frag) (mg : Str → Option Value) (C : Addr) : Prop where
  cl : Cls K C
  nR : NoAttr K C "_rows"
  nA : NoAttr K C "_above"
  lim : ∃ u, Con K C "LIMIT" (.int 7) u
  mgC : mg "Kinds" = some (.ref C)
  len : mg "len" = none
  sorted : mg "sorted" = none
  list : mg "list" = none
def spTake (C : Addr) : Sp := fun vs H Q _ => ∃ x a dx fs ls, vs = [.ref x, .ref a] ∧ H x = some (.ins C dx fs) ∧ FsOk fs ∧ RowsAt H a ls ∧ LnsOk ls ∧ ∀ H', (∀ b o, b ≠ x → H b = some o → H' b = some o) → KObj (fun p => H p = none) C H' x dx ls → Q .non H'
section
variable {P : Program} {w : World} {K : PySem.W.Frag} {mg : Str → Option Value} {base : Heap}
end
end K1

namespace K1
open PySem PySem.Spec PyProof.Rows L2 Own
/-! ### making tables -/
def k4 : List Str := ["io", "net", "disk", "both"]
def k6 : List Str := ["rows", "kinds", "name", "names", "of", "tree"]
def k1a : List Str := ["a"]
def BasAt (H : Hp) (v : V) (l : Ln) : Prop := ∃ b, v = .ref b ∧ SeqOf H b (l.2.map V.str)
def spInit (C : Addr) : SpK := fun x ks vs H Q => ∃ dx ls, H x = some (.ins C dx []) ∧ nms ls = ks ∧ Paired (BasAt H) vs ls ∧ LnsOk ls ∧ (ks = [] ∨ ks = k4 ∨ ks = k6 ∨ ks = k1a) ∧ ∀ H', (∀ b o, b ≠ x → H b = some o → H' b = some o) → KObj (fun p => H p = none) C H' x dx ls → Q .non H'
theorem rows_of {H' : Hp} : ∀ {ts : List Addr} {vs : List V} {ls : List Ln}, Paired (fun (t : Addr) (q : Key × V) => H' t = some (.tup [kV q.1, q.2])) ts (keyed ((nms ls).zip vs)) → Paired (BasAt H') vs ls → Paired (RowAt H') (ts.map V.ref) ls
  | [], _, [], _, _ => .nil
  | [], _, _ :: _, p, .cons _ _ => nomatch p
  | _ :: _, _, [], p, .nil => nomatch p
  | t :: ts, v :: vs, l :: ls, .cons a r, .cons ⟨b, e, hb⟩ s => .cons ⟨t, b, rfl, by rw [← e]; exact a, hb⟩ (rows_of r s)
def spOf (C : Addr) : Sp := fun vs H Q _ => ∃ a ls, vs = [.ref C, .ref a] ∧ RowsAt H a ls ∧ LnsOk ls ∧ ∀ H' x, Same H H' → KAt (fun p => H p = none) C H' x ls → Q (.ref x) H'
theorem lnsOk_nil : LnsOk [] := ⟨fun _ h => (nomatch h), List.nodup_nil, Nat.zero_le _, fun i l h => by simp at h⟩
section
variable {P : Program} {w : World} {K : PySem.W.Frag} {mg : Str → Option Value} {base : Heap}
end
end K1

namespace K1
open PySem PySem.Spec PyProof.Rows L2 Own
/-! ### reading tables -/
def reprOf (ns : List Str) : Str := (("Kinds(" : Str) ++ Txt.join ", " ns) ++ (")" : Str)
/-- what stands in a table's object -/
structure KIn (C : Addr) (H : Hp) (x : Addr) (ls ls' : List Ln) (T : Tb) : Prop where
  ex : ∃ dx r d rs kvs, H x = some (.ins C dx (kf r d)) ∧ H r = some (.lst rs) ∧ Paired (RowIn (fun _ => True) H) rs ls' ∧ H d = some (.dK kvs) ∧ Paired (EntAt (fun _ => True) H) kvs T
  srt : SrtOf ls ls'
  tab : Tab Srt ls' T
theorem KAt.kin {N : Addr → Prop} {C : Addr} {H : Hp} {x : Addr} {ls : List Ln} (h : KAt N C H x ls) : ∃ ls' T, KIn C H x ls ls' T := by
  obtain ⟨_, dx, r, d, ls', T, rs, hx, _, hr, pr, so, ⟨_, kvs, hd, pk⟩, tab⟩ := h
  exact ⟨ls', T, ⟨dx, r, d, rs, kvs, hx, hr, paired_imp (fun _ _ ⟨t, b, e, _, _, h1, h2⟩ => ⟨t, b, e, trivial, trivial, h1, h2⟩) pr, hd, paired_imp (fun _ _ ⟨a, q, _, c, z⟩ => ⟨a, q, trivial, c, z⟩) pk⟩, so, tab⟩
theorem KIn.same {C : Addr} {H H' : Hp} {x : Addr} {ls ls' : List Ln} {T : Tb} (h : KIn C H x ls ls' T) (s : Same H H') : KIn C H' x ls ls' T := by
  obtain ⟨⟨dx, r, d, rs, kvs, hx, hr, pr, hd, pk⟩, so, tab⟩ := h
  exact ⟨⟨dx, r, d, rs, kvs, s _ _ hx, s _ _ hr, paired_imp (fun _ _ ⟨t, b, e, _, _, h1, h2⟩ => ⟨t, b, e, trivial, trivial, s _ _ h1, s _ _ h2⟩) pr, s _ _ hd, paired_imp (fun _ _ ⟨a, q, _, c, z⟩ => ⟨a, q, trivial, c, s _ _ z⟩) pk⟩, so, tab⟩
theorem srt_len {ls ls' : List Ln} (h : SrtOf ls ls') : ls.length = ls'.length := paired_len h
def spOrder (C : Addr) : Sp := fun vs H Q _ => ∃ x ls ls' T, vs = [.ref x] ∧ KIn C H x ls ls' T ∧ ls.length ≤ 1000 ∧ ∀ H' p, Same H H' → H p = none → H' p = some (.lst ((nms ls).map V.str)) → Q (.ref p) H'
def spLen (C : Addr) : Sp := fun vs H Q _ => ∃ x ls ls' T, vs = [.ref x] ∧ KIn C H x ls ls' T ∧ Q (.int ls.length) H
def spIn (C : Addr) (K : PySem.W.Frag) : Sp := fun vs H Q _ => ∃ x v ls ls' T, vs = [.ref x, v] ∧ KIn C H x ls ls' T ∧ ((∃ z, v = .str z ∧ Q (.bl (decide (z ∈ nms ls))) H) ∨ (∃ t, TyX K H v t ∧ PySem.W.kitOne K t (.type "str") = some false ∧ Q (.bl false) H))
theorem ent_has {N : Addr → Prop} {H : Hp} {n : Str} {kvs : List (Key × V)} {T : Tb} (p : Paired (EntAt N H) kvs T) : (valV kvs (Sum.inr n)).isSome = decide (n ∈ T.map (·.1)) := by
  by_cases h : n ∈ T.map (·.1)
  · obtain ⟨q, _, e, _⟩ := ent_get p (look_in h)
    rw [e, decide_eq_true h]
    rfl
  · rw [ent_none p h, decide_eq_false h]
    rfl
theorem KIn.names {C : Addr} {H : Hp} {x : Addr} {ls ls' : List Ln} {T : Tb} (h : KIn C H x ls ls' T) : T.map (·.1) = nms ls := by
  rw [h.tab.nms, ← h.srt.alike.nms]
section
variable {P : Program} {w : World} {K : PySem.W.Frag} {mg : Str → Option Value} {base : Heap}
end
end K1

namespace K1
open PySem PySem.Spec PyProof.Rows L2 Own
def spBelow (C : Addr) : Sp := fun vs H Q _ => ∃ x n ls ls' T, vs = [.ref x, .str n] ∧ KIn C H x ls ls' T ∧ LnsOk ls ∧ n ∈ nms ls ∧ ∀ H' p ys, Same H H' → ys.Perm ((nms ls).filter fun m => decide (n ∈ look T m)) → Srt ys → H p = none → H' p = some (.lst (ys.map V.str)) → Q (.ref p) H'
def spAbove (C : Addr) : Sp := fun vs H Q _ => ∃ x n ls ls' T, vs = [.ref x, .str n] ∧ KIn C H x ls ls' T ∧ n ∈ nms ls ∧ ∀ H' p, Same H H' → H p = none → H' p = some (.lst ((look T n).map V.str)) → Q (.ref p) H'
def spEq (C : Addr) : Sp := fun vs H Q _ => ∃ x y l1 l2 l' T T', vs = [.ref x, .ref y] ∧ KIn C H x l1 l' T ∧ KIn C H y l2 l' T' ∧ LnsOk l1 ∧ Q (.bl true) H
structure Ord (K : PySem.W.Frag) (mg : Str → Option Value) (C : Addr) (p g : Addr) : Prop where
  of : PropOf K C "order" p g
theorem filter_len (f : Str → Bool) (xs : List Str) : (xs.filter f).length ≤ xs.length := List.length_filter_le f xs
section
variable {P : Program} {w : World} {K : PySem.W.Frag} {mg : Str → Option Value} {base : Heap}
end
end K1

namespace K1
open PySem PySem.Spec PyProof.Rows L2 Own
theorem join_le (sep : Str) : ∀ ys : List Str, (Str.join sep ys).length ≤ (ys.map (·.length)).sum + ys.length * sep.length
  | [] => Nat.zero_le _
  | [y] => by
    show y.length ≤ (y.length + 0) + 1 * sep.length
    omega
  | y :: z :: r => by
    have ih := join_le sep (z :: r)
    show (y ++ sep ++ Str.join sep (z :: r)).length ≤ _
    rw [Str.length_append, Str.length_append, List.map_cons, List.sum_cons, List.length_cons, Nat.succ_mul]
    omega
theorem txt_join (sep : Str) (ys : List Str) : Txt.join sep ys = Str.join sep ys := PySem.StrLaws.glued_eq_join sep ys
theorem names_sum : ∀ ns : List Str, (∀ n ∈ ns, n.length ≤ 8) → (ns.map (·.length)).sum ≤ 8 * ns.length
  | [], _ => Nat.le_refl _
  | n :: r, h => by
    have ih := names_sum r fun m hm => h m (List.mem_cons_of_mem _ hm)
    have h0 := h n (List.mem_cons_self ..)
    rw [List.map_cons, List.sum_cons, List.length_cons]
    omega
theorem LnsOk.short {ls : List Ln} (ok : LnsOk ls) : ∀ n ∈ nms ls, n.length ≤ 8 := fun n hn => by
  obtain ⟨l, hl, e⟩ := List.mem_map.mp hn
  rw [← e]
  exact (ok.names l hl).2.1
theorem join_fits {ls : List Ln} (ok : LnsOk ls) : ((nms ls).map (·.length)).sum + (nms ls).length * (", " : Str).length ≤ 1000 ∧ (Txt.join ", " (nms ls)).length ≤ 1000 := by
  have a := names_sum (nms ls) ok.short
  have b := join_le ", " (nms ls)
  have c := ok.few
  have d : (nms ls).length = ls.length := List.length_map _
  have e : (", " : Str).length = 2 := by decide +kernel
  rw [txt_join]
  rw [e] at b ⊢
  omega
def spRepr (C : Addr) : Sp := fun vs H Q _ => ∃ x ls ls' T, vs = [.ref x] ∧ KIn C H x ls ls' T ∧ LnsOk ls ∧ ∀ H', Same H H' → Q (.str (reprOf (nms ls))) H'
/-- rows as data -/
def rowD (l : Ln) : PyData := .tuple [.str l.1, .list (l.2.map .str)]
def rowsD (ls : List Ln) : PyData := .list (ls.map rowD)
def strsD (ss : List Str) : PyData := .list (ss.map .str)
def Low (z : Str) : Prop := PyData.strOk z = true
theorem strs_lay : ∀ ss : List Str, (∀ s ∈ ss, Low s) → PyData.canLayAll0 (ss.map .str) = true ∧ PyData.depthAll (ss.map .str) = 0
  | [], _ => ⟨rfl, rfl⟩
  | s :: r, h => by
    obtain ⟨a, b⟩ := strs_lay r fun x hx => h x (List.mem_cons_of_mem _ hx)
    have h0 : PyData.strOk s = true := h s (List.mem_cons_self ..)
    constructor
    · show (PyData.canLay0 (.str s) && PyData.canLayAll0 (r.map .str)) = true
      rw [a]
      show (PyData.strOk s && true) = true
      rw [h0]
      rfl
    · show max (PyData.depth (.str s)) (PyData.depthAll (r.map .str)) = 0
      rw [b]
      rfl
theorem strs_shaped {ss : List Str} (h : ∀ s ∈ ss, Low s) : SeqAt.shaped (strsD ss) = true := by
  obtain ⟨a, b⟩ := strs_lay ss h
  show (PyData.canLayAll0 (ss.map .str) && decide (PyData.depthAll (ss.map .str) + 1 ≤ 64)) = true
  rw [a, b]
  rfl
theorem rows_lay : ∀ ls : List Ln, (∀ l ∈ ls, Low l.1 ∧ ∀ s ∈ l.2, Low s) → PyData.canLayAll0 (ls.map rowD) = true ∧ PyData.depthAll (ls.map rowD) ≤ 2
  | [], _ => ⟨rfl, Nat.zero_le _⟩
  | l :: r, h => by
    obtain ⟨a, b⟩ := rows_lay r fun x hx => h x (List.mem_cons_of_mem _ hx)
    obtain ⟨h1, h2⟩ := h l (List.mem_cons_self ..)
    obtain ⟨c, d⟩ := strs_lay l.2 h2
    constructor
    · show (PyData.canLay0 (rowD l) && PyData.canLayAll0 (r.map rowD)) = true
      rw [a]
      show ((PyData.strOk l.1 && (PyData.canLayAll0 (l.2.map .str) && true)) && true) = true
      rw [c, show PyData.strOk l.1 = true from h1]
      rfl
    · show max (max 0 (max (PyData.depthAll (l.2.map .str) + 1) 0) + 1) (PyData.depthAll (r.map rowD)) ≤ 2
      rw [d]
      omega
theorem rows_shaped {ls : List Ln} (h : ∀ l ∈ ls, Low l.1 ∧ ∀ s ∈ l.2, Low s) : SeqAt.shaped (rowsD ls) = true := by
  obtain ⟨a, b⟩ := rows_lay ls h
  show (PyData.canLayAll0 (ls.map rowD) && decide (PyData.depthAll (ls.map rowD) + 1 ≤ 64)) = true
  rw [a, decide_eq_true (by omega)]
  rfl
theorem name_low {z : Str} (h : NameOk z) : Low z := by
  show z.cps.all (· < 0x110000) = true
  rw [← Array.all_toList, List.all_eq_true]
  intro c hc
  have := h.2.2 c hc
  exact decide_eq_true (by omega)
theorem LnsOk.low {ls : List Ln} (ok : LnsOk ls) : ∀ n ∈ nms ls, Low n := fun n hn => by
  obtain ⟨l, hl, e⟩ := List.mem_map.mp hn
  rw [← e]
  exact name_low (ok.names l hl)
theorem LnsOk.lows {ls : List Ln} (ok : LnsOk ls) : ∀ l ∈ ls, Low l.1 ∧ ∀ s ∈ l.2, Low s := fun l hl => by
  refine ⟨name_low (ok.names l hl), fun s hs => ?_⟩
  obtain ⟨i, hi⟩ := List.mem_iff_getElem?.mp hl
  have q := (ok.base i l hi).2.1 s hs
  obtain ⟨k, hk, e⟩ := List.mem_map.mp q
  exact ok.low s (List.mem_map.mpr ⟨k, List.mem_of_mem_take hk, e⟩)
theorem strs_dp {K : PySem.W.Frag} {H : Hp} : ∀ ss : List Str, DpAll K H (ss.map V.str) (ss.map PyData.str)
  | [] => .nil
  | s :: r => .cons (.str s) (strs_dp r)
theorem rows_dp {K : PySem.W.Frag} {N : Addr → Prop} {H : Hp} : ∀ {rs : List V} {ls : List Ln}, Paired (RowIn N H) rs ls → DpAll K H rs (ls.map rowD)
  | _, _, .nil => .nil
  | _, l :: _, .cons ⟨t, b, e, _, _, h1, h2⟩ r => .cons (by rw [e]; exact .tup (SqT.of h1) (.cons (.str _) (.cons (.lst (SqL.of h2) (strs_dp _)) .nil))) (rows_dp r)
section
variable {P : Program} {w : World} {K : PySem.W.Frag} {mg : Str → Option Value} {base : Heap}
end
end K1

namespace K1
open PySem PySem.Spec PyProof.Rows L2
/-- source: from the script and a place, a new source -/
def spSource (K : PySem.W.Frag) : Sp := fun vs H Q _ => ∃ (a : Addr) (ns : List Int) (k : Int), vs = [.ref a, .int k] ∧ SqL K H a (ns.map V.int) ∧ ns.length ≤ 63 ∧ 0 ≤ k ∧ ∀ (p : Addr) (H' : Hp), Same H H' → H p = none → Src H' p → Q (.ref p) H'
theorem big60 : ((10 : Int) ^ (60 : Int).toNat).natAbs < 2 ^ 200 := by decide
theorem big120 : ((10 : Int) ^ (60 : Int).toNat * (10 : Int) ^ (60 : Int).toNat).natAbs < 2 ^ 400 := by decide
theorem bigpos : (10 : Int) ^ (60 : Int).toNat * (10 : Int) ^ (60 : Int).toNat * (10 : Int) ^ (60 : Int).toNat ≠ 0 := by decide
theorem bigpos' : (0 : Int) < (10 : Int) ^ (60 : Int).toNat * (10 : Int) ^ (60 : Int).toNat * (10 : Int) ^ (60 : Int).toNat := by decide
theorem int_at {ns : List Int} {k : Int} (h0 : 0 ≤ k) (h : k < (ns.length : Int)) : ∃ v : Int, atI (ns.map V.int) k = some (.int v) := by
  have hk : k.toNat < ns.length := by omega
  have ek : k = ((k.toNat : Nat) : Int) := by omega
  have q : atI (ns.map V.int) ((k.toNat : Nat) : Int) = some (.int ns[k.toNat]) := atI_nat (by rw [List.getElem?_map, List.getElem?_eq_getElem hk] <;> rfl)
  rw [← ek] at q
  exact ⟨_, q⟩
section
variable {P : Program} {w : World} {K : PySem.W.Frag} {mg : Str → Option Value} {base : Heap}
theorem scSource : FnScope ["script", "at", "cell", "mix", "k"] ["script", "at"] (defScope sSource) := ⟨rfl, rfl, rfl, by decide +kernel, rfl, by decide +kernel, by decide +kernel⟩
theorem ok_source {f : Addr} {fd : FuncData} (F : Fun K "_law_source" "_law_source" sSource f fd) (ml : mg "len" = none) (ma : mg "abs" = none) (mr : mg "range" = none) (mm : mg "min" = none) : FnOk P w K mg base CX0 1 f fd ["script", "at"] (spSource K) := by
  refine F.ok scSource (fun vs H Q E h => ?_) (fun cdv A outer s H vs Q E hr h => ?_)
  · obtain ⟨a, ns, k, rfl, _⟩ := h
    rfl
  · obtain ⟨a, ns, k, rfl, hS, h63, k0, q⟩ := h
    have hl : (ns.map V.int).length = ns.length := List.length_map _
    refine ⟨_, pss_cons (ps_set (i := 2) scSource.nd rfl (Or.inl rfl) pe_int)
      (C8.pss_cut (ps_if (pt_cmpR op_lt (pv 1) (pe_callB call_len_seq (by rfl) ml PySem.boot_len (pa_cons (pv 0) pa_nil)) (nomark _))
        (pss_one (ps_set (i := 2) scSource.nd rfl (Or.inl rfl) (pe_op op_modN (pe_callB call_abs (by rfl) ma (by decide +kernel) (pa_cons (pe_ix ix_list (pv 0) (pv 1) (fun _ _ => rfl)) pa_nil))
          (pe_op op_mulW (pe_op op_mulW (pe_op op_pow pe_int pe_int) (pe_op op_pow pe_int pe_int)) (pe_op op_pow pe_int pe_int))))) pss_nil)
      (pss_cons (ps_if (pt_cmpR op_ge (pv 2) (pe_op op_pow pe_int pe_int) (nomark _)) (pss_one (ps_ret (pe_lst (pa_cons (pv 2) (pa_cons pe_int pa_nil))))) pss_nil)
      (pss_cons (ps_set (i := 3) scSource.nd rfl (Or.inl rfl) (pe_op op_mod (pe_op op_add (pe_op op_add (pv 2) (pe_op op_mul pe_int (pv 1))) pe_int) pe_int))
      (pss_cons (ps_for PassesOwn.never rfl (pi_range1 (by rfl) mr (pa_cons (pe_callB (call_min2 rfl) (by rfl) mm (by decide +kernel) (pa_cons (pe_callB call_len_seq (by rfl) ml PySem.boot_len (pa_cons (pv 0) pa_nil)) (pa_cons pe_int pa_nil))) pa_nil)) (pg_name (i := 4) scSource.nd rfl (Or.inl rfl))
        (pss_one (ps_set (i := 3) scSource.nd rfl (Or.inl rfl) (pe_op op_mod (pe_op op_add (pe_op op_add (pe_op op_pow (pv 3) pe_int) (pe_op op_mod (pe_ix ix_list (pv 0) (pv 4) (fun _ _ => rfl)) pe_int)) (pe_op op_mul pe_int (pv 4))) pe_int))))
      (pss_one (ps_ret (pe_lst (pa_cons (pv 3) (pa_cons pe_int pa_nil))))))))), ?_⟩
    refine ⟨fun σ H1 => H1 = H ∧ ∃ c : Int, 0 ≤ c ∧ σ = [some (.ref a), some (.int k), some (.int c), none, none], ?_, ?_⟩
    · refine ⟨_, rfl, _, rfl, a, _, rfl, .inl hS, _, _, rfl, rfl, _, rfl, ite2 (fun e => ?_) (fun e => ?_)⟩
      · have e1 : k < (((ns.map V.int).length : Nat) : Int) := of_decide_eq_true e
        rw [hl] at e1
        obtain ⟨v, hv⟩ := int_at (ns := ns) k0 e1
        refine ⟨_, rfl, _, rfl, a, _, _, _, rfl, rfl, hS, hv, _, rfl, _, _, rfl, rfl, ⟨by decide, by decide, by decide⟩, _, _, rfl, rfl, ⟨by decide, by decide, by decide⟩, _, _, rfl, rfl, wide_mul big60 big60 (by decide) (by decide) (by decide), ?_⟩
        refine ⟨_, _, rfl, rfl, ⟨by decide, by decide, by decide⟩, _, _, rfl, rfl, wide_mul big120 big60 (by decide) (by decide) (by decide), _, _, rfl, rfl, bigpos, ?_⟩
        exact ⟨rfl, _, (fmod_pos bigpos').1, rfl⟩
      · exact ⟨rfl, 0, by decide, rfl⟩
    rintro σ H1 ⟨rfl, c, c0, rfl⟩
    refine ⟨_, rfl, _, _, rfl, rfl, ⟨by decide, by decide, by decide⟩, _, _, rfl, rfl, _, rfl, ite2 (fun e => ?_) (fun e => ?_)⟩
    · refine ⟨_, rfl, (by show 2 ≤ sizeLine; decide), fun p np => ?_⟩
      exact q p _ (same_upd np) np ⟨c, 0, upd_same, .inl ⟨rfl, c0⟩⟩
    · refine ⟨_, rfl, _, rfl, _, _, rfl, rfl, .inl ⟨by decide, by decide⟩, _, _, rfl, rfl, _, _, rfl, rfl, _, _, rfl, rfl, (by decide : (0 : Int) < 2147483647), ?_⟩
      have z := mod_lt (a := c + 7919 * k + 29) (m := 2147483647) (by decide)
      have hz : (if (9 : Int) < (((ns.map V.int).length : Nat) : Int) then (9 : Int) else (((ns.map V.int).length : Nat) : Int)) ≤ (ns.length : Int) ∧ 0 ≤ (if (9 : Int) < (((ns.map V.int).length : Nat) : Int) then (9 : Int) else (((ns.map V.int).length : Nat) : Int)) := by
        rw [hl]
        split <;> omega
      refine ⟨_, rfl, a, _, rfl, .inl hS, _, _, rfl, _, rfl, (by omega), (by omega), for_range (lo := 0) (fun i σ H' => H' = H1 ∧ ∃ (mx : Int) (v : Option V), (0 ≤ mx ∧ mx < 2147483647) ∧ σ = [some (.ref a), some (.int k), some (.int c), some (.int mx), v]) ⟨rfl, _, _, z, rfl⟩ ?_ ?_⟩
      · rintro i σ H' hi ⟨rfl, mx, v, ⟨m0, m1⟩, rfl⟩
        have hi2 : (0 + (i : Int)) < (ns.length : Int) := by omega
        obtain ⟨y, hy⟩ := int_at (ns := ns) (k := 0 + (i : Int)) (by omega) hi2
        refine ⟨_, rfl, _, _, rfl, rfl, ⟨by decide, by decide, by omega⟩, _, rfl, _, rfl, a, _, _, _, rfl, rfl, hS, hy, _, _, rfl, rfl, (by decide : (0 : Int) < 2147483629), _, _, rfl, rfl, _, rfl, _, _, rfl, rfl, .inl ⟨by decide, by decide⟩, _, _, rfl, rfl, _, _, rfl, rfl, (by decide : (0 : Int) < 2147483647), ?_⟩
        exact ⟨rfl, _, _, mod_lt (by decide), rfl⟩
      · rintro σ H' ⟨rfl, mx, v, ⟨m0, m1⟩, rfl⟩
        refine ⟨_, rfl, (by show 2 ≤ sizeLine; decide), fun p np => ?_⟩
        exact q p _ (same_upd np) np ⟨mx, 1, upd_same, .inr ⟨by decide, m0, m1⟩⟩
end
end K1

namespace K1
open PySem PySem.Spec PyProof.Rows L2 Own
/-! ### names drawn -/
def sg (c : Nat) : Str := ⟨#[c]⟩
theorem sg_list (c : Nat) : (sg c).cps.toList = [c] := rfl
theorem abc_at {i : Int} (h0 : 0 ≤ i) (h1 : i < 26) : atI abc.cps.toList i = some (97 + i.toNat) := by
  have h : ∀ d : Fin 26, atI abc.cps.toList ((d.val : Nat) : Int) = some (97 + d.val) := by decide +kernel
  have e : i = ((i.toNat : Nat) : Int) := by omega
  have q := h ⟨i.toNat, by omega⟩
  rw [← e] at q
  exact q
theorem app_list (a b : Str) : (a ++ b).cps.toList = a.cps.toList ++ b.cps.toList := by
  show (a.cps ++ b.cps).toList = _
  rw [Array.toList_append]
theorem len_list (a : Str) : a.length = a.cps.toList.length := by
  show a.cps.size = _
  rw [Array.length_toList]
theorem join_list : ∀ cs : List Nat, (Str.join Str.empty (cs.map sg)).cps.toList = cs
  | [] => rfl
  | [c] => rfl
  | c :: d :: r => by
    have ih := join_list (d :: r)
    show (sg c ++ Str.empty ++ Str.join Str.empty ((d :: r).map sg)).cps.toList = _
    rw [app_list, app_list, ih]
    rfl
theorem cut_lo (z : Str) (a : Nat) (h : a ≤ z.length) : (cutS z none (some ((a : Nat) : Int))).cps.toList = z.cps.toList.take a := by
  unfold cutS
  rw [HT.sIx_none, HT.sIx_nat, List.drop_zero, Nat.sub_zero, Nat.min_eq_left h]
theorem cut_hi (z : Str) (a : Nat) (h : a ≤ z.length) : (cutS z (some ((a : Nat) : Int)) none).cps.toList = z.cps.toList.drop a := by
  unfold cutS
  rw [HT.sIx_none, HT.sIx_nat, Nat.min_eq_left h]
  show (z.cps.toList.drop a).take (z.length - a) = _
  rw [List.take_of_length_le]
  rw [List.length_drop, ← len_list]
  exact Nat.le_refl _
/-- the name that turn k makes -/
def nameK (z : Str) (a b k : Nat) : Str := cutS z none (some ((a : Nat) : Int)) ++ sg (97 + (b + 5 * k) % 26) ++ cutS z (some ((a : Nat) : Int)) none
theorem nameK_list (z : Str) (a b k : Nat) (h : a ≤ z.length) : (nameK z a b k).cps.toList = z.cps.toList.take a ++ (97 + (b + 5 * k) % 26) :: z.cps.toList.drop a := by
  unfold nameK
  rw [app_list, app_list, cut_lo z a h, cut_hi z a h, sg_list, List.append_assoc]
  rfl
theorem nameK_len (z : Str) (a b k : Nat) (h : a ≤ z.length) : (nameK z a b k).length = z.length + 1 := by
  rw [len_list, nameK_list z a b k h, len_list z] at *
  rw [List.length_append, List.length_cons, List.length_take, List.length_drop]
  omega
theorem nameK_one {z : Str} {a b j k : Nat} (h : a ≤ z.length) (hj : j < 8) (hk : k < 8) (e : nameK z a b j = nameK z a b k) : j = k := by
  have q : (nameK z a b j).cps.toList = (nameK z a b k).cps.toList := by rw [e]
  rw [nameK_list z a b j h, nameK_list z a b k h] at q
  have q2 := (List.cons.inj (List.append_cancel_left q)).1
  omega
theorem nameK_ok {z : Str} {a b k : Nat} (h : a ≤ z.length) (h7 : z.length ≤ 7) (hz : ∀ c ∈ z.cps.toList, 97 ≤ c ∧ c ≤ 122) : NameOk (nameK z a b k) := by
  refine ⟨by rw [nameK_len z a b k h]; omega, by rw [nameK_len z a b k h]; omega, fun c hc => ?_⟩
  rw [nameK_list z a b k h] at hc
  rcases List.mem_append.mp hc with q | q
  · exact hz c (List.mem_of_mem_take q)
  · rcases List.mem_cons.mp q with q | q
    · omega
    · exact hz c (List.mem_of_mem_drop q)
/-- drawn names -/
def Drawn (ns : List Str) : Prop := ns.Nodup ∧ ∀ n ∈ ns, NameOk n ∧ n.length ≠ 4
theorem drawn_of {z : Str} {a b : Nat} (m : Nat) (h : a ≤ z.length) (hm : m ≤ 8) (h7 : z.length ≤ 7) (h3 : z.length ≠ 3) (hz : ∀ c ∈ z.cps.toList, 97 ≤ c ∧ c ≤ 122) : Drawn ((List.range m).map (nameK z a b)) := by
  refine ⟨?_, fun n hn => ?_⟩
  · have r : (List.range m).Pairwise (fun j k => j ≠ k ∧ j < 8 ∧ k < 8) := by
      refine List.Pairwise.imp_of_mem (R := fun j k => j ≠ k) (fun ha hb q => ⟨q, ?_, ?_⟩) List.nodup_range
      · have := List.mem_range.mp ha
        omega
      · have := List.mem_range.mp hb
        omega
    exact List.Pairwise.map _ (fun j k q e => q.1 (nameK_one h q.2.1 q.2.2 e)) r
  · obtain ⟨k, hk, rfl⟩ := List.mem_map.mp hn
    exact ⟨nameK_ok h h7 hz, by rw [nameK_len z a b k h]; omega⟩
theorem four {d : Int} (h0 : 0 ≤ d) (h1 : d < 4) : ∃ n : Nat, atI [V.int 0, V.int 1, V.int 2, V.int 7] d = some (V.int (n : Int)) ∧ n ≤ 7 ∧ n ≠ 3 := by
  have c : d = 0 ∨ d = 1 ∨ d = 2 ∨ d = 3 := by omega
  rcases c with e | e | e | e
  · subst e
    exact ⟨0, rfl, by decide, by decide⟩
  · subst e
    exact ⟨1, rfl, by decide, by decide⟩
  · subst e
    exact ⟨2, rfl, by decide, by decide⟩
  · subst e
    exact ⟨7, rfl, by decide, by decide⟩
theorem Keep.put {s p : Addr} {H H' : Hp} {o : HO} (a : Keep s H H') (h : H p = none) : Keep s H (L2.upd H' p o) := fun b x n e => by
  rw [upd_ne (ne_of_none e h)]
  exact a b x n e
theorem Src.put {s p : Addr} {H : Hp} {o : HO} (q : Src H s) (h : p ≠ s) : Src (upd H p o) s := by
  obtain ⟨a, b, z, ok⟩ := q
  exact ⟨a, b, by rw [upd_ne h.symm]; exact z, ok⟩
theorem Src.ne {s p : Addr} {H : Hp} {ss : List Str} (q : Src H s) (h : H p = some (.lst (ss.map V.str))) : p ≠ s := fun e => by
  obtain ⟨a, b, z, _⟩ := q
  rw [e, z] at h
  have h' := HO.lst.inj (Option.some.inj h)
  cases ss with
  | nil => cases h'
  | cons x r => cases h'
def spNames : Sp := fun vs H Q _ => ∃ (s : Addr) (m : Nat), vs = [.ref s, .int (m : Nat)] ∧ Src H s ∧ m ≤ 8 ∧ ∀ H' p ns, Keep s H H' → Src H' s → H p = none → H' p = some (.lst (ns.map V.str)) → ns.length = m → Drawn ns → Q (.ref p) H'
section
variable {P : Program} {w : World} {K : PySem.W.Frag} {mg : Str → Option Value} {base : Heap}
theorem scNames : FnScope ["source", "many", "letters", "base", "at", "begin", "k"] ["source", "many"] (defScope sNames) := ⟨rfl, rfl, rfl, by decide +kernel, rfl, by decide +kernel, by decide +kernel⟩
theorem ok_names {f g : Addr} {fd gd : FuncData} (F : Fun K "_law_random_names" "_law_random_names" sNames f fd) (GD : FnOk P w K mg base CX0 1 g gd ["source", "many"] spDraw) (kD : PySem.W.keepIn K (.ref g) = true) (bD : Binds K gd ["source", "many"] []) (mD : mg "_law_draw" = some (.ref g))
    (mr : mg "range" = none) (ml : mg "len" = none) : FnOk P w K mg base CX0 2 f fd ["source", "many"] spNames := by
  refine F.ok scNames (fun vs H Q E h => ?_) (fun cdv A outer s H vs Q E hr h => ?_)
  · obtain ⟨s, m, rfl, _⟩ := h
    rfl
  · obtain ⟨s, m, rfl, src, m8, k⟩ := h
    refine ⟨_, pss_cons (ps_set (i := 2) scNames.nd rfl (Or.inr rfl) pe_str)
      (pss_cons (ps_set (i := 3) scNames.nd rfl (Or.inr rfl) (pe_join pe_str (pe_lc (own := [("k", 6)]) (g := gName 6) (tt := tYes) rfl scNames.nd
          (pi_range1 (by rfl) mr (pa_cons (pe_ix ix_list (pe_lst (pa_cons pe_int (pa_cons pe_int (pa_cons pe_int (pa_cons pe_int pa_nil))))) (pe_call GD hr (by rfl) mD kD bD .nil pass0 (pa_cons (pv 0) (pa_cons pe_int pa_nil))) (fun _ _ => rfl)) pa_nil))
          (blkOk_by (N := ["source", "many", "letters", "base", "at", "begin", "k"]) (sc := defScope sNames) (by decide +kernel))
          (fun _ _ _ _ _ => pg_name (i := 6) scNames.nd rfl (Or.inl rfl)) (fun _ _ _ _ _ => pts_nil) (fun _ _ _ _ _ => pe_ix ix_str (pv 2) (pe_call GD hr (by rfl) mD kD bD .nil pass0 (pa_cons (pv 0) (pa_cons pe_int pa_nil))) (fun _ _ => rfl)))))
      (pss_cons (ps_set (i := 4) scNames.nd rfl (Or.inr rfl) (pe_call GD hr (by rfl) mD kD bD .nil pass0 (pa_cons (pv 0) (pa_cons (pe_op op_add (pe_callB call_len_str (by rfl) ml PySem.boot_len (pa_cons (pv 3) pa_nil)) pe_int) pa_nil))))
      (pss_cons (ps_set (i := 5) scNames.nd rfl (Or.inr rfl) (pe_call GD hr (by rfl) mD kD bD .nil pass0 (pa_cons (pv 0) (pa_cons pe_int pa_nil))))
      (pss_one (ps_ret (pe_lc (own := [("k", 6)]) (g := gName 6) (tt := tYes) rfl scNames.nd (pi_range1 (by rfl) mr (pa_cons (pv 1) pa_nil))
          (blkOk_by (N := ["source", "many", "letters", "base", "at", "begin", "k"]) (sc := defScope sNames) (by decide +kernel))
          (fun _ _ _ _ _ => pg_name (i := 6) scNames.nd rfl (Or.inl rfl)) (fun _ _ _ _ _ => pts_nil)
          (fun _ _ _ _ _ => pe_op op_add_str (pe_op op_add_str (pe_slice sl_str (pv 3) po_none (po_some (pv 4))) (pe_ix ix_str (pv 2) (pe_op op_mod (pe_op op_add (pv 5) (pe_op op_mul pe_int (pv 6))) pe_int) (fun _ _ => rfl))) (pe_slice sl_str (pv 3) (po_some (pv 4)) po_none)))))))), ?_⟩
    refine ⟨⟨_, rfl⟩, (by show 4 ≤ sizeLine; decide), fun q nq => ?_⟩
    have s0 : Keep s H (upd H q (.lst [.int 0, .int 1, .int 2, .int 7])) := Keep.new (Keep.refl s H) nq
    have sr0 : Src (upd H q (.lst [.int 0, .int 1, .int 2, .int 7])) s := src.new nq
    refine ⟨_, rfl, s, 4, rfl, sr0, (by decide), (by decide), fun d H1 d0 d1 sr1 k1 => ?_⟩
    have kq := s0.trans k1
    have qs : q ≠ s := fun e => by
      obtain ⟨a, b, z, _⟩ := src
      rw [e, z] at nq
      cases nq
    obtain ⟨n, hn, n7, n3⟩ := four d0 d1
    refine ⟨q, _, d, _, rfl, rfl, SqL.of (k1 q _ qs upd_same), hn, _, rfl, (by omega), (by omega), fun D nD => ?_⟩
    have nDH : H D = none := kq.free sr1 nD
    refine lc_range (lo := 0) (n := n) (fun i H' => Keep s H H' ∧ Src H' s ∧ ∃ cs : List Nat, cs.length = i ∧ (∀ c ∈ cs, 97 ≤ c ∧ c ≤ 122) ∧ H' D = some (.lst ((cs.map sg).map V.str))) ⟨kq.new nD, sr1.new nD, [], rfl, (fun _ h => nomatch h), upd_same⟩ ?_ ?_
    · rintro i H' hi ⟨kp, sr, cs, cl, cok, hD⟩
      have Ds : D ≠ s := sr.ne hD
      refine ⟨rfl, _, rfl, _, rfl, s, 26, rfl, sr, (by decide), (by decide), fun c H2 c0 c1 sr2 k2 => ?_⟩
      have hD2 := k2 D _ Ds hD
      refine ⟨abc, c, _, rfl, rfl, (by decide), abc_at c0 c1, _, hD2, ?_, (kp.trans k2).put nDH, ?_, cs ++ [97 + c.toNat], ?_, ?_, ?_⟩
      · rw [List.length_map, List.length_map, cl]
        exact small1000 (by omega)
      · exact sr2.put Ds
      · rw [List.length_append, cl]
        rfl
      · intro e he
        rcases List.mem_append.mp he with h | h
        · exact cok e h
        · rw [List.mem_singleton.mp h]
          omega
      · rw [upd_same, List.map_append, List.map_append]
        rfl
    · rintro H' ⟨kp, sr, cs, cl, cok, hD⟩
      obtain ⟨z, ez⟩ : ∃ z, z = Str.join Str.empty (cs.map sg) := ⟨_, rfl⟩
      have zl : z.cps.toList = cs := by rw [ez, join_list]
      have zn : z.length = n := by rw [len_list, zl, cl]
      have sum1 : ∀ es : List Nat, ((es.map sg).map (·.length)).sum = es.length := fun es => by
        induction es with
        | nil => rfl
        | cons x r ih =>
          show 1 + ((r.map sg).map (·.length)).sum = r.length + 1
          rw [ih, Nat.add_comm]
      have el : ("" : Str).length = 0 := rfl
      refine ⟨_, D, cs.map sg, rfl, rfl, .inl (SqL.of hD), ?_, ?_⟩
      · rw [sum1, List.length_map, el]
        omega
      rw [txt_join, show Str.join ("" : Str) (cs.map sg) = z from ez.symm]
      refine ⟨_, rfl, _, rfl, z, rfl, (by rw [sizeLine_eq]; omega), _, _, rfl, rfl, s, _, rfl, sr, (by omega), (by omega), fun d2 H2 e0 e1 sr2 k2 => ?_⟩
      obtain ⟨at_, eat⟩ : ∃ a : Nat, d2 = (a : Int) := ⟨d2.toNat, by omega⟩
      subst eat
      refine ⟨_, rfl, s, _, rfl, sr2, (by decide), (by decide), fun d3 H3 b0 b1 sr3 k3 => ?_⟩
      obtain ⟨be, ebe⟩ : ∃ a : Nat, d3 = (a : Int) := ⟨d3.toNat, by omega⟩
      subst ebe
      have k13 := (kp.trans k2).trans k3
      have zz : z.length ≤ sizeLine := by rw [sizeLine_eq]; omega
      have z4 : z.length ≤ 7 := by omega
      refine ⟨_, rfl, (m : Int), rfl, (by omega), (by omega), fun D2 nD2 => ?_⟩
      have nD2H : H D2 = none := k13.free sr3 nD2
      have al : at_ ≤ z.length := by omega
      refine lc_range (lo := 0) (n := m) (fun i H' => Same H3 H' ∧ H' D2 = some (.lst (((List.range i).map (nameK z at_ be)).map V.str))) ⟨same_upd nD2, upd_same⟩ ?_ ?_
      · rintro i H4 hi ⟨sm, hD4⟩
        have ix : atI abc.cps.toList (((be : Int) + 5 * (0 + (i : Int))) % 26) = some (97 + (be + 5 * i) % 26) := by
          rw [abc_at (Int.emod_nonneg _ (by decide)) (Int.emod_lt_of_pos _ (by decide))]
          congr 1
          omega
        have c1 := cutS_length z none (some ((at_ : Nat) : Int))
        have c2 := cutS_length z (some ((at_ : Nat) : Int)) none
        have c3 : (sg (97 + (be + 5 * i) % 26)).length = 1 := rfl
        refine ⟨rfl, _, rfl, _, rfl, _, rfl, z, rfl, zz, _, rfl, _, rfl, _, rfl, _, _, rfl, rfl, .inl ⟨by decide, by decide⟩, _, _, rfl, rfl, _, _, rfl, rfl, (by decide : (0 : Int) < 26), abc, _, _, rfl, rfl, (by decide), ix, _, _, rfl, rfl, ?_, _, rfl, _, rfl, _, rfl, z, rfl, zz, _, _, rfl, rfl, ?_, _, hD4, ?_, ?_, ?_⟩
        · rw [sizeLine_eq]
          show (cutS z none (some ((at_ : Nat) : Int))).length + 1 ≤ _
          omega
        · rw [sizeLine_eq, Str.length_append]
          show (cutS z none (some ((at_ : Nat) : Int))).length + 1 + (cutS z (some ((at_ : Nat) : Int)) none).length ≤ _
          omega
        · rw [List.length_map, List.length_map, List.length_range]
          exact small1000 (by omega)
        · exact same_past nD2 sm
        · rw [upd_same, List.range_succ, List.map_append, List.map_append]
          rfl
      · rintro H4 ⟨sm, hD4⟩
        refine k H4 D2 _ (k13.trans (.of sm)) (sr3.same sm) nD2H hD4 ?_ ?_
        · rw [List.length_map, List.length_range]
        · exact drawn_of m al m8 z4 (by omega) (by rw [zl]; exact cok)
end
end K1

namespace K1
open PySem PySem.Spec PyProof.Rows L2 Own
/-! ### rows drawn -/
def LinAt (H : Hp) (v : V) (l : Ln) : Prop := ∃ t b, v = .ref t ∧ H t = some (.tup [.str l.1, .ref b]) ∧ H b = some (.tup (l.2.map V.str))
def LinsAt (H : Hp) (a : Addr) (ls : List Ln) : Prop := ∃ vs, H a = some (.lst vs) ∧ Paired (LinAt H) vs ls
theorem LinAt.same {H H' : Hp} {v : V} {l : Ln} (h : LinAt H v l) (k : ∀ a xs, H a = some (.tup xs) → H' a = some (.tup xs)) : LinAt H' v l := by
  obtain ⟨t, b, e, h1, h2⟩ := h
  exact ⟨t, b, e, k _ _ h1, k _ _ h2⟩
theorem LinsAt.keep {H H' : Hp} {a : Addr} {ls : List Ln} (h : LinsAt H a ls) (k : ∀ b xs, H b = some (.tup xs) → H' b = some (.tup xs)) (ka : ∀ xs, H a = some (.lst xs) → H' a = some (.lst xs)) : LinsAt H' a ls := by
  obtain ⟨vs, h1, h2⟩ := h
  exact ⟨vs, ka _ h1, paired_imp (fun _ _ q => q.same k) h2⟩
theorem LinsAt.same {H H' : Hp} {a : Addr} {ls : List Ln} (h : LinsAt H a ls) (s : Same H H') : LinsAt H' a ls := h.keep (fun _ _ e => s _ _ e) fun _ e => s _ _ e
theorem LinsAt.rows {H : Hp} {a : Addr} {ls : List Ln} (h : LinsAt H a ls) : RowsAt H a ls := by
  obtain ⟨vs, h1, h2⟩ := h
  exact ⟨vs, .inl h1, paired_imp (fun _ _ ⟨t, b, e, z1, z2⟩ => ⟨t, b, e, z1, .inr z2⟩) h2⟩
theorem Src.neL {s p : Addr} {H H0 : Hp} {rs : List V} {ls : List Ln} (q : Src H s) (h : H p = some (.lst rs)) (pl : Paired (LinAt H0) rs ls) : p ≠ s := fun e => by
  obtain ⟨a, b, z, _⟩ := q
  rw [e, z] at h
  have h' := HO.lst.inj (Option.some.inj h)
  subst h'
  cases pl with
  | cons c r =>
    obtain ⟨t, b, e, _⟩ := c
    cases e
theorem four2 {d : Int} (h0 : 0 ≤ d) (h1 : d < 4) : ∃ n : Nat, atI [V.int 0, V.int 1, V.int 1, V.int 2] d = some (V.int (n : Int)) ∧ n ≤ 2 := by
  have c : d = 0 ∨ d = 1 ∨ d = 2 ∨ d = 3 := by omega
  rcases c with e | e | e | e
  · subst e
    exact ⟨0, rfl, by decide⟩
  · subst e
    exact ⟨1, rfl, by decide⟩
  · subst e
    exact ⟨1, rfl, by decide⟩
  · subst e
    exact ⟨2, rfl, by decide⟩
theorem cutV_lo (xs : List V) (k : Nat) (h : k ≤ xs.length) : cutV xs none (some ((k : Nat) : Int)) = xs.take k := by
  unfold cutV
  rw [HT.sIx_none, HT.sIx_nat, Nat.min_eq_left h]
  rfl
theorem ne_nil_eq (xs : List Str) : (!PyData.eqv (strsD xs) (strsD [])) = !decide (xs = []) := by
  cases xs with
  | nil => rfl
  | cons x r => rfl
theorem erase_map : ∀ (xs : List Str) (u : Nat), (xs.map V.str).eraseIdx u = (xs.eraseIdx u).map V.str
  | [], _ => rfl
  | x :: r, 0 => rfl
  | x :: r, u + 1 => by
    show V.str x :: (r.map V.str).eraseIdx u = V.str x :: (r.eraseIdx u).map V.str
    rw [erase_map r u]
theorem erase_perm : ∀ (xs : List Str) (u : Nat) (h : u < xs.length), (xs[u] :: xs.eraseIdx u).Perm xs
  | x :: r, 0, _ => .refl _
  | x :: r, u + 1, h => by
    have ih := erase_perm r u (Nat.lt_of_succ_lt_succ h)
    show (r[u]'(Nat.lt_of_succ_lt_succ h) :: x :: r.eraseIdx u).Perm (x :: r)
    exact (List.Perm.swap ..).trans (List.Perm.cons x ih)
/-- the rows so far -/
structure Far (ns : List Str) (i : Nat) (ls : List Ln) : Prop where
  nms : nms ls = ns.take i
  base : ∀ (j : Nat) l, ls[j]? = some l → l.2.Nodup ∧ (∀ b ∈ l.2, b ∈ ns.take j) ∧ l.2.length ≤ 7
theorem Far.ok {ns : List Str} {ls : List Ln} (f : Far ns ns.length ls) (d : Drawn ns) (h7 : ns.length ≤ 7) : LnsOk ls := by
  have e : K1.nms ls = ns := by rw [f.nms, List.take_of_length_le (Nat.le_refl _)]
  refine ⟨fun l hl => ?_, by rw [e]; exact d.1, ?_, fun j l hl => ?_⟩
  · have q : l.1 ∈ ns := by
      rw [← e]
      exact List.mem_map.mpr ⟨l, hl, rfl⟩
    exact (d.2 _ q).1
  · have q : (K1.nms ls).length = ns.length := by rw [e]
    rw [List.length_map] at q
    omega
  · obtain ⟨a, b, c⟩ := f.base j l hl
    refine ⟨a, fun x hx => ?_, c⟩
    rw [show K1.nms (ls.take j) = (K1.nms ls).take j from List.map_take .., e]
    exact b x hx
def spLines : Sp := fun vs H Q _ => ∃ (s a : Addr) (ns : List Str), vs = [.ref s, .ref a] ∧ Src H s ∧ H a = some (.lst (ns.map V.str)) ∧ ns.length ≤ 7 ∧ Drawn ns ∧ ∀ H' p ls, Keep s H H' → Src H' s → LinsAt H' p ls → nms ls = ns → LnsOk ls → Q (.ref p) H'
section
variable {P : Program} {w : World} {K : PySem.W.Frag} {mg : Str → Option Value} {base : Heap}
end
end K1

namespace K1
open PySem PySem.Spec PyProof.Rows L2 Own
/-! ### what stands above, reckoned by the law -/
abbrev Any1 (y : List Str) : Prop := True
abbrev All1 (a : Addr) : Prop := True
def spOver : Sp := fun vs H Q _ => ∃ r ls, vs = [.ref r] ∧ LinsAt H r ls ∧ LnsOk ls ∧ ∀ H' d T, Same H H' → DictAt All1 H' d T → Tab Any1 ls T → Q (.ref d) H'
theorem more_nd {o y : List Str} (no : o.Nodup) (ny : y.Nodup) : (o ++ y.filter fun x => decide (x ∉ o)).Nodup := by
  refine List.nodup_append.mpr ⟨no, ny.sublist List.filter_sublist, fun a ha b hb e => ?_⟩
  have q := (List.mem_filter.mp hb).2
  exact of_decide_eq_true q (e ▸ ha)
theorem more_mem {o y : List Str} {x : Str} : x ∈ o ++ (y.filter fun x => decide (x ∉ o)) ↔ x ∈ o ∨ x ∈ y := by
  rw [List.mem_append, List.mem_filter]
  by_cases h : x ∈ o
  · exact ⟨fun _ => .inl h, fun _ => .inl h⟩
  · constructor
    · rintro (q | ⟨q, _⟩)
      · exact .inl q
      · exact .inr q
    · rintro (q | q)
      · exact .inl q
      · exact .inr ⟨q, decide_eq_true h⟩
section
variable {P : Program} {w : World} {K : PySem.W.Frag} {mg : Str → Option Value} {base : Heap}
end
end K1

namespace Own
open PySem PySem.Spec PyProof.Rows L2
/-! a def's promise where it is known that no repr is under way -/
def Calm (A : Around) : Prop := A.guards = some []
theorem Calm.deeper {A : Around} (h : Calm A) (env : Env) : Calm (A.deeper env) := h
theorem Calm.in1 {A : Around} (h : Calm A) : Calm A.in1 := h
structure FnG (P : Program) (w : World) (K : PySem.W.Frag) (mg : Str → Option Value) (base : Heap) (k : Nat) (f : Addr) (fd : FuncData) (ps : List Str) (sp : Sp) : Prop where
  len : ∀ vs H Q E, sp vs H Q E → vs.length = ps.length
  run : ∀ (A : Around) (out : List Env) (s : Shared) (H : Hp) (args : Args) (us : List Value) (vs : List V) (Q : VK) (E : XK), Calm A → Room k A → Env0 P w K mg base A out s H → BindsTo s fd args (ps.zip us) → Vals vs us → sp vs H Q E →
    codeAny (model P w) A (.call (.ref f) args) (CR CX0 out P w H s Q E) s
section
variable {P : Program} {w : World} {K : PySem.W.Frag} {mg : Str → Option Value} {base : Heap} {j k : Nat} {f : Addr} {fd : FuncData} {ps : List Str} {sp : Sp}
theorem fnG_ok (F : FnOk P w K mg base CX0 k f fd ps sp) : FnG P w K mg base k f fd ps sp :=
  ⟨F.len, fun A out s H args us vs Q E _ hr e0 hb r h => F.run A out s H args us vs Q E hr e0 hb r h⟩
theorem FnG.mono (F : FnG P w K mg base j f fd ps sp) (h : j ≤ k) : FnG P w K mg base k f fd ps sp :=
  ⟨F.len, fun A out s H args us vs Q E c hr => F.run A out s H args us vs Q E c (hr.mono h)⟩
end
section
variable {X : Cx} {k : Nat} {f : Addr} {fd : FuncData} {ps : List Str} {sp : Sp} {ds : List Value} {dvs : List V} {E : XK} {x : Str} {p pos : Pos} {e : Expr} {es : List Expr} {t : TA}
theorem run_g {pins : List (Addr × Obj)} {σ : L2.St} {H : Hp} {s : Shared} {Q : VK} {us : List Value} {vs : List V} (F : FnG X.prog X.w X.K X.mg X.base k f fd ps sp) (hc : Calm X.A) (hr : Room k X.A) (hb : Binds X.K fd ps []) (I : Inv X pins σ H s) (r : Vals vs us) (h : sp vs H Q E) :
    wpAny (model X.prog X.w) X.A (call (.ref f) us) (EP X pins σ Q) X.xe s := by
  have hl : us.length = ps.length := r.length.symm.trans (F.len _ _ _ _ h)
  have b := hb s us I.kIn (by rw [List.append_nil]; exact hl)
  rw [List.append_nil] at b
  refine wpAny_call (codeAny_mono (F.run X.A X.stack s H ⟨us, []⟩ us vs Q E hc hr I.env0 b r h) fun z s' hz => ?_)
  match z, hz with
  | .error _, hz => exact hz.elim
  | .ok (.ret _), hz => exact I.after hz
  | .ok .next, hz => exact hz.elim
  | .ok .brk, hz => exact hz.elim
  | .ok .cont, hz => exact hz.elim
theorem pe_callG (F : FnG X.prog X.w X.K X.mg X.base k f fd ps sp) (hc : Calm X.A) (hr : Room k X.A) (hg : Gl X x) (hm : X.mg x = some (.ref f)) (hk : PySem.W.keepIn X.K (.ref f) = true) (hb : Binds X.K fd ps []) (ha : PA X (e :: es) t)
    (hdb : (x == ("__debug__" : Str)) = false := by decide) (hst : starEach (e :: es) X.env = (false, eval e X.env) :: starEach es X.env := by rfl) (hno : (backTo pos (starEach es X.env)).any (·.1) = false := by rfl) :
    PE X (.Call (.Name x p) (e :: es) [] pos) (tCall sp [] E t) := by
  refine ⟨fun pins s σ H Q I q => wpAny_Call_Name_kw (ld_glob I hg hm (PySem.W.callWith_K (h₀ := X.base) I.ok.mod.kin hk (thn (ha.run pos pins s σ H _ I q) fun us s1 hq => ?_) hst hno) hdb)⟩
  obtain ⟨vs, H1, I1, r1, q1⟩ := hq
  rw [List.append_nil] at q1
  exact ⟨I1.kIn, run_g F hc hr hb I1 r1 q1⟩
end
theorem okG {P : Program} {w : World} {K : PySem.W.Frag} {mg : Str → Option Value} {base : Heap} {x qual : Str} {st : Stmt} {f : Addr} {fd : FuncData} {N ps : List Str} {k : Nat} {sp : Sp} (F : Fun K x qual st f fd) (S : FnScope N ps (defScope st)) (len : ∀ vs H Q E, sp vs H Q E → vs.length = ps.length)
    (hbody : ∀ (cdv : Value) (A : Around) (out : List Env) (s : Shared) (H : Hp) (vs : List V) (Q : VK) (E : XK), Calm (A.deeper (envOfC qual (defScope st) s.heap.objs.size f cdv)) → Room k (A.deeper (envOfC qual (defScope st) s.heap.objs.size f cdv)) → sp vs H Q E →
      ∃ t, PSs (cxOf CX0 P w K mg base N qual (defScope st) f cdv A out s H E).nox (defBody st) t ∧ t { nx := fun _ H' => Q .non H', rt := Q } (start N vs) H) : FnG P w K mg base (k + 1) f fd ps sp := by
  obtain ⟨oc, od, kV, doc, pm, an, cdv, ct, osl, rfl, lk, hcd⟩ := F.ex
  refine ⟨len, fun A out s H args us vs Q E hc hr e0 hb r h => ?_⟩
  have kin := e0.mod.kin.keeps fun b o q => (e0.bs b o q).1
  have nolim := e0.mod.nolimit.keeps fun b o q => (e0.bs b o q).1
  have names : ∀ y ∈ ps.zip us, (defScope st).names.lookup y.1 = some .local ∨ ((defScope st).names.lookup y.1 = some .cell ∧ ((cellsFrom (s.heap.objs.size + 1) (defScope st).names []).lookup y.1).isSome = true) := fun y hy =>
    (S.par y.1 (List.of_mem_zip (a := y.1) (b := y.2) hy).1).imp id fun q => ⟨q, PySem.W.cellsFrom_some _ _ _ (.inl q)⟩
  refine codeAny_call_function hr.depth (kin _ _ lk) rfl S.co S.gen rfl (PySem.W.codeRec_of kin hcd) (hb _ _ _ _ (wpAny_newFunctionEnv_cells S.kind names fun env he s1 c => ?_))
  subst he
  obtain ⟨t, ht, q⟩ := hbody cdv A out s H vs Q E (hc.deeper _) (hr.deeper _) h
  refine ⟨nolim.keeps c.toInCall.keep, codeAny_func (wpAny_mono (ht.nox.run [] s1 (start N vs) H _ (inv_start S hr.hd e0 (len _ _ _ _ h) r c) q) (fun fl s' z => ?_) fun _ _ z => z)⟩
  match fl, z with
  | .ret u, ⟨v, σ', H', J, rv, q⟩ => exact ⟨v, H', J.os, J.bare, J.base, J.hok, rv, q⟩
  | .next, ⟨σ', H', J, q⟩ => exact ⟨V.non, H', J.os, J.bare, J.base, J.hok, rfl, q⟩
  | .brk, ⟨_, _, _, q⟩ => exact q.elim
  | .cont, ⟨_, _, _, q⟩ => exact q.elim
end Own

namespace Own
open PySem PySem.Spec PyProof.Rows L2
/-! the end of a law whose promise asks that no repr is under way -/
section
variable {P : Program} {w : World} {K : PySem.W.Frag} {mg mb : Str → Option Value} {k : Nat} {fa a : Addr} {fd : FuncData} {x : Str} {sp : Sp} {s : Shared} {vs : List Value} {ns : List Int}
def scriptObj (vs : List Value) : Obj := { cls := .type "list", data := .seq vs.toArray }
/-- from a heap in which at most the script is tracked -/
theorem end_from {H : Hp} (kin : K.In s.heap) (hns : s.heap.Ns mainGlobals mg) (hb : s.heap.Ns builtinsNs mb) (hbb : ∀ x : Str, x ≠ "__name__" → mb x = bootBuiltins x) (nl : s.heap.NoLimit) (hg : s.gens = #[])
    (ha : s.heap.get? a = some (scriptObj vs)) (only : ∀ b, H b = none ∨ b = a ∧ H b = some (.frz (scriptObj vs) (.lst (ns.map V.int)))) (out : H a ≠ none → K.lookup a = none) (hok : HOk P w H s.heap) (hr : Room k callerA)
    (F : ∀ base : Heap, K.In base → base.Ns mainGlobals mg → FnG P w K mg base k fa fd [x] sp) (bind : ∀ (s : Shared) (u : Value), BindsTo s fd ⟨[u], []⟩ [(x, u)]) (q : sp [.ref a] H (fun v _ => v = .bl true) fun _ _ _ => False) :
    codeAny (model P w) callerA (.call (.ref fa) ⟨[.ref a], []⟩) (fun r z => r = .ok (.ret (.bool true)) ∧ OldK s.heap z.heap ∧ z.os = s.os ∧ AllBare z.gens) s := by
  have away : ∀ {b : Addr} {o : Obj}, s.heap.get? b = some o → (H b ≠ none → o ≠ scriptObj vs) → H b = none := fun {b o} e n => by
    rcases only b with z | ⟨z1, z2⟩
    · exact z
    · subst z1
      rw [ha] at e
      exact absurd (Option.some.inj e).symm (n (by rw [z2]; exact fun c => nomatch c))
  have put : ∀ {b : Addr} {m : Str → Option Value}, s.heap.Ns b m → (hidT s.heap H).Ns b m := fun ⟨o, es, ep, e, d, r⟩ => ⟨o, es, ep, hidT_get e (away e fun _ c => by
    rw [c] at d
    exact nomatch d), d, r⟩
  have kinB : K.In (hidT s.heap H) := fun b o e => hidT_get (kin b o e) (by
    cases c : H b with
    | none => rfl
    | some u =>
      rcases only b with z | ⟨z, _⟩
      · rw [z] at c
        cases c
      · subst z
        rw [out (by rw [c]; exact fun h => nomatch h)] at e
        cases e)
  obtain ⟨mc, n1, n2⟩ := nl
  have env : Env0 P w K mg (hidT s.heap H) callerA [] s H :=
    ⟨rfl, ⟨kinB, put hns, ⟨mb, put hb, hbb⟩, ⟨mc, put n1, n2⟩⟩, fun _ _ e => of_hidT e, Nat.le_of_eq (hidT_size _ _), trivial, (fun b h => nomatch (show b ∈ ([] : List Addr) from h)), hok, .of_eq hg⟩
  refine codeAny_mono ((F _ kinB (put hns)).run callerA [] s H ⟨[.ref a], []⟩ [.ref a] [.ref a] _ _ rfl hr env (bind s (.ref a)) (.cons rfl .nil) q) fun r z hz => ?_
  match r, hz with
  | .error _, hz => exact hz.elim
  | .ok .next, hz => exact hz.elim
  | .ok .brk, hz => exact hz.elim
  | .ok .cont, hz => exact hz.elim
  | .ok (.ret u), ⟨v, H', os, bare, un, hok', rv, qv⟩ =>
    have qv' : v = .bl true := qv
    subst qv'
    have ru : u = Value.bool true := rv
    subst ru
    refine ⟨rfl, OldK.of_keep fun b o e => ?_, os, bare⟩
    rcases only b with z1 | ⟨z1, z2⟩
    · exact un.keep b o e z1 (fun h => nomatch (show b ∈ ([] : List Addr) from h)) (fun h => nomatch h)
    · obtain ⟨e1, _⟩ := hok b _ z2
      obtain ⟨e2, _⟩ := hok' b _ (un.frzs b _ _ z2)
      have e3 := e1.symm.trans e
      cases e3
      exact e2
theorem end_call (kin : K.In s.heap) (hns : s.heap.Ns mainGlobals mg) (hb : s.heap.Ns builtinsNs mb) (hbb : ∀ x : Str, x ≠ "__name__" → mb x = bootBuiltins x) (nl : s.heap.NoLimit) (hg : s.gens = #[])
    (ha : s.heap.get? a = some (scriptObj vs)) (hi : IntsAre vs ns) (hl : ns.length ≤ sizeLine) (hr : Room k callerA)
    (F : ∀ base : Heap, K.In base → base.Ns mainGlobals mg → FnG P w K mg base k fa fd [x] sp) (bind : ∀ (s : Shared) (u : Value), BindsTo s fd ⟨[u], []⟩ [(x, u)]) (q : ∀ H : Hp, SqL K H a (ns.map V.int) → sp [.ref a] H (fun v _ => v = .bl true) fun _ _ _ => False) :
    codeAny (model P w) callerA (.call (.ref fa) ⟨[.ref a], []⟩) (fun r z => r = .ok (.ret (.bool true)) ∧ OldK s.heap z.heap ∧ z.os = s.os ∧ AllBare z.gens) s := by
  have rv := vals_ints hi
  have lv := hi.length
  by_cases c : K.lookup a = none
  · have at1 : ∀ b, (fun b => if b = a then some (HO.frz (scriptObj vs) (.lst (ns.map V.int))) else none) b = none ∨ b = a ∧ (fun b => if b = a then some (HO.frz (scriptObj vs) (.lst (ns.map V.int))) else none) b = some (.frz (scriptObj vs) (.lst (ns.map V.int))) := fun b => by
      by_cases e : b = a
      · exact .inr ⟨e, if_pos e⟩
      · exact .inl (if_neg e)
    refine end_from (H := fun b => if b = a then some (.frz (scriptObj vs) (.lst (ns.map V.int))) else none) kin hns hb hbb nl hg ha at1 (fun _ => c) (fun b u z => ?_) hr F bind (q _ (.inl (.inr ⟨scriptObj vs, if_pos rfl⟩)))
    rcases at1 b with e | ⟨e1, e2⟩
    · have z2 := e.symm.trans z
      cases z2
    · have z2 := e2.symm.trans z
      cases z2
      subst e1
      exact ⟨ha, by rw [List.length_map]; exact hl, vs, _, rv, ha⟩
  · obtain ⟨o, ho⟩ := Option.ne_none_iff_exists'.mp c
    have e := (kin a o ho).symm.trans ha
    cases e
    exact end_from (ns := ns) (H := fun _ => none) kin hns hb hbb nl hg ha (fun _ => .inl rfl) (fun z => absurd rfl z) (fun b u z => nomatch z) hr F bind (q _ (.inr ⟨_, vs.toArray, _, ho, rfl, rfl, rfl, by rw [List.size_toArray, lv]; exact hl, by simpa using rv⟩))
end
theorem walk_ofG {l : PySem.W.OpenLaw} {n k : Nat} {q : Program} {loose : List Str} {XP : (Str → Option Value) → Heap → Prop} {YP : World → Heap → Prop} {d : DefRec} {K : Params → PySem.W.Frag} {sp : World → Sp} {x : Str} (hn : l.most = some n) (hn2 : n ≤ sizeLine) (hdf : d.params.defaults = []) (hr : Room k callerA)
    (hY : ∀ (w : World) (h : Heap), YP w h → (K w.params).In h)
    (F : ∀ (w : World) (mg : Str → Option Value) (fa : Addr) (h : Heap), (K w.params).In h → h.Ns mainGlobals mg → mg d.name = some (.ref fa) → ∃ fd : FuncData, (∀ (s : Shared) (u : Value), BindsTo s fd ⟨[u], []⟩ [(x, u)]) ∧ ∀ base : Heap, (K w.params).In base → base.Ns mainGlobals mg → FnG l.prog w (K w.params) mg base k fa fd [x] (sp w))
    (hsp : ∀ (w : World) (H : Hp) (a : Addr) (ns : List Int), ns.length ≤ n → SqL (K w.params) H a (ns.map V.int) → sp w [.ref a] H (fun v _ => v = .bl true) fun _ _ _ => False) : PySem.W.WalkO q loose XP YP l.row.toRowW d [] (fun f vs => PySem.call f vs) := by
  refine Att.attach_call hn hdf fun w s0 s1 mg mb fa o pm cd doc a vs ns G Y ho hd hcd hmg hobj hints hlen hg => ?_
  have kin := hY w _ Y
  obtain ⟨fd, bind, hF⟩ := F w mg fa _ kin G.T.g hmg
  exact end_call kin G.T.g G.T.b G.T.builtins G.T.nolimit hg hobj hints (Nat.le_trans hlen hn2) hr hF bind fun H hS => hsp w H a ns hlen hS
end Own

namespace Own
open PySem PySem.Spec PyProof.Rows L2
/-! data: what a value reads as -/
theorem Same.rd {H H' : Hp} {a : Addr} {o : HO} (s : Same H H') (h : Rd H a o) : Rd H' a o := h.elim (fun e => .inl (s _ _ e)) fun ⟨b, e⟩ => .inr ⟨b, s _ _ e⟩
theorem Same.tup {K : PySem.W.Frag} {H H' : Hp} {a : Addr} {xs : List V} (s : Same H H') (h : SqT K H a xs) : SqT K H' a xs := h.elim (fun e => .inl (Same.rd s e)) .inr
section
variable {K : PySem.W.Frag} {H H' : Hp}
mutual
theorem dp_same (s : Same H H') : ∀ {v : V} {d : PyData}, Dp K H v d → Dp K H' v d
  | _, _, .non => .non
  | _, _, .bl b => .bl b
  | _, _, .int i => .int i
  | _, _, .str z => .str z
  | _, _, .lst h a => .lst (s.seq h) (dpAll_same s a)
  | _, _, .tup h a => .tup (Same.tup s h) (dpAll_same s a)
theorem dpAll_same (s : Same H H') : ∀ {vs : List V} {ds : List PyData}, DpAll K H vs ds → DpAll K H' vs ds
  | _, _, .nil => .nil
  | _, _, .cons a r => .cons (dp_same s a) (dpAll_same s r)
end
theorem dpAll_len : ∀ {vs : List V} {ds : List PyData}, DpAll K H vs ds → vs.length = ds.length
  | _, _, .nil => rfl
  | _, _, .cons _ r => by rw [List.length_cons, List.length_cons, dpAll_len r]
theorem dpAll_at : ∀ {vs : List V} {ds : List PyData}, DpAll K H vs ds → ∀ {i : Nat} {v : V}, vs[i]? = some v → ∃ d, ds[i]? = some d ∧ Dp K H v d
  | _, _, .nil, i, v, e => by simp at e
  | _, _, .cons a r, 0, v, e => ⟨_, rfl, by
    have z := Option.some.inj e
    rw [← z]
    exact a⟩
  | _, _, .cons a r, i + 1, v, e => dpAll_at r (i := i) (by simpa using e)
theorem dpAll_at' : ∀ {vs : List V} {ds : List PyData}, DpAll K H vs ds → ∀ {i : Nat} {d : PyData}, ds[i]? = some d → ∃ v, vs[i]? = some v ∧ Dp K H v d
  | _, _, .nil, i, v, e => by simp at e
  | _, _, .cons a r, 0, v, e => ⟨_, rfl, by
    have z := Option.some.inj e
    rw [← z]
    exact a⟩
  | _, _, .cons a r, i + 1, v, e => dpAll_at' r (i := i) (by simpa using e)
theorem dpAll_app : ∀ {vs ws : List V} {ds es : List PyData}, DpAll K H vs ds → DpAll K H ws es → DpAll K H (vs ++ ws) (ds ++ es)
  | _, _, _, _, .nil, b => b
  | _, _, _, _, .cons a r, b => .cons a (dpAll_app r b)
theorem dpAll_take : ∀ {vs : List V} {ds : List PyData} (n : Nat), DpAll K H vs ds → DpAll K H (vs.take n) (ds.take n)
  | _, _, 0, _ => by
    rw [List.take_zero, List.take_zero]
    exact .nil
  | _, _, n + 1, .nil => .nil
  | _, _, n + 1, .cons a r => .cons a (dpAll_take n r)
theorem dpAll_drop : ∀ {vs : List V} {ds : List PyData} (n : Nat), DpAll K H vs ds → DpAll K H (vs.drop n) (ds.drop n)
  | _, _, 0, a => a
  | _, _, n + 1, .nil => .nil
  | _, _, n + 1, .cons a r => dpAll_drop n r
theorem dpAll_rev {vs : List V} {ds : List PyData} (h : DpAll K H vs ds) : DpAll K H vs.reverse ds.reverse := by
  induction vs generalizing ds with
  | nil =>
    cases h
    exact .nil
  | cons v r ih =>
    cases h with
    | cons a b =>
      rw [List.reverse_cons, List.reverse_cons]
      exact dpAll_app (ih b) (.cons a .nil)
/-- the built-in type of data -/
def tyD : PyData → String
  | .none => "NoneType"
  | .bool _ => "bool"
  | .int _ => "int"
  | .str _ => "str"
  | .list _ => "list"
  | .tuple _ => "tuple"
  | .dict _ => "dict"
theorem dp_ty {v : V} {d : PyData} (h : Dp K H v d) : TyX K H v (.type (tyD d)) := by
  cases h with
  | non => exact .base .non
  | bl b => exact .base (.bl b)
  | int i => exact .base (.int i)
  | str z => exact .base (.str z)
  | lst h _ =>
    rcases h with (h | ⟨o, h⟩) | ⟨o, _, _, h, c, _⟩
    · exact .base (.lst h)
    · exact .base (.frz h)
    · exact .kList h c
  | tup h _ =>
    rcases h with (h | ⟨o, h⟩) | ⟨o, _, _, h, c, _⟩
    · exact .base (.tup h)
    · exact .fTuple h
    · exact .kTuple h c
end
section
variable {X : Cx}
/-- repr of data -/
theorem call_reprD (hc : Calm X.A) (hr : Room 1 X.A) : CallR X (.builtin "repr") (fun xs H Q => ∃ v d, xs = [v] ∧ Dp X.K H v d ∧ d.showable = true ∧ d.canLay0 = true ∧ d.depth ≤ 100 ∧ d.shown.length ≤ sizeLine ∧ Q (.str d.shown) H) := by
  intro pins s σ H xs us Q I r h
  obtain ⟨v, d, rfl, hd, hs, hl, hp, hz, q⟩ := h
  obtain ⟨u, rfl, ru⟩ := vals1 r
  obtain ⟨as, rd⟩ := Dp.reads I d v u hd ru
  have hu : X.A.units + (d.depth + 1) < cLine := by have := hr.un; omega
  have fin : ∀ h' t tk, (∀ b o, s.heap.get? b = some o → h'.get? b = some o) → EP X pins σ Q (.str d.shown t) { s with heap := h', toks := tk } := fun h' t tk k => ⟨.str d.shown, H, I.kept (t' := tk) k, ⟨_, rfl⟩, q⟩
  cases hd with
  | non =>
    cases ru
    exact PySem.P.repr_of_none (fin _ _ _ fun _ _ e => e)
  | bl b =>
    cases ru
    exact PySem.P.repr_of_bool (fin _ _ _ fun _ _ e => e)
  | int i =>
    obtain ⟨t, rfl⟩ := ru
    exact PySem.P.repr_of_int (of_decide_eq_true hs) (fin _ _ _ fun _ _ e => e)
  | str z =>
    obtain ⟨t, rfl⟩ := ru
    exact PySem.P.repr_of_str (fin _ _ _ fun _ _ e => e) hz
  | lst h a =>
    cases ru
    exact repr_of_reads' rd hs (PyData.noDict_hsm (PyData.hasDict_of_canLay _ hl)) hc hu (fun _ _ e => e) fin hz
  | tup h a =>
    cases ru
    exact repr_of_reads' rd hs (PyData.noDict_hsm (PyData.hasDict_of_canLay _ hl)) hc hu (fun _ _ e => e) fin hz
end
end Own

namespace Own
open PySem PySem.Spec PyProof.Rows L2
/-! xs.extend(t), t a tuple -/
theorem extend_tup (l : Addr) (its : Array Value) (n : Nat) (b : Addr) (ts : Array Value) (m : Nat) (od : Option Addr) (sl : Array (Option Value)) (h0 : ¬(!its.isEmpty && Builtin.List.listTooLong (its.size + ts.size)) = true) (h1 : its.size ≤ sizeLine) (h2 : its.size + ts.size ≤ sizeLine + 1) :
    Meets (Builtin.«list.extend» ⟨[.ref l, .ref b], []⟩) (fun _ R s => s.heap.get? l = some { cls := .type "list", dict := none, data := .seq its n, slots := #[] } ∧ s.heap.get? b = some { cls := .type "tuple", dict := od, data := .seq ts m, slots := sl } ∧
      R (.ok (.ret Value.none)) { s with heap := s.heap.update l (Obj.mapSeq fun x => x ++ ts), toks := s.toks }) := by
  refine .of_wp fun prog w A R s h => ?_
  obtain ⟨hp, g, d, tk, os⟩ := s
  obtain ⟨hl, hb, h⟩ := h
  have s1 := AutoSeq1.idx_int
  have s2 := AutoSeq1.sub_tuple_tuple
  have s3 := AutoSeq1.sub_list_list
  have s4 := AutoSeq1.sub_tuple_list
  have s5 := AutoSeq1.sub_list_tuple
  have hz : (its ++ ts).size ≤ sizeLine + 1 := by
    rw [Array.size_append]
    exact h2
  wp_walk using (wpAny_updateSeq hl rfl (hz := h1) (_hz' := hz)), AutoSeq1.wpAny_loadPart' hl, AutoSeq1.wpAny_loadPart' hb
  exact ⟨_, rfl, h⟩
section
variable {X : Cx}
def rExtT (K : PySem.W.Frag) : V → List V → Hp → VK → Prop := fun x vs H Q => ∃ l b xs zs, x = .ref l ∧ vs = [.ref b] ∧ H l = some (.lst xs) ∧ SqT K H b zs ∧ xs.length + zs.length ≤ sizeLine ∧ Q .non (upd H l (.lst (xs ++ zs)))
theorem mt_extT : MtM X "list.extend" (rExtT X.K) := by
  intro pins s σ H x vs v us Q I rx rv h
  obtain ⟨l, b, xs, zs, rfl, rfl, hH, hB, hz, q⟩ := h
  cases rx
  obtain ⟨u, rfl, ru⟩ := rv.one
  cases ru
  obtain ⟨z, its, n, r, hl, e⟩ := I.lstM hH
  obtain ⟨ts, r2, ⟨⟨oc, od, dt, sl⟩, e2, c2, m, d2⟩, z2⟩ := I.tuple hB
  have c2' : oc = Value.type "tuple" := c2
  have d2' : dt = Data.seq ts.toArray m := d2
  subst c2' d2'
  have l2 := r2.length
  have sz : its.toArray.size + ts.toArray.size ≤ sizeLine := by
    rw [List.size_toArray, List.size_toArray]
    omega
  have short : ¬(!its.toArray.isEmpty && Builtin.List.listTooLong (its.toArray.size + ts.toArray.size)) = true := by
    rw [notLongL sz, Bool.and_false]
    exact Bool.false_ne_true
  refine call_meets F.slot_list_extend ⟨_, e, rfl⟩ F.entry_list_extend (F.args_list_extend_2 _ _) (extend_tup l its.toArray n b ts.toArray m od sl short (by rw [List.size_toArray]; omega) (by omega)) ⟨e, e2, ?_⟩
  exact ⟨.non, _, I.lset (its' := its ++ ts) hH e (by simp) (r.append r2) (by rw [List.length_append]; omega), rfl, q⟩
end
end Own

namespace K1
open PySem PySem.Spec PyProof.Rows L2 Own
/-! ### data: names, numbers, pairs, groups -/
def nameB (z : Str) : Bool := decide (1 ≤ z.length) && (decide (z.length ≤ 8) && z.cps.toList.all fun c => decide (c ∈ abc.cps.toList))
def isNameD : PyData → Bool
  | .str z => nameB z
  | _ => false
def isNumD : PyData → Bool
  | .int i => decide (0 ≤ i)
  | _ => false
def isPairD : PyData → Bool
  | .tuple ds => decide (ds.length = 2)
  | _ => false
mutual
/-- data of a size that a rule takes -/
def okD : PyData → Bool
  | .none => true
  | .bool _ => true
  | .int _ => true
  | .str z => PyData.strOk z && decide (z.length ≤ 1000)
  | .list ds => decide (ds.length ≤ 1000) && okAll ds
  | .tuple ds => decide (ds.length ≤ 1000) && okAll ds
  | .dict _ => false
def okAll : List PyData → Bool
  | [] => true
  | d :: r => okD d && okAll r
end
theorem okAll_mem : ∀ {ds : List PyData}, okAll ds = true → ∀ d ∈ ds, okD d = true
  | [], _, d, h => nomatch h
  | x :: r, e, d, h => by
    obtain ⟨e1, e2⟩ := Bool.and_eq_true_iff.mp (show (okD x && okAll r) = true from e)
    rcases List.mem_cons.mp h with q | q
    · rw [q]
      exact e1
    · exact okAll_mem e2 d q
mutual
theorem ok_lay : ∀ d : PyData, okD d = true → d.canLay0 = true
  | .none, _ => rfl
  | .bool _, _ => rfl
  | .int _, _ => rfl
  | .str z, h => (Bool.and_eq_true_iff.mp h).1
  | .list ds, h => okAll_lay ds (Bool.and_eq_true_iff.mp h).2
  | .tuple ds, h => okAll_lay ds (Bool.and_eq_true_iff.mp h).2
  | .dict _, h => nomatch h
theorem okAll_lay : ∀ ds : List PyData, okAll ds = true → PyData.canLayAll0 ds = true
  | [], _ => rfl
  | d :: r, h => by
    obtain ⟨e1, e2⟩ := Bool.and_eq_true_iff.mp (show (okD d && okAll r) = true from h)
    show (d.canLay0 && PyData.canLayAll0 r) = true
    rw [ok_lay d e1, okAll_lay r e2]
    rfl
end
theorem dep_mem : ∀ {ds : List PyData} {d : PyData}, d ∈ ds → d.depth ≤ PyData.depthAll ds
  | [], _, h => nomatch h
  | x :: r, d, h => by
    show d.depth ≤ max x.depth (PyData.depthAll r)
    rcases List.mem_cons.mp h with q | q
    · rw [q]
      exact Nat.le_max_left _ _
    · exact Nat.le_trans (dep_mem q) (Nat.le_max_right _ _)
structure Fit (d : PyData) : Prop where
  ok : okD d = true
  dep : d.depth ≤ 60
theorem Fit.lay {d : PyData} (h : Fit d) : d.canLay0 = true := ok_lay d h.ok
theorem Fit.str {d : PyData} (h : Fit d) : ∀ z, d = .str z → z.length ≤ sizeLine := fun z e => by
  subst e
  have q := of_decide_eq_true (Bool.and_eq_true_iff.mp h.ok).2
  rw [sizeLine_eq]
  omega
theorem Fit.shaped {d : PyData} (h : Fit d) : SeqAt.shaped d = true := by
  show (d.canLay0 && decide (d.depth ≤ 64)) = true
  rw [h.lay, decide_eq_true (by have := h.dep; omega)]
  rfl
theorem Fit.kid {ds : List PyData} (h : Fit (.tuple ds)) {d : PyData} (m : d ∈ ds) : Fit d := by
  refine ⟨okAll_mem (Bool.and_eq_true_iff.mp h.ok).2 d m, ?_⟩
  have q : PyData.depthAll ds + 1 ≤ 60 := h.dep
  have r := dep_mem m
  omega
theorem Fit.kidL {ds : List PyData} (h : Fit (.list ds)) {d : PyData} (m : d ∈ ds) : Fit d := by
  refine ⟨okAll_mem (Bool.and_eq_true_iff.mp h.ok).2 d m, ?_⟩
  have q : PyData.depthAll ds + 1 ≤ 60 := h.dep
  have r := dep_mem m
  omega
theorem Fit.few {ds : List PyData} (h : Fit (.tuple ds)) : ds.length ≤ 1000 := of_decide_eq_true (Bool.and_eq_true_iff.mp h.ok).1
def spD1 (K : PySem.W.Frag) (f : PyData → Bool) : Sp := fun vs H Q _ => ∃ v d, vs = [v] ∧ Dp K H v d ∧ Fit d ∧ ∀ H', Same H H' → Q (.bl (f d)) H'
def isStrD : PyData → Bool
  | .str _ => true
  | _ => false
def isIntD : PyData → Bool
  | .int _ => true
  | .bool _ => true
  | _ => false
def isBoolD : PyData → Bool
  | .bool _ => true
  | _ => false
def isTupD : PyData → Bool
  | .tuple _ => true
  | _ => false
def isListD : PyData → Bool
  | .list _ => true
  | _ => false
theorem kt_str (d : PyData) : kitB (tyD d) "str" = some (isStrD d) := by
  cases d with
  | none => exact (by decide +kernel : kitB "NoneType" "str" = some false)
  | bool _ => exact (by decide +kernel : kitB "bool" "str" = some false)
  | int _ => exact (by decide +kernel : kitB "int" "str" = some false)
  | str _ => exact (by decide +kernel : kitB "str" "str" = some true)
  | list _ => exact (by decide +kernel : kitB "list" "str" = some false)
  | tuple _ => exact (by decide +kernel : kitB "tuple" "str" = some false)
  | dict _ => exact (by decide +kernel : kitB "dict" "str" = some false)
theorem kt_int (d : PyData) : kitB (tyD d) "int" = some (isIntD d) := by
  cases d with
  | none => exact (by decide +kernel : kitB "NoneType" "int" = some false)
  | bool _ => exact (by decide +kernel : kitB "bool" "int" = some true)
  | int _ => exact (by decide +kernel : kitB "int" "int" = some true)
  | str _ => exact (by decide +kernel : kitB "str" "int" = some false)
  | list _ => exact (by decide +kernel : kitB "list" "int" = some false)
  | tuple _ => exact (by decide +kernel : kitB "tuple" "int" = some false)
  | dict _ => exact (by decide +kernel : kitB "dict" "int" = some false)
theorem kt_bool (d : PyData) : kitB (tyD d) "bool" = some (isBoolD d) := by
  cases d with
  | none => exact (by decide +kernel : kitB "NoneType" "bool" = some false)
  | bool _ => exact (by decide +kernel : kitB "bool" "bool" = some true)
  | int _ => exact (by decide +kernel : kitB "int" "bool" = some false)
  | str _ => exact (by decide +kernel : kitB "str" "bool" = some false)
  | list _ => exact (by decide +kernel : kitB "list" "bool" = some false)
  | tuple _ => exact (by decide +kernel : kitB "tuple" "bool" = some false)
  | dict _ => exact (by decide +kernel : kitB "dict" "bool" = some false)
theorem kt_tuple (d : PyData) : kitB (tyD d) "tuple" = some (isTupD d) := by
  cases d with
  | none => exact (by decide +kernel : kitB "NoneType" "tuple" = some false)
  | bool _ => exact (by decide +kernel : kitB "bool" "tuple" = some false)
  | int _ => exact (by decide +kernel : kitB "int" "tuple" = some false)
  | str _ => exact (by decide +kernel : kitB "str" "tuple" = some false)
  | list _ => exact (by decide +kernel : kitB "list" "tuple" = some false)
  | tuple _ => exact (by decide +kernel : kitB "tuple" "tuple" = some true)
  | dict _ => exact (by decide +kernel : kitB "dict" "tuple" = some false)
theorem kt_list (d : PyData) : kitB (tyD d) "list" = some (isListD d) := by
  cases d with
  | none => exact (by decide +kernel : kitB "NoneType" "list" = some false)
  | bool _ => exact (by decide +kernel : kitB "bool" "list" = some false)
  | int _ => exact (by decide +kernel : kitB "int" "list" = some false)
  | str _ => exact (by decide +kernel : kitB "str" "list" = some false)
  | list _ => exact (by decide +kernel : kitB "list" "list" = some true)
  | tuple _ => exact (by decide +kernel : kitB "tuple" "list" = some false)
  | dict _ => exact (by decide +kernel : kitB "dict" "list" = some false)
theorem isi_d {K : PySem.W.Frag} {H : Hp} {v : V} {d : PyData} {T : String} {b : Bool} (h : Dp K H v d) (e : kitB (tyD d) T = some b) : ∃ t, TyX K H v t ∧ PySem.W.kitOne K t (.type T) = some b := ⟨_, dp_ty h, kit_ty e⟩
theorem rep_map (z : Str) (i : Nat) (c : Nat) (f : Nat → Bool) (h : z.cps[i]? = some c) : (z.cps.toList.take (i + 1)).map f = (z.cps.toList.take i).map f ++ [f c] := by
  rw [List.take_add_one, show z.cps.toList[i]? = some c from by rw [Array.getElem?_toList]; exact h, List.map_append]
  rfl
section
variable {P : Program} {w : World} {K : PySem.W.Frag} {mg : Str → Option Value} {base : Heap}
end
end K1

namespace K1
open PySem PySem.Spec PyProof.Rows L2 Own
def msgD (d : PyData) : Bool := PyData.eqv d (.str "") || isNameD d
def isGroupD : PyData → Bool
  | .tuple [m, .tuple (_ :: _)] => msgD m
  | _ => false
section
variable {P : Program} {w : World} {K : PySem.W.Frag} {mg : Str → Option Value} {base : Heap}
end
end K1

namespace K1
open PySem PySem.Spec PyProof.Rows L2 Own
theorem pair_of : ∀ {d : PyData}, isPairD d = true → ∃ m i, d = .tuple [m, i]
  | .tuple [], h => nomatch h
  | .tuple [_], h => nomatch h
  | .tuple [m, i], _ => ⟨m, i, rfl⟩
  | .tuple (_ :: _ :: _ :: r), h => by
    have q := of_decide_eq_true (show decide (r.length + 3 = 2) = true from h)
    omega
  | .none, h => nomatch h
  | .bool _, h => nomatch h
  | .int _, h => nomatch h
  | .str _, h => nomatch h
  | .list _, h => nomatch h
  | .dict _, h => nomatch h
theorem group_pair : ∀ {d : PyData}, isGroupD d = true → isPairD d = true
  | .tuple [_, .tuple (_ :: _)], _ => rfl
theorem group_no {d : PyData} (h : isPairD d = false) : isGroupD d = false := by
  cases e : isGroupD d with
  | false => rfl
  | true =>
    rw [group_pair e] at h
    cases h
theorem fit_empty : Fit (.str "") := ⟨by decide +kernel, by decide⟩
/-- a pair's two values -/
theorem dp_pair {K : PySem.W.Frag} {H : Hp} {v : V} {m i : PyData} (h : Dp K H v (.tuple [m, i])) : ∃ a x y, v = .ref a ∧ SqT K H a [x, y] ∧ Dp K H x m ∧ Dp K H y i := by
  cases h with
  | tup hs ha =>
    cases ha with
    | cons hm r =>
      cases r with
      | cons hi n =>
        cases n
        exact ⟨_, _, _, rfl, hs, hm, hi⟩
section
variable {P : Program} {w : World} {K : PySem.W.Frag} {mg : Str → Option Value} {base : Heap}
end
end K1

namespace K1
open PySem PySem.Spec PyProof.Rows L2 Own
/-! ### trees -/
def inD (ns : List Str) : PyData → Bool
  | .str z => decide (z ∈ ns)
  | _ => false
def isLeafD (ns : List Str) : PyData → Bool
  | .tuple [n, i] => inD ns n && isNumD i
  | _ => false
theorem leaf_no {ns : List Str} {d : PyData} (h : isPairD d = false) : isLeafD ns d = false := by
  cases e : isLeafD ns d with
  | false => rfl
  | true =>
    match d, e with
    | .tuple [_, _], _ => cases h
def spLeaf (C : Addr) (K : PySem.W.Frag) : Sp := fun vs H Q _ => ∃ x v ls ls' T d, vs = [.ref x, v] ∧ KIn C H x ls ls' T ∧ Dp K H v d ∧ Fit d ∧ ∀ H', Same H H' → Q (.bl (isLeafD (nms ls) d)) H'
section
variable {P : Program} {w : World} {K : PySem.W.Frag} {mg : Str → Option Value} {base : Heap}
/-- what a table says of data -/
theorem in_dp {C x : Addr} {H : Hp} {v : V} {d : PyData} {ls ls' : List Ln} {T : Tb} {R : Bool → Hp → Prop} (hd : Dp K H v d) (kin : KIn C H x ls ls' T) (k : R (inD (nms ls) d) H) : spIn C K [.ref x, v] H (fun v H1 => ∃ b, v = .bl b ∧ R b H1) E0 := by
  refine ⟨x, v, ls, ls', T, rfl, kin, ?_⟩
  cases hd with
  | str z => exact .inl ⟨z, rfl, _, rfl, k⟩
  | non => exact .inr ⟨_, .base .non, kit_ty (kt_str .none), _, rfl, k⟩
  | bl b => exact .inr ⟨_, .base (.bl b), kit_ty (kt_str (.bool b)), _, rfl, k⟩
  | int i => exact .inr ⟨_, .base (.int i), kit_ty (kt_str (.int i)), _, rfl, k⟩
  | lst hs ha => exact .inr ⟨_, dp_ty (.lst hs ha), kit_ty (kt_str (.list _)), _, rfl, k⟩
  | tup hs ha => exact .inr ⟨_, dp_ty (.tup hs ha), kit_ty (kt_str (.tuple _)), _, rfl, k⟩
end
end K1

namespace K1
open PySem PySem.Spec PyProof.Rows L2 Own
mutual
/-- how many values stand in data -/
def ndD : PyData → Nat
  | .list ds => ndAll ds + 1
  | .tuple ds => ndAll ds + 1
  | _ => 1
def ndAll : List PyData → Nat
  | [] => 0
  | d :: r => ndD d + ndAll r
end
theorem nd_pos : ∀ d : PyData, 1 ≤ ndD d
  | .none => Nat.le_refl _
  | .bool _ => Nat.le_refl _
  | .int _ => Nat.le_refl _
  | .str _ => Nat.le_refl _
  | .list _ => Nat.le_add_left _ _
  | .tuple _ => Nat.le_add_left _ _
  | .dict _ => Nat.le_refl _
theorem ndAll_app : ∀ (a b : List PyData), ndAll (a ++ b) = ndAll a + ndAll b
  | [], b => (Nat.zero_add _).symm
  | d :: r, b => by
    show ndD d + ndAll (r ++ b) = ndD d + ndAll r + ndAll b
    rw [ndAll_app r b, Nat.add_assoc]
theorem ndAll_len : ∀ ds : List PyData, ds.length ≤ ndAll ds
  | [] => Nat.le_refl _
  | d :: r => by
    have a := nd_pos d
    have b := ndAll_len r
    show r.length + 1 ≤ ndD d + ndAll r
    omega
theorem nd_mem : ∀ {ds : List PyData} {d : PyData}, d ∈ ds → ndD d ≤ ndAll ds
  | [], _, h => nomatch h
  | x :: r, d, h => by
    show ndD d ≤ ndD x + ndAll r
    rcases List.mem_cons.mp h with q | q
    · rw [q]
      omega
    · have := nd_mem q
      omega
def kidsD : PyData → List PyData
  | .tuple [_, .tuple cs] => cs
  | _ => []
theorem kids_nd (d : PyData) : ndAll (kidsD d) < ndD d := by
  unfold kidsD
  split
  · rename_i m cs
    show ndAll cs < (ndD m + ((ndAll cs + 1) + 0)) + 1
    omega
  · exact nd_pos _
def treeD (ns : List Str) (d : PyData) : Bool := if isGroupD d = true then (kidsD d).attach.all fun c => treeD ns c.1 else isLeafD ns d
termination_by ndD d
decreasing_by
  have a := kids_nd d
  have b := nd_mem c.2
  omega
theorem tree_eq (ns : List Str) (d : PyData) : treeD ns d = if isGroupD d = true then (kidsD d).all (treeD ns) else isLeafD ns d := by
  rw [treeD]
  split
  · rw [Bool.eq_iff_iff, List.all_eq_true, List.all_eq_true]
    exact ⟨fun h c hc => h ⟨c, hc⟩ (List.mem_attach _ _), fun h c _ => h c.1 c.2⟩
  · rfl
theorem dpAll_snoc {K : PySem.W.Frag} {H : Hp} : ∀ {vs : List V} {ds : List PyData}, DpAll K H vs ds → vs ≠ [] → ∃ ws y es e, vs = ws ++ [y] ∧ ds = es ++ [e] ∧ DpAll K H ws es ∧ Dp K H y e
  | _, _, .nil, n => absurd rfl n
  | v :: [], d :: _, .cons a .nil, _ => ⟨[], v, [], d, rfl, rfl, .nil, a⟩
  | v :: u :: r, d :: _, .cons a b, _ => by
    obtain ⟨ws, y, es, e, h1, h2, h3, h4⟩ := dpAll_snoc b (fun z => nomatch z)
    exact ⟨v :: ws, y, d :: es, e, by rw [h1]; rfl, by rw [h2]; rfl, .cons a h3, h4⟩
theorem group_of {d : PyData} (h : isGroupD d = true) : ∃ m c r, d = .tuple [m, .tuple (c :: r)] := by
  match d, h with
  | .tuple [m, .tuple (c :: r)], _ => exact ⟨m, c, r, rfl⟩
def spTree (C : Addr) (K : PySem.W.Frag) : Sp := fun vs H Q _ => ∃ x v ls ls' T d, vs = [.ref x, v] ∧ KIn C H x ls ls' T ∧ Dp K H v d ∧ Fit d ∧ ndD d ≤ 1000000 ∧ ∀ H', Same H H' → Q (.bl (treeD (nms ls) d)) H'
section
variable {P : Program} {w : World} {K : PySem.W.Frag} {mg : Str → Option Value} {base : Heap}
end
end K1

namespace K1
open PySem PySem.Spec PyProof.Rows L2 Own
/-! ### trees drawn -/
def msgs : List Str := ["", "all", "sub", "m"]
def LeafN (ns : List Str) (d : PyData) : Prop := ∃ z i, d = .tuple [.str z, .int i] ∧ z ∈ ns ∧ 0 ≤ i ∧ i < 9
def TreeN (ns : List Str) : Nat → PyData → Prop
  | 0, d => LeafN ns d
  | n + 1, d => LeafN ns d ∨ ∃ m cs, d = .tuple [.str m, .tuple cs] ∧ m ∈ msgs ∧ 1 ≤ cs.length ∧ cs.length ≤ 4 ∧ ∀ c ∈ cs, TreeN ns n c
theorem TreeN.leaf {ns : List Str} {d : PyData} (h : LeafN ns d) : ∀ n, TreeN ns n d
  | 0 => h
  | _ + 1 => .inl h
theorem msgs_ok : ∀ m ∈ msgs, okD (.str m) = true := by decide +kernel
theorem name_ok {z : Str} (h : NameOk z) : okD (.str z) = true := by
  show (PyData.strOk z && decide (z.length ≤ 1000)) = true
  rw [show PyData.strOk z = true from name_low h, decide_eq_true (by have := h.2.1; omega)]
  rfl
theorem okAll_of : ∀ {ds : List PyData}, (∀ d ∈ ds, okD d = true) → okAll ds = true
  | [], _ => rfl
  | d :: r, h => by
    show (okD d && okAll r) = true
    rw [h d (List.mem_cons_self ..), okAll_of fun x hx => h x (List.mem_cons_of_mem _ hx)]
    rfl
theorem depAll_le : ∀ {ds : List PyData} {n : Nat}, (∀ d ∈ ds, d.depth ≤ n) → PyData.depthAll ds ≤ n
  | [], _, _ => Nat.zero_le _
  | d :: r, n, h => Nat.max_le.mpr ⟨h d (List.mem_cons_self ..), depAll_le fun x hx => h x (List.mem_cons_of_mem _ hx)⟩
theorem ndAll_le : ∀ {ds : List PyData} {n : Nat}, (∀ d ∈ ds, ndD d ≤ n) → ndAll ds ≤ ds.length * n
  | [], _, _ => Nat.zero_le _
  | d :: r, n, h => by
    have a := h d (List.mem_cons_self ..)
    have b := ndAll_le (ds := r) (n := n) fun x hx => h x (List.mem_cons_of_mem _ hx)
    show ndD d + ndAll r ≤ (r.length + 1) * n
    rw [Nat.add_mul, Nat.one_mul]
    omega
theorem leaf_ok {ns : List Str} (nok : ∀ z ∈ ns, NameOk z) {d : PyData} (h : LeafN ns d) : okD d = true ∧ d.depth ≤ 1 ∧ ndD d = 3 := by
  obtain ⟨z, i, rfl, hz, _⟩ := h
  refine ⟨?_, (by show max 0 (max 0 0) + 1 ≤ 1; decide), rfl⟩
  show (true && (okD (.str z) && (okD (.int i) && true))) = true
  rw [name_ok (nok z hz)]
  rfl
theorem tree_ok {ns : List Str} (nok : ∀ z ∈ ns, NameOk z) : ∀ (n : Nat) (d : PyData), TreeN ns n d → okD d = true ∧ d.depth ≤ 2 * n + 1 ∧ ndD d ≤ 3 * 5 ^ n
  | 0, d, h => by
    obtain ⟨a, b, c⟩ := leaf_ok nok h
    exact ⟨a, by omega, by rw [c]; decide⟩
  | n + 1, d, h => by
    have p5 : 1 ≤ 5 ^ n := Nat.one_le_pow _ _ (by decide)
    have e5 : 5 ^ (n + 1) = 5 ^ n * 5 := Nat.pow_succ ..
    rcases h with h | ⟨m, cs, rfl, hm, l1, l4, hc⟩
    · obtain ⟨a, b, c⟩ := leaf_ok nok h
      exact ⟨a, by omega, by rw [c, e5]; omega⟩
    · have ih := fun c hm => tree_ok nok n c (hc c hm)
      refine ⟨?_, ?_, ?_⟩
      · show (true && (okD (.str m) && ((decide (cs.length ≤ 1000) && okAll cs) && true))) = true
        rw [msgs_ok m hm, decide_eq_true (by omega), okAll_of fun c hc => (ih c hc).1]
        rfl
      · have q := depAll_le fun c hc => (ih c hc).2.1
        show max 0 (max (PyData.depthAll cs + 1) 0) + 1 ≤ _
        omega
      · have q := ndAll_le fun c hc => (ih c hc).2.2
        show (1 + ((ndAll cs + 1) + 0)) + 1 ≤ _
        have r : cs.length * (3 * 5 ^ n) ≤ 4 * (3 * 5 ^ n) := Nat.mul_le_mul_right _ l4
        rw [e5]
        omega
theorem tree_fit {ns : List Str} (nok : ∀ z ∈ ns, NameOk z) {n : Nat} (hn : n ≤ 8) {d : PyData} (h : TreeN ns n d) : Fit d := by
  obtain ⟨a, b, _⟩ := tree_ok nok n d h
  exact ⟨a, by omega⟩
/-- all but what stands at s and at r stays -/
def Keep2 (s r : Addr) (H H' : Hp) : Prop := ∀ b o, b ≠ s → b ≠ r → H b = some o → H' b = some o
theorem Keep2.refl (s r : Addr) (H : Hp) : Keep2 s r H H := fun _ _ _ _ e => e
theorem Keep2.trans {s r : Addr} {H H1 H2 : Hp} (a : Keep2 s r H H1) (b : Keep2 s r H1 H2) : Keep2 s r H H2 := fun c o n m e => b c o n m (a c o n m e)
theorem Keep2.of {s r : Addr} {H H' : Hp} (h : Keep s H H') : Keep2 s r H H' := fun b o n _ e => h b o n e
theorem Keep2.ofS {s r : Addr} {H H' : Hp} (h : Same H H') : Keep2 s r H H' := fun b o _ _ e => h b o e
def RoomAt (H : Hp) (r : Addr) : Prop := ∃ z : Int, H r = some (.lst [.int z]) ∧ -1000000 ≤ z ∧ z ≤ 1000000
/-- only lists change -/
def Stay (H H' : Hp) : Prop := ∀ a o, (∀ xs, o ≠ HO.lst xs) → H a = some o → H' a = some o
theorem Stay.refl (H : Hp) : Stay H H := fun _ _ _ e => e
theorem Stay.trans {H H1 H2 : Hp} (a : Stay H H1) (b : Stay H1 H2) : Stay H H2 := fun c o n e => b c o n (a c o n e)
theorem Stay.of {H H' : Hp} (h : Same H H') : Stay H H' := fun b o _ e => h b o e
theorem Keep.stay {s : Addr} {H H' : Hp} (k : Keep s H H') (q : Src H s) : Stay H H' := fun a o n e => by
  obtain ⟨u, v, z, _⟩ := q
  exact k a o (fun h => by
    subst h
    rw [z] at e
    exact n _ (Option.some.inj e).symm) e
theorem Keep2.stay {s r : Addr} {H H' : Hp} {xs : List V} (k : Keep2 s r H H') (q : Src H s) (hr : H r = some (.lst xs)) : Stay H H' := fun a o n e => by
  obtain ⟨u, v, z, _⟩ := q
  exact k a o (fun h => by
    subst h
    rw [z] at e
    exact n _ (Option.some.inj e).symm) (fun h => by
    subst h
    rw [hr] at e
    exact n _ (Option.some.inj e).symm) e
mutual
/-- no list stands in it -/
def noList : PyData → Bool
  | .list _ => false
  | .tuple ds => noListAll ds
  | _ => true
def noListAll : List PyData → Bool
  | [] => true
  | d :: r => noList d && noListAll r
end
theorem noListAll_of : ∀ {ds : List PyData}, (∀ d ∈ ds, noList d = true) → noListAll ds = true
  | [], _ => rfl
  | d :: r, h => by
    show (noList d && noListAll r) = true
    rw [h d (List.mem_cons_self ..), noListAll_of fun x hx => h x (List.mem_cons_of_mem _ hx)]
    rfl
theorem sqT_stay {K : PySem.W.Frag} {H H' : Hp} (s : Stay H H') {a : Addr} {xs : List V} (h : SqT K H a xs) : SqT K H' a xs := by
  rcases h with (e | ⟨o, e⟩) | h
  · exact .inl (.inl (s _ _ (fun _ z => nomatch z) e))
  · exact .inl (.inr ⟨o, s _ _ (fun _ z => nomatch z) e⟩)
  · exact .inr h
section
variable {K : PySem.W.Frag} {H H' : Hp}
mutual
theorem dp_stay (s : Stay H H') : ∀ {v : V} {d : PyData}, Dp K H v d → noList d = true → Dp K H' v d
  | _, _, .non, _ => .non
  | _, _, .bl b, _ => .bl b
  | _, _, .int i, _ => .int i
  | _, _, .str z, _ => .str z
  | _, _, .lst _ _, n => absurd n (fun z => nomatch z)
  | _, _, .tup h a, n => .tup (sqT_stay s h) (dpAll_stay s a n)
theorem dpAll_stay (s : Stay H H') : ∀ {vs : List V} {ds : List PyData}, DpAll K H vs ds → noListAll ds = true → DpAll K H' vs ds
  | _, _, .nil, _ => .nil
  | _, _, .cons a r, n => .cons (dp_stay s a (Bool.and_eq_true_iff.mp n).1) (dpAll_stay s r (Bool.and_eq_true_iff.mp n).2)
end
end
theorem tree_flat {ns : List Str} : ∀ (n : Nat) (d : PyData), TreeN ns n d → noList d = true
  | 0, d, h => by
    obtain ⟨z, i, rfl, _⟩ := h
    rfl
  | n + 1, d, h => by
    rcases h with ⟨z, i, rfl, _⟩ | ⟨m, cs, rfl, hm, l1, l4, hc⟩
    · rfl
    · show (true && (noListAll cs && true)) = true
      rw [noListAll_of fun c hcm => tree_flat n c (hc c hcm)]
      rfl
theorem q_ifR {c : TT} {t u : TS} {D : Ends} {σ : L2.St} {H : Hp} (R : Hp → Prop) (yes : ∀ H2, R H2 → t D σ H2) (h : ∀ Z : Hp → Prop, (∀ H2, R H2 → Z H2) → c σ H (fun b H1 => if b = true then Z H1 else u D σ H1)) : tIfS c t u D σ H := h _ yes
theorem four3 {d : Int} (h0 : 0 ≤ d) (h1 : d < 4) : ∃ m, atI [V.str "", V.str "all", V.str "sub", V.str "m"] d = some (V.str m) ∧ m ∈ msgs := by
  have c : d = 0 ∨ d = 1 ∨ d = 2 ∨ d = 3 := by omega
  rcases c with e | e | e | e
  · subst e
    exact ⟨_, rfl, by decide +kernel⟩
  · subst e
    exact ⟨_, rfl, by decide +kernel⟩
  · subst e
    exact ⟨_, rfl, by decide +kernel⟩
  · subst e
    exact ⟨_, rfl, by decide +kernel⟩
theorem stay_upd {H : Hp} {c : Addr} {xs : List V} {o : HO} (h : H c = some (.lst xs)) : Stay H (upd H c o) := fun a u n e => by
  rw [upd_ne (fun z => by
    subst z
    rw [h] at e
    exact n _ (Option.some.inj e).symm)]
  exact e
theorem str_at {ns : List Str} {d : Int} (h0 : 0 ≤ d) (h : d < (ns.length : Int)) : ∃ x, x ∈ ns ∧ atI (ns.map V.str) d = some (.str x) := by
  obtain ⟨k, rfl⟩ : ∃ k : Nat, d = (k : Int) := ⟨d.toNat, by omega⟩
  have hk : k < ns.length := by omega
  exact ⟨ns[k], List.getElem_mem hk, atI_nat (by rw [List.getElem?_map, List.getElem?_eq_getElem hk]; rfl)⟩
theorem fit_list {ds : List PyData} (h : ∀ d ∈ ds, Fit d) (n : ds.length ≤ 1000) (dp : ∀ d ∈ ds, d.depth ≤ 50) : Fit (.list ds) := by
  refine ⟨?_, ?_⟩
  · show (decide (ds.length ≤ 1000) && okAll ds) = true
    rw [decide_eq_true n, okAll_of fun d hd => (h d hd).ok]
    rfl
  · have q := depAll_le dp
    show PyData.depthAll ds + 1 ≤ 60
    omega
def p4 : Nat → Nat
  | 0 => 1
  | n + 1 => p4 n * 4
theorem p4_pos : ∀ n, 1 ≤ p4 n
  | 0 => Nat.le_refl _
  | n + 1 => by
    have := p4_pos n
    show 1 ≤ p4 n * 4
    omega
def spRT (K : PySem.W.Frag) (m : Nat) : Sp := fun vs H Q _ => ∃ (s a r : Addr) (ns : List Str) (n : Nat) (z : Int), vs = [.ref s, .ref a, .int (n : Nat), .ref r] ∧ n < m ∧ n ≤ 8 ∧ Src H s ∧ H a = some (.lst (ns.map V.str)) ∧ 1 ≤ ns.length ∧ ns.length ≤ 8 ∧ (∀ x ∈ ns, NameOk x) ∧ H r = some (.lst [.int z]) ∧ z.natAbs + p4 n ≤ 1000000 ∧
  ∀ H' v d z', Keep2 s r H H' → Src H' s → H' r = some (.lst [.int z']) → z' ≤ z → z ≤ z' + (p4 n : Int) → Dp K H' v d → TreeN ns n d → Q v H'
section
variable {P : Program} {w : World} {K : PySem.W.Frag} {mg : Str → Option Value} {base : Heap}
abbrev nT : List Str := ["source", "labels", "depth", "room", "children", "k"]
theorem scTree : FnScope nT ["source", "labels", "depth", "room"] (defScope sLawRandomTree) := ⟨rfl, rfl, rfl, by decide +kernel, rfl, by decide +kernel, by decide +kernel⟩
theorem tree_none {f : Addr} {fd : FuncData} : FnOk P w K mg base CX0 1 f fd ["source", "labels", "depth", "room"] (spRT K 0) := by
  have no : ∀ vs H Q E, ¬ spRT K 0 vs H Q E := fun vs H Q E ⟨_, _, _, _, _, _, _, h, _⟩ => Nat.not_lt_zero _ h
  exact ⟨fun vs H Q E h => absurd h (no vs H Q E), fun A out s H args us vs Q E _ _ _ _ h => absurd h (no vs H Q E)⟩
theorem tree_step {f g : Addr} {fd gd : FuncData} {m : Nat} (F : Fun K "_law_random_tree" "_law_random_tree" sLawRandomTree f fd) (IH : FnOk P w K mg base CX0 (m + 1) f fd ["source", "labels", "depth", "room"] (spRT K m)) (bT : Binds K fd ["source", "labels", "depth", "room"] []) (mT : mg "_law_random_tree" = some (.ref f))
    (GD : FnOk P w K mg base CX0 1 g gd ["source", "many"] spDraw) (kD : PySem.W.keepIn K (.ref g) = true) (bD : Binds K gd ["source", "many"] []) (mD : mg "_law_draw" = some (.ref g)) (mr : mg "range" = none) (ml : mg "len" = none) (mt : mg "tuple" = none) :
    FnOk P w K mg base CX0 (m + 2) f fd ["source", "labels", "depth", "room"] (spRT K (m + 1)) := by
  refine F.ok scTree (fun vs H Q E h => ?_) (fun cdv A outer s_ H vs Q E hr h => ?_)
  · obtain ⟨s, a, r, ns, n, z, rfl, _⟩ := h
    rfl
  · obtain ⟨s, a, r, ns, n, z, rfl, hnm, n8, src, ha, l1, l8, nok, hR, zb, k⟩ := h
    have hr1 : Room 1 _ := hr.mono (by omega)
    refine ⟨_, pss_cons (ps_if (PW.pt (pw_or (pt_cmpR op_eq (pv 2) pe_int (nomark _)) (pw_or (pt_cmpR op_lt (pe_ix ix_list (pv 3) pe_int (fun _ _ => rfl)) pe_int (nomark _)) (pw_or1 (pt_cmpR op_eq (pe_call GD hr1 (by rfl) mD kD bD .nil pass0 (pa_cons (pv 0) (pa_cons pe_int pa_nil))) pe_int (nomark _))))))
        (pss_cons (ps_asg (pe_op op_sub (pe_ix ix_list (pv 3) pe_int (fun _ _ => rfl)) pe_int) (pg_sub (pv 3) pe_int set_list))
        (pss_one (ps_ret (pe_tup (pa_cons (pe_ix ix_list (pv 1) (pe_call GD hr1 (by rfl) mD kD bD .nil pass0 (pa_cons (pv 0) (pa_cons (pe_callB call_len_seq (by rfl) ml PySem.boot_len (pa_cons (pv 1) pa_nil)) pa_nil))) (fun _ _ => rfl)) (pa_cons (pe_call GD hr1 (by rfl) mD kD bD .nil pass0 (pa_cons (pv 0) (pa_cons pe_int pa_nil))) pa_nil)))))) pss_nil)
      (pss_cons (ps_set (i := 4) scTree.nd rfl (Or.inl rfl) (pe_lst pa_nil))
      (pss_cons (ps_for PassesOwn.never rfl (pi_range1 (by rfl) mr (pa_cons (pe_op op_add pe_int (pe_call GD hr1 (by rfl) mD kD bD .nil pass0 (pa_cons (pv 0) (pa_cons pe_int pa_nil)))) pa_nil)) (pg_name (i := 5) scTree.nd rfl (Or.inl rfl))
        (pss_one (ps_if (PW.pt (pw_or (pt_cmpR op_gt (pe_ix ix_list (pv 3) pe_int (fun _ _ => rfl)) pe_int (nomark _)) (pw_or1 (pt_cmpR (op_eqD hr.units) (pv 4) (pe_lst pa_nil) (nomark _)))))
          (pss_one (ps_expr (pe_bm PySem.F.plainAttrs_list PySem.F.slot_list_append PySem.F.type_list_append mt_append (pv 4) (pa_cons (pe_call IH hr (by rfl) mT F.kp bT .nil pass0 (pa_cons (pv 0) (pa_cons (pv 1) (pa_cons (pe_op op_sub (pv 2) pe_int) (pa_cons (pv 3) pa_nil))))) pa_nil)))) pss_nil)))
      (pss_one (ps_ret (pe_tup (pa_cons (pe_ix ix_list (pe_lst (pa_cons pe_str (pa_cons pe_str (pa_cons pe_str (pa_cons pe_str pa_nil))))) (pe_call GD hr1 (by rfl) mD kD bD .nil pass0 (pa_cons (pv 0) (pa_cons pe_int pa_nil))) (fun _ _ => rfl)) (pa_cons (pe_callTy call_tuple_of (by rfl) mt (by decide +kernel) (pa_cons (pv 4) pa_nil)) pa_nil))))))), ?_⟩
    have lsl : (ns.map V.str).length = ns.length := List.length_map _
    have as : a ≠ s := src.ne ha
    have ar : a ≠ r := fun e => by
      rw [e, hR] at ha
      have q := HO.lst.inj (Option.some.inj ha)
      cases ns with
      | nil => cases q
      | cons x t => cases q
    have rs : r ≠ s := fun e => by
      obtain ⟨u, v, w, _⟩ := src
      rw [e, w] at hR
      have q := HO.lst.inj (Option.some.inj hR)
      cases q
    have aliveS : ∀ {H' : Hp} {c : Addr}, Src H' s → H' c = none → c ≠ s := fun sr e h => by
      obtain ⟨u, v, w, _⟩ := sr
      rw [h, w] at e
      cases e
    refine q_ifR (R := fun H2 => Keep2 s r H H2 ∧ Src H2 s ∧ H2 r = some (.lst [.int z])) (fun H2 ⟨kp, sr, h2⟩ => ?_) (fun Z hZ => ?_)
    · refine ⟨_, rfl, r, _, 0, _, rfl, rfl, SqL.of h2, atI_nat (j := 0) rfl, _, _, rfl, rfl, ?_⟩
      refine ⟨_, rfl, r, _, 0, 0, rfl, rfl, h2, rfl, ?_⟩
      have e1 : Keep2 s r H (upd H2 r (.lst [.int (z - 1)])) := fun b o n m e => by
        rw [upd_ne m]
        exact kp b o n m e
      have sr1 := sr.put (o := .lst [.int (z - 1)]) rs
      have hr1' := upd_same (H := H2) (a := r) (o := .lst [.int (z - 1)])
      have ha3 := e1 a _ as ar ha
      refine ⟨_, rfl, _, rfl, _, rfl, a, _, rfl, .inl (SqL.of ha3), s, _, rfl, sr1, (by rw [lsl]; omega), (by rw [lsl]; omega), fun d H4 d0 d1 sr4 k4 => ?_⟩
      rw [lsl] at d1
      obtain ⟨x, hx, hat⟩ := str_at d0 d1
      refine ⟨a, _, d, _, rfl, rfl, SqL.of (k4 a _ as ha3), hat, _, rfl, s, 9, rfl, sr4, (by decide), (by decide), fun e H5 e0 e9 sr5 k5 => ?_⟩
      refine ⟨(by show 2 ≤ sizeLine; decide), fun p np => ?_⟩
      have kp5 : Keep2 s r H H5 := (e1.trans (Keep2.of k4)).trans (Keep2.of k5)
      have hr5 := k5 r _ rs (k4 r _ rs hr1')
      have s6 := same_upd (o := .tup [.str x, .int e]) np
      refine k _ _ (.tuple [.str x, .int e]) (z - 1) (kp5.trans (Keep2.ofS s6)) (sr5.same s6) (s6 _ _ hr5) (by omega) (by have := p4_pos n; omega) (.tup (SqT.of upd_same) (.cons (.str x) (.cons (.int e) .nil))) (TreeN.leaf ⟨x, e, rfl, hx, e0, e9⟩ n)
    refine ⟨_, rfl, rfl, _, rfl, ite2 (fun _ => iteT (hZ _ ⟨Keep2.refl s r H, src, hR⟩)) (fun en => ?_)⟩
    refine ⟨_, rfl, r, _, 0, _, rfl, rfl, SqL.of hR, atI_nat (j := 0) rfl, _, _, rfl, rfl, _, rfl, ite2 (fun _ => iteT (hZ _ ⟨Keep2.refl s r H, src, hR⟩)) (fun _ => ?_)⟩
    refine ⟨_, rfl, s, 3, rfl, src, (by decide), (by decide), fun d H1 d0 d1 sr1 k1 => ⟨rfl, _, rfl, ite2 (fun _ => hZ _ ⟨Keep2.of k1, sr1, k1 r _ rs hR⟩) (fun _ => ?_)⟩⟩
    have nz : n ≠ 0 := fun h => by
      subst h
      exact en (decide_eq_true rfl)
    obtain ⟨n', rfl⟩ : ∃ n', n = n' + 1 := ⟨n - 1, by omega⟩
    have e4 : p4 (n' + 1) = p4 n' * 4 := rfl
    refine ⟨Nat.zero_le _, fun c nc => ?_⟩
    have cs_ : c ≠ s := aliveS sr1 nc
    have hR1 := k1 r _ rs hR
    have cr : c ≠ r := (ne_of_none hR1 nc).symm
    have s2 := same_upd (o := .lst []) nc
    refine ⟨_, rfl, s, 4, rfl, sr1.same s2, (by decide), (by decide), fun d2 H3 e0 e1 sr3 k3 => ?_⟩
    have kp3 : Keep2 s r H H3 := (Keep2.of k1).trans ((Keep2.ofS s2).trans (Keep2.of k3))
    obtain ⟨u, rfl⟩ : ∃ u : Nat, d2 = (u : Int) := ⟨d2.toNat, by omega⟩
    refine ⟨_, _, rfl, rfl, _, rfl, (by omega), (by omega), ?_⟩
    refine for_range (lo := 0) (fun i σ H' => ∃ v5 vs cs z', σ = [some (.ref s), some (.ref a), some (.int ((n' + 1 : Nat) : Int)), some (.ref r), some (.ref c), v5] ∧ Keep2 s r H H' ∧ Src H' s ∧ H' r = some (.lst [.int z']) ∧ z' ≤ z ∧ z ≤ z' + ((i * p4 n' : Nat) : Int) ∧ H' c = some (.lst vs) ∧ DpAll K H' vs cs ∧ cs.length ≤ i ∧ (1 ≤ i → 1 ≤ cs.length) ∧ ∀ x ∈ cs, TreeN ns n' x)
      ⟨none, [], [], z, rfl, kp3, sr3, k3 r _ rs (s2 _ _ hR1), Int.le_refl _, (by omega), k3 c _ cs_ upd_same, .nil, Nat.le_refl _, (fun h => absurd h (by omega)), fun x h => nomatch h⟩ ?_ ?_
    · rintro i σ H' hi ⟨v5, vs, cs, z', rfl, kp, sr, hR', z1, z2, hc, ha, cl, c1, tr⟩
      have i3 : i ≤ 3 := by omega
      have fits : ∀ x ∈ cs, Fit x := fun x hx => tree_fit nok (by omega) (tr x hx)
      have deps : ∀ x ∈ cs, x.depth ≤ 50 := fun x hx => by
        have q := (tree_ok nok n' x (tr x hx)).2.1
        omega
      have lv := dpAll_len ha
      have flat : noListAll cs = true := noListAll_of fun x hx => tree_flat n' x (tr x hx)
      refine q_ifR (R := fun H2 => Same H' H2) (fun H2 s2 => ?_) (fun Z hZ => ?_)
      · have hc2 := s2 _ _ hc
        have ha2 := s2 _ _ (kp a _ as ar (by assumption))
        have hm : (n' : Nat) < m := by omega
        have mul4 : i * p4 n' ≤ 3 * p4 n' := Nat.mul_le_mul_right _ i3
        refine ⟨_, rfl, .inl ⟨rfl, _, SqL.of hc2⟩, _, rfl, _, rfl, _, rfl, _, _, rfl, rfl, _, rfl, s, a, r, ns, n', z', ?_, hm, (by omega), sr.same s2, ha2, l1, l8, nok, s2 _ _ hR', ?_, fun H3 v d z3 k3 sr3 hr3 y1 y2 hd td => ?_⟩
        · show [V.ref s, V.ref a, V.int (((n' + 1 : Nat) : Int) - 1), V.ref r] = _
          rw [show (((n' + 1 : Nat) : Int) - 1) = (n' : Int) from by omega]
        · rw [e4] at zb
          omega
        have hc3 := k3 c _ cs_ cr hc2
        have st : Stay H' H3 := (Stay.of s2).trans (k3.stay (sr.same s2) (s2 _ _ hR'))
        refine ⟨c, _, _, rfl, rfl, hc3, small1000 (by omega), ?_⟩
        have stc := stay_upd (o := .lst (vs ++ [v])) hc3
        have pos := p4_pos n'
        refine ⟨_, vs ++ [v], cs ++ [d], z3, rfl, fun b o n1 n2 e => ?_, sr3.put cs_, ?_, by omega, ?_, upd_same, dpAll_app (dpAll_stay (st.trans stc) ha flat) (.cons (dp_stay stc hd (tree_flat n' d td)) .nil), ?_, fun _ => ?_, fun x hx => ?_⟩
        · have e2 := kp b o n1 n2 e
          have bc : b ≠ c := fun h => by
            subst h
            have e0 := k1 b o n1 e
            rw [nc] at e0
            cases e0
          rw [upd_ne bc]
          exact k3 b o n1 n2 (s2 _ _ e2)
        · rw [upd_ne cr.symm]
          exact hr3
        · rw [Nat.add_mul, Nat.one_mul]
          omega
        · rw [List.length_append, List.length_singleton]
          omega
        · rw [List.length_append, List.length_singleton]
          omega
        · rcases List.mem_append.mp hx with q | q
          · exact tr x q
          · rw [List.mem_singleton.mp q]
            exact td
      · refine ⟨_, rfl, r, _, 0, _, rfl, rfl, SqL.of hR', atI_nat (j := 0) rfl, _, _, rfl, rfl, _, rfl, ite2 (fun _ => iteT (hZ _ (Same.refl _))) (fun _ => ?_)⟩
        refine ⟨_, rfl, Nat.zero_le _, fun q nq => ?_⟩
        have s2 := same_upd (o := .lst []) nq
        refine ⟨.list cs, .list [], .lst (SqL.of (s2 _ _ hc)) (dpAll_same s2 ha), .lst (SqL.of upd_same) .nil, (fit_list fits (by omega) deps).shaped, by decide, _, rfl, ?_⟩
        cases cs with
        | nil => exact iteT (hZ _ s2)
        | cons x t =>
          refine iteF ?_
          have pos := p4_pos n'
          refine ⟨_, vs, x :: t, z', rfl, kp.trans (Keep2.ofS s2), sr.same s2, s2 _ _ hR', z1, ?_, s2 _ _ hc, dpAll_same s2 ha, by omega, fun _ => by rw [List.length_cons]; omega, tr⟩
          rw [Nat.add_mul, Nat.one_mul]
          omega
    · rintro σ H' ⟨v5, vs, cs, z', rfl, kp, sr, hR', z1, z2, hc, ha, cl, c1, tr⟩
      have lv := dpAll_len ha
      have un : (1 + (u : Int)).toNat = u + 1 := by omega
      rw [un] at z2 cl c1
      have flat : noListAll cs = true := noListAll_of fun x hx => tree_flat n' x (tr x hx)
      refine ⟨(by show 4 ≤ sizeLine; decide), fun q nq => ?_⟩
      have s2 := same_upd (o := .lst [.str "", .str "all", .str "sub", .str "m"]) nq
      have hq2 := upd_same (H := H') (a := q) (o := .lst [.str "", .str "all", .str "sub", .str "m"])
      generalize upd H' q (.lst [.str "", .str "all", .str "sub", .str "m"]) = G2 at s2 hq2 ⊢
      have srG := sr.same s2
      refine ⟨_, rfl, s, 4, rfl, srG, (by decide), (by decide), fun d3 H3 f0 f1 sr3 k3 => ?_⟩
      obtain ⟨mm, hat, hmm⟩ := four3 f0 f1
      have qs : q ≠ s := aliveS sr nq
      have hc3 := k3 c _ cs_ (s2 _ _ hc)
      refine ⟨q, _, d3, _, rfl, rfl, SqL.of (k3 q _ qs hq2), hat, _, rfl, c, _, rfl, .inl ⟨SqL.of hc3, fun t nt => ⟨(by show 2 ≤ sizeLine; decide), fun p np => ?_⟩⟩⟩
      have s4 := same_upd (o := .tup vs) nt
      have s5 := same_upd (o := .tup [.str mm, .ref t]) np
      have s45 := s4.trans s5
      have st : Stay H' H3 := (Stay.of s2).trans (k3.stay srG)
      have hr3 := k3 r _ rs (s2 _ _ hR')
      have mul4 : (u + 1) * p4 n' ≤ 4 * p4 n' := Nat.mul_le_mul_right _ (by omega)
      refine k _ _ (.tuple [.str mm, .tuple cs]) z' ((kp.trans (Keep2.ofS s2)).trans ((Keep2.of k3).trans (Keep2.ofS s45))) (sr3.same s45) (s45 _ _ hr3) z1 (by rw [e4]; omega)
        (.tup (SqT.of upd_same) (.cons (.str mm) (.cons (.tup (SqT.of (s5 _ _ upd_same)) (dpAll_same s45 (dpAll_stay st ha flat))) .nil))) (.inr ⟨mm, cs, rfl, hmm, c1 (by omega), by omega, tr⟩)
end
end K1

namespace Own
open PySem PySem.Spec PyProof.Rows L2 HT
/-! t[::-1], t a tuple -/
section
variable {prog : Program} {w : World} {A : Around} {E : Value → Shared → Prop} {s : Shared}
theorem back_places (n : Nat) : Builtin.Slice.slicePlaces ((n : Int) - 1) (-1) (-1) = n := by
  unfold Builtin.Slice.slicePlaces
  rw [if_neg (by decide)]
  by_cases h : (n : Int) - 1 > -1
  · rw [if_pos h, show (- -1 : Int) = 1 by decide, Int.ediv_one]
    omega
  · rw [if_neg h]
    omega
theorem back_applied {sl : Addr} {k : Tok} {n : Nat} {Q : Int × Int × Nat → Shared → Prop} (sp : s.heap.IsSliceOf sl .none .none (.int (-1) k)) (q : Q ((n : Int) - 1, -1, n) s) : wpAny (model prog w) A (Builtin.Slice.sliceApplied (.ref sl) (pure (n : Int))) Q E s := by
  obtain ⟨o, ho, hc, hd⟩ := id sp
  unfold Builtin.Slice.sliceApplied Builtin.Slice.sliceFields
  refine wpAny_bind (wpAny_bind (wpAny_field ho hd (x := .none) rfl (wpAny_bind (wpAny_field ho hd (x := .none) rfl (wpAny_bind (wpAny_field ho hd (x := .int (-1) k) rfl (wpAny_pure ?_)))))))
  refine wpAny_bind (slicePart_ (.int (-1) k) ?_)
  show wpAny _ _ (if ((-1 : Int) == 0) = true then _ else _) _ _ s
  rw [if_neg (by decide)]
  refine wpAny_bind (slicePart_ .none (wpAny_bind (slicePart_ .none (wpAny_bind (wpAny_pure ?_)))))
  have e : Builtin.Slice.sliceAdjust none none (-1) (n : Int) = ((n : Int) - 1, -1) := rfl
  show wpAny _ _ (match Builtin.Slice.sliceAdjust none none (-1) (n : Int) with | (lo, hi) => pure (lo, (-1 : Int), Builtin.Slice.slicePlaces lo hi (-1))) _ _ s
  rw [e]
  show wpAny _ _ (pure ((n : Int) - 1, (-1 : Int), Builtin.Slice.slicePlaces ((n : Int) - 1) (-1) (-1))) _ _ s
  rw [back_places]
  exact wpAny_pure q
theorem fm_congr {α β : Type} {f g : α → Option β} : ∀ {l : List α}, (∀ m ∈ l, f m = g m) → l.filterMap f = l.filterMap g
  | [], _ => rfl
  | x :: r, h => by
    rw [List.filterMap_cons, List.filterMap_cons, h x (List.mem_cons_self ..), fm_congr fun m hm => h m (List.mem_cons_of_mem _ hm)]
theorem back_pick (xs : Array Value) : ((List.range xs.size).filterMap fun (m : Nat) => xs[(((xs.size : Int) - 1) + (m : Int) * -1).toNat]?).toArray = xs.toList.reverse.toArray := by
  have e : (List.range xs.size).filterMap (fun (m : Nat) => xs[(((xs.size : Int) - 1) + (m : Int) * -1).toNat]?) = ((List.range xs.size).map fun k => xs.size - 1 - k).filterMap (xs[·]?) := by
    rw [List.filterMap_map]
    refine fm_congr fun m hm => ?_
    have := List.mem_range.mp hm
    show xs[_]? = xs[xs.size - 1 - m]?
    congr 1
    omega
  rw [e, PySem.W.krv_range, List.filterMap_reverse, PySem.W.krv_all]
theorem back_tuple {t sl : Addr} {xs : Array Value} {k : Tok} {Q : Value → Shared → Prop} (tp : IsTup s.heap t xs) (sp : s.heap.IsSliceOf sl .none .none (.int (-1) k)) (zs : xs.size ≤ sizeLine)
    (q : Q (.ref s.heap.objs.size) { s with heap := s.heap.push { cls := .type "tuple", data := .seq xs.toList.reverse.toArray } }) : wpAny (model prog w) A (getItem (.ref t) (.ref sl)) Q E s := by
  obtain ⟨o, ho, hc, hd⟩ := id sp
  have sty : s.TypeIs (.ref sl) "slice" := ⟨o, ho, hc⟩
  have fits : sizeOk (.seq xs.toList.reverse.toArray) := by
    show xs.toList.reverse.toArray.size ≤ sizeLine
    rw [List.size_toArray, List.length_reverse, Array.length_toList]
    exact zs
  unfold getItem
  try with_reducible refine wpAny_holding ?_
  first | refine wpAny_bind (wpAny_pure ?_) | skip
  refine wpAny_bind (wpAny_sequenceKey tp.typeIs (by decide) (wpAny_bind (wpAny_callSpecial?_slot (name := Str.ofString "__getitem__") tp.typeIs PyProof.Rows.slot_tuple_getitem (wpAny_call_entry PyProof.Rows.slot_tuple_getitem tp.typeIs entry_tuple_getitem ?_ (args_tuple_getitem _ _)))))
  show wpAny _ _ (Builtin.Tuple.tupleItemsOf (.ref t) >>= _) _ _ s
  refine wpAny_bind (tupleItemsOf_ tp (wpAny_bind (wpAny_typeOf sty ?_)))
  rw [if_pos (by decide)]
  refine wpAny_bind (back_applied sp ?_)
  have no : ¬ ((((xs.size : Int) - 1) == 0 && (-1 : Int) == 1 && xs.size == xs.size) = true) := by
    intro z
    rw [Bool.and_eq_true, Bool.and_eq_true] at z
    have z1 : (-1 : Int) = 1 := eq_of_beq z.1.2
    exact absurd z1 (by decide)
  show wpAny _ _ (if (((xs.size : Int) - 1) == 0 && (-1 : Int) == 1 && xs.size == xs.size) = true then _ else _) _ _ s
  rw [if_neg no, back_pick]
  first
  | exact wpAny_bind (m := Builtin.Tuple.tupleExact _) (wpAny_newObj_type (wpAny_pure ⟨_, rfl, wpAny_pure q⟩) fits)
  | exact wpAny_bind (m := Builtin.Tuple.tupleExact _) (wpAny_newObj_type (wpAny_bind (wpAny_pure (wpAny_pure ⟨_, rfl, wpAny_pure q⟩))) fits)
  | exact wpAny_bind (wpAny_bind (m := Builtin.Tuple.tupleExact _) (wpAny_newObj_type (wpAny_pure (wpAny_pure ⟨_, rfl, wpAny_pure q⟩)) fits))
  | exact wpAny_bind (wpAny_bind (m := Builtin.Tuple.tupleExact _) (wpAny_newObj_type (wpAny_pure ⟨_, rfl, wpAny_pure q⟩) fits))
end
section
variable {X : Cx}
def tRevT (K : PySem.W.Frag) (te : TE) : TE := fun σ H Q => te σ H fun x H1 => ∃ a xs, x = .ref a ∧ SqT K H1 a xs ∧ ∀ p, H1 p = none → Q (.ref p) (upd H1 p (.tup xs.reverse))
theorem pe_revT {e : Expr} {te : TE} {k : Nat} {p1 p2 p3 pos : Pos} (he : PE X e te) : PE X (.Subscript e (.Slice none none (some (.UnaryOp .USub (.Constant (.int 1) k p1) p2)) p3) pos) (tRevT X.K te) := by
  refine ⟨fun pins s σ H Q I h => Subscript_ (thn (he.run pins s σ H _ I h) fun v s1 hv => ?_)⟩
  obtain ⟨x, H1, I1, r1, a, xs, rfl, hx, q⟩ := hv
  cases r1
  have step : PO X (some (.UnaryOp .USub (.Constant (.int 1) k p1) p2)) (tPart (tUn (rU fun i => .int (-i)) (tC (.int 1)))) := po_some (pe_un un_neg pe_int)
  refine wpAny_Slice (thn (po_none.run pins s1 σ H1 (fun o G => o = none ∧ G = H1) I1 ⟨rfl, rfl⟩) fun vl s2 h2 => ?_)
  obtain ⟨l, H2, I2, pl, rfl, rfl⟩ := h2
  refine thn (po_none.run pins s2 σ H2 (fun o G => o = none ∧ G = H2) I2 ⟨rfl, rfl⟩) fun vu s3 h3 => ?_
  obtain ⟨u, H3, I3, pu, rfl, rfl⟩ := h3
  refine thn (step.run pins s3 σ H3 (fun o G => o = some (-1) ∧ G = H3) I3 ⟨1, rfl, -1, rfl, rfl, rfl⟩) fun vs s4 h4 => ?_
  obtain ⟨o, H4, I4, ps, rfl, rfl⟩ := h4
  cases pl
  cases pu
  cases ps with
  | int _ tk =>
    have I5 := I4.kept (h' := s4.heap.push { cls := .type "slice", data := .fields #[.none, .none, .int (-1) tk] }) (t' := s4.toks) fun b ob z => Heap.get?_push_of_some _ z
    obtain ⟨its, r, tp, hz⟩ := I5.tuple hx
    have ln := r.length
    show wpAny (model X.prog X.w) X.A (subscriptTail e (.Slice none none (some (.UnaryOp .USub (.Constant (.int 1) k p1) p2)) p3) (.ref a) (.ref s4.heap.objs.size)) (EP X pins σ Q) X.xe _
    refine tail_any (ops := [.ref a, .ref s4.heap.objs.size]) tp.typeIs slot_tuple_getitem.lookup ?_ (by with_unfolding_all rfl)
    refine back_tuple tp (Heap.IsSliceOf.new _ .none .none (.int (-1) tk)) (by rw [List.size_toArray]; omega) ?_
    refine ⟨.ref _, _, I5.laid (t' := s4.toks) (o := .tup xs.reverse) (fun b ob z => Heap.get?_push_of_some _ z) (Nat.le_refl _) ?_, rfl, q _ (I5.hok.fresh (Nat.le_refl _))⟩
    refine ⟨by rw [List.length_reverse]; exact hz, its.reverse, r.reverse, _, Heap.get?_push_size _ rfl, rfl, 0, rfl⟩
end
end Own

namespace K1
open PySem PySem.Spec PyProof.Rows L2 Own
/-- what is new in H' -/
def fr (H H' : Hp) : Hp := fun a => match H a with
  | none => H' a
  | some _ => none
theorem fr_at {H H' : Hp} {a : Addr} {o : HO} (h : fr H H' a = some o) : H a = none ∧ H' a = some o := by
  unfold fr at h
  cases e : H a with
  | none =>
    rw [e] at h
    exact ⟨rfl, h⟩
  | some u =>
    rw [e] at h
    cases h
theorem fr_of {H H' : Hp} {a : Addr} {o : HO} (n : H a = none) (h : H' a = some o) : fr H H' a = some o := by
  unfold fr
  rw [n]
  exact h
/-! ### the law's table of kinds -/
theorem LinsAt.rows' {H : Hp} {a : Addr} {ls : List Ln} (h : LinsAt H a ls) : RowsAt H a ls := h.rows
def spSetup (C : Addr) : Sp := fun vs H Q _ => ∃ s, vs = [.ref s] ∧ Src H s ∧ ∀ H' p L O x ns ls ls' T T2 B, Keep s H H' → Src H' s → H' p = some (.tup [.ref L, .ref O, .ref x]) → H' L = some (.lst (ns.map V.str)) → 1 ≤ ns.length → ns.length ≤ 7 → Drawn ns → nms ls = ns → LnsOk ls → DictAt All1 H' O T → Tab Any1 ls T → Same B H' → (∀ a o, B a = some o → a ≠ s) → KIn C B x ls ls' T2 → Q (.ref p) H'
section
variable {P : Program} {w : World} {K : PySem.W.Frag} {mg : Str → Option Value} {base : Heap}
end
end K1

namespace Own
open PySem PySem.Spec PyProof.Rows L2
/-! f(k = v, ..), no value by place -/
def tCallK (n : Nat) (sp : Sp) (gV : List V → List V) (E : XK) (tk : TA) : TE := fun σ H Q => tk σ H fun zs H2 => zs.length = n ∧ sp (gV zs) H2 Q E
section
variable {X : Cx} {k : Nat} {f : Addr} {fd : FuncData} {ps ks : List Str} {sp : Sp} {E : XK} {x : Str} {p pos : Pos} {kws : List Keyword} {tk : TA} {g : List Value → List Value → List Value} {gV : List V → List V → List V}
theorem pe_callK (F : FnOk X.prog X.w X.K X.mg X.base CX0 k f fd ps sp) (hr : Room k X.A) (hg : Gl X x) (hm : X.mg x = some (.ref f)) (hk : PySem.W.keepIn X.K (.ref f) = true) (hb : KBn X.K fd ps 0 ks g gV) (hkw : PK X kws tk)
    (hal : (backToKw pos (keywordEach kws X.env)).all (·.1.isSome) = true := by rfl) (hks : (backToKw pos (keywordEach kws X.env)).filterMap (·.1) = ks := by rfl) (hdb : (x == ("__debug__" : Str)) = false := by decide)
    (hno : ((backTo pos (starEach [] X.env)).any (·.1) || (backToKw pos (keywordEach kws X.env)).any (·.1.isNone)) = false := by rfl) : PE X (.Call (.Name x p) [] kws pos) (tCallK ks.length sp (gV []) E tk) := by
  refine ⟨fun pins s σ H Q I h => wpAny_Call_Name_kw (ld_glob I hg hm ?_ hdb)⟩
  refine PySem.W.callWith_KW0 (h₀ := X.base) (first := []) I.ok.mod.kin hk hal (thn (hkw.run pos pins s σ H _ I h) fun ws s2 hw => ?_) hno
  obtain ⟨zs, H2, I2, rz, l, q⟩ := hw
  refine ⟨I2.kIn, ?_⟩
  rw [hks]
  exact run_fnN (E := E) F hr hb pass0 I2 .nil rz rfl l q
end
end Own

namespace Own
open PySem PySem.Spec PyProof.Rows L2
/-! ### x in (..): data among data -/
section
variable {X : Cx}
def rInTD (K : PySem.W.Frag) : R2 := fun x y H Q => ∃ d ds, Dp K H x d ∧ Dp K H y (.tuple ds) ∧ d.canLay0 = true ∧ PyData.canLayAll0 ds = true ∧ min (PyData.depthAll ds) d.depth ≤ 60 ∧ Q (.bl (ds.any fun z => PyData.eqv z d)) H
def rNotInTD (K : PySem.W.Frag) : R2 := fun x y H Q => ∃ d ds, Dp K H x d ∧ Dp K H y (.tuple ds) ∧ d.canLay0 = true ∧ PyData.canLayAll0 ds = true ∧ min (PyData.depthAll ds) d.depth ≤ 60 ∧ Q (.bl (!ds.any fun z => PyData.eqv z d)) H
theorem op_inTD (hu : X.A.units + 64 < cLine) : OpR X (compareOp .In) (rInTD X.K) := by
  intro pins s σ H x y v u Q I rx ry h
  obtain ⟨d, ds, hd, he, sd, se, dep, q⟩ := h
  obtain ⟨as, r1⟩ := Dp.reads I d x v hd rx
  obtain ⟨bs, r2⟩ := Dp.reads I (.tuple ds) y u he ry
  exact SeqAt.in_tuple_reads r2 r1 se sd (by omega) ⟨.bl _, H, I, rfl, q⟩
theorem op_notInTD (hu : X.A.units + 64 < cLine) : OpR X (compareOp .NotIn) (rNotInTD X.K) := by
  intro pins s σ H x y v u Q I rx ry h
  obtain ⟨d, ds, hd, he, sd, se, dep, q⟩ := h
  obtain ⟨as, r1⟩ := Dp.reads I d x v hd rx
  obtain ⟨bs, r2⟩ := Dp.reads I (.tuple ds) y u he ry
  exact SeqAt.notIn_tuple_reads r2 r1 se sd (by omega) ⟨.bl _, H, I, rfl, q⟩
end
end Own

namespace Own
open PySem PySem.Spec PyProof.Rows L2
/-! xs.extend(ys), ys any list that can be read -/
theorem extend_lst (l : Addr) (its : Array Value) (n : Nat) (b : Addr) (ts : Array Value) (m : Nat) (sl : Array (Option Value)) (h0 : ¬(!its.isEmpty && Builtin.List.listTooLong (its.size + ts.size)) = true) (h1 : its.size ≤ sizeLine) (h2 : its.size + ts.size ≤ sizeLine + 1) :
    Meets (Builtin.«list.extend» ⟨[.ref l, .ref b], []⟩) (fun _ R s => s.heap.get? l = some { cls := .type "list", dict := none, data := .seq its n, slots := #[] } ∧ s.heap.get? b = some { cls := .type "list", dict := none, data := .seq ts m, slots := sl } ∧
      R (.ok (.ret Value.none)) { s with heap := s.heap.update l (Obj.mapSeq fun x => x ++ ts), toks := s.toks }) := by
  refine .of_wp fun prog w A R s h => ?_
  obtain ⟨hp, g, d, tk, os⟩ := s
  obtain ⟨hl, hb, h⟩ := h
  have s1 := AutoSeq1.idx_int
  have s2 := AutoSeq1.sub_tuple_tuple
  have s3 := AutoSeq1.sub_list_list
  have s4 := AutoSeq1.sub_tuple_list
  have s5 := AutoSeq1.sub_list_tuple
  have hz : (its ++ ts).size ≤ sizeLine + 1 := by
    rw [Array.size_append]
    exact h2
  wp_walk using (wpAny_updateSeq hl rfl (hz := h1) (_hz' := hz)), AutoSeq1.wpAny_loadPart' hl, AutoSeq1.wpAny_loadPart' hb
  exact ⟨_, rfl, h⟩
section
variable {X : Cx}
def rExtL (K : PySem.W.Frag) : V → List V → Hp → VK → Prop := fun x vs H Q => ∃ l b xs zs, x = .ref l ∧ vs = [.ref b] ∧ H l = some (.lst xs) ∧ SqL K H b zs ∧ xs.length + zs.length ≤ sizeLine ∧ Q .non (upd H l (.lst (xs ++ zs)))
theorem mt_extL : MtM X "list.extend" (rExtL X.K) := by
  intro pins s σ H x vs v us Q I rx rv h
  obtain ⟨l, b, xs, zs, rfl, rfl, hH, hB, hz, q⟩ := h
  cases rx
  obtain ⟨u, rfl, ru⟩ := rv.one
  cases ru
  obtain ⟨z, its, n, r, hl, e⟩ := I.lstM hH
  obtain ⟨ts, r2, ⟨⟨oc, od, dt, sl⟩, m, e2, c2, n2, d2⟩, z2⟩ := I.list hB
  have c2' : oc = Value.type "list" := c2
  have d2' : dt = Data.seq ts.toArray m := d2
  have n2' : od = none := n2
  subst c2' d2' n2'
  have l2 := r2.length
  have sz : its.toArray.size + ts.toArray.size ≤ sizeLine := by
    rw [List.size_toArray, List.size_toArray]
    omega
  have short : ¬(!its.toArray.isEmpty && Builtin.List.listTooLong (its.toArray.size + ts.toArray.size)) = true := by
    rw [notLongL sz, Bool.and_false]
    exact Bool.false_ne_true
  refine call_meets F.slot_list_extend ⟨_, e, rfl⟩ F.entry_list_extend (F.args_list_extend_2 _ _) (extend_lst l its.toArray n b ts.toArray m sl short (by rw [List.size_toArray]; omega) (by omega)) ⟨e, e2, ?_⟩
  exact ⟨.non, _, I.lset (its' := its ++ ts) hH e (by simp) (r.append r2) (by rw [List.length_append]; omega), rfl, q⟩
end
end Own

namespace K1
open PySem PySem.Spec PyProof.Rows L2 Own
/-! ### spread: all nodes in a row -/
def rExtS (K : PySem.W.Frag) : V → List V → Hp → VK → Prop := fun x vs H Q => ∃ l b xs zs, x = .ref l ∧ vs = [.ref b] ∧ H l = some (.lst xs) ∧ (SqL K H b zs ∨ SqT K H b zs) ∧ xs.length + zs.length ≤ sizeLine ∧ Q .non (upd H l (.lst (xs ++ zs)))
theorem mt_extS {X : Cx} : MtM X "list.extend" (rExtS X.K) := by
  intro pins s σ H x vs v us Q I rx rv h
  obtain ⟨l, b, xs, zs, e1, e2, hH, hB, hz, q⟩ := h
  rcases hB with hB | hB
  · exact mt_extL pins s σ H x vs v us Q I rx rv ⟨l, b, xs, zs, e1, e2, hH, hB, hz, q⟩
  · exact mt_extT pins s σ H x vs v us Q I rx rv ⟨l, b, xs, zs, e1, e2, hH, hB, hz, q⟩
/-- the children of a node, a list or tuple of them -/
def spKids (K : PySem.W.Frag) (kf : PyData → List PyData) (good : PyData → Prop) : Sp := fun vs H Q _ => ∃ G v d, vs = [v] ∧ Same G H ∧ Dp K G v d ∧ good d ∧ ∀ H' c us, Same H H' → (SqL K G c us ∨ SqT K H' c us) → DpAll K G us (kf d) → Q (.ref c) H'
theorem Same.lst {K : PySem.W.Frag} {H H' : Hp} {a : Addr} {xs : List V} (s : Same H H') (h : SqL K H a xs) : SqL K H' a xs := h.elim (fun e => .inl (Same.rd s e)) .inr
/-- where a node's children stand -/
structure Spans (kf : PyData → List PyData) (ds : List PyData) (sp : List (Nat × Nat)) : Prop where
  len : sp.length ≤ ds.length
  at_ : ∀ i d, i < sp.length → ds[i]? = some d → ∃ a b, sp[i]? = some (a, b) ∧ i < a ∧ a ≤ b ∧ b ≤ ds.length ∧ (ds.drop a).take (b - a) = kf d
def SpanAt (H : Hp) (v : V) (ab : Nat × Nat) : Prop := ∃ t, v = .ref t ∧ H t = some (.tup [.int (ab.1 : Int), .int (ab.2 : Int)])
theorem SpanAt.same {H H' : Hp} {v : V} {ab : Nat × Nat} (h : SpanAt H v ab) (s : Same H H') : SpanAt H' v ab := by
  obtain ⟨t, e, ht⟩ := h
  exact ⟨t, e, s _ _ ht⟩
def spSpread (K : PySem.W.Frag) (kf : PyData → List PyData) (good : PyData → Prop) (f : Addr) : Sp := fun vs H Q _ => ∃ v d, vs = [v, .ref f] ∧ Dp K H v d ∧ good d ∧ ndD d ≤ 1000000 ∧
  ∀ H' p q1 q2 us ds ws sp, Same H H' → (H p = none ∧ H q1 = none ∧ H q2 = none) → H' p = some (.tup [.ref q1, .ref q2]) → H' q1 = some (.lst us) → H' q2 = some (.lst ws) → DpAll K H us ds → Paired (SpanAt H') ws sp → Spans kf ds sp → sp.length = ds.length → ds[0]? = some d → (∀ d ∈ ds, good d) → ds.length ≤ ndD d → Q (.ref p) H'
theorem SpanAt.stay {H H' : Hp} {v : V} {ab : Nat × Nat} (h : SpanAt H v ab) (s : Stay H H') : SpanAt H' v ab := by
  obtain ⟨t, e, ht⟩ := h
  exact ⟨t, e, s _ _ (fun _ z => nomatch z) ht⟩
theorem nd_drop {ds : List PyData} {i : Nat} {d : PyData} (h : ds[i]? = some d) : ndAll (ds.drop i) = ndD d + ndAll (ds.drop (i + 1)) := by
  obtain ⟨hi, e⟩ := List.getElem?_eq_some_iff.mp h
  rw [List.drop_eq_getElem_cons hi, e]
  rfl
theorem pair_snoc {α β : Type} {R : α → β → Prop} {xs : List α} {ys : List β} {x : α} {y : β} (h : Paired R xs ys) (r : R x y) : Paired R (xs ++ [x]) (ys ++ [y]) := by
  induction h with
  | nil => exact .cons r .nil
  | cons a b ih => exact .cons a ih
theorem drop_take_app {α : Type} {ds es : List α} {a n : Nat} (h : a + n ≤ ds.length) : ((ds ++ es).drop a).take n = (ds.drop a).take n := by
  rw [List.drop_append_of_le_length (by omega), List.take_append_of_le_length (by rw [List.length_drop]; omega)]
theorem Spans.grow {kf : PyData → List PyData} {ds : List PyData} {sp : List (Nat × Nat)} (h : Spans kf ds sp) {d : PyData} (hd : ds[sp.length]? = some d) : Spans kf (ds ++ kf d) (sp ++ [(ds.length, ds.length + (kf d).length)]) := by
  have hl : sp.length < ds.length := (List.getElem?_eq_some_iff.mp hd).1
  refine ⟨by rw [List.length_append, List.length_append, List.length_singleton]; omega, fun i e hi he => ?_⟩
  rw [List.length_append, List.length_singleton] at hi
  by_cases c : i < sp.length
  · have he' : ds[i]? = some e := by
      rw [List.getElem?_append_left (by omega)] at he
      exact he
    obtain ⟨a, b, e1, e2, e3, e4, e5⟩ := h.at_ i e c he'
    refine ⟨a, b, by rw [List.getElem?_append_left c]; exact e1, e2, e3, by rw [List.length_append]; omega, ?_⟩
    rw [drop_take_app (by omega)]
    exact e5
  · have ei : i = sp.length := by omega
    subst ei
    have he' : ds[sp.length]? = some e := by
      rw [List.getElem?_append_left hl] at he
      exact he
    rw [hd] at he'
    cases he'
    refine ⟨ds.length, ds.length + (kf d).length, by rw [List.getElem?_append_right (Nat.le_refl _), Nat.sub_self]; rfl, hl, by omega, by rw [List.length_append]; omega, ?_⟩
    rw [List.drop_append_of_le_length (Nat.le_refl _), List.drop_length, List.nil_append, Nat.add_sub_cancel_left, List.take_length]
section
variable {P : Program} {w : World} {K : PySem.W.Frag} {mg : Str → Option Value} {base : Heap}
end
end K1

namespace K1
open PySem PySem.Spec PyProof.Rows L2 Own
/-! ### the part of a tree -/
def star : Str := "*"
/-- trees of these kinds -/
inductive TreeK (ns : List Str) : PyData → Prop
  | leaf (z : Str) (i : Int) : z ∈ ns → TreeK ns (.tuple [.str z, .int i])
  | group (m : Str) (cs : List PyData) : m ≠ star → cs ≠ [] → (∀ c ∈ cs, TreeK ns c) → TreeK ns (.tuple [.str m, .tuple cs])
theorem TreeK.split {ns : List Str} {d : PyData} (h : TreeK ns d) : (∃ z i, d = .tuple [.str z, .int i] ∧ z ∈ ns) ∨ ∃ m cs, d = .tuple [.str m, .tuple cs] ∧ m ≠ star ∧ cs ≠ [] ∧ ∀ c ∈ cs, TreeK ns c := by
  cases h with
  | leaf z i hz => exact .inl ⟨z, i, rfl, hz⟩
  | group m cs hm ne hc => exact .inr ⟨m, cs, rfl, hm, ne, hc⟩
theorem TreeK.kids {ns : List Str} {d : PyData} (h : TreeK ns d) : ∀ c ∈ kidsD d, TreeK ns c := fun c hc => by
  rcases h.split with ⟨z, i, rfl, _⟩ | ⟨m, cs, rfl, _, _, hcs⟩
  · nomatch hc
  · exact hcs c hc
theorem TreeK.flat {ns : List Str} {d : PyData} (h : TreeK ns d) : noList d = true := by
  induction h with
  | leaf z i hz => rfl
  | group m cs hm ne hc ih =>
    show (true && (noListAll cs && true)) = true
    rw [noListAll_of ih]
    rfl
/-- what is left of a tree for these kinds -/
def cutD (ws : List Str) (d : PyData) : Option PyData :=
  match d with
  | .tuple [.str m, .tuple cs] => if cs.attach.filterMap (fun c => cutD ws c.1) = [] then none else some (.tuple [.str m, .tuple (cs.attach.filterMap fun c => cutD ws c.1)])
  | .tuple [.str z, .int i] => if z ∈ ws then some (.tuple [.str z, .int i]) else none
  | _ => none
termination_by ndD d
decreasing_by
  all_goals
    have a := kids_nd (.tuple [.str m, .tuple cs])
    have b := nd_mem c.2
    have e : kidsD (.tuple [.str m, .tuple cs]) = cs := rfl
    rw [e] at a
    omega
theorem cut_group (ws : List Str) (m : Str) (cs : List PyData) : cutD ws (.tuple [.str m, .tuple cs]) = if cs.filterMap (cutD ws) = [] then none else some (.tuple [.str m, .tuple (cs.filterMap (cutD ws))]) := by
  rw [cutD]
  have e : cs.attach.filterMap (fun c => cutD ws c.1) = cs.filterMap (cutD ws) := by
    have q := List.filterMap_map (f := fun (c : {x // x ∈ cs}) => c.1) (g := cutD ws) (l := cs.attach)
    rw [List.attach_map_subtype_val] at q
    exact q.symm
  rw [e]
theorem cut_leaf (ws : List Str) (z : Str) (i : Int) : cutD ws (.tuple [.str z, .int i]) = if z ∈ ws then some (.tuple [.str z, .int i]) else none := by
  rw [cutD]
def OptDp (K : PySem.W.Frag) (H : Hp) (v : V) : Option PyData → Prop
  | none => v = .non
  | some d => Dp K H v d
def flatO : Option PyData → Prop
  | none => True
  | some d => noList d = true
theorem cut_flat {ws ns : List Str} {d : PyData} (h : TreeK ns d) : flatO (cutD ws d) := by
  induction h with
  | leaf z i hz =>
    rw [cut_leaf]
    split
    · exact rfl
    · exact trivial
  | group m cs hm ne hc ih =>
    rw [cut_group]
    split
    · exact trivial
    · show (true && (noListAll (cs.filterMap (cutD ws)) && true)) = true
      rw [noListAll_of fun x hx => by
        obtain ⟨c, hcm, e⟩ := List.mem_filterMap.mp hx
        have q := ih c hcm
        rw [e] at q
        exact q]
      rfl
theorem OptDp.stay {K : PySem.W.Frag} {H H' : Hp} {v : V} : ∀ {o : Option PyData}, OptDp K H v o → flatO o → Stay H H' → OptDp K H' v o
  | none, h, _, _ => h
  | some _, h, f, s => dp_stay s h f
theorem ixN_n {n j : Nat} (hj : j < n) : ixN n (j : Int) = some j := by
  unfold ixN
  simp
  omega
theorem cut_tup {ws ns : List Str} {d e : PyData} (g : TreeK ns d) (h : cutD ws d = some e) : ∃ es, e = .tuple es := by
  rcases g.split with ⟨z, i, rfl, _⟩ | ⟨m, cs, rfl, _⟩
  · rw [cut_leaf] at h
    split at h
    · exact ⟨_, (Option.some.inj h).symm⟩
    · cases h
  · rw [cut_group] at h
    split at h
    · cases h
    · exact ⟨_, (Option.some.inj h).symm⟩
end K1

namespace K1
open PySem PySem.Spec PyProof.Rows L2 Own
/-! ### the children of a node, a tuple -/
def spKidsT (K : PySem.W.Frag) (ns : List Str) : Sp := fun vs H Q _ => ∃ v d, vs = [v] ∧ Dp K H v d ∧ TreeK ns d ∧ ∀ H' c us, Same H H' → SqT K H' c us → DpAll K H' us (kidsD d) → Q (.ref c) H'
section
variable {P : Program} {w : World} {K : PySem.W.Frag} {mg : Str → Option Value} {base : Heap}
theorem scKidsT : FnScope ["tree"] ["tree"] (defScope sChildren) := ⟨rfl, rfl, rfl, by decide +kernel, rfl, by decide +kernel, by decide +kernel⟩
theorem ok_childT {f : Addr} {fd : FuncData} {ns : List Str} (F : Fun K "_children" "_children" sChildren f fd) (mi : mg "isinstance" = none) (mt : mg "tuple" = none) : FnOk P w K mg base CX0 1 f fd ["tree"] (spKidsT K ns) := by
  refine F.ok scKidsT (fun vs H Q E h => ?_) (fun cdv A outer s H vs Q E hr h => ?_)
  · obtain ⟨v, d, rfl, _⟩ := h
    rfl
  · obtain ⟨v, d, rfl, hd, gt, k⟩ := h
    refine ⟨_, pss_one (ps_ret (pe_ifExp (pt_val (pe_callB call_isi (by rfl) mi (by decide +kernel) (pa_cons (pe_ix ix_tup (pv 0) pe_int (fun _ _ => rfl)) (pa_cons (pe_bltn (v := .ty "tuple") (u := .type "tuple") (by rfl) mt (by decide +kernel) rfl) pa_nil)))) (pe_ix ix_tup (pv 0) pe_int (fun _ _ => rfl)) (pe_tup pa_nil))), ?_⟩
    obtain ⟨a, x, y, e, hs, hx, hy⟩ : ∃ a x y, v = .ref a ∧ SqT K H a [x, y] ∧ True ∧ ∃ e, Dp K H y e ∧ kidsD d = (match e with | .tuple cs => cs | _ => []) ∧ ((∃ i, e = .int i) ∨ ∃ cs, e = .tuple cs) := by
      rcases gt.split with ⟨z, i, rfl, _⟩ | ⟨m, cs, rfl, _, _, hcs⟩
      · obtain ⟨a, x, y, rfl, hs, hx, hy⟩ := dp_pair hd
        exact ⟨a, x, y, rfl, hs, trivial, _, hy, rfl, .inl ⟨_, rfl⟩⟩
      · obtain ⟨a, x, y, rfl, hs, hx, hy⟩ := dp_pair hd
        exact ⟨a, x, y, rfl, hs, trivial, _, hy, rfl, .inr ⟨_, rfl⟩⟩
    subst e
    obtain ⟨e, hy, hk, hc⟩ := hy
    refine ⟨_, rfl, a, _, 1, _, rfl, rfl, hs, atI_nat (j := 1) rfl, y, .ty "tuple", _, _, _, rfl, .ty "tuple", dp_ty hy, kit_ty (kt_tuple _), _, rfl, ?_⟩
    rcases hc with ⟨i, rfl⟩ | ⟨cs, rfl⟩
    · refine iteF ⟨(by show 0 ≤ sizeLine; decide), fun p np => ?_⟩
      exact k _ p [] (same_upd np) (SqT.of upd_same) (by rw [hk]; exact .nil)
    · refine iteT ⟨_, rfl, a, _, 1, _, rfl, rfl, hs, atI_nat (j := 1) rfl, ?_⟩
      cases hy with
      | tup hs2 ha => exact k _ _ _ (Same.refl _) hs2 (by rw [hk]; exact ha)
end
end K1

namespace K1
open PySem PySem.Spec PyProof.Rows L2
open Sem (wp)
/-! ### generators that sleep: a run that may not wake them leaves them as they are -/
def stopped : Resume → Sem PySem.Fin := fun _ => .unsupported ""
def bombG : GenState → GenState
  | .suspended _ l c p fs cl => .suspended stopped l c p fs cl
  | x => x
structure BR (G0 S B : Array GenState) : Prop where
  sz : B.size = S.size
  at_ : ∀ i : Nat, (∃ k l c p fs cl, G0[i]? = some (GenState.suspended k l c p fs cl) ∧ S[i]? = some (GenState.suspended k l c p fs cl) ∧ B[i]? = some (GenState.suspended stopped l c p fs cl)) ∨
    ((∀ k l c p fs cl, G0[i]? ≠ some (GenState.suspended k l c p fs cl)) ∧ B[i]? = S[i]? ∧ ∀ k l c p fs cl, S[i]? = some (GenState.suspended k l c p fs cl) → splitAtGen fs = none)
theorem bombG_bare (x : GenState) : (bombG x).bare = x.bare := by cases x <;> rfl
theorem BR.init (S : Array GenState) : BR S S (S.map bombG) := by
  refine ⟨Array.size_map .., fun i => ?_⟩
  rw [Array.getElem?_map]
  cases e : S[i]? with
  | none => exact .inr ⟨fun _ _ _ _ _ _ h => (nomatch h), rfl, fun _ _ _ _ _ _ h => (nomatch h)⟩
  | some x =>
    cases x with
    | suspended k l c p fs cl => exact .inl ⟨k, l, c, p, fs, cl, rfl, rfl, rfl⟩
    | fresh c => exact .inr ⟨fun _ _ _ _ _ _ h => (nomatch h), rfl, fun _ _ _ _ _ _ h => (nomatch h)⟩
    | running => exact .inr ⟨fun _ _ _ _ _ _ h => (nomatch h), rfl, fun _ _ _ _ _ _ h => (nomatch h)⟩
    | finished => exact .inr ⟨fun _ _ _ _ _ _ h => (nomatch h), rfl, fun _ _ _ _ _ _ h => (nomatch h)⟩
theorem BR.bare {G0 S B : Array GenState} (h : BR G0 S B) (hb : AllBare B) : AllBare S := fun y hy => by
  obtain ⟨i, hi, e⟩ := Array.mem_iff_getElem.mp hy
  have e1 : S[i]? = some y := by rw [Array.getElem?_eq_getElem hi, e]
  rcases h.at_ i with ⟨k, l, c, p, fs, cl, _, h2, h3⟩ | ⟨_, h2, _⟩
  · rw [e1] at h2
    cases h2
    exact (hb (GenState.suspended stopped l c p fs cl) (Array.mem_of_getElem? h3) : _)
  · rw [e1] at h2
    exact hb _ (Array.mem_of_getElem? h2)
theorem allBare_bomb {S : Array GenState} (h : AllBare S) : AllBare (S.map bombG) := fun y hy => by
  obtain ⟨x, hx, rfl⟩ := Array.mem_map.mp hy
  rw [bombG_bare]
  exact h x hx
/-- a state that is known to both: not one that sleeps from the start -/
theorem BR.new {G0 S B : Array GenState} {i : Nat} (h : BR G0 S B) (hn : ∀ l c p fs cl, B[i]? ≠ some (GenState.suspended stopped l c p fs cl)) : (∀ k l c p fs cl, G0[i]? ≠ some (GenState.suspended k l c p fs cl)) ∧ B[i]? = S[i]? ∧ ∀ k l c p fs cl, S[i]? = some (GenState.suspended k l c p fs cl) → splitAtGen fs = none := by
  rcases h.at_ i with ⟨k, l, c, p, fs, cl, _, _, h3⟩ | h2
  · exact absurd h3 (hn l c p fs cl)
  · exact h2
theorem BR.set {G0 S B : Array GenState} {i : Nat} {x : GenState} (h : BR G0 S B) (ho : ∀ k l c p fs cl, G0[i]? ≠ some (GenState.suspended k l c p fs cl)) (hx : ∀ k l c p fs cl, x = .suspended k l c p fs cl → splitAtGen fs = none) : BR G0 (S.setIfInBounds i x) (B.setIfInBounds i x) := by
  refine ⟨by rw [Array.size_setIfInBounds, Array.size_setIfInBounds]; exact h.sz, fun j => ?_⟩
  by_cases e : i = j
  · subst e
    refine .inr ⟨ho, ?_, fun k l c p fs cl q => ?_⟩
    · rw [Array.getElem?_setIfInBounds_self, Array.getElem?_setIfInBounds_self, h.sz]
    · rw [Array.getElem?_setIfInBounds_self] at q
      split at q
      · exact hx k l c p fs cl (Option.some.inj q)
      · cases q
  · rw [Array.getElem?_setIfInBounds_ne e, Array.getElem?_setIfInBounds_ne e]
    exact h.at_ j
theorem BR.push {G0 S B : Array GenState} {c0 : Code} (h : BR G0 S B) : BR G0 (S.push (.fresh c0)) (B.push (.fresh c0)) := by
  refine ⟨by rw [Array.size_push, Array.size_push, h.sz], fun j => ?_⟩
  rw [Array.getElem?_push, Array.getElem?_push, h.sz]
  by_cases e : j = S.size
  · rw [if_pos e, if_pos e]
    refine .inr ⟨?_, rfl, fun _ _ _ _ _ _ q => (nomatch q)⟩
    rcases h.at_ j with ⟨k, l, c, p, fs, cl, _, h2, _⟩ | h2
    · rw [e, Array.getElem?_eq_none (Nat.le_refl _)] at h2
      cases h2
    · exact h2.1
  · rw [if_neg e, if_neg e]
    exact h.at_ j
theorem BR.seen {G0 S B : Array GenState} {i : Nat} {st : GenState} (h : BR G0 S B) (e : B[i]? = some st) : ∃ st', S[i]? = some st' ∧ st'.seen = st.seen := by
  rcases h.at_ i with ⟨k, l, c, p, fs, cl, _, h2, h3⟩ | ⟨_, h2, _⟩
  · rw [e] at h3
    cases h3
    exact ⟨_, h2, rfl⟩
  · exact ⟨st, by rw [← h2]; exact e, rfl⟩
theorem runs_stopped {M : Model} {Γ : PySem.Ctx} {p : Pos} {fs : List Frame} {s s' : Shared} {e : End} {w : String} (h : Runs M Γ p (.unsupported w) fs s e s') : False := by
  generalize ht : (Sem.unsupported w : Sem PySem.Fin) = t at h
  induction h <;> first | (cases ht; done) | (rename_i ih; exact ih ht) | (rename_i ih _; exact ih ht)
def EOk : End → Prop
  | .ret _ => True
  | .susp _ _ _ _ _ _ fs => splitAtGen fs = none
theorem EOk.gen {e : End} (h : EOk e) : ∀ k l c p fs cl, e.genState = .suspended k l c p fs cl → splitAtGen fs = none := by
  cases e with
  | ret r => exact fun _ _ _ _ _ _ q => (nomatch q)
  | susp v g l k c p fs =>
    intro k' l' c' p' fs' cl' q
    cases q
    exact h
theorem split_app : ∀ {a b : List Frame}, splitAtGen a = none → splitAtGen b = none → splitAtGen (a ++ b) = none
  | [], _, _, h => h
  | .ret k h g l c p kp :: a, b, ha, hb => by
    show (splitAtGen (a ++ b)).map _ = none
    have ha : (splitAtGen a).map _ = none := ha
    rw [Option.map_eq_none_iff] at ha ⊢
    exact split_app ha hb
  | .gen .. :: a, b, ha, _ => by cases ha

theorem runs_unbomb {M : Model} {G0 : Array GenState} {Γ : PySem.Ctx} {p : Pos} {t : Sem PySem.Fin} {fs : List Frame} {sb sb' : Shared} {e : End} (h : Runs M Γ p t fs sb e sb') :
    ∀ s : Shared, sb = { s with gens := sb.gens } → BR G0 s.gens sb.gens → splitAtGen fs = none → ∃ s' : Shared, sb' = { s' with gens := sb'.gens } ∧ BR G0 s'.gens sb'.gens ∧ Runs M Γ p t fs s e s' ∧ EOk e := by
  induction h with
  | done => exact fun s hs br _ => ⟨s, hs, br, .done, trivial⟩
  | raise => exact fun s hs br _ => ⟨s, hs, br, .raise, trivial⟩
  | again q _ ih => exact fun s hs br hf => let ⟨s', h1, h2, h3, h4⟩ := ih s hs br rfl; ⟨s', h1, h2, .again q h3, h4⟩
  | rule _ ih => exact fun s hs br hf => let ⟨s', h1, h2, h3, h4⟩ := ih s hs br rfl; ⟨s', h1, h2, .rule h3, h4⟩
  | «at» _ ih => exact fun s hs br hf => let ⟨s', h1, h2, h3, h4⟩ := ih s hs br rfl; ⟨s', h1, h2, .at h3, h4⟩
  | load g _ ih => exact fun s hs br hf => let ⟨s', h1, h2, h3, h4⟩ := ih s hs br rfl; ⟨s', h1, h2, .load (by rw [hs] at g; exact g) h3, h4⟩
  | update g _ ih =>
    intro s hs br hf
    have hh := congrArg Shared.heap hs
    have hh : _ = s.heap := hh
    obtain ⟨s', h1, h2, h3, h4⟩ := ih { s with heap := s.heap.update _ _ } (by rw [hh]; rw [hs]) br rfl
    rw [hh] at g
    exact ⟨s', h1, h2, .update g h3, h4⟩
  | loadIfAlive _ ih =>
    intro s hs br hf
    have hh := congrArg Shared.heap hs
    have hh : _ = s.heap := hh
    obtain ⟨s', h1, h2, h3, h4⟩ := ih s hs br rfl
    rw [hh] at h3
    exact ⟨s', h1, h2, .loadIfAlive h3, h4⟩
  | point _ ih => exact fun s hs br hf => let ⟨s', h1, h2, h3, h4⟩ := ih s hs br rfl; ⟨s', h1, h2, .point h3, h4⟩
  | alloc _ ih =>
    intro s hs br hf
    have hh := congrArg Shared.heap hs
    have hh : _ = s.heap := hh
    obtain ⟨s', h1, h2, h3, h4⟩ := ih { s with heap := s.heap.push _ } (by rw [hh]; rw [hs]) br rfl
    rw [hh] at h3
    exact ⟨s', h1, h2, .alloc h3, h4⟩
  | fresh _ ih =>
    intro s hs br hf
    have hh := congrArg Shared.toks hs
    have hh : _ = s.toks := hh
    obtain ⟨s', h1, h2, h3, h4⟩ := ih { s with toks := s.toks + 1 } (by rw [hh]; rw [hs]) br rfl
    rw [hh] at h3
    exact ⟨s', h1, h2, .fresh h3, h4⟩
  | ask _ ih => exact fun s hs br hf => let ⟨s', h1, h2, h3, h4⟩ := ih s hs br rfl; ⟨s', h1, h2, .ask h3, h4⟩
  | choose n _ ih =>
    intro s hs br hf
    have hh := congrArg Shared.drawn hs
    have hh : _ = s.drawn := hh
    obtain ⟨s', h1, h2, h3, h4⟩ := ih { s with drawn := s.drawn.bump _ } (by rw [hh]; rw [hs]) br rfl
    rw [hh] at h3
    exact ⟨s', h1, h2, .choose n h3, h4⟩
  | os _ ih =>
    intro s hs br hf
    have hh := congrArg Shared.os hs
    have hh : _ = s.os := hh
    obtain ⟨s', h1, h2, h3, h4⟩ := ih { s with os := (Os.step s.os _).1 } (by rw [hh]; rw [hs]) br rfl
    rw [hh] at h3
    exact ⟨s', h1, h2, .os h3, h4⟩
  | handled _ ih => exact fun s hs br hf => let ⟨s', h1, h2, h3, h4⟩ := ih s hs br rfl; ⟨s', h1, h2, .handled h3, h4⟩
  | genState g _ ih =>
    intro s hs br hf
    obtain ⟨st', q1, q2⟩ := br.seen g
    obtain ⟨s', h1, h2, h3, h4⟩ := ih s hs br rfl
    exact ⟨s', h1, h2, .genState q1 (by rw [q2]; exact h3), h4⟩
  | stack _ ih => exact fun s hs br hf => let ⟨s', h1, h2, h3, h4⟩ := ih s hs br rfl; ⟨s', h1, h2, .stack h3, h4⟩
  | thread _ ih => exact fun s hs br hf => let ⟨s', h1, h2, h3, h4⟩ := ih s hs br rfl; ⟨s', h1, h2, .thread h3, h4⟩
  | newGen _ ih =>
    intro s hs br hf
    obtain ⟨s', h1, h2, h3, h4⟩ := ih { s with gens := s.gens.push (.fresh _) } (by rw [hs]) br.push rfl
    rw [br.sz] at h3
    exact ⟨s', h1, h2, .newGen h3, h4⟩
  | call _ _ ih1 ih2 =>
    intro s hs br hf
    obtain ⟨s1, h1, h2, h3, _⟩ := ih1 s hs br rfl
    obtain ⟨s', g1, g2, g3, g4⟩ := ih2 s1 h1 h2 rfl
    exact ⟨s', g1, g2, .call h3 g3, g4⟩
  | callSusp _ ih =>
    intro s hs br hf
    obtain ⟨s1, h1, h2, h3, h4⟩ := ih s hs br rfl
    exact ⟨s1, h1, h2, .callSusp h3, split_app h4 rfl⟩
  | yield => exact fun s hs br _ => ⟨s, hs, br, .yield, rfl⟩
  | resumeFresh g _ hq _ ih1 ih2 =>
    intro s hs br hf
    obtain ⟨o1, o2, _⟩ := br.new (i := _) (fun _ _ _ _ _ q => by rw [g] at q; cases q)
    obtain ⟨s1, h1, h2, h3, h4⟩ := ih1 (s.setGen _ .running) (by rw [hs]; rfl) (br.set o1 fun _ _ _ _ _ _ q => (nomatch q)) rfl
    obtain ⟨s', g1, g2, g3, g4⟩ := ih2 (s1.setGen _ _) (by rw [h1]; rfl) (h2.set o1 h4.gen) rfl
    exact ⟨s', g1, g2, .resumeFresh (by rw [← o2]; exact g) h3 hq g3, g4⟩
  | resumeSuspended g hr hq _ ih1 ih2 =>
    intro s hs br hf
    rcases br.at_ _ with ⟨k, l, c, p, fs, cl, _, _, q3⟩ | ⟨o1, o2, o3⟩
    · rw [g] at q3
      cases q3
      exact (runs_stopped hr).elim
    · have o4 := o3 _ _ _ _ _ _ (by rw [← o2]; exact g)
      obtain ⟨s1, h1, h2, h3, h4⟩ := ih1 (s.setGen _ .running) (by rw [hs]; rfl) (br.set o1 fun _ _ _ _ _ _ q => (nomatch q)) o4
      obtain ⟨s', g1, g2, g3, g4⟩ := ih2 (s1.setGen _ _) (by rw [h1]; rfl) (h2.set o1 h4.gen) rfl
      exact ⟨s', g1, g2, .resumeSuspended (by rw [← o2]; exact g) h3 hq g3, g4⟩
  | resumeJustStarted g hv _ ih =>
    intro s hs br hf
    obtain ⟨o1, o2, _⟩ := br.new (i := _) (fun _ _ _ _ _ q => by rw [g] at q; cases q)
    obtain ⟨s', h1, h2, h3, h4⟩ := ih s hs br rfl
    exact ⟨s', h1, h2, .resumeJustStarted (by rw [← o2]; exact g) hv h3, h4⟩
  | resumeThrowFresh g _ ih =>
    intro s hs br hf
    obtain ⟨o1, o2, _⟩ := br.new (i := _) (fun _ _ _ _ _ q => by rw [g] at q; cases q)
    obtain ⟨s', h1, h2, h3, h4⟩ := ih (s.setGen _ .finished) (by rw [hs]; rfl) (br.set o1 fun _ _ _ _ _ _ q => (nomatch q)) rfl
    exact ⟨s', h1, h2, .resumeThrowFresh (by rw [← o2]; exact g) h3, h4⟩
  | resumeRunning g _ ih =>
    intro s hs br hf
    obtain ⟨o1, o2, _⟩ := br.new (i := _) (fun _ _ _ _ _ q => by rw [g] at q; cases q)
    obtain ⟨s', h1, h2, h3, h4⟩ := ih s hs br rfl
    exact ⟨s', h1, h2, .resumeRunning (by rw [← o2]; exact g) h3, h4⟩
  | resumeFinished g _ ih =>
    intro s hs br hf
    obtain ⟨o1, o2, _⟩ := br.new (i := _) (fun _ _ _ _ _ q => by rw [g] at q; cases q)
    obtain ⟨s', h1, h2, h3, h4⟩ := ih s hs br rfl
    exact ⟨s', h1, h2, .resumeFinished (by rw [← o2]; exact g) h3, h4⟩
  | segRet _ _ ih1 ih2 =>
    intro s hs br hf
    obtain ⟨s1, h1, h2, h3, _⟩ := ih1 s hs br rfl
    obtain ⟨s', g1, g2, g3, g4⟩ := ih2 s1 h1 h2 (Option.map_eq_none_iff.mp hf)
    exact ⟨s', g1, g2, .segRet h3 g3, g4⟩
  | segGen => exact fun s hs br hf => (nomatch hf)
  | segSuspOut hn _ ih =>
    intro s hs br hf
    obtain ⟨s1, h1, h2, h3, h4⟩ := ih s hs br rfl
    exact ⟨s1, h1, h2, .segSuspOut hn h3, split_app h4 hf⟩
  | segSuspGen hn _ _ _ _ _ =>
    intro s hs br hf
    rw [hn] at hf
    cases hf
end K1

namespace K1
open PySem PySem.Spec PyProof.Rows L2
open Sem (wp)
abbrev regen (s : Shared) (G : Array GenState) : Shared := { s with gens := G }
theorem wp_unbomb {α : Type} {M : Model} {Γ : PySem.Ctx} {G0 : Array GenState} (t : Sem α) : ∀ (Q : α → Pos → Shared → Prop) (E : Value → Pos → Shared → Prop) (p : Pos) (s : Shared) (G : Array GenState), BR G0 s.gens G → wp M Γ t Q E p (regen s G) →
    wp M Γ t (fun a p' s' => ∃ G', BR G0 s'.gens G' ∧ Q a p' (regen s' G')) (fun e p' s' => ∃ G', BR G0 s'.gens G' ∧ E e p' (regen s' G')) p s := by
  induction t with
  | pure a => exact fun Q E p s G br h => ⟨G, br, h⟩
  | raise e => exact fun Q E p s G br h => ⟨G, br, h⟩
  | unsupported _ => exact fun Q E p s G br h => h
  | finish _ => exact fun Q E p s G br h => h
  | rule _ k ih => exact fun Q E p s G br h => ih () Q E p s G br h
  | «at» p' k ih => exact fun Q E p s G br h => ih () Q E p' s G br h
  | load a _ k ih => exact fun Q E p s G br h => let ⟨o, ho, h⟩ := h; ⟨o, ho, ih o Q E p s G br h⟩
  | update a _ f k ih => exact fun Q E p s G br h => ⟨h.1, ih () Q E p { s with heap := s.heap.update a f } G br h.2⟩
  | loadIfAlive a k ih => exact fun Q E p s G br h => ih _ Q E p s G br h
  | point _ k ih => exact fun Q E p s G br h => ih () Q E p s G br h
  | register _ _ => exact fun Q E p s G br h => h
  | alloc o k ih => exact fun Q E p s G br h => ih _ Q E p { s with heap := s.heap.push o } G br h
  | fresh k ih => exact fun Q E p s G br h => ih _ Q E p { s with toks := s.toks + 1 } G br h
  | ask k ih => exact fun Q E p s G br h => ih _ Q E p s G br h
  | choose src m k ih => exact fun Q E p s G br h => ⟨h.1, ih _ Q E p { s with drawn := s.drawn.bump src } G br h.2⟩
  | os q _ k ih => exact fun Q E p s G br h => ih _ Q E p { s with os := (Os.step s.os q).1 } G br h
  | call c hd _ _ k ih =>
    intro Q E p s G br h
    obtain ⟨r, s', hr, h⟩ := h
    obtain ⟨s1, h1, h2, h3, _⟩ := runs_unbomb hr s rfl br rfl
    have h : wp M Γ (k r) Q E p s' := h
    rw [h1] at h
    exact ⟨r, s1, h3, ih r Q E p s1 _ h2 h⟩
  | handled own k ih => exact fun Q E p s G br h => ih _ Q E p s G br h
  | genState g k ih =>
    intro Q E p s G br h
    obtain ⟨st, hs, h⟩ := h
    obtain ⟨st', q1, q2⟩ := br.seen hs
    exact ⟨st', q1, by rw [q2]; exact ih _ Q E p s G br h⟩
  | newGen c k ih =>
    intro Q E p s G br h
    have h : wp M Γ (k G.size) Q E p (regen { s with gens := s.gens.push (.fresh c) } (G.push (.fresh c))) := h
    rw [br.sz] at h
    exact ih _ Q E p { s with gens := s.gens.push (.fresh c) } _ br.push h
  | resume g r _ k ih =>
    intro Q E p s G br h
    obtain ⟨res, s', hw, h⟩ := h
    have hw : Wakes M Γ p g r (regen s G) res s' := hw
    have h : wp M Γ (k res) Q E p s' := h
    have main : ∃ s1, s' = regen s1 s'.gens ∧ BR G0 s1.gens s'.gens ∧ Wakes M Γ p g r s res s1 := by
      rcases br.at_ g with ⟨k0, l, c, p0, fs, cl, _, q2, q3⟩ | ⟨o1, o2, o3⟩
      · unfold Wakes at hw
        rw [show (regen s G).gens[g]? = _ from q3] at hw
        obtain ⟨_, _, hr, _⟩ := hw
        exact (runs_stopped hr).elim
      · have o2' : (regen s G).gens[g]? = s.gens[g]? := o2
        unfold Wakes at hw ⊢
        rw [o2'] at hw
        cases e : s.gens[g]? with
        | none => rw [e] at hw; exact hw.elim
        | some st =>
          rw [e] at hw
          cases st with
          | fresh c =>
            cases r with
            | send v =>
              cases v with
              | none =>
                obtain ⟨e1, s1, hr, hq, hres, hs'⟩ := hw
                obtain ⟨s2, h1, h2, h3, h4⟩ := runs_unbomb hr (s.setGen g .running) rfl (br.set o1 fun _ _ _ _ _ _ q => (nomatch q)) rfl
                refine ⟨s2.setGen g e1.genState, ?_, ?_, e1, s2, h3, hq, hres, rfl⟩
                · rw [hs', h1]; rfl
                · rw [hs']; exact h2.set o1 h4.gen
              | _ => exact ⟨s, by rw [hw.2], by rw [hw.2]; exact br, hw.1, rfl⟩
            | throw x => exact ⟨s.setGen g .finished, by rw [hw.2]; rfl, by rw [hw.2]; exact br.set o1 fun _ _ _ _ _ _ q => (nomatch q), hw.1, rfl⟩
          | suspended k0 l c p0 fs cl =>
            obtain ⟨e1, s1, hr, hq, hres, hs'⟩ := hw
            obtain ⟨s2, h1, h2, h3, h4⟩ := runs_unbomb hr (s.setGen g .running) rfl (br.set o1 fun _ _ _ _ _ _ q => (nomatch q)) (o3 _ _ _ _ _ _ e)
            refine ⟨s2.setGen g e1.genState, ?_, ?_, e1, s2, h3, hq, hres, rfl⟩
            · rw [hs', h1]; rfl
            · rw [hs']; exact h2.set o1 h4.gen
          | running => exact ⟨s, by rw [hw.2], by rw [hw.2]; exact br, hw.1, rfl⟩
          | finished => exact ⟨s, by rw [hw.2], by rw [hw.2]; exact br, hw.1, rfl⟩
    obtain ⟨s1, h1, h2, h3⟩ := main
    rw [h1] at h
    exact ⟨res, s1, h3, ih res Q E p s1 _ h2 h⟩
  | yield _ _ _ _ => exact fun Q E p s G br h => h
  | stack k ih => exact fun Q E p s G br h => ih _ Q E p s G br h
  | fork _ _ => exact fun Q E p s G br h => h
  | thread k ih => exact fun Q E p s G br h => ih _ Q E p s G br h
  | await _ _ _ _ _ => exact fun Q E p s G br h => h
/-- those that sleep now sleep later as they do now -/
def Sleep (S S' : Array GenState) : Prop := ∀ (g : Nat) k l c p fs cl, S[g]? = some (GenState.suspended k l c p fs cl) → S'[g]? = some (GenState.suspended k l c p fs cl)
theorem Sleep.refl (S : Array GenState) : Sleep S S := fun _ _ _ _ _ _ _ h => h
theorem Sleep.trans {S S1 S2 : Array GenState} (h : Sleep S S1) (h2 : Sleep S1 S2) : Sleep S S2 := fun g k l c p fs cl e => h2 g k l c p fs cl (h g k l c p fs cl e)
theorem BR.sleep {G0 S B : Array GenState} (h : BR G0 S B) : Sleep G0 S := fun g k l c p fs cl e => by
  rcases h.at_ g with ⟨k', l', c', p', fs', cl', h1, h2, _⟩ | ⟨h1, _⟩
  · rw [e] at h1
    cases h1
    exact h2
  · exact absurd e (h1 _ _ _ _ _ _)
/-- a run that goes with any generators that sleep leaves them asleep -/
theorem wpAny_sleep {α : Type} {M : Model} {A : Around} {t : Sem α} {Q : α → Shared → Prop} {E : Value → Shared → Prop} {s : Shared} (hb : AllBare s.gens) (h : ∀ G, AllBare G → wpAny M A t (fun a s' => AllBare s'.gens ∧ Q a s') (fun e s' => AllBare s'.gens ∧ E e s') (regen s G)) :
    wpAny M A t (fun a s' => Sleep s.gens s'.gens ∧ AllBare s'.gens ∧ ∃ G, AllBare G ∧ Q a (regen s' G)) (fun e s' => Sleep s.gens s'.gens ∧ AllBare s'.gens ∧ ∃ G, AllBare G ∧ E e (regen s' G)) s := fun Γ p hΓ => by
  have q := wp_unbomb (G0 := s.gens) t _ _ p s _ (BR.init s.gens) (h _ (allBare_bomb hb) Γ p hΓ)
  exact Sem.wp_mono M Γ t (fun a _ s' ⟨G', br, hb', hq⟩ => ⟨br.sleep, br.bare hb', G', hb', hq⟩) (fun e _ s' ⟨G', br, hb', hq⟩ => ⟨br.sleep, br.bare hb', G', hb', hq⟩) p s q
end K1

namespace K1
open PySem PySem.Spec PyProof.Rows L2
/-! ### the generator's own context, based anew at each wake -/
theorem Inv.regen {X : Cx} {pins : List (Addr × Obj)} {σ : L2.St} {H : Hp} {s : Shared} (I : Inv X pins σ H s) {G : Array GenState} (hg : AllBare G) : Inv X pins σ H (K1.regen s G) :=
  ⟨I.ok, I.os, hg, I.base, I.loc, I.cell, I.free, I.freeC, I.pin, I.hok, I.len⟩
theorem Inv.ungen {X : Cx} {pins : List (Addr × Obj)} {σ : L2.St} {H : Hp} {s : Shared} {G : Array GenState} (I : Inv X pins σ H (K1.regen s G)) (hg : AllBare s.gens) : Inv X pins σ H s :=
  ⟨I.ok, I.os, hg, I.base, I.loc, I.cell, I.free, I.freeC, I.pin, I.hok, I.len⟩
theorem SP_ungen {X : Cx} {pins : List (Addr × Obj)} {D : Ends} {f : Flow} {s : Shared} {G : Array GenState} (h : SP X pins D f (K1.regen s G)) (hg : AllBare s.gens) : SP X pins D f s := by
  cases f with
  | next => obtain ⟨σ, H, I, q⟩ := h; exact ⟨σ, H, Inv.ungen I hg, q⟩
  | brk => obtain ⟨σ, H, I, q⟩ := h; exact ⟨σ, H, Inv.ungen I hg, q⟩
  | cont => obtain ⟨σ, H, I, q⟩ := h; exact ⟨σ, H, Inv.ungen I hg, q⟩
  | ret u => obtain ⟨v, σ, H, I, r, q⟩ := h; exact ⟨v, σ, H, Inv.ungen I hg, r, q⟩
theorem SP_bare {X : Cx} {pins : List (Addr × Obj)} {D : Ends} {f : Flow} {s : Shared} (h : SP X pins D f s) : AllBare s.gens := by
  cases f with
  | next => obtain ⟨σ, H, I, q⟩ := h; exact I.bare
  | brk => obtain ⟨σ, H, I, q⟩ := h; exact I.bare
  | cont => obtain ⟨σ, H, I, q⟩ := h; exact I.bare
  | ret u => obtain ⟨v, σ, H, I, r, q⟩ := h; exact I.bare

/-- the objects below L -/
def truncS (L : Nat) (s : Shared) : Shared := { s with heap := { s.heap with objs := s.heap.objs.extract 0 L } }
theorem truncS_size {L : Nat} {s : Shared} (h : L ≤ s.heap.objs.size) : (truncS L s).heap.objs.size = L := by
  show (s.heap.objs.extract 0 L).size = L
  rw [Array.size_extract]
  omega
theorem truncS_get {L : Nat} {s : Shared} (h : L ≤ s.heap.objs.size) {b : Addr} (hb : b < L) : (truncS L s).heap.get? b = s.heap.get? b := by
  have e : (s.heap.objs.extract 0 L)[b]? = s.heap.objs[b]? := by
    rw [Array.getElem?_extract, Nat.min_eq_left h, if_pos (by omega), Nat.zero_add]
  show (match (s.heap.objs.extract 0 L)[b]? with
    | some ⟨_, _, .freed, _⟩ => none
    | o => o) = _
  rw [e]
  rfl
theorem of_truncS {L : Nat} {s : Shared} (h : L ≤ s.heap.objs.size) {b : Addr} {o : Obj} (e : (truncS L s).heap.get? b = some o) : b < L ∧ s.heap.get? b = some o := by
  have hb : b < L := by
    have q := Heap.lt_size e
    rw [truncS_size h] at q
    exact q
  exact ⟨hb, by rw [← truncS_get h hb]; exact e⟩
def cutH (L : Nat) (H : Hp) : Hp := fun b => if b < L then H b else match H b with
  | some (.tbl ps) => some (.tbl ps)
  | _ => none
theorem cutH_tbl {L : Nat} {H : Hp} {b : Addr} {ps : _} (e : H b = some (.tbl ps)) : cutH L H b = some (.tbl ps) := by
  unfold cutH
  rw [e]
  split <;> rfl
theorem of_cutH {L : Nat} {H : Hp} {b : Addr} {o : HO} (e : cutH L H b = some o) : H b = some o := by
  unfold cutH at e
  split at e
  · exact e
  · split at e
    · rename_i q
      rw [q]
      exact e
    · cases e
def hideL (H : Hp) (pr : List Addr) : Hp := fun b => if b ∈ pr then none else H b
def mergeL (H : Hp) (pr : List Addr) (Hc : Hp) : Hp := fun b => if b ∈ pr then H b else Hc b
theorem hideL_in {H : Hp} {pr : List Addr} {b : Addr} (h : b ∈ pr) : hideL H pr b = none := if_pos h
theorem hideL_out {H : Hp} {pr : List Addr} {b : Addr} (h : b ∉ pr) : hideL H pr b = H b := if_neg h
theorem mergeL_in {H Hc : Hp} {pr : List Addr} {b : Addr} (h : b ∈ pr) : mergeL H pr Hc b = H b := if_pos h
theorem mergeL_out {H Hc : Hp} {pr : List Addr} {b : Addr} (h : b ∉ pr) : mergeL H pr Hc b = Hc b := if_neg h
def isCellB (o : Obj) : Bool := match o.data with
  | .cell _ => true
  | _ => false
theorem notCell {o : Obj} (h : isCellB o = false) : ∀ v, o.data ≠ .cell v := fun v e => by
  unfold isCellB at h
  rw [e] at h
  cases h
theorem isCell_no {o : Obj} (h : ∀ v, o.data ≠ .cell v) : isCellB o = false := by
  unfold isCellB
  cases e : o.data with
  | cell v => exact absurd e (h v)
  | _ => rfl
/-- what lies above L, not tracked, no cell, not the generator's own -/
def pinsW (L : Nat) (ip : List Addr) (h : Heap) (H : Hp) : List (Addr × Obj) := (List.range h.objs.size).filterMap fun b =>
  if L < b ∧ (H b).isNone = true ∧ b ∉ ip then (match h.get? b with
    | some o => if isCellB o = true then none else some (b, o)
    | none => none) else none
theorem mem_pinsW {L : Nat} {ip : List Addr} {h : Heap} {H : Hp} {b : Addr} {o : Obj} (h1 : L < b) (h2 : H b = none) (h3 : b ∉ ip) (h4 : h.get? b = some o) (h5 : isCellB o = false) : (b, o) ∈ pinsW L ip h H :=
  List.mem_filterMap.mpr ⟨b, List.mem_range.mpr (Heap.lt_size h4), by
    rw [if_pos ⟨h1, by rw [h2]; rfl, h3⟩, h4]
    show (if isCellB o = true then none else some (b, o)) = _
    rw [h5, if_neg Bool.false_ne_true]⟩
theorem of_pinsW {L : Nat} {ip : List Addr} {h : Heap} {H : Hp} {p : Addr × Obj} (hp : p ∈ pinsW L ip h H) : L < p.1 ∧ H p.1 = none ∧ p.1 ∉ ip ∧ h.get? p.1 = some p.2 ∧ isCellB p.2 = false := by
  obtain ⟨b, _, e⟩ := List.mem_filterMap.mp hp
  split at e
  · rename_i hc
    obtain ⟨c1, c2, c3⟩ := hc
    cases q : h.get? b with
    | none => rw [q] at e; cases e
    | some o =>
      rw [q] at e
      cases z : isCellB o with
      | true =>
        have e : (if isCellB o = true then none else some (b, o)) = some p := e
        rw [if_pos z] at e
        cases e
      | false =>
        have e : (if isCellB o = true then none else some (b, o)) = some p := e
        rw [z, if_neg Bool.false_ne_true] at e
        cases e
        exact ⟨c1, Option.isNone_iff_eq_none.mp c2, c3, q, z⟩
  · cases e
/-- what may turn while the generator runs: its own, and cells above L -/
def chW (L : Nat) (PR : List Addr) (h : Heap) : List Addr := PR ++ (List.range h.objs.size).filter fun b => decide (L ≤ b) && (match h.get? b with
  | some o => isCellB o
  | none => false)
theorem mem_chW {L : Nat} {PR : List Addr} {h : Heap} {b : Addr} : b ∈ chW L PR h → b ∈ PR ∨ (L ≤ b ∧ ∃ o, h.get? b = some o ∧ isCellB o = true) := fun hb => by
  rcases List.mem_append.mp hb with z | z
  · exact .inl z
  · obtain ⟨_, q⟩ := List.mem_filter.mp z
    rw [Bool.and_eq_true] at q
    refine .inr ⟨of_decide_eq_true q.1, ?_⟩
    cases e : h.get? b with
    | none =>
      have q2 := q.2
      rw [e] at q2
      cases q2
    | some o =>
      have q2 := q.2
      rw [e] at q2
      exact ⟨o, rfl, q2⟩
theorem chW_in {L : Nat} {PR : List Addr} {h : Heap} {b : Addr} (hb : b ∈ PR) : b ∈ chW L PR h := List.mem_append_left _ hb
theorem chW_cell {L : Nat} {PR : List Addr} {h : Heap} {b : Addr} {o : Obj} (h1 : L ≤ b) (h2 : h.get? b = some o) (h3 : isCellB o = true) : b ∈ chW L PR h :=
  List.mem_append_right _ (List.mem_filter.mpr ⟨List.mem_range.mpr (Heap.lt_size h2), by
    rw [Bool.and_eq_true]
    refine ⟨decide_eq_true h1, ?_⟩
    rw [h2]
    exact h3⟩)
/-- all of it stands but tables of code, which may have grown -/
def SRel (H H' : Hp) : Prop := ∀ b o, H b = some o → (∀ ps, o ≠ .tbl ps) → H' b = some o
theorem SRel.refl (H : Hp) : SRel H H := fun _ _ h _ => h
/-- tuples stand, what is known stands -/
def Fast (o : HO) : Prop := (∃ xs, o = .tup xs) ∨ ∃ u x, o = .frz u x
def KT (H H' : Hp) : Prop := ∀ b o, Fast o → H b = some o → H' b = some o
theorem KT.refl (H : Hp) : KT H H := fun _ _ _ h => h
theorem KT.trans {H H1 H2 : Hp} (a : KT H H1) (b : KT H1 H2) : KT H H2 := fun c o f e => b c o f (a c o f e)
section
variable {P : Program} {w : World} {K : PySem.W.Frag} {mg : Str → Option Value} {base : Heap} {N : List Str} {qual : Str} {scope : Scope} {f : Addr} {cd : Value} {A : Around} {outer : List Env} {L : Nat}
/-- the context: its frame at L -/
def gX (P : Program) (w : World) (K : PySem.W.Frag) (mg : Str → Option Value) (base : Heap) (N : List Str) (qual : Str) (scope : Scope) (f : Addr) (cd : Value) (A : Around) (outer : List Env) (L : Nat) (s0 : Shared) (H0 : Hp) : Cx where
  prog := P
  w := w
  K := K
  mg := mg
  base := base
  A := A.deeper (envOfC qual scope L f cd)
  N := N
  s_0 := s0
  H_0 := H0
  env := envOfC qual scope L f cd
  outer := outer
  stack := envOfC qual scope L f cd :: outer
  ex := []
  fn := fun _ => true
  calm := true
  pn := []
  xe := fun _ _ => False
theorem objThere {P : Program} {w : World} {H : Hp} {h : Heap} {a : Addr} {o : HO} (x : ObjOk P w H h a o) : ∃ u, h.get? a = some u := by
  induction o with
  | lst xs => obtain ⟨_, _, _, _, e⟩ := x; exact ⟨_, e⟩
  | tup xs => obtain ⟨_, _, _, ob, e, _⟩ := x; exact ⟨_, e⟩
  | dK kvs => obtain ⟨_, _, _, _, o, _, _, e, _⟩ := x; exact ⟨_, e⟩
  | dT kvs => obtain ⟨_, _, _, _, o, _, _, e, _⟩ := x; exact ⟨_, e⟩
  | set S n => obtain ⟨o, _, _, _, e, _⟩ := x; exact ⟨_, e⟩
  | ins C dx fs => obtain ⟨_, _, _, e, _⟩ := x; exact ⟨_, e⟩
  | own y => exact x
  | xd fs => obtain ⟨_, ⟨_, _, _, e, _⟩, _⟩ := x; exact ⟨_, e⟩
  | rng lo hi => obtain ⟨_, _, _, e⟩ := x; exact ⟨_, e⟩
  | frz ob u ih => obtain ⟨e, _⟩ := x; exact ⟨_, e⟩
  | tbl ps => exact ⟨_, (show h.get? a = some _ from x)⟩
  | met f y => exact ⟨_, (show h.get? a = some _ from x)⟩
  | ext φ => obtain ⟨_, e, _⟩ := x; exact e
/-- what the generator needs at a wake (s: as it fell asleep, tracked: H; pr: its lists, ip: its iterators; s2, Hc: now) -/
structure Rested (P : Program) (w : World) (K : PySem.W.Frag) (mg : Str → Option Value) (base : Heap) (A : Around) (outer : List Env) (L : Nat) (PR : List Addr) (s s2 : Shared) (Hc : Hp) : Prop where
  env : Env0 P w K mg base A outer s2 Hc
  os : s2.os = s.os
  keep : ∀ b ∈ PR, ∀ o, s.heap.get? b = some o → s2.heap.get? b = some o
  hid : ∀ b ∈ PR, Hc b = none
theorem wake_inv (hnc : (envOfC qual scope L f cd).cells = []) (hfs : ∀ b ∈ frs outer, b < L) (hbz : base.objs.size ≤ L) (hd : A.handled = none) {s0 s s2 : Shared} {H0 H Hc : Hp} {pins : List (Addr × Obj)} {σ : L2.St} {pr ip PR : List Addr}
    (I : Inv (gX P w K mg base N qual scope f cd A outer L s0 H0) pins σ H s) (hl : ∀ b ∈ pr, ∃ xs, H b = some (.lst xs)) (hL : ∀ b ∈ pr, L < b) (hPR : ∀ b, b = L ∨ b ∈ pr → b ∈ PR)
    (R : Rested P w K mg base A outer L PR s s2 Hc) :
    Inv (gX P w K mg base N qual scope f cd A outer L (truncS L s2) (cutH L (mergeL H pr Hc))) (pinsW L ip s2.heap (mergeL H pr Hc)) σ (mergeL H pr Hc) s2 := by
  have env0 := R.env
  obtain ⟨m, hn, hlook⟩ := I.loc
  have hn : s.heap.Ns L m := hn
  have hn2 : s2.heap.Ns L m := by
    obtain ⟨o, es, ep, e, r⟩ := hn
    exact ⟨o, es, ep, R.keep L (hPR L (.inl rfl)) o e, r⟩
  have lt2 : L < s2.heap.objs.size := hn2.lt
  have le2 := Nat.le_of_lt lt2
  have hLpr : L ∉ pr := fun z => Nat.lt_irrefl _ (hL L z)
  have low : ∀ {b : Addr}, b < L → mergeL H pr Hc b = Hc b := fun {b} hb => mergeL_out fun z => Nat.lt_asymm hb (hL b z)
  have hLn : mergeL H pr Hc L = none := by
    rw [mergeL_out hLpr]
    exact R.hid L (hPR L (.inl rfl))
  have cells : ∀ x c, (envOfC qual scope L f cd).cells.lookup x = some c → False := fun x c e => by
    rw [hnc] at e
    cases e
  have funs : (truncS L s2).heap.FunFrames base outer := by
    have all : ∀ (l : List Env), (∀ b ∈ frs l, b < L) → s2.heap.FunFrames base l → (truncS L s2).heap.FunFrames base l := by
      intro l
      induction l with
      | nil => exact fun _ _ => trivial
      | cons env r ih =>
        intro hs hl
        obtain ⟨hk, ⟨a, o, hf, hn, ho, hdd⟩, hr⟩ := hl
        have ha : a < L := hs a (by unfold frs; rw [List.filterMap_cons, hf]; exact List.mem_cons_self)
        exact ⟨hk, ⟨a, o, hf, hn, by rw [truncS_get le2 ha]; exact ho, hdd⟩, ih (fun b hb => hs b (by unfold frs; rw [List.filterMap_cons, hf]; exact List.mem_cons_of_mem _ hb)) hr⟩
    exact all outer hfs env0.funs
  have hok : HOk P w (mergeL H pr Hc) s2.heap := fun b o e => by
    by_cases hb : b ∈ pr
    · obtain ⟨xs, hx⟩ := hl b hb
      rw [mergeL_in hb, hx] at e
      cases e
      obtain ⟨z, its, n, rv, eo⟩ := I.hok b _ hx
      exact ⟨z, its, n, rv, R.keep b (hPR b (.inr hb)) _ eo⟩
    · rw [mergeL_out hb] at e
      refine (env0.hok b o e).stay (fun _ _ _ z => z) (fun c q => ?_) fun c xs q => ?_
      · rw [mergeL_out fun z => ?_]
        · exact q
        · rw [R.hid c (hPR c (.inr z))] at q
          cases q
      · rw [mergeL_out fun z => ?_]
        · exact q
        · rw [R.hid c (hPR c (.inr z))] at q
          cases q
  refine ⟨⟨env0.mod, I.ok.kind, I.ok.glob, I.ok.blt, Nat.le_of_eq (truncS_size le2), fun x y c e _ => (cells x c e).elim, I.ok.has, fun x c _ e => (cells x c e).elim, fun _ => hd, Around.frames_deeper env0.frames, .inr ⟨rfl, rfl⟩, fun b z => (nomatch (show b ∈ ([] : List Addr) from z)), fun b o e => ?_, ?_, fun b o _ z => (nomatch (show b ∈ ([] : List Addr) from z)), fun b z => (nomatch (show b ∈ ([] : List Addr) from z)), funs, fun b hb => ?_⟩,
    rfl, env0.bare, ⟨fun b o e n _ _ => (of_truncS le2 e).2, fun b o e _ _ _ => ⟨o.slots, (of_truncS le2 e).2⟩, fun b o e n _ => ?_, fun b o e _ => ⟨o, (of_truncS le2 e).2⟩, fun b xs e => ?_, fun b o u e => ?_, fun b ps e => ?_⟩, ⟨m, hn2, fun i x v e1 e2 e3 => ?_⟩, fun x c e => (cells x c e).elim, hLn, fun x c e => (cells x c e).elim, fun p hp => ?_, hok, I.len⟩
  · obtain ⟨q1, q2⟩ := env0.bs b o e
    have hb : b < L := Nat.lt_of_lt_of_le (Heap.lt_size e) hbz
    refine ⟨by show (truncS L s2).heap.get? b = _; rw [truncS_get le2 hb]; exact q1, ?_⟩
    show cutH L _ b = none
    unfold cutH
    rw [if_pos hb, low hb]
    exact q2
  · show base.objs.size ≤ (truncS L s2).heap.objs.size
    rw [truncS_size le2]
    exact hbz
  · show cutH L _ b = none
    unfold cutH
    rw [if_pos (hfs b hb), low (hfs b hb)]
    exact env0.frf b hb
  · have n : cutH L (mergeL H pr Hc) b = none := n
    unfold cutH at n
    rw [if_pos (of_truncS le2 e).1] at n
    exact n
  · have e : cutH L (mergeL H pr Hc) b = some _ := e
    exact of_cutH e
  · have e : cutH L (mergeL H pr Hc) b = some _ := e
    exact of_cutH e
  · have e : cutH L (mergeL H pr Hc) b = some _ := e
    exact ⟨#[], by rw [of_cutH e]; simp⟩
  · obtain ⟨u, r, q⟩ := hlook i x v e1 e2 e3
    rcases q with q | ⟨_, c, e, _⟩
    · exact ⟨u, r, .inl q⟩
    · exact (cells x c e).elim
  · have hp : p ∈ pinsW L ip s2.heap (mergeL H pr Hc) := hp
    obtain ⟨p1, p2, p3, p4, p5⟩ := of_pinsW hp
    exact ⟨p4, p2, Nat.ne_of_gt p1, fun z => Nat.lt_asymm p1 (hfs p.1 z), notCell p5⟩
end
end K1

namespace K1
open PySem PySem.Spec PyProof.Rows L2
open Sem (wp)
/-! ### one run from a wake to the next sleep -/
abbrev EndP := End → Shared → Prop
def Run2 (M : Model) (A : Around) (Φ : EndP) (c : Code) (t : Sem PySem.Fin) (fs : List Frame) (s : Shared) : Prop :=
  ∀ (Γ : PySem.Ctx) (p : Pos), Γ.code = c → Γ.Woken A → ∃ e s', Runs M Γ p t fs s e s' ∧ Φ e s'
section
variable {M : Model} {A : Around} {Φ : EndP} {c : Code} {fs : List Frame} {s : Shared}
/-- a part that raises nothing, then the rest -/
theorem run2_wrap {α : Type} {m : Sem α} {K1 : α → Sem PySem.Fin} {J1 : Value → Sem PySem.Fin} {gd : Bool → Bool} {lv : List Value → List Value}
    (h : wpAny M (A.over c fs) m (fun a z => Run2 M A Φ c (K1 a) fs z) (fun _ _ => False) s) : Run2 M A Φ c (m.wrap K1 J1 gd lv) fs s := fun Γ p hc hw => by
  subst hc
  exact runs_wrap_of_wp K1 J1 gd lv m (h (Γ.over fs) p (hw.over fs)) (fun a p1 s1 h1 => h1 Γ p1 rfl hw) fun _ _ _ h1 => h1.elim
theorem run2_bind {α : Type} {m : Sem α} {K1 : α → Sem PySem.Fin} (h : wpAny M (A.over c fs) m (fun a z => Run2 M A Φ c (K1 a) fs z) (fun _ _ => False) s) : Run2 M A Φ c (m >>= K1) fs s := by
  rw [Sem.bind_eq_wrap']
  exact run2_wrap h
theorem run2_at {q : Pos} {k : Unit → Sem PySem.Fin} (h : Run2 M A Φ c (k ()) fs s) : Run2 M A Φ c (.at q k) fs s :=
  run2_wrap (J1 := .raise) (gd := id) (lv := id) (m := standAt q) (K1 := k) (wpAny_standAt h)
theorem run2_point {l : List Value} {k : Unit → Sem PySem.Fin} (h : Run2 M A Φ c (k ()) fs s) : Run2 M A Φ c (.point l k) fs s :=
  run2_wrap (J1 := .raise) (gd := id) (lv := fun _ => l) (m := point) (K1 := k) (wpAny_point h)
theorem run2_call {d : Code} {hh : Option Value} {g : Bool} {l : List Value} {k : Result → Sem PySem.Fin} (h : ∀ q, Run2 M A Φ d (M.den d) (.ret k hh g l c q [] :: fs) s) : Run2 M A Φ c (.call d hh g l k) fs s := fun Γ p hc hw => by
  subst hc
  obtain ⟨e, z, hr, he⟩ := h p (Γ.goto d) p rfl (hw.goto d)
  exact ⟨e, z, runs_call_seg hr, he⟩
theorem run2_leaf {k : Result → Sem PySem.Fin} {hh : Option Value} {g : Bool} {l kp : List Value} {d : Code} {q : Pos} (r : Result) (h : Run2 M A Φ d (k r) fs s) : Run2 M A Φ c (leafOf r) (.ret k hh g l d q kp :: fs) s := fun Γ p hc hw => by
  subst hc
  obtain ⟨e, z, hr, he⟩ := h (Γ.goto d) q rfl (hw.goto d)
  exact ⟨e, z, Runs.pop r hr, he⟩
theorem run2_again {d : Code} (hq : d.quiet = true) (h : Run2 M A Φ d (M.den d) fs s) : Run2 M A Φ c (.pure (.again d)) fs s := fun Γ p hc hw => by
  subst hc
  obtain ⟨e, z, hr, he⟩ := h (Γ.goto d) p rfl (hw.goto d)
  exact ⟨e, z, Runs.head (c₁ := d) (fun _ _ x => .again hq x) hr, he⟩
theorem run2_end (r : Result) (h : Φ (.ret r) s) : Run2 M A Φ c (leafOf r) [] s := fun Γ p hc hw => ⟨.ret r, s, Runs.leaf r, h⟩
theorem run2_yield {v : Value} {g : Bool} {l : List Value} {k : Resume → Sem PySem.Fin} (hf : splitAtGen fs = none) (h : ∀ q, Φ (.susp v g l k c q fs) s) : Run2 M A Φ c (.yield v g l k) fs s := fun Γ p hc hw => by
  subst hc
  exact ⟨_, s, Runs.yield' fs hf, h p⟩
end

/-! ### a generator's consumers -/
/-- what comes out: how many, the i-th from a heap, the end -/
structure GJ where
  n : Nat
  Y : Nat → Hp → V → Hp → Prop
  Z : Hp → Hp → Prop
structure GB where
  P : Program
  w : World
  K : PySem.W.Frag
  mg : Str → Option Value
  base : Heap
  N : List Str
  qual : Str
  scope : Scope
  f : Addr
  cd : Value
  A : Around
  outer : List Env
  L : Nat
  a : Addr
  go : Obj
abbrev GB.X (B : GB) (s0 : Shared) (H0 : Hp) : Cx := gX B.P B.w B.K B.mg B.base B.N B.qual B.scope B.f B.cd B.A B.outer B.L s0 H0
abbrev GB.env (B : GB) : Env := envOfC B.qual B.scope B.L B.f B.cd
abbrev GB.M (B : GB) : Model := model B.P B.w
structure GB.Ok (B : GB) : Prop where
  nc : B.env.cells = []
  fs : ∀ b ∈ frs B.outer, b < B.L
  bz : B.base.objs.size ≤ B.L
  hd : B.A.handled = none
  la : B.L < B.a
  nc2 : isCellB B.go = false
/-- at a wake: the state, the consumer's heap, the generator's, its lists, its iterators -/
structure Wk where
  s : Shared
  Hc : Hp
  Hg : Hp
  pr : List Addr
  ip : List Addr
abbrev GB.XW (B : GB) (W : Wk) : Cx := B.X (truncS B.L W.s) (cutH B.L W.Hg)
abbrev GB.pW (B : GB) (W : Wk) : List (Addr × Obj) := pinsW B.L W.ip W.s.heap W.Hg
/-- what may turn while it runs -/
def chC (L : Nat) (pl : List Addr) (h : Heap) (H : Hp) : List Addr := (List.range h.objs.size).filter fun b => decide (L ≤ b) && (H b).isNone && decide (b ∉ pl)
theorem mem_chC {L : Nat} {pl : List Addr} {h : Heap} {H : Hp} {b : Addr} : b ∈ chC L pl h H ↔ b < h.objs.size ∧ L ≤ b ∧ H b = none ∧ b ∉ pl := by
  unfold chC
  rw [List.mem_filter, List.mem_range, Bool.and_eq_true, Bool.and_eq_true, decide_eq_true_eq, decide_eq_true_eq, Option.isNone_iff_eq_none, and_assoc]
structure WkOk (B : GB) (pl : List Addr) (W : Wk) : Prop where
  lt : B.L < W.s.heap.objs.size
  hm : ∀ b, b ∉ W.pr → W.Hg b = W.Hc b
  hid : ∀ b, b ∈ W.pr ∨ b ∈ W.ip → W.Hc b = none ∧ B.L < b
  plk : ∀ b ∈ pl, B.L < b ∧ W.Hc b = none ∧ (∃ o, W.s.heap.get? b = some o ∧ isCellB o = false) ∧ b ∉ W.pr ∧ b ∉ W.ip
  gen : W.s.heap.get? B.a = some B.go ∧ W.Hc B.a = none ∧ B.a ∉ W.pr ∧ B.a ∉ W.ip ∧ B.a ∉ pl
/-- what the consumer learns -/
structure Facts (B : GB) (pl : List Addr) (W : Wk) (HcY : Hp) (s : Shared) : Prop where
  os : s.os = W.s.os
  bare : AllBare s.gens
  un : Un (frs B.outer) (chC B.L pl W.s.heap W.Hc) W.Hc HcY W.s.heap s.heap
  hok : HOk B.P B.w HcY s.heap
/-- what the consumer promises for the next wake -/
structure Rest (B : GB) (pl : List Addr) (HcY : Hp) (s s2 : Shared) (Hc2 : Hp) : Prop where
  env : Env0 B.P B.w B.K B.mg B.base B.A B.outer s2 Hc2
  os : s2.os = s.os
  keep : ∀ b o, B.L ≤ b → b ∉ pl → HcY b = none → s.heap.get? b = some o → isCellB o = false → s2.heap.get? b = some o ∧ Hc2 b = none
  plk : ∀ b ∈ pl, Hc2 b = none ∧ ∃ o, s2.heap.get? b = some o ∧ isCellB o = false
def Phi (B : GB) (J : GJ) (pl : List Addr) : Nat → Wk → EndP
  | 0, W, .ret r, s => (r = .ok (.ret .none) ∨ r = .ok .next) ∧ ∃ HcE, Facts B pl W HcE s ∧ J.Z W.Hc HcE
  | 0, _, .susp .., _ => False
  | _ + 1, _, .ret _, _ => False
  | m + 1, W, .susp v g l k c p fs, s => (End.susp v g l k c p fs).quiet = true ∧ ∃ x HcY, RelV x v ∧ Facts B pl W HcY s ∧ (s.heap.get? B.a = some B.go ∧ HcY B.a = none) ∧ J.Y (J.n - (m + 1)) W.Hc x HcY ∧
      ∀ s2 Hc2, Rest B pl HcY s s2 Hc2 → KT HcY Hc2 → ∃ W' : Wk, W'.s = s2 ∧ W'.Hc = Hc2 ∧ Run2 B.M B.A (Phi B J pl m W') c (k (.send .none)) fs s2
/-- inside: the invariant, its own iterators as they stand -/
def GI (B : GB) (W : Wk) (ip : List (Addr × Obj)) (σ : L2.St) (H : Hp) (s : Shared) : Prop :=
  Inv (B.XW W) (B.pW W) σ H s ∧ ∀ p ∈ ip, s.heap.get? p.1 = some p.2 ∧ H p.1 = none ∧ B.L < p.1 ∧ isCellB p.2 = false ∧ ∀ q ∈ B.pW W, q.1 ≠ p.1
/-- a list of its own -/
theorem own_new {B : GB} {pl : List Addr} {W : Wk} (wo : WkOk B pl W) {σ : L2.St} {H : Hp} {s : Shared} (I : Inv (B.XW W) (B.pW W) σ H s) {b : Addr} (hl : ∃ xs, H b = some (.lst xs)) (hn : ∀ o, W.Hc b = some o → ∃ ps, o = .tbl ps) : W.Hc b = none := by
  cases e : W.Hc b with
  | none => rfl
  | some o =>
    obtain ⟨ps, rfl⟩ := hn o e
    obtain ⟨xs, hl⟩ := hl
    obtain ⟨more, z⟩ := I.base.tbls b ps (cutH_tbl (by
      rw [wo.hm b fun z => by
        rw [(wo.hid b (.inl z)).1] at e
        cases e]
      exact e))
    rw [hl] at z
    cases z
/-- at a sleep or at the end -/
theorem gen_here {B : GB} (ok : B.Ok) {pl : List Addr} {W : Wk} (wo : WkOk B pl W) {σ : L2.St} {H : Hp} {s : Shared} (I : Inv (B.XW W) (B.pW W) σ H s) : s.heap.get? B.a = some B.go ∧ H B.a = none ∧ (B.a, B.go) ∈ B.pW W := by
  obtain ⟨g1, g2, g3, g4, g5⟩ := wo.gen
  have mem := mem_pinsW (ip := W.ip) (H := W.Hg) ok.la (by rw [wo.hm _ g3]; exact g2) g4 g1 ok.nc2
  have q := I.pin (B.a, B.go) (List.mem_append_right _ mem)
  exact ⟨q.1, q.2.1, mem⟩
theorem slept {B : GB} (ok : B.Ok) {pl : List Addr} {W : Wk} (wo : WkOk B pl W) {σ : L2.St} {H : Hp} {s : Shared} (I : Inv (B.XW W) (B.pW W) σ H s) {pr : List Addr} (hl : ∀ b ∈ pr, ∃ xs, H b = some (.lst xs)) (hc : ∀ b ∈ pr, W.Hc b = none) (sr : SRel W.Hc H) :
    Facts B pl W (hideL H pr) s := by
  have le := Nat.le_of_lt wo.lt
  have lowpr : ∀ {b : Addr}, b < B.L → b ∉ W.pr := fun {b} hb z => Nat.lt_asymm hb (wo.hid b (.inl z)).2
  have low0 : ∀ {b : Addr}, b < B.L → W.Hc b = none → cutH B.L W.Hg b = none := fun {b} hb n => by
    unfold cutH
    rw [if_pos hb, wo.hm b (lowpr hb)]
    exact n
  have low : ∀ {b : Addr} {o : Obj}, b < B.L → W.s.heap.get? b = some o → (truncS B.L W.s).heap.get? b = some o := fun {b o} hb e => by
    rw [truncS_get le hb]
    exact e
  have noex : ∀ b : Addr, b ∉ (B.XW W).ex := fun b z => (nomatch (show b ∈ ([] : List Addr) from z))
  have up : ∀ {b : Addr} {o : Obj}, B.L ≤ b → b ∉ chC B.L pl W.s.heap W.Hc → W.s.heap.get? b = some o → W.Hc b = none → s.heap.get? b = some o ∧ H b = none := fun {b o} hb hx e n => by
    have hp : b ∈ pl := by
      by_cases z : b ∈ pl
      · exact z
      · exact absurd (mem_chC.mpr ⟨Heap.lt_size e, hb, n, z⟩) hx
    obtain ⟨p1, p2, ⟨o', p3, p4⟩, p5, p6⟩ := wo.plk b hp
    rw [e] at p3
    cases p3
    have q := I.pin (b, o) (List.mem_append_right _ (mem_pinsW p1 (by rw [wo.hm b p5]; exact n) p6 e p4))
    exact ⟨q.1, q.2.1⟩
  have hide : ∀ {b : Addr}, H b = none → hideL H pr b = none := fun {b} n => by
    unfold hideL
    split
    · rfl
    · exact n
  have srh : ∀ {b : Addr} {o : HO}, W.Hc b = some o → hideL H pr b = H b := fun {b o} e => hideL_out fun z => by
    rw [hc b z] at e
    cases e
  have tb : ∀ {b : Addr} {ps : _}, W.Hc b = some (.tbl ps) → ∃ more, H b = some (.tbl (ps ++ more)) := fun {b ps} e => I.base.tbls b ps (cutH_tbl (by
    rw [wo.hm b fun z => by
      rw [(wo.hid b (.inl z)).1] at e
      cases e]
    exact e))
  have all : ∀ {b : Addr} {u : HO}, W.Hc b = some u → ∃ u', H b = some u' := fun {b u} e => by
    by_cases t : ∃ ps, u = .tbl ps
    · obtain ⟨ps, rfl⟩ := t
      obtain ⟨more, z⟩ := tb e
      exact ⟨_, z⟩
    · exact ⟨u, sr b u e fun ps z => t ⟨ps, z⟩⟩
  refine ⟨I.os, I.bare, ⟨fun b o e n hf hx => ?_, fun b o e n hf hx => ?_, fun b o e n hx => ?_, fun b o e hx => ?_, fun b xs e => ?_, fun b o u e => ?_, fun b ps e => ?_⟩, fun b o e => ?_⟩
  · by_cases hb : b < B.L
    · exact I.base.keep b o (low hb e) (low0 hb n) hf (noex b)
    · exact (up (Nat.le_of_not_lt hb) hx e n).1
  · have hb := ok.fs b hf
    exact I.base.slot b o (low hb e) (low0 hb n) hf (noex b)
  · by_cases hb : b < B.L
    · exact hide (I.base.free b o (low hb e) (low0 hb n) (noex b))
    · exact hide (up (Nat.le_of_not_lt hb) hx e n).2
  · by_cases hb : b < B.L
    · exact I.base.there b o (low hb e) (noex b)
    · cases q : W.Hc b with
      | none => exact ⟨o, (up (Nat.le_of_not_lt hb) hx e q).1⟩
      | some u =>
        obtain ⟨u', z⟩ := all q
        exact objThere (I.hok b _ z)
  · rw [srh e]
    exact sr b _ e fun _ z => nomatch z
  · rw [srh e]
    exact sr b _ e fun _ z => nomatch z
  · rw [srh e]
    exact tb e
  · have hb : b ∉ pr := fun z => by
      rw [hideL_in z] at e
      cases e
    rw [hideL_out hb] at e
    refine (I.hok b o e).stay (fun _ _ _ z => z) (fun d q => ?_) fun d xs q => ?_
    · rw [hideL_out fun z => ?_]
      · exact q
      · obtain ⟨xs, z⟩ := hl d z
        rw [q] at z
        cases z
    · rw [hideL_out fun z => ?_]
      · exact q
      · obtain ⟨xs, z⟩ := hl d z
        rw [q] at z
        cases z
/-- at the next wake -/
theorem woken {B : GB} (ok : B.Ok) {pl : List Addr} {W : Wk} (wo : WkOk B pl W) {σ : L2.St} {H Hc2 : Hp} {s s2 : Shared} {ip : List (Addr × Obj)} (I : GI B W ip σ H s) {pr : List Addr} (hl : ∀ b ∈ pr, ∃ xs, H b = some (.lst xs)) (hL : ∀ b ∈ pr, B.L < b)
    (R : Rest B pl (hideL H pr) s s2 Hc2) : WkOk B pl ⟨s2, Hc2, mergeL H pr Hc2, pr, ip.map (·.1)⟩ ∧ GI B ⟨s2, Hc2, mergeL H pr Hc2, pr, ip.map (·.1)⟩ ip σ (mergeL H pr Hc2) s2 ∧ ∀ b ∈ pr, Hc2 b = none := by
  obtain ⟨I, hip⟩ := I
  obtain ⟨m, hn, _⟩ := id I.loc
  obtain ⟨oL, esL, epL, eL, dL, _⟩ := id hn
  have eL : s.heap.get? B.L = some oL := eL
  have cL : isCellB oL = false := isCell_no fun v z => by rw [dL] at z; cases z
  have hipA : ∀ b ∈ ip.map (·.1), ∃ o, (b, o) ∈ ip := fun b hb => by
    obtain ⟨p, hp, rfl⟩ := List.mem_map.mp hb
    exact ⟨p.2, hp⟩
  have pin : ∀ {b : Addr}, b ∈ pl → H b = none ∧ B.L < b ∧ b ∉ pr ∧ b ∉ ip.map (·.1) := fun {b} hb => by
    obtain ⟨p1, p2, ⟨o', p3, p4⟩, p5, p6⟩ := wo.plk b hb
    have mem := mem_pinsW (ip := W.ip) (H := W.Hg) p1 (by rw [wo.hm b p5]; exact p2) p6 p3 p4
    have q := I.pin (b, o') (List.mem_append_right _ mem)
    refine ⟨q.2.1, p1, fun z => ?_, fun z => ?_⟩
    · obtain ⟨xs, z⟩ := hl b z
      rw [show H b = none from q.2.1] at z
      cases z
    · obtain ⟨o, z⟩ := hipA b z
      exact (hip _ z).2.2.2.2 (b, o') mem rfl
  have hideN : ∀ {b : Addr}, H b = none → hideL H pr b = none := fun {b} n => by
    unfold hideL
    split
    · rfl
    · exact n
  have obj : ∀ {b : Addr}, b = B.L ∨ b ∈ pr ∨ b ∈ ip.map (·.1) → B.L ≤ b ∧ b ∉ pl ∧ hideL H pr b = none ∧ ∃ o, s.heap.get? b = some o ∧ isCellB o = false := fun {b} hb => by
    rcases hb with rfl | hb | hb
    · exact ⟨Nat.le_refl _, fun z => Nat.lt_irrefl _ (pin z).2.1, hideN I.free, oL, eL, cL⟩
    · refine ⟨Nat.le_of_lt (hL b hb), fun z => (pin z).2.2.1 hb, hideL_in hb, ?_⟩
      obtain ⟨xs, e⟩ := hl b hb
      obtain ⟨_, its, n, _, eo⟩ := I.hok b _ e
      exact ⟨_, eo, rfl⟩
    · obtain ⟨o, hm⟩ := hipA b hb
      obtain ⟨h0, h1, h2, h4, _⟩ := hip _ hm
      exact ⟨Nat.le_of_lt h2, fun z => (pin z).2.2.2 hb, hideN h1, o, h0, h4⟩
  have kept : ∀ {b : Addr}, b = B.L ∨ b ∈ pr ∨ b ∈ ip.map (·.1) → Hc2 b = none ∧ ∀ o, s.heap.get? b = some o → s2.heap.get? b = some o := fun {b} hb => by
    obtain ⟨h1, h2, h3, o, h4, h5⟩ := obj hb
    obtain ⟨r1, r2⟩ := R.keep b o h1 h2 h3 h4 h5
    exact ⟨r2, fun o' e => by rw [h4] at e; cases e; exact r1⟩
  have I2 := wake_inv (ip := ip.map (·.1)) (PR := B.L :: (pr ++ ip.map (·.1))) ok.nc ok.fs ok.bz ok.hd I hl hL (fun b hb => by
    rcases hb with hb | hb
    · rw [hb]; exact List.mem_cons_self ..
    · exact List.mem_cons_of_mem _ (List.mem_append_left _ hb)) (Hc := Hc2) (s2 := s2) ⟨R.env, R.os, fun b hb o e => by
    rcases List.mem_cons.mp hb with z | z
    · exact (kept (.inl z)).2 o e
    · exact (kept (.inr (List.mem_append.mp z))).2 o e, fun b hb => by
    rcases List.mem_cons.mp hb with z | z
    · exact (kept (.inl z)).1
    · exact (kept (.inr (List.mem_append.mp z))).1⟩
  have ga : s2.heap.get? B.a = some B.go ∧ Hc2 B.a = none ∧ B.a ∉ pr ∧ B.a ∉ ip.map (·.1) ∧ B.a ∉ pl := by
    obtain ⟨g1, g2, g3⟩ := gen_here ok wo I
    have np : B.a ∉ pr := fun z => by
      obtain ⟨xs, z⟩ := hl _ z
      rw [g2] at z
      cases z
    obtain ⟨r1, r2⟩ := R.keep B.a B.go (Nat.le_of_lt ok.la) wo.gen.2.2.2.2 (by rw [hideL_out np]; exact g2) g1 ok.nc2
    refine ⟨r1, r2, np, fun z => ?_, wo.gen.2.2.2.2⟩
    obtain ⟨o, z⟩ := hipA _ z
    exact (hip _ z).2.2.2.2 _ g3 rfl
  refine ⟨⟨?_, fun b hb => mergeL_out hb, fun b hb => ?_, fun b hb => ?_, ga⟩, ⟨I2, fun p hp => ?_⟩, fun b hb => (kept (.inr (.inl hb))).1⟩
  · exact Heap.lt_size ((kept (.inl rfl)).2 oL eL)
  · rcases hb with hb | hb
    · exact ⟨(kept (.inr (.inl hb))).1, hL b hb⟩
    · obtain ⟨o, hm⟩ := hipA b hb
      exact ⟨(kept (.inr (.inr hb))).1, (hip _ hm).2.2.1⟩
  · obtain ⟨h1, h2⟩ := R.plk b hb
    obtain ⟨_, h3, h4, h5⟩ := pin hb
    exact ⟨h3, h1, h2, h4, h5⟩
  · have hm : p.1 ∈ ip.map (·.1) := List.mem_map.mpr ⟨p, hp, rfl⟩
    obtain ⟨h0, h1, h2, h4, h5⟩ := hip p hp
    obtain ⟨k1, k2⟩ := kept (.inr (.inr hm))
    refine ⟨k2 _ h0, ?_, h2, h4, fun q hq z => ?_⟩
    · by_cases hb' : p.1 ∈ pr
      · rw [mergeL_in hb']
        exact h1
      · rw [mergeL_out hb']
        exact k1
    · exact (of_pinsW hq).2.2.1 (by rw [z]; exact hm)
end K1

namespace K1
open PySem PySem.Spec PyProof.Rows L2
open Sem (wp)
/-! ### a generator's statements -/
/-- what is wanted behind a statement: by the number of what is out, the consumer's heap at the last wake -/
structure GE where
  nx : Nat → Hp → L2.St → Hp → Prop
  rt : Nat → Hp → V → Hp → Prop
  bk : Nat → Hp → L2.St → Hp → Prop := fun _ _ _ _ => False
  ct : Nat → Hp → L2.St → Hp → Prop := fun _ _ _ _ => False
abbrev TG2 := GE → Nat → Hp → L2.St → Hp → Prop
def GE.at (D : GE) (i : Nat) (Hc : Hp) : Ends := { nx := D.nx i Hc, rt := D.rt i Hc, bk := D.bk i Hc, ct := D.ct i Hc }
def GSP2 (B : GB) (W : Wk) (ip : List (Addr × Obj)) (D : GE) (i : Nat) (f : Flow) (s : Shared) : Prop :=
  match f with
  | .next => ∃ σ H, GI B W ip σ H s ∧ D.nx i W.Hc σ H
  | .brk => ∃ σ H, GI B W ip σ H s ∧ D.bk i W.Hc σ H
  | .cont => ∃ σ H, GI B W ip σ H s ∧ D.ct i W.Hc σ H
  | .ret u => ∃ v σ H, GI B W ip σ H s ∧ RelV v u ∧ D.rt i W.Hc v H
/-- where its code stands -/
structure GC2 (B : GB) (c : Code) (fs : List Frame) (gd : Bool → Bool) : Prop where
  over : B.A.over c fs = B.A.deeper B.env
  split : splitAtGen fs = none
  guard : fs.any Frame.guarded = false
  gd : gd false = false
def GK2 (B : GB) (J : GJ) (pl : List Addr) (ip : List (Addr × Obj)) (c : Code) (fs : List Frame) (K1 : Flow → Sem PySem.Fin) (D : GE) : Prop :=
  ∀ (m i : Nat) (W : Wk) (s : Shared) (f : Flow), m + i = J.n → WkOk B pl W → GSP2 B W ip D i f s → Run2 B.M B.A (Phi B J pl m W) c (K1 f) fs s
structure G2 (B : GB) (J : GJ) (pl : List Addr) (st : Stmt) (t : TG2) : Prop where
  run : ∀ (ip : List (Addr × Obj)) (c : Code) (fs : List Frame) (K1 : Flow → Sem PySem.Fin) (J1 : Value → Sem PySem.Fin) (gd : Bool → Bool) (lv : List Value → List Value) (m i : Nat) (W : Wk) (s : Shared) (σ : L2.St) (H : Hp) (D : GE),
    GC2 B c fs gd → m + i = J.n → WkOk B pl W → GK2 B J pl ip c fs K1 D → GI B W ip σ H s → t D i W.Hc σ H →
    Run2 B.M B.A (Phi B J pl m W) c ((exec st B.env).wrap K1 J1 gd lv) fs s
structure G2s (B : GB) (J : GJ) (pl : List Addr) (st : List Stmt) (t : TG2) : Prop where
  run : ∀ (ip : List (Addr × Obj)) (c : Code) (fs : List Frame) (K1 : Flow → Sem PySem.Fin) (J1 : Value → Sem PySem.Fin) (gd : Bool → Bool) (lv : List Value → List Value) (m i : Nat) (W : Wk) (s : Shared) (σ : L2.St) (H : Hp) (D : GE),
    GC2 B c fs gd → m + i = J.n → WkOk B pl W → GK2 B J pl ip c fs K1 D → GI B W ip σ H s → t D i W.Hc σ H →
    Run2 B.M B.A (Phi B J pl m W) c ((execs st B.env).wrap K1 J1 gd lv) fs s
section
variable {B : GB} {J : GJ} {pl : List Addr} {st : Stmt} {rest : List Stmt}
/-- the iterators' records, pinned -/
theorem GI.pinned {W : Wk} {ip : List (Addr × Obj)} {σ : L2.St} {H : Hp} {s : Shared} (ok : B.Ok) (g : GI B W ip σ H s) : Inv (B.XW W) (B.pW W ++ ip) σ H s := by
  obtain ⟨I, h⟩ := g
  refine I.pins_of fun p hp => ?_
  rcases List.mem_append.mp hp with z | z
  · exact I.pin p (List.mem_append_right _ z)
  · obtain ⟨h0, h1, h2, h4, _⟩ := h p z
    exact ⟨h0, h1, Nat.ne_of_gt h2, fun z => Nat.lt_asymm h2 (ok.fs p.1 z), notCell h4⟩
theorem GI.unpin {W : Wk} {ip : List (Addr × Obj)} {σ σ' : L2.St} {H H' : Hp} {s s' : Shared} (g : GI B W ip σ H s) (I : Inv (B.XW W) (B.pW W ++ ip) σ' H' s') : GI B W ip σ' H' s' := by
  refine ⟨I.unpinned, fun p hp => ?_⟩
  obtain ⟨h0, h1, h2, h4, h5⟩ := g.2 p hp
  have q := I.pin p (List.mem_append_right _ (List.mem_append_right _ hp))
  exact ⟨q.1, q.2.1, h2, h4, h5⟩
theorem gsp_of {W : Wk} {ip : List (Addr × Obj)} {σ : L2.St} {H : Hp} {s s' : Shared} {D : GE} {i : Nat} {f : Flow} (g : GI B W ip σ H s) (h : SP (B.XW W) (B.pW W ++ ip) (D.at i W.Hc) f s') : GSP2 B W ip D i f s' := by
  cases f with
  | next => obtain ⟨σ1, H1, I, q⟩ := h; exact ⟨σ1, H1, g.unpin I, q⟩
  | brk => obtain ⟨σ1, H1, I, q⟩ := h; exact ⟨σ1, H1, g.unpin I, q⟩
  | cont => obtain ⟨σ1, H1, I, q⟩ := h; exact ⟨σ1, H1, g.unpin I, q⟩
  | ret u => obtain ⟨v, σ1, H1, I, r, q⟩ := h; exact ⟨v, σ1, H1, g.unpin I, r, q⟩
def tPl (t : TS) : TG2 := fun D i Hc σ H => t (D.at i Hc) σ H
theorem g2_ps (ok : B.Ok) {t : TS} (h : ∀ s0 H0, PS (B.X s0 H0) st t) : G2 B J pl st (tPl t) := by
  refine ⟨fun ip c fs K1 J1 gd lv m i W s σ H D g hm wo k gi ht => ?_⟩
  refine run2_wrap ?_
  rw [g.over]
  exact wpAny_mono ((h _ _).run _ s σ H (D.at i W.Hc) (gi.pinned ok) ht) (fun f s' hs => k m i W s' f hm wo (gsp_of gi hs)) fun x s' hx => hx
theorem g2s_pss (ok : B.Ok) {t : TS} (h : ∀ s0 H0, PSs (B.X s0 H0) rest t) : G2s B J pl rest (tPl t) := by
  refine ⟨fun ip c fs K1 J1 gd lv m i W s σ H D g hm wo k gi ht => ?_⟩
  refine run2_wrap ?_
  rw [g.over]
  exact wpAny_mono ((h _ _).run _ s σ H (D.at i W.Hc) (gi.pinned ok) ht) (fun f s' hs => k m i W s' f hm wo (gsp_of gi hs)) fun x s' hx => hx
def tN2 : TG2 := fun D i Hc σ H => D.nx i Hc σ H
theorem g2s_nil : G2s B J pl [] tN2 := by
  refine ⟨fun ip c fs K1 J1 gd lv m i W s σ H D g hm wo k gi ht => ?_⟩
  exact k m i W s .next hm wo ⟨σ, H, gi, ht⟩
def tThen2 (t u : TG2) : TG2 := fun D i Hc σ H => t { D with nx := fun i' Hc' σ' H' => u D i' Hc' σ' H' } i Hc σ H
theorem g2s_cons {t u : TG2} (a : G2 B J pl st t) (b : G2s B J pl rest u) : G2s B J pl (st :: rest) (tThen2 t u) := by
  refine ⟨fun ip c fs K1 J1 gd lv m i W s σ H D g hm wo k gi ht => ?_⟩
  rw [execs_cons_wrap]
  refine a.run ip c fs _ J1 gd lv m i W s σ H { D with nx := fun i' Hc' σ' H' => u D i' Hc' σ' H' } g hm wo (fun m' i' W' s' f hm' wo' hs => ?_) gi ht
  cases f with
  | next =>
    obtain ⟨σ', H', gi', q⟩ := hs
    exact b.run ip c fs K1 J1 gd lv m' i' W' s' σ' H' D g hm' wo' k gi' q
  | brk => exact k m' i' W' s' .brk hm' wo' hs
  | cont => exact k m' i' W' s' .cont hm' wo' hs
  | ret u => exact k m' i' W' s' (.ret u) hm' wo' hs
theorem g2s_one {t : TG2} (a : G2 B J pl st t) : G2s B J pl [st] (tThen2 t tN2) := g2s_cons a g2s_nil
/-! ### if -/
def tIf2 (tc : TT) (ta tb : TG2) : TG2 := fun D i Hc σ H => tc σ H fun b H1 => if b = true then ta D i Hc σ H1 else tb D i Hc σ H1
theorem g2_if (ok : B.Ok) {test : Expr} {a b : List Stmt} {pos : Pos} {tc : TT} {ta tb : TG2} (hc : ∀ s0 H0, PT (B.X s0 H0) test tc) (ha : G2s B J pl a ta) (hb : G2s B J pl b tb) : G2 B J pl (.If test a b pos) (tIf2 tc ta tb) := by
  refine ⟨fun ip c fs K1 J1 gd lv m i W s σ H D g hm wo k gi ht => ?_⟩
  show Run2 _ _ _ c (.at pos fun _ => (isTrue test B.env (eval test B.env) >>= fun d => if d then execs a B.env else execs b B.env).wrap K1 J1 gd lv) fs s
  refine run2_at ?_
  rw [Sem.bind_eq_wrap', Sem.wrap_wrap]
  refine run2_wrap ?_
  rw [g.over]
  refine wpAny_mono ((hc _ _).run _ s σ H _ (gi.pinned ok) ht) (fun d s' hd => ?_) fun x s' hx => hx
  obtain ⟨H2, I2, q2⟩ := hd
  have gi2 := gi.unpin I2
  cases d with
  | true => exact ha.run ip c fs K1 J1 gd lv m i W s' σ H2 D g hm wo k gi2 (by rw [if_pos rfl] at q2; exact q2)
  | false => exact hb.run ip c fs K1 J1 gd lv m i W s' σ H2 D g hm wo k gi2 (by rw [if_neg Bool.false_ne_true] at q2; exact q2)
/-! ### while -/
def tWhile2 (tc : TT) (tb : TG2) : TG2 := fun D i Hc σ H => ∃ Wv : Nat → Nat → Hp → L2.St → Hp → Prop, (∃ r, Wv r i Hc σ H) ∧ ∀ r i Hc σ H, Wv r i Hc σ H →
  tc σ H fun b H1 => if b = true then ∃ Nx : Nat → Hp → L2.St → Hp → Prop, (∀ i' Hc' σ' H', Nx i' Hc' σ' H' → ∃ r', r' < r ∧ Wv r' i' Hc' σ' H') ∧ tb { D with nx := Nx, ct := Nx, bk := D.nx } i Hc σ H1 else D.nx i Hc σ H1
theorem gc2_loop {c d : Code} {fs : List Frame} {gd : Bool → Bool} {k : Result → Sem PySem.Fin} {l kp : List Value} {p : Pos} (g : GC2 B c fs gd) (hw : d.weight = 0) (hu : d.cUnits = 0) : GC2 B d (.ret k none (gd false) l c p kp :: fs) id where
  over := (GenW.over_loop hw hu).trans g.over
  split := by
    show Option.map _ (splitAtGen fs) = none
    rw [g.split]
    rfl
  guard := by
    show (gd false || fs.any Frame.guarded) = false
    rw [g.guard, g.gd]
    rfl
  gd := rfl
theorem run2_whileLoop {P : Program} {w : World} {A : Around} {Φ : EndP} {test : Expr} {body : List Stmt} {env : Env} {fs : List Frame} {s : Shared}
    (h : wpAny (model P w) (A.over (.whileLoop test body [] env) fs) (isTrue test env (eval test env)) (fun b z => if b = true then
      ∀ J1 : Value → Sem PySem.Fin, Run2 (model P w) A Φ (.whileLoop test body [] env) ((execs body env).wrap (fun f => match f with
        | .next | .cont => .pure (.again (.whileLoop test body [] env))
        | .brk => leafOf (.ok .next)
        | .ret v => leafOf (.ok (.ret v))) J1 id id) fs z
      else Run2 (model P w) A Φ (.whileLoop test body [] env) (leafOf (.ok .next)) fs z) (fun _ _ => False) s) :
    Run2 (model P w) A Φ (.whileLoop test body [] env) ((model P w).den (.whileLoop test body [] env)) fs s := by
  show Run2 _ A Φ _ (Sem.onRaise (whileTurn test body [] env) fun x => do noteFrame x env; theTreesLotGoes x) fs s
  rw [Sem.onRaise_eq_wrap]
  show Run2 _ A Φ _ (Sem.wrap _ _ _ _ (isTrue test env (eval test env) >>= fun b => _)) fs s
  rw [Sem.bind_eq_wrap', Sem.wrap_wrap]
  refine run2_wrap (wpAny_mono h (fun b z hb => ?_) fun _ _ x => x)
  cases b with
  | true =>
    rw [if_pos rfl] at hb
    show Run2 _ A Φ _ (Sem.wrap _ _ _ _ (if true = true then _ else _)) fs z
    rw [if_pos rfl, Sem.bind_eq_wrap', Sem.wrap_wrap]
    refine Eq.mpr (congrArg (fun t => Run2 (model P w) A Φ (.whileLoop test body [] env) t fs z) (Sem.wrap_congr (execs body env) id id (fun f => ?_) (fun x => rfl))) (hb fun x => (do noteFrame x env; theTreesLotGoes x : Sem Unit).bind fun _ => .raise x)
    cases f <;> rfl
  | false =>
    rw [if_neg Bool.false_ne_true] at hb
    exact hb
theorem g2_while (ok : B.Ok) {test : Expr} {body : List Stmt} {pos : Pos} {tc : TT} {tb : TG2} (hc : ∀ s0 H0, PT (B.X s0 H0) test tc) (hb : G2s B J pl body tb) : G2 B J pl (.While test body [] pos) (tWhile2 tc tb) := by
  refine ⟨fun ip c fs K1 J1 gd lv m i W s σ H D g hm wo k gi ht => ?_⟩
  obtain ⟨Wv, ⟨r0, w0⟩, turn⟩ := ht
  refine run2_at (run2_call fun p => ?_)
  generalize hkk : (fun r : Result => ((match r with | .ok f => (.pure f : Sem Flow) | .error e => .raise e).onRaise fun (x : Value) => (do
        if (← field x 1) == Value.none then unsupported "frame.own-activation:exception-without-traceback"
        setFlight x B.env.frame : Sem Unit)).wrap K1 J1 gd lv) = kk
  have okk : ∀ f, kk (.ok f) = K1 f := fun f => by rw [← hkk]; rfl
  have gl := gc2_loop (k := kk) (d := .whileLoop test body [] B.env) (l := lv []) (kp := []) (p := p) g rfl rfl
  have loop : ∀ (r m i : Nat) (W : Wk) (s : Shared) (σ : L2.St) (H : Hp), m + i = J.n → WkOk B pl W → Wv r i W.Hc σ H → GI B W ip σ H s →
      Run2 B.M B.A (Phi B J pl m W) (.whileLoop test body [] B.env) (B.M.den (.whileLoop test body [] B.env)) (.ret kk none (gd false) (lv []) c p [] :: fs) s := by
    intro r
    induction r using Nat.strongRecOn with
    | ind r ih =>
      intro m i W s σ H hm wo w gi
      refine run2_whileLoop ?_
      rw [gl.over]
      refine wpAny_mono ((hc _ _).run _ s σ H _ (gi.pinned ok) (turn r i W.Hc σ H w)) (fun b s' hb' => ?_) fun x s' hx => hx
      obtain ⟨H2, I2, q2⟩ := hb'
      have gi2 := gi.unpin I2
      cases b with
      | true =>
        obtain ⟨Nx, hN, q2⟩ := q2
        rw [if_pos rfl]
        intro J2
        refine hb.run ip _ _ _ J2 id id m i W s' σ H2 { D with nx := Nx, ct := Nx, bk := D.nx } gl hm wo (fun m' i' W' s3 f hm' wo' hs => ?_) gi2 q2
        cases f with
        | next =>
          obtain ⟨σ3, H3, gi3, n3⟩ := hs
          obtain ⟨r', hr, w3⟩ := hN i' W'.Hc σ3 H3 n3
          exact run2_again rfl (ih r' hr m' i' W' s3 σ3 H3 hm' wo' w3 gi3)
        | cont =>
          obtain ⟨σ3, H3, gi3, n3⟩ := hs
          obtain ⟨r', hr, w3⟩ := hN i' W'.Hc σ3 H3 n3
          exact run2_again rfl (ih r' hr m' i' W' s3 σ3 H3 hm' wo' w3 gi3)
        | brk =>
          refine run2_leaf (.ok .next) ?_
          rw [okk]
          exact k m' i' W' s3 .next hm' wo' hs
        | ret v =>
          refine run2_leaf (.ok (.ret v)) ?_
          rw [okk]
          exact k m' i' W' s3 (.ret v) hm' wo' hs
      | false =>
        rw [if_neg Bool.false_ne_true]
        refine run2_leaf (.ok .next) ?_
        rw [okk]
        exact k m i W s' .next hm wo ⟨σ, H2, gi2, q2⟩
  exact loop r0 m i W s σ H hm wo w0 gi
/-! ### yield -/
def tYield2 (J : GJ) (L : Nat) (te : TE) : TG2 := fun D i Hc σ H => te σ H fun x H1 => i < J.n ∧ SRel Hc H1 ∧ ∃ pr : List Addr, (∀ b ∈ pr, (∃ xs, H1 b = some (.lst xs)) ∧ (∀ o, Hc b = some o → ∃ ps, o = .tbl ps) ∧ L < b) ∧ J.Y i Hc x (hideL H1 pr) ∧
  ∀ Hc2, KT (hideL H1 pr) Hc2 → (∀ b ∈ pr, Hc2 b = none) → D.nx (i + 1) Hc2 σ (mergeL H1 pr Hc2)
theorem g2_yield (ok : B.Ok) {e : Expr} {yp pos : Pos} {te : TE}
    (he : ∀ s0 H0, PE (B.X s0 H0) e te) (hco : B.env.scope.isCoroutine = false) (hi : interactive B.env = false) : G2 B J pl (.Expr (.Yield (some e) yp) pos) (tYield2 J B.L te) := by
  refine ⟨fun ip c fs K1 J1 gd lv m i W s σ H D g hm wo k gi ht => ?_⟩
  rw [exec_Expr B.env _ pos hi rfl]
  show Run2 _ _ _ c (.at pos fun _ => ((eval e B.env >>= fun v => (standAt yp >>= fun _ => yieldOut B.env v)) >>= fun x => dropValue (.Yield (some e) yp) pos x).wrap K1 J1 gd lv) fs s
  have hy : ∀ v, yieldOut B.env v = yieldValue v := fun v => by simp only [yieldOut, hco, Bool.false_eq_true, if_false]
  simp only [hy]
  refine run2_at ?_
  rw [Sem.bind_eq_wrap', Sem.wrap_wrap, Sem.bind_eq_wrap', Sem.wrap_wrap]
  refine run2_wrap ?_
  rw [g.over]
  refine wpAny_mono ((he _ _).run _ s σ H _ (gi.pinned ok) ht) (fun v s' hv => ?_) fun x s' hx => hx
  obtain ⟨x, H1, I1, rv, hin, sr, pr, hpr, hY, hnx⟩ := hv
  have gi1 := gi.unpin I1
  refine run2_at (run2_yield g.split fun q => ?_)
  obtain ⟨m, rfl⟩ : ∃ m', m = m' + 1 := ⟨m - 1, by omega⟩
  have hi' : J.n - (m + 1) = i := by omega
  refine ⟨by simp [End.quiet, g.gd, g.guard], x, hideL H1 pr, rv, slept ok wo gi1.1 (fun b hb => (hpr b hb).1) (fun b hb => own_new wo gi1.1 (hpr b hb).1 (hpr b hb).2.1) sr, ⟨(gen_here ok wo gi1.1).1, ?_⟩, by rw [hi']; exact hY, fun s2 Hc2 R kt => ?_⟩
  · unfold hideL
    split
    · rfl
    · exact (gen_here ok wo gi1.1).2.1
  obtain ⟨wo2, gi2, hz⟩ := woken ok wo gi1 (fun b hb => (hpr b hb).1) (fun b hb => (hpr b hb).2.2) R
  refine ⟨⟨s2, Hc2, mergeL H1 pr Hc2, pr, ip.map (·.1)⟩, rfl, rfl, ?_⟩
  exact k m (i + 1) ⟨s2, Hc2, mergeL H1 pr Hc2, pr, ip.map (·.1)⟩ s2 .next (by omega) wo2 ⟨σ, mergeL H1 pr Hc2, gi2, hnx Hc2 kt hz⟩
end
end K1

namespace K1
open PySem PySem.Spec PyProof.Rows L2
open Sem (wp)
/-! ### waking -/
/-- the run that a wake begins -/
def GoesOn (M : Model) (A : Around) (Φ : EndP) (gs : GenState) (s : Shared) : Prop := match gs with
  | .fresh c => Run2 M A Φ c (M.den c) [] s
  | .suspended k _ c _ fs _ => Run2 M A Φ c (k (.send .none)) fs s
  | _ => False
theorem wpAny_resume2 {α : Type} {M : Model} {A : Around} {Φ : EndP} {E : Value → Shared → Prop} {s : Shared} {g : Nat} {gs : GenState} {l : List Value} {k : GenResult → Sem α} {Q : α → Shared → Prop} (hg : s.gens[g]? = some gs)
    (hgo : GoesOn M A Φ gs (s.setGen g .running)) (hq : ∀ e z, Φ e z → e.quiet = true) (hk : ∀ e z, Φ e z → wpAny M A (k e.result) Q E (z.setGen g e.genState)) : wpAny M A (.resume g (.send .none) l k) Q E s := fun Γ p hΓ => by
  rw [Sem.wp_resume]
  cases gs with
  | fresh c =>
    obtain ⟨e, z, hr, he⟩ := hgo (Γ.wake c p) p rfl (hΓ.wake c p)
    refine ⟨e.result, z.setGen g e.genState, ?_, hk e z he Γ p hΓ⟩
    unfold Wakes
    rw [hg]
    exact ⟨e, z, hr, hq e z he, rfl, rfl⟩
  | suspended k0 l0 c p0 fs cl =>
    obtain ⟨e, z, hr, he⟩ := hgo (Γ.wake c p) p0 rfl (hΓ.wake c p)
    refine ⟨e.result, z.setGen g e.genState, ?_, hk e z he Γ p hΓ⟩
    unfold Wakes
    rw [hg]
    exact ⟨e, z, hr, hq e z he, rfl, rfl⟩
  | running => exact hgo.elim
  | finished => exact hgo.elim
theorem next2 {P : Program} {w : World} {A : Around} {E : Value → Shared → Prop} {s : Shared} {a : Addr} {g : Nat} {gs : GenState} {Φ : EndP} {Q : Option Value → Shared → Prop} (hh : A.handled = none) (hl : s.heap.NoLimit) (hroom : A.depth < recursionLimit) (hg : s.heap.IsGen a g) (hgs : s.gens[g]? = some gs)
    (hgo : GoesOn (model P w) A.in1 Φ gs (s.setGen g .running))
    (hY : ∀ v g0 l k c p fs z, Φ (.susp v g0 l k c p fs) z → (End.susp v g0 l k c p fs).quiet = true ∧ Q (some v) (z.setGen g (End.susp v g0 l k c p fs).genState))
    (hR : ∀ r z, Φ (.ret r) z → (r = .ok (.ret .none) ∨ r = .ok .next) ∧ ∀ h', (∀ b o, z.heap.get? b = some o → h'.get? b = some o) → Q none { z.setGen g .finished with heap := h' }) :
    wpAny (model P w) A (pyNext (.ref a)) Q E s := by
  unfold pyNext
  refine wpAny_bind (wpAny_attempt (wpAny_callSpecial?_slot hg.typeIs slot_gen_next (name := Str.ofString "__next__") (wpAny_call_entry slot_gen_next hg.typeIs entry_gen_next ?_ (args_gen_next _))))
  show wpAny (model P w) A.in1 (Builtin.Generator.genWake (.ref a) (.send .none)) _ _ s
  unfold Builtin.Generator.genWake
  refine wpAny_bind (wpAny_holding (wpAny_genNumber hg (wpAny_bind (wpAny_genState hgs ?_))))
  have core : wpAny (model P w) A.in1 (.resume g (.send .none) [] fun r => match r with
    | .yielded v => ret v
    | .returned v => (do if v == .none then raiseNew (← newExc (.type "StopIteration") [])
                         rule "generator.return-value"; throw (← newExc (.type "StopIteration") [v]) : Sem PySem.Fin)
    | .raised e => Builtin.Generator.genLeft (.ref a) e
    | .running => (do rule "generator.already-executing"; raiseError "ValueError" "generator already executing" : Sem PySem.Fin)
    | .justStarted => (do rule "generator.send-to-fresh"; raiseError "TypeError" "can't send non-None value to a just-started generator" : Sem PySem.Fin)
    | .finished => (do raiseNew (← newExc (.type "StopIteration") []) : Sem PySem.Fin))
      (fun f z => ∃ v, f = .done (.ret v) ∧ Q (some v) z) (fun e z => ∃ o, (e = .ref o ∧ ∃ ob, z.heap.get? o = some ob ∧ ob.cls = .type "StopIteration") ∧ Q none z) s := by
    refine wpAny_resume2 hgs hgo (fun e z he => ?_) fun e z he => ?_
    · cases e with
      | ret r => rfl
      | susp v g0 l k c p fs => exact (hY _ _ _ _ _ _ _ _ he).1
    · cases e with
      | susp v g0 l k c p fs => exact wpAny_pure ⟨v, rfl, (hY _ _ _ _ _ _ _ _ he).2⟩
      | ret x =>
        obtain ⟨hr, hq⟩ := hR x z he
        have hres : End.result (.ret x) = .returned .none := by
          rcases hr with rfl | rfl <;> rfl
        simp only [hres]
        show wpAny (model P w) A.in1 (newExc (.type "StopIteration") [] >>= _) _ _ (z.setGen g .finished)
        refine wpAny_bind ?_
        simp only [newExc, newTuple]
        refine wpAny_bind (wpAny_newObj_type (hd := by size_fits) (h := ?_))
        refine wpAny_bind (m := firstArgMember _ _) (wpAny_of_eq (a := Value.none) (by first | rfl | (simp only [firstArgMember]; rfl)) (wpAny_newObj_type (hd := by size_fits) (h := ?_)))
        simp only [raiseNew]
        refine wpAny_bind (wpAny_bind (wpAny_handled ?_))
        rw [show A.in1.handled = none from hh]
        exact wpAny_throw ⟨_, ⟨rfl, _, Heap.get?_push_size _ rfl, rfl⟩, hq _ fun b o hb => Heap.get?_push_of_some _ (Heap.get?_push_of_some _ hb)⟩
  have fin : ∀ {e : Value} {z : Shared}, (∃ o, (e = .ref o ∧ ∃ ob, z.heap.get? o = some ob ∧ ob.cls = .type "StopIteration") ∧ Q none z) → wpAny (model P w) A (isInstance e (.type "StopIteration")) (fun b z' => b = true ∧ Q none z') E z := fun {e z} ⟨o, ⟨he, ob, h1, h2⟩, hq⟩ => by
    subst he
    exact wpAny_isInstance (T := "StopIteration") (b := true) ⟨ob, h1, h2⟩ isSubtype_stop ⟨rfl, hq⟩
  cases gs with
  | running => exact hgo.elim
  | finished => exact hgo.elim
  | _ =>
    refine wpAny_bind (wpAny_roomToWake hl hroom ?_)
    show wpAny (model P w) A.in1 (.resume g (.send .none) [] _) _ _ s
    refine wpAny_mono core (fun f z ⟨v, hf, hq⟩ => ?_) fun e z he => ?_
    · subst hf
      exact ⟨v, rfl, wpAny_pure hq⟩
    · refine wpAny_bind (wpAny_mono (fin he) (fun b z' ⟨hb, hq⟩ => ?_) fun _ _ x => x)
      subst hb
      exact wpAny_pure hq
end K1

namespace K1
open PySem PySem.Spec PyProof.Rows L2
open Sem (wp)
/-! ### the consumer -/
def pinsS (L : Nat) (pl : List Addr) (h : Heap) (H : Hp) : List (Addr × Obj) := (List.range h.objs.size).filterMap fun b =>
  if L ≤ b ∧ (H b).isNone = true ∧ b ∉ pl then (match h.get? b with
    | some o => if isCellB o = true then none else some (b, o)
    | none => none) else none
theorem mem_pinsS {L : Nat} {pl : List Addr} {h : Heap} {H : Hp} {b : Addr} {o : Obj} (h1 : L ≤ b) (h2 : H b = none) (h3 : b ∉ pl) (h4 : h.get? b = some o) (h5 : isCellB o = false) : (b, o) ∈ pinsS L pl h H :=
  List.mem_filterMap.mpr ⟨b, List.mem_range.mpr (Heap.lt_size h4), by
    rw [if_pos ⟨h1, by rw [h2]; rfl, h3⟩, h4]
    show (if isCellB o = true then none else some (b, o)) = _
    rw [h5, if_neg Bool.false_ne_true]⟩
theorem of_pinsS {L : Nat} {pl : List Addr} {h : Heap} {H : Hp} {p : Addr × Obj} (hp : p ∈ pinsS L pl h H) : L ≤ p.1 ∧ H p.1 = none ∧ p.1 ∉ pl ∧ h.get? p.1 = some p.2 ∧ isCellB p.2 = false := by
  obtain ⟨b, _, e⟩ := List.mem_filterMap.mp hp
  split at e
  · rename_i hc
    obtain ⟨c1, c2, c3⟩ := hc
    cases q : h.get? b with
    | none => rw [q] at e; cases e
    | some o =>
      rw [q] at e
      have e : (if isCellB o = true then none else some (b, o)) = some p := e
      cases z : isCellB o with
      | true =>
        rw [if_pos z] at e
        cases e
      | false =>
        rw [z, if_neg Bool.false_ne_true] at e
        cases e
        exact ⟨c1, Option.isNone_iff_eq_none.mp c2, c3, q, z⟩
  · cases e
/-- it may be woken for the i-th time -/
def Ready (B : GB) (J : GJ) (pl : List Addr) (g i : Nat) (Hc : Hp) (s : Shared) : Prop :=
  s.heap.get? B.a = some B.go ∧ ∃ gs W', s.gens[g]? = some gs ∧ W'.s = s.setGen g .running ∧ W'.Hc = Hc ∧ GoesOn B.M B.A (Phi B J pl (J.n - i) W') gs (s.setGen g .running)
structure Cons (X : Cx) (B : GB) (pl : List Addr) (pins : List (Addr × Obj)) (g : Nat) : Prop where
  P : B.P = X.prog
  w : B.w = X.w
  K : B.K = X.K
  mg : B.mg = X.mg
  base : B.base = X.base
  stack : B.outer = X.stack
  A : B.A = X.A.in1
  calm : X.calm = true
  dep : X.A.depth < recursionLimit
  loc : (X.env.locals < B.L ∧ pl = []) ∨ pl = [X.env.locals]
  cells : ∀ x c, X.env.cells.lookup x = some c → c < B.L
  pins : ∀ p ∈ X.pn ++ pins, p.1 < B.L
  fs : ∀ b ∈ X.fs, b < B.L
  gen : ∀ h : Heap, h.get? B.a = some B.go → h.IsGen B.a g
  obj : B.L < B.a ∧ B.a ∉ pl ∧ isCellB B.go = false
theorem cons_next {X : Cx} {B : GB} {J : GJ} {pl : List Addr} {pins : List (Addr × Obj)} {g i : Nat} {σ : L2.St} {Hc : Hp} {s : Shared} {E : Value → Shared → Prop} (C : Cons X B pl pins g) (I : Inv X pins σ Hc s)
    (low : ∀ b, B.L ≤ b → Hc b = none → b ∈ X.ex ∨ X.s_0.heap.objs.size ≤ b) (rd : Ready B J pl g i Hc s) (hi : i ≤ J.n) :
    wpAny (model X.prog X.w) X.A (pyNext (.ref B.a)) (fun r s1 => match r with
      | none => i = J.n ∧ ∃ HE, J.Z Hc HE ∧ Inv X pins σ HE s1
      | some v => i < J.n ∧ ∃ x HcY, RelV x v ∧ J.Y i Hc x HcY ∧ s1.heap.get? B.a = some B.go ∧ Inv X (pins ++ pinsS B.L pl s1.heap HcY) σ HcY s1 ∧
        ∀ s2 σ2 H2, Inv X (pins ++ pinsS B.L pl s1.heap HcY) σ2 H2 s2 → Sleep s1.gens s2.gens → KT HcY H2 → Inv X pins σ2 H2 s2 ∧ Ready B J pl g (i + 1) H2 s2) E s := by
  obtain ⟨hgo, gs, W', hgs, hW1, hW2, run⟩ := rd
  obtain ⟨cP, cw, cK, cmg, cbase, cst, cA, calm, dep, loc, cells, cpins, cfs, gen, ⟨oa1, oa2, oa3⟩⟩ := C
  have hd : X.A.handled = none := I.ok.hd calm
  have Ls : ∀ {b : Addr}, B.L ≤ b → b ∉ pl → b ≠ X.env.locals := fun {b} hb hp z => by
    rcases loc with ⟨l1, _⟩ | l1
    · rw [z] at hb
      exact Nat.lt_irrefl _ (Nat.lt_of_lt_of_le l1 hb)
    · rw [l1, z] at hp
      exact hp (List.mem_singleton.mpr rfl)
  have chok : ∀ b ∈ chC B.L pl s.heap Hc, (b ∈ X.ex ∨ X.s_0.heap.objs.size ≤ b) ∧ b ≠ X.env.locals ∧ (∀ x c, X.env.cells.lookup x = some c → c ≠ b) ∧ ∀ p ∈ X.pn ++ pins, p.1 ≠ b := fun b hb => by
    obtain ⟨h1, h2, h3, h4⟩ := mem_chC.mp hb
    refine ⟨low b h2 h3, Ls h2 h4, fun x c e z => ?_, fun p hp z => ?_⟩
    · have q := cells x c e
      rw [z] at q
      exact Nat.lt_irrefl _ (Nat.lt_of_lt_of_le q h2)
    · have q := cpins p hp
      rw [z] at q
      exact Nat.lt_irrefl _ (Nat.lt_of_lt_of_le q h2)
  have back : ∀ {HcY : Hp} {z : Shared} {gs' : GenState}, gs'.bare = true → Facts B pl W' HcY z → Inv X pins σ HcY (z.setGen g gs') := fun {HcY z gs'} hb F => by
    refine I.call' (ch := chC B.L pl s.heap Hc) ?_ ?_ ?_ (allBare_setGen F.bare hb) chok
    · show z.os = s.os
      rw [F.os, hW1]
      rfl
    · have u := F.un
      rw [hW1, hW2, cst] at u
      exact u
    · have h := F.hok
      rw [cP, cw] at h
      exact h
  have run' : GoesOn (model X.prog X.w) X.A.in1 (Phi B J pl (J.n - i) W') gs (s.setGen g .running) := by
    have r := run
    unfold GB.M at r
    rw [cP, cw, cA] at r
    exact r
  have hgl : g + 1 ≤ s.gens.size := (Array.getElem?_eq_some_iff.mp hgs).1
  refine GenW.wpAny_gsz (n := g + 1) hgl (next2 hd I.nolimit dep (gen _ hgo) hgs run' (fun v g0 l k c p fs z he => ?_) fun r z he => ?_)
  · cases e : J.n - i with
    | zero => rw [e] at he; exact he.elim
    | succ m =>
      rw [e] at he
      obtain ⟨hq, x, HcY, rv, F, ⟨hgz, hgn⟩, hY, next⟩ := he
      have hii : J.n - (m + 1) = i := by omega
      rw [hii, hW2] at hY
      have Iz := back (gs' := (End.susp v g0 l k c p fs).genState) (End.bare_of_quiet hq) F
      have Ip : Inv X (pins ++ pinsS B.L pl z.heap HcY) σ HcY (z.setGen g (End.susp v g0 l k c p fs).genState) := Iz.pins_of fun q hqm => by
        rcases List.mem_append.mp hqm with h | h
        · exact Iz.pin q (List.mem_append_right _ h)
        · obtain ⟨q1, q2, q3, q4, q5⟩ := of_pinsS h
          exact ⟨q4, q2, Ls q1 q3, fun hf => Nat.lt_irrefl _ (Nat.lt_of_lt_of_le (cfs q.1 hf) q1), notCell q5⟩
      refine ⟨hq, fun hsz => ⟨by omega, x, HcY, rv, hY, hgz, Ip, fun s2 σ2 H2 I2 sl kt => ⟨I2.unpinned, ?_⟩⟩⟩
      have gl : g < z.gens.size := by
        rw [GenW.setGen_size] at hsz
        exact hsz
      have hgs2 : s2.gens[g]? = some (End.susp v g0 l k c p fs).genState := sl g k l c p fs _ (setGen_at gl)
      have pinned : ∀ b o, B.L ≤ b → b ∉ pl → HcY b = none → z.heap.get? b = some o → isCellB o = false → s2.heap.get? b = some o ∧ H2 b = none := fun b o h1 h2 h3 h4 h5 => by
        have q := I2.pin (b, o) (List.mem_append_right _ (List.mem_append_right _ (mem_pinsS h1 h3 h2 h4 h5)))
        exact ⟨q.1, q.2.1⟩
      have R : Rest B pl HcY z (s2.setGen g .running) H2 := by
        refine ⟨?_, ?_, pinned, fun b hb => ?_⟩
        · have e0 := I2.env0
          rw [cP, cw, cK, cmg, cbase, cst, cA]
          exact ⟨e0.frames, e0.mod, e0.bs, e0.bsz, e0.funs, e0.frf, e0.hok, allBare_setGen e0.bare rfl⟩
        · show s2.os = z.os
          rw [I2.os]
          exact Iz.os.symm
        · rcases loc with ⟨_, l1⟩ | l1
          · rw [l1] at hb
            cases hb
          · rw [l1] at hb
            rw [List.mem_singleton.mp hb]
            obtain ⟨mm, ⟨o, es, ep, ho, hdat, _⟩, _⟩ := I2.loc
            exact ⟨I2.free, o, ho, isCell_no fun v q => by rw [hdat] at q; cases q⟩
      obtain ⟨W2, w1, w2, w3⟩ := next (s2.setGen g .running) H2 R kt
      refine ⟨(pinned B.a B.go (Nat.le_of_lt oa1) oa2 hgn hgz oa3).1, _, W2, hgs2, w1, w2, ?_⟩
      have em : J.n - (i + 1) = m := by omega
      rw [em]
      exact w3
  · cases e : J.n - i with
    | succ m => rw [e] at he; exact he.elim
    | zero =>
      rw [e] at he
      obtain ⟨hr, HE, F, hZ⟩ := he
      rw [hW2] at hZ
      refine ⟨hr, fun h' hk _ => ⟨by omega, HE, hZ, ?_⟩⟩
      have Iz := back (gs' := .finished) rfl F
      exact Iz.kept (t' := z.toks) hk
end K1

namespace K1
open PySem PySem.Spec PyProof.Rows L2
open Sem (wp)
/-! ### a generator def's promise -/
abbrev SpY := List V → Hp → GJ → Prop
def GMade2 (P : Program) (w : World) (K : PySem.W.Frag) (mg : Str → Option Value) (base : Heap) (pre : Around → Prop) (k : Nat) (outer : List Env) (H : Hp) (s : Shared) (J : GJ) (u : Value) (s' : Shared) : Prop :=
  ∃ (a g : Nat) (c : Code), u = .ref a ∧ s.heap.objs.size < a ∧ a < s'.heap.objs.size ∧ s'.gens[g]? = some (.fresh c) ∧ s'.os = s.os ∧ AllBare s'.gens ∧ (∀ b o, s.heap.get? b = some o → s'.heap.get? b = some o) ∧ s'.heap.IsGen a g ∧
    ∀ (A : Around) (s2 : Shared) (Hc2 : Hp) (pl : List Addr), pre A → Room k A → Env0 P w K mg base A outer s2 Hc2 → s2.os = s.os → (∀ b o, s'.heap.get? b = some o → s2.heap.get? b = some o) → (∀ b o, H b = some o → Hc2 b = some o) →
      (∀ b, s.heap.objs.size ≤ b → b < s'.heap.objs.size → Hc2 b = none) → (∀ b ∈ pl, s'.heap.objs.size ≤ b ∧ Hc2 b = none ∧ ∃ o, s2.heap.get? b = some o ∧ isCellB o = false) →
      ∃ B : GB, B.P = P ∧ B.w = w ∧ B.K = K ∧ B.mg = mg ∧ B.base = base ∧ B.outer = outer ∧ B.A = A ∧ B.L = s.heap.objs.size ∧ B.a = a ∧ (∀ h : Heap, h.get? a = some B.go → h.IsGen a g) ∧ isCellB B.go = false ∧ s2.heap.get? a = some B.go ∧ 
        ∃ W' : Wk, W'.s = s2 ∧ W'.Hc = Hc2 ∧ GoesOn B.M B.A (Phi B J pl J.n W') (.fresh c) s2
structure GFn2 (P : Program) (w : World) (K : PySem.W.Frag) (mg : Str → Option Value) (base : Heap) (pre : Around → Prop) (k : Nat) (f : Addr) (fd : FuncData) (ps : List Str) (sp : SpY) : Prop where
  len : ∀ vs H J, sp vs H J → vs.length = ps.length
  run : ∀ (A : Around) (outer : List Env) (s : Shared) (H : Hp) (args : Args) (us : List Value) (vs : List V) (J : GJ), A.depth < recursionLimit → Env0 P w K mg base A outer s H → BindsTo s fd args (ps.zip us) → Vals vs us → sp vs H J →
    codeAny (model P w) A (.call (.ref f) args) (fun r s' => match r with
      | .ok (.ret u) => GMade2 P w K mg base pre k outer H s J u s'
      | _ => False) s
/-- what is wanted behind a generator's body -/
def endE (J : GJ) : GE where
  nx := fun i Hc σ H => i = J.n ∧ SRel Hc H ∧ ∃ pr : List Addr, (∀ b ∈ pr, (∃ xs, H b = some (.lst xs)) ∧ ∀ o, Hc b = some o → ∃ ps, o = .tbl ps) ∧ J.Z Hc (hideL H pr)
  rt := fun i Hc v H => v = .non ∧ i = J.n ∧ SRel Hc H ∧ ∃ pr : List Addr, (∀ b ∈ pr, (∃ xs, H b = some (.lst xs)) ∧ ∀ o, Hc b = some o → ∃ ps, o = .tbl ps) ∧ J.Z Hc (hideL H pr)
theorem run2_func {P : Program} {w : World} {A : Around} {Φ : EndP} {body : List Stmt} {env : Env} {fs : List Frame} {s : Shared}
    (h : ∀ J1 : Value → Sem PySem.Fin, Run2 (model P w) A Φ (.func body env) ((execs body env).wrap (fun f => leafOf (.ok (.ret (match f with
      | .ret v => v
      | _ => .none)))) J1 id id) fs s) : Run2 (model P w) A Φ (.func body env) ((model P w).den (.func body env)) fs s := by
  show Run2 _ A Φ _ (.point [] fun _ => ((execs body env).onRaise (leaving env)) >>= _) fs s
  refine run2_point ?_
  rw [Sem.onRaise_eq_wrap, Sem.bind_eq_wrap', Sem.wrap_wrap]
  refine Eq.mpr (congrArg (fun t => Run2 (model P w) A Φ (.func body env) t fs s) (Sem.wrap_congr (execs body env) id id (fun f => ?_) (fun x => rfl))) (h fun x => ((leaving env x).bind fun _ => .raise x).wrap _ .raise id id)
  cases f <;> rfl
theorem gfn2_of {P : Program} {w : World} {K : PySem.W.Frag} {mg : Str → Option Value} {base : Heap} {k : Nat} {f : Addr} {name qual : Str} {params : Arguments} {body : List Stmt} {scope : Scope} {dV kV doc pm cdv ct oc : Value} {an od : Option Addr}
    {osl : Array (Option Value)} {N ps : List Str} {sp : SpY} {pre : Around → Prop} (lk : K.lookup f = some ⟨oc, od, .func (PySem.W.fnOf name qual params body scope dV kV doc pm an cdv ct), osl⟩) (hcd : PySem.W.codeIn K cdv qual = true) (S : GScope N ps scope) (hnc : ∀ n, cellsFrom n scope.names [] = [])
    (len : ∀ vs H J, sp vs H J → vs.length = ps.length)
    (hbody : ∀ (A : Around) (outer : List Env) (L a : Addr) (go : Obj) (vs : List V) (H : Hp) (J : GJ) (pl : List Addr), pre A → Room k (A.deeper (envOfC qual scope L f cdv)) → GB.Ok ⟨P, w, K, mg, base, N, qual, scope, f, cdv, A, outer, L, a, go⟩ → sp vs H J →
      ∃ t, G2s ⟨P, w, K, mg, base, N, qual, scope, f, cdv, A, outer, L, a, go⟩ J pl body t ∧ ∀ Hw, (∀ b o, H b = some o → Hw b = some o) → t (endE J) 0 Hw (start N vs) Hw) :
    GFn2 P w K mg base pre (k + 1) f (PySem.W.fnOf name qual params body scope dV kV doc pm an cdv ct) ps sp := by
  refine ⟨len, fun A outer s H args us vs J hdep e0 hb r hsp => ?_⟩
  have hl := len _ _ _ hsp
  have KX : K.In s.heap := e0.mod.kin.keeps fun b o e => (e0.bs b o e).1
  have hkind : ∀ y ∈ ps.zip us, scope.names.lookup y.1 = some .local ∨ (scope.names.lookup y.1 = some .cell ∧ ((cellsFrom (s.heap.objs.size + 1) scope.names []).lookup y.1).isSome = true) := fun ⟨n, v⟩ hy =>
    (S.par n (List.of_mem_zip hy).1).imp id fun q => ⟨q, PySem.W.cellsFrom_some _ _ _ (.inl q)⟩
  have lim : s.heap.NoLimit := e0.mod.nolimit.keeps fun b o e => (e0.bs b o e).1
  refine codeAny_call_generator hdep (KX _ _ lk) rfl S.co S.gen rfl (PySem.W.codeRec_of KX hcd) (hb _ _ _ _ ?_)
  refine wpAny_newFunctionEnv_cells S.kind hkind fun env he s1 x => ?_
  subst he
  refine ⟨lim.keeps x.toInCall.keep, ?_⟩
  obtain ⟨h1, tk, es1, hk1⟩ := id x.done
  have os1 : s1.os = s.os := by rw [es1]
  have gen1 : s1.gens = s.gens := by rw [es1]
  have lt1 : s.heap.objs.size < s1.heap.objs.size := x.toInCall.ns.lt
  have kp1 : ∀ b o, s.heap.get? b = some o → s1.heap.get? b = some o := x.toInCall.keep
  have main : ∀ (go : Obj) (nm qn : Value) (tk2 : Nat), go.cls = .type "generator" → go.data = .fields #[.int s1.gens.size 0, nm, qn] → go.slots = #[] → (∀ h : Heap, (h.push go).get? h.objs.size = some go) →
      GMade2 P w K mg base pre (k + 1) outer H s J (.ref s1.heap.objs.size) { s1 with gens := s1.gens.push (.fresh (.func body (envOfC qual scope s.heap.objs.size f cdv))), toks := tk2, heap := s1.heap.push go } := by
    intro go nm qn tk2 hgc hgd0 hgs hgp
    have hgen : ∀ h : Heap, h.get? s1.heap.objs.size = some go → h.IsGen s1.heap.objs.size s1.gens.size := fun h e => ⟨go, nm, qn, e, hgc, hgd0, hgs⟩
    have hgcell : isCellB go = false := isCell_no fun v q => by rw [hgd0] at q; cases q
    refine ⟨s1.heap.objs.size, s1.gens.size, _, rfl, lt1, ?_, Array.getElem?_push_size .., os1, ?_, fun b o e => Heap.get?_push_of_some _ (kp1 b o e), hgen _ (hgp _), ?_⟩
    · show _ < (s1.heap.push go).objs.size
      rw [Heap.size_push]
      exact Nat.lt_succ_self _
    · exact AllBare.push (by rw [gen1]; exact e0.bare) rfl
    intro Aw s2 Hc2 pl hpre hrw env2 hos hk2 hHc hyoung hpl
    have hfr := env2.frames
    have e0w : Env0 P w K mg base Aw outer s H := ⟨hfr, e0.mod, e0.bs, e0.bsz, e0.funs, e0.frf, e0.hok, e0.bare⟩
    have I1 := inv_startG (E := fun _ _ _ => False) S hrw.hd e0w hl r x
    have I2 : Inv (gX P w K mg base N qual scope f cdv Aw outer s.heap.objs.size s H) [] (start N vs) H s1 :=
      ⟨⟨I1.ok.mod, I1.ok.kind, I1.ok.glob, I1.ok.blt, I1.ok.above, I1.ok.inj, I1.ok.has, I1.ok.cab, I1.ok.hd, I1.ok.frames, I1.ok.stk, I1.ok.exf, I1.ok.bs, I1.ok.bsz, I1.ok.noex, I1.ok.exfs, I1.ok.funs, I1.ok.frf⟩, I1.os, I1.bare, I1.base, I1.loc, I1.cell, I1.free, I1.freeC, I1.pin, I1.hok, I1.len⟩
    have kp2 : ∀ b o, s1.heap.get? b = some o → s2.heap.get? b = some o := fun b o e => hk2 b o (Heap.get?_push_of_some _ e)
    have hfs : ∀ b ∈ frs outer, b < s.heap.objs.size := fun b hb => by
      obtain ⟨_, o, ho, _⟩ := e0.funs.mem hb
      exact Heap.lt_size ho
    have hL2 : Hc2 s.heap.objs.size = none := hyoung _ (Nat.le_refl _) (by
      show _ < (s1.heap.push go).objs.size
      rw [Heap.size_push]
      exact Nat.lt_succ_of_lt lt1)
    have ha2 : Hc2 s1.heap.objs.size = none := hyoung _ (Nat.le_of_lt lt1) (by
      show _ < (s1.heap.push go).objs.size
      rw [Heap.size_push]
      exact Nat.lt_succ_self _)
    have hga : s2.heap.get? s1.heap.objs.size = some go := hk2 _ _ (hgp _)
    have ok : GB.Ok ⟨P, w, K, mg, base, N, qual, scope, f, cdv, Aw, outer, s.heap.objs.size, s1.heap.objs.size, go⟩ := ⟨hnc _, hfs, e0.bsz, hrw.hd, lt1, hgcell⟩
    obtain ⟨t, ht, hq⟩ := hbody Aw outer s.heap.objs.size s1.heap.objs.size go vs H J pl hpre (hrw.deeper _) ok hsp
    refine ⟨⟨P, w, K, mg, base, N, qual, scope, f, cdv, Aw, outer, s.heap.objs.size, s1.heap.objs.size, go⟩, rfl, rfl, rfl, rfl, rfl, rfl, rfl, rfl, rfl, hgen, hgcell, hga, ⟨s2, Hc2, Hc2, [], []⟩, rfl, rfl, ?_⟩
    have mer : mergeL H [] Hc2 = Hc2 := by
      funext b
      exact mergeL_out (List.not_mem_nil)
    have I3 := wake_inv (ip := []) (pr := []) (PR := [s.heap.objs.size]) (Hc := Hc2) (s2 := s2) (hnc _) hfs e0.bsz hrw.hd I2 (fun b hb => nomatch hb) (fun b hb => nomatch hb) (fun b hb => by
      rcases hb with rfl | hb
      · exact List.mem_singleton.mpr rfl
      · cases hb) ⟨env2, hos.trans os1.symm, fun b hb o e => kp2 b o e, fun b hb => by rw [List.mem_singleton.mp hb]; exact hL2⟩
    rw [mer] at I3
    have wo : WkOk ⟨P, w, K, mg, base, N, qual, scope, f, cdv, Aw, outer, s.heap.objs.size, s1.heap.objs.size, go⟩ pl ⟨s2, Hc2, Hc2, [], []⟩ := by
      obtain ⟨oL, _, _, eL, _⟩ := id x.toInCall.ns
      refine ⟨Heap.lt_size (kp2 s.heap.objs.size oL eL), fun b _ => rfl, fun b hb => ?_, fun b hb => ?_, hga, ha2, List.not_mem_nil, List.not_mem_nil, fun z => ?_⟩
      · rcases hb with hb | hb <;> cases hb
      · obtain ⟨p1, p2, p3⟩ := hpl b hb
        have p1 : (s1.heap.push go).objs.size ≤ b := p1
        rw [Heap.size_push] at p1
        exact ⟨Nat.lt_of_lt_of_le lt1 (Nat.le_of_succ_le p1), p2, p3, List.not_mem_nil, List.not_mem_nil⟩
      · obtain ⟨p1, _⟩ := hpl _ z
        have p1 : (s1.heap.push go).objs.size ≤ s1.heap.objs.size := p1
        rw [Heap.size_push] at p1
        exact Nat.lt_irrefl _ p1
    refine run2_func fun J1 => ?_
    refine ht.run [] _ _ _ J1 id id J.n 0 _ s2 (start N vs) Hc2 (endE J) ⟨GenW.over_func, rfl, rfl, rfl⟩ rfl wo (fun m i W s3 fl hm wo3 hs => ?_) ⟨I3, fun b hb => nomatch hb⟩ (hq Hc2 hHc)
    have fin : ∀ {σ : L2.St} {H3 : Hp}, GI ⟨P, w, K, mg, base, N, qual, scope, f, cdv, Aw, outer, s.heap.objs.size, s1.heap.objs.size, go⟩ W [] σ H3 s3 → i = J.n → SRel W.Hc H3 → (∃ pr : List Addr, (∀ b ∈ pr, (∃ xs, H3 b = some (.lst xs)) ∧ ∀ o, W.Hc b = some o → ∃ ps, o = .tbl ps) ∧ J.Z W.Hc (hideL H3 pr)) →
        Run2 (model P w) Aw (Phi ⟨P, w, K, mg, base, N, qual, scope, f, cdv, Aw, outer, s.heap.objs.size, s1.heap.objs.size, go⟩ J pl m W) (.func body (envOfC qual scope s.heap.objs.size f cdv)) (leafOf (.ok (.ret .none))) [] s3 := fun {σ H3} gi hi sr ⟨pr, hpr, hZ⟩ => by
      obtain rfl : m = 0 := by omega
      refine run2_end (.ok (.ret .none)) ⟨.inl rfl, _, slept ok wo3 gi.1 (fun b hb => (hpr b hb).1) (fun b hb => own_new wo3 gi.1 (hpr b hb).1 (hpr b hb).2) sr, hZ⟩
    cases fl with
    | next =>
      obtain ⟨σ', H', gi, q1, q2, q3⟩ := hs
      exact fin gi q1 q2 q3
    | brk => obtain ⟨_, _, _, q⟩ := hs; exact False.elim q
    | cont => obtain ⟨_, _, _, q⟩ := hs; exact False.elim q
    | ret u =>
      obtain ⟨v, σ', H', gi, rv, ev, q1, q2, q3⟩ := hs
      subst ev
      have eu : u = Value.none := rv
      subst eu
      exact fin gi q1 q2 q3
  exact main _ _ _ _ rfl rfl rfl fun h => Heap.get?_push_size _ rfl
end K1

namespace K1
open PySem PySem.Spec PyProof.Rows L2
open Sem (wp)
/-! ### for over a generator -/
abbrev TGI := L2.St → Hp → (GJ → Hp → Prop) → Prop
/-- an expression whose value is a generator that has not begun -/
structure PY (X : Cx) (pre : Around → Prop) (k : Nat) (e : Expr) (ty : TGI) : Prop where
  run : ∀ (pins : List (Addr × Obj)) (s : Shared) (σ : L2.St) (H : Hp) (R : GJ → Hp → Prop), Inv X pins σ H s → ty σ H R → wpAny (model X.prog X.w) X.A (eval e X.env)
    (fun u s' => ∃ H1 sc J, Inv X pins σ H1 sc ∧ GMade2 X.prog X.w X.K X.mg X.base pre k X.stack H1 sc J u s' ∧ R J H1) X.xe s
def yCall (sp : SpY) (dvs : List V) (t : TA) : TGI := fun σ H R => t σ H fun vs H1 => ∃ J, sp (vs ++ dvs) H1 J ∧ R J H1
section
variable {X : Cx} {pre : Around → Prop} {k : Nat} {f : Addr} {fd : FuncData} {ps : List Str} {sp : SpY} {dvs : List V} {ds : List Value} {x : Str} {p pos : Pos}
theorem run_gfn2 {pins : List (Addr × Obj)} {σ : L2.St} {H : Hp} {s : Shared} {us : List Value} {vs : List V} {J : GJ} {R : GJ → Hp → Prop} {E1 : Value → Shared → Prop} (F : GFn2 X.prog X.w X.K X.mg X.base pre k f fd ps sp) (hr : X.A.depth < recursionLimit)
    (b : BindsTo s fd ⟨us, []⟩ (ps.zip us)) (I : Inv X pins σ H s) (r : Vals vs us) (h : sp vs H J) (hR : R J H) :
    wpAny (model X.prog X.w) X.A (call (.ref f) us) (fun u s' => ∃ H1 sc J, Inv X pins σ H1 sc ∧ GMade2 X.prog X.w X.K X.mg X.base pre k X.stack H1 sc J u s' ∧ R J H1) E1 s := by
  refine wpAny_call (codeAny_mono (F.run X.A X.stack s H ⟨us, []⟩ us vs J hr I.env0 b r h) fun z s' hz => ?_)
  match z, hz with
  | .error _, hz => exact hz.elim
  | .ok (.ret u), hz => exact ⟨H, s, J, I, hz, hR⟩
  | .ok .next, hz => exact hz.elim
  | .ok .brk, hz => exact hz.elim
  | .ok .cont, hz => exact hz.elim
/-- f(e, ..) of a generator def -/
theorem py_call {e : Expr} {es : List Expr} {t : TA} (F : GFn2 X.prog X.w X.K X.mg X.base pre k f fd ps sp) (hr : X.A.depth < recursionLimit) (hg : Gl X x) (hm : X.mg x = some (.ref f)) (hk : PySem.W.keepIn X.K (.ref f) = true) (hb : Binds X.K fd ps ds) (hd : Vals dvs ds)
    (ha : PA X (e :: es) t) (hdb : (x == ("__debug__" : Str)) = false := by decide) (he : starEach (e :: es) X.env = (false, eval e X.env) :: starEach es X.env := by rfl) (hpl : (backTo pos (starEach es X.env)).any (·.1) = false := by rfl) :
    PY X pre k (.Call (.Name x p) (e :: es) [] pos) (yCall sp dvs t) := by
  refine ⟨fun pins s σ H R I h => wpAny_Call_Name_kw (ld_glob I hg hm (PySem.W.callWith_K (h₀ := X.base) I.ok.mod.kin hk (thn (ha.run pos pins s σ H _ I h) fun us s1 hq => ?_) he hpl) hdb)⟩
  obtain ⟨vs, H1, I1, r, J, h1, hR⟩ := hq
  refine ⟨I1.kIn, ?_⟩
  have hl : (us ++ ds).length = ps.length := by rw [← (r.append hd).length]; exact F.len _ _ _ h1
  have b := hb s1 us I1.kIn hl
  refine wpAny_call (codeAny_mono (F.run X.A X.stack s1 H1 ⟨us, []⟩ (us ++ ds) (vs ++ dvs) J hr I1.env0 b (r.append hd) h1) fun z s' hz => ?_)
  match z, hz with
  | .error _, hz => exact hz.elim
  | .ok (.ret u), hz => exact ⟨H1, s1, J, I1, hz, hR⟩
  | .ok .next, hz => exact hz.elim
  | .ok .brk, hz => exact hz.elim
  | .ok .cont, hz => exact hz.elim
end
section
variable {X : Cx} {tg : Expr}
theorem go_gen {A : Around} {M : Model} {E : Value → Shared → Prop} {s : Shared} {a : Addr} {g : Nat} {u : Value} {Q : Unit → Shared → Prop} (h : s.heap.IsGen a g) (hQ : Q () s) : wpAny M A (letOwnedTupleGo tg (.ref a) u) Q E s := by
  obtain ⟨o, nm, qn, ho, hc, hd, _⟩ := h
  exact go_of ho hc hd (by decide) hQ
/-- in a def's own code -/
theorem cons_def {pre : Around → Prop} {k : Nat} {pins : List (Addr × Obj)} {σ : L2.St} {H1 : Hp} {sc s' : Shared} {J : GJ} {u : Value} (hc : X.calm = true) (hp : pre X.A.in1) (hr : Room (k + 1) X.A) (I : Inv X pins σ H1 sc) (h : GMade2 X.prog X.w X.K X.mg X.base pre k X.stack H1 sc J u s') :
    ∃ a g B, u = .ref a ∧ B.a = a ∧ s'.heap.IsGen a g ∧ Cons X B [] pins g ∧ Inv X pins σ H1 s' ∧ Ready B J [] g 0 H1 s' ∧ ∀ (Hc : Hp) b, B.L ≤ b → Hc b = none → b ∈ X.ex ∨ X.s_0.heap.objs.size ≤ b := by
  obtain ⟨a, g, c, rfl, ha1, ha2, hgs, hos, hbare, hkp, hgen, start⟩ := h
  have I' : Inv X pins σ H1 s' := I.call' (ch := []) hos (Un.kept hkp) (I.hok.kept hkp) hbare fun b z => nomatch z
  have e0 := I'.env0
  obtain ⟨B, b1, b2, b3, b4, b5, b6, b7, b8, b9, b10, b11, b12, W', w1, w2, w3⟩ := start X.A.in1 (s'.setGen g .running) H1 [] hp hr.in1 ⟨e0.frames, e0.mod, e0.bs, e0.bsz, e0.funs, e0.frf, e0.hok, allBare_setGen e0.bare rfl⟩ hos (fun b o e => e) (fun b o e => e) (fun b hb _ => I.hok.fresh hb) fun b z => nomatch z
  refine ⟨a, g, B, rfl, b9, hgen, ⟨b1, b2, b3, b4, b5, b6, b7, hc, hr.depth, .inl ⟨by rw [b8]; exact I.lt, rfl⟩, fun x c e => ?_, fun p hp => ?_, fun b hb => ?_, ?_, ?_, List.not_mem_nil, b11⟩, I', ⟨?_, _, W', hgs, w1, w2, w3⟩, fun Hc b hb _ => .inr (Nat.le_trans I.sz (by rw [b8] at hb; exact hb))⟩
  · rw [b8]
    obtain ⟨v, q⟩ := I.cell x c e
    exact q.lt
  · rw [b8]
    exact Heap.lt_size (I.pin p hp).1
  · rw [b8]
    obtain ⟨_, o, ho, _⟩ := I.funs.mem hb
    exact Heap.lt_size ho
  · rw [b9]
    exact b10
  · rw [b8, b9]
    exact ha1
  · rw [b9]
    exact b12
/-- the i-th turn and what it is to reach -/
def tForY (ty : TGI) (g : TG) (tb : TS) : TS := fun D σ H => ty σ H fun J H1 => ∃ W : Nat → L2.St → Hp → Prop, W 0 σ H1 ∧ ∀ i σ H, i ≤ J.n → W i σ H → (i = J.n → ∀ HE, J.Z H HE → D.nx σ HE) ∧
  (i < J.n → ∀ x HY, J.Y i H x HY → g x σ HY fun σ2 H2 => tb { D with nx := fun σ' H' => KT HY H' ∧ W (i + 1) σ' H', ct := fun σ' H' => KT HY H' ∧ W (i + 1) σ' H', bk := D.nx } σ2 H2)
theorem sleepP {α : Type} {M : Model} {A : Around} {t : Sem α} {Q : α → Shared → Prop} {E : Value → Shared → Prop} {s : Shared} (hb : AllBare s.gens) (hE : ∀ e s, E e s → False) (hQ : ∀ a s, Q a s → AllBare s.gens) (h : ∀ G, AllBare G → wpAny M A t Q E (K1.regen s G)) :
    wpAny M A t (fun a s' => Sleep s.gens s'.gens ∧ AllBare s'.gens ∧ ∃ G, Q a (K1.regen s' G)) E s :=
  wpAny_mono (wpAny_sleep (E := fun _ _ => False) hb fun G hG => wpAny_mono (h G hG) (fun a z hz => ⟨hQ a z hz, hz⟩) fun e z hz => (hE e z hz).elim) (fun a z ⟨h1, h2, G, _, h3⟩ => ⟨h1, h2, G, h3⟩) fun e z ⟨_, _, _, _, hz⟩ => hz.elim
theorem ps_forY {pre : Around → Prop} {k : Nat} {iter : Expr} {body : List Stmt} {ty : TGI} {g : TG} {tb : TS} {pos : Pos} (hx : ∀ e s, X.xe e s → False) (hc : X.calm = true) (hpre : pre X.A.in1) (hr : Room (k + 1) X.A) (hi : PY X pre k iter ty) (hg : PG X tg g) (hb : PSs X body tb)
    (hp : PassesOwn (model X.prog X.w) X.A X.env X.xe) (hs : ∀ x, foldedSetIterable iter X.env x = pure x := by intro _; rfl) : PS X (.For tg iter body [] pos) (tForY ty g tb) := by
  refine ⟨fun pins s σ H D I h => wpAny_For (thn (hi.run pins s σ H _ I h) fun v s1 ⟨H1, sc, J, Isc, made, W, w0, turn⟩ => ?_) hs⟩
  obtain ⟨a, gi, B, rfl, rfl, hgen, C, I1, rd, low⟩ := cons_def hc hpre hr Isc made
  refine wpAny_pyIter_gen hgen ?_
  refine codeAny_forLoop_any (fun n s' => ∃ i σ' H', i ≤ J.n ∧ n = J.n - i ∧ Inv X pins σ' H' s' ∧ Ready B J [] gi i H' s' ∧ W i σ' H') ?_ J.n ⟨0, σ, H1, Nat.zero_le _, rfl, I1, rd, w0⟩
  rintro n s3 ⟨i, σ3, H3, hin, rfl, I3, rd3, w3⟩
  obtain ⟨fin, step⟩ := turn i σ3 H3 hin w3
  refine wpAny_passesOwn hp (thn (cons_next (E := X.xe) C I3 (low H3) rd3 hin) fun r s4 h4 => ?_)
  cases r with
  | none =>
    obtain ⟨hi', HE, hZ, I4⟩ := h4
    exact wpAny_passesOwn hp (wpAny_execs_nil ⟨σ3, HE, I4, fin hi' HE hZ⟩)
  | some v =>
    obtain ⟨hlt, x, HY, rv, hY, hgen4, I4, next⟩ := h4
    refine wpAny_passesOwn hp (go_gen (C.gen _ hgen4) ?_)
    have one : wpAny (model X.prog X.w) X.A (assign tg X.env v) (fun _ z => Sleep s4.gens z.gens ∧ AllBare z.gens ∧ ∃ G, ∃ σ6 H6, Inv X (pins ++ pinsS B.L [] s4.heap HY) σ6 H6 (K1.regen z G) ∧ tb { D with nx := fun σ' H' => KT HY H' ∧ W (i + 1) σ' H', ct := fun σ' H' => KT HY H' ∧ W (i + 1) σ' H', bk := D.nx } σ6 H6) X.xe s4 :=
      sleepP (Q := fun _ z => ∃ σ6 H6, Inv X (pins ++ pinsS B.L [] s4.heap HY) σ6 H6 z ∧ tb { D with nx := fun σ' H' => KT HY H' ∧ W (i + 1) σ' H', ct := fun σ' H' => KT HY H' ∧ W (i + 1) σ' H', bk := D.nx } σ6 H6) I4.bare hx (fun _ z ⟨_, _, I6, _⟩ => I6.bare) fun G hG => thn (hg.run _ (K1.regen s4 G) σ3 HY x v _ (Inv.regen I4 hG) rv (step hlt x HY hY)) fun _ s6 ⟨σ6, H6, I6, q6⟩ => ⟨σ6, H6, I6, q6⟩
    refine wpAny_passesOwn hp (thn one fun _ s6 ⟨sl6, b6, G6, σ6, H6, I6, q6⟩ => ?_)
    have I6 := Inv.ungen I6 b6
    have two := sleepP I6.bare hx (fun f z hz => SP_bare hz) fun G hG => hb.run _ (K1.regen s6 G) σ6 H6 _ (Inv.regen I6 hG) q6
    refine wpAny_passesOwn hp (thn two fun f s7 ⟨sl7, b7, G7, q7⟩ => ?_)
    have q7 := SP_ungen q7 b7
    have again : ∀ {σ7 : L2.St} {H7 : Hp}, Inv X (pins ++ pinsS B.L [] s4.heap HY) σ7 H7 s7 → KT HY H7 → W (i + 1) σ7 H7 → ∃ m, m < J.n - i ∧ ∃ i' σ' H', i' ≤ J.n ∧ m = J.n - i' ∧ Inv X pins σ' H' s7 ∧ Ready B J [] gi i' H' s7 ∧ W i' σ' H' := fun {σ7 H7} I7 kt w7 => by
      obtain ⟨I8, rd8⟩ := next s7 σ7 H7 I7 (sl6.trans sl7) kt
      exact ⟨J.n - (i + 1), by omega, i + 1, σ7, H7, hlt, rfl, I8, rd8, w7⟩
    cases f with
    | next => obtain ⟨σ7, H7, I7, kt, w7⟩ := q7; exact again I7 kt w7
    | cont => obtain ⟨σ7, H7, I7, kt, w7⟩ := q7; exact again I7 kt w7
    | brk => obtain ⟨σ7, H7, I7, q7⟩ := q7; exact ⟨σ7, H7, I7.unpinned, q7⟩
    | ret v => obtain ⟨x7, σ7, H7, I7, r7, q7⟩ := q7; exact ⟨x7, σ7, H7, I7.unpinned, r7, q7⟩
end
end K1

namespace K1
open PySem PySem.Spec PyProof.Rows L2
open Sem (wp)
/-! ### a list comprehension over a generator -/
section
variable {X : Cx}
def tLcY (ty : TGI) (g : TG) (tt : TT) (te : TE) (vs : List Nat) : TE := fun σ H Q => ty σ H fun J H1 => ∀ D, H1 D = none → ∃ W : Nat → Hp → Prop, W 0 (upd H1 D (.lst [])) ∧ ∀ i H, i ≤ J.n → W i H → (∃ acc, H D = some (.lst acc)) ∧ (i = J.n → ∀ HE, J.Z H HE → Q (.ref D) HE) ∧
  (i < J.n → ∀ x HY, J.Y i H x HY → g x (wipe σ vs) HY fun σ2 H2 => wipe σ2 vs = wipe σ vs ∧ tt σ2 H2 fun b H3 => if b = true then te σ2 H3 fun y H4 => ∃ acc, H4 D = some (.lst acc) ∧ acc.length < sizeLine ∧ KT HY (upd H4 D (.lst (acc ++ [y]))) ∧ W (i + 1) (upd H4 D (.lst (acc ++ [y])))
    else KT HY H3 ∧ W (i + 1) H3)
theorem pushCells_id : ∀ {names : List (Str × NameKind)} {h : Heap}, (∀ y ∈ names, y.2 ≠ .cell) → pushCells h names = h
  | [], _, _ => rfl
  | (n, k) :: r, h, hn => by
    unfold pushCells
    rw [if_neg (by
      have q := hn (n, k) (List.mem_cons_self ..)
      intro z
      exact q (by simpa using z))]
    exact pushCells_id fun y hy => hn y (List.mem_cons_of_mem _ hy)
theorem lcY_core {pre : Around → Prop} {k : Nat} {pins : List (Addr × Obj)} {s : Shared} {σ : L2.St} {H : Hp} {Q : VK} {elt tg iter : Expr} {ifs : List Expr} {scope : Scope} {own : List (Str × Nat)} {pos pos' : Pos} {ty : TGI} {g : TG} {tt : TT} {te : TE} {use : Option (Value → Sem Unit)} {Qf : Value → Shared → Prop}
    (hpre : pre X.A.in1) (hr : Room (k + 1) X.A) (hc : X.calm = true) (hN : X.N.Nodup) (I : Inv X pins σ H s) (hi : PY X pre k iter ty) (ok : BlkOk X.N X.env.scope scope own) (hnoc : ∀ y ∈ scope.names, y.2 ≠ .cell)
    (hg : ∀ (s : Shared) (H : Hp) (C : Addr) (cl : List (Str × Addr)) (fp : List Addr), PG (X.blk s H scope (compEnvC scope cl C X.env) fp) tg g) (ht : ∀ (s : Shared) (H : Hp) (C : Addr) (cl : List (Str × Addr)) (fp : List Addr), PTs (X.blk s H scope (compEnvC scope cl C X.env) fp) ifs tt)
    (he : ∀ (s : Shared) (H : Hp) (C : Addr) (cl : List (Str × Addr)) (fp : List Addr), PE (X.blk s H scope (compEnvC scope cl C X.env) fp) elt te) (hs : ∀ x, foldedSetIterable iter X.env x = pure x)
    (h : tLcY ty g tt te (own.map (·.2)) σ H Q)
    (hRR : ∀ D C s' m H', Inv X pins σ H' s' → Q (.ref D) H' → s'.heap.Ns C m → FpOk X pins H' C → compPost (model X.prog X.w) X.A X.xe use Qf (.ref D) C (.ok .next) s') :
    wpAny (model X.prog X.w) X.A (comprehension (.ListComp elt [⟨tg, iter, ifs, 0⟩] scope pos) scope X.env pos' (newList []) false (eval iter X.env) use) Qf X.xe s := by
  have hfree : ∀ y ∈ scope.names, y.2 = .free → ∃ c, X.env.cells.lookup y.1 = some c := fun y hy e => (ok.free y hy e).elim (fun z => I.ok.has _ (.inl z)) fun z => I.ok.has _ (.inr z)
  refine wpAny_comprehension_free (use := use) rfl hs (closure_ok hfree) ok.kind (fun y hy e => by rw [ok.uniq y hy, e]) (thn (hi.run pins s σ H _ I h) fun xv s1 ⟨H1, sc, J, Isc, made, q⟩ => ?_)
  obtain ⟨a, gi, c0, rfl, ha1, ha2, hgs, hos, hbare, hkp, hgen, begin_⟩ := made
  refine wpAny_pyIter_gen hgen ?_
  have I1 : Inv X pins σ H1 s1 := Isc.call' (ch := []) hos (Un.kept hkp) (Isc.hok.kept hkp) hbare fun b z => nomatch z
  have scle : sc.heap.objs.size ≤ s1.heap.objs.size := Nat.le_of_lt (Nat.lt_trans ha1 ha2)
  refine wpAny_newObj_type (newEnv_comp ?_) (by show 0 ≤ sizeLine; decide)
  generalize hD : s1.heap.objs.size = D
  have hDn : H1 D = none := I1.hok.fresh (Nat.le_of_eq hD)
  obtain ⟨W, w0, turn⟩ := q D hDn
  generalize hs3 : ({ s1 with heap := s1.heap.push { cls := .type "list", data := .seq ([] : List Value).toArray } } : Shared) = s3
  have h3 : s3.heap = s1.heap.push { cls := .type "list", data := .seq ([] : List Value).toArray } := by rw [← hs3]
  have I3 : Inv X pins σ (upd H1 D (.lst [])) s3 := by
    rw [← hs3]
    refine I1.laid (t' := s1.toks) (fun b o e => Heap.get?_push_of_some _ e) (Nat.le_of_eq hD) ⟨Nat.zero_le _, [], 0, .nil, ?_⟩
    rw [← hD]
    exact Heap.get?_push_size _ rfl
  have sz3 : s3.heap.objs.size = D + 1 := by rw [h3, Heap.size_push, hD]
  generalize hfp : ((List.range D).filter fun b => decide (sc.heap.objs.size ≤ b)) = fp
  have mfp : ∀ b, b ∈ fp ↔ b < D ∧ sc.heap.objs.size ≤ b := fun b => by
    rw [← hfp, List.mem_filter, List.mem_range, decide_eq_true_eq]
  have f3 : ∀ b ∈ fp, FpOk X pins (upd H1 D (.lst [])) b ∧ b < s3.heap.objs.size := fun b hb => by
    obtain ⟨m1, m2⟩ := (mfp b).mp hb
    have hn : upd H1 D (.lst []) b = none := by
      rw [upd_ne (Nat.ne_of_lt m1)]
      exact Isc.hok.fresh m2
    exact ⟨Isc.fpOk m2 hn, by omega⟩
  have I4 := block_start I3 ok hN f3
  have pg := hg s3 (upd H1 D (.lst [])) s3.heap.objs.size (cellsFrom (s3.heap.objs.size + 1) scope.names (cloFrom X.env.cells scope.names [])) fp
  have pt := ht s3 (upd H1 D (.lst [])) s3.heap.objs.size (cellsFrom (s3.heap.objs.size + 1) scope.names (cloFrom X.env.cells scope.names [])) fp
  have pe := he s3 (upd H1 D (.lst [])) s3.heap.objs.size (cellsFrom (s3.heap.objs.size + 1) scope.names (cloFrom X.env.cells scope.names [])) fp
  have ccl : ∀ x c, (compEnvC scope (cellsFrom (s3.heap.objs.size + 1) scope.names (cloFrom X.env.cells scope.names [])) s3.heap.objs.size X.env).cells.lookup x = some c → c < sc.heap.objs.size := fun x c e => by
    have hm : (x, c) ∈ cellsFrom (s3.heap.push { cls := .type "dict", data := .dict #[] }).objs.size scope.names (cloFrom X.env.cells scope.names []) := by
      rw [Heap.size_push]
      exact PySem.mem_of_lookup e
    rcases cells_mem hm with z | ⟨z, _, _⟩
    · rcases cloFrom_mem z with z | ⟨z1, z2⟩
      · cases z
      · obtain ⟨c', hc'⟩ := hfree _ z1 rfl
        rw [hc'] at z2
        obtain ⟨v, q⟩ := Isc.cell _ _ hc'
        rw [z2]
        exact q.lt
    · exact absurd rfl (hnoc _ z)
  show codeAny _ _ (.compStart (.ListComp elt [⟨tg, iter, ifs, 0⟩] scope pos) 0 (.ref a) (.ref D) (compEnvC scope (cellsFrom (s3.heap.objs.size + 1) scope.names (cloFrom X.env.cells scope.names [])) s3.heap.objs.size X.env)) (compPost (model X.prog X.w) X.A X.xe use Qf (.ref D) s3.heap.objs.size) { s3 with heap := pushCells (s3.heap.push { cls := .type "dict", data := .dict #[] }) scope.names }
  generalize hce : compEnvC scope (cellsFrom (s3.heap.objs.size + 1) scope.names (cloFrom X.env.cells scope.names [])) s3.heap.objs.size X.env = ce at I4 pg pt pe ccl ⊢
  have cL : ce.locals = s3.heap.objs.size := by subst hce; rfl
  generalize hH3 : upd H1 D (.lst []) = H3 at I3 I4 pg pt pe w0 f3
  have sub3 : ∀ b o, H1 b = some o → H3 b = some o := fun b o e => by
    rw [← hH3, upd_ne (ne_of_none e hDn)]
    exact e
  generalize hs4 : ({ s3 with heap := pushCells (s3.heap.push { cls := .type "dict", data := .dict #[] }) scope.names } : Shared) = s4 at I4 ⊢
  have kp4 : ∀ b o, s1.heap.get? b = some o → s4.heap.get? b = some o := fun b o e => by
    rw [← hs4]
    refine pushCells_keeps _ _ _ _ (Heap.get?_push_of_some _ ?_)
    rw [h3]
    exact Heap.get?_push_of_some _ e
  have gen4 : s4.gens = s1.gens := by rw [← hs4, ← hs3]
  have os4 : s4.os = s1.os := by rw [← hs4, ← hs3]
  have e0 := I4.env0
  obtain ⟨B, b1, b2, b3, b4, b5, b6, b7, b8, b9, b10, b11, b12, W', w1, w2, w3⟩ := begin_ X.A.in1 (s4.setGen gi .running) H3 [ce.locals] hpre hr.in1 ⟨e0.frames, e0.mod, e0.bs, e0.bsz, e0.funs, e0.frf, e0.hok, allBare_setGen e0.bare rfl⟩ (os4.trans hos) kp4 sub3
    (fun b hb hb2 => by
      rw [← hH3, upd_ne (by rw [← hD]; exact Nat.ne_of_lt hb2)]
      exact Isc.hok.fresh hb) fun b hb => by
      rw [List.mem_singleton.mp hb]
      refine ⟨by rw [cL, sz3, ← hD]; exact Nat.le_succ _, I4.free, ?_⟩
      obtain ⟨mm, ⟨o, es, ep, ho, hdat, _⟩, _⟩ := I4.loc
      exact ⟨o, ho, isCell_no fun v z => by rw [hdat] at z; cases z⟩
  have C : Cons (X.blk s3 H3 scope ce fp) B [ce.locals] [] gi := by
    refine ⟨b1, b2, b3, b4, b5, b6, b7, hc, hr.depth, .inr rfl, fun x c e => by rw [b8]; exact ccl x c e, fun p hp => (nomatch (show p ∈ ([] : List (Addr × Obj)) from hp)), fun b hb => ?_, by rw [b9]; exact b10, by rw [b8, b9]; exact ha1, ?_, b11⟩
    · rw [b8]
      obtain ⟨_, o, ho, _⟩ := Isc.stack.mem (show b ∈ frs X.stack from hb)
      exact Heap.lt_size ho
    · rw [b9]
      intro z
      have z := List.mem_singleton.mp z
      have hl : a < s3.heap.objs.size := by
        rw [sz3, ← hD]
        exact Nat.lt_succ_of_lt ha2
      rw [cL] at z
      exact absurd z (Nat.ne_of_lt hl)
  have rd4 : Ready B J [ce.locals] gi 0 H3 s4 := ⟨by rw [b9]; exact b12, _, W', by rw [gen4]; exact hgs, w1, w2, w3⟩
  have low : ∀ (Hc : Hp) (acc : List V), Hc D = some (.lst acc) → ∀ b, B.L ≤ b → Hc b = none → b ∈ (X.blk s3 H3 scope ce fp).ex ∨ (X.blk s3 H3 scope ce fp).s_0.heap.objs.size ≤ b := fun Hc acc hacc b hb hn => by
    rw [b8] at hb
    by_cases hlt : b < D
    · exact .inl ((mfp b).mpr ⟨hlt, hb⟩)
    · have hne : b ≠ D := fun z => by rw [z, hacc] at hn; cases hn
      exact .inr (by show s3.heap.objs.size ≤ b; omega)
  have loop : codeAny (model X.prog X.w) X.A (.compLoop (.ListComp elt [⟨tg, iter, ifs, 0⟩] scope pos) 0 (.ref a) (.ref D) ce) (compPost (model X.prog X.w) X.A X.xe use Qf (.ref D) s3.heap.objs.size) s4 := by
    refine compLoop_any (fun n s' => ∃ i H', i ≤ J.n ∧ n = J.n - i ∧ Inv (X.blk s3 H3 scope ce fp) [] (wipe σ (own.map (·.2))) H' s' ∧ Ready B J [ce.locals] gi i H' s' ∧ W i H') ?_ J.n ⟨0, H3, Nat.zero_le _, rfl, I4, rd4, w0⟩
    rintro n s5 ⟨i, H5, hin, rfl, I5, rd5, w5⟩
    obtain ⟨⟨acc5, hacc5⟩, fin, step⟩ := turn i H5 hin w5
    have cn := cons_next (E := fun _ _ => False) C I5 (low H5 acc5 hacc5) rd5 hin
    rw [b9] at cn
    refine thnF cn fun r s6 h6 => ?_
    cases r with
    | none =>
      obtain ⟨hi', HE, hZ, I6⟩ := h6
      have I7 : Inv X pins σ HE s6 := I3.call' (ch := fp) I6.os I6.base I6.hok I6.bare fun b hb => ⟨(f3 b hb).1.2.2.2.1, (f3 b hb).1.2.1, (f3 b hb).1.2.2.2.2.1, (f3 b hb).1.2.2.2.2.2⟩
      have nC : HE s3.heap.objs.size = none := by
        rw [← cL]
        exact I6.free
      obtain ⟨m, hn, _⟩ := I6.loc
      have hn : s6.heap.Ns ce.locals m := hn
      rw [cL] at hn
      exact hRR D s3.heap.objs.size s6 m HE I7 (fin hi' HE hZ) hn (I3.fpOk (Nat.le_refl _) nC)
    | some v =>
      obtain ⟨hlt, x, HY, rv, hY, hgen6, I6, next⟩ := h6
      have hgen6 : s6.heap.IsGen a gi := by
        have z := C.gen s6.heap (by rw [b9]; exact hgen6)
        rw [b9] at z
        exact z
      refine go_gen hgen6 ?_
      have nox : ∀ (e : Value) (z : Shared), (fun (_ : Value) (_ : Shared) => False) e z → False := fun _ _ z => z
      have fin2 : ∀ {σ8 : L2.St} {s' : Shared} {H' : Hp}, wipe σ8 (own.map (·.2)) = wipe σ (own.map (·.2)) → Sleep s6.gens s'.gens → Inv (X.blk s3 H3 scope ce fp) ([] ++ pinsS B.L [ce.locals] s6.heap HY) σ8 H' s' → KT HY H' → W (i + 1) H' →
          ∃ m, m < J.n - i ∧ ∃ i' H', i' ≤ J.n ∧ m = J.n - i' ∧ Inv (X.blk s3 H3 scope ce fp) [] (wipe σ (own.map (·.2))) H' s' ∧ Ready B J [ce.locals] gi i' H' s' ∧ W i' H' := fun {σ8 s' H'} hw sl I' kt w' => by
        obtain ⟨I8, rd8⟩ := next s' σ8 H' I' sl kt
        have hl : (wipe σ (own.map (·.2))).length = σ8.length := by rw [← hw, wipe_length]
        refine ⟨J.n - (i + 1), by omega, i + 1, H', hlt, rfl, I8.weak hl fun j u e => ?_, rd8, w'⟩
        rw [← hw] at e
        exact (wipe_some e).1
      have t1 := sleepP (Q := fun _ z => ∃ σ' H', Inv (X.blk s3 H3 scope ce fp) ([] ++ pinsS B.L [ce.locals] s6.heap HY) σ' H' z ∧ _) I6.bare nox (fun _ z ⟨_, _, Iz, _⟩ => Iz.bare) fun G hG => pg.run _ (K1.regen s6 G) _ HY x v _ (Inv.regen I6 hG) rv (step hlt x HY hY)
      refine thnF t1 fun _ s8 ⟨sl8, bb8, G8, σ8, H8, I8, hw8, q8⟩ => ?_
      have I8 := Inv.ungen I8 bb8
      have t2 := sleepP (Q := TP (X.blk s3 H3 scope ce fp) ([] ++ pinsS B.L [ce.locals] s6.heap HY) σ8 _) I8.bare nox (fun _ z ⟨_, Iz, _⟩ => Iz.bare) fun G hG => pt.run _ (K1.regen s8 G) σ8 H8 _ (Inv.regen I8 hG) q8
      refine thnF t2 fun b s9 ⟨sl9, bb9, G9, H9, I9, q9⟩ => ?_
      have I9 := Inv.ungen I9 bb9
      cases b with
      | false =>
        simp only [Bool.false_eq_true, if_false] at q9 ⊢
        exact fin2 hw8 (sl8.trans sl9) I9 q9.1 q9.2
      | true =>
        simp only [if_true] at q9 ⊢
        have t3 := sleepP (Q := EP (X.blk s3 H3 scope ce fp) ([] ++ pinsS B.L [ce.locals] s6.heap HY) σ8 _) I9.bare nox (fun _ z ⟨_, _, Iz, _⟩ => Iz.bare) fun G hG => pe.run _ (K1.regen s9 G) σ8 H9 _ (Inv.regen I9 hG) q9
        refine thnF t3 fun z s10 ⟨sl10, bb10, G10, yv, H10, I10, r10, acc, hD10, hz10, kt, w10⟩ => ?_
        have I10 := Inv.ungen I10 bb10
        have t4 := sleepP (Q := fun _ z => Inv (X.blk s3 H3 scope ce fp) ([] ++ pinsS B.L [ce.locals] s6.heap HY) σ8 (upd H10 D (.lst (acc ++ [yv]))) z) I10.bare nox (fun _ z Iz => Iz.bare) fun G hG => app_ok (E := fun _ _ => False) (X := X.blk s3 H3 scope ce fp) (Inv.regen I10 hG) hD10 hz10 r10 fun s11 I11 => I11
        refine thnF t4 fun _ s11 ⟨sl11, bb11, G11, I11⟩ => ?_
        exact fin2 hw8 (((sl8.trans sl9).trans sl10).trans sl11) (Inv.ungen I11 bb11) kt w10
  exact codeAny_compStart_list loop (wpAny_pyIter_gen (hgen.keeps kp4) loop)
/-- as a value -/
theorem pe_lcY {pre : Around → Prop} {k : Nat} {elt tg iter : Expr} {ifs : List Expr} {scope : Scope} {own : List (Str × Nat)} {pos : Pos} {ty : TGI} {g : TG} {tt : TT} {te : TE} (hpre : pre X.A.in1) (hr : Room (k + 1) X.A) (hc : X.calm = true) (hN : X.N.Nodup) (hi : PY X pre k iter ty) (ok : BlkOk X.N X.env.scope scope own) (hnoc : ∀ y ∈ scope.names, y.2 ≠ .cell)
    (hg : ∀ (s : Shared) (H : Hp) (C : Addr) (cl : List (Str × Addr)) (fp : List Addr), PG (X.blk s H scope (compEnvC scope cl C X.env) fp) tg g) (ht : ∀ (s : Shared) (H : Hp) (C : Addr) (cl : List (Str × Addr)) (fp : List Addr), PTs (X.blk s H scope (compEnvC scope cl C X.env) fp) ifs tt)
    (he : ∀ (s : Shared) (H : Hp) (C : Addr) (cl : List (Str × Addr)) (fp : List Addr), PE (X.blk s H scope (compEnvC scope cl C X.env) fp) elt te) (hs : ∀ x, foldedSetIterable iter X.env x = pure x := by intro _; rfl) :
    PE X (.ListComp elt [⟨tg, iter, ifs, 0⟩] scope pos) (tLcY ty g tt te (own.map (·.2))) := by
  refine ⟨fun pins s σ H Q I h => ?_⟩
  rw [eval_ListComp]
  refine lcY_core hpre hr hc hN I hi ok hnoc hg ht he hs h fun D C z m H' Iz hq hn ⟨f0, f1, f2, f3, f4, f5⟩ => ⟨m, hn, fun h'' sb => ?_⟩
  exact ⟨.ref D, H', Iz.turned (t' := z.toks) (fun b o hb e => (sb.2 b hb).trans e) f0 f1 f3 f4 f5, rfl, hq⟩
/-- name = [..] on one line, the name a local -/
theorem ps_setLcY {pre : Around → Prop} {k i : Nat} {y : Str} {py : Pos} {elt tg iter : Expr} {ifs : List Expr} {scope : Scope} {own : List (Str × Nat)} {pos spos : Pos} {ty : TGI} {g : TG} {tt : TT} {te : TE} (hpre : pre X.A.in1) (hr : Room (k + 1) X.A) (hc : X.calm = true) (hN : X.N.Nodup) (hy : X.N[i]? = some y) (hyl : X.env.scope.names.lookup y = some .local)
    (hsw : swapsWith (.ListComp elt [⟨tg, iter, ifs, 0⟩] scope pos) (some (.Name y py)) spos.line X.env = pure true) (hi : PY X pre k iter ty) (ok : BlkOk X.N X.env.scope scope own) (hnoc : ∀ y ∈ scope.names, y.2 ≠ .cell)
    (hg : ∀ (s : Shared) (H : Hp) (C : Addr) (cl : List (Str × Addr)) (fp : List Addr), PG (X.blk s H scope (compEnvC scope cl C X.env) fp) tg g) (ht : ∀ (s : Shared) (H : Hp) (C : Addr) (cl : List (Str × Addr)) (fp : List Addr), PTs (X.blk s H scope (compEnvC scope cl C X.env) fp) ifs tt)
    (he : ∀ (s : Shared) (H : Hp) (C : Addr) (cl : List (Str × Addr)) (fp : List Addr), PE (X.blk s H scope (compEnvC scope cl C X.env) fp) elt te) (hs : ∀ x, foldedSetIterable iter X.env x = pure x := by intro _; rfl) :
    PS X (.Assign [.Name y py] (.ListComp elt [⟨tg, iter, ifs, 0⟩] scope pos) spos) (tAsg (tLcY ty g tt te (own.map (·.2))) (gName i)) := by
  refine ⟨fun pins s σ H D I h => ?_⟩
  rw [exec_Assign_Name_used _ _ _ _ hsw]
  refine wpAny_bind (wpAny_standAt (wpAny_bind ?_))
  show wpAny _ X.A (do let _ ← comprehension (.ListComp elt [⟨tg, iter, ifs, 0⟩] scope pos) scope X.env (firstIterPos [⟨tg, iter, ifs, 0⟩] pos) (newList []) false (eval iter X.env) (some (assign (.Name y py) X.env))) _ _ s
  have h : tLcY ty g tt te (own.map (·.2)) σ H (fun x H1 => gName i x σ H1 D.nx) := h
  refine wpAny_bind (thn (lcY_core (Qf := fun _ z => SP X pins D .next z) hpre hr hc hN I hi ok hnoc hg ht he hs h fun L C z m H' Iz hq hn fpk => ?_) fun _ z hz => wpAny_pure (wpAny_pure hz))
  show wpAny _ _ (assign (.Name y py) X.env (.ref L)) _ _ _
  refine wpAny_assign_Name (store_ok2 (v := V.ref L) Iz hN hy (.inl hyl) rfl (fun s2 I2 ⟨a, sb, ha⟩ => ?_) (.inr hyl))
  obtain ⟨f0, f1, f2, f3, f4, f5⟩ := fpk
  have haC : C ≠ a := ha.elim (fun z => by rw [z]; exact f1) fun z e => f4 y a z e.symm
  exact ⟨m, hn.sameBut sb haC, fun h3 sb3 => ⟨_, H', I2.turned (t' := s2.toks) (fun b o hb e => (sb3.2 b hb).trans e) f0 f1 f3 f4 f5, hq⟩⟩
end
end K1

namespace K1
open PySem PySem.Spec PyProof.Rows L2
open Sem (wp)
/-! ### list(g) -/
abbrev atA (X : Cx) (A : Around) : Cx := { X with A := A }
theorem Inv.atA {X : Cx} {pins : List (Addr × Obj)} {σ : L2.St} {H : Hp} {s : Shared} {A : Around} (I : Inv X pins σ H s) (h1 : A.handled = X.A.handled) (h2 : A.frames = X.A.frames) : Inv (K1.atA X A) pins σ H s :=
  ⟨⟨I.ok.mod, I.ok.kind, I.ok.glob, I.ok.blt, I.ok.above, I.ok.inj, I.ok.has, I.ok.cab, fun z => h1.trans (I.ok.hd z), h2.trans I.ok.frames, I.ok.stk, I.ok.exf, I.ok.bs, I.ok.bsz, I.ok.noex, I.ok.exfs, I.ok.funs, I.ok.frf⟩, I.os, I.bare, I.base, I.loc, I.cell, I.free, I.freeC, I.pin, I.hok, I.len⟩
theorem Inv.ofA {X : Cx} {pins : List (Addr × Obj)} {σ : L2.St} {H : Hp} {s : Shared} {A : Around} (I : Inv (K1.atA X A) pins σ H s) (h1 : A.handled = X.A.handled) (h2 : A.frames = X.A.frames) : Inv X pins σ H s :=
  ⟨⟨I.ok.mod, I.ok.kind, I.ok.glob, I.ok.blt, I.ok.above, I.ok.inj, I.ok.has, I.ok.cab, fun z => h1.symm.trans (I.ok.hd z), h2.symm.trans I.ok.frames, I.ok.stk, I.ok.exf, I.ok.bs, I.ok.bsz, I.ok.noex, I.ok.exfs, I.ok.funs, I.ok.frf⟩, I.os, I.bare, I.base, I.loc, I.cell, I.free, I.freeC, I.pin, I.hok, I.len⟩
def tListY (ty : TGI) : TE := fun σ H Q => ty σ H fun J H1 => ∀ D, H1 D = none → ∃ W : Nat → List V → Hp → Prop, W 0 [] (upd H1 D (.lst [])) ∧ ∀ i acc H, i ≤ J.n → W i acc H → H D = some (.lst acc) ∧ (i = J.n → ∀ HE, J.Z H HE → Q (.ref D) HE) ∧
  (i < J.n → ∀ x HY, J.Y i H x HY → HY D = some (.lst acc) ∧ acc.length < sizeLine ∧ W (i + 1) (acc ++ [x]) (upd HY D (.lst (acc ++ [x]))))
section
variable {X : Cx}
theorem pe_listY {pre : Around → Prop} {k : Nat} {e : Expr} {ty : TGI} {nm : Str} {p pos : Pos} (hc : X.calm = true) (hpre : pre X.A.in1.in1.in1) (hr : Room (k + 3) X.A) (h : PY X pre k e ty) (hg : Gl X nm) (hmg : X.mg nm = none) (hv : bootBuiltins nm = some (.type "list")) (hnm : nm ≠ "__name__" := by decide) (hdb : (nm == ("__debug__" : Str)) = false := by decide)
    (he : starEach [e] X.env = (false, eval e X.env) :: starEach [] X.env := by rfl) : PE X (.Call (.Name nm p) [e] [] pos) (tListY ty) := by
  refine ⟨fun pins s0 σ H Q I0 hq => wpAny_Call_Name_kw (ld_blt I0 hg hmg hv (PyProof.Rows.callWith_type1 ?_ he rfl) hnm hdb)⟩
  rw [he]
  show wpAny _ _ (spliced ((false, eval e X.env) :: backTo pos (starEach [] X.env))) _ _ s0
  refine Calls.spliced_cons (thn (h.run pins s0 σ H _ I0 hq) fun u s ⟨H1, sc, J, Isc, made, q⟩ => Calls.spliced_nil ?_)
  obtain ⟨a, gi, c0, rfl, ha1, ha2, hgs, hos, hbare, hkp, hgen, begin_⟩ := made
  have I1 : Inv X pins σ H1 s := Isc.call' (ch := []) hos (Un.kept hkp) (Isc.hok.kept hkp) hbare fun b z => nomatch z
  obtain ⟨W, w0, turn⟩ := q s.heap.objs.size (I1.hok.fresh (Nat.le_refl _))
  have away : s.heap.objs.size ≠ a := Nat.ne_of_gt ha2
  refine callType_codes (Q₁ := fun obj z => obj = .ref s.heap.objs.size ∧ z = { s with heap := s.heap.push { cls := .type "list", data := .seq #[] } }) F.called_list (F.typeCall_list_1 _) F.entry_list_init (code_list_new _ ⟨rfl, rfl⟩) fun obj z hz => ?_
  obtain ⟨rfl, rfl⟩ := hz
  have born : (s.heap.push { cls := .type "list", data := .seq #[] }).get? s.heap.objs.size = some { cls := .type "list", data := .seq #[] } := Heap.get?_push_size s.heap rfl
  have stays : ∀ (h : Heap) (f : Obj → Obj), (∀ b o, s.heap.get? b = some o → h.get? b = some o) → ∀ b o, s.heap.get? b = some o → (h.update s.heap.objs.size f).get? b = some o := fun h f q b o e => by
    rw [Heap.get?_update_other _ _ (Nat.ne_of_gt (Heap.lt_size e))]
    exact q b o e
  have old1 : ∀ b o, s.heap.get? b = some o → (s.heap.push { cls := .type "list", data := .seq #[] }).get? b = some o := fun b o => Heap.get?_push_of_some _
  have old2 := stays _ (Obj.mapSeq (fun _ => (#[] : Array Value))) old1
  have is2 : ({ s with heap := (s.heap.push { cls := .type "list", data := .seq #[] }).update s.heap.objs.size (Obj.mapSeq (fun _ => (#[] : Array Value))) } : Shared).heap.IsGen a gi := hgen.keeps old2
  refine ⟨⟨_, born, rfl⟩, F.args_list_init_2 _ _, ?_⟩
  show wpAny _ X.A.in1.in1 (Builtin.List.listItems (.ref s.heap.objs.size) >>= fun old => updateSeq s.heap.objs.size (fun _ => #[]) >>= fun _ => letGo old.toList.reverse >>= fun _ => Builtin.List.listExtendWith (.ref s.heap.objs.size) (.ref a) .none) _ _ _
  unfold Builtin.List.listItems
  refine wpAny_bind (wpAny_bind (wpAny_seqItems born rfl (wpAny_pure ?_)))
  refine wpAny_bind (wpAny_updateSeq born rfl (wpAny_bind (wpAny_letGo ?_)))
  have born2 := Heap.get?_update_self (Obj.mapSeq (fun _ => (#[] : Array Value))) born (by rfl)
  have n1 : Builtin.List.listSameRef (.ref s.heap.objs.size) (.ref a) = false := by simp [Builtin.List.listSameRef, away]
  have n2 : (Value.type "generator" == Value.type "list") = false ∧ (Value.type "generator" == Value.type "tuple") = false := by decide
  unfold Builtin.List.listExtendWith
  refine wpAny_bind (wpAny_typeOf is2.typeIs ?_)
  simp only [n1, n2.1, n2.2, Bool.or_false, Bool.false_eq_true, if_false]
  refine wpAny_bind (wpAny_pyIter_gen is2 (wpAny_bind (wpAny_holding ?_)))
  unfold Builtin.List.listLengthHint
  refine wpAny_bind (wpAny_specialOf is2.typeIs F.gen_no_len (wpAny_bind (m := specialOf (Value.ref a) (Str.ofString "__length_hint__")) (wpAny_specialOf is2.typeIs F.gen_no_hint (wpAny_pure ?_))))
  have born3 := Heap.get?_update_self (Obj.mapSeq (·.push Value.none)) born2 (by rfl)
  have born4 := Heap.get?_update_self (Obj.mapSeq (·.pop)) born3 (by rfl)
  have old4 := stays _ (Obj.mapSeq (·.pop)) (stays _ (Obj.mapSeq (·.push Value.none)) old2)
  show wpAny _ X.A.in1.in1 (rule "list.extend.makes-room" >>= fun _ => (updateSeq s.heap.objs.size (·.push .none) >>= fun _ => updateSeq s.heap.objs.size (·.pop)) >>= fun _ => again (.builtin "list.extend.loop" ⟨[.ref s.heap.objs.size, .ref a, .none], []⟩)) _ _ _
  refine wpAny_bind (wpAny_rule (wpAny_bind (wpAny_bind (wpAny_updateSeq born2 rfl (wpAny_updateSeq (hz := by seq_fits) born3 rfl (wpAny_pure ⟨plainId_quiet F.plain_extend_loop _, ?_⟩))))))
  suffices main : ∀ s4 : Shared, s4.gens = s.gens → s4.os = s.os → (∀ b o, s.heap.get? b = some o → s4.heap.get? b = some o) → (∃ n, s4.heap.get? s.heap.objs.size = some (lstObj #[] n)) →
      codeAny (model X.prog X.w) X.A.in1 (.builtin "list.extend.loop" ⟨[.ref s.heap.objs.size, .ref a, .none], []⟩) (wants (fun r z => r = Value.none ∧ EP X pins σ Q (Value.ref s.heap.objs.size) z) X.xe) s4 from main _ rfl rfl old4 ⟨_, born4⟩
  intro s4 hg4 ho4 kp4 ⟨n4, hS4'⟩
  clear born4 old4 born3 born2 is2 old2 old1 stays born
  have hn1 : H1 s.heap.objs.size = none := I1.hok.fresh (Nat.le_refl _)
  have I4 : Inv (K1.atA X X.A.in1.in1) pins σ (upd H1 s.heap.objs.size (.lst [])) s4 := by
    refine Inv.atA ?_ rfl rfl
    refine I1.call' (ch := []) ho4 (Un.laid kp4 (Nat.le_refl _) hn1) (I1.hok.laid kp4 (Nat.le_refl _) ⟨Nat.zero_le _, [], n4, .nil, hS4'⟩) (by rw [hg4]; exact I1.bare) fun b z => nomatch z
  have e0 := I4.env0
  obtain ⟨B, b1, b2, b3, b4, b5, b6, b7, b8, b9, b10, b11, b12, W', w1, w2, w3⟩ := begin_ X.A.in1.in1.in1 (s4.setGen gi .running) (upd H1 s.heap.objs.size (.lst [])) [] hpre hr.in1.in1.in1 ⟨e0.frames, e0.mod, e0.bs, e0.bsz, e0.funs, e0.frf, e0.hok, allBare_setGen e0.bare rfl⟩ (ho4.trans hos) kp4
    (fun b o e => by
      rw [upd_ne (ne_of_none e hn1)]
      exact e)
    (fun b hb hb2 => by
      rw [upd_ne (Nat.ne_of_lt hb2)]
      exact Isc.hok.fresh hb) fun b hb => nomatch hb
  have C : Cons (K1.atA X X.A.in1.in1) B [] pins gi := by
    refine ⟨b1, b2, b3, b4, b5, b6, b7, hc, hr.in1.in1.depth, .inl ⟨by rw [b8]; exact Isc.lt, rfl⟩, fun x c e => ?_, fun p hp => ?_, fun b hb => ?_, by rw [b9]; exact b10, by rw [b8, b9]; exact ha1, List.not_mem_nil, b11⟩
    · rw [b8]
      obtain ⟨v, q⟩ := Isc.cell x c e
      exact q.lt
    · rw [b8]
      exact Heap.lt_size (Isc.pin p hp).1
    · rw [b8]
      obtain ⟨_, o, ho, _⟩ := Isc.funs.mem hb
      exact Heap.lt_size ho
  have rd4 : Ready B J [] gi 0 (upd H1 s.heap.objs.size (.lst [])) s4 := ⟨by rw [b9]; exact b12, _, W', by rw [hg4]; exact hgs, w1, w2, w3⟩
  have low : ∀ (Hc : Hp) b, B.L ≤ b → Hc b = none → b ∈ (K1.atA X X.A.in1.in1).ex ∨ (K1.atA X X.A.in1.in1).s_0.heap.objs.size ≤ b := fun Hc b hb _ => .inr (Nat.le_trans Isc.sz (by rw [b8] at hb; exact hb))
  generalize hSS : s.heap.objs.size = S at *
  have loop : ∀ (m i : Nat) (acc : List V) (Hc : Hp) (z : Shared), m = J.n - i → i ≤ J.n → Inv (K1.atA X X.A.in1.in1) pins σ Hc z → Ready B J [] gi i Hc z → W i acc Hc →
      codeAny (model X.prog X.w) X.A.in1 (.builtin "list.extend.loop" ⟨[.ref S, .ref a, .none], []⟩) (wants (fun r z => r = Value.none ∧ EP X pins σ Q (Value.ref S) z) X.xe) z := by
    intro m
    induction m with
    | zero =>
      intro i acc Hc z hm hi Iz rd wi
      refine codeAny_builtin F.entry_extend_loop ((Around.under_plainId F.plain_extend_loop _).symm ▸ ?_)
      show wpAny (model X.prog X.w) X.A.in1.in1 (pyNext (.ref a) >>= _) _ _ z
      obtain ⟨_, fin, _⟩ := turn i acc Hc hi wi
      have cn := cons_next (E := fun _ _ => False) C Iz (low Hc) rd hi
      rw [b9] at cn
      refine wpAny_bind (thnF cn fun r z1 h1 => ?_)
      cases r with
      | none =>
        obtain ⟨hi', HE, hZ, I2⟩ := h1
        exact wpAny_pure ⟨rfl, .ref S, HE, Inv.ofA I2 rfl rfl, rfl, fin hi' HE hZ⟩
      | some v =>
        obtain ⟨hlt, _⟩ := h1
        omega
    | succ m ih =>
      intro i acc Hc z hm hi Iz rd wi
      refine codeAny_builtin F.entry_extend_loop ((Around.under_plainId F.plain_extend_loop _).symm ▸ ?_)
      show wpAny (model X.prog X.w) X.A.in1.in1 (pyNext (.ref a) >>= _) _ _ z
      obtain ⟨_, fin, step⟩ := turn i acc Hc hi wi
      have cn := cons_next (E := fun _ _ => False) C Iz (low Hc) rd hi
      rw [b9] at cn
      refine wpAny_bind (thnF cn fun r z1 h1 => ?_)
      cases r with
      | none =>
        obtain ⟨hi', HE, hZ, I2⟩ := h1
        exact wpAny_pure ⟨rfl, .ref S, HE, Inv.ofA I2 rfl rfl, rfl, fin hi' HE hZ⟩
      | some v =>
        obtain ⟨hlt, x, HY, rv, hY, _, I2, next⟩ := h1
        obtain ⟨hD, hlen, w2⟩ := step hlt x HY hY
        obtain ⟨hz', its, n, ri, eo⟩ := I2.hok S _ hD
        have hl := ri.length
        have hsz : its.toArray.size < sizeLine := by rw [List.size_toArray]; omega
        show wpAny (model X.prog X.w) X.A.in1.in1 (updateSeq S (·.push v) >>= _) _ _ z1
        refine wpAny_bind (wpAny_updateSeq eo rfl (wpAny_pure ⟨plainId_quiet F.plain_extend_loop _, ?_⟩) (Nat.le_of_lt hsz) (by show (its.toArray.push v).size ≤ sizeLine + 1; rw [Array.size_push]; omega))
        have I3 : Inv (K1.atA X X.A.in1.in1) (pins ++ pinsS B.L [] z1.heap HY) σ (upd HY S (.lst (acc ++ [x]))) { z1 with heap := z1.heap.update S (Obj.mapSeq (·.push v)) } := by
          refine I2.write (t' := z1.toks) (x := S) (e := S) (by rw [hD]; trivial) (.inl rfl) (fun b u hb q => (Heap.get?_update_other _ _ (Ne.symm hb)).trans q) ⟨_, Heap.get?_update_self _ eo rfl⟩ ⟨by rw [List.length_append]; exact hlen, its ++ [v], n + 1, ri.append (.cons rv .nil), ?_⟩
          rw [Heap.get?_update_self _ eo rfl]
          simp [Obj.mapSeq]
        obtain ⟨I5, rd5⟩ := next _ σ _ I3 (Sleep.refl _) fun b o f e => by
          rw [upd_ne fun q => by
            rw [q, hD] at e
            cases e
            rcases f with ⟨_, z⟩ | ⟨_, _, z⟩ <;> cases z]
          exact e
        exact ih (i + 1) _ _ _ (by omega) hlt I5 rd5 w2
  exact loop (J.n - 0) 0 [] _ s4 rfl (Nat.zero_le _) I4 rd4 w0
end
end K1

namespace K1
open PySem PySem.Spec PyProof.Rows L2 Own
/-! ### what goes on while a generator sleeps; a written list -/
theorem KT.of {H H' : Hp} (h : Same H H') : KT H H' := fun b o _ e => h b o e
theorem sqT_kt {K : PySem.W.Frag} {H H' : Hp} (s : KT H H') {a : Addr} {xs : List V} (h : SqT K H a xs) : SqT K H' a xs := by
  rcases h with (e | ⟨o, e⟩) | h
  · exact .inl (.inl (s a _ (.inl ⟨_, rfl⟩) e))
  · exact .inl (.inr ⟨o, s a _ (.inr ⟨_, _, rfl⟩) e⟩)
  · exact .inr h
def flatD : PyData → Bool
  | .list _ => false
  | .tuple ds => flatL ds
  | _ => true
where flatL : List PyData → Bool
  | [] => true
  | d :: r => flatD d && flatL r
section
variable {K : PySem.W.Frag} {H H' : Hp}
mutual
theorem dp_ktF (s : KT H H') : ∀ {v : V} {d : PyData}, Dp K H v d → flatD d = true → Dp K H' v d
  | _, _, .non, _ => .non
  | _, _, .bl b, _ => .bl b
  | _, _, .int i, _ => .int i
  | _, _, .str z, _ => .str z
  | _, _, .lst _ _, n => absurd n (fun z => nomatch z)
  | _, _, .tup h a, n => .tup (sqT_kt s h) (dpAll_ktF s a n)
theorem dpAll_ktF (s : KT H H') : ∀ {vs : List V} {ds : List PyData}, DpAll K H vs ds → flatD.flatL ds = true → DpAll K H' vs ds
  | _, _, .nil, _ => .nil
  | _, _, .cons a r, n => .cons (dp_ktF s a (Bool.and_eq_true_iff.mp n).1) (dpAll_ktF s r (Bool.and_eq_true_iff.mp n).2)
end
end
/-- a written list: where it stands -/
def tLstA (L : Nat) (t : TA) : TE := fun σ H Q => t σ H fun xs H1 => xs.length ≤ sizeLine ∧ ∀ p, L < p → H1 p = none → Q (.ref p) (upd H1 p (.lst xs))
theorem pe_lstA {X : Cx} {es : List Expr} {pos : Pos} {t : TA} (h : PA X es t) : PE X (.List es pos) (tLstA X.env.locals t) :=
  ⟨fun pins s σ H Q I h0 => wpAny_List_spliced (thn (h.run pos pins s σ H _ I h0) fun us z ⟨xs, Hz, Iz, rv, few, goal⟩ => ⟨by rw [← rv.length]; exact few, .ref z.heap.objs.size, upd Hz z.heap.objs.size (.lst xs),
    Iz.laid (t' := z.toks) (fun b o => Heap.get?_push_of_some _) (Nat.le_refl _) ⟨few, us, 0, rv, Heap.get?_push_size _ rfl⟩, rfl, goal z.heap.objs.size Iz.lt (Iz.hok.fresh (Nat.le_refl _))⟩)⟩
end K1

namespace K1
open PySem PySem.Spec PyProof.Rows L2
open Sem (wp)
/-! ### for, in a generator's own body, over what does not sleep -/
theorem run2_bw {M : Model} {A : Around} {Φ : EndP} {c : Code} {fs : List Frame} {s : Shared} {α β : Type} {m : Sem α} {f : α → Sem β} {K1 : β → Sem PySem.Fin} {J1 : Value → Sem PySem.Fin} {gd : Bool → Bool} {lv : List Value → List Value}
    (h : wpAny M (A.over c fs) m (fun a z => Run2 M A Φ c ((f a).wrap K1 J1 gd lv) fs z) (fun _ _ => False) s) : Run2 M A Φ c ((m >>= f).wrap K1 J1 gd lv) fs s := by
  rw [Sem.bind_eq_wrap', Sem.wrap_wrap]
  exact run2_wrap h
theorem run2_forLoop {P : Program} {w : World} {A : Around} {Φ : EndP} {tg : Expr} {it : Value} {body : List Stmt} {env : Env} {fs : List Frame} {s : Shared}
    (h : wpAny (model P w) (A.over (.forLoop tg it body [] env) fs) (pyNext it) (fun r z => match r with
      | none => Run2 (model P w) A Φ (.block [] env) (leafOf (.ok .next)) fs z
      | some v => wpAny (model P w) (A.over (.forLoop tg it body [] env) fs) (letOwnedTupleGo tg it v) (fun _ z1 => wpAny (model P w) (A.over (.forLoop tg it body [] env) fs) (assign tg env v) (fun _ z2 =>
          ∀ J1 : Value → Sem PySem.Fin, Run2 (model P w) A Φ (.forLoop tg it body [] env) ((execs body env).wrap (fun f => match f with
            | .next | .cont => .pure (.again (.forLoop tg it body [] env))
            | .brk => leafOf (.ok .next)
            | .ret v => leafOf (.ok (.ret v))) J1 id id) fs z2) (fun _ _ => False) z1) (fun _ _ => False) z) (fun _ _ => False) s) :
    Run2 (model P w) A Φ (.forLoop tg it body [] env) ((model P w).den (.forLoop tg it body [] env)) fs s := by
  show Run2 _ A Φ _ (Sem.onRaise (forTurn tg it body [] env) fun x => do noteFrame x env; theTreesLotGoes x) fs s
  rw [Sem.onRaise_eq_wrap]
  unfold forTurn
  refine run2_bw (wpAny_standAt (run2_bw (wpAny_onRaise (wpAny_mono h (fun r z hr => ?_) fun _ _ x => x.elim))))
  cases r with
  | none => exact run2_again rfl hr
  | some v =>
    refine run2_bw (wpAny_mono hr (fun _ z1 h1 => run2_bw (wpAny_mono h1 (fun _ z2 h2 => ?_) fun _ _ x => x)) fun _ _ x => x)
    rw [Sem.bind_eq_wrap', Sem.wrap_wrap]
    refine Eq.mpr (congrArg (fun t => Run2 (model P w) A Φ (.forLoop tg it body [] env) t fs z2) (Sem.wrap_congr (execs body env) id id (fun f => ?_) (fun x => rfl))) (h2 fun x => (do noteFrame x env; theTreesLotGoes x : Sem Unit).bind fun _ => .raise x)
    cases f <;> rfl
theorem GI.less {B : GB} {W : Wk} {ip more : List (Addr × Obj)} {σ : L2.St} {H : Hp} {s : Shared} (g : GI B W (ip ++ more) σ H s) : GI B W ip σ H s := ⟨g.1, fun p hp => g.2 p (List.mem_append_left _ hp)⟩
def tFor2 (wi : TI) (g : TG) (tb : TG2) : TG2 := fun D i Hc σ H => wi σ H fun J H1 => ∃ Wv : Nat → Nat → Nat → Hp → L2.St → Hp → Prop, (∃ r, Wv 0 r i Hc σ H1) ∧ ∀ j r i Hc σ H, Wv j r i Hc σ H →
  (J.stop j H ∧ D.nx i Hc σ H) ∨ (J.go j H ∧ ∃ N : Nat → Hp → L2.St → Hp → Prop, (∀ i' Hc' σ' H', N i' Hc' σ' H' → ∃ r', r' < r ∧ Wv (j + 1) r' i' Hc' σ' H') ∧ ∀ x H', J.yld j H x H' → g x σ H' fun σ2 H2 => tb { D with nx := N, ct := N, bk := D.nx } i Hc σ2 H2)
theorem g2_for {B : GB} {J : GJ} {pl : List Addr} (ok : B.Ok) {tg iter : Expr} {body : List Stmt} {pos : Pos} {wi : TI} {g : TG} {tb : TG2} (hi : ∀ s0 H0, PI (B.X s0 H0) tg iter wi) (hg : ∀ s0 H0, PG (B.X s0 H0) tg g) (hb : G2s B J pl body tb)
    (hs : ∀ x, foldedSetIterable iter B.env x = pure x := by intro _; rfl) : G2 B J pl (.For tg iter body [] pos) (tFor2 wi g tb) := by
  refine ⟨fun ip c fs K1 J1 gd lv m i W s σ H D g0 hm wo k gi ht => ?_⟩
  rw [exec_For]
  refine run2_bw (wpAny_standAt (run2_bw ?_))
  rw [g0.over]
  refine wpAny_mono ((hi _ _).run _ s σ H _ (gi.pinned ok) ht) (fun v s1 h1 => run2_bw ?_) fun _ _ x => x
  rw [hs v]
  refine wpAny_pure (run2_bw (wpAny_standAt (run2_bw ?_)))
  rw [g0.over]
  refine wpAny_holding (wpAny_mono h1 (fun itv s2 h2 => ?_) fun _ _ x => x)
  obtain ⟨it, fp, tn, It, H2, rfl, I2, T, st2, f2, Wv, ⟨r0, w0⟩, turn⟩ := h2
  have gi2 := gi.unpin I2
  refine run2_call fun p => ?_
  generalize hkk : (fun r : Result => ((match r with | .ok f => (.pure f : Sem Flow) | .error e => .raise e).onRaise fun (x : Value) => (do
        if (← field x 1) == Value.none then unsupported "frame.own-activation:exception-without-traceback"
        setFlight x B.env.frame : Sem Unit)).wrap K1 J1 gd lv) = kk
  have okk : ∀ f, kk (.ok f) = K1 f := fun f => by rw [← hkk]; rfl
  have gl := gc2_loop (k := kk) (d := .forLoop tg (.ref it) body [] B.env) (l := lv []) (kp := []) (p := p) g0 rfl rfl
  have gl2 := gc2_loop (k := kk) (d := .block [] B.env) (l := lv []) (kp := []) (p := p) g0 rfl rfl
  have hL : ∀ b ∈ fp, B.L < b ∧ ∀ q ∈ ip, q.1 ≠ b := fun b hb' => by
    obtain ⟨q0, q1, q2, q3, q4, q5⟩ := f2 b hb'
    refine ⟨?_, fun q hq => q5 q (List.mem_append_right _ (List.mem_append_right _ hq))⟩
    rcases q3 with q3 | q3
    · cases q3
    · have e : (truncS B.L W.s).heap.objs.size = B.L := by
        show (W.s.heap.objs.extract 0 B.L).size = B.L
        have := wo.lt
        rw [Array.size_extract]
        omega
      have q3 : B.L ≤ b := by rw [← e]; exact q3
      exact Nat.lt_of_le_of_ne q3 (Ne.symm q1)
  have stat : ∀ {W : Wk} {H' : Hp}, B.L < W.s.heap.objs.size → (∀ b ∈ fp, H' b = none ∧ ∀ q ∈ B.pW W, q.1 ≠ b) → ∀ b ∈ fp, FpOk (B.XW W) (B.pW W ++ ip) H' b := fun {W H'} hlt hn b hb' => by
    obtain ⟨l1, l2⟩ := hL b hb'
    refine ⟨(hn b hb').1, Nat.ne_of_gt l1, fun z => Nat.lt_asymm l1 (ok.fs b z), .inr ?_, fun x c e => ?_, fun q hq => ?_⟩
    · show (W.s.heap.objs.extract 0 B.L).size ≤ b
      rw [Array.size_extract]
      omega
    · have e : B.env.cells.lookup x = some c := e
      rw [ok.nc] at e
      cases e
    · rcases List.mem_append.mp (show q ∈ B.pW W ++ ip from hq) with z | z
      · exact (hn b hb').2 q z
      · exact l2 q z
  have loop : ∀ (r j m i : Nat) (W : Wk) (s : Shared) (σ : L2.St) (H : Hp), m + i = J.n → WkOk B pl W → Wv j r i W.Hc σ H → GI B W ip σ H s → tn j s.heap → (∀ b ∈ fp, H b = none ∧ ∀ q ∈ B.pW W, q.1 ≠ b) →
      Run2 B.M B.A (Phi B J pl m W) (.forLoop tg (.ref it) body [] B.env) (B.M.den (.forLoop tg (.ref it) body [] B.env)) (.ret kk none (gd false) (lv []) c p [] :: fs) s := by
    intro r
    induction r using Nat.strongRecOn with
    | ind r ih =>
      intro j m i W s σ H hm wo w gi st fr
      refine run2_forLoop ?_
      rw [gl.over]
      rcases turn j r i W.Hc σ H w with ⟨stop, qn⟩ | ⟨go, N, hN, step⟩
      · refine wpAny_mono (T.done (B.XW W) rfl rfl rfl rfl j _ s σ H (fun _ _ => False) (gi.pinned ok) (stat wo.lt fr) st stop) (fun r s4 ⟨hr, I4⟩ => ?_) fun _ _ x => x
        subst hr
        refine run2_leaf (.ok .next) ?_
        rw [okk]
        exact k m i W s4 .next hm wo ⟨σ, H, gi.unpin I4, qn⟩
      · refine wpAny_mono (T.item (B.XW W) rfl rfl rfl rfl j _ s σ H (fun _ _ => False) (gi.pinned ok) (stat wo.lt fr) st go) (fun r s4 ⟨u, hr, h4⟩ => ?_) fun _ _ x => x
        subst hr
        refine wpAny_mono h4 (fun _ s5 ⟨x, H5, I5, r5, y5, st5, fr5⟩ => ?_) fun _ _ x => x
        have gi5 := gi.unpin I5
        have gi5' : GI B W (ip ++ pinsAt fp s5.heap) σ H5 s5 := ⟨gi5.1, fun q hq => by
          rcases List.mem_append.mp hq with z | z
          · exact gi5.2 q z
          · obtain ⟨hb', e⟩ := of_pinsAt z
            obtain ⟨o, e', d⟩ := T.obj _ _ st5 q.1 hb'
            rw [e] at e'
            cases e'
            exact ⟨e, fr5 _ hb', (hL _ hb').1, isCell_no d, fun q' hq' => (fr _ hb').2 q' hq'⟩⟩
        refine wpAny_mono ((hg _ _).run _ s5 σ H5 x u _ (gi5'.pinned ok) r5 (step x H5 y5)) (fun _ s6 ⟨σ6, H6, I6, q6⟩ => ?_) fun _ _ x => x
        have gi6 := gi5'.unpin I6
        intro J2
        have again : ∀ {m' i' : Nat} {W' : Wk} {s7 : Shared} {σ7 : L2.St} {H7 : Hp}, m' + i' = J.n → WkOk B pl W' → GI B W' (ip ++ pinsAt fp s5.heap) σ7 H7 s7 → N i' W'.Hc σ7 H7 → Run2 B.M B.A (Phi B J pl m' W') (.forLoop tg (.ref it) body [] B.env) (B.M.den (.forLoop tg (.ref it) body [] B.env)) (.ret kk none (gd false) (lv []) c p [] :: fs) s7 := fun {m' i' W' s7 σ7 H7} hm' wo' gi7 n7 => by
          obtain ⟨r', hr', w7⟩ := hN i' W'.Hc σ7 H7 n7
          refine ih r' hr' (j + 1) m' i' W' s7 σ7 H7 hm' wo' w7 gi7.less (T.keep _ _ _ st5 fun b hb' o e => (gi7.2 (b, o) (List.mem_append_right _ (mem_pinsAt hb' e))).1) fun b hb' => ?_
          obtain ⟨o, e, d⟩ := T.obj _ _ st5 b hb'
          obtain ⟨z0, z1, _, _, z2⟩ := gi7.2 (b, o) (List.mem_append_right _ (mem_pinsAt hb' e))
          exact ⟨z1, z2⟩
        refine hb.run (ip ++ pinsAt fp s5.heap) _ _ _ J2 id id m i W s6 σ6 H6 { D with nx := N, ct := N, bk := D.nx } gl hm wo (fun m' i' W' s3 f hm' wo' hs => ?_) gi6 q6
        cases f with
        | next =>
          obtain ⟨σ3, H3, gi3, n3⟩ := hs
          exact run2_again rfl (again hm' wo' gi3 n3)
        | cont =>
          obtain ⟨σ3, H3, gi3, n3⟩ := hs
          exact run2_again rfl (again hm' wo' gi3 n3)
        | brk =>
          obtain ⟨σ3, H3, gi3, n3⟩ := hs
          refine run2_leaf (.ok .next) ?_
          rw [okk]
          exact k m' i' W' s3 .next hm' wo' ⟨σ3, H3, gi3.less, n3⟩
        | ret v =>
          obtain ⟨x3, σ3, H3, gi3, n3⟩ := hs
          refine run2_leaf (.ok (.ret v)) ?_
          rw [okk]
          exact k m' i' W' s3 (.ret v) hm' wo' ⟨x3, σ3, H3, gi3.less, n3⟩
  exact loop r0 0 m i W s2 σ H2 hm wo w0 gi2 st2 fun b hb' => ⟨(f2 b hb').1, fun q hq => (f2 b hb').2.2.2.2.2 q (List.mem_append_right _ (List.mem_append_left _ hq))⟩
end K1

namespace K1
open PySem PySem.Spec PyProof.Rows L2 Own
/-! ### a generator's own lists; a slice, where it stands -/
theorem kt_upd {H : Hp} {q : Addr} {xs : List V} {o : HO} (h : H q = some (.lst xs)) : KT H (upd H q o) := fun b u f e => by
  rw [upd_ne fun z => by
    rw [z, h] at e
    cases e
    rcases f with ⟨_, z⟩ | ⟨_, _, z⟩ <;> cases z]
  exact e
theorem kt_hide {H : Hp} {q : Addr} {xs : List V} (h : H q = some (.lst xs)) : KT H (hideL H [q]) := fun b u f e => by
  rw [hideL_out fun z => by
    rw [List.mem_singleton.mp z, h] at e
    cases e
    rcases f with ⟨_, z⟩ | ⟨_, _, z⟩ <;> cases z]
  exact e
theorem kt_merge {H Hc : Hp} {q : Addr} {xs : List V} (h : H q = some (.lst xs)) (k : KT (hideL H [q]) Hc) : KT H (mergeL H [q] Hc) := fun b u f e => by
  have nb : b ∉ [q] := fun z => by
    rw [List.mem_singleton.mp z, h] at e
    cases e
    rcases f with ⟨_, z⟩ | ⟨_, _, z⟩ <;> cases z
  rw [mergeL_out nb]
  exact k b u f (by rw [hideL_out nb]; exact e)
def rSlA (L : Nat) (K : PySem.W.Frag) : V → Option Int → Option Int → Hp → VK → Prop := fun x lo hi H Q => ∃ a xs, x = .ref a ∧ SqL K H a xs ∧ ∀ p, L < p → H p = none → Q (.ref p) (upd H p (.lst (cutV xs lo hi)))
theorem sl_listA {X : Cx} : SlR X (rSlA X.env.locals X.K) := by
  intro pins s σ H x v vl vu lo hi sl Q I rx hs pl pu ⟨a, xs, ex, hx, q⟩
  subst ex
  cases rx
  obtain ⟨its, rv, ht, few⟩ := I.list hx
  have len := rv.length
  refine ⟨"list", _, slot_list_getitem.lookup, ht.isList.typeIs, wpAny_getItem_list_slice ht.isList hs pl pu .none (by simp) ?_ (by rw [List.size_toArray] <;> omega)⟩
  rw [slicePick_cut, ← len]
  have laid := I.laid (t' := s.toks) (o := .lst (cutV xs lo hi)) (fun b ob q => Heap.get?_push_of_some _ q) (Nat.le_refl _) ⟨Nat.le_trans (cutV_length xs lo hi) few, _, 0, (rv.drop (HT.sIx xs.length 0 lo)).take (HT.sIx xs.length xs.length hi - HT.sIx xs.length 0 lo), Heap.get?_push_size _ rfl⟩
  exact ⟨.ref s.heap.objs.size, _, laid, rfl, q _ I.lt (I.hok.fresh (Nat.le_refl _))⟩
theorem cutV_one (x : V) (r : List V) : cutV (x :: r) (some 1) none = r := by
  have e1 : HT.sIx (x :: r).length 0 (some 1) = 1 := by
    rw [show (some 1 : Option Int) = some ((1 : Nat) : Int) from rfl, HT.sIx_nat]
    show min 1 (r.length + 1) = 1
    omega
  unfold cutV
  rw [e1, HT.sIx_none]
  show List.take (r.length + 1 - 1) r = r
  rw [Nat.add_sub_cancel, List.take_length]
end K1

namespace K1
open PySem PySem.Spec PyProof.Rows L2 Own
/-! ### data while a generator sleeps -/
mutual
theorem flatD_of : ∀ (d : PyData), noList d = true → flatD d = true
  | .none, _ => rfl
  | .bool _, _ => rfl
  | .int _, _ => rfl
  | .str _, _ => rfl
  | .tuple ds, h => flatL_of ds h
  | .list _, h => absurd h (fun z => nomatch z)
  | .dict _, _ => rfl
theorem flatL_of : ∀ (ds : List PyData), noListAll ds = true → flatD.flatL ds = true
  | [], _ => rfl
  | d :: r, h => by
    obtain ⟨h1, h2⟩ := Bool.and_eq_true_iff.mp h
    show (flatD d && flatD.flatL r) = true
    rw [flatD_of d h1, flatL_of r h2]
    rfl
end
theorem dp_kt {K : PySem.W.Frag} {H H' : Hp} (s : KT H H') {v : V} {d : PyData} (h : Dp K H v d) (n : noList d = true) : Dp K H' v d := dp_ktF s h (flatD_of d n)
theorem dpAll_kt {K : PySem.W.Frag} {H H' : Hp} (s : KT H H') {vs : List V} {ds : List PyData} (h : DpAll K H vs ds) (n : noListAll ds = true) : DpAll K H' vs ds := dpAll_ktF s h (flatL_of ds n)
end K1

namespace K1
open PySem PySem.Spec PyProof.Rows L2 Own
/-! ### leaves: each leaf with its place -/
mutual
def leavesP : PyData → List (List Nat × PyData)
  | .tuple ds => leavesT (.tuple ds) ds
  | d => [([], d)]
def leavesT (d : PyData) : List PyData → List (List Nat × PyData)
  | [] => [([], d)]
  | _ :: r => leavesK d r
def leavesK (d : PyData) : List PyData → List (List Nat × PyData)
  | [] => [([], d)]
  | x :: _ => match x with
    | .tuple cs => leavesL 0 cs
    | _ => [([], d)]
def leavesL (k : Nat) : List PyData → List (List Nat × PyData)
  | [] => []
  | c :: r => (leavesP c).map (fun q => (k :: q.1, q.2)) ++ leavesL (k + 1) r
end
theorem leaves_group {m : PyData} {cs : List PyData} : leavesP (.tuple [m, .tuple cs]) = leavesL 0 cs := by
  rw [leavesP, leavesT, leavesK]
theorem leaves_leaf {m : PyData} {i : Int} : leavesP (.tuple [m, .int i]) = [([], .tuple [m, .int i])] := by
  rw [leavesP, leavesT, leavesK] <;> (intro ds z; cases z)
def placeD (p : List Nat) : PyData := .tuple (p.map fun (k : Nat) => PyData.int (k : Int))
def entD (q : List Nat × PyData) : PyData := .tuple [placeD q.1, q.2]
/-- what a pair on the stack stands for -/
def below (q : List Nat × PyData) : List (List Nat × PyData) := (leavesP q.2).map fun x => (q.1 ++ x.1, x.2)
def kidE (p : List Nat) (k : Nat) : List PyData → List (List Nat × PyData)
  | [] => []
  | c :: r => (p ++ [k], c) :: kidE p (k + 1) r
theorem kidE_len (p : List Nat) : ∀ (cs : List PyData) (k : Nat), (kidE p k cs).length = cs.length
  | [], _ => rfl
  | _ :: r, k => by
    show (kidE p (k + 1) r).length + 1 = _
    rw [kidE_len p r (k + 1)]
    rfl
theorem kidE_at (p : List Nat) : ∀ (cs : List PyData) (k j : Nat), (kidE p k cs)[j]? = (cs[j]?).map fun c => (p ++ [k + j], c)
  | [], _, _ => rfl
  | c :: r, k, 0 => rfl
  | c :: r, k, j + 1 => by
    show (kidE p (k + 1) r)[j]? = _
    rw [kidE_at p r (k + 1) j, show k + 1 + j = k + (j + 1) from by omega]
    rfl
theorem kidE_below (p : List Nat) : ∀ (cs : List PyData) (k : Nat), (kidE p k cs).flatMap below = (leavesL k cs).map fun x => (p ++ x.1, x.2)
  | [], _ => by rw [leavesL]; rfl
  | c :: r, k => by
    rw [leavesL, List.map_append, ← kidE_below p r (k + 1)]
    show below (p ++ [k], c) ++ (kidE p (k + 1) r).flatMap below = _
    congr 1
    unfold below
    rw [List.map_map]
    refine List.map_congr_left fun x _ => ?_
    show (p ++ [k] ++ x.1, x.2) = (p ++ k :: x.1, x.2)
    rw [List.append_assoc]
    rfl
theorem kidE_mem (p : List Nat) : ∀ (cs : List PyData) (k : Nat), ∀ q ∈ kidE p k cs, q.2 ∈ cs
  | [], _, _, h => nomatch h
  | c :: r, k, q, h => by
    rcases List.mem_cons.mp h with e | h
    · rw [e]
      exact List.mem_cons_self ..
    · exact List.mem_cons_of_mem _ (kidE_mem p r (k + 1) q h)
def ndE (qs : List (List Nat × PyData)) : Nat := ndAll (qs.map (·.2))
theorem ndE_app (a b : List (List Nat × PyData)) : ndE (a ++ b) = ndE a + ndE b := by
  unfold ndE
  rw [List.map_append, ndAll_app]
theorem kidE_nd (p : List Nat) : ∀ (cs : List PyData) (k : Nat), ndE (kidE p k cs) = ndAll cs
  | [], _ => rfl
  | c :: r, k => by
    show ndD c + ndE (kidE p (k + 1) r) = ndD c + ndAll r
    rw [kidE_nd p r (k + 1)]
theorem ndE_rev (qs : List (List Nat × PyData)) : ndE qs.reverse = ndE qs := by
  induction qs with
  | nil => rfl
  | cons c r ih =>
    rw [List.reverse_cons, ndE_app, ih]
    show ndE r + (ndD c.2 + 0) = ndD c.2 + ndE r
    omega
theorem ndE_len : ∀ qs : List (List Nat × PyData), qs.length ≤ ndE qs
  | [] => Nat.zero_le _
  | c :: r => by
    have := ndE_len r
    have := nd_pos c.2
    show r.length + 1 ≤ ndD c.2 + ndE r
    omega
end K1

namespace K1
open PySem PySem.Spec PyProof.Rows L2 Own
def lvJ (K : PySem.W.Frag) (d : PyData) : GJ := ⟨(leavesP d).length, fun i H x H' => Same H H' ∧ ∃ q, (leavesP d)[i]? = some q ∧ Dp K H' x (entD q), fun H HE => Same H HE⟩
def spLv (K : PySem.W.Frag) (ns : List Str) : SpY := fun vs H J => ∃ v d, vs = [v] ∧ Dp K H v d ∧ TreeK ns d ∧ ndD d ≤ 1000000 ∧ J = lvJ K d
abbrev nLv : List Str := ["tree", "pending", "place", "node", "inner", "k"]
section
variable {P : Program} {w : World} {K : PySem.W.Frag} {mg : Str → Option Value} {base : Heap}
theorem scLv : GScope nLv ["tree"] (defScope sLeaves) := ⟨rfl, rfl, rfl, by decide +kernel, rfl, by decide +kernel, by decide +kernel⟩
/-- the body, read -/
def tLv (K : PySem.W.Frag) (L : Nat) (J : GJ) (ns : List Str) : TG2 :=
  tThen2 (tPl (tAsg (tLstA L (tCons (tTup (tCons (tTup tNil) (tCons (tVar 0) tNil))) tNil)) (gName 1)))
  (tThen2 (tWhile2 (fun σ H Q => tVar 1 σ H fun x H' => ∃ k, TruV K x H' k ∧ Q k H')
    (tThen2 (tPl (tAsg (tBM0 K "list" rPop (tVar 1)) (gTup K 2 (gCons (gName 2) (gCons (gName 3) gNil)))))
    (tThen2 (tPl (tAsg (tCall (spKidsT K ns) [] E0 (tCons (tVar 3) tNil)) (gName 4)))
    (tThen2 (tIf2 (tNot fun σ H Q => tVar 4 σ H fun x H' => ∃ k, TruV K x H' k ∧ Q k H') (tThen2 (tYield2 J L (tTup (tCons (tVar 2) (tCons (tVar 3) tNil)))) tN2) tN2)
    (tThen2 (tPl (tFor (iRevR (tRg1 (tCB (fun xs H Q => ∃ p ys, xs = [V.ref p] ∧ (SqL K H p ys ∨ SqT K H p ys) ∧ Q (V.int ys.length) H) (tCons (tVar 4) tNil)))) (gName 5)
      (tDrop (tBM K "list" rAppend (tVar 1) (tCons (tTup (tCons (tTup (StX.tStar K (tVar 2) (tCons (tVar 5) tNil))) (tCons (tOp (rIxT K) (tVar 4) (tVar 5)) tNil))) tNil))))) tN2))))) tN2)
theorem lv_body {f fC : Addr} {cdv : Value} {dC : FuncData} {ns : List Str} {A : Around} {outer : List Env} {L a : Addr} {go : Obj} {J : GJ} {pl : List Addr} (hr : Room 1 (A.deeper (envOfC "leaves" (defScope sLeaves) L f cdv)))
    (ok : GB.Ok ⟨P, w, K, mg, base, nLv, "leaves", defScope sLeaves, f, cdv, A, outer, L, a, go⟩) (GC : FnOk P w K mg base CX0 1 fC dC ["tree"] (spKidsT K ns)) (kC : PySem.W.keepIn K (.ref fC) = true) (bC : Binds K dC ["tree"] []) (mC : mg "_children" = some (.ref fC))
    (ml : mg "len" = none) (mr : mg "range" = none) (mrv : mg "reversed" = none) :
    G2s ⟨P, w, K, mg, base, nLv, "leaves", defScope sLeaves, f, cdv, A, outer, L, a, go⟩ J pl (defBody sLeaves) (tLv K L J ns) :=
  g2s_cons (g2_ps ok fun s0 H0 => ps_set (i := 1) scLv.nd rfl (Or.inl rfl) (pe_lstA (pa_cons (pe_tup (pa_cons (pe_tup pa_nil) (pa_cons (pv 0) pa_nil))) pa_nil)))
  (g2s_one (g2_while ok (fun s0 H0 => pt_truth (pv 1) (by intro _; rfl))
    (g2s_cons (g2_ps ok fun s0 H0 => ps_asg (pe_bm0 PySem.F.plainAttrs_list PySem.F.slot_list_pop PySem.F.type_list_pop mt_pop (pv 1)) (pg_tup rfl (pgs_cons (pg_name (i := 2) scLv.nd rfl (Or.inl rfl)) (pgs_cons (pg_name (i := 3) scLv.nd rfl (Or.inl rfl)) pgs_nil))))
    (g2s_cons (g2_ps ok fun s0 H0 => ps_set (i := 4) scLv.nd rfl (Or.inl rfl) (pe_call GC hr (by rfl) mC kC bC .nil pass0 (pa_cons (pv 3) pa_nil)))
    (g2s_cons (g2_if ok (fun s0 H0 => pt_not (pt_truth (pv 4) (by intro _; rfl)))
      (g2s_one (g2_yield ok (fun s0 H0 => pe_tup (pa_cons (pv 2) (pa_cons (pv 3) pa_nil))) rfl rfl)) g2s_nil)
    (g2s_one (g2_ps ok fun s0 H0 => ps_for PassesOwn.never rfl (pi_revR (by rfl) mrv (prg_1 (by rfl) mr (pe_callB call_len_seq (by rfl) ml PySem.boot_len (pa_cons (pv 4) pa_nil)))) (pg_name (i := 5) scLv.nd rfl (Or.inl rfl))
      (pss_one (ps_expr (pe_bm PySem.F.plainAttrs_list PySem.F.slot_list_append PySem.F.type_list_append mt_append (pv 1) (pa_cons (pe_tup (pa_cons (pe_tup (StX.pa_star (pv 2) (pa_cons (pv 5) pa_nil))) (pa_cons (pe_ix ix_tup (pv 4) (pv 5) (fun _ _ => rfl)) pa_nil))) pa_nil)))))))))))
end
end K1

namespace K1
open PySem PySem.Spec PyProof.Rows L2 Own
theorem place_flat (p : List Nat) : noList (placeD p) = true := noListAll_of fun d hd => by
  obtain ⟨k, _, rfl⟩ := List.mem_map.mp hd
  rfl
theorem ent_flat {ns : List Str} {q : List Nat × PyData} (h : TreeK ns q.2) : noList (entD q) = true := by
  show (noList (placeD q.1) && (noList q.2 && true)) = true
  rw [place_flat, h.flat]
  rfl
theorem dp_place {K : PySem.W.Frag} {H : Hp} {v : V} {p : List Nat} (h : Dp K H v (placeD p)) : ∃ a, v = .ref a ∧ SqT K H a (p.map fun k : Nat => V.int (k : Int)) := by
  cases h with
  | tup hs ha =>
    rename_i a xs
    refine ⟨a, rfl, ?_⟩
    have e : xs = p.map fun k : Nat => V.int (k : Int) := by
      clear hs
      induction p generalizing xs with
      | nil => cases ha; rfl
      | cons k r ih =>
        cases ha with
        | cons h1 h2 =>
          cases h1
          rw [ih h2]
          rfl
    rw [← e]
    exact hs
theorem dpAll_ints {K : PySem.W.Frag} {H : Hp} : ∀ p : List Nat, DpAll K H (p.map fun k : Nat => V.int (k : Int)) (p.map fun k : Nat => PyData.int (k : Int))
  | [] => .nil
  | k :: r => .cons (.int _) (dpAll_ints r)
section
variable {K : PySem.W.Frag} {ns : List Str}
/-- what stands while the walk goes on -/
def LvW (K : PySem.W.Frag) (ns : List Str) (v : V) (d0 : PyData) (q : Addr) : Nat → Nat → Hp → L2.St → Hp → Prop := fun r i Hc σ H => ∃ v2 v3 v4 v5 us qs, σ = [some v, some (.ref q), v2, v3, v4, v5] ∧ H q = some (.lst us) ∧ Hc q = none ∧ Same Hc H ∧
  DpAll K H us (qs.map entD) ∧ (∀ e ∈ qs, TreeK ns e.2 ∧ e.1.length + ndD e.2 ≤ ndD d0) ∧ ndE qs ≤ ndD d0 ∧ i ≤ (leavesP d0).length ∧ (leavesP d0).drop i = qs.reverse.flatMap below ∧ r = ndE qs
theorem kids_of {ns : List Str} {d : PyData} (h : TreeK ns d) : (kidsD d = [] ∧ leavesP d = [([], d)]) ∨ (kidsD d ≠ [] ∧ leavesP d = leavesL 0 (kidsD d)) := by
  rcases h.split with ⟨z, i, rfl, _⟩ | ⟨m, cs, rfl, _, ne, _⟩
  · exact .inl ⟨rfl, leaves_leaf⟩
  · exact .inr ⟨ne, leaves_group⟩
theorem tru_tup {H : Hp} {c : Addr} {ks : List V} (h : SqT K H c ks) : TruV K (.ref c) H (!ks.isEmpty) := .inr (.inl ⟨ks, h, rfl⟩)
theorem lv_spec {v : V} {d0 : PyData} {Hw : Hp} {L : Nat} (hd : Dp K Hw v d0) (gt : TreeK ns d0) (big : ndD d0 ≤ 1000000) : tLv K L (lvJ K d0) ns (endE (lvJ K d0)) 0 Hw (L2.start nLv [v]) Hw := by
  refine ⟨(by show 0 ≤ sizeLine; decide), fun p0 np0 => ?_⟩
  have s1 := same_upd (o := .tup []) np0
  have h0 := upd_same (H := Hw) (a := p0) (o := .tup [])
  generalize upd Hw p0 (.tup []) = H1 at s1 h0 ⊢
  refine ⟨_, rfl, (by show 2 ≤ sizeLine; decide), fun p1 np1 => ?_⟩
  have s2 := same_upd (o := .tup [.ref p0, v]) np1
  have h1 := upd_same (H := H1) (a := p1) (o := .tup [.ref p0, v])
  have h0 := s2 _ _ h0
  generalize upd H1 p1 (.tup [.ref p0, v]) = H2 at s2 h1 h0 ⊢
  refine ⟨(by show 1 ≤ sizeLine; decide), fun q hLq nq => ?_⟩
  have s3 := same_upd (o := .lst [.ref p1]) nq
  have hq := upd_same (H := H2) (a := q) (o := .lst [.ref p1])
  have h1 := s3 _ _ h1
  have h0 := s3 _ _ h0
  have sW := (s1.trans s2).trans s3
  have nqW : Hw q = none := (s1.trans s2).free nq
  generalize upd H2 q (.lst [.ref p1]) = H3 at s3 hq h1 h0 sW ⊢
  refine ⟨LvW K ns v d0 q, ⟨ndE [([], d0)], none, none, none, none, [.ref p1], [([], d0)], rfl, hq, nqW, sW, .cons (.tup (SqT.of h1) (.cons (.tup (SqT.of h0) .nil) (.cons (dp_same sW hd) .nil))) .nil, fun e he => ?_, ?_, Nat.zero_le _, ?_, rfl⟩, ?_⟩
  · rw [List.mem_singleton.mp he]
    exact ⟨gt, by show 0 + ndD d0 ≤ _; omega⟩
  · show ndD d0 + 0 ≤ _
    omega
  · show leavesP d0 = below ([], d0) ++ []
    rw [List.append_nil]
    unfold below
    show leavesP d0 = (leavesP d0).map fun x => ([] ++ x.1, x.2)
    rw [List.map_congr_left (g := id) fun x _ => by rw [List.nil_append]; rfl, List.map_id]
  rintro r i Hc σ H ⟨v2, v3, v4, v5, us, qs, rfl, hq, nqc, sc, hu, good, sum, hi, rest, rfl⟩
  have lu := dpAll_len hu
  rw [List.length_map] at lu
  refine ⟨_, rfl, !us.isEmpty, .inl ⟨us, SqL.of hq, rfl⟩, ?_⟩
  by_cases ev : us = []
  · subst ev
    have eq : qs = [] := List.length_eq_zero_iff.mp lu.symm
    subst eq
    refine iteF ?_
    have hn : i = (leavesP d0).length := by
      have z := List.drop_eq_nil_iff.mp (show (leavesP d0).drop i = [] from rest)
      omega
    refine ⟨hn, fun b o e _ => sc b o e, [q], fun b hb => ?_, fun b o e => ?_⟩
    · rw [List.mem_singleton.mp hb]
      exact ⟨⟨_, hq⟩, fun o e => by rw [nqc] at e; cases e⟩
    · rw [hideL_out fun z => by rw [List.mem_singleton.mp z, nqc] at e; cases e]
      exact sc b o e
  · rw [show (!us.isEmpty) = true from by cases us with | nil => exact absurd rfl ev | cons _ _ => rfl]
    refine iteT ?_
    obtain ⟨ws, y, es', e', rfl, ee, ha2, he⟩ := dpAll_snoc hu ev
    obtain ⟨es, e, rfl, rfl, rfl⟩ : ∃ es e, qs = es ++ [e] ∧ es' = es.map entD ∧ e' = entD e := by
      rcases List.eq_nil_or_concat qs with rfl | ⟨es, e, rfl⟩
      · exact absurd ee (by simp)
      · simp only [List.concat_eq_append, List.map_append] at ee ⊢
        obtain ⟨z1, z2⟩ := List.append_inj' ee rfl
        exact ⟨es, e, rfl, z1.symm, (List.cons.inj z2).1.symm⟩
    obtain ⟨p, d⟩ := e
    obtain ⟨ge, gl⟩ := good (p, d) (List.mem_append_right _ (List.mem_cons_self ..))
    have gl : p.length + ndD d ≤ ndD d0 := gl
    have ges : ∀ e ∈ es, TreeK ns e.2 ∧ e.1.length + ndD e.2 ≤ ndD d0 := fun e hm => good e (List.mem_append_left _ hm)
    rw [List.reverse_append] at rest
    have rest : (leavesP d0).drop i = below (p, d) ++ es.reverse.flatMap below := rest
    have cnt : ndE (es ++ [(p, d)]) = ndE es + ndD d := by
      rw [ndE_app]
      rfl
    have flE : noListAll (es.map entD) = true := noListAll_of fun x hx => by
      obtain ⟨z, hz, rfl⟩ := List.mem_map.mp hx
      exact ent_flat (ges z hz).1
    refine ⟨fun i' Hc' σ' H' => ∃ r', r' < ndE (es ++ [(p, d)]) ∧ LvW K ns v d0 q r' i' Hc' σ' H', fun i' Hc' σ' H' z => z, ?_⟩
    refine ⟨_, rfl, .inl ⟨rfl, _, SqL.of hq⟩, q, _, y, rfl, rfl, hq, ?_, ?_⟩
    · rw [List.length_append, List.length_singleton, Nat.add_sub_cancel, List.getElem?_append_right (Nat.le_refl _), Nat.sub_self]
      rfl
    have k3 : KT H (upd H q (.lst (ws ++ [y]).dropLast)) := kt_upd hq
    have s3 : Same Hc (upd H q (.lst (ws ++ [y]).dropLast)) := same_past nqc sc
    have hq3 := upd_same (H := H) (a := q) (o := .lst (ws ++ [y]).dropLast)
    rw [List.dropLast_concat] at s3 hq3 k3 ⊢
    generalize upd H q (.lst ws) = J3 at s3 hq3 k3 ⊢
    obtain ⟨ta, w1, w2, rfl, hst, hw1, hw2⟩ := dp_pair he
    have hst3 := sqT_kt k3 hst
    have hw13 := dp_kt k3 hw1 (place_flat p)
    have hw23 := dp_kt k3 hw2 ge.flat
    have ha3 := dpAll_kt k3 ha2 flE
    refine ⟨ta, _, rfl, hst3, rfl, _, _, rfl, _, _, rfl, rfl, ?_⟩
    refine ⟨_, rfl, w2, d, rfl, hw23, ge, fun J4 c ks s4 hc hks => ?_⟩
    have lks := dpAll_len hks
    have hq4 := s4 _ _ hq3
    have ha4 := dpAll_same s4 ha3
    have hw14 := dp_same s4 hw13
    have hw24 := dp_same s4 hw23
    obtain ⟨pa, rfl, hpa⟩ := dp_place hw14
    have p1 := nd_pos d
    refine ⟨_, rfl, !ks.isEmpty, tru_tup hc, ?_⟩
    rcases kids_of ge with ⟨kn, lp⟩ | ⟨kn, lp⟩
    · -- a leaf
      have ek : ks = [] := List.length_eq_zero_iff.mp (by rw [lks, kn]; rfl)
      subst ek
      refine iteT ⟨_, rfl, _, rfl, (by show 2 ≤ sizeLine; decide), fun t nt => ?_⟩
      have s5 := same_upd (o := .tup [.ref pa, w2]) nt
      have h5 := upd_same (H := J4) (a := t) (o := .tup [.ref pa, w2])
      have hq5 := s5 _ _ hq4
      have ha5 := dpAll_same s5 ha4
      have hw15 := dp_same s5 hw14
      have hw25 := dp_same s5 hw24
      have sc5 := (s3.trans s4).trans s5
      generalize upd J4 t (.tup [.ref pa, w2]) = J5 at s5 h5 hq5 ha5 hw15 hw25 sc5 ⊢
      have bl : below (p, d) = [(p, d)] := by
        unfold below
        rw [lp]
        show [(p ++ [], d)] = _
        rw [List.append_nil]
      rw [bl] at rest
      have hilt : i < (leavesP d0).length := by
        have z := congrArg List.length rest
        rw [List.length_drop, List.length_append] at z
        have z : (leavesP d0).length - i = 1 + _ := z
        omega
      have hat : (leavesP d0)[i]? = some (p, d) := by
        rw [← List.head?_drop, rest]
        rfl
      have rest' : (leavesP d0).drop (i + 1) = es.reverse.flatMap below := by
        rw [← List.tail_drop, rest]
        rfl
      refine ⟨hilt, fun b o e _ => sc5 b o e, [q], fun b hb => ?_, ⟨fun b o e => ?_, (p, d), hat, ?_⟩, fun Hc2 kt hz => ?_⟩
      · rw [List.mem_singleton.mp hb]
        exact ⟨⟨_, hq5⟩, (fun o e => by rw [nqc] at e; cases e), hLq⟩
      · rw [hideL_out fun z => by rw [List.mem_singleton.mp z, nqc] at e; cases e]
        exact sc5 b o e
      · exact dp_kt (kt_hide hq5) (.tup (SqT.of h5) (.cons hw15 (.cons hw25 .nil))) (ent_flat (q := (p, d)) ge)
      have k6 := kt_merge hq5 kt
      have hq6 : mergeL J5 [q] Hc2 q = some (.lst ws) := by
        rw [mergeL_in (List.mem_singleton.mpr rfl)]
        exact hq5
      have sc6 : Same Hc2 (mergeL J5 [q] Hc2) := fun b o e => by
        rw [mergeL_out fun z => by rw [List.mem_singleton.mp z, hz q (List.mem_singleton.mpr rfl)] at e; cases e]
        exact e
      have hc6 := sqT_kt k6 (Same.tup s5 hc)
      have ha6 := dpAll_kt k6 ha5 flE
      refine ⟨_, rfl, _, [], rfl, .inr hc6, _, rfl, (by decide), (by decide), (by decide), (by decide), ?_⟩
      refine for_rangeC (n := 0) (fun j σ' H' => σ' = [some v, some (.ref q), some (.ref pa), some w2, some (.ref c), v5] ∧ H' = mergeL J5 [q] Hc2) ⟨rfl, rfl⟩ (fun j σ' H' hj => absurd hj (Nat.not_lt_zero _)) ?_
      rintro σ' H' ⟨rfl, rfl⟩
      exact ⟨ndE es, by rw [cnt]; omega, _, _, _, _, ws, es, rfl, hq6, hz q (List.mem_singleton.mpr rfl), sc6, ha6, ges, by rw [cnt] at sum; omega, hilt, rest', rfl⟩
    · -- a group
      have nk : ks ≠ [] := fun z => kn (List.length_eq_zero_iff.mp (by rw [← lks, z]; rfl))
      rw [show (!ks.isEmpty) = true from by cases ks with | nil => exact absurd rfl nk | cons _ _ => rfl]
      refine iteF ?_
      have hkn : ndAll (kidsD d) < ndD d := kids_nd d
      have lkl := ndAll_len (kidsD d)
      refine ⟨_, rfl, _, ks, rfl, .inr hc, _, rfl, (by omega), (by omega), (by omega), (by omega), ?_⟩
      have tn : (((ks.length : Nat) : Int) - 0).toNat = ks.length := by omega
      rw [tn]
      have lke := kidE_len p (kidsD d) 0
      refine for_rangeC (fun j σ' H' => ∃ v5 us, σ' = [some v, some (.ref q), some (.ref pa), some w2, some (.ref c), v5] ∧ H' q = some (.lst us) ∧ KT J4 H' ∧ Same Hc H' ∧ DpAll K H' us ((es ++ (kidE p 0 (kidsD d)).reverse.take j).map entD))
        ⟨v5, ws, rfl, hq4, KT.refl _, s3.trans s4, by rw [List.take_zero, List.append_nil]; exact ha4⟩ ?_ ?_
      · rintro j σ' H' hj ⟨v5, us, rfl, hq', kt', sc', hu'⟩
        obtain ⟨k, hk⟩ : ∃ k : Nat, k + j + 1 = ks.length := ⟨ks.length - 1 - j, by omega⟩
        have ek : (0 + ((ks.length : Nat) : Int) - 1 + ((j : Nat) : Int) * (-1) : Int) = (k : Int) := by omega
        rw [ek]
        have hkl : k < ks.length := by omega
        obtain ⟨w, hw⟩ : ∃ w, ks[k]? = some w := ⟨ks[k], List.getElem?_eq_getElem hkl⟩
        obtain ⟨ck, hck, hwd⟩ := dpAll_at hks hw
        have gck : TreeK ns ck := ge.kids ck (List.mem_of_getElem? hck)
        have lus := dpAll_len hu'
        rw [List.length_map, List.length_append, List.length_take, List.length_reverse, lke, ← lks] at lus
        have lse := ndE_len es
        refine ⟨_, rfl, .inl ⟨rfl, _, SqL.of hq'⟩, ?_⟩
        refine ⟨_, rfl, pa, _, rfl, .inl (sqT_kt kt' hpa), _, rfl, ?_, fun t1 nt1 => ?_⟩
        · rw [sizeLine_eq, List.length_append, List.length_map]
          show p.length + 1 ≤ _
          omega
        have s6 := same_upd (o := .tup ((p.map fun k : Nat => V.int (k : Int)) ++ [.int (k : Int)])) nt1
        have h6 := upd_same (H := H') (a := t1) (o := .tup ((p.map fun k : Nat => V.int (k : Int)) ++ [.int (k : Int)]))
        have hq6 := s6 _ _ hq'
        have hu6 := dpAll_same s6 hu'
        have kt6 := kt'.trans (KT.of s6)
        have sc6 := sc'.trans s6
        generalize upd H' t1 (.tup ((p.map fun k : Nat => V.int (k : Int)) ++ [.int (k : Int)])) = H6 at s6 h6 hq6 hu6 kt6 sc6 ⊢
        refine ⟨_, rfl, _, rfl, c, ks, _, w, rfl, rfl, sqT_kt kt6 hc, atI_nat hw, (by show 2 ≤ sizeLine; decide), fun t2 nt2 => ?_⟩
        have s7 := same_upd (o := .tup [.ref t1, w]) nt2
        have h7 := upd_same (H := H6) (a := t2) (o := .tup [.ref t1, w])
        have hq7 := s7 _ _ hq6
        have h67 := s7 _ _ h6
        have hu7 := dpAll_same s7 hu6
        have kt7 := kt6.trans (KT.of s7)
        have sc7 := sc6.trans s7
        generalize upd H6 t2 (.tup [.ref t1, w]) = H7 at s7 h7 hq7 h67 hu7 kt7 sc7 ⊢
        have new : Dp K H7 (.ref t2) (entD (p ++ [k], ck)) := by
          refine .tup (SqT.of h7) (.cons (.tup (SqT.of h67) ?_) (.cons (dp_kt kt7 hwd gck.flat) .nil))
          have z := dpAll_ints (K := K) (H := H7) (p ++ [k])
          rw [List.map_append] at z
          exact z
        have take : (kidE p 0 (kidsD d)).reverse.take (j + 1) = (kidE p 0 (kidsD d)).reverse.take j ++ [(p ++ [k], ck)] := by
          rw [List.take_add_one, List.getElem?_reverse (by rw [lke]; omega), kidE_at, lke, show (kidsD d).length - 1 - j = k from by omega, hck]
          show _ ++ [(p ++ [0 + k], ck)] = _
          rw [Nat.zero_add]
        refine ⟨q, us, _, rfl, rfl, hq7, by rw [sizeLine_eq]; omega, ?_⟩
        have k8 : KT H7 (upd H7 q (.lst (us ++ [.ref t2]))) := kt_upd hq7
        have flA : noListAll ((es ++ (kidE p 0 (kidsD d)).reverse.take j).map entD) = true := noListAll_of fun x hx => by
          obtain ⟨z, hz, rfl⟩ := List.mem_map.mp hx
          rcases List.mem_append.mp hz with h | h
          · exact ent_flat (ges z h).1
          · exact ent_flat (ge.kids _ (kidE_mem p _ 0 z (List.mem_reverse.mp (List.mem_of_mem_take h))))
        refine ⟨_, _, rfl, upd_same, kt7.trans k8, same_past nqc sc7, ?_⟩
        rw [take, ← List.append_assoc, List.map_append]
        exact dpAll_app (dpAll_kt k8 hu7 flA) (.cons (dp_kt k8 new (ent_flat (q := (p ++ [k], ck)) gck)) .nil)
      · rintro σ' H' ⟨v5, us, rfl, hq', kt', sc', hu'⟩
        rw [List.take_of_length_le (by rw [List.length_reverse, lke]; omega)] at hu'
        have sumE : ndE (es ++ (kidE p 0 (kidsD d)).reverse) = ndE es + ndAll (kidsD d) := by
          rw [ndE_app, ndE_rev, kidE_nd]
        refine ⟨ndE (es ++ (kidE p 0 (kidsD d)).reverse), by rw [cnt, sumE]; omega, _, _, _, _, us, es ++ (kidE p 0 (kidsD d)).reverse, rfl, hq', nqc, sc', hu', fun e he => ?_, by rw [cnt] at sum; rw [sumE]; omega, hi, ?_, rfl⟩
        · rcases List.mem_append.mp he with h | h
          · exact ges e h
          · have hm := List.mem_reverse.mp h
            have hc := kidE_mem p _ 0 e hm
            obtain ⟨j, hj⟩ := List.mem_iff_getElem?.mp hm
            rw [kidE_at] at hj
            obtain ⟨x, _, hx⟩ := Option.map_eq_some_iff.mp hj
            have hn := nd_mem hc
            refine ⟨ge.kids _ hc, ?_⟩
            rw [← hx] at hn ⊢
            show (p ++ [0 + j]).length + ndD x ≤ _
            rw [List.length_append]
            show p.length + 1 + ndD x ≤ _
            have hn : ndD x ≤ ndAll (kidsD d) := hn
            omega
        · rw [List.reverse_append, List.reverse_reverse, List.flatMap_append, kidE_below, rest]
          unfold below
          rw [lp]
end
section
variable {P : Program} {w : World} {K : PySem.W.Frag} {mg : Str → Option Value} {base : Heap}
theorem ok_leaves {f fC : Addr} {fd dC : FuncData} {ns : List Str} (F : Fun K "leaves" "leaves" sLeaves f fd) (GC : FnOk P w K mg base CX0 1 fC dC ["tree"] (spKidsT K ns)) (kC : PySem.W.keepIn K (.ref fC) = true) (bC : Binds K dC ["tree"] []) (mC : mg "_children" = some (.ref fC))
    (ml : mg "len" = none) (mr : mg "range" = none) (mrv : mg "reversed" = none) : GFn2 P w K mg base (fun _ => True) 2 f fd ["tree"] (spLv K ns) := by
  obtain ⟨oc, od, kV, doc, pm, an, cdv, ct, osl, rfl, lk, hcd⟩ := F.ex
  refine gfn2_of lk hcd scLv (fun n => rfl) (fun vs H J h => ?_) fun A outer L a go vs H J pl _ hr ok h => ?_
  · obtain ⟨v, d, rfl, _⟩ := h
    rfl
  · obtain ⟨v, d, rfl, hd, gt, big, rfl⟩ := h
    exact ⟨tLv K L (lvJ K d) ns, lv_body hr ok GC kC bC mC ml mr mrv, fun Hw hw => lv_spec (dp_same hw hd) gt big⟩
end
end K1

namespace K1
open PySem PySem.Spec PyProof.Rows L2 Own
/-! ### data written out -/
theorem q_asg {te : TE} {g : TG} {D : Ends} {σ : L2.St} {H : Hp} (h : te σ H fun x H1 => g x σ H1 D.nx) : tAsg te g D σ H := h
mutual
def tD : PyData → TE
  | .none => tC .non
  | .bool b => tC (.bl b)
  | .int i => tC (.int i)
  | .str z => tC (.str z)
  | .list ds => tLst (tDs ds)
  | .tuple ds => tTup (tDs ds)
  | .dict _ => fun _ _ _ => False
def tDs : List PyData → TA
  | [] => tNil
  | d :: r => tCons (tD d) (tDs r)
end
theorem fr_more {H H1 H2 : Hp} (s : Same H1 H2) : Same (fr H H1) (fr H H2) := fun a o h => fr_of (fr_at h).1 (s _ _ (fr_at h).2)
theorem fr_less {H H1 H2 : Hp} (s : Same H H1) : Same (fr H1 H2) (fr H H2) := fun a o h => fr_of (s.free (fr_at h).1) (fr_at h).2
theorem fr_same {H H' : Hp} : Same (fr H H') H' := fun a o h => (fr_at h).2
/-- all but what may change -/
noncomputable def hid (N : Addr → Prop) (H : Hp) : Hp := fun a => by
  classical exact if N a then none else H a
theorem hid_at {N : Addr → Prop} {a : Addr} {H : Hp} {o : HO} (n : ¬ N a) (h : H a = some o) : hid N H a = some o := by
  unfold hid
  rw [if_neg n]
  exact h
theorem hid_of {N : Addr → Prop} {a : Addr} {H : Hp} {o : HO} (h : hid N H a = some o) : ¬ N a ∧ H a = some o := by
  unfold hid at h
  by_cases e : N a
  · rw [if_pos e] at h
    cases h
  · rw [if_neg e] at h
    exact ⟨e, h⟩
theorem hid_same {N : Addr → Prop} {H : Hp} : Same (hid N H) H := fun a o h => (hid_of h).2
/-- the source and other lists may change -/
structure NOk (N : Addr → Prop) (s : Addr) (H : Hp) : Prop where
  ns : N s
  ls : ∀ a, N a → ∃ xs, H a = some (.lst xs)
theorem NOk.keep {N : Addr → Prop} {s : Addr} {H H' : Hp} (n : NOk N s H) (k : Keep s H H') (q : Src H' s) : NOk N s H' := ⟨n.ns, fun a h => by
  by_cases e : a = s
  · obtain ⟨u, w, z, _⟩ := q
    exact ⟨_, by rw [e]; exact z⟩
  · obtain ⟨xs, hx⟩ := n.ls a h
    exact ⟨xs, k _ _ e hx⟩⟩
theorem hid_keep {N : Addr → Prop} {s : Addr} {H H' : Hp} (k : Keep s H H') (n : N s) : Same (hid N H) (hid N H') := fun a o h => hid_at (hid_of h).1 (k _ _ (fun e => (hid_of h).1 (e ▸ n)) (hid_of h).2)
theorem NOk.new {N : Addr → Prop} {s a : Addr} {H : Hp} (n : NOk N s H) (h : H a = none) : ¬ N a := fun e => by
  obtain ⟨xs, hx⟩ := n.ls a e
  rw [h] at hx
  cases hx
theorem fr_hid {N : Addr → Prop} {s : Addr} {H H' : Hp} (n : NOk N s H) : Same (fr H H') (hid N H') := fun a o h => hid_at (n.new (fr_at h).1) (fr_at h).2
theorem stay_hid {N : Addr → Prop} {s : Addr} {H : Hp} (n : NOk N s H) : Stay H (hid N H) := fun a o z h => hid_at (fun e => by
  obtain ⟨xs, hx⟩ := n.ls a e
  rw [hx] at h
  exact z _ (Option.some.inj h).symm) h
theorem fr_new {H H' : Hp} {p : Addr} {o : HO} (s : Same H H') (n : H' p = none) : fr H (upd H' p o) p = some o := fr_of (s.free n) upd_same
mutual
theorem q_D {K : PySem.W.Frag} : ∀ (d : PyData) (ok : okD d = true) {σ : L2.St} {H : Hp} {Q : VK}, (∀ H' v, Same H H' → Dp K (fr H H') v d → Q v H') → tD d σ H Q
  | .none, _, σ, H, Q, h => by
    rw [tD]
    exact h H _ (Same.refl H) .non
  | .bool b, _, σ, H, Q, h => by
    rw [tD]
    exact h H _ (Same.refl H) (.bl b)
  | .int i, _, σ, H, Q, h => by
    rw [tD]
    exact h H _ (Same.refl H) (.int i)
  | .str z, _, σ, H, Q, h => by
    rw [tD]
    exact h H _ (Same.refl H) (.str z)
  | .list ds, ok, σ, H, Q, h => by
    obtain ⟨o1, o2⟩ := Bool.and_eq_true_iff.mp (show (decide (ds.length ≤ 1000) && okAll ds) = true from ok)
    have o3 := of_decide_eq_true o1
    rw [tD]
    refine q_Ds (K := K) ds o2 fun H' vs s a => ⟨by rw [dpAll_len a, sizeLine_eq]; omega, fun p np => ?_⟩
    exact h _ _ (s.trans (same_upd np)) (.lst (SqL.of (fr_new s np)) (dpAll_same (fr_more (same_upd np)) a))
  | .tuple ds, ok, σ, H, Q, h => by
    obtain ⟨o1, o2⟩ := Bool.and_eq_true_iff.mp (show (decide (ds.length ≤ 1000) && okAll ds) = true from ok)
    have o3 := of_decide_eq_true o1
    rw [tD]
    refine q_Ds (K := K) ds o2 fun H' vs s a => ⟨by rw [dpAll_len a, sizeLine_eq]; omega, fun p np => ?_⟩
    exact h _ _ (s.trans (same_upd np)) (.tup (SqT.of (fr_new s np)) (dpAll_same (fr_more (same_upd np)) a))
  | .dict _, ok, _, _, _, _ => nomatch ok
theorem q_Ds {K : PySem.W.Frag} : ∀ (ds : List PyData) (ok : okAll ds = true) {σ : L2.St} {H : Hp} {Q : List V → Hp → Prop}, (∀ H' vs, Same H H' → DpAll K (fr H H') vs ds → Q vs H') → tDs ds σ H Q
  | [], _, σ, H, Q, h => by
    rw [tDs]
    exact h H [] (Same.refl H) .nil
  | d :: r, ok, σ, H, Q, h => by
    obtain ⟨o1, o2⟩ := Bool.and_eq_true_iff.mp (show (okD d && okAll r) = true from ok)
    rw [tDs]
    refine q_D (K := K) d o1 fun H1 v s1 hv => q_Ds (K := K) r o2 fun H2 vs s2 hvs => ?_
    exact h H2 _ (s1.trans s2) (.cons (dp_same (fr_more s2) hv) (dpAll_same (fr_less s1) hvs))
end
theorem q_LD {K : PySem.W.Frag} (ds : List PyData) (ok : okAll ds = true) (few : ds.length ≤ 1000) {σ : L2.St} {H : Hp} {Q : VK} (h : ∀ H' p vs, Same H H' → H p = none → H' p = some (.lst vs) → DpAll K (fr H H') vs ds → Q (.ref p) H') : tLst (tDs ds) σ H Q := by
  refine q_Ds (K := K) ds ok fun H' vs s a => ⟨by rw [dpAll_len a, sizeLine_eq]; omega, fun p np => ?_⟩
  exact h _ p vs (s.trans (same_upd np)) (s.free np) upd_same (dpAll_same (fr_more (same_upd np)) a)
theorem q_eq {t t' : TE} (e : t' = t) {σ : L2.St} {H : Hp} {Q : VK} (h : t' σ H Q) : t σ H Q := e ▸ h
theorem pe_imp {X : Cx} {e : Expr} {t t' : TE} (h : PE X e t) (i : ∀ σ H Q, t' σ H Q → t σ H Q) : PE X e t' := ⟨fun pins s σ H Q I q => h.run pins s σ H Q I (i σ H Q q)⟩
theorem pe_neg {X : Cx} {i : Int} {k : Nat} {p1 p2 : Pos} : PE X (.UnaryOp .USub (.Constant (.int i) k p1) p2) (tC (.int (-i))) := pe_imp (pe_un un_neg pe_int) fun _ _ _ h => ⟨_, rfl, h⟩
def anyA : List PyData := [.none, .bool true, .bool false, .int 0, .int 1, .int (-1), .int 7, .int ((10 : Int) ^ (40 : Int).toNat), .str "", .str "a", .str "A", .str "abcdefghi", .str "zz", .str "*", .tuple [], .list [], .tuple [.str "a"], .tuple [.str "a", .int 1]]
def anyB : List PyData := [.list [.str "a", .int 1], .tuple [.str "a", .int (-1)], .tuple [.str "a", .bool true], .tuple [.str "a", .tuple []], .tuple [.str "", .tuple []], .tuple [.str "", .tuple [.tuple [.str "a", .int 1]]], .tuple [.tuple [], .int 1], .list [.tuple [.str "a", .int 1]]]
theorem any_ok : okAll anyA = true ∧ okAll anyB = true := ⟨by decide +kernel, by decide +kernel⟩
def spAny (K : PySem.W.Frag) : Sp := fun vs H Q _ => ∃ s N, vs = [.ref s] ∧ Src H s ∧ NOk N s H ∧ ∀ H' v d, Keep s H H' → Src H' s → Dp K (hid N H') v d → d ∈ anyA ++ anyB → Q v H'
section
variable {P : Program} {w : World} {K : PySem.W.Frag} {mg : Str → Option Value} {base : Heap}
theorem pe_ten {X : Cx} {k1 k2 : Nat} {p1 p2 p3 : Pos} : PE X (.BinOp (.Constant (.int 10) k1 p1) .Pow (.Constant (.int 40) k2 p2) p3) (tC (.int ((10 : Int) ^ (40 : Int).toNat))) := pe_imp (pe_op op_pow pe_int pe_int) fun _ _ _ h => ⟨_, _, rfl, rfl, ⟨by decide, by decide, by decide⟩, h⟩
end
end K1

namespace K1
open PySem PySem.Spec PyProof.Rows L2 Own
/-! ### how long data is when shown -/
mutual
def wtD : PyData → Nat
  | .none => 4
  | .bool _ => 5
  | .int _ => 1921
  | .str z => 10 * z.length + 2
  | .list ds => wtAll ds + 3
  | .tuple ds => wtAll ds + 3
  | .dict _ => 0
def wtAll : List PyData → Nat
  | [] => 0
  | d :: r => wtD d + 2 + wtAll r
end
theorem textFrom_le : ∀ (ts : List Str) (k : Nat) (acc : Str), (textFrom k acc ts).length ≤ acc.length + piled ts
  | [], k, acc => by
    show acc.length ≤ acc.length + 0
    omega
  | t :: r, k, acc => by
    have ih := textFrom_le r (k + 1) (acc ++ (if k > 0 then ", " else "" : String) ++ t)
    rw [Str.length_append, Str.length_append] at ih
    have e : ((if k > 0 then ", " else "" : String) : Str).length ≤ 2 := by split <;> decide
    rw [piled_cons]
    show (textFrom (k + 1) (acc ++ (if k > 0 then ", " else "" : String) ++ t) r).length ≤ _
    omega
theorem listText_le (ts : List Str) : (listText ts).length ≤ piled ts + 2 := by
  unfold listText
  rw [Str.length_append]
  have a := textFrom_le ts 0 "["
  have b : ("[" : Str).length = 1 := rfl
  have c : ("]" : Str).length = 1 := rfl
  omega
theorem tupleText_le (ts : List Str) : (tupleText ts).length ≤ piled ts + 3 := by
  unfold tupleText
  rw [Str.length_append, Str.length_append]
  have b : ("(" : Str).length = 1 := rfl
  have c : ((if ts.length == 1 then ",)" else ")" : String) : Str).length ≤ 2 := by split <;> decide
  by_cases h : ts = []
  · subst h
    have d : (Str.join ", " ([] : List Str)).length = 0 := rfl
    rw [d, piled_nil]
    omega
  · have d := join_length_add ts h
    omega
theorem low_16 {z : Str} (h : PyData.strOk z = true) : ∀ c ∈ z.cps.toList, c < 16 ^ 8 := fun c hc => by
  have q : z.cps.all (· < 0x110000) = true := h
  rw [← Array.all_toList, List.all_eq_true] at q
  have r := of_decide_eq_true (q c hc)
  have e : (16 : Nat) ^ 8 = 4294967296 := by decide
  omega
mutual
theorem shown_le : ∀ d : PyData, okD d = true → d.showable = true → d.shown.length ≤ wtD d
  | .none, _, _ => by decide
  | .bool b, _, _ => by cases b <;> decide
  | .int i, _, h => int_text_len_1921 (of_decide_eq_true h)
  | .str z, h, _ => StrLaws.reprText_len z (low_16 (Bool.and_eq_true_iff.mp h).1)
  | .list ds, h, g => by
    have a := shownAll_le ds (Bool.and_eq_true_iff.mp h).2 g
    have b := listText_le (PyData.shownAll ds)
    show (listText (PyData.shownAll ds)).length ≤ wtAll ds + 3
    omega
  | .tuple ds, h, g => by
    have a := shownAll_le ds (Bool.and_eq_true_iff.mp h).2 g
    have b := tupleText_le (PyData.shownAll ds)
    show (tupleText (PyData.shownAll ds)).length ≤ wtAll ds + 3
    omega
  | .dict _, h, _ => nomatch h
theorem shownAll_le : ∀ ds : List PyData, okAll ds = true → PyData.showableAll ds = true → piled (PyData.shownAll ds) ≤ wtAll ds
  | [], _, _ => Nat.le_refl _
  | d :: r, h, g => by
    obtain ⟨h1, h2⟩ := Bool.and_eq_true_iff.mp (show (okD d && okAll r) = true from h)
    obtain ⟨g1, g2⟩ := Bool.and_eq_true_iff.mp (show (d.showable && PyData.showableAll r) = true from g)
    have a := shown_le d h1 g1
    have b := shownAll_le r h2 g2
    show piled (d.shown :: PyData.shownAll r) ≤ wtD d + 2 + wtAll r
    rw [piled_cons]
    omega
end
mutual
theorem nd_wt : ∀ d : PyData, okD d = true → ndD d ≤ wtD d
  | .none, _ => by decide
  | .bool _, _ => by
    show 1 ≤ 5
    decide
  | .int _, _ => by
    show 1 ≤ 1921
    decide
  | .str z, _ => by
    show 1 ≤ 10 * z.length + 2
    omega
  | .list ds, h => by
    have a := ndAll_wt ds (Bool.and_eq_true_iff.mp h).2
    show ndAll ds + 1 ≤ wtAll ds + 3
    omega
  | .tuple ds, h => by
    have a := ndAll_wt ds (Bool.and_eq_true_iff.mp h).2
    show ndAll ds + 1 ≤ wtAll ds + 3
    omega
  | .dict _, h => nomatch h
theorem ndAll_wt : ∀ ds : List PyData, okAll ds = true → ndAll ds ≤ wtAll ds
  | [], _ => Nat.le_refl _
  | d :: r, h => by
    obtain ⟨h1, h2⟩ := Bool.and_eq_true_iff.mp (show (okD d && okAll r) = true from h)
    have a := nd_wt d h1
    have b := ndAll_wt r h2
    show ndD d + ndAll r ≤ wtD d + 2 + wtAll r
    omega
end
theorem wtAll_app : ∀ a b : List PyData, wtAll (a ++ b) = wtAll a + wtAll b
  | [], b => (Nat.zero_add _).symm
  | d :: r, b => by
    show wtD d + 2 + wtAll (r ++ b) = wtD d + 2 + wtAll r + wtAll b
    rw [wtAll_app r b]
    omega
theorem wtAll_take (ds : List PyData) (n : Nat) : wtAll (ds.take n) ≤ wtAll ds := by
  have q := wtAll_app (ds.take n) (ds.drop n)
  rw [List.take_append_drop] at q
  omega
theorem wtAll_drop (ds : List PyData) (n : Nat) : wtAll (ds.drop n) ≤ wtAll ds := by
  have q := wtAll_app (ds.take n) (ds.drop n)
  rw [List.take_append_drop] at q
  omega
theorem wtAll_rev : ∀ ds : List PyData, wtAll ds.reverse = wtAll ds
  | [] => rfl
  | d :: r => by
    rw [List.reverse_cons, wtAll_app, wtAll_rev r]
    show wtAll r + (wtD d + 2 + 0) = wtD d + 2 + wtAll r
    omega
theorem showAll_of : ∀ {ds : List PyData}, (∀ d ∈ ds, d.showable = true) → PyData.showableAll ds = true
  | [], _ => rfl
  | d :: r, h => by
    show (d.showable && PyData.showableAll r) = true
    rw [h d (List.mem_cons_self ..), showAll_of fun x hx => h x (List.mem_cons_of_mem _ hx)]
    rfl
theorem showAll_mem : ∀ {ds : List PyData}, PyData.showableAll ds = true → ∀ d ∈ ds, d.showable = true
  | [], _, d, h => nomatch h
  | x :: r, e, d, h => by
    obtain ⟨e1, e2⟩ := Bool.and_eq_true_iff.mp (show (x.showable && PyData.showableAll r) = true from e)
    rcases List.mem_cons.mp h with q | q
    · rw [q]
      exact e1
    · exact showAll_mem e2 d q
/-- what comes out of the law's helpers: at most m long, at most k deep -/
structure Out (m k : Nat) (d : PyData) : Prop where
  ok : okD d = true
  sh : d.showable = true
  wt : wtD d ≤ m
  dp : d.depth ≤ k
theorem Out.mono {m m' k k' : Nat} {d : PyData} (h : Out m k d) (a : m ≤ m') (b : k ≤ k') : Out m' k' d := ⟨h.ok, h.sh, Nat.le_trans h.wt a, Nat.le_trans h.dp b⟩
theorem Out.fit {m k : Nat} {d : PyData} (h : Out m k d) (b : k ≤ 60) : Fit d := ⟨h.ok, Nat.le_trans h.dp b⟩
theorem out_tup {ds : List PyData} {m k : Nat} (n : ds.length ≤ 1000) (h : ∀ d ∈ ds, okD d = true ∧ d.showable = true ∧ d.depth ≤ k) (w : wtAll ds + 3 ≤ m) : Out m (k + 1) (.tuple ds) ∧ Out m (k + 1) (.list ds) := by
  have a := okAll_of fun d hd => (h d hd).1
  have b := showAll_of fun d hd => (h d hd).2.1
  have c := depAll_le fun d hd => (h d hd).2.2
  have o : (decide (ds.length ≤ 1000) && okAll ds) = true := by
    rw [decide_eq_true n, a]
    rfl
  exact ⟨⟨o, b, w, Nat.succ_le_succ c⟩, ⟨o, b, w, Nat.succ_le_succ c⟩⟩
theorem any_out : ∀ d ∈ anyA ++ anyB, Out 4000 3 d := by
  have a : ∀ d ∈ anyA ++ anyB, okD d = true ∧ d.showable = true ∧ wtD d ≤ 4000 ∧ d.depth ≤ 3 := by decide +kernel
  exact fun d hd => ⟨(a d hd).1, (a d hd).2.1, (a d hd).2.2.1, (a d hd).2.2.2⟩
/-- parts of trees -/
def PlD : Nat → PyData → Prop
  | _, .str z => (∀ c ∈ z.cps.toList, 97 ≤ c ∧ c ≤ 122) ∧ z.length ≤ 8
  | _, .int i => 0 ≤ i ∧ i < 9
  | n + 1, .tuple ds => ds.length ≤ 4 ∧ ∀ d ∈ ds, PlD n d
  | _, _ => False
end K1

namespace K1
open PySem PySem.Spec PyProof.Rows L2 Own
/-! ### tuples cut and joined -/
def rCatW (K : PySem.W.Frag) : R2 := fun x y H Q => ∃ a b xs ys, x = .ref a ∧ y = .ref b ∧ SqT K H a xs ∧ SqT K H b ys ∧ xs.length + ys.length ≤ 1000 ∧ ∀ p H', Same H H' → SqT K H' p (xs ++ ys) → Q (.ref p) H'
def rSlW (K : PySem.W.Frag) : V → Option Int → Option Int → Hp → VK → Prop := fun x lo hi H Q => ∃ a xs, x = .ref a ∧ SqT K H a xs ∧ ∀ p H', Same H H' → SqT K H' p (cutV xs lo hi) → Q (.ref p) H'
section
variable {X : Cx}
theorem op_catW : OpR X (binaryOp .Add) (rCatW X.K) := by
  intro pins s σ H x y v u Q I rx ry h
  obtain ⟨a, b, xs, ys, ex, ey, ha, hb, hz, q⟩ := h
  refine op_catA pins s σ H x y v u Q I rx ry ⟨a, b, xs, ys, ex, ey, ha, hb, by rw [sizeLine_eq]; omega, fun e => ?_, fun _ e => ?_, fun _ _ p np => q p _ (same_upd np) (SqT.of upd_same)⟩
  · subst e
    exact q b H (Same.refl H) hb
  · subst e
    exact q a H (Same.refl H) (by rw [List.append_nil]; exact ha)
theorem sl_tupW : SlR X (rSlW X.K) := by
  intro pins s σ H x v vl vu lo hi sl Q I rx hs pl pu h
  obtain ⟨a, xs, ex, ha, q⟩ := h
  refine sl_tupA pins s σ H x v vl vu lo hi sl Q I rx hs pl pu ⟨a, xs, ex, ha, fun e => ?_, fun _ p np => q p _ (same_upd np) (SqT.of upd_same)⟩
  refine q a H (Same.refl H) ?_
  have c : cutV xs lo hi = xs := by
    unfold cutV
    rw [e.1, e.2, List.drop_zero, Nat.sub_zero, List.take_length]
  rw [c]
  exact ha
end
theorem cut_to (xs : List V) (k : Nat) (h : k ≤ xs.length) : cutV xs none (some ((k : Nat) : Int)) = xs.take k := cutV_lo xs k h
theorem cut_from (xs : List V) (k : Nat) (h : k ≤ xs.length) : cutV xs (some ((k : Nat) : Int)) none = xs.drop k := by
  unfold cutV
  rw [HT.sIx_none, HT.sIx_nat, Nat.min_eq_left h, List.take_of_length_le]
  rw [List.length_drop]
  exact Nat.le_refl _
end K1

namespace Own
open PySem PySem.Spec PyProof.Rows L2
/-! defs with keyword-only defaults, where it is known that no repr is under way -/
section
variable {X : Cx} {k n : Nat} {f : Addr} {fd : FuncData} {ps ks : List Str} {sp : Sp} {ds : List Value} {dvs : List V} {E : XK} {x : Str} {p pos : Pos} {e : Expr} {es : List Expr} {t tk : TA} {kws : List Keyword} {g : List Value → List Value → List Value} {gV : List V → List V → List V}
theorem run_gA {pins : List (Addr × Obj)} {σ : L2.St} {H : Hp} {s : Shared} {Q : VK} {us us0 : List Value} {kw : List (Str × Value)} {vs : List V} (F : FnG X.prog X.w X.K X.mg X.base k f fd ps sp) (hc : Calm X.A) (hr : Room k X.A) (b : BindsTo s fd ⟨us0, kw⟩ (ps.zip us)) (I : Inv X pins σ H s) (r : Vals vs us) (h : sp vs H Q E) :
    wpAny (model X.prog X.w) X.A (call (.ref f) us0 kw) (EP X pins σ Q) X.xe s := by
  refine wpAny_call (codeAny_mono (F.run X.A X.stack s H ⟨us0, kw⟩ us vs Q E hc hr I.env0 b r h) fun z s' hz => ?_)
  match z, hz with
  | .error _, hz => exact hz.elim
  | .ok (.ret _), hz => exact I.after hz
  | .ok .next, hz => exact hz.elim
  | .ok .brk, hz => exact hz.elim
  | .ok .cont, hz => exact hz.elim
/-- f(e, ..), the defaults fill up -/
theorem pe_callGD (F : FnG X.prog X.w X.K X.mg X.base k f fd ps sp) (hc : Calm X.A) (hr : Room k X.A) (hg : Gl X x) (hm : X.mg x = some (.ref f)) (hk : PySem.W.keepIn X.K (.ref f) = true) (hb : Binds X.K fd ps ds) (hd : Vals dvs ds) (ha : PA X (e :: es) t)
    (hdb : (x == ("__debug__" : Str)) = false := by decide) (hst : starEach (e :: es) X.env = (false, eval e X.env) :: starEach es X.env := by rfl) (hno : (backTo pos (starEach es X.env)).any (·.1) = false := by rfl) :
    PE X (.Call (.Name x p) (e :: es) [] pos) (tCall sp dvs E t) := by
  refine ⟨fun pins s σ H Q I q => wpAny_Call_Name_kw (ld_glob I hg hm (PySem.W.callWith_K (h₀ := X.base) I.ok.mod.kin hk (thn (ha.run pos pins s σ H _ I q) fun us s1 hq => ?_) hst hno) hdb)⟩
  obtain ⟨vs, H1, I1, r1, q1⟩ := hq
  have r2 : Vals (vs ++ dvs) (us ++ ds) := r1.append hd
  have hl : (us ++ ds).length = ps.length := by rw [← r2.length]; exact F.len _ _ _ _ q1
  exact ⟨I1.kIn, run_gA F hc hr (hb s1 us I1.kIn hl) I1 r2 q1⟩
/-- f(k = v, ..), no value by place -/
theorem pe_callKG (F : FnG X.prog X.w X.K X.mg X.base k f fd ps sp) (hc : Calm X.A) (hr : Room k X.A) (hg : Gl X x) (hm : X.mg x = some (.ref f)) (hk : PySem.W.keepIn X.K (.ref f) = true) (hb : KBn X.K fd ps 0 ks g gV) (hkw : PK X kws tk)
    (hal : (backToKw pos (keywordEach kws X.env)).all (·.1.isSome) = true := by rfl) (hks : (backToKw pos (keywordEach kws X.env)).filterMap (·.1) = ks := by rfl) (hdb : (x == ("__debug__" : Str)) = false := by decide)
    (hno : ((backTo pos (starEach [] X.env)).any (·.1) || (backToKw pos (keywordEach kws X.env)).any (·.1.isNone)) = false := by rfl) : PE X (.Call (.Name x p) [] kws pos) (tCallK ks.length sp (gV []) E tk) := by
  refine ⟨fun pins s σ H Q I h => wpAny_Call_Name_kw (ld_glob I hg hm ?_ hdb)⟩
  refine PySem.W.callWith_KW0 (h₀ := X.base) (first := []) I.ok.mod.kin hk hal (thn (hkw.run pos pins s σ H _ I h) fun ws s2 hw => ?_) hno
  obtain ⟨zs, H2, I2, rz, l, q⟩ := hw
  refine ⟨I2.kIn, ?_⟩
  rw [hks]
  exact run_gA F hc hr (hb.to s2 [] ws I2.kIn rfl (rz.length.symm.trans l)) I2 (hb.rel .nil rz) q
end
section
variable {K : PySem.W.Frag} {x qual : Str} {st : Stmt} {dvs : List V} {kws : List (Str × V)} {f : Addr} {fd : FuncData} {ps : List Str}
/-- a def with defaults: its promise by its body -/
theorem okGD {P : Program} {w : World} {mg : Str → Option Value} {base : Heap} {N : List Str} {k : Nat} {sp : Sp} (F : FunD K x qual (defArgs st) (defBody st) (defScope st) dvs kws f fd) (S : FnScope N ps (defScope st)) (len : ∀ vs H Q E, sp vs H Q E → vs.length = ps.length)
    (hbody : ∀ (cdv : Value) (A : Around) (out : List Env) (s : Shared) (H : Hp) (vs : List V) (Q : VK) (E : XK), Calm (A.deeper (envOfC qual (defScope st) s.heap.objs.size f cdv)) → Room k (A.deeper (envOfC qual (defScope st) s.heap.objs.size f cdv)) → sp vs H Q E →
      ∃ t, PSs (cxOf CX0 P w K mg base N qual (defScope st) f cdv A out s H E).nox (defBody st) t ∧ t { nx := fun _ H' => Q .non H', rt := Q } (start N vs) H) : FnG P w K mg base (k + 1) f fd ps sp := by
  obtain ⟨oc, od, dV, kV, doc, pm, an, cdv, ct, osl, rfl, lk, hcd, _, _⟩ := F.ex
  refine ⟨len, fun A out s H args us vs Q E hc hr e0 hb r h => ?_⟩
  have kin := e0.mod.kin.keeps fun b o q => (e0.bs b o q).1
  have nolim := e0.mod.nolimit.keeps fun b o q => (e0.bs b o q).1
  have names : ∀ y ∈ ps.zip us, (defScope st).names.lookup y.1 = some .local ∨ ((defScope st).names.lookup y.1 = some .cell ∧ ((cellsFrom (s.heap.objs.size + 1) (defScope st).names []).lookup y.1).isSome = true) := fun y hy =>
    (S.par y.1 (List.of_mem_zip (a := y.1) (b := y.2) hy).1).imp id fun q => ⟨q, PySem.W.cellsFrom_some _ _ _ (.inl q)⟩
  refine codeAny_call_function hr.depth (kin _ _ lk) rfl S.co S.gen rfl (PySem.W.codeRec_of kin hcd) (hb _ _ _ _ (wpAny_newFunctionEnv_cells S.kind names fun env he s1 c => ?_))
  subst he
  obtain ⟨t, ht, q⟩ := hbody cdv A out s H vs Q E (hc.deeper _) (hr.deeper _) h
  refine ⟨nolim.keeps c.toInCall.keep, codeAny_func (wpAny_mono (ht.nox.run [] s1 (start N vs) H _ (inv_start S hr.hd e0 (len _ _ _ _ h) r c) q) (fun fl s' z => ?_) fun _ _ z => z)⟩
  match fl, z with
  | .ret u, ⟨v, σ', H', J, rv, q⟩ => exact ⟨v, H', J.os, J.bare, J.base, J.hok, rv, q⟩
  | .next, ⟨σ', H', J, q⟩ => exact ⟨V.non, H', J.os, J.bare, J.base, J.hok, rfl, q⟩
  | .brk, ⟨_, _, _, q⟩ => exact q.elim
  | .cont, ⟨_, _, _, q⟩ => exact q.elim
variable {params : Arguments} {body : List Stmt} {scope : Scope}
/-- f(k = v, ..): keyword-only defaults, no others; ms lack -/
theorem kbinds0 (F : FunD K x qual params body scope [] kws f fd) (n : Nat) (ks : List Str) (ms : List (Str × V)) (g : {α : Type} → List α → List α → List α → List α) (hk : kws ≠ []) (hms : ∀ q ∈ ms, q ∈ kws)
    (hrel : ∀ {vs mz zs : List V} {us mv ws : List Value}, Vals vs us → Vals mz mv → Vals zs ws → Vals (g vs mz zs) (g us mv ws))
    (h : ∀ (D : Addr) (doc pm : Value) (an : Option Addr) (cdv ct : Value) (us mv ws : List Value), us.length = n → mv.length = ms.length → ws.length = ks.length →
      KwChain D ((ms.map (·.1)).zip mv) (bindArgs (PySem.W.fnOf x qual params body scope .none (.ref D) doc pm an cdv ct) ⟨us, ks.zip ws⟩) (ps.zip (g us mv ws))) :
    ∃ mv : List Value, KBn K fd ps n ks (fun us ws => g us mv ws) (fun vs zs => g vs (ms.map (·.2)) zs) := by
  obtain ⟨oc, od, dV, kV, doc, pm, an, cdv, ct, osl, rfl, lk, hcd, hD, hK⟩ := F.ex
  rcases hD with ⟨_, rfl⟩ | ⟨e, _⟩
  · rcases hK with e | ⟨D, rfl, hq⟩
    · exact absurd e hk
    · obtain ⟨mv, hl, rk, hks⟩ := kwd_vals (ms := ms) fun q hm => hq q (hms q hm)
      refine ⟨mv, ⟨fun s us ws X l1 l2 => ?_, fun r1 r2 => hrel r1 rk r2⟩⟩
      exact BindsTo.of_looks fun M => KwChain.looks X hks (h D doc pm an cdv ct us mv ws l1 hl l2)
  · exact absurd rfl e
end
end Own

namespace K1
open PySem PySem.Spec PyProof.Rows L2 Own
/-! ### a generator's def called by names -/
def yCallK (n : Nat) (sp : SpY) (gV : List V → List V) (tk : TA) : TGI := fun σ H R => tk σ H fun zs H1 => zs.length = n ∧ ∃ J, sp (gV zs) H1 J ∧ R J H1
section
variable {X : Cx} {pre : Around → Prop} {k : Nat} {f : Addr} {fd : FuncData} {ps ks : List Str} {sp : SpY} {x : Str} {p pos : Pos}
theorem py_callK {kws : List Keyword} {g : List Value → List Value → List Value} {gV : List V → List V → List V} {tk : TA} (F : GFn2 X.prog X.w X.K X.mg X.base pre k f fd ps sp) (hr : X.A.depth < recursionLimit) (hg : Gl X x) (hm : X.mg x = some (.ref f)) (hk : PySem.W.keepIn X.K (.ref f) = true) (hb : KBn X.K fd ps 0 ks g gV) (hkw : PK X kws tk)
    (hal : (backToKw pos (keywordEach kws X.env)).all (·.1.isSome) = true := by rfl) (hks : (backToKw pos (keywordEach kws X.env)).filterMap (·.1) = ks := by rfl) (hdb : (x == ("__debug__" : Str)) = false := by decide)
    (hno : ((backTo pos (starEach [] X.env)).any (·.1) || (backToKw pos (keywordEach kws X.env)).any (·.1.isNone)) = false := by rfl) : PY X pre k (.Call (.Name x p) [] kws pos) (yCallK ks.length sp (gV []) tk) := by
  refine ⟨fun pins s σ H R I h => wpAny_Call_Name_kw (ld_glob I hg hm ?_ hdb)⟩
  refine PySem.W.callWith_KW0 (h₀ := X.base) (first := []) I.ok.mod.kin hk hal (thn (hkw.run pos pins s σ H _ I h) fun ws s2 hw => ?_) hno
  obtain ⟨zs, H2, I2, rz, l, J, q, hR⟩ := hw
  refine ⟨I2.kIn, ?_⟩
  rw [hks]
  refine wpAny_call (codeAny_mono (F.run X.A X.stack s2 H2 _ (g [] ws) (gV [] zs) J hr I2.env0 (hb.to s2 [] ws I2.kIn rfl (rz.length.symm.trans l)) (hb.rel .nil rz) q) fun z s' hz => ?_)
  match z, hz with
  | .error _, hz => exact hz.elim
  | .ok (.ret u), hz => exact ⟨H2, s2, J, I2, hz, hR⟩
  | .ok .next, hz => exact hz.elim
  | .ok .brk, hz => exact hz.elim
  | .ok .cont, hz => exact hz.elim
end
end K1

namespace K1
open PySem PySem.Spec PyProof.Rows L2 RZ
open PySem.Sem (wp)
/-! ### zip of a tuple and a list -/
/-- an iterator over a sequence, step by step -/
structure Nxt (P : Program) (w : World) (A : Around) (it l : Addr) (St : Nat → Heap → Prop) (items : Array Value) : Prop where
  item : ∀ {E : Value → Shared → Prop} {Q : Value → Shared → Prop} {s : Shared} {k : Nat} {x : Value}, St k s.heap → items[k]? = some x → (∀ h', St (k + 1) h' → Heap.SameBut it s.heap h' → Q x { s with heap := h' }) → wpAny (model P w) A (Builtin.SmallTypes.nextOf (.ref it)) Q E s
  stop : ∀ {E : Value → Shared → Prop} {Q : Value → Shared → Prop} {s : Shared} {k : Nat}, St k s.heap → items[k]? = none → (∀ h' e, Heap.ExtBut it s.heap h' → (∃ o, h'.get? e = some o ∧ o.cls = .type "StopIteration") → E (.ref e) { s with heap := h' }) → wpAny (model P w) A (Builtin.SmallTypes.nextOf (.ref it)) Q E s
  keep : ∀ {k : Nat} {h h' : Heap}, St k h → (∀ o, h.get? it = some o → h'.get? it = some o) → (∀ o, h.get? l = some o → h'.get? l = some o) → St k h'
theorem isTup_at {h h' : Heap} {l : Addr} {items : Array Value} (x : h.IsTuple l items) (e : ∀ o, h.get? l = some o → h'.get? l = some o) : h'.IsTuple l items := let ⟨o, ho, r⟩ := x; ⟨o, e _ ho, r⟩
section
variable {P : Program} {w : World} {A : Around} {it l : Addr} {items : Array Value}
theorem nxt_tup (hh : A.handled = none) (ne : it ≠ l) : Nxt P w A it l (fun k h => h.IsTupleIter it l k ∧ h.IsTuple l items) items where
  item := fun ⟨h1, h2⟩ hx hQ => nextOf_tuple_item h1 h2 hx fun h' g1 sb => hQ h' ⟨g1, isTup_at h2 fun o e => (sb.2 l ne.symm).trans e⟩ sb
  stop := fun ⟨h1, h2⟩ hx hE => nextOf_tuple_end hh h1 h2 hx hE
  keep := fun ⟨h1, h2⟩ k1 k2 => ⟨h1.at k1, isTup_at h2 k2⟩
theorem nxt_lst (hh : A.handled = none) (ne : it ≠ l) : Nxt P w A it l (fun k h => h.IsListIter it l k ∧ h.IsList l items) items where
  item := fun ⟨h1, h2⟩ hx hQ => wpAny_nextOf_list_item h1 h2 hx fun h' g1 sb => hQ h' ⟨g1, h2.at fun o e => (sb.2 l ne.symm).trans e⟩ sb
  stop := fun ⟨h1, h2⟩ hx hE => wpAny_nextOf_list_end hh h1 h2 hx hE
  keep := fun ⟨h1, h2⟩ k1 k2 => ⟨h1.at k1, h2.at k2⟩
end
section
variable {P : Program} {w : World} {A : Around} {E : Value → Shared → Prop} {s : Shared} {z TI TO i1 i2 l1 l2 : Addr} {S1 S2 : Nat → Heap → Prop} {xs ys : Array Value} {k1 k2 : Nat} {a b : Value}
theorem zipN_item {x y : Value} {Q : Value → Shared → Prop} (D : ZipApart z TI TO i1 i2 l1 l2) (N1 : Nxt P w A i1 l1 S1 xs) (N2 : Nxt P w A i2 l2 S2 ys)
    (hz : IsZip s.heap z TI TO .none) (hTI : IsPair s.heap TI (.ref i1) (.ref i2)) (hTO : IsPair s.heap TO a b) (h1 : S1 k1 s.heap) (h2 : S2 k2 s.heap) (hx : xs[k1]? = some x) (hy : ys[k2]? = some y)
    (hQ : ∀ h', IsZip h' z TI TO (rawInt s.heap.objs.size) → IsPair h' TO x y → S1 (k1 + 1) h' → S2 (k2 + 1) h' → IsPair h' s.heap.objs.size x y →
      (∀ c o, c ≠ z → c ≠ TO → c ≠ i1 → c ≠ i2 → s.heap.get? c = some o → h'.get? c = some o) → Q (.ref s.heap.objs.size) { s with heap := h' }) :
    wpAny (model P w) A (Builtin.«zip.__next__» ⟨[.ref z], []⟩) (fun fin s' => ∃ v, fin = .done (.ret v) ∧ Q v s') E s := by
  show wpAny _ _ (field (.ref z) 2 >>= _) _ _ _
  refine wpAny_bind (wpAny_field hz rfl (x := .bool false) rfl ?_)
  show wpAny _ _ (field (.ref z) 3 >>= _) _ _ _
  refine wpAny_bind (wpAny_field hz rfl (x := .ref TI) rfl (wpAny_bind (wpAny_seqItems hTI rfl ?_)))
  show wpAny _ _ (Builtin.SmallTypes.ownedTupleIsFree (.ref z) >>= _) _ _ _
  unfold Builtin.SmallTypes.ownedTupleIsFree
  refine wpAny_bind (wpAny_bind (wpAny_field hz rfl (x := .none) rfl (wpAny_pure ?_)))
  simp only [if_true]
  refine wpAny_bind (wpAny_rule (wpAny_bind (wpAny_field hz rfl (x := .ref TO) rfl (wpAny_bind (wpAny_setField_rec hz (by simp) fun ha hza sa => ?_)))))
  replace hza : IsZip ha z TI TO .ellipsis := hza
  refine wpAny_bind ?_
  simp only [List.zipIdx_cons, List.zipIdx_nil, List.forIn_cons, List.forIn_nil]
  -- the first
  refine wpAny_bind (wpAny_bind (wpAny_onRaise ?_))
  show wpAny _ _ (Builtin.SmallTypes.nextOf (.ref i1) >>= _) _ _ _
  have ka : ∀ c, c ≠ z → ∀ o, s.heap.get? c = some o → ha.get? c = some o := fun c hc o e => sa.extBut _ _ hc e
  refine wpAny_bind (N1.item (N1.keep h1 (ka _ D.i1z) (ka _ D.l1z)) hx fun hb n1 sb => wpAny_pure ?_)
  have kb : ∀ c, c ≠ z → c ≠ i1 → ∀ o, s.heap.get? c = some o → hb.get? c = some o := fun c hc hd o e => sb.extBut _ _ hd (ka c hc o e)
  have hTOb : IsPair hb TO a b := kb _ D.TOz D.TOi1 _ hTO
  refine wpAny_bind (wpAny_seqItems hTOb rfl (wpAny_bind (wpAny_updateSeq_pair hTOb fun hc hTOc sc => ?_)))
  replace hTOc : IsPair hc TO x b := hTOc
  refine wpAny_bind (wpAny_letGo (wpAny_pure ?_))
  -- the second
  refine wpAny_bind (wpAny_bind (wpAny_onRaise ?_))
  show wpAny _ _ (Builtin.SmallTypes.nextOf (.ref i2) >>= _) _ _ _
  have kc : ∀ c, c ≠ z → c ≠ i1 → c ≠ TO → ∀ o, s.heap.get? c = some o → hc.get? c = some o := fun c u v q o e => sc.extBut _ _ q (kb c u v o e)
  refine wpAny_bind (N2.item (N2.keep h2 (kc _ D.i2z D.i12.symm D.TOi2.symm) (kc _ D.l2z D.l2i1 D.l2TO)) hy fun hd n2 sd => wpAny_pure ?_)
  have hTOd : IsPair hd TO x b := sd.extBut _ _ D.TOi2 hTOc
  refine wpAny_bind (wpAny_seqItems hTOd rfl (wpAny_bind (wpAny_updateSeq_pair hTOd fun he hTOe se => ?_)))
  replace hTOe : IsPair he TO x y := hTOe
  refine wpAny_bind (wpAny_letGo (wpAny_pure (wpAny_pure ?_)))
  refine wpAny_bind (wpAny_seqItems hTOe rfl (wpAny_bind (wpAny_newTuple ?_)))
  have hsz : he.objs.size = s.heap.objs.size := by rw [se.1, sd.1, sc.1, sb.1, sa.1]
  have ke : ∀ c o, c ≠ z → c ≠ TO → c ≠ i1 → c ≠ i2 → s.heap.get? c = some o → he.get? c = some o := fun c o u v p q e => se.extBut _ _ v (sd.extBut _ _ q (kc c u p v o e))
  have hze : IsZip he z TI TO .ellipsis := se.extBut _ _ D.TOz.symm (sd.extBut _ _ D.i2z.symm (sc.extBut _ _ D.TOz.symm (sb.extBut _ _ D.i1z.symm hza)))
  have n1e : S1 (k1 + 1) he := N1.keep n1 (fun o e => se.extBut _ _ D.TOi1.symm (sd.extBut _ _ D.i12 (sc.extBut _ _ D.TOi1.symm e))) fun o e => se.extBut _ _ D.l1TO (sd.extBut _ _ D.l1i2 (sc.extBut _ _ D.l1TO e))
  have n2e : S2 (k2 + 1) he := N2.keep n2 (fun o e => se.extBut _ _ D.TOi2.symm e) fun o e => se.extBut _ _ D.l2TO e
  have zlt : z < he.objs.size := Heap.lt_size hze
  show wpAny _ _ (Builtin.SmallTypes.ownedTupleHandOut (.ref z) (.ref he.objs.size) >>= _) _ _ _
  unfold Builtin.SmallTypes.ownedTupleHandOut
  have hzp : IsZip (he.push { cls := .type "tuple", data := .seq #[x, y] }) z TI TO .ellipsis := Heap.get?_push_of_some _ hze
  refine wpAny_bind (wpAny_bind (wpAny_setField_rec hzp (by simp) fun hf hzf sf => ?_))
  replace hzf : IsZip hf z TI TO (rawInt he.objs.size) := hzf
  refine wpAny_setField_rec hzf (by simp) fun hg hzg sg => ?_
  replace hzg : IsZip hg z TI TO (rawInt he.objs.size) := hzg
  have up : ∀ c o, c ≠ z → he.get? c = some o → hg.get? c = some o := fun c o hc e => sg.extBut _ _ hc (sf.extBut _ _ hc (Heap.get?_push_of_some _ e))
  have new : IsPair hg he.objs.size x y := sg.extBut _ _ (Nat.ne_of_gt zlt) (sf.extBut _ _ (Nat.ne_of_gt zlt) (Heap.get?_push_size _ rfl))
  rw [hsz] at hzg new
  refine wpAny_pure ⟨_, rfl, ?_⟩
  show Q (.ref he.objs.size) _
  rw [hsz]
  exact hQ hg hzg (up _ _ D.TOz hTOe) (N1.keep n1e (fun o e => up _ o D.i1z e) fun o e => up _ o D.l1z e) (N2.keep n2e (fun o e => up _ o D.i2z e) fun o e => up _ o D.l2z e) new fun c o u v p q e => up c o u (ke c o u v p q e)
theorem zipN_stop {Q : Fin → Shared → Prop} (D : ZipApart z TI TO i1 i2 l1 l2) (N1 : Nxt P w A i1 l1 S1 xs) (N2 : Nxt P w A i2 l2 S2 ys)
    (hz : IsZip s.heap z TI TO .none) (hTI : IsPair s.heap TI (.ref i1) (.ref i2)) (hTO : IsPair s.heap TO a b) (h1 : S1 k1 s.heap) (h2 : S2 k2 s.heap) (hend : xs[k1]? = none ∨ ys[k2]? = none)
    (hE : ∀ h' e, (∀ c o, c ≠ z → c ≠ TO → c ≠ i1 → c ≠ i2 → s.heap.get? c = some o → h'.get? c = some o) → (∃ o, h'.get? e = some o ∧ o.cls = .type "StopIteration") → E (.ref e) { s with heap := h' }) :
    wpAny (model P w) A (Builtin.«zip.__next__» ⟨[.ref z], []⟩) Q E s := by
  show wpAny _ _ (field (.ref z) 2 >>= _) _ _ _
  refine wpAny_bind (wpAny_field hz rfl (x := .bool false) rfl ?_)
  show wpAny _ _ (field (.ref z) 3 >>= _) _ _ _
  refine wpAny_bind (wpAny_field hz rfl (x := .ref TI) rfl (wpAny_bind (wpAny_seqItems hTI rfl ?_)))
  show wpAny _ _ (Builtin.SmallTypes.ownedTupleIsFree (.ref z) >>= _) _ _ _
  unfold Builtin.SmallTypes.ownedTupleIsFree
  refine wpAny_bind (wpAny_bind (wpAny_field hz rfl (x := .none) rfl (wpAny_pure ?_)))
  simp only [if_true]
  refine wpAny_bind (wpAny_rule (wpAny_bind (wpAny_field hz rfl (x := .ref TO) rfl (wpAny_bind (wpAny_setField_rec hz (by simp) fun ha hza sa => ?_)))))
  replace hza : IsZip ha z TI TO .ellipsis := hza
  refine wpAny_bind ?_
  simp only [List.zipIdx_cons, List.zipIdx_nil, List.forIn_cons, List.forIn_nil]
  refine wpAny_bind (wpAny_bind (wpAny_onRaise ?_))
  show wpAny _ _ (Builtin.SmallTypes.nextOf (.ref i1) >>= _) _ _ _
  have ka : ∀ c, c ≠ z → ∀ o, s.heap.get? c = some o → ha.get? c = some o := fun c hc o e => sa.extBut _ _ hc e
  have g1 := N1.keep h1 (ka _ D.i1z) (ka _ D.l1z)
  cases hx : xs[k1]? with
  | none =>
    refine wpAny_bind (N1.stop g1 hx fun hb e xb ⟨oe, hoe, hce⟩ => ?_)
    have hzb : IsZip hb z TI TO .ellipsis := xb _ _ D.i1z.symm hza
    have ez : e ≠ z := fun q => by
      rw [q, hzb] at hoe
      cases hoe
      simp at hce
    refine wpAny_setField_rec hzb (by simp) fun hc _ sc => hE hc e (fun c o u _ p _ q => sc.extBut _ _ u (xb _ _ p (ka c u o q))) ⟨oe, sc.extBut _ _ ez hoe, hce⟩
  | some x =>
    have hy : ys[k2]? = none := hend.elim (fun q => by rw [hx] at q; cases q) id
    refine wpAny_bind (N1.item g1 hx fun hb n1 sb => wpAny_pure ?_)
    have kb : ∀ c, c ≠ z → c ≠ i1 → ∀ o, s.heap.get? c = some o → hb.get? c = some o := fun c hc hd o e => sb.extBut _ _ hd (ka c hc o e)
    have hTOb : IsPair hb TO a b := kb _ D.TOz D.TOi1 _ hTO
    refine wpAny_bind (wpAny_seqItems hTOb rfl (wpAny_bind (wpAny_updateSeq_pair hTOb fun hc hTOc sc => ?_)))
    refine wpAny_bind (wpAny_letGo (wpAny_pure (wpAny_bind (wpAny_bind (wpAny_onRaise ?_)))))
    show wpAny _ _ (Builtin.SmallTypes.nextOf (.ref i2) >>= _) _ _ _
    have kc : ∀ c, c ≠ z → c ≠ i1 → c ≠ TO → ∀ o, s.heap.get? c = some o → hc.get? c = some o := fun c u v q o e => sc.extBut _ _ q (kb c u v o e)
    refine wpAny_bind (N2.stop (N2.keep h2 (kc _ D.i2z D.i12.symm D.TOi2.symm) (kc _ D.l2z D.l2i1 D.l2TO)) hy fun hd e xd ⟨oe, hoe, hce⟩ => ?_)
    have hzd : IsZip hd z TI TO .ellipsis := xd _ _ D.i2z.symm (sc.extBut _ _ D.TOz.symm (sb.extBut _ _ D.i1z.symm hza))
    have ez : e ≠ z := fun q => by
      rw [q, hzd] at hoe
      cases hoe
      simp at hce
    refine wpAny_setField_rec hzd (by simp) fun hf _ sf => hE hf e (fun c o u v p q r => sf.extBut _ _ u (xd _ _ q (kc c u p v o r))) ⟨oe, sf.extBut _ _ ez hoe, hce⟩
end
end K1

namespace K1
open PySem PySem.Spec PyProof.Rows L2 RZ
open PySem.Sem (wp)
/-! ### a loop over zip of a tuple and a list -/
abbrev mz1 (h : Heap) (l1 : Addr) : Heap := h.push { cls := .type "tuple_iterator", data := .fields #[.ref l1, .int 0 0] }
abbrev mz2 (h : Heap) (l1 l2 : Addr) : Heap := (mz1 h l1).push { cls := .type "list_iterator", data := .fields #[.ref l2, .int 0 0] }
abbrev mz3 (h : Heap) (l1 l2 : Addr) : Heap := (mz2 h l1 l2).push { cls := .type "tuple", data := .seq #[.ref h.objs.size, .ref (mz1 h l1).objs.size] }
abbrev mz4 (h : Heap) (l1 l2 : Addr) : Heap := (mz3 h l1 l2).push { cls := .type "tuple", data := .seq #[.none, .none] }
abbrev mz5 (h : Heap) (l1 l2 : Addr) : Heap := (mz4 h l1 l2).push { cls := .type "zip", data := .fields #[.none, .bool false, .bool false, .ref (mz2 h l1 l2).objs.size, .ref (mz3 h l1 l2).objs.size] }
theorem mz_new (l1 l2 : Addr) (xs ys : Array Value) :
    Meets (Builtin.«zip.__new__» ⟨[.type "zip", .ref l1, .ref l2], []⟩) (fun _ R s => s.heap.IsTuple l1 xs ∧ s.heap.IsList l2 ys ∧
      R (.ok (.ret (.ref (mz4 s.heap l1 l2).objs.size))) { s with heap := mz5 s.heap l1 l2 }) :=
  .of_wp fun prog w A R s h => by
    obtain ⟨hp, g, d, tk, os⟩ := s; obtain ⟨hl1, hl2, h⟩ := h
    have hsub := sub_zip
    have hL1 : Heap.IsTuple (Shared.heap ⟨hp, g, d, tk, os⟩) l1 xs := hl1
    have hL2 : Heap.IsList (Shared.heap ⟨hp.push { cls := .type "tuple_iterator", data := .fields #[.ref l1, .int 0 0] }, g, d, tk, os⟩) l2 ys := hl2.at fun o e => Heap.get?_push_of_some _ e
    wp_walk using wpAny_pyIter_tuple hL1, wpAny_pyIter_list hL2
    exact ⟨_, rfl, h⟩
section
variable {P : Program} {w : World} {A : Around} {E : Value → Shared → Prop} {s : Shared}
theorem mz_call {l1 l2 : Addr} {xs ys : Array Value} {Q : Value → Shared → Prop} (hl1 : s.heap.IsTuple l1 xs) (hl2 : s.heap.IsList l2 ys)
    (h : ∀ h', IsZip h' (s.heap.objs.size + 4) (s.heap.objs.size + 2) (s.heap.objs.size + 3) .none → IsPair h' (s.heap.objs.size + 2) (.ref s.heap.objs.size) (.ref (s.heap.objs.size + 1)) →
      IsPair h' (s.heap.objs.size + 3) .none .none → h'.IsTupleIter s.heap.objs.size l1 0 → h'.IsListIter (s.heap.objs.size + 1) l2 0 →
      (∀ c o, s.heap.get? c = some o → h'.get? c = some o) → Q (.ref (s.heap.objs.size + 4)) { s with heap := h' }) :
    wpAny (model P w) A (call (.type "zip") [.ref l1, .ref l2]) Q E s := by
  refine callType_new F.called_zip (by decide) (F.typeCall_zip_2 _ _) (F.newCall_zip_2 _ _) (fun obj => F.args_object_init_3 obj _ _) F.entry_zip_new (mz_new l1 l2 xs ys) ⟨hl1, hl2, ?_⟩
  have n1 : (mz1 s.heap l1).objs.size = s.heap.objs.size + 1 := Heap.size_push ..
  have n2 : (mz2 s.heap l1 l2).objs.size = s.heap.objs.size + 2 := by rw [Heap.size_push, n1]
  have n3 : (mz3 s.heap l1 l2).objs.size = s.heap.objs.size + 3 := by rw [Heap.size_push, n2]
  have n4 : (mz4 s.heap l1 l2).objs.size = s.heap.objs.size + 4 := by rw [Heap.size_push, n3]
  have up : ∀ {h : Heap} {b : Addr} {o o' : Obj}, h.get? b = some o → (h.push o').get? b = some o := fun e => Heap.get?_push_of_some _ e
  have a5 : (mz5 s.heap l1 l2).get? (mz4 s.heap l1 l2).objs.size = some _ := Heap.get?_push_size _ rfl
  have a4 : (mz5 s.heap l1 l2).get? (mz3 s.heap l1 l2).objs.size = some _ := up (Heap.get?_push_size _ rfl)
  have a3 : (mz5 s.heap l1 l2).get? (mz2 s.heap l1 l2).objs.size = some _ := up (up (Heap.get?_push_size _ rfl))
  have a2 : (mz5 s.heap l1 l2).get? (mz1 s.heap l1).objs.size = some _ := up (up (up (Heap.get?_push_size _ rfl)))
  have a1 : (mz5 s.heap l1 l2).get? s.heap.objs.size = some _ := up (up (up (up (Heap.get?_push_size _ rfl))))
  show _ ∧ _
  rw [n2, n3, n4] at a5
  rw [n3] at a4
  rw [n1, n2] at a3
  rw [n1] at a2
  rw [n4]
  exact ⟨⟨_, a5, rfl⟩, h _ a5 a3 a4 ⟨_, a1, rfl, rfl⟩ ⟨_, a2, rfl, rfl⟩ fun c o e => up (up (up (up (up e))))⟩
end
/-- the tuple at a and the list at b as they stand at each turn, the items in new pairs -/
def ItzM (K : PySem.W.Frag) (a b : Addr) : It :=
  ⟨fun i H => ∃ (xs ys : List V) (x y : V), SqT K H a xs ∧ SqL K H b ys ∧ xs[i]? = some x ∧ ys[i]? = some y,
    fun i H v H' => ∃ T x y, v = .ref T ∧ H T = none ∧ H' = upd H T (.tup [x, y]) ∧ (∀ xs, SqT K H a xs → xs[i]? = some x) ∧ ∀ ys, SqL K H b ys → ys[i]? = some y,
    fun i H => ∃ xs ys : List V, SqT K H a xs ∧ SqL K H b ys ∧ (xs.length ≤ i ∨ ys.length ≤ i)⟩
theorem turn_mz {P : Program} {w : World} {K : PySem.W.Frag} {elts : List Expr} {kk : Nat} {tpos : Pos} {a b z TI TO i1 i2 : Addr} (D : ZipApart z TI TO i1 i2 a b) :
    Turn P w K (.Tuple elts kk tpos) (ItzM K a b) [z, TI, TO, i1, i2] z (fun i h => IsZip h z TI TO .none ∧ IsPair h TI (.ref i1) (.ref i2) ∧ (∃ x y, IsPair h TO x y) ∧ h.IsTupleIter i1 a i ∧ h.IsListIter i2 b i) where
  mem := List.mem_cons_self ..
  obj := fun i h ⟨hz, hTI, ⟨x, y, hTO⟩, ⟨o1, e1, _, d1⟩, ⟨o2, e2, _, d2⟩⟩ c hc => by
    have q : c = z ∨ c = TI ∨ c = TO ∨ c = i1 ∨ c = i2 := by simpa using hc
    rcases q with rfl | rfl | rfl | rfl | rfl
    · exact ⟨_, hz, fun v q => nomatch q⟩
    · exact ⟨_, hTI, fun v q => nomatch q⟩
    · exact ⟨_, hTO, fun v q => nomatch q⟩
    · exact ⟨o1, e1, fun v q => by rw [d1] at q; cases q⟩
    · exact ⟨o2, e2, fun v q => by rw [d2] at q; cases q⟩
  keep := fun i h h' ⟨hz, hTI, ⟨x, y, hTO⟩, h1, h2⟩ k =>
    ⟨k z (by simp) _ hz, k TI (by simp) _ hTI, ⟨x, y, k TO (by simp) _ hTO⟩, h1.at fun o q => k i1 (by simp) o q, h2.at fun o q => k i2 (by simp) o q⟩
  item := by
    intro X hP hw hK hc i pins s σ H E I hf ⟨hz, hTI, ⟨x0, y0, hTO⟩, h1, h2⟩ ⟨xs, ys, x, y, hqx, hqy, hx, hy⟩
    subst hP hw hK
    obtain ⟨ia, ra, pa, _⟩ := I.tuple hqx
    obtain ⟨ib, rb, pb, _⟩ := I.list hqy
    obtain ⟨u1, hu1, ru1⟩ := ra.get hx
    obtain ⟨u2, hu2, ru2⟩ := rb.get hy
    have hd := I.ok.hd hc
    have zlt : z < s.heap.objs.size := Heap.lt_size hz
    have N1 := nxt_tup (P := X.prog) (w := X.w) (A := X.A.in1) (it := i1) (l := a) (items := ia.toArray) hd (Ne.symm D.l1i1)
    have N2 := nxt_lst (P := X.prog) (w := X.w) (A := X.A.in1) (it := i2) (l := b) (items := ib.toArray) hd (Ne.symm D.l2i2)
    have hT : s.TypeIs (.ref z) "zip" := ⟨_, hz, rfl⟩
    unfold pyNext
    refine wpAny_bind (wpAny_attempt (wpAny_callSpecial?_slot (name := Str.ofString "__next__") hT F.slot_zip_next (wpAny_call_entry F.slot_zip_next hT F.entry_zip_next
      (zipN_item (x := u1) (y := u2) D N1 N2 hz hTI hTO ⟨h1, pa⟩ ⟨h2, pb.isList⟩ (by simpa using hu1) (by simpa using hu2) fun h' z' TO' g1 g2 hT' hk => wpAny_pure ?_) (F.args_zip_next_1 _))))
    refine ⟨_, rfl, wpAny_letOwnedTupleGo_zip (s := { s with heap := h' }) z' fun h'' z'' sb => ?_⟩
    have hT2 : h''.get? s.heap.objs.size = some { cls := .type "tuple", data := .seq #[u1, u2] } := (sb.2 _ (Nat.ne_of_gt zlt)).trans hT'
    have new : ObjOk X.prog X.w (upd H s.heap.objs.size (.tup [x, y])) h'' s.heap.objs.size (.tup [x, y]) := ⟨by show 2 ≤ sizeLine; decide, [u1, u2], .cons ru1 (.cons ru2 .nil), ⟨_, hT2, rfl, _, rfl⟩⟩
    have I1 : Inv X pins σ (upd H s.heap.objs.size (.tup [x, y])) { s with heap := h'' } :=
      I.turnedNew (t' := s.toks) (ch := [z, TI, TO, i1, i2]) (fun c o hb q => (sb.2 c (fun q' => hb (by simp [q']))).trans (hk c o (fun q' => hb (by simp [q'])) (fun q' => hb (by simp [q'])) (fun q' => hb (by simp [q'])) (fun q' => hb (by simp [q'])) q)) hf (Nat.le_refl _) new
    refine ⟨.ref s.heap.objs.size, _, I1, rfl, ⟨_, x, y, rfl, I.hok.fresh (Nat.le_refl _), rfl, fun l hl => by rw [I.tuple_inj hl hqx]; exact hx, fun l hl => by rw [I.list_inj hl hqy]; exact hy⟩, ⟨z'', ?_, ⟨u1, u2, ?_⟩, ?_, ?_⟩, fun c hcm => ?_⟩
    · exact (sb.2 _ D.TIz).trans (hk _ _ D.TIz D.TITO D.TIi1 D.TIi2 hTI)
    · exact (sb.2 _ D.TOz).trans TO'
    · exact g1.1.at fun o q => (sb.2 _ D.i1z).trans q
    · exact g2.1.at fun o q => (sb.2 _ D.i2z).trans q
    · have old : c < s.heap.objs.size := by
        have q : c = z ∨ c = TI ∨ c = TO ∨ c = i1 ∨ c = i2 := by simpa using hcm
        rcases q with rfl | rfl | rfl | rfl | rfl
        · exact zlt
        · exact Heap.lt_size hTI
        · exact Heap.lt_size hTO
        · obtain ⟨_, e, _⟩ := h1
          exact Heap.lt_size e
        · obtain ⟨_, e, _⟩ := h2
          exact Heap.lt_size e
      rw [upd_ne (Nat.ne_of_lt old)]
      exact (hf c hcm).1
  done := by
    intro X hP hw hK hc i pins s σ H E I hf ⟨hz, hTI, ⟨x0, y0, hTO⟩, h1, h2⟩ ⟨xs, ys, hqx, hqy, hend⟩
    subst hP hw hK
    obtain ⟨ia, ra, pa, _⟩ := I.tuple hqx
    obtain ⟨ib, rb, pb, _⟩ := I.list hqy
    have la := ra.length
    have lb := rb.length
    have hd := I.ok.hd hc
    have N1 := nxt_tup (P := X.prog) (w := X.w) (A := X.A.in1) (it := i1) (l := a) (items := ia.toArray) hd (Ne.symm D.l1i1)
    have N2 := nxt_lst (P := X.prog) (w := X.w) (A := X.A.in1) (it := i2) (l := b) (items := ib.toArray) hd (Ne.symm D.l2i2)
    have he : ia.toArray[i]? = none ∨ ib.toArray[i]? = none := hend.elim (fun q => .inl (by simp; omega)) fun q => .inr (by simp; omega)
    have hT : s.TypeIs (.ref z) "zip" := ⟨_, hz, rfl⟩
    unfold pyNext
    refine wpAny_bind (wpAny_attempt (wpAny_callSpecial?_slot (name := Str.ofString "__next__") hT F.slot_zip_next (wpAny_call_entry F.slot_zip_next hT F.entry_zip_next
      (zipN_stop D N1 N2 hz hTI hTO ⟨h1, pa⟩ ⟨h2, pb.isList⟩ he fun h' e hk ⟨o, ho, hc⟩ => ?_) (F.args_zip_next_1 _))))
    refine wpAny_bind (wpAny_isInstance (T := "StopIteration") (b := true) ⟨o, ho, hc⟩ isSubtype_stop (wpAny_pure ⟨rfl, ?_⟩))
    exact I.turnedL (t' := s.toks) (ch := [z, TI, TO, i1, i2]) (fun c o hb q => hk c o (fun q' => hb (by simp [q'])) (fun q' => hb (by simp [q'])) (fun q' => hb (by simp [q'])) (fun q' => hb (by simp [q'])) q) hf
  self := fun A i s Q E st h => wpAny_pyIter_zip st.1 h
def iZipM (K : PySem.W.Frag) (ta : TA) : TI := fun σ H R => ta σ H fun vs H1 => ∃ a b xs ys, vs = [.ref a, .ref b] ∧ SqT K H1 a xs ∧ SqL K H1 b ys ∧ R (ItzM K a b) H1
theorem pi_zipM {X : Cx} {e e2 : Expr} {ta : TA} {p pos tpos : Pos} {elts : List Expr} {kk : Nat} (hg : Gl X "zip") (hm : X.mg "zip" = none) (ha : PA X [e, e2] ta)
    (hs : starEach [e, e2] X.env = (false, eval e X.env) :: starEach [e2] X.env := by rfl) (hpl : (backTo pos (starEach [e2] X.env)).any (·.1) = false := by rfl) :
    PI X (.Tuple elts kk tpos) (.Call (.Name "zip" p) [e, e2] [] pos) (iZipM X.K ta) := by
  refine ⟨fun pins s σ H R I h => ?_⟩
  refine Call_ (ld_blt I hg hm PyProof.Rows.boot_zip (PyProof.Rows.callWith_type1 (thn (ha.run pos pins s σ H _ I h) fun us s1 ⟨vs, H1, I1, r1, q1⟩ => ?_) hs hpl))
  obtain ⟨a, b, xs, ys, ex, hqx, hqy, q⟩ := q1
  subst ex
  cases r1 with
  | cons r rr =>
    cases rr with
    | cons r' rr =>
      cases rr
      cases r
      cases r'
      obtain ⟨ia, ra, pa, _⟩ := I1.tuple hqx
      obtain ⟨ib, rb, pb, _⟩ := I1.list hqy
      have alt : a < s1.heap.objs.size := by
        obtain ⟨o, ho, _⟩ := id (show s1.heap.IsTuple a ia.toArray from pa)
        exact Heap.lt_size ho
      refine mz_call (show s1.heap.IsTuple a ia.toArray from pa) pb.isList fun h' hz hTI hTO h1 h2 hk => wpAny_pyIter_zip hz ?_
      refine ⟨s1.heap.objs.size + 4, [s1.heap.objs.size + 4, s1.heap.objs.size + 2, s1.heap.objs.size + 3, s1.heap.objs.size, s1.heap.objs.size + 1], _, _, H1, rfl, I1.kept (t' := s1.toks) hk, turn_mz (PySem.W.ktu_apart s1.heap.objs.size a b alt pb.lt), ⟨hz, hTI, ⟨_, _, hTO⟩, h1, h2⟩, fun c hcm => ?_, q⟩
      have up : s1.heap.objs.size ≤ c := by
        have e' : c = s1.heap.objs.size + 4 ∨ c = s1.heap.objs.size + 2 ∨ c = s1.heap.objs.size + 3 ∨ c = s1.heap.objs.size ∨ c = s1.heap.objs.size + 1 := by simpa using hcm
        rcases e' with z | z | z | z | z <;> rw [z] <;> first | exact Nat.le_add_right _ _ | exact Nat.le_refl _
      exact I1.fpOk up (I1.hok.fresh up)
/-- as long as both have items -/
theorem for_mz {K : PySem.W.Frag} {a b : Addr} {xs ys : List V} {g : TG} {tb : TS} {D : Ends} {σ : L2.St} {H : Hp} (hl : ys.length ≤ xs.length) (Pv : Nat → L2.St → Hp → Prop) (h0 : Pv 0 σ H) (hq : ∀ i σ H, Pv i σ H → SqT K H a xs ∧ SqL K H b ys)
    (hs : ∀ (i : Nat) (x y : V) (T : Addr) (σ : L2.St) (H : Hp), xs[i]? = some x → ys[i]? = some y → Pv i σ H → H T = none → g (.ref T) σ (upd H T (.tup [x, y])) fun σ2 H2 => tb { D with nx := Pv (i + 1), ct := Pv (i + 1), bk := D.nx } σ2 H2) (hd : ∀ σ H, Pv ys.length σ H → D.nx σ H) :
    ∃ W : Nat → Nat → L2.St → Hp → Prop, (∃ m, W 0 m σ H) ∧ ∀ i m σ H, W i m σ H →
      ((ItzM K a b).stop i H ∧ D.nx σ H) ∨ ((ItzM K a b).go i H ∧ ∃ N : L2.St → Hp → Prop, (∀ σ' H', N σ' H' → ∃ m', m' < m ∧ W (i + 1) m' σ' H') ∧ ∀ v H', (ItzM K a b).yld i H v H' → g v σ H' fun σ2 H2 => tb { D with nx := N, ct := N, bk := D.nx } σ2 H2) := by
  refine ⟨fun i m σ H => m + i = ys.length ∧ Pv i σ H, ⟨ys.length, rfl, h0⟩, fun i m σ H ⟨hm, p⟩ => ?_⟩
  obtain ⟨qx, qy⟩ := hq i σ H p
  cases m with
  | zero =>
    have e : i = ys.length := by omega
    exact .inl ⟨⟨xs, ys, qx, qy, .inr (Nat.le_of_eq e.symm)⟩, hd σ H (by rw [← e]; exact p)⟩
  | succ m =>
    have l2 : i < ys.length := by omega
    have l1 : i < xs.length := Nat.lt_of_lt_of_le l2 hl
    exact .inr ⟨⟨xs, ys, _, _, qx, qy, List.getElem?_eq_getElem l1, List.getElem?_eq_getElem l2⟩, Pv (i + 1), fun σ' H' p' => ⟨m, Nat.lt_succ_self m, by omega, p'⟩, fun v H' ⟨T, x, y, ev, hT, eh, f1, f2⟩ => by
      subst ev eh
      exact hs i x y T σ H (f1 xs qx) (f2 ys qy) p hT⟩
end K1

namespace K1
open PySem PySem.Spec PyProof.Rows L2 RZ
open PySem.Sem (wp)
open AutoSeq1 (wpAny_loadPart')
/-! ### a loop over enumerate of a tuple -/
abbrev en1 (h : Heap) (l : Addr) : Heap := h.push { cls := .type "tuple_iterator", data := .fields #[.ref l, .int 0 0] }
abbrev en2 (h : Heap) (l : Addr) : Heap := (en1 h l).push { cls := .type "enumerate", data := .fields #[.none, .bool false, .ref h.objs.size, rawInt 0, .none, .none] }
theorem en_new (l : Addr) (items : Array Value) (n : Nat) (dct : Option Addr) (sl : Array (Option Value)) :
    Meets (Builtin.«enumerate.__new__» ⟨[.type "enumerate", .ref l], []⟩) (fun _ R s => s.heap.get? l = some { cls := .type "tuple", dict := dct, data := .seq items n, slots := sl } ∧
      R (.ok (.ret (.ref (en1 s.heap l).objs.size))) { s with heap := en2 s.heap l }) :=
  .of_wp fun prog w A R s h => by
    obtain ⟨hp, g, d, tk, os⟩ := s; obtain ⟨hl, h⟩ := h
    have hsub := sub_enumerate
    have hL : Heap.IsTuple (Shared.heap ⟨hp, g, d, tk, os⟩) l items := ⟨_, hl, rfl, n, rfl⟩
    wp_walk using wpAny_loadPart' hl
    refine wpAny_stack_any fun st => wpAny_pure ?_
    split
    · rename_i c _ _ _ _ _
      cases (c == Value.type "enumerate")
      · wp_walk using wpAny_loadPart' hl, wpAny_pyIter_tuple hL
        exact ⟨_, rfl, h⟩
      · wp_walk using wpAny_loadPart' hl, wpAny_pyIter_tuple hL
        exact ⟨_, rfl, h⟩
    · wp_walk using wpAny_loadPart' hl, wpAny_pyIter_tuple hL
      exact ⟨_, rfl, h⟩
section
variable {P : Program} {w : World} {A : Around} {E : Value → Shared → Prop} {s : Shared}
theorem en_call {l : Addr} {items : Array Value} {Q : Value → Shared → Prop} (hL : s.heap.IsTuple l items)
    (h : ∀ h', IsEnum h' (s.heap.objs.size + 1) s.heap.objs.size 0 .none → h'.IsTupleIter s.heap.objs.size l 0 → (∀ b o, s.heap.get? b = some o → h'.get? b = some o) → Q (.ref (s.heap.objs.size + 1)) { s with heap := h' }) :
    wpAny (model P w) A (call (.type "enumerate") [.ref l]) Q E s := by
  obtain ⟨⟨c, dct, dt, sl⟩, hl, hc, n, hd⟩ := hL
  replace hc : c = .type "tuple" := hc
  replace hd : dt = .seq items n := hd
  subst hc hd
  refine callType_new F.called_enumerate (by decide) (F.typeCall_enumerate_1 _) (F.newCall_enumerate_1 _) (fun obj => F.args_object_init_2 obj _) F.entry_enumerate_new (en_new l items n dct sl) ⟨hl, ?_⟩
  have n1 : (en1 s.heap l).objs.size = s.heap.objs.size + 1 := Heap.size_push ..
  have a2 : (en2 s.heap l).get? (en1 s.heap l).objs.size = some _ := Heap.get?_push_size _ rfl
  show _ ∧ _
  rw [n1] at a2 ⊢
  exact ⟨⟨_, a2, rfl⟩, h _ a2 ⟨_, Heap.get?_push_of_some _ (Heap.get?_push_size _ rfl), rfl, rfl⟩ fun b o e => Heap.get?_push_of_some _ (Heap.get?_push_of_some _ e)⟩
variable {e it l : Addr} {St : Nat → Heap → Prop} {items : Array Value} {i : Nat} {old : Value}
theorem enN_item {x : Value} {Q : Value → Shared → Prop} (N : Nxt P w A it l St items) (he : IsEnum s.heap e it (i : Nat) old) (hs : St i s.heap) (hx : items[i]? = some x) (hne : e ≠ it) (hle : l ≠ e)
    (hQ : ∀ h', IsEnumOut h' e it ((i : Int) + 1) x s.heap.objs.size → St (i + 1) h' → h'.get? s.heap.objs.size = some { cls := .type "tuple", data := .seq #[.int i s.toks, x] } →
      (∀ b o, b ≠ e → b ≠ it → s.heap.get? b = some o → h'.get? b = some o) → Q (.ref s.heap.objs.size) { s with heap := h', toks := s.toks + 1 }) :
    wpAny (model P w) A (Builtin.«enumerate.__next__» ⟨[.ref e], []⟩) (fun fin s' => ∃ v, fin = .done (.ret v) ∧ Q v s') E s := by
  obtain ⟨hp, g, d, tk, os⟩ := s
  show wpAny _ _ (field (.ref e) 2 >>= _) _ _ _
  refine wpAny_bind (wpAny_field he rfl (x := .ref it) rfl (wpAny_bind (N.item hs hx fun ha na sa => ?_)))
  replace sa : Heap.SameBut it hp ha := sa
  have hea : IsEnum ha e it i old := (sa.2 e hne).trans he
  show wpAny _ _ (field (.ref e) 3 >>= _) _ _ ⟨ha, g, d, tk, os⟩
  refine wpAny_bind (wpAny_field hea rfl (x := rawInt i) rfl ?_)
  show wpAny _ _ (field (.ref e) 4 >>= _) _ _ ⟨ha, g, d, tk, os⟩
  refine wpAny_bind (wpAny_field hea rfl (x := .none) rfl ?_)
  show wpAny _ _ (mkInt i >>= _) _ _ ⟨ha, g, d, tk, os⟩
  refine wpAny_bind (wpAny_mkInt ?_)
  show wpAny _ _ (setField (.ref e) 3 (rawInt ((i : Int) + 1)) >>= _) _ _ ⟨ha, g, d, tk + 1, os⟩
  refine wpAny_bind (wpAny_setField_rec hea (by simp) fun hb heb sb => ?_)
  replace sb : Heap.SameBut e ha hb := sb
  replace heb : IsEnum hb e it ((i : Int) + 1) old := heb
  show wpAny _ _ (setField (.ref e) 4 .none >>= _) _ _ ⟨hb, g, d, tk + 1, os⟩
  refine wpAny_bind (wpAny_setField_rec heb (by simp) fun hc hec sc => ?_)
  replace sc : Heap.SameBut e hb hc := sc
  replace hec : IsEnum hc e it ((i : Int) + 1) old := hec
  show wpAny _ _ (newTuple [.int i tk, x] >>= _) _ _ ⟨hc, g, d, tk + 1, os⟩
  refine wpAny_bind (wpAny_newTuple ?_)
  have sz : hc.objs.size = hp.objs.size := by rw [sc.1, sb.1, sa.1]
  have elt : e < hp.objs.size := Heap.lt_size he
  have hed : IsEnum (hc.push { cls := .type "tuple", data := .seq #[.int i tk, x] }) e it ((i : Int) + 1) old := Heap.get?_push_of_some _ hec
  have new : (hc.push { cls := .type "tuple", data := .seq #[.int i tk, x] }).get? hp.objs.size = some { cls := .type "tuple", data := .seq #[.int i tk, x] } := by
    rw [← sz]
    exact Heap.get?_push_size _ rfl
  have nd : St (i + 1) (hc.push { cls := .type "tuple", data := .seq #[.int i tk, x] }) := N.keep na (fun o q => Heap.get?_push_of_some _ (sc.extBut _ _ hne.symm (sb.extBut _ _ hne.symm q))) fun o q => Heap.get?_push_of_some _ (sc.extBut _ _ hle (sb.extBut _ _ hle q))
  have kd : ∀ b o, b ≠ e → b ≠ it → hp.get? b = some o → (hc.push { cls := .type "tuple", data := .seq #[.int i tk, x] }).get? b = some o := fun b o u v q => Heap.get?_push_of_some _ (sc.extBut _ _ u (sb.extBut _ _ u (sa.extBut _ _ v q)))
  rw [sz]
  generalize hc.push { cls := .type "tuple", data := .seq #[.int i tk, x] } = hd at hed new nd kd
  show wpAny _ _ (Builtin.SmallTypes.ownedTupleIsFree (.ref e) >>= _) _ _ ⟨hd, g, d, tk + 1, os⟩
  unfold Builtin.SmallTypes.ownedTupleIsFree
  refine wpAny_bind (wpAny_bind (wpAny_field hed rfl (x := .none) rfl (wpAny_pure ?_)))
  simp only [if_true]
  refine wpAny_bind (wpAny_rule (wpAny_bind (wpAny_field hed rfl (x := old) rfl (wpAny_bind (wpAny_setField_rec hed (by simp) fun hf hef sf => ?_)))))
  replace sf : Heap.SameBut e hd hf := sf
  replace hef : IsEnum hf e it ((i : Int) + 1) x := hef
  show wpAny _ _ (Builtin.SmallTypes.ownedTupleHandOut (.ref e) (.ref hp.objs.size) >>= _) _ _ ⟨hf, g, d, tk + 1, os⟩
  unfold Builtin.SmallTypes.ownedTupleHandOut
  refine wpAny_bind (wpAny_bind (wpAny_setField_rec hef (by simp) fun hg heg sg => ?_))
  replace sg : Heap.SameBut e hf hg := sg
  replace heg : IsEnumOut hg e it ((i : Int) + 1) x hp.objs.size := heg
  refine wpAny_setField_rec heg (by simp) fun hk hek sk => ?_
  replace sk : Heap.SameBut e hg hk := sk
  replace hek : IsEnumOut hk e it ((i : Int) + 1) x hp.objs.size := hek
  have up : ∀ b o, b ≠ e → hd.get? b = some o → hk.get? b = some o := fun b o u q => sk.extBut _ _ u (sg.extBut _ _ u (sf.extBut _ _ u q))
  exact wpAny_bind (wpAny_letGo (wpAny_pure ⟨_, rfl, hQ hk hek (N.keep nd (fun o q => up _ o hne.symm q) fun o q => up _ o hle q) (up _ _ (Nat.ne_of_gt elt) new) fun b o u v q => up b o u (kd b o u v q)⟩))
theorem enN_stop {Q : Fin → Shared → Prop} (N : Nxt P w A it l St items) (he : IsEnum s.heap e it (i : Nat) old) (hs : St i s.heap) (hx : items[i]? = none)
    (hE : ∀ h' x, Heap.ExtBut it s.heap h' → (∃ o, h'.get? x = some o ∧ o.cls = .type "StopIteration") → E (.ref x) { s with heap := h' }) : wpAny (model P w) A (Builtin.«enumerate.__next__» ⟨[.ref e], []⟩) Q E s := by
  show wpAny _ _ (field (.ref e) 2 >>= _) _ _ _
  exact wpAny_bind (wpAny_field he rfl (x := .ref it) rfl (wpAny_bind (N.stop hs hx fun h' x eb hx' => hE h' x eb hx')))
end
/-- the tuple at a as it stands at each turn, its items numbered in new pairs -/
def IteT (K : PySem.W.Frag) (a : Addr) : It :=
  ⟨fun i H => ∃ (xs : List V) (x : V), SqT K H a xs ∧ xs[i]? = some x, fun i H v H' => ∃ T x, v = .ref T ∧ H T = none ∧ H' = upd H T (.tup [.int (i : Nat), x]) ∧ ∀ xs, SqT K H a xs → xs[i]? = some x, fun i H => ∃ xs : List V, SqT K H a xs ∧ xs.length ≤ i⟩
theorem turn_enT {P : Program} {w : World} {K : PySem.W.Frag} {elts : List Expr} {kk : Nat} {tpos : Pos} (a e it : Addr) :
    Turn P w K (.Tuple elts kk tpos) (IteT K a) [e, it] e (fun i h => (∃ old, IsEnum h e it ((i : Nat) : Int) old) ∧ h.IsTupleIter it a i ∧ e ≠ it ∧ a ≠ e ∧ a ≠ it) where
  mem := List.mem_cons_self ..
  obj := fun i h ⟨⟨old, he⟩, ⟨o, ho, _, hd⟩, _⟩ b hb => by
    have q : b = e ∨ b = it := by simpa using hb
    rcases q with rfl | rfl
    · exact ⟨_, he, fun v q => nomatch q⟩
    · exact ⟨o, ho, fun v q => by rw [hd] at q; cases q⟩
  keep := fun i h h' ⟨⟨old, he⟩, hi, hne, hn2⟩ k => ⟨⟨old, k e (by simp) _ he⟩, hi.at fun o q => k it (by simp) o q, hne, hn2⟩
  item := by
    intro X hP hw hK hc i pins s σ H E I hf ⟨⟨old, he⟩, hit, hne, ha, hai⟩ ⟨xs, x, hq, hx⟩
    subst hP hw hK
    obtain ⟨ia, ra, pa, _⟩ := I.tuple hq
    obtain ⟨u, hu, ru⟩ := ra.get hx
    have elt : e < s.heap.objs.size := Heap.lt_size he
    have ilt : it < s.heap.objs.size := by
      obtain ⟨_, q, _⟩ := hit
      exact Heap.lt_size q
    have N := nxt_tup (P := X.prog) (w := X.w) (A := X.A.in1) (it := it) (l := a) (items := ia.toArray) (I.ok.hd hc) hai.symm
    have hT : s.TypeIs (.ref e) "enumerate" := ⟨_, he, rfl⟩
    unfold pyNext
    refine wpAny_bind (wpAny_attempt (wpAny_callSpecial?_slot (name := Str.ofString "__next__") hT F.slot_enumerate_next (wpAny_call_entry F.slot_enumerate_next hT F.entry_enumerate_next
      (enN_item (x := u) N he ⟨hit, pa⟩ (by simpa using hu) hne ha fun h' ho st hT' hk => wpAny_pure ?_) (F.args_enumerate_next_1 _))))
    refine ⟨_, rfl, wpAny_letOwnedTupleGo_enum (s := { s with heap := h', toks := s.toks + 1 }) ho fun h'' he' sb => ?_⟩
    have hT2 : h''.get? s.heap.objs.size = some { cls := .type "tuple", data := .seq #[.int i s.toks, u] } := (sb.2 _ (Nat.ne_of_gt elt)).trans hT'
    have new : ObjOk X.prog X.w (upd H s.heap.objs.size (.tup [.int (i : Nat), x])) h'' s.heap.objs.size (.tup [.int (i : Nat), x]) := ⟨by show 2 ≤ sizeLine; decide, [.int i s.toks, u], .cons ⟨_, rfl⟩ (.cons ru .nil), ⟨_, hT2, rfl, _, rfl⟩⟩
    have I1 : Inv X pins σ (upd H s.heap.objs.size (.tup [.int (i : Nat), x])) { s with heap := h'', toks := s.toks + 1 } :=
      I.turnedNew (ch := [e, it]) (fun b ob hb q => (sb.2 b (fun z => hb (by simp [z]))).trans (hk b ob (fun z => hb (by simp [z])) (fun z => hb (by simp [z])) q)) hf (Nat.le_refl _) new
    refine ⟨.ref s.heap.objs.size, _, I1, rfl, ⟨_, x, rfl, I.hok.fresh (Nat.le_refl _), rfl, fun ys hy => by rw [I.tuple_inj hy hq]; exact hx⟩, ⟨⟨u, ?_⟩, st.1.at fun o q => (sb.2 it hne.symm).trans q, hne, ha, hai⟩, fun b hb => ?_⟩
    · rw [show ((i + 1 : Nat) : Int) = (i : Int) + 1 from by omega]
      exact he'
    · have old : b < s.heap.objs.size := by
        have q : b = e ∨ b = it := by simpa using hb
        rcases q with rfl | rfl
        · exact elt
        · exact ilt
      rw [upd_ne (Nat.ne_of_lt old)]
      exact (hf b hb).1
  done := by
    intro X hP hw hK hc i pins s σ H E I hf ⟨⟨old, he⟩, hit, hne, ha, hai⟩ ⟨xs, hq, hx⟩
    subst hP hw hK
    obtain ⟨ia, ra, pa, _⟩ := I.tuple hq
    have la := ra.length
    obtain ⟨f0, f1, f2, f3, f4, f5⟩ := hf it (by simp)
    have N := nxt_tup (P := X.prog) (w := X.w) (A := X.A.in1) (it := it) (l := a) (items := ia.toArray) (I.ok.hd hc) hai.symm
    have hT : s.TypeIs (.ref e) "enumerate" := ⟨_, he, rfl⟩
    unfold pyNext
    refine wpAny_bind (wpAny_attempt (wpAny_callSpecial?_slot (name := Str.ofString "__next__") hT F.slot_enumerate_next (wpAny_call_entry F.slot_enumerate_next hT F.entry_enumerate_next
      (enN_stop N he ⟨hit, pa⟩ (by simp; omega) fun h' x eb ⟨o, ho, hc⟩ => ?_) (F.args_enumerate_next_1 _))))
    exact wpAny_bind (wpAny_isInstance (T := "StopIteration") (b := true) ⟨o, ho, hc⟩ isSubtype_stop (wpAny_pure ⟨rfl, I.turned (t' := s.toks) (fun b o hb q => eb b o hb q) f0 f1 f3 f4 f5⟩))
  self := fun A i s Q E ⟨⟨_, he⟩, _⟩ h => wpAny_pyIter_enum he h
def iEnT (K : PySem.W.Frag) (ta : TA) : TI := fun σ H R => ta σ H fun vs H1 => ∃ a xs, vs = [.ref a] ∧ SqT K H1 a xs ∧ R (IteT K a) H1
theorem pi_enT {X : Cx} {e : Expr} {ta : TA} {p pos tpos : Pos} {elts : List Expr} {kk : Nat} (hg : Gl X "enumerate") (hm : X.mg "enumerate" = none) (ha : PA X [e] ta) (hs : starEach [e] X.env = [(false, eval e X.env)] := by rfl) :
    PI X (.Tuple elts kk tpos) (.Call (.Name "enumerate" p) [e] [] pos) (iEnT X.K ta) := by
  refine ⟨fun pins s σ H R I h => ?_⟩
  refine Call_ (ld_blt I hg hm boot_enumerate (PyProof.Rows.callWith_type1 (thn (ha.run pos pins s σ H _ I h) fun us s1 ⟨vs, H1, I1, r1, q1⟩ => ?_) hs rfl))
  obtain ⟨a, xs, ex, hq, q⟩ := q1
  subst ex
  cases r1 with
  | cons r rr =>
    cases rr
    cases r
    obtain ⟨ia, ra, pa, _⟩ := I1.tuple hq
    have alt : a < s1.heap.objs.size := by
      obtain ⟨o, ho, _⟩ := id (show s1.heap.IsTuple a ia.toArray from pa)
      exact Heap.lt_size ho
    refine en_call (show s1.heap.IsTuple a ia.toArray from pa) fun h' he hit hk => wpAny_pyIter_enum he ?_
    refine ⟨s1.heap.objs.size + 1, [s1.heap.objs.size + 1, s1.heap.objs.size], _, _, H1, rfl, I1.kept (t' := s1.toks) hk, turn_enT a (s1.heap.objs.size + 1) s1.heap.objs.size, ⟨⟨.none, he⟩, hit, Nat.succ_ne_self _, Nat.ne_of_lt (Nat.lt_succ_of_lt alt), Nat.ne_of_lt alt⟩, fun b hb => ?_, q⟩
    have up : s1.heap.objs.size ≤ b := by
      have e' : b = s1.heap.objs.size + 1 ∨ b = s1.heap.objs.size := by simpa using hb
      rcases e' with z | z <;> rw [z] <;> first | exact Nat.le_add_right _ _ | exact Nat.le_refl _
    exact I1.fpOk up (I1.hok.fresh up)
theorem for_enT {K : PySem.W.Frag} {a : Addr} {xs : List V} {g : TG} {tb : TS} {D : Ends} {σ : L2.St} {H : Hp} (Pv : Nat → L2.St → Hp → Prop) (h0 : Pv 0 σ H) (hq : ∀ i σ H, Pv i σ H → SqT K H a xs)
    (hs : ∀ (i : Nat) (x : V) (T : Addr) (σ : L2.St) (H : Hp), xs[i]? = some x → Pv i σ H → H T = none → g (.ref T) σ (upd H T (.tup [.int (i : Nat), x])) fun σ2 H2 => tb { D with nx := Pv (i + 1), ct := Pv (i + 1), bk := D.nx } σ2 H2) (hd : ∀ σ H, Pv xs.length σ H → D.nx σ H) :
    ∃ W : Nat → Nat → L2.St → Hp → Prop, (∃ m, W 0 m σ H) ∧ ∀ i m σ H, W i m σ H →
      ((IteT K a).stop i H ∧ D.nx σ H) ∨ ((IteT K a).go i H ∧ ∃ N : L2.St → Hp → Prop, (∀ σ' H', N σ' H' → ∃ m', m' < m ∧ W (i + 1) m' σ' H') ∧ ∀ v H', (IteT K a).yld i H v H' → g v σ H' fun σ2 H2 => tb { D with nx := N, ct := N, bk := D.nx } σ2 H2) := by
  refine ⟨fun i m σ H => m + i = xs.length ∧ Pv i σ H, ⟨xs.length, rfl, h0⟩, fun i m σ H ⟨hm, p⟩ => ?_⟩
  have qx := hq i σ H p
  cases m with
  | zero =>
    have e : i = xs.length := by omega
    exact .inl ⟨⟨xs, qx, Nat.le_of_eq e.symm⟩, hd σ H (by rw [← e]; exact p)⟩
  | succ m =>
    have l1 : i < xs.length := by omega
    exact .inr ⟨⟨xs, _, qx, List.getElem?_eq_getElem l1⟩, Pv (i + 1), fun σ' H' p' => ⟨m, Nat.lt_succ_self m, by omega, p'⟩, fun v H' ⟨T, x, ev, hT, eh, f1⟩ => by
      subst ev eh
      exact hs i x T σ H (f1 xs qx) p hT⟩
end K1

namespace K1
open PySem PySem.Spec PyProof.Rows L2 Own
/-! ### _law_expected -/
theorem leavesL_snoc (c : PyData) : ∀ (a : List PyData) (k : Nat), leavesL k (a ++ [c]) = leavesL k a ++ (leavesP c).map fun q => ((k + a.length) :: q.1, q.2)
  | [], k => by
    show leavesL k [c] = leavesL k [] ++ _
    rw [leavesL, leavesL, leavesL, List.append_nil]
    rfl
  | x :: a, k => by
    show leavesL k (x :: (a ++ [c])) = leavesL k (x :: a) ++ _
    rw [leavesL, leavesL, leavesL_snoc c a (k + 1), List.append_assoc]
    congr 2
    refine List.map_congr_left fun q _ => ?_
    show ((k + 1 + a.length) :: q.1, q.2) = ((k + (a.length + 1)) :: q.1, q.2)
    rw [show k + 1 + a.length = k + (a.length + 1) from by omega]
theorem leavesL_len {B : Nat} : ∀ (cs : List PyData) (k : Nat), (∀ c ∈ cs, (leavesP c).length ≤ B) → (leavesL k cs).length ≤ cs.length * B
  | [], _, _ => by
    rw [leavesL]
    exact Nat.zero_le _
  | c :: r, k, h => by
    have h1 := h c (List.mem_cons_self ..)
    have h2 := leavesL_len r (k + 1) fun x hx => h x (List.mem_cons_of_mem _ hx)
    rw [leavesL, List.length_append, List.length_map]
    show _ ≤ (r.length + 1) * B
    rw [Nat.succ_mul]
    omega
theorem leaves_few {ns : List Str} : ∀ (n : Nat) (d : PyData), TreeN ns n d → (leavesP d).length ≤ 4 ^ n := by
  have leaf : ∀ (n : Nat) (d : PyData), LeafN ns d → (leavesP d).length ≤ 4 ^ n := fun n d ⟨z, i, e, _⟩ => by
    subst e
    rw [leaves_leaf]
    exact Nat.one_le_pow _ _ (by decide)
  intro n
  induction n with
  | zero => exact leaf 0
  | succ n ih =>
    intro d h
    rcases h with h | ⟨m, cs, rfl, hm, l1, l4, hc⟩
    · exact leaf _ d h
    · rw [leaves_group]
      have a := leavesL_len (B := 4 ^ n) cs 0 fun c hcm => ih c (hc c hcm)
      have b : cs.length * 4 ^ n ≤ 4 * 4 ^ n := Nat.mul_le_mul_right _ l4
      rw [Nat.pow_succ]
      omega
theorem msgs_star : ∀ m ∈ msgs, m ≠ star := by decide +kernel
theorem treeN_k {ns : List Str} : ∀ (n : Nat) (d : PyData), TreeN ns n d → TreeK ns d := by
  have leaf : ∀ d : PyData, LeafN ns d → TreeK ns d := fun d ⟨z, i, e, hz, _⟩ => by
    subst e
    exact .leaf z i hz
  intro n
  induction n with
  | zero => exact leaf
  | succ n ih =>
    intro d h
    rcases h with h | ⟨m, cs, rfl, hm, l1, _, hc⟩
    · exact leaf d h
    · exact .group m cs (msgs_star m hm) (fun e => by rw [e] at l1; exact absurd l1 (by decide)) fun c hcm => ih c (hc c hcm)
theorem placeDp {K : PySem.W.Frag} {H : Hp} : ∀ p : List Nat, DpAll K H (p.map fun k : Nat => V.int (k : Int)) (p.map fun k : Nat => PyData.int (k : Int))
  | [] => .nil
  | k :: r => .cons (.int _) (placeDp r)
theorem placeD_snoc (p : List Nat) (k : Nat) : (p ++ [k]).map (fun (k : Nat) => PyData.int (k : Int)) = p.map (fun (k : Nat) => PyData.int (k : Int)) ++ [.int (k : Int)] := List.map_append ..
def spEx (K : PySem.W.Frag) (ns : List Str) (m : Nat) : Sp := fun vs H Q _ => ∃ (v pv : V) (p : List Nat) (n : Nat) (d : PyData), vs = [v, pv] ∧ n < m ∧ n ≤ 4 ∧ p.length + n ≤ 10 ∧ TreeN ns n d ∧ Dp K H v d ∧ Dp K H pv (placeD p) ∧
  ∀ H' q us, Same H H' → H q = none → H' q = some (.lst us) → DpAll K H' us ((below (p, d)).map entD) → Q (.ref q) H'
abbrev nE : List Str := ["item", "place", "found", "at", "child"]
section
variable {P : Program} {w : World} {K : PySem.W.Frag} {mg : Str → Option Value} {base : Heap}
theorem scE : FnScope nE ["item", "place"] (defScope sLawExpected) := ⟨rfl, rfl, rfl, by decide +kernel, rfl, by decide +kernel, by decide +kernel⟩
theorem ex_none {ns : List Str} {f : Addr} {fd : FuncData} : FnOk P w K mg base CX0 1 f fd ["item", "place"] (spEx K ns 0) := by
  have no : ∀ vs H Q E, ¬ spEx K ns 0 vs H Q E := fun vs H Q E ⟨_, _, _, _, _, _, h, _⟩ => Nat.not_lt_zero _ h
  exact ⟨fun vs H Q E h => absurd h (no vs H Q E), fun A out s H args us vs Q E _ _ _ _ h => absurd h (no vs H Q E)⟩
theorem ex_step {f : Addr} {fd : FuncData} {ns : List Str} {m : Nat} (F : Fun K "_law_expected" "_law_expected" sLawExpected f fd) (IH : FnOk P w K mg base CX0 (m + 1) f fd ["item", "place"] (spEx K ns m)) (bT : Binds K fd ["item", "place"] []) (mT : mg "_law_expected" = some (.ref f))
    (mi : mg "isinstance" = none) (mt : mg "tuple" = none) (me : mg "enumerate" = none) : FnOk P w K mg base CX0 (m + 2) f fd ["item", "place"] (spEx K ns (m + 1)) := by
  refine F.ok scE (fun vs H Q E h => ?_) (fun cdv A outer s_ H vs Q E hr h => ?_)
  · obtain ⟨v, pv, p, n, d, rfl, _⟩ := h
    rfl
  · obtain ⟨v, pv_, p, n, d, rfl, nm, n4, pn, tr, hv, hp, k⟩ := h
    refine ⟨_, pss_cons (ps_if (pt_not (pt_val (pe_callB call_isi (by rfl) mi (by decide +kernel) (pa_cons (pe_ix ix_tup (pv 0) pe_int (fun _ _ => rfl)) (pa_cons (pe_bltn (v := .ty "tuple") (u := .type "tuple") (by rfl) mt (by decide +kernel) rfl) pa_nil)))))
        (pss_one (ps_ret (pe_lst (pa_cons (pe_tup (pa_cons (pv 1) (pa_cons (pv 0) pa_nil))) pa_nil))))
        pss_nil)
      (pss_cons (ps_set (i := 2) scE.nd rfl (Or.inl rfl) (pe_lst pa_nil))
      (pss_cons (ps_for PassesOwn.never rfl (pi_enT (by rfl) me (pa_cons (pe_ix ix_tup (pv 0) pe_int (fun _ _ => rfl)) pa_nil)) (pg_tup rfl (pgs_cons (pg_name (i := 3) scE.nd rfl (Or.inl rfl)) (pgs_cons (pg_name (i := 4) scE.nd rfl (Or.inl rfl)) pgs_nil)))
        (pss_one (ps_set (i := 2) scE.nd rfl (Or.inl rfl) (pe_op op_cat (pv 2) (pe_call IH hr (by rfl) mT F.kp bT .nil pass0 (pa_cons (pv 4) (pa_cons (pe_op op_catW (pv 1) (pe_tup (pa_cons (pv 3) pa_nil))) pa_nil)))))))
      (pss_one (ps_ret (pv 2))))), ?_⟩
    rcases (treeN_k n d tr).split with ⟨z, i, rfl, hz⟩ | ⟨mm, cs, rfl, hm, ne, hcs⟩
    · obtain ⟨ta, w1, w2, rfl, hst, hw1, hw2⟩ := dp_pair hv
      refine ⟨_, rfl, ta, _, 1, w2, rfl, rfl, hst, rfl, w2, .ty "tuple", _, _, false, rfl, .ty "tuple", dp_ty hw2, kit_ty (kt_tuple _), _, rfl, iteT ⟨_, rfl, _, rfl, (by show 2 ≤ sizeLine; decide), fun t nt => ?_⟩⟩
      have s1 := same_upd (o := .tup [pv_, .ref ta]) nt
      have h1 := upd_same (H := H) (a := t) (o := .tup [pv_, .ref ta])
      generalize upd H t (.tup [pv_, .ref ta]) = H1 at s1 h1 ⊢
      refine ⟨(by show 1 ≤ sizeLine; decide), fun q nq => ?_⟩
      have s2 := same_upd (o := .lst [.ref t]) nq
      refine k _ q _ (s1.trans s2) (s1.free nq) upd_same ?_
      have e : (below (p, .tuple [.str z, .int i])).map entD = [entD (p, .tuple [.str z, .int i])] := by
        unfold below
        rw [leaves_leaf]
        show [entD (p ++ [], _)] = _
        rw [List.append_nil]
      rw [e]
      have s12 := s1.trans s2
      exact .cons (.tup (SqT.of (s2 _ _ h1)) (.cons (dp_same s12 hp) (.cons (dp_same s12 hv) .nil))) .nil
    · obtain ⟨n', rfl, l4, hc⟩ : ∃ n', n = n' + 1 ∧ cs.length ≤ 4 ∧ ∀ c ∈ cs, TreeN ns n' c := by
        cases n with
        | zero =>
          obtain ⟨z, i, e, _⟩ := tr
          cases e
        | succ n' =>
          rcases tr with ⟨z, i, e, _⟩ | ⟨m2, cs2, e, _, _, l4, hc⟩
          · cases e
          · have e := PyData.tuple.inj e
            have e := PyData.tuple.inj (List.cons.inj (List.cons.inj e).2).1
            subst e
            exact ⟨n', rfl, l4, hc⟩
      obtain ⟨ta, w1, w2, rfl, hst, hw1, hw2⟩ := dp_pair hv
      refine ⟨_, rfl, ta, _, 1, w2, rfl, rfl, hst, rfl, w2, .ty "tuple", _, _, true, rfl, .ty "tuple", dp_ty hw2, kit_ty (kt_tuple _), _, rfl, iteF ⟨Nat.zero_le _, fun fo nfo => ?_⟩⟩
      have s1 := same_upd (o := .lst []) nfo
      have h1 := upd_same (H := H) (a := fo) (o := .lst [])
      generalize upd H fo (.lst []) = H1 at s1 h1 ⊢
      obtain ⟨tb, xs, rfl, hxs, hxa⟩ : ∃ a xs, w2 = .ref a ∧ SqT K H a xs ∧ DpAll K H xs cs := by
        cases hw2 with
        | tup hs ha => exact ⟨_, _, rfl, hs, ha⟩
      have lx := dpAll_len hxa
      obtain ⟨pa, rfl, hpa⟩ := dp_place hp
      refine ⟨_, rfl, ta, _, 1, .ref tb, rfl, rfl, Same.tup s1 hst, rfl, tb, xs, rfl, Same.tup s1 hxs, ?_⟩
      refine for_enT (K := K) (a := tb) (xs := xs) (fun j σ J => ∃ fo us v3 v4, σ = [some (.ref ta), some (.ref pa), some (.ref fo), v3, v4] ∧ Same H J ∧ H fo = none ∧ J fo = some (.lst us) ∧ DpAll K J us ((leavesL 0 (cs.take j)).map fun x => entD (p ++ x.1, x.2)))
        ⟨fo, [], none, none, rfl, s1, nfo, h1, by rw [List.take_zero, leavesL]; exact .nil⟩ (fun j σ J ⟨_, _, _, _, _, sm, _⟩ => Same.tup sm hxs) ?_ ?_
      · rintro j u T σ J hu ⟨fo, us, v3, v4, rfl, sm, nf, hf, hus⟩ nT
        obtain ⟨c, hcj, hud⟩ := dpAll_at hxa hu
        have jl := (List.getElem?_eq_some_iff.mp hcj).1
        have cm := List.mem_of_getElem? hcj
        have sT := same_upd (o := .tup [.int (j : Nat), u]) nT
        have hT := upd_same (H := J) (a := T) (o := .tup [.int (j : Nat), u])
        generalize upd J T (.tup [.int (j : Nat), u]) = J1 at sT hT ⊢
        refine ⟨T, _, rfl, SqT.of hT, rfl, _, _, rfl, _, _, rfl, rfl, ?_⟩
        have lus := dpAll_len hus
        rw [List.length_map] at lus
        have b1 := leavesL_len (B := 4 ^ 4) (cs.take j) 0 fun x hx => Nat.le_trans (leaves_few n' x (hc x (List.mem_of_mem_take hx))) (Nat.pow_le_pow_right (by decide) (by omega))
        have b2 : (cs.take j).length * 4 ^ 4 ≤ 4 * 4 ^ 4 := Nat.mul_le_mul_right _ (by rw [List.length_take]; omega)
        refine ⟨_, rfl, _, rfl, _, rfl, _, rfl, (by show 1 ≤ sizeLine; decide), fun t2 nt2 => ?_⟩
        have s2 := same_upd (o := .tup [.int (j : Nat)]) nt2
        have h2 := upd_same (H := J1) (a := t2) (o := .tup [.int (j : Nat)])
        generalize upd J1 t2 (.tup [.int (j : Nat)]) = J2 at s2 h2 ⊢
        have sm2 := (sm.trans sT).trans s2
        refine ⟨pa, t2, _, _, rfl, rfl, Same.tup sm2 hpa, SqT.of h2, by rw [List.length_map]; show p.length + 1 ≤ 1000; omega, fun t3 J3 s3 h3 => ?_⟩
        have sm3 := sm2.trans s3
        refine ⟨u, .ref t3, p ++ [j], n', c, rfl, by omega, by omega, by rw [List.length_append]; show p.length + 1 + n' ≤ 10; omega, hc c cm, dp_same sm3 hud, ?_, fun J4 q4 us4 s4 nq4 hq4 hus4 => ?_⟩
        · refine .tup h3 ?_
          rw [placeD_snoc]
          exact dpAll_app (placeDp p) (.cons (.int _) .nil)
        have smJ4 := ((sT.trans s2).trans s3).trans s4
        have hf4 := smJ4 _ _ hf
        have lus4 := dpAll_len hus4
        have few4 : ((below (p ++ [j], c)).map entD).length ≤ 4 ^ 4 := by
          unfold below
          rw [List.length_map, List.length_map]
          exact Nat.le_trans (leaves_few n' c (hc c cm)) (Nat.pow_le_pow_right (by decide) (by omega))
        refine ⟨fo, q4, us, us4, rfl, rfl, hf4, hq4, by rw [sizeLine_eq]; omega, fun q5 nq5 => ?_⟩
        have s5 := same_upd (o := .lst (us ++ us4)) nq5
        have smF := (sm3.trans s4).trans s5
        refine ⟨q5, us ++ us4, _, _, rfl, smF, (sm3.trans s4).free nq5, upd_same, ?_⟩
        rw [List.take_add_one, hcj]
        show DpAll K _ _ ((leavesL 0 (cs.take j ++ [c])).map fun x => entD (p ++ x.1, x.2))
        rw [leavesL_snoc, List.map_append]
        refine dpAll_app (dpAll_same (smJ4.trans s5) hus) ?_
        have e : (below (p ++ [j], c)).map entD = ((leavesP c).map fun q => ((0 + (cs.take j).length) :: q.1, q.2)).map fun x => entD (p ++ x.1, x.2) := by
          unfold below
          rw [List.map_map, List.map_map]
          refine List.map_congr_left fun x _ => ?_
          show entD (p ++ [j] ++ x.1, x.2) = entD (p ++ (0 + (cs.take j).length) :: x.1, x.2)
          rw [List.append_assoc, List.length_take, Nat.zero_add, Nat.min_eq_left (by omega)]
          rfl
        rw [← e]
        exact dpAll_same s5 hus4
      · rintro σ J ⟨fo, us, v3, v4, rfl, sm, nf, hf, hus⟩
        refine ⟨_, rfl, k J fo us sm nf hf ?_⟩
        rw [lx, List.take_length] at hus
        unfold below
        rw [leaves_group, List.map_map]
        exact hus
end
end K1

namespace K1
open PySem PySem.Spec PyProof.Rows L2 Own
/-! ### _law_pairs -/
def headQ (qs : List (List Nat × PyData)) : List Nat × PyData := qs.headD ([], .none)
/-- a leaf's pair and the first one -/
def quadD (qs : List (List Nat × PyData)) (q : List Nat × PyData) : PyData := .tuple ([placeD q.1, q.2] ++ [placeD (headQ qs).1, (headQ qs).2])
theorem leafs_tree {ns : List Str} : ∀ {d : PyData}, TreeK ns d → ∀ q ∈ leavesP d, ∃ z i, q.2 = .tuple [.str z, .int i] ∧ z ∈ ns := by
  have many : ∀ (cs : List PyData) (k : Nat), (∀ c ∈ cs, ∀ q ∈ leavesP c, ∃ z i, q.2 = .tuple [.str z, .int i] ∧ z ∈ ns) → ∀ q ∈ leavesL k cs, ∃ z i, q.2 = .tuple [.str z, .int i] ∧ z ∈ ns := by
    intro cs
    induction cs with
    | nil =>
      intro k _ q hq
      rw [leavesL] at hq
      cases hq
    | cons c r ih =>
      intro k h q hq
      rw [leavesL] at hq
      rcases List.mem_append.mp hq with z | z
      · obtain ⟨x, hx, rfl⟩ := List.mem_map.mp z
        exact h c (List.mem_cons_self ..) x hx
      · exact ih (k + 1) (fun x hx => h x (List.mem_cons_of_mem _ hx)) q z
  intro d h
  induction h with
  | leaf z i hz =>
    rw [leaves_leaf]
    intro q hq
    rw [List.mem_singleton.mp hq]
    exact ⟨z, i, rfl, hz⟩
  | group m cs _ _ _ ih =>
    rw [leaves_group]
    exact many cs 0 ih
theorem leaf_flat {ns : List Str} {d : PyData} (h : TreeK ns d) {q : List Nat × PyData} (hq : q ∈ leavesP d) : noList q.2 = true := by
  obtain ⟨z, i, e, _⟩ := leafs_tree h q hq
  rw [e]
  rfl
theorem ent_flatL {ns : List Str} {d : PyData} (h : TreeK ns d) {q : List Nat × PyData} (hq : q ∈ leavesP d) : noList (entD q) = true := by
  show (noList (placeD q.1) && (noList q.2 && true)) = true
  rw [place_flat, leaf_flat h hq]
  rfl
theorem head_mem {qs : List (List Nat × PyData)} {q : List Nat × PyData} (h : qs[0]? = some q) : headQ qs = q := by
  cases qs with
  | nil => cases h
  | cons x r => exact Option.some.inj h
theorem quad_flat {ns : List Str} {d : PyData} (h : TreeK ns d) {q : List Nat × PyData} (hq : q ∈ leavesP d) : noList (quadD (leavesP d) q) = true := by
  have hm : headQ (leavesP d) ∈ leavesP d := by
    cases e : leavesP d with
    | nil =>
      rw [e] at hq
      cases hq
    | cons x r => exact List.mem_cons_self ..
  show (noList (placeD q.1) && (noList q.2 && (noList (placeD (headQ (leavesP d)).1) && (noList (headQ (leavesP d)).2 && true)))) = true
  rw [place_flat, leaf_flat h hq, place_flat, leaf_flat h hm]
  rfl
def spPairs (K : PySem.W.Frag) (ns : List Str) : Sp := fun vs H Q _ => ∃ (v : V) (d : PyData), vs = [v] ∧ Dp K H v d ∧ TreeK ns d ∧ ndD d ≤ 1000000 ∧ (leavesP d).length ≤ 900 ∧
  ∀ H' p us, Same H H' → H p = none → H' p = some (.lst us) → DpAll K H' us ((leavesP d).map (quadD (leavesP d))) → Q (.ref p) H'
abbrev nP : List Str := ["item", "found", "spot", "leaf", "other", "head"]
section
variable {P : Program} {w : World} {K : PySem.W.Frag} {mg : Str → Option Value} {base : Heap}
theorem scP : FnScope nP ["item"] (defScope sLawPairs) := ⟨rfl, rfl, rfl, by decide +kernel, rfl, by decide +kernel, by decide +kernel⟩
theorem ok_pairs {f fV : Addr} {fd dV : FuncData} {ns : List Str} {g : List Value → List Value → List Value} (F : Fun K "_law_pairs" "_law_pairs" sLawPairs f fd)
    (GV : GFn2 P w K mg base (fun _ => True) 2 fV dV ["tree"] (spLv K ns)) (kV : PySem.W.keepIn K (.ref fV) = true) (bV : Binds K dV ["tree"] []) (mV : mg "leaves" = some (.ref fV)) (nV : KBn K dV ["tree"] 0 ["tree"] g fun _ zs => zs) :
    FnOk P w K mg base CX0 4 f fd ["item"] (spPairs K ns) := by
  refine F.ok scP (fun vs H Q E h => ?_) (fun cdv A outer s_ H vs Q E hr h => ?_)
  · obtain ⟨v, d, rfl, _⟩ := h
    rfl
  · obtain ⟨v, d, rfl, hd, td, big, l9, k⟩ := h
    refine ⟨_, pss_cons (ps_set (i := 1) scP.nd rfl (Or.inl rfl) (pe_lst pa_nil))
      (pss_cons (ps_forY (fun _ _ h => h) rfl trivial hr (py_call (dvs := []) GV hr.depth (by rfl) mV kV bV .nil (pa_cons (pv 0) pa_nil)) (pg_tup rfl (pgs_cons (pg_name (i := 2) scP.nd rfl (Or.inl rfl)) (pgs_cons (pg_name (i := 3) scP.nd rfl (Or.inl rfl)) pgs_nil)))
        (pss_one (ps_forY (fun _ _ h => h) rfl trivial hr (py_callK GV hr.depth (by rfl) mV kV nV (pk_cons (pv 0) pk_nil)) (pg_tup rfl (pgs_cons (pg_name (i := 4) scP.nd rfl (Or.inl rfl)) (pgs_cons (pg_name (i := 5) scP.nd rfl (Or.inl rfl)) pgs_nil)))
          (pss_cons (ps_expr (pe_bm PySem.F.plainAttrs_list PySem.F.slot_list_append PySem.F.type_list_append mt_append (pv 1) (pa_cons (pe_tup (pa_cons (pv 2) (pa_cons (pv 3) (pa_cons (pv 4) (pa_cons (pv 5) pa_nil))))) pa_nil)))
          (pss_one ps_break)) PassesOwn.never)) PassesOwn.never)
      (pss_one (ps_ret (pv 1)))), ?_⟩
    refine ⟨Nat.zero_le _, fun p np => ?_⟩
    have s1 := same_upd (o := .lst []) np
    have hp1 := upd_same (H := H) (a := p) (o := .lst [])
    generalize upd H p (.lst []) = H1 at s1 hp1 ⊢
    refine ⟨_, rfl, lvJ K d, ⟨v, d, rfl, dp_same s1 hd, td, big, rfl⟩, fun i σ J => ∃ v2 v3 v4 v5 us, σ = [some v, some (.ref p), v2, v3, v4, v5] ∧ Same H J ∧ J p = some (.lst us) ∧ DpAll K J us (((leavesP d).take i).map (quadD (leavesP d))),
      ⟨_, _, _, _, [], rfl, s1, hp1, .nil⟩, ?_⟩
    rintro i σ J hi ⟨v2, v3, v4, v5, us, rfl, sm, hp, hus⟩
    have lus := dpAll_len hus
    rw [List.length_map, List.length_take] at lus
    refine ⟨fun e HE sE => ?_, fun hlt u HY ⟨sY, q, hq, hu⟩ => ?_⟩
    · have e : i = (leavesP d).length := e
      rw [e, List.take_length] at hus
      exact ⟨_, rfl, k HE p us (sm.trans sE) np (sE _ _ hp) (dpAll_same sE hus)⟩
    have hu : Dp K HY u (.tuple [placeD q.1, q.2]) := hu
    obtain ⟨ta, w1, w2, rfl, hst, hw1, hw2⟩ := dp_pair hu
    refine ⟨ta, _, rfl, hst, rfl, _, _, rfl, _, _, rfl, rfl, ?_⟩
    have smY := sm.trans sY
    refine ⟨_, rfl, rfl, lvJ K d, ⟨v, d, rfl, dp_same smY hd, td, big, rfl⟩, fun i2 σ2 J2 => i2 = 0 ∧ J2 = HY ∧ σ2 = [some v, some (.ref p), some w1, some w2, v4, v5], ⟨rfl, rfl, rfl⟩, ?_⟩
    rintro i2 σ2 J2 _ ⟨rfl, rfl, rfl⟩
    have qm := List.mem_of_getElem? hq
    have pos : 0 < (leavesP d).length := List.length_pos_of_mem qm
    refine ⟨fun e => ?_, fun _ u2 HZ ⟨sZ, q2, hq2, hu2⟩ => ?_⟩
    · have e : 0 = (leavesP d).length := e
      omega
    have hu2 : Dp K HZ u2 (.tuple [placeD q2.1, q2.2]) := hu2
    obtain ⟨tc, w3, w4, rfl, hst2, hw3, hw4⟩ := dp_pair hu2
    refine ⟨tc, _, rfl, hst2, rfl, _, _, rfl, _, _, rfl, rfl, ?_⟩
    have hpZ := sZ _ _ (sY _ _ hp)
    refine ⟨_, rfl, .inl ⟨rfl, _, SqL.of hpZ⟩, _, rfl, _, rfl, _, rfl, _, rfl, (by show 4 ≤ sizeLine; decide), fun t nt => ?_⟩
    have s2 := same_upd (o := .tup [w1, w2, w3, w4]) nt
    have h2 := upd_same (H := HZ) (a := t) (o := .tup [w1, w2, w3, w4])
    generalize upd HZ t (.tup [w1, w2, w3, w4]) = J3 at s2 h2 ⊢
    have hp3 := s2 _ _ hpZ
    refine ⟨p, us, .ref t, rfl, rfl, hp3, by rw [sizeLine_eq]; omega, ?_⟩
    have stc := stay_upd (o := .lst (us ++ [.ref t])) hp3
    have smF := (smY.trans sZ).trans s2
    refine ⟨((KT.of sZ).trans (KT.of s2)).trans (kt_upd hp3), _, _, _, _, us ++ [.ref t], rfl, same_past np smF, upd_same, ?_⟩
    have hq2 : (leavesP d)[0]? = some q2 := hq2
    rw [List.take_add_one, hq, List.map_append]
    refine dpAll_app (dpAll_stay stc (dpAll_same ((sY.trans sZ).trans s2) hus) (noListAll_of fun e he => ?_)) (.cons (dp_stay stc ?_ (quad_flat td qm)) .nil)
    · obtain ⟨x, hx, rfl⟩ := List.mem_map.mp he
      exact quad_flat td (List.mem_of_mem_take hx)
    · unfold quadD
      rw [head_mem hq2]
      exact .tup (SqT.of h2) (.cons (dp_same (sZ.trans s2) hw1) (.cons (dp_same (sZ.trans s2) hw2) (.cons (dp_same s2 hw3) (.cons (dp_same s2 hw4) .nil))))
end
end K1

namespace K1
open PySem PySem.Spec PyProof.Rows L2 Own
/-! ### leaves with their places, written -/
structure LeafQ (ns : List Str) (n : Nat) (q : List Nat × PyData) : Prop where
  len : q.1.length ≤ n
  low : ∀ k ∈ q.1, k < 16
  leaf : LeafN ns q.2
theorem leafL_q {ns : List Str} {n : Nat} : ∀ (cs : List PyData) (k : Nat), k + cs.length ≤ 16 → (∀ c ∈ cs, ∀ q ∈ leavesP c, LeafQ ns n q) → ∀ q ∈ leavesL k cs, LeafQ ns (n + 1) q
  | [], k, _, _ => fun q hq => by
    rw [leavesL] at hq
    cases hq
  | c :: r, k, hk, h => fun q hq => by
    have hk : k + (r.length + 1) ≤ 16 := hk
    rw [leavesL] at hq
    rcases List.mem_append.mp hq with z | z
    · obtain ⟨x, hx, rfl⟩ := List.mem_map.mp z
      obtain ⟨a, b, l⟩ := h c (List.mem_cons_self ..) x hx
      exact ⟨Nat.succ_le_succ a, fun j hj => by
        rcases List.mem_cons.mp hj with e | e
        · rw [e]
          omega
        · exact b j e, l⟩
    · exact leafL_q r (k + 1) (by omega) (fun x hx => h x (List.mem_cons_of_mem _ hx)) q z
theorem leaf_q {ns : List Str} : ∀ (n : Nat) (d : PyData), TreeN ns n d → ∀ q ∈ leavesP d, LeafQ ns n q := by
  have leaf : ∀ (n : Nat) (d : PyData), LeafN ns d → ∀ q ∈ leavesP d, LeafQ ns n q := fun n d h q hq => by
    obtain ⟨z, i, e, hz⟩ := id h
    subst e
    rw [leaves_leaf] at hq
    rw [List.mem_singleton.mp hq]
    exact ⟨Nat.zero_le _, (fun k hk => nomatch hk), h⟩
  intro n
  induction n with
  | zero => exact leaf 0
  | succ n ih =>
    intro d h
    rcases h with h | ⟨m, cs, rfl, hm, l1, l4, hc⟩
    · exact leaf _ d h
    · rw [leaves_group]
      exact leafL_q cs 0 (by omega) fun c hcm q hq => ih c (hc c hcm) q hq
theorem int_short : ∀ i : Fin 16, ((toString (i.val : Int) : String) : Str).length ≤ 2 := by decide +kernel
theorem shown_low {i : Int} (h0 : 0 ≤ i) (h : i < 16) : (PyData.int i).shown.length ≤ 2 ∧ (PyData.int i).showable = true := by
  obtain ⟨n, rfl⟩ : ∃ n : Nat, i = (n : Int) := ⟨i.toNat, by omega⟩
  refine ⟨int_short ⟨n, by omega⟩, ?_⟩
  have hl : ∀ n : Fin 16, decide (((n.val : Int).natAbs).log2 < 1920) = true := by decide +kernel
  exact hl ⟨n, by omega⟩
theorem piled_map {α : Type} {f : α → Str} {B : Nat} : ∀ l : List α, (∀ x ∈ l, (f x).length ≤ B) → piled (l.map f) ≤ l.length * (B + 2)
  | [], _ => Nat.zero_le _
  | x :: r, h => by
    have h1 := h x (List.mem_cons_self ..)
    have h2 := piled_map r fun y hy => h y (List.mem_cons_of_mem _ hy)
    rw [List.map_cons, piled_cons]
    show _ ≤ (r.length + 1) * (B + 2)
    rw [Nat.succ_mul]
    omega
theorem shownAll_map : ∀ ds : List PyData, PyData.shownAll ds = ds.map PyData.shown
  | [] => rfl
  | d :: r => by
    show d.shown :: PyData.shownAll r = _
    rw [shownAll_map r]
    rfl
section
variable {ns : List Str} (nok : ∀ z ∈ ns, NameOk z)
include nok
/-- an entry: what it is, and how long its text is -/
theorem ent_ok {q : List Nat × PyData} (h : LeafQ ns 4 q) : okD (entD q) = true ∧ (entD q).depth ≤ 2 ∧ (entD q).showable = true ∧ (entD q).shown.length ≤ 200 := by
  obtain ⟨len, low, z, i, e, hz, i0, i9⟩ := h
  obtain ⟨p, l⟩ := q
  subst e
  have len : p.length ≤ 4 := len
  have okp : okD (placeD p) = true := by
    show (decide ((p.map fun k : Nat => PyData.int (k : Int)).length ≤ 1000) && okAll (p.map fun k : Nat => PyData.int (k : Int))) = true
    rw [List.length_map, decide_eq_true (by omega), okAll_of fun d hd => by
      obtain ⟨k, _, rfl⟩ := List.mem_map.mp hd
      rfl]
    rfl
  have dpp : (placeD p).depth ≤ 1 := by
    show PyData.depthAll (p.map fun k : Nat => PyData.int (k : Int)) + 1 ≤ 1
    have := depAll_le (ds := p.map fun k : Nat => PyData.int (k : Int)) (n := 0) fun d hd => by
      obtain ⟨k, _, rfl⟩ := List.mem_map.mp hd
      exact Nat.le_refl _
    omega
  have pint : ∀ k ∈ p, (PyData.int (k : Int)).shown.length ≤ 2 ∧ (PyData.int (k : Int)).showable = true := fun k hk => shown_low (by omega) (by have := low k hk; omega)
  have shp : (placeD p).showable = true := showAll_of fun d hd => by
    obtain ⟨k, hk, rfl⟩ := List.mem_map.mp hd
    exact (pint k hk).2
  have lnp : (placeD p).shown.length ≤ 19 := by
    have a := tupleText_le (PyData.shownAll (p.map fun k : Nat => PyData.int (k : Int)))
    have b := piled_map (f := fun k : Nat => (PyData.int (k : Int)).shown) (B := 2) p fun k hk => (pint k hk).1
    have c : p.length * (2 + 2) ≤ 4 * (2 + 2) := Nat.mul_le_mul_right _ len
    rw [shownAll_map, List.map_map] at a
    show (tupleText (PyData.shownAll (p.map fun k : Nat => PyData.int (k : Int)))).length ≤ 19
    rw [shownAll_map, List.map_map]
    have b : piled (p.map (PyData.shown ∘ fun k : Nat => PyData.int (k : Int))) ≤ p.length * (2 + 2) := b
    omega
  have okz := name_ok (nok z hz)
  have zl := (nok z hz).2.1
  have nz := shown_le (.str z) okz rfl
  have nz : (PyData.str z).shown.length ≤ 10 * z.length + 2 := nz
  obtain ⟨ni, si⟩ := shown_low i0 (by omega : i < 16)
  have lnl : (PyData.tuple [.str z, .int i]).shown.length ≤ 10 * z.length + 11 := by
    have a := tupleText_le [(PyData.str z).shown, (PyData.int i).shown]
    rw [piled_cons, piled_cons, piled_nil] at a
    show (tupleText [(PyData.str z).shown, (PyData.int i).shown]).length ≤ _
    omega
  refine ⟨?_, ?_, ?_, ?_⟩
  · show (true && (okD (placeD p) && ((true && (okD (.str z) && (okD (.int i) && true))) && true))) = true
    rw [okp, okz]
    rfl
  · show max (placeD p).depth (max (max 0 (max 0 0) + 1) 0) + 1 ≤ 2
    omega
  · show ((placeD p).showable && ((true && ((PyData.int i).showable && true)) && true)) = true
    rw [shp, si]
    rfl
  · have a := tupleText_le [(placeD p).shown, (PyData.tuple [.str z, .int i]).shown]
    rw [piled_cons, piled_cons, piled_nil] at a
    show (tupleText [(placeD p).shown, (PyData.tuple [.str z, .int i]).shown]).length ≤ 200
    omega
/-- the list of them -/
theorem ents_ok {qs : List (List Nat × PyData)} (few : qs.length ≤ 256) (h : ∀ q ∈ qs, LeafQ ns 4 q) : okD (.list (qs.map entD)) = true ∧ (PyData.list (qs.map entD)).depth ≤ 3 ∧ (PyData.list (qs.map entD)).showable = true ∧ (PyData.list (qs.map entD)).shown.length ≤ 60000 := by
  refine ⟨?_, ?_, ?_, ?_⟩
  · show (decide ((qs.map entD).length ≤ 1000) && okAll (qs.map entD)) = true
    rw [List.length_map, decide_eq_true (by omega), okAll_of fun d hd => by
      obtain ⟨q, hq, rfl⟩ := List.mem_map.mp hd
      exact (ent_ok nok (h q hq)).1]
    rfl
  · show PyData.depthAll (qs.map entD) + 1 ≤ 3
    have := depAll_le (ds := qs.map entD) (n := 2) fun d hd => by
      obtain ⟨q, hq, rfl⟩ := List.mem_map.mp hd
      exact (ent_ok nok (h q hq)).2.1
    omega
  · exact showAll_of fun d hd => by
      obtain ⟨q, hq, rfl⟩ := List.mem_map.mp hd
      exact (ent_ok nok (h q hq)).2.2.1
  · have a := listText_le (PyData.shownAll (qs.map entD))
    have b := piled_map (f := fun q => (entD q).shown) (B := 200) qs fun q hq => (ent_ok nok (h q hq)).2.2.2
    have c : qs.length * (200 + 2) ≤ 256 * (200 + 2) := Nat.mul_le_mul_right _ few
    rw [shownAll_map, List.map_map] at a
    show (listText (PyData.shownAll (qs.map entD))).length ≤ 60000
    rw [shownAll_map, List.map_map]
    have b : piled (qs.map (PyData.shown ∘ entD)) ≤ qs.length * (200 + 2) := b
    omega
end
end K1

namespace K1
open PySem PySem.Spec PyProof.Rows L2 Own
/-! ### the law -/
def spExA (K : PySem.W.Frag) : Sp := fun vs H Q E => ∃ ns, spEx K ns 5 vs H Q E
def spPairsA (K : PySem.W.Frag) : Sp := fun vs H Q E => ∃ ns, spPairs K ns vs H Q E
def spLvA (K : PySem.W.Frag) : SpY := fun vs H J => ∃ ns, spLv K ns vs H J
def spLaw (K : PySem.W.Frag) : Sp := fun vs H Q _ => ∃ (a : Addr) (ns : List Int), vs = [.ref a] ∧ SqL K H a (ns.map V.int) ∧ ns.length ≤ 63 ∧ ∀ H', Q (.bl true) H'
abbrev nL : List Str := ["script", "k", "source", "turn", "labels", "item", "expected", "pair"]
theorem even3 {d : Int} (h0 : 0 ≤ d) (h1 : d < 3) : ∃ n : Nat, atI [V.int 0, V.int 2, V.int 4] d = some (V.int ((n : Nat) : Int)) ∧ n ≤ 4 := by
  have c : d = 0 ∨ d = 1 ∨ d = 2 := by omega
  rcases c with e | e | e
  · subst e
    exact ⟨0, rfl, by decide⟩
  · subst e
    exact ⟨2, rfl, by decide⟩
  · subst e
    exact ⟨4, rfl, by decide⟩
theorem yes_ite {σ : L2.St} {H : Hp} {A B : Hp → Prop} (h : A H) : tYes σ H fun b H3 => if b = true then A H3 else B H3 := by
  show if true = true then A H else B H
  rw [if_pos rfl]
  exact h
theorem below_nil (d : PyData) : below ([], d) = leavesP d := by
  unfold below
  show (leavesP d).map (fun x => (x.1, x.2)) = _
  exact List.map_id _
theorem LeafQ.mono {ns : List Str} {n m : Nat} {q : List Nat × PyData} (h : LeafQ ns n q) (nm : n ≤ m) : LeafQ ns m q := ⟨Nat.le_trans h.len nm, h.low, h.leaf⟩
theorem quads_ok {ns : List Str} (nok : ∀ z ∈ ns, NameOk z) {qs : List (List Nat × PyData)} (few : qs.length ≤ 256) (h : ∀ q ∈ qs, LeafQ ns 4 q) : okD (.list (qs.map (quadD qs))) = true ∧ (PyData.list (qs.map (quadD qs))).depth ≤ 3 := by
  have one : ∀ q ∈ qs, okD (quadD qs q) = true ∧ (quadD qs q).depth ≤ 2 := fun q hq => by
    have hm : headQ qs ∈ qs := by
      cases e : qs with
      | nil =>
        rw [e] at hq
        cases hq
      | cons x r => exact List.mem_cons_self ..
    obtain ⟨a, b, _⟩ := ent_ok nok (h q hq)
    obtain ⟨a2, b2, _⟩ := ent_ok nok (h _ hm)
    have a : (true && (okD (placeD q.1) && (okD q.2 && true))) = true := a
    have a2 : (true && (okD (placeD (headQ qs).1) && (okD (headQ qs).2 && true))) = true := a2
    have b : max (placeD q.1).depth (max q.2.depth 0) + 1 ≤ 2 := b
    have b2 : max (placeD (headQ qs).1).depth (max (headQ qs).2.depth 0) + 1 ≤ 2 := b2
    simp only [Bool.and_eq_true, true_and, and_true] at a a2
    refine ⟨?_, ?_⟩
    · show (true && (okD (placeD q.1) && (okD q.2 && (okD (placeD (headQ qs).1) && (okD (headQ qs).2 && true))))) = true
      rw [a.1, a.2, a2.1, a2.2]
      rfl
    · show max (placeD q.1).depth (max q.2.depth (max (placeD (headQ qs).1).depth (max (headQ qs).2.depth 0))) + 1 ≤ 2
      omega
  refine ⟨?_, ?_⟩
  · show (decide ((qs.map (quadD qs)).length ≤ 1000) && okAll (qs.map (quadD qs))) = true
    rw [List.length_map, decide_eq_true (by omega), okAll_of fun d hd => by
      obtain ⟨q, hq, rfl⟩ := List.mem_map.mp hd
      exact (one q hq).1]
    rfl
  · show PyData.depthAll (qs.map (quadD qs)) + 1 ≤ 3
    have := depAll_le (ds := qs.map (quadD qs)) (n := 2) fun d hd => by
      obtain ⟨q, hq, rfl⟩ := List.mem_map.mp hd
      exact (one q hq).2
    omega
section
variable {P : Program} {w : World} {K : PySem.W.Frag} {mg : Str → Option Value} {base : Heap}
theorem ex_all {f : Addr} {fd : FuncData} (G : ∀ ns, FnOk P w K mg base CX0 6 f fd ["item", "place"] (spEx K ns 5)) : FnOk P w K mg base CX0 6 f fd ["item", "place"] (spExA K) :=
  ⟨fun vs H Q E ⟨ns, h⟩ => (G ns).len vs H Q E h, fun A outer s H args us vs Q E a b c d ⟨ns, h⟩ => (G ns).run A outer s H args us vs Q E a b c d h⟩
theorem pairs_all {f : Addr} {fd : FuncData} (G : ∀ ns, FnOk P w K mg base CX0 4 f fd ["item"] (spPairs K ns)) : FnOk P w K mg base CX0 4 f fd ["item"] (spPairsA K) :=
  ⟨fun vs H Q E ⟨ns, h⟩ => (G ns).len vs H Q E h, fun A outer s H args us vs Q E a b c d ⟨ns, h⟩ => (G ns).run A outer s H args us vs Q E a b c d h⟩
theorem lv_all {f : Addr} {fd : FuncData} (G : ∀ ns, GFn2 P w K mg base (fun _ => True) 2 f fd ["tree"] (spLv K ns)) : GFn2 P w K mg base (fun _ => True) 2 f fd ["tree"] (spLvA K) :=
  ⟨fun vs H J ⟨ns, h⟩ => (G ns).len vs H J h, fun A outer s H args us vs J a b c d ⟨ns, h⟩ => (G ns).run A outer s H args us vs J a b c d h⟩
theorem scLaw : FnScope nL ["script"] (defScope sLaw) := ⟨rfl, rfl, rfl, by decide +kernel, rfl, by decide +kernel, by decide +kernel⟩
theorem ok_law {f fS fD fN fT fE fP fV : Addr} {fd dS dD dN dT dE dP dV : FuncData} (F : Fun K "law" "law" sLaw f fd)
    (GS : FnOk P w K mg base CX0 1 fS dS ["script", "at"] (spSource K)) (kS : PySem.W.keepIn K (.ref fS) = true) (bS : Binds K dS ["script", "at"] []) (mS : mg "_law_source" = some (.ref fS))
    (GD : FnOk P w K mg base CX0 1 fD dD ["source", "many"] spDraw) (kD : PySem.W.keepIn K (.ref fD) = true) (bD : Binds K dD ["source", "many"] []) (mD : mg "_law_draw" = some (.ref fD))
    (GN : FnOk P w K mg base CX0 2 fN dN ["source", "many"] spNames) (kN : PySem.W.keepIn K (.ref fN) = true) (bN : Binds K dN ["source", "many"] []) (mN : mg "_law_random_names" = some (.ref fN))
    (GT : FnOk P w K mg base CX0 6 fT dT ["source", "labels", "depth", "room"] (spRT K 5)) (kT : PySem.W.keepIn K (.ref fT) = true) (bT : Binds K dT ["source", "labels", "depth", "room"] []) (mT : mg "_law_random_tree" = some (.ref fT))
    (GE : FnOk P w K mg base CX0 6 fE dE ["item", "place"] (spExA K)) (kE : PySem.W.keepIn K (.ref fE) = true) (bE : Binds K dE ["item", "place"] []) (mE : mg "_law_expected" = some (.ref fE))
    (GP : FnOk P w K mg base CX0 4 fP dP ["item"] (spPairsA K)) (kP : PySem.W.keepIn K (.ref fP) = true) (bP : Binds K dP ["item"] []) (mP : mg "_law_pairs" = some (.ref fP))
    (GV : GFn2 P w K mg base (fun _ => True) 2 fV dV ["tree"] (spLvA K)) (kV : PySem.W.keepIn K (.ref fV) = true) (bV : Binds K dV ["tree"] []) (mV : mg "leaves" = some (.ref fV))
    (mr : mg "range" = none) (mmax : mg "max" = none) (mmin : mg "min" = none) (ml : mg "len" = none) (mli : mg "list" = none) (mrp : mg "repr" = none) : FnG P w K mg base 7 f fd ["script"] (spLaw K) := by
  refine okG F scLaw (fun vs H Q E h => ?_) (fun cdv A outer s_ H vs Q E hc hr h => ?_)
  · obtain ⟨a, ns, rfl, _⟩ := h
    rfl
  · obtain ⟨a, ns, rfl, hS, h63, k⟩ := h
    have hr1 : Room 1 _ := hr.mono (by decide)
    have hr2 : Room 2 _ := hr.mono (by decide)
    have hr3 : Room 3 _ := hr.mono (by decide)
    have hr4 : Room 4 _ := hr.mono (by decide)
    have hr5 : Room 5 _ := hr.mono (by decide)
    have hr6 : Room 6 _ := hr.mono (by decide)
    refine ⟨_, pss_cons (ps_for PassesOwn.never rfl (pi_range1 (by rfl) mr (pa_cons (pe_callB (call_max2 rfl) (by rfl) mmax (by decide +kernel) (pa_cons pe_int (pa_cons (pe_callB (call_min2 rfl) (by rfl) mmin (by decide +kernel) (pa_cons pe_int (pa_cons (pe_callB call_len_seq (by rfl) ml PySem.boot_len (pa_cons (pv 0) pa_nil)) pa_nil))) pa_nil))) pa_nil)) (pg_name (i := 1) scLaw.nd rfl (Or.inl rfl))
        (pss_cons (ps_set (i := 2) scLaw.nd rfl (Or.inl rfl) (pe_call GS hr1 (by rfl) mS kS bS .nil pass0 (pa_cons (pv 0) (pa_cons (pv 1) pa_nil))))
        (pss_one (ps_for PassesOwn.never rfl (pi_range1 (by rfl) mr (pa_cons pe_int pa_nil)) (pg_name (i := 3) scLaw.nd rfl (Or.inl rfl))
          (pss_cons (ps_set (i := 4) scLaw.nd rfl (Or.inl rfl) (pe_call GN hr2 (by rfl) mN kN bN .nil pass0 (pa_cons (pv 2) (pa_cons (pe_op op_add pe_int (pe_call GD hr1 (by rfl) mD kD bD .nil pass0 (pa_cons (pv 2) (pa_cons pe_int pa_nil)))) pa_nil))))
          (pss_cons (ps_set (i := 5) scLaw.nd rfl (Or.inl rfl) (pe_call GT hr6 (by rfl) mT kT bT .nil pass0 (pa_cons (pv 2) (pa_cons (pv 4) (pa_cons (pe_ix ix_list (pe_lst (pa_cons pe_int (pa_cons pe_int (pa_cons pe_int pa_nil)))) (pe_call GD hr1 (by rfl) mD kD bD .nil pass0 (pa_cons (pv 2) (pa_cons pe_int pa_nil))) (fun _ _ => rfl)) (pa_cons (pe_lst (pa_cons pe_int pa_nil)) pa_nil))))))
          (pss_cons (ps_set (i := 6) scLaw.nd rfl (Or.inr rfl) (pe_call GE hr6 (by rfl) mE kE bE .nil pass0 (pa_cons (pv 5) (pa_cons (pe_tup pa_nil) pa_nil))))
          (pss_cons (ps_if (PW.pt (pw_or (pt_cmpR (op_neD hr.units) (pe_listY rfl trivial hr5 (py_call (dvs := []) GV hr.depth (by rfl) mV kV bV .nil (pa_cons (pv 5) pa_nil)) (by rfl) mli (by decide +kernel)) (pv 6) (nomark _))
              (pw_or1 (pt_cmpR op_ne (pe_callB (call_reprD hc hr1) (by rfl) mrp (by decide +kernel) (pa_cons (pe_lcY (own := [("pair", 7)]) (g := gName 7) (tt := tYes) (te := tVar 7) trivial hr3 rfl scLaw.nd (py_call (dvs := []) GV hr.depth (by rfl) mV kV bV .nil (pa_cons (pv 5) pa_nil)) (blkOk_by (N := nL) (sc := defScope sLaw) (by decide +kernel)) (by decide)
                  (fun _ _ _ _ _ => pg_name (i := 7) scLaw.nd rfl (Or.inl rfl)) (fun _ _ _ _ _ => pts_nil) (fun _ _ _ _ _ => pv 7)) pa_nil))
                (pe_callB (call_reprD hc hr1) (by rfl) mrp (by decide +kernel) (pa_cons (pv 6) pa_nil)) (nomark _)))))
            (pss_one (ps_ret pe_bl))
            pss_nil)
          (pss_one (ps_if (pt_cmpR (op_neD hr.units) (pe_call GP hr4 (by rfl) mP kP bP .nil pass0 (pa_cons (pv 5) pa_nil))
              (pe_lc (own := [("pair", 7)]) (g := gName 7) (tt := tYes) (te := tOp (rCatW K) (tVar 7) (tOp (rIxL K) (tVar 6) (tC (.int 0)))) rfl scLaw.nd (pi_list (pv 6)) (blkOk_by (N := nL) (sc := defScope sLaw) (by decide +kernel)) (fun _ _ _ _ _ => pg_name (i := 7) scLaw.nd rfl (Or.inl rfl)) (fun _ _ _ _ _ => pts_nil) (fun _ _ _ _ _ => pe_op op_catW (pv 7) (pe_ix ix_list (pv 6) pe_int (fun _ _ => rfl)))) (nomark _))
            (pss_one (ps_ret pe_bl))
            pss_nil))))))))))
      (pss_one (ps_ret (pe_cmpR (op_eqD hr.units) (pe_listY rfl trivial hr5 (py_call (dvs := []) GV hr.depth (by rfl) mV kV bV .nil (pa_cons (pe_tup (pa_cons pe_str (pa_cons pe_int pa_nil))) pa_nil)) (by rfl) mli (by decide +kernel))
        (pe_lst (pa_cons (pe_tup (pa_cons (pe_tup pa_nil) (pa_cons (pe_tup (pa_cons pe_str (pa_cons pe_int pa_nil))) pa_nil))) pa_nil)) (nomark _)))), ?_⟩
    have hl : (ns.map V.int).length = ns.length := List.length_map _
    have cm_ : ∀ z : Nat, z ≤ 63 → (1 : Int) ≤ (if (if ((z : Nat) : Int) < 4 then ((z : Nat) : Int) else 4) > 1 then (if ((z : Nat) : Int) < 4 then ((z : Nat) : Int) else 4) else 1) ∧ (if (if ((z : Nat) : Int) < 4 then ((z : Nat) : Int) else 4) > 1 then (if ((z : Nat) : Int) < 4 then ((z : Nat) : Int) else 4) else 1) ≤ 4 := fun z hz => by
      split <;> split at * <;> omega
    have cb := cm_ (ns.map V.int).length (by omega)
    refine ⟨_, rfl, a, _, rfl, .inl hS, _, _, rfl, _, _, rfl, _, rfl, (by omega), (by omega), ?_⟩
    generalize (if (if (((ns.map V.int).length : Nat) : Int) < 4 then (((ns.map V.int).length : Nat) : Int) else 4) > 1 then (if (((ns.map V.int).length : Nat) : Int) < 4 then (((ns.map V.int).length : Nat) : Int) else 4) else 1) = many at cb ⊢
    refine for_range (lo := 0) (fun i σ H' => ∃ v1 v2 v3 v4 v5 v6 v7, σ = [some (.ref a), v1, v2, v3, v4, v5, v6, v7] ∧ Same H H') ⟨_, _, _, _, _, _, _, rfl, Same.refl H⟩ ?_ ?_
    · rintro i σ H0 hi ⟨v1, v2, v3, v4, v5, v6, v7, rfl, sm⟩
      refine ⟨_, rfl, _, rfl, a, ns, (0 + (i : Int)), rfl, sm.seq hS, h63, (by omega), fun s H1 s1 nS sr1 => ?_⟩
      have nSH : H s = none := sm.free nS
      refine ⟨5, rfl, (by decide), (by decide), ?_⟩
      refine for_range (lo := 0) (fun t σ H' => ∃ v3 v4 v5 v6 v7, σ = [some (.ref a), some (.int (0 + (i : Int))), some (.ref s), v3, v4, v5, v6, v7] ∧ Keep s H1 H' ∧ Src H' s) ⟨_, _, _, _, _, rfl, Keep.refl s H1, sr1⟩ ?_ ?_
      · rintro t σ H2 ht ⟨v3, v4, v5, v6, v7, rfl, kp, sr2⟩
        refine ⟨_, rfl, _, rfl, s, 7, rfl, sr2, (by decide), (by decide), fun d1 H3 e0 e1 sr3 k3 => ?_⟩
        obtain ⟨m, rfl⟩ : ∃ m : Nat, d1 = (m : Int) := ⟨d1.toNat, by omega⟩
        refine ⟨_, _, rfl, rfl, s, 1 + m, ?_, sr3, (by omega), fun H4 L ns4 k4 sr4 nL hL lL dr => ?_⟩
        · show [V.ref s, V.int (1 + (m : Int))] = [V.ref s, V.int ((1 + m : Nat) : Int)]
          rw [show (1 + (m : Int)) = ((1 + m : Nat) : Int) from by omega]
        have nok : ∀ z ∈ ns4, NameOk z := fun z hz => (dr.2 z hz).1
        have Ls : L ≠ s := sr4.ne hL
        -- the tree
        refine ⟨_, rfl, _, rfl, (by show 3 ≤ sizeLine; decide), fun q0 nq0 => ?_⟩
        have s5 := same_upd (o := .lst [.int 0, .int 2, .int 4]) nq0
        have hq0 := upd_same (H := H4) (a := q0) (o := .lst [.int 0, .int 2, .int 4])
        generalize upd H4 q0 (.lst [.int 0, .int 2, .int 4]) = H5 at s5 hq0 ⊢
        have q0s : q0 ≠ s := fun e => by
          obtain ⟨u, w, z, _⟩ := sr4
          rw [e, z] at nq0
          cases nq0
        refine ⟨_, rfl, s, 3, rfl, sr4.same s5, (by decide), (by decide), fun d3 H6 f0 f1 sr6 k6 => ?_⟩
        obtain ⟨n, hn, n4⟩ := even3 f0 f1
        refine ⟨q0, _, d3, _, rfl, rfl, SqL.of (k6 q0 _ q0s hq0), hn, (by show 1 ≤ sizeLine; decide), fun r nr => ?_⟩
        have s7 := same_upd (o := .lst [.int 12]) nr
        have k46 : Keep s H4 H6 := (Keep.of s5).trans k6
        have hL6 := k46 L _ Ls hL
        have p44 : p4 n ≤ 256 := by
          have : n = 0 ∨ n = 1 ∨ n = 2 ∨ n = 3 ∨ n = 4 := by omega
          rcases this with e | e | e | e | e <;> (rw [e]; decide)
        refine ⟨s, L, r, ns4, n, 12, rfl, (by omega), (by omega), sr6.same s7, s7 _ _ hL6, (by omega), (by omega), nok, upd_same, (by show 12 + p4 n ≤ 1000000; omega), fun H7 vi d z7 k7 sr7 hr7 _ _ hd tr => ?_⟩
        have k67 : Keep s H6 H7 := fun b o nb e => k7 b o nb (ne_of_none e nr) (s7 _ _ e)
        have k27 : Keep s H2 H7 := ((k3.trans k4).trans k46).trans k67
        have td := treeN_k n d tr
        have few : (leavesP d).length ≤ 256 := Nat.le_trans (leaves_few n d tr) (Nat.pow_le_pow_right (n := 4) (by decide) n4)
        have big : ndD d ≤ 1000000 := by
          obtain ⟨_, _, q⟩ := tree_ok nok n d tr
          have : n = 0 ∨ n = 1 ∨ n = 2 ∨ n = 3 ∨ n = 4 := by omega
          rcases this with e | e | e | e | e <;> (rw [e] at q; omega)
        have lq : ∀ q ∈ leavesP d, LeafQ ns4 4 q := fun q hq => (leaf_q n d tr q hq).mono n4
        obtain ⟨eok, edp, esh, eln⟩ := ents_ok nok few lq
        have eshp : SeqAt.shaped (.list ((leavesP d).map entD)) = true := Fit.shaped ⟨eok, by omega⟩
        have eself := SeqAt.eqv_refl _ (ok_lay _ eok)
        -- expected
        refine ⟨_, rfl, (by show 0 ≤ sizeLine; decide), fun e0 ne0 => ?_⟩
        have s8 := same_upd (o := .tup []) ne0
        have he0 := upd_same (H := H7) (a := e0) (o := .tup [])
        generalize upd H7 e0 (.tup []) = H8 at s8 he0 ⊢
        refine ⟨ns4, vi, .ref e0, [], n, d, rfl, (by omega), n4, (by show 0 + n ≤ 10; omega), tr, dp_same s8 hd, .tup (SqT.of he0) .nil, fun H9 ex us s9 nex hex hus => ?_⟩
        rw [below_nil] at hus
        have s79 := s8.trans s9
        have hd9 := dp_same s79 hd
        have sr9 := sr7.same s79
        have lus := dpAll_len hus
        rw [List.length_map] at lus
        have dpx : ∀ {J : Hp}, Same H9 J → Dp K J (.ref ex) (.list ((leavesP d).map entD)) := fun sJ => .lst (SqL.of (sJ _ _ hex)) (dpAll_same sJ hus)
        -- list(leaves(item))
        refine ⟨_, rfl, lvJ K d, ⟨ns4, vi, d, rfl, hd9, td, big, rfl⟩, fun D nD => ⟨fun j acc J => Same H9 J ∧ J D = some (.lst acc) ∧ DpAll K J acc (((leavesP d).take j).map entD), ⟨same_upd nD, upd_same, .nil⟩, ?_⟩⟩
        rintro j acc J hj ⟨sJ, hD, ha⟩
        have la := dpAll_len ha
        rw [List.length_map, List.length_take] at la
        refine ⟨hD, fun e HE sE => ?_, fun hlt u HY ⟨sY, q, hq, hu⟩ => ?_⟩
        case refine_2 =>
          have hDY := sY _ _ hD
          refine ⟨hDY, by rw [sizeLine_eq]; omega, same_past nD (sJ.trans sY), upd_same, ?_⟩
          have stu := stay_upd (o := .lst (acc ++ [u])) hDY
          rw [List.take_add_one, hq, List.map_append]
          exact dpAll_app (dpAll_stay stu (dpAll_same sY ha) (noListAll_of fun e he => by
            obtain ⟨x, hx, rfl⟩ := List.mem_map.mp he
            exact ent_flatL td (List.mem_of_mem_take hx))) (.cons (dp_stay stu hu (ent_flatL td (List.mem_of_getElem? hq))) .nil)
        have e : j = (leavesP d).length := e
        rw [e, List.take_length] at ha
        have s9E := sJ.trans sE
        refine ⟨_, rfl, _, _, .lst (SqL.of (sE _ _ hD)) (dpAll_same sE ha), dpx s9E, eshp, eshp, _, rfl, ?_⟩
        rw [eself]
        refine iteF ?_
        -- repr([pair for pair in leaves(item)])
        refine ⟨_, rfl, lvJ K d, ⟨ns4, vi, d, rfl, dp_same s9E hd9, td, big, rfl⟩, fun D2 nD2 => ⟨fun j J => Same HE J ∧ ∃ acc, J D2 = some (.lst acc) ∧ DpAll K J acc (((leavesP d).take j).map entD), ⟨same_upd nD2, [], upd_same, .nil⟩, ?_⟩⟩
        rintro j2 J2 hj2 ⟨sJ2, acc2, hD2, ha2⟩
        have la2 := dpAll_len ha2
        rw [List.length_map, List.length_take] at la2
        refine ⟨⟨acc2, hD2⟩, fun e HF sF => ?_, fun hlt u HY ⟨sY, q, hq, hu⟩ => ⟨rfl, ?_⟩⟩
        case refine_2 =>
          have hDY := sY _ _ hD2
          refine yes_ite ⟨_, rfl, acc2, hDY, by rw [sizeLine_eq]; omega, kt_upd hDY, same_past nD2 (sJ2.trans sY), _, upd_same, ?_⟩
          have stu := stay_upd (o := .lst (acc2 ++ [u])) hDY
          rw [List.take_add_one, hq, List.map_append]
          exact dpAll_app (dpAll_stay stu (dpAll_same sY ha2) (noListAll_of fun e he => by
            obtain ⟨x, hx, rfl⟩ := List.mem_map.mp he
            exact ent_flatL td (List.mem_of_mem_take hx))) (.cons (dp_stay stu hu (ent_flatL td (List.mem_of_getElem? hq))) .nil)
        have e : j2 = (leavesP d).length := e
        rw [e, List.take_length] at ha2
        have s9F := (s9E.trans sJ2).trans sF
        have enl : (PyData.list ((leavesP d).map entD)).shown.length ≤ sizeLine := Nat.le_trans eln (by rw [sizeLine_eq]; decide)
        have elay := ok_lay _ eok
        refine ⟨_, _, rfl, .lst (SqL.of (sF _ _ hD2)) (dpAll_same sF ha2), esh, elay, (by omega), enl, _, rfl, _, _, rfl, dpx s9F, esh, elay, (by omega), enl, rfl, false, congrArg V.bl (by rw [decide_eq_true rfl]; rfl), iteF ?_⟩
        -- _law_pairs
        refine ⟨_, rfl, ns4, vi, d, rfl, dp_same s9F hd9, td, big, (by omega), fun HG p us7 s10 n7 h7 a7 => ?_⟩
        have s9G := s9F.trans s10
        have hexG := s9G _ _ hex
        have husG := dpAll_same s9G hus
        refine ⟨_, rfl, ex, rfl, ⟨_, SqL.of hexG⟩, fun D3 nD3 => ?_⟩
        refine lc_list (K := K) (a := ex) (xs := us) (fun j J => Same HG J ∧ ∃ acc, J D3 = some (.lst acc) ∧ DpAll K J acc (((leavesP d).take j).map (quadD (leavesP d)))) ⟨same_upd nD3, [], upd_same, .nil⟩ (fun j J hj z => SqL.of (z.1 _ _ hexG)) ?_ ?_
        · rintro j3 u J3 hu ⟨sm3, acc3, hD3, ha3⟩
          obtain ⟨c, hc3, hud⟩ := dpAll_at husG hu
          obtain ⟨q, hq, rfl⟩ : ∃ q, (leavesP d)[j3]? = some q ∧ entD q = c := by
            rw [List.getElem?_map] at hc3
            cases e : (leavesP d)[j3]? with
            | none =>
              rw [e] at hc3
              cases hc3
            | some q =>
              rw [e] at hc3
              exact ⟨q, rfl, Option.some.inj hc3⟩
          have qm := List.mem_of_getElem? hq
          obtain ⟨q0', rq, eq0⟩ : ∃ q0' rq, leavesP d = q0' :: rq := by
            cases e : leavesP d with
            | nil =>
              rw [e] at qm
              cases qm
            | cons x r => exact ⟨x, r, rfl⟩
          have hh : headQ (leavesP d) = q0' := by
            rw [eq0]
            rfl
          obtain ⟨u0, r0, eu, hu0⟩ : ∃ u0 r0, us = u0 :: r0 ∧ Dp K HG u0 (entD q0') := by
            rw [eq0] at husG
            cases husG with
            | cons h1 h2 => exact ⟨_, _, rfl, h1⟩
          have la3 := dpAll_len ha3
          rw [List.length_map, List.length_take] at la3
          have hud : Dp K HG u (.tuple [placeD q.1, q.2]) := hud
          have hu0 : Dp K HG u0 (.tuple [placeD q0'.1, q0'.2]) := hu0
          obtain ⟨ta, w1, w2, rfl, hst, hw1, hw2⟩ := dp_pair hud
          obtain ⟨tb, w3, w4, rfl, hst2, hw3, hw4⟩ := dp_pair hu0
          refine ⟨rfl, _, rfl, _, rfl, ex, us, 0, .ref tb, rfl, rfl, SqL.of (sm3 _ _ hexG), (by rw [eu]; exact atI_nat (xs := V.ref tb :: r0) (j := 0) (v := V.ref tb) rfl), ta, tb, _, _, rfl, rfl, Same.tup sm3 hst, Same.tup sm3 hst2, (by show 2 + 2 ≤ 1000; decide), fun t3 J4 s4 h4 => ?_⟩
          have hD4 := s4 _ _ hD3
          have sm4 := sm3.trans s4
          refine ⟨_, hD4, by rw [sizeLine_eq]; omega, same_past nD3 sm4, _, upd_same, ?_⟩
          have stu := stay_upd (o := .lst (acc3 ++ [.ref t3])) hD4
          rw [List.take_add_one, hq, List.map_append]
          refine dpAll_app (dpAll_stay stu (dpAll_same s4 ha3) (noListAll_of fun e he => ?_)) (.cons (dp_stay stu ?_ (quad_flat td qm)) .nil)
          · obtain ⟨x, hx, rfl⟩ := List.mem_map.mp he
            exact quad_flat td (List.mem_of_mem_take hx)
          · unfold quadD
            rw [hh]
            exact .tup h4 (.cons (dp_same sm4 hw1) (.cons (dp_same sm4 hw2) (.cons (dp_same sm4 hw3) (.cons (dp_same sm4 hw4) .nil))))
        · rintro J4 ⟨sm4, acc4, hD4, ha4⟩
          rw [lus, List.take_length] at ha4
          obtain ⟨qok, qdp⟩ := quads_ok nok few lq
          have qsh : SeqAt.shaped (.list ((leavesP d).map (quadD (leavesP d)))) = true := Fit.shaped ⟨qok, by omega⟩
          refine ⟨_, _, .lst (SqL.of (sm4 _ _ h7)) (dpAll_same sm4 a7), .lst (SqL.of hD4) ha4, qsh, qsh, _, rfl, ?_⟩
          rw [SeqAt.eqv_refl _ (ok_lay _ qok)]
          refine iteF ?_
          have sAll := s9G.trans sm4
          have k74 := (s79.trans sAll)
          exact ⟨_, _, _, _, _, rfl, (kp.trans k27).trans (Keep.of k74), sr7.same k74⟩
      · rintro σ H2 ⟨v3, v4, v5, v6, v7, rfl, kp, sr2⟩
        exact ⟨_, _, _, _, _, _, _, rfl, fun b o e => kp b o (ne_of_none (sm b o e) nS) (s1 _ _ (sm b o e))⟩
    · rintro σ H0 ⟨v1, v2, v3, v4, v5, v6, v7, rfl, sm⟩
      refine ⟨(by show 2 ≤ sizeLine; decide), fun t nt => ?_⟩
      have s1 := same_upd (o := .tup [.str "a", .int 0]) nt
      have ht := upd_same (H := H0) (a := t) (o := .tup [.str "a", .int 0])
      generalize upd H0 t (.tup [.str "a", .int 0]) = H1 at s1 ht ⊢
      have tk : TreeK ["a"] (.tuple [.str "a", .int 0]) := .leaf "a" 0 (by decide)
      refine ⟨lvJ K (.tuple [.str "a", .int 0]), ⟨["a"], _, _, rfl, .tup (SqT.of ht) (.cons (.str _) (.cons (.int _) .nil)), tk, (by decide), rfl⟩, fun D nD => ⟨fun j acc J => Same H1 J ∧ J D = some (.lst acc) ∧ DpAll K J acc (((leavesP (.tuple [.str "a", .int 0])).take j).map entD), ⟨same_upd nD, upd_same, .nil⟩, ?_⟩⟩
      rintro j acc J hj ⟨sJ, hD, ha⟩
      have hj : j ≤ (leavesP (.tuple [.str "a", .int 0])).length := hj
      rw [leaves_leaf] at hj ha
      have hj : j ≤ 1 := hj
      have la := dpAll_len ha
      rw [List.length_map, List.length_take] at la
      refine ⟨hD, fun e HE sE => ?_, fun hlt u HY ⟨sY, q, hq, hu⟩ => ?_⟩
      · have e : j = (leavesP (.tuple [.str "a", .int 0])).length := e
        rw [leaves_leaf] at e
        rw [e, List.take_length] at ha
        refine ⟨Nat.zero_le _, fun t2 nt2 => ⟨(by show 2 ≤ sizeLine; decide), fun t3 nt3 => ⟨(by show 2 ≤ sizeLine; decide), fun t4 nt4 => ⟨(by show 1 ≤ sizeLine; decide), fun t5 nt5 => ?_⟩⟩⟩⟩
        have c1 := same_upd (o := .tup []) nt2
        have e1 := upd_same (H := HE) (a := t2) (o := .tup [])
        generalize upd HE t2 (.tup []) = G1 at c1 e1 nt3 nt4 nt5 ⊢
        have c2 := same_upd (o := .tup [.str "a", .int 0]) nt3
        have e2 := upd_same (H := G1) (a := t3) (o := .tup [.str "a", .int 0])
        generalize upd G1 t3 (.tup [.str "a", .int 0]) = G2 at c2 e2 nt4 nt5 ⊢
        have c3 := same_upd (o := .tup [.ref t2, .ref t3]) nt4
        have e3 := upd_same (H := G2) (a := t4) (o := .tup [.ref t2, .ref t3])
        generalize upd G2 t4 (.tup [.ref t2, .ref t3]) = G3 at c3 e3 nt5 ⊢
        have c4 := same_upd (o := .lst [.ref t4]) nt5
        have shE : SeqAt.shaped (.list [entD ([], .tuple [.str "a", .int 0])]) = true := by decide +kernel
        have cE := ((c1.trans c2).trans c3).trans c4
        refine ⟨_, _, .lst (SqL.of (cE _ _ (sE _ _ hD))) (dpAll_same (sE.trans cE) ha), .lst (SqL.of upd_same) (.cons (.tup (SqT.of (c4 _ _ e3)) (.cons (.tup (SqT.of (c4 _ _ (c3 _ _ (c2 _ _ e1)))) .nil) (.cons (.tup (SqT.of (c4 _ _ (c3 _ _ e2))) (.cons (.str _) (.cons (.int _) .nil))) .nil))) .nil), shE, shE, ?_⟩
        have ee : PyData.eqv (.list (List.map entD [([], .tuple [.str "a", .int 0])])) (.list [.tuple [.tuple [], .tuple [.str "a", .int 0]]]) = true := by decide +kernel
        rw [ee]
        exact k _
      · have hDY := sY _ _ hD
        refine ⟨hDY, by rw [sizeLine_eq]; omega, same_past nD (sJ.trans sY), upd_same, ?_⟩
        have stu := stay_upd (o := .lst (acc ++ [u])) hDY
        rw [leaves_leaf] at hq ⊢
        rw [List.take_add_one, hq, List.map_append]
        refine dpAll_app (dpAll_stay stu (dpAll_same sY ha) (noListAll_of fun e he => ?_)) (.cons (dp_stay stu hu ?_) .nil)
        · obtain ⟨x, hx, rfl⟩ := List.mem_map.mp he
          exact ent_flatL tk (by rw [leaves_leaf]; exact List.mem_of_mem_take hx)
        · exact ent_flatL tk (by rw [leaves_leaf]; exact List.mem_of_getElem? hq)
end
end K1

namespace K1
open PySem PySem.Spec PyProof.Rows L2 Own
/-! ### what the top has written -/
theorem kbn_leaves {K : PySem.W.Frag} {f : Addr} {fd : FuncData} (F : Fun K "leaves" "leaves" sLeaves f fd) : KBn K fd ["tree"] 0 ["tree"] (fun _ ws => ws) (fun _ zs => zs) := by
  obtain ⟨oc, od, kV, doc, pm, an, cdv, ct, osl, rfl, lk, hcd⟩ := F.ex
  refine ⟨fun s us ws _ l1 l2 => ?_, fun _ r => r⟩
  match us, ws, l1, l2 with
  | [], [x], _, _ => exact .of_eq rfl
theorem all_trees {P : Program} {w : World} {K : PySem.W.Frag} {mg : Str → Option Value} {base : Heap} {f g : Addr} {fd gd : FuncData} (F : Fun K "_law_random_tree" "_law_random_tree" sLawRandomTree f fd) (bT : Binds K fd ["source", "labels", "depth", "room"] []) (mT : mg "_law_random_tree" = some (.ref f))
    (GD : FnOk P w K mg base CX0 1 g gd ["source", "many"] spDraw) (kD : PySem.W.keepIn K (.ref g) = true) (bD : Binds K gd ["source", "many"] []) (mD : mg "_law_draw" = some (.ref g)) (mr : mg "range" = none) (ml : mg "len" = none) (mt : mg "tuple" = none) :
    ∀ m, FnOk P w K mg base CX0 (m + 1) f fd ["source", "labels", "depth", "room"] (spRT K m)
  | 0 => tree_none
  | m + 1 => tree_step F (all_trees F bT mT GD kD bD mD mr ml mt m) bT mT GD kD bD mD mr ml mt
theorem all_ex {P : Program} {w : World} {K : PySem.W.Frag} {mg : Str → Option Value} {base : Heap} {f : Addr} {fd : FuncData} {ns : List Str} (F : Fun K "_law_expected" "_law_expected" sLawExpected f fd) (bT : Binds K fd ["item", "place"] []) (mT : mg "_law_expected" = some (.ref f))
    (mi : mg "isinstance" = none) (mt : mg "tuple" = none) (me : mg "enumerate" = none) : ∀ m, FnOk P w K mg base CX0 (m + 1) f fd ["item", "place"] (spEx K ns m)
  | 0 => ex_none
  | m + 1 => ex_step F (all_ex F bT mT mi mt me m) bT mT mi mt me
theorem all_mk {l : PySem.W.OpenLaw} {w : World} {K : PySem.W.Frag} {h : Heap} {mg : Str → Option Value} {fa f1 f2 f3 f4 f5 f6 f7 f8 f9 : Addr} (X : K.In h) (G : h.Ns mainGlobals mg) (hfa : mg "law" = some (.ref fa))
    {od1 an1 od2 an2 od3 an3 od4 an4 od5 an5 od6 an6 od7 an7 od8 an8 od9 an9 : Option Addr} {sl1 sl2 sl3 sl4 sl5 sl6 sl7 sl8 sl9 : Array (Option Value)}
    {oc1 kV1 dc1 pm1 cd1 ct1 oc2 kV2 dc2 pm2 cd2 ct2 oc3 kV3 dc3 pm3 cd3 ct3 oc4 kV4 dc4 pm4 cd4 ct4 oc5 kV5 dc5 pm5 cd5 ct5 oc6 kV6 dc6 pm6 cd6 ct6 oc7 kV7 dc7 pm7 cd7 ct7 oc8 kV8 dc8 pm8 cd8 ct8 oc9 kV9 dc9 pm9 cd9 ct9 : Value}
    (a1 : PySem.W.nsIn K mainGlobals "leaves" = some (some (.ref f1)))
    (l1 : K.lookup f1 = some ⟨oc1, od1, .func (PySem.W.fnOf "leaves" "leaves" (defArgs sLeaves) (defBody sLeaves) (defScope sLeaves) .none kV1 dc1 pm1 an1 cd1 ct1), sl1⟩)
    (c1 : PySem.W.codeIn K cd1 "leaves" = true)
    (k1 : PySem.W.keepIn K (.ref f1) = true)
    (a2 : PySem.W.nsIn K mainGlobals "_children" = some (some (.ref f2)))
    (l2 : K.lookup f2 = some ⟨oc2, od2, .func (PySem.W.fnOf "_children" "_children" (defArgs sChildren) (defBody sChildren) (defScope sChildren) .none kV2 dc2 pm2 an2 cd2 ct2), sl2⟩)
    (c2 : PySem.W.codeIn K cd2 "_children" = true)
    (k2 : PySem.W.keepIn K (.ref f2) = true)
    (a3 : PySem.W.nsIn K mainGlobals "_law_source" = some (some (.ref f3)))
    (l3 : K.lookup f3 = some ⟨oc3, od3, .func (PySem.W.fnOf "_law_source" "_law_source" (defArgs sSource) (defBody sSource) (defScope sSource) .none kV3 dc3 pm3 an3 cd3 ct3), sl3⟩)
    (c3 : PySem.W.codeIn K cd3 "_law_source" = true)
    (k3 : PySem.W.keepIn K (.ref f3) = true)
    (a4 : PySem.W.nsIn K mainGlobals "_law_draw" = some (some (.ref f4)))
    (l4 : K.lookup f4 = some ⟨oc4, od4, .func (PySem.W.fnOf "_law_draw" "_law_draw" (defArgs sDraw) (defBody sDraw) (defScope sDraw) .none kV4 dc4 pm4 an4 cd4 ct4), sl4⟩)
    (c4 : PySem.W.codeIn K cd4 "_law_draw" = true)
    (k4 : PySem.W.keepIn K (.ref f4) = true)
    (a5 : PySem.W.nsIn K mainGlobals "_law_random_names" = some (some (.ref f5)))
    (l5 : K.lookup f5 = some ⟨oc5, od5, .func (PySem.W.fnOf "_law_random_names" "_law_random_names" (defArgs sNames) (defBody sNames) (defScope sNames) .none kV5 dc5 pm5 an5 cd5 ct5), sl5⟩)
    (c5 : PySem.W.codeIn K cd5 "_law_random_names" = true)
    (k5 : PySem.W.keepIn K (.ref f5) = true)
    (a6 : PySem.W.nsIn K mainGlobals "_law_random_tree" = some (some (.ref f6)))
    (l6 : K.lookup f6 = some ⟨oc6, od6, .func (PySem.W.fnOf "_law_random_tree" "_law_random_tree" (defArgs sLawRandomTree) (defBody sLawRandomTree) (defScope sLawRandomTree) .none kV6 dc6 pm6 an6 cd6 ct6), sl6⟩)
    (c6 : PySem.W.codeIn K cd6 "_law_random_tree" = true)
    (k6 : PySem.W.keepIn K (.ref f6) = true)
    (a7 : PySem.W.nsIn K mainGlobals "_law_expected" = some (some (.ref f7)))
    (l7 : K.lookup f7 = some ⟨oc7, od7, .func (PySem.W.fnOf "_law_expected" "_law_expected" (defArgs sLawExpected) (defBody sLawExpected) (defScope sLawExpected) .none kV7 dc7 pm7 an7 cd7 ct7), sl7⟩)
    (c7 : PySem.W.codeIn K cd7 "_law_expected" = true)
    (k7 : PySem.W.keepIn K (.ref f7) = true)
    (a8 : PySem.W.nsIn K mainGlobals "_law_pairs" = some (some (.ref f8)))
    (l8 : K.lookup f8 = some ⟨oc8, od8, .func (PySem.W.fnOf "_law_pairs" "_law_pairs" (defArgs sLawPairs) (defBody sLawPairs) (defScope sLawPairs) .none kV8 dc8 pm8 an8 cd8 ct8), sl8⟩)
    (c8 : PySem.W.codeIn K cd8 "_law_pairs" = true)
    (k8 : PySem.W.keepIn K (.ref f8) = true)
    (a9 : PySem.W.nsIn K mainGlobals "law" = some (some (.ref f9)))
    (l9 : K.lookup f9 = some ⟨oc9, od9, .func (PySem.W.fnOf "law" "law" (defArgs sLaw) (defBody sLaw) (defScope sLaw) .none kV9 dc9 pm9 an9 cd9 ct9), sl9⟩)
    (c9 : PySem.W.codeIn K cd9 "law" = true)
    (k9 : PySem.W.keepIn K (.ref f9) = true)
    (z_len : PySem.W.nsIn K mainGlobals "len" = some none)
    (z_isinstance : PySem.W.nsIn K mainGlobals "isinstance" = some none)
    (z_tuple : PySem.W.nsIn K mainGlobals "tuple" = some none)
    (z_list : PySem.W.nsIn K mainGlobals "list" = some none)
    (z_abs : PySem.W.nsIn K mainGlobals "abs" = some none)
    (z_range : PySem.W.nsIn K mainGlobals "range" = some none)
    (z_min : PySem.W.nsIn K mainGlobals "min" = some none)
    (z_max : PySem.W.nsIn K mainGlobals "max" = some none)
    (z_repr : PySem.W.nsIn K mainGlobals "repr" = some none)
    (z_enumerate : PySem.W.nsIn K mainGlobals "enumerate" = some none)
    (z_reversed : PySem.W.nsIn K mainGlobals "reversed" = some none) :
    ∃ fd : FuncData, (∀ (s : Shared) (v : Value), BindsTo s fd ⟨[v], []⟩ [("script", v)]) ∧ ∀ base : Heap, K.In base → base.Ns mainGlobals mg → FnG l.prog w K mg base 7 fa fd ["script"] (spLaw K) := by
  have e := hfa.symm.trans (PySem.W.mg_of X G a9)
  cases e
  have F1 := fun_mk (st := sLeaves) l1 c1 k1
  have b1 := F1.binds (ps := ["tree"]) fun _ _ _ _ _ _ us hl => match us, hl with | [_], _ => rfl
  have m1 := PySem.W.mg_of X G a1
  have F2 := fun_mk (st := sChildren) l2 c2 k2
  have b2 := F2.binds (ps := ["tree"]) fun _ _ _ _ _ _ us hl => match us, hl with | [_], _ => rfl
  have m2 := PySem.W.mg_of X G a2
  have F3 := fun_mk (st := sSource) l3 c3 k3
  have b3 := F3.binds (ps := ["script", "at"]) fun _ _ _ _ _ _ us hl => match us, hl with | [_, _], _ => rfl
  have m3 := PySem.W.mg_of X G a3
  have F4 := fun_mk (st := sDraw) l4 c4 k4
  have b4 := F4.binds (ps := ["source", "many"]) fun _ _ _ _ _ _ us hl => match us, hl with | [_, _], _ => rfl
  have m4 := PySem.W.mg_of X G a4
  have F5 := fun_mk (st := sNames) l5 c5 k5
  have b5 := F5.binds (ps := ["source", "many"]) fun _ _ _ _ _ _ us hl => match us, hl with | [_, _], _ => rfl
  have m5 := PySem.W.mg_of X G a5
  have F6 := fun_mk (st := sLawRandomTree) l6 c6 k6
  have b6 := F6.binds (ps := ["source", "labels", "depth", "room"]) fun _ _ _ _ _ _ us hl => match us, hl with | [_, _, _, _], _ => rfl
  have m6 := PySem.W.mg_of X G a6
  have F7 := fun_mk (st := sLawExpected) l7 c7 k7
  have b7 := F7.binds (ps := ["item", "place"]) fun _ _ _ _ _ _ us hl => match us, hl with | [_, _], _ => rfl
  have m7 := PySem.W.mg_of X G a7
  have F8 := fun_mk (st := sLawPairs) l8 c8 k8
  have b8 := F8.binds (ps := ["item"]) fun _ _ _ _ _ _ us hl => match us, hl with | [_], _ => rfl
  have m8 := PySem.W.mg_of X G a8
  have F9 := fun_mk (st := sLaw) l9 c9 k9
  have y_len := PySem.W.mg_none_of X G z_len
  have y_isinstance := PySem.W.mg_none_of X G z_isinstance
  have y_tuple := PySem.W.mg_none_of X G z_tuple
  have y_list := PySem.W.mg_none_of X G z_list
  have y_abs := PySem.W.mg_none_of X G z_abs
  have y_range := PySem.W.mg_none_of X G z_range
  have y_min := PySem.W.mg_none_of X G z_min
  have y_max := PySem.W.mg_none_of X G z_max
  have y_repr := PySem.W.mg_none_of X G z_repr
  have y_enumerate := PySem.W.mg_none_of X G z_enumerate
  have y_reversed := PySem.W.mg_none_of X G z_reversed
  refine ⟨PySem.W.fnOf "law" "law" (defArgs sLaw) (defBody sLaw) (defScope sLaw) .none kV9 dc9 pm9 an9 cd9 ct9, fun s v => .of_eq rfl, fun base _ _ => ?_⟩
  have Gsource := ok_source (P := l.prog) (w := w) (mg := mg) (base := base) F3 y_len y_abs y_range y_min
  have Gdraw := ok_draw (P := l.prog) (w := w) (mg := mg) (base := base) F4
  have Gnames := ok_names (P := l.prog) (w := w) (mg := mg) (base := base) F5 Gdraw k4 b4 m4 y_range y_len
  have Gtree := all_trees (P := l.prog) (w := w) (mg := mg) (base := base) F6 b6 m6 Gdraw k4 b4 m4 y_range y_len y_tuple 5
  have Gkids := fun ns : List Str => ok_childT (P := l.prog) (w := w) (mg := mg) (base := base) (ns := ns) F2 y_isinstance y_tuple
  have Glv := fun ns : List Str => ok_leaves (P := l.prog) (w := w) (mg := mg) (base := base) (ns := ns) F1 (Gkids ns) k2 b2 m2 y_len y_range y_reversed
  have Gex := ex_all fun ns : List Str => all_ex (P := l.prog) (w := w) (mg := mg) (base := base) (ns := ns) F7 b7 m7 y_isinstance y_tuple y_enumerate 5
  have Gpairs := pairs_all fun ns : List Str => ok_pairs (P := l.prog) (w := w) (mg := mg) (base := base) (ns := ns) F8 (Glv ns) k1 b1 m1 (kbn_leaves F1)
  exact ok_law (P := l.prog) (w := w) (mg := mg) (base := base) F9 Gsource k3 b3 m3 Gdraw k4 b4 m4 Gnames k5 b5 m5 Gtree k6 b6 m6 Gex k7 b7 m7 Gpairs k8 b8 m8 (lv_all Glv) k1 b1 m1 y_range y_max y_min y_len y_list y_repr
theorem walk {l : PySem.W.OpenLaw} {q : Program} {loose : List Str} {XP : (Str → Option Value) → Heap → Prop} {YP : World → Heap → Prop} {d : DefRec} {K : Params → PySem.W.Frag} (hn : l.most = some 63) (hdf : d.params.defaults = [])
    (hY : ∀ (w : World) (h : Heap), YP w h → (K w.params).In h)
    (F : ∀ (w : World) (mg : Str → Option Value) (fa : Addr) (h : Heap), (K w.params).In h → h.Ns mainGlobals mg → mg d.name = some (.ref fa) →
      ∃ fd : FuncData, (∀ (s : Shared) (u : Value), BindsTo s fd ⟨[u], []⟩ [("script", u)]) ∧ ∀ base : Heap, (K w.params).In base → base.Ns mainGlobals mg → FnG l.prog w (K w.params) mg base 7 fa fd ["script"] (spLaw (K w.params))) :
    PySem.W.WalkO q loose XP YP l.row.toRowW d [] (fun f vs => PySem.call f vs) :=
  walk_ofG (n := 63) (k := 7) (x := "script") (sp := fun w => spLaw (K w.params)) hn (by decide) hdf ⟨rfl, by decide, by decide⟩ hY F (fun _ _ a ns hl hS => ⟨a, ns, rfl, hS, hl, fun _ => rfl⟩)
end K1

open PySem PySem.W PyProof.Rows in
set_option maxRecDepth 100000 in
set_option maxHeartbeats 0 in
theorem PySem.Challenge.cw_errorplaces_k05_leaves_and_places_holds : PySem.Challenge.rw_errorplaces_k05_leaves_and_places.Holds := by
  w_on; o_law; k_head; (case hw => w_witness2)
  k_fill
  refine K1.walk (l := PySem.Challenge.rw_errorplaces_k05_leaves_and_places) rfl rfl (fun w h Y => PySem.W.kIn_of Y) ?F
  case F =>
    intro w mg fa h KX G hmg
    refine' K1.all_mk KX G hmg ?a1 ?l1 ?c1 ?k1 ?a2 ?l2 ?c2 ?k2 ?a3 ?l3 ?c3 ?k3 ?a4 ?l4 ?c4 ?k4 ?a5 ?l5 ?c5 ?k5 ?a6 ?l6 ?c6 ?k6 ?a7 ?l7 ?c7 ?k7 ?a8 ?l8 ?c8 ?k8 ?a9 ?l9 ?c9 ?k9 ?z_len ?z_isinstance ?z_tuple ?z_list ?z_abs ?z_range ?z_min ?z_max ?z_repr ?z_enumerate ?z_reversed
    (case a1 => k_is)
    (case l1 => k_is)
    (case c1 => k_is)
    (case k1 => k_is)
    (case a2 => k_is)
    (case l2 => k_is)
    (case c2 => k_is)
    (case k2 => k_is)
    (case a3 => k_is)
    (case l3 => k_is)
    (case c3 => k_is)
    (case k3 => k_is)
    (case a4 => k_is)
    (case l4 => k_is)
    (case c4 => k_is)
    (case k4 => k_is)
    (case a5 => k_is)
    (case l5 => k_is)
    (case c5 => k_is)
    (case k5 => k_is)
    (case a6 => k_is)
    (case l6 => k_is)
    (case c6 => k_is)
    (case k6 => k_is)
    (case a7 => k_is)
    (case l7 => k_is)
    (case c7 => k_is)
    (case k7 => k_is)
    (case a8 => k_is)
    (case l8 => k_is)
    (case c8 => k_is)
    (case k8 => k_is)
    (case a9 => k_is)
    (case l9 => k_is)
    (case c9 => k_is)
    (case k9 => k_is)
    (case z_len => k_is)
    (case z_isinstance => k_is)
    (case z_tuple => k_is)
    (case z_list => k_is)
    (case z_abs => k_is)
    (case z_range => k_is)
    (case z_min => k_is)
    (case z_max => k_is)
    (case z_repr => k_is)
    (case z_enumerate => k_is)
    (case z_reversed => k_is)
