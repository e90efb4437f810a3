import PyProof.Rows.All
import Wide.All
import OpenK.AllK
import Wide.FinOn
import HandS.ForMost
import PyProof.InstNe
import HandS.OwnEq
import HandS.Star
import HandS.ClsMeth
import HandS.Property
import HandS.FStr
import HandS.ListItems
import HandS.IsInst
import HandS.Wide
import HandS.Sort
import HandS.More
import HandS.CallLocal
import KE.KParD
import HandS.Codes
import HandS.Walk
import HandS.TupLen
import HandS.List
import HandS.Text
import PySem.Challenge.RW_errorplaces_k01_kinds_made
set_option Elab.async false
set_option linter.all false
set_option maxRecDepth 100000
set_option maxHeartbeats 8000000
namespace Own
open PySem PySem.Spec PyProof.Rows L2
section
variable {X : Cx} {k : Nat} {f g C : Addr} {fd : FuncData} {ps : List Str} {sp : Sp} {E : XK} {pins : List (Addr × Obj)} {σ : L2.St} {H : Hp} {s : Shared}
/-- a def that raises nothing, called somewhere below the body -/
theorem run_sub {Q : VK} {us : List Value} {vs : List V} {E' : Value → Shared → Prop} {A : Around} (hA : A.frames = X.A.frames) (F : FnOk X.prog X.w X.K X.mg X.base CX0 k f fd ps sp) (hr : Room k A) (hb : Binds X.K fd ps []) (I : Inv X pins σ H s) (r : Vals vs us) (h : sp vs H Q E) :
    wpAny (model X.prog X.w) A (call (.ref f) us) (EP X pins σ Q) E' s := by
  have hl : (us ++ []).length = ps.length := by rw [List.append_nil, ← r.length]; exact F.len _ _ _ _ h
  have e := I.env0
  have e0 : Env0 X.prog X.w X.K X.mg X.base A X.stack s H := ⟨by rw [hA]; exact e.frames, e.mod, e.bs, e.bsz, e.funs, e.frf, e.hok, e.bare⟩
  have hb' : BindsTo s fd ⟨us, []⟩ (ps.zip us) := by
    have q := hb s us I.kIn hl
    rw [List.append_nil] at q
    exact q
  refine wpAny_call (codeAny_mono (F.run A X.stack s H ⟨us, []⟩ us vs Q E hr e0 hb' r h) fun r s' hq => ?_)
  cases r with
  | error e => exact False.elim hq
  | ok fl =>
    cases fl with
    | ret u => exact I.after hq
    | next => exact False.elim hq
    | brk => exact False.elim hq
    | cont => exact False.elim hq
theorem inst_of {C dx a : Addr} {fs : List (Str × V)} (I : Inv X pins σ H s) (e : H a = some (.ins C dx fs)) : ∃ od, PySem.W.InstAt s.heap a (PySem.W.instObj C dx) C (some od) := by
  obtain ⟨mA, J, _⟩ := ins_get I.hok e
  obtain ⟨od, J, _⟩ := J.look
  exact ⟨od, J⟩
/-- the class's own special method -/
structure Spc (K : PySem.W.Frag) (C : Addr) (m : Str) (f : Addr) : Prop where
  at_ : PySem.W.findIn K (.ref C) m = some (some (.ref f))
  fn : PySem.W.isFn K (.ref f) = true

/-- len(o) -/
theorem call_lenO (c : Spc X.K C "__len__" f) (F : FnOk X.prog X.w X.K X.mg X.base CX0 k f fd ["self"] sp) (hr : Room (k + 1) X.A) (hb : Binds X.K fd ["self"] []) :
    CallR X (.builtin "len") (fun xs H Q => ∃ a dx fs, xs = [.ref a] ∧ H a = some (.ins C dx fs) ∧ sp [.ref a] H (fun v H1 => ∃ n : Int, v = .int n ∧ 0 ≤ n ∧ n < 2 ^ 63 ∧ Q (.int n) H1) E0) := by
  intro pins s σ H xs us Q I r h
  obtain ⟨a, dx, fs, rfl, ha, q⟩ := h
  obtain rfl := Vals.ref1 r
  obtain ⟨od, J⟩ := inst_of I ha
  obtain ⟨m, hF⟩ := I.fr
  refine PySem.W.len_K hF I.ok.mod.kin J c.at_ c.fn (thn (run_sub (A := X.A.in1) rfl F hr.in1 hb I r q) fun u s1 ⟨v, H1, I1, rv, n, ev, h0, h1, q1⟩ => ?_)
  subst ev
  obtain ⟨t, rfl⟩ := rv
  exact ⟨⟨h0, h1⟩, .int n, H1, I1.tok _, ⟨_, rfl⟩, q1⟩
/-- repr(o) -/
theorem call_reprO (c : Spc X.K C "__repr__" f) (F : FnOk X.prog X.w X.K X.mg X.base CX0 k f fd ["self"] sp) (hr : Room (k + 1) X.A) (hb : Binds X.K fd ["self"] []) :
    CallR X (.builtin "repr") (fun xs H Q => ∃ a dx fs, xs = [.ref a] ∧ H a = some (.ins C dx fs) ∧ sp [.ref a] H (fun v H1 => ∃ z : Str, v = .str z ∧ Q (.str z) H1) E0) := by
  intro pins s σ H xs us Q I r h
  obtain ⟨a, dx, fs, rfl, ha, q⟩ := h
  obtain rfl := Vals.ref1 r
  obtain ⟨od, J⟩ := inst_of I ha
  obtain ⟨m, hF⟩ := I.fr
  refine PySem.W.repr_K hr.in1.units0 hF I.ok.mod.kin J c.at_ c.fn (thn (run_sub (A := X.A.in1) rfl F hr.in1 hb I r q) fun u s1 ⟨v, H1, I1, rv, z, ev, q1⟩ => ?_)
  subst ev
  obtain ⟨t, rfl⟩ := rv
  exact ⟨.str z, H1, I1, ⟨_, rfl⟩, q1⟩
/-- x in o, x not in o -/
theorem op_inO (c : Spc X.K C "__contains__" f) (F : FnOk X.prog X.w X.K X.mg X.base CX0 k f fd ["self", "x"] sp) (hr : Room k X.A) (hb : Binds X.K fd ["self", "x"] []) :
    OpR X (compareOp .In) (fun x y H Q => ∃ a dx fs, y = .ref a ∧ H a = some (.ins C dx fs) ∧ sp [.ref a, x] H (fun v H1 => ∃ b, v = .bl b ∧ Q (.bl b) H1) E0) := by
  intro pins s σ H x y v u Q I rx ry h
  obtain ⟨a, dx, fs, rfl, ha, q⟩ := h
  cases ry
  obtain ⟨od, J⟩ := inst_of I ha
  obtain ⟨m, hF⟩ := I.fr
  refine PySem.W.in_K hF I.ok.mod.kin J c.at_ c.fn (thn (run_sub (vs := [.ref a, x]) rfl F hr hb I (.cons rfl (.cons rx .nil)) q) fun u s1 ⟨v, H1, I1, rv, b, ev, q1⟩ => ?_)
  subst ev
  cases rv
  exact wpAny_truthy_bool ⟨.bl b, H1, I1, rfl, q1⟩
theorem op_notInO (c : Spc X.K C "__contains__" f) (F : FnOk X.prog X.w X.K X.mg X.base CX0 k f fd ["self", "x"] sp) (hr : Room k X.A) (hb : Binds X.K fd ["self", "x"] []) :
    OpR X (compareOp .NotIn) (fun x y H Q => ∃ a dx fs, y = .ref a ∧ H a = some (.ins C dx fs) ∧ sp [.ref a, x] H (fun v H1 => ∃ b, v = .bl b ∧ Q (.bl (!b)) H1) E0) := by
  intro pins s σ H x y v u Q I rx ry h
  obtain ⟨a, dx, fs, rfl, ha, q⟩ := h
  cases ry
  obtain ⟨od, J⟩ := inst_of I ha
  obtain ⟨m, hF⟩ := I.fr
  refine PySem.W.notIn_K hF I.ok.mod.kin J c.at_ c.fn (thn (run_sub (vs := [.ref a, x]) rfl F hr hb I (.cons rfl (.cons rx .nil)) q) fun u s1 ⟨v, H1, I1, rv, b, ev, q1⟩ => ?_)
  subst ev
  cases rv
  exact wpAny_truthy_bool ⟨.bl (!b), H1, I1, rfl, q1⟩
/-- len(o) asked below a built-in's body -/
theorem len_body (c : Spc X.K C "__len__" f) (F : FnOk X.prog X.w X.K X.mg X.base CX0 k f fd ["self"] sp) {A : Around} (hA : A.frames = X.A.frames) (hr : Room k A) (hb : Binds X.K fd ["self"] []) {Q : Int → Shared → Prop} {E' : Value → Shared → Prop} {R : Int → Hp → Prop}
    {a dx : Addr} {fs : List (Str × V)} (I : Inv X pins σ H s) (ha : H a = some (.ins C dx fs)) (q : sp [.ref a] H (fun v H1 => ∃ n : Int, v = .int n ∧ 0 ≤ n ∧ n < 2 ^ 63 ∧ R n H1) E0) (hR : ∀ n H1 s', Inv X pins σ H1 s' → R n H1 → Q n s') :
    wpAny (model X.prog X.w) A (Builtin.«len» ⟨[.ref a], []⟩) (fun z s' => ∃ n t, z = Fin.done (.ret (.int n t)) ∧ Q n s') E' s := by
  obtain ⟨od, J⟩ := inst_of I ha
  have KX := I.kIn
  unfold Builtin.«len»
  refine wpAny_bind (m := oneArg "len" _) (wpAny_pure ?_)
  refine wpAny_bind (m := callSpecial? (.ref a) (Str.ofString "__len__")) (PySem.W.special_fn KX J c.at_ (beq_iff_eq.mp c.fn) ?_)
  refine thn (run_sub (vs := [.ref a]) hA F hr hb I (.cons rfl .nil) q) fun u s1 ⟨v, H1, I1, rv, n, ev, h0, h1, q1⟩ => ?_
  subst ev
  obtain ⟨t, rfl⟩ := rv
  refine wpAny_bind (wpAny_holding (wpAny_pure (wpAny_bind (wpAny_letGo ?_))))
  show wpAny _ _ (if n < 0 then _ else _) _ _ _
  rw [if_neg (by omega)]
  show wpAny _ _ (if n ≥ 2 ^ 63 then _ else _) _ _ _
  rw [if_neg (by omega)]
  exact wpAny_bind (wpAny_mkInt (wpAny_pure ⟨n, _, rfl, hR n H1 _ (I1.tok _) q1⟩))
/-- truth by __len__ -/
theorem truthy_len (hn : PySem.W.findIn X.K (.ref C) "__bool__" = some none) (c : Spc X.K C "__len__" f) (F : FnOk X.prog X.w X.K X.mg X.base CX0 k f fd ["self"] sp) {A : Around} (hA : A.frames = X.A.frames) (hr : Room (k + 1) A) (hb : Binds X.K fd ["self"] []) {Q : Bool → Shared → Prop} {E' : Value → Shared → Prop} {R : Int → Hp → Prop}
    {a dx : Addr} {fs : List (Str × V)} (I : Inv X pins σ H s) (ha : H a = some (.ins C dx fs)) (q : sp [.ref a] H (fun v H1 => ∃ n : Int, v = .int n ∧ 0 ≤ n ∧ n < 2 ^ 63 ∧ R n H1) E0) (hR : ∀ n H1 s', Inv X pins σ H1 s' → R n H1 → Q (n != 0) s') :
    wpAny (model X.prog X.w) A (truthy (.ref a)) Q E' s := by
  obtain ⟨od, J⟩ := inst_of I ha
  have KX := I.kIn
  unfold truthy
  refine wpAny_bind (m := callSpecial? (.ref a) (Str.ofString "__bool__")) (wpAny_bind (wpAny_bind (J.type.here ((PySem.W.looks_findIn KX hn).here (wpAny_pure ?_)))))
  refine wpAny_bind (wpAny_bind (J.type.here ((PySem.W.looks_findIn KX c.at_).here ?_)))
  have key : wpAny (model X.prog X.w) A (runValue (.builtin "len" ⟨[.ref a], []⟩)) (fun r s' => ∃ n t, r = .int n t ∧ Q (n != 0) s') E' s := by
    refine wpAny_runValue (codeAny_builtin entry_len ?_)
    rw [Around.under_plainId plain_len _]
    refine wpAny_mono (len_body (Q := fun n s' => Q (n != 0) s') (A := A.in1) c F hA hr.in1 hb I ha q hR) (fun z s' hz => ?_) fun _ _ e => e
    obtain ⟨n, t, rfl, hq⟩ := hz
    exact ⟨n, t, rfl, hq⟩
  refine wpAny_bind (wpAny_mono key (fun r s' hv => ?_) fun _ _ e => e)
  obtain ⟨n, t, rfl, hq⟩ := hv
  exact wpAny_pure hq
end
end Own

namespace Own
open PySem PySem.Spec PyProof.Rows L2
/-! bool(o): the constructor of a built-in type whose own code is known in this model alone -/
section
variable {prog : Program} {w : World} {A : Around} {E : Value → Shared → Prop} {s : Shared}
theorem typeMade_in {T nid iid : String} {Bn Bi : Builtin} {as : List Value} {S : PySem.Spec} {Q Q1 : Value → Shared → Prop} (tc : TypeCalled T nid iid) (c1 : checkTypeCall T ⟨as, []⟩ = pure ()) (c2 : checkBuiltinCall nid ⟨.type T :: as, []⟩ = pure ())
    (e1 : entryFor table nid = some Bn) (e2 : entryFor table iid = some Bi) (g1 : MeetsIn prog w (Bn ⟨.type T :: as, []⟩) S) (h1 : S A.in1 (wants Q1 E) s)
    (h2 : ∀ o s1, Q1 o s1 → s1.TypeIs o T ∧ argsOk iid ⟨o :: as, []⟩ ∧ ∃ S2, Meets (Bi ⟨o :: as, []⟩) S2 ∧ S2 A.in1 (wants (fun r s2 => r = .none ∧ Q o s2) E) s1) : wpAny (model prog w) A (call (.type T) as) Q E s := by
  obtain ⟨mc, ml, mr⟩ := tc.mro
  have m1 := tc.made
  have m2 := tc.sub
  refine wpAny_call (codeAny_of_tree ?_)
  show wpAny _ _ (callAny (.type T) _) _ _ _
  refine wpAny_pure ⟨Code.quiet_builtin _ (by decide +kernel), codeAny_builtin PySem.F.entry_type_call ?_⟩
  rw [Around.under_plain (weight_type_call_type T as []) (units_type_call_type T as [])]
  have m3 := tc.notType
  have m4 := tc.canCreate
  repeat (any_goals (first | assumption | wp_step))
  refine codeAny_mono (codeAny_call_builtin tc.plain e1 (wpAny_of_eq c2 (g1 A.in1 _ s h1))) fun z s1 hz => ?_
  cases z with
  | error _ => exact hz
  | ok fl =>
    cases fl with
    | next => exact hz.elim
    | brk => exact hz.elim
    | cont => exact hz.elim
    | ret o =>
      obtain ⟨hT, hok, S2, g2, q2⟩ := h2 _ _ hz
      have l1 := tc.init.lookup
      have l2 := tc.init.bind o
      repeat (any_goals (first | assumption | wp_step))
      refine codeAny_mono (codeAny_call_builtin tc.init.plain e2 (tc.init.check _ _ _ _ _ _ _ _ hT hok (g2 prog w A.in1 _ s1 q2))) fun z2 s2 hz2 => ?_
      cases z2 with
      | error _ => exact hz2
      | ok fl2 =>
        cases fl2 with
        | next => exact hz2.elim
        | brk => exact hz2.elim
        | cont => exact hz2.elim
        | ret r =>
          obtain ⟨rfl, hq⟩ := hz2
          repeat (any_goals (first | assumption | wp_step))
end
section
variable {X : Cx} {k : Nat} {f g C : Addr} {fd : FuncData} {sp : Sp}
theorem call_boolO (hn : PySem.W.findIn X.K (.ref C) "__bool__" = some none) (c : Spc X.K C "__len__" f) (F : FnOk X.prog X.w X.K X.mg X.base CX0 k f fd ["self"] sp) (hr : Room (k + 4) X.A) (hb : Binds X.K fd ["self"] []) :
    CallR X (.type "bool") (fun xs H Q => ∃ a dx fs, xs = [.ref a] ∧ H a = some (.ins C dx fs) ∧ sp [.ref a] H (fun v H1 => ∃ n : Int, v = .int n ∧ 0 ≤ n ∧ n < 2 ^ 63 ∧ Q (.bl (n != 0)) H1) E0) := by
  intro pins s σ H xs us Q I r h
  obtain ⟨a, dx, fs, rfl, ha, q⟩ := h
  obtain rfl := Vals.ref1 r
  have g1 : MeetsIn X.prog X.w (Builtin.«bool.__new__» ⟨[.type "bool", .ref a], []⟩) (fun A' R s0 => A' = X.A.in1 ∧ s0 = s ∧ ∀ (b : Bool) (s' : Shared), EP X pins σ Q (.bool b) s' → R (.ok (.ret (.bool b))) s') := by
    rintro A' R s0 ⟨rfl, rfl, hR⟩
    have f1 := PySem.F.conv_sub_bool
    obtain ⟨hp, gg, d, tk, os⟩ := s0
    have tr : wpAny (model X.prog X.w) X.A.in1.in1 (truthy (.ref a)) (fun b s' => EP X pins σ Q (.bool b) s') (fun e s' => R (.error e) s') ⟨hp, gg, d, tk, os⟩ := by
      exact truthy_len (A := X.A.in1.in1) hn c F rfl (hr.mono (by omega : k + 1 + 1 + 1 ≤ k + 4)).in1.in1 hb I ha q fun n H1 s' I1 q1 => ⟨.bl (n != 0), H1, I1, rfl, q1⟩
    repeat (any_goals (first | assumption | (with_reducible refine thn tr fun b s' hb => ?_) | wp_step))
    exact hR _ _ (by assumption)
  exact typeMade_in (Q1 := fun o s1 => s1.TypeIs o "bool" ∧ EP X pins σ Q o s1) PySem.F.called_bool (PySem.F.typeCall_bool_1 _) (PySem.F.newCall_bool_1 _) PySem.F.entry_bool_new PySem.F.entry_object_init g1 ⟨rfl, rfl, fun b s' hb => ⟨PySem.typeIs_bool _ _, hb⟩⟩ fun o s1 hq => ⟨hq.1, PySem.F.args_object_init_2 _ _, _, object_init_meets PySem.F.called_bool.init.lookup PySem.F.called_bool.made PySem.F.newNe_bool, hq.1, rfl, hq.2⟩
end
end Own

namespace Own
open PySem PySem.Spec PyProof.Rows L2
/-! a != b by the own __eq__ (the class has no __ne__ of its own) -/
section
variable {X : Cx} {k : Nat} {f C : Addr} {fd : FuncData} {sp : Sp} {pins : List (Addr × Obj)} {σ : L2.St} {H : Hp} {s : Shared}
theorem ne_bind (self : Value) : bindSpecial (.builtin "object.__ne__") self = pure (.builtin "object.__ne__", [self]) := PySem.F.slot_tuple_iterator_ne.bind self
theorem cmp_eqO (c : Spc X.K C "__eq__" f) (F : FnOk X.prog X.w X.K X.mg X.base CX0 k f fd ["self", "other"] sp) (hr : Room k X.A) (hb : Binds X.K fd ["self", "other"] []) :
    OpR X (compareOp .Eq) (fun x y H Q => ∃ a b dx fs dy gs, x = .ref a ∧ y = .ref b ∧ H a = some (.ins C dx fs) ∧ H b = some (.ins C dy gs) ∧ sp [.ref a, .ref b] H (fun v H1 => ∃ z, v = .bl z ∧ Q (.bl z) H1) E0) := by
  intro pins s σ H x y v u Q I rx ry h
  obtain ⟨a, b, dx, fs, dy, gs, rfl, rfl, ha, hb', q⟩ := h
  cases rx
  cases ry
  obtain ⟨od, J⟩ := inst_of I ha
  obtain ⟨od', J'⟩ := inst_of I hb'
  obtain ⟨m, hF⟩ := I.fr
  refine PySem.W.cmp_ofEq (PySem.W.cmp_K (op := .Eq) (tb := .ref C) hr.units0 hF I.ok.mod.kin J J'.type (by simp [PySem.W.notFirst]) c.at_ c.fn ?_)
  refine thn (run_sub (vs := [.ref a, .ref b]) rfl F hr hb I (.cons rfl (.cons rfl .nil)) q) fun u s1 ⟨v, H1, I1, rv, z, ev, q1⟩ => ?_
  subst ev
  cases rv
  exact ⟨.bl z, H1, I1, rfl, q1⟩
/-- the class takes != from object -/
structure NeO (K : PySem.W.Frag) (C : Addr) : Prop where
  at_ : PySem.W.findIn K (.ref C) "__ne__" = some (some (.builtin "object.__ne__"))
  ob : PySem.W.mroIn K C (.type "object") = some true
theorem cmp_neO (n : NeO X.K C) (c : Spc X.K C "__eq__" f) (F : FnOk X.prog X.w X.K X.mg X.base CX0 k f fd ["self", "other"] sp) (hr : Room (k + 4) X.A) (hb : Binds X.K fd ["self", "other"] []) :
    OpR X (compareOp .NotEq) (fun x y H Q => ∃ a b dx fs dy gs, x = .ref a ∧ y = .ref b ∧ H a = some (.ins C dx fs) ∧ H b = some (.ins C dy gs) ∧ sp [.ref a, .ref b] H (fun v H1 => ∃ z, v = .bl z ∧ Q (.bl (!z)) H1) E0) := by
  intro pins s σ H x y v u Q I rx ry h
  obtain ⟨a, b, dx, fs, dy, gs, rfl, rfl, ha, hb', q⟩ := h
  cases rx
  cases ry
  obtain ⟨od, J⟩ := inst_of I ha
  obtain ⟨od', J'⟩ := inst_of I hb'
  have KX := I.kIn
  have inner : wpAny (model X.prog X.w) X.A.in1 (Builtin.«object.__ne__» ⟨[.ref a, .ref b], []⟩) (fun z s' => ∃ t, z = Fin.done (.ret (.bool t)) ∧ EP X pins σ Q (.bool t) s') X.xe s := by
    unfold Builtin.«object.__ne__»
    refine wpAny_bind (m := slotArgs "__ne__" 1 _) (wpAny_pure ?_)
    refine wpAny_bind (wpAny_cRoomFor (hr.mono (by omega : k + 3 + 1 ≤ k + 4)).in1.units0 ?_)
    refine wpAny_bind (m := callSpecialIfBound? (.ref a) (Str.ofString "__eq__") [.ref b]) (PySem.W.ifBound_K KX J c.at_ c.fn ?_)
    refine thn (run_sub (A := X.A.in1) (vs := [.ref a, .ref b]) rfl F (hr.mono (by omega : k + 1 ≤ k + 4)).in1 hb I (.cons rfl (.cons rfl .nil)) q) fun u s1 ⟨v, H1, I1, rv, z, ev, q1⟩ => ?_
    subst ev
    cases rv
    refine wpAny_bind (wpAny_truthy_bool (wpAny_pure ⟨_, rfl, .bl (!z), H1, I1, rfl, q1⟩))
  have one : wpAny (model X.prog X.w) X.A (tryCompare (.ref a) "__ne__" (.ref b)) (fun r s' => ∃ t, r = some (.bool t) ∧ EP X pins σ Q (.bool t) s') X.xe s := by
    have cl : wpAny (model X.prog X.w) X.A (call (.builtin "object.__ne__") [.ref a, .ref b]) (fun r s' => ∃ t, r = .bool t ∧ EP X pins σ Q (.bool t) s') X.xe s := by
      refine wpAny_call (codeAny_call_builtin PySem.F.slot_tuple_iterator_ne.plain PySem.F.cmpEntry_ne ?_)
      refine @PySem.W.check_slot (model X.prog X.w) _ _ s "object.__ne__" "object" "__ne__" (.ref a) [.ref b] [] _ PySem.F.cmpKind_ne PySem.F.cmpSplit_ne (J.type.andThen (PySem.W.looks_mroIn KX n.ob)) (PySem.F.cmpArgs_ne _ _) ?_
      refine wpAny_mono inner (fun z s' hz => ?_) fun _ _ e => e
      obtain ⟨t, rfl, hq⟩ := hz
      exact ⟨t, rfl, hq⟩
    simp only [tryCompare, callSpecialIfBound?, bindSpecialIfBound?]
    refine wpAny_bind (wpAny_holding (wpAny_bind (wpAny_bind (wpAny_bind (J.type.here ((PySem.W.looks_findIn KX n.at_).here ?_))))))
    refine wpAny_bind (wpAny_askSetting (wpAny_ite ?_))
    have fin : wpAny (model X.prog X.w) X.A (call (.builtin "object.__ne__") ([.ref a] ++ [.ref b]) >>= fun v => pure (some v)) (fun r s' => ∃ t, r = some (.bool t) ∧ EP X pins σ Q (.bool t) s') X.xe s :=
      wpAny_bind (wpAny_mono cl (fun v s' ⟨t, e, hq⟩ => wpAny_pure ⟨t, by rw [e], hq⟩) fun _ _ e => e)
    have fin2 : wpAny (model X.prog X.w) X.A (call (.builtin "object.__ne__") ([.ref a] ++ [.ref b]) >>= fun v => pure (some v)) (fun r s' => wpAny (model X.prog X.w) X.A (match r with | some .notImplemented | none => pure none | some v => pure (some v)) (fun r s' => ∃ t, r = some (.bool t) ∧ EP X pins σ Q (.bool t) s') X.xe s') X.xe s :=
      wpAny_mono fin (fun r s' ⟨t, e, hq⟩ => by subst e; exact wpAny_pure ⟨t, rfl, hq⟩) fun _ _ e => e
    split
    · exact wpAny_bind ((PySem.W.Looks.of_pure (ne_bind _)).here (wpAny_pure (by exact fin2)))
    · exact wpAny_tryCatch (wpAny_bind ((PySem.W.Looks.of_pure (ne_bind _)).here (wpAny_pure (by exact fin2))))
  show wpAny _ _ (richCompare .NotEq (.ref a) (.ref b)) _ _ _
  unfold richCompare
  simp only [oneThing_ref]
  refine wpAny_holding (wpAny_bind (wpAny_cRoomFor hr.units0 ?_))
  refine wpAny_bind (J.type.here (wpAny_bind (J'.type.here ?_)))
  rw [show (Value.ref C != Value.ref C) = false from by simp]
  simp only [Bool.false_eq_true, if_false]
  refine wpAny_bind (wpAny_pure ?_)
  simp only [Bool.false_eq_true, if_false]
  refine wpAny_bind (wpAny_mono one (fun r s' ⟨t, e, hq⟩ => ?_) fun _ _ e => e)
  subst e
  exact wpAny_pure hq
end
end Own

namespace Own
open PySem PySem.Spec PyProof.Rows L2
/-! a def that takes all keywords: f(self, **bases) -/
section
variable {prog : Program} {w : World} {A : Around} {E : Value → Shared → Prop} {d : Addr}
theorem put_one {s : Shared} {es : List DictEntry} {n : Nat} {k : Str} {v : Value} {Q : Unit → Shared → Prop} (D : s.heap.get? d = some (PySem.W.dictOf es n)) (hs : ∀ e ∈ es, e.key.isStr k = false) (hr : ∀ e ∈ es, e.refKey = false)
    (h : ∀ h', h'.get? d = some (PySem.W.dictOf (es ++ [⟨PyData.keyHash w.params k, .str k s.toks, v⟩]) (n + 1)) → (∀ b o, b ≠ d → s.heap.get? b = some o → h'.get? b = some o) → Q () { s with heap := h', toks := s.toks + 1 }) :
    wpAny (model prog w) A (nsSet d k v) Q E s := by
  have a1 : es.any (·.key.isStr k) = false := List.any_eq_false.mpr fun e he => by rw [hs e he]; decide
  have a2 : es.any (·.refKey) = false := List.any_eq_false.mpr fun e he => by rw [hr e he]; decide
  have a3 : Obj.putName k (PyData.keyHash w.params k) (.str k s.toks) v (PySem.W.dictOf es n) = PySem.W.dictOf (es ++ [⟨PyData.keyHash w.params k, .str k s.toks, v⟩]) (n + 1) := by
    rw [PySem.W.putName_dict, PySem.W.putL_new hs]
    show PySem.W.dictOf _ (if es.any (·.key.isStr k) then n else n + 1) = _
    rw [a1, if_neg Bool.false_ne_true]
  have a4 : aRefKeyMayBeTheName k es.toArray = false := by
    rw [aRefKeyMayBeTheName_at, ← Array.any_toList, ← Array.any_toList]
    show (!es.any (·.key.isStr k) && es.any (·.refKey)) = false
    rw [a2, Bool.and_false]
  unfold nsSet
  refine wpAny_bind (wpAny_bind (wpAny_askSetting (wpAny_pure (wpAny_bind (wpAny_mkText (wpAny_bind (wpAny_loadPart D ?_)))))))
  dsimp only
  rw [a4]
  refine wpAny_updatePart D (h _ ?_ fun b o hb e => ?_)
  · rw [← a3]
    exact Heap.get?_update_self _ D ((congrArg Obj.isFreed a3).trans rfl)
  · exact (Heap.get?_update_ne _ b d _ hb).trans e
def putAll (d : Addr) (l : List (Str × Value)) : Sem PUnit := forIn l PUnit.unit fun x _ => (nsSet d x.1 x.2 >>= fun _ => pure (ForInStep.yield PUnit.unit))
theorem put_all {Q : PUnit → Shared → Prop} : ∀ (l : List (Str × Value)) (s : Shared) (es : List DictEntry) (n : Nat), s.heap.get? d = some (PySem.W.dictOf es n) → (∀ e ∈ es, ∀ x ∈ l, e.key.isStr x.1 = false) → (∀ e ∈ es, e.refKey = false) → (l.map (·.1)).Nodup →
    (∀ h', h'.get? d = some (PySem.W.dictOf (es ++ PySem.W.kwEs w.params s.toks l) (n + l.length)) → (∀ b o, b ≠ d → s.heap.get? b = some o → h'.get? b = some o) → Q ⟨⟩ { s with heap := h', toks := s.toks + l.length }) → wpAny (model prog w) A (putAll d l) Q E s
  | [], s, es, n, D, _, _, _, h => by
    unfold putAll
    rw [List.forIn_nil]
    refine wpAny_pure (h s.heap ?_ fun _ _ _ e => e)
    show s.heap.get? d = some (PySem.W.dictOf (es ++ []) n)
    rw [List.append_nil]
    exact D
  | x :: r, s, es, n, D, hs, hr, hn, h => by
    obtain ⟨n1, n2⟩ := List.nodup_cons.mp (show (x.1 :: r.map (·.1)).Nodup from hn)
    unfold putAll
    rw [List.forIn_cons]
    refine wpAny_bind (wpAny_bind (put_one D (fun e he => hs e he x (.head _)) hr fun h' D' k' => wpAny_pure ?_))
    refine put_all r { s with heap := h', toks := s.toks + 1 } _ _ D' (fun e he y hy => ?_) (fun e he => ?_) n2 fun h2 D2 k2 => ?_
    · rcases List.mem_append.mp he with z | z
      · exact hs e z y (.tail _ hy)
      · obtain rfl := List.mem_singleton.mp z
        exact beq_eq_false_iff_ne.mpr fun q => n1 (by rw [q]; exact List.mem_map_of_mem hy)
    · rcases List.mem_append.mp he with z | z
      · exact hr e z
      · obtain rfl := List.mem_singleton.mp z
        rfl
    · have t1 : s.toks + 1 + r.length = s.toks + (r.length + 1) := by omega
      have t2 : n + 1 + r.length = n + (r.length + 1) := by omega
      show Q ⟨⟩ { s with heap := h2, toks := s.toks + 1 + r.length }
      rw [t1]
      refine h h2 ?_ fun b o hb e => k2 b o hb (k' b o hb e)
      rw [t2, List.append_assoc] at D2
      exact D2
/-- the keys are texts -/
def keyed {α : Type} (l : List (Str × α)) : List (Key × α) := l.map fun p => (.inr p.1, p.2)
theorem keyed_pairs : ∀ (l : List (Str × Value)) (t : Tok), Pairs (mixKind prog w) (PySem.W.kwEs w.params t l) (keyed l)
  | [], _ => Pairs.nil
  | x :: r, t => Pairs.cons (mixKind_str prog w x.1 t) rfl (keyed_pairs r (t + 1))
theorem keyed_keys {α : Type} (l : List (Str × α)) : (keyed l).map (·.1) = (l.map (·.1)).map Sum.inr := by
  unfold keyed
  rw [List.map_map, List.map_map]
  rfl
theorem keyed_nodup {α : Type} {l : List (Str × α)} (h : (l.map (·.1)).Nodup) : ((keyed l).map (·.1)).Nodup := by
  rw [keyed_keys]
  exact List.Pairwise.map _ (fun a b n e => n (Sum.inr.inj e)) h
theorem put_dict {h : Heap} {l : List (Str × Value)} {t : Tok} {n : Nat} (D : h.get? d = some (PySem.W.dictOf (PySem.W.kwEs w.params t l) n)) (hn : (l.map (·.1)).Nodup) : h.DictOf (mixKind prog w) d (keyed l) := by
  refine ⟨_, (PySem.W.kwEs w.params t l).toArray, n, D, ⟨rfl, rfl, rfl⟩, rfl, fun e he => ?_, keyed_pairs l t, keyed_nodup hn⟩
  obtain ⟨k, u, hk, hh⟩ := PySem.W.kwEs_key l t e (List.mem_toArray.mp he)
  exact ⟨.inr k, by rw [hk]; exact mixKind_str prog w k u, hh.trans rfl⟩
theorem keyed_kv : ∀ {ks : List Str} {vs : List V} {ws : List Value}, Vals vs ws → KV (keyed (ks.zip vs)) (keyed (ks.zip ws))
  | [], _, _, _ => by
    rw [List.zip_nil_left, List.zip_nil_left]
    exact .nil
  | _ :: _, _, _, .nil => .nil
  | k :: ks, _, _, .cons r t => .cons ⟨rfl, r⟩ (keyed_kv t)
end
end Own

namespace Own
open PySem PySem.Spec PyProof.Rows L2
section
variable {P : Program} {w : World} {K : PySem.W.Frag} {mg : Str → Option Value} {base : Heap} {A : Around} {outer : List Env} {s : Shared} {H : Hp}
theorem env0_grown {h' : Heap} {d : Addr} {u : HO} {t : Nat} (e0 : Env0 P w K mg base A outer s H) (kp : ∀ b x, s.heap.get? b = some x → h'.get? b = some x) (hd : s.heap.objs.size ≤ d) (sz : s.heap.objs.size ≤ h'.objs.size) (new : ObjOk P w (upd H d u) h' d u) :
    Env0 P w K mg base A outer { s with heap := h', toks := t } (upd H d u) := by
  refine ⟨e0.frames, e0.mod, fun b x e => ⟨kp b x (e0.bs b x e).1, ?_⟩, Nat.le_trans e0.bsz sz, Heap.FunFrames.of_keeps (fun b x e _ => ⟨x, kp b x e, rfl⟩) e0.funs, fun b hb => ?_, e0.hok.laid kp hd new, e0.bare⟩
  · rw [upd_ne (Nat.ne_of_lt (Nat.lt_of_lt_of_le (Heap.lt_size (e0.bs b x e).1) hd))]
    exact (e0.bs b x e).2
  · obtain ⟨_, x, hx, _⟩ := e0.funs.mem hb
    rw [upd_ne (Nat.ne_of_lt (Nat.lt_of_lt_of_le (Heap.lt_size hx) hd))]
    exact e0.frf b hb
/-- a promise of a def f(self, **bases): the object, the names, their values -/
abbrev SpK := Addr → List Str → List V → Hp → VK → Prop
def FnKw (P : Program) (w : World) (K : PySem.W.Frag) (mg : Str → Option Value) (base : Heap) (k : Nat) (f : Addr) (sp : SpK) : Prop :=
  ∀ (A : Around) (outer : List Env) (s : Shared) (H : Hp) (x : Addr) (ks : List Str) (ws : List Value) (vs : List V) (Q : VK) (E : XK), Room k A → Env0 P w K mg base A outer s H → Vals vs ws → vs.length = ks.length → sp x ks vs H Q →
    codeAny (model P w) A (.call (.ref f) ⟨[.ref x], ks.zip ws⟩) (CR CX0 outer P w H s Q E) s
theorem fn_kw {k : Nat} {f : Addr} {name qual : Str} {params : Arguments} {body : List Stmt} {scope : Scope} {dV kV doc pm cdv ct oc : Value} {an od : Option Addr} {osl : Array (Option Value)} {N : List Str} {sp : SpK} {p1 p2 : Str}
    (lk : K.lookup f = some ⟨oc, od, .func (PySem.W.fnOf name qual params body scope dV kV doc pm an cdv ct), osl⟩) (hcd : PySem.W.codeIn K cdv qual = true) (S : FnScope N [p1, p2] scope)
    (nd : ∀ x ks vs H Q, sp x ks vs H Q → ks.Nodup ∧ ks.length ≤ 1000)
    (hb : ∀ x ks vs H Q (ws : List Value), sp x ks vs H Q → ws.length = ks.length → bindArgs (PySem.W.fnOf name qual params body scope dV kV doc pm an cdv ct) ⟨[.ref x], ks.zip ws⟩ =
      (alloc ({ cls := .type "dict", data := .dict #[] } : Obj) >>= fun d => putAll d (ks.zip ws) >>= fun _ => pure [(p1, Value.ref x), (p2, Value.ref d)]))
    (hbody : ∀ (A : Around) (outer : List Env) (s : Shared) (H : Hp) (x d : Addr) (ks : List Str) (vs : List V) (Q : VK) (E : XK), Room k (A.deeper (envOfC qual scope s.heap.objs.size f cdv)) → sp x ks vs H Q → H d = none →
      ∃ t, PSs (cxOf CX0 P w K mg base N qual scope f cdv A outer s (upd H d (.dK (keyed (ks.zip vs)))) E).nox body t ∧ t { nx := fun _ H' => Q .non H', rt := Q } (start N [.ref x, .ref d]) (upd H d (.dK (keyed (ks.zip vs))))) :
    FnKw P w K mg base (k + 1) f sp := by
  intro A outer s H x ks ws vs Q E hr e0 r hl hsp
  have hlw : ws.length = ks.length := r.length.symm.trans hl
  have hn : H s.heap.objs.size = Option.none := e0.hok.fresh (Nat.le_refl _)
  obtain ⟨nd1, nd2⟩ := nd _ _ _ _ _ hsp
  have keysE : ((ks.zip ws).map (·.1)) = ks := by
    rw [List.map_fst_zip]
    omega
  refine StX.run_bnd (ps := [p1, p2]) lk hcd S hr e0 (G := fun xs H2 => ∃ d, H d = Option.none ∧ xs = [V.ref x, V.ref d] ∧ H2 = upd H d (.dK (keyed (ks.zip vs)))) (fun A' Ex Q' h => ?_) fun s2 H2 xs ⟨d, hd, ex, eH⟩ hr' => ?_
  · rw [hb x ks vs H Q ws hsp hlw]
    refine wpAny_bind (wpAny_alloc (wpAny_bind ?_))
    refine put_all (ks.zip ws) { s with heap := s.heap.push ({ cls := .type "dict", data := .dict #[] } : Obj) } [] 0 (Heap.get?_push_size _ rfl) (fun _ z => nomatch z) (fun _ z => nomatch z) (by rw [keysE]; exact nd1) fun h' D' kp' => wpAny_pure ?_
    have kp : ∀ b o, s.heap.get? b = some o → h'.get? b = some o := fun b o e => kp' b o (Nat.ne_of_lt (Heap.lt_size e)) (Heap.get?_push_of_some _ e)
    have dct : h'.DictOf (mixKind P w) s.heap.objs.size (keyed (ks.zip ws)) := put_dict (t := s.toks) (n := 0 + (ks.zip ws).length) (by simpa using D') (by rw [keysE]; exact nd1)
    have kv : KV (keyed (ks.zip vs)) (keyed (ks.zip ws)) := keyed_kv r
    have z : (keyed (ks.zip vs)).length ≤ sizeLine := by
      unfold keyed
      rw [List.length_map, List.length_zip]
      exact Nat.le_of_lt (small1000 (by omega))
    have big := StX.env0_big e0
    have new : ObjOk P w (upd H s.heap.objs.size (.dK (keyed (ks.zip vs)))) h' s.heap.objs.size (.dK (keyed (ks.zip vs))) := ⟨z, beq_eq_false_iff_ne.mpr (Ne.symm (Nat.ne_of_lt big)), _, kv, dct⟩
    have un : Un (frs outer) [] H (upd H s.heap.objs.size (.dK (keyed (ks.zip vs)))) s.heap h' := Un.laid kp (Nat.le_refl _) hn
    exact h { s with heap := h', toks := s.toks + (ks.zip ws).length } _ [V.ref x, V.ref s.heap.objs.size] [Value.ref x, Value.ref s.heap.objs.size] (env0_grown e0 kp (Nat.le_refl _) (Nat.le_of_lt (by
      obtain ⟨o, es, ep, ho, _⟩ := dct
      exact Heap.lt_size ho)) new) un rfl (fun e s' hh => hh) (.cons rfl (.cons rfl .nil)) rfl ⟨_, hn, rfl, rfl⟩
  · subst ex eH
    obtain ⟨t, ht, q⟩ := hbody A outer s2 H x d ks vs Q E hr' hsp hd
    exact ⟨t, ht.nox, q⟩
end
/-- C(k = v, ..), no positional argument -/
def tMakeKw (C : Addr) (ks : List Str) (sp : SpK) (tk : TA) : TE := fun σ H Q => tk σ H fun zs H2 => zs.length = ks.length ∧
  ∀ x dx, H2 x = none → H2 dx = none → dx ≠ x → sp x ks zs (upd (upd H2 dx (.own x)) x (.ins C dx [])) (fun v H3 => v = .non ∧ Q (.ref x) H3)
section
variable {X : Cx} {k i : Nat} {f C : Addr} {ks : List Str} {sp : SpK} {x : Str} {p pos : Pos} {kws : List Keyword} {tk : TA}
theorem run_makeKw {pins : List (Addr × Obj)} {σ : L2.St} {H : Hp} {s : Shared} {Q : VK} {ws : List Value} {zs : List V} (M : Mk X.K C f) (F : FnKw X.prog X.w X.K X.mg X.base k f sp) (hr : Room (k + 1) X.A) (I : Inv X pins σ H s) (rz : Vals zs ws) (l : zs.length = ks.length)
    (h : ∀ x dx, H x = none → H dx = none → dx ≠ x → sp x ks zs (upd (upd H dx (.own x)) x (.ins C dx [])) (fun v H3 => v = .non ∧ Q (.ref x) H3)) :
    wpAny (model X.prog X.w) X.A (call (.ref C) [] (ks.zip ws)) (EP X pins σ Q) X.xe s := by
  have hq := h (s.heap.objs.size + 1) s.heap.objs.size (I.hok.fresh (Nat.le_succ _)) (I.hok.fresh (Nat.le_refl _)) (Nat.ne_of_lt (Nat.lt_succ_self _))
  have I2 := Inv.made (C := C) I
  refine wpAny_call (make_map (f := f) I.kIn M.makes M.init (beq_iff_eq.mp M.fn) (codeAny_mono (F _ X.stack _ _ (s.heap.objs.size + 1) ks ws zs _ E0 (hr.make C [] (ks.zip ws)) (I2.env0.make C [] (ks.zip ws)) rz l hq) fun r s' z => ?_))
  cases r with
  | error e => exact False.elim z
  | ok fl =>
    cases fl with
    | next => exact False.elim z
    | brk => exact False.elim z
    | cont => exact False.elim z
    | ret u =>
      obtain ⟨v, H3, I3, rv, ev, q3⟩ := I2.after z
      subst ev
      exact ⟨rv, V.ref (s.heap.objs.size + 1), H3, I3, rfl, q3⟩
theorem pe_makeKw (M : Mk X.K C f) (F : FnKw X.prog X.w X.K X.mg X.base k f sp) (hr : Room (k + 1) X.A) (hg : Gl X x) (hm : X.mg x = some (.ref C)) (hkw : PK X kws tk)
    (hall : (backToKw pos (keywordEach kws X.env)).all (·.1.isSome) = true := by rfl) (hks : (backToKw pos (keywordEach kws X.env)).filterMap (·.1) = ks := by rfl) (hdb : (x == ("__debug__" : Str)) = false := by decide)
    (hpl : ((backTo pos (starEach [] X.env)).any (·.1) || (backToKw pos (keywordEach kws X.env)).any (·.1.isNone)) = false := by rfl) : PE X (.Call (.Name x p) [] kws pos) (tMakeKw C ks sp tk) := by
  refine ⟨fun pins s σ H Q I h => ?_⟩
  refine wpAny_Call_Name_kw (ld_glob I hg hm ?_ hdb)
  refine PySem.W.callWith_KW0 (h₀ := X.base) (first := []) I.ok.mod.kin M.kp hall (thn (hkw.run pos pins s σ H _ I h) fun ws s2 ⟨zs, H2, I2, rz, l, q⟩ => ⟨I2.kIn, ?_⟩) hpl
  rw [hks]
  exact run_makeKw M F hr I2 rz l q
/-- x(), x a local name that holds the class -/
def tMakeL (i : Nat) (C : Addr) (sp : SpK) : TE := fun σ H Q => σ[i]? = some (some (.ref C)) ∧ ∀ x dx, H x = none → H dx = none → dx ≠ x → sp x [] [] (upd (upd H dx (.own x)) x (.ins C dx [])) (fun v H3 => v = .non ∧ Q (.ref x) H3)
theorem pe_makeL (M : Mk X.K C f) (F : FnKw X.prog X.w X.K X.mg X.base k f sp) (hr : Room (k + 1) X.A) (hN : X.N[i]? = some x) (hv : Vis X.env.scope x) (hdb : (x == ("__debug__" : Str)) = false := by decide) (hcd : (x == ("__classdict__" : Str)) = false := by decide) :
    PE X (.Call (.Name x p) [] [] pos) (tMakeL i C sp) := by
  refine ⟨fun pins s σ H Q I h => ?_⟩
  obtain ⟨hs, h⟩ := h
  refine wpAny_Call_Name_kw (thn ((pe_var (pos := p) hN hv hdb hcd).run pins s σ H (fun v H1 => v = .ref C ∧ H1 = H) I ⟨.ref C, hs, rfl, rfl⟩) fun u s1 ⟨v, H1, I1, r1, q1⟩ => ?_)
  obtain ⟨rfl, rfl⟩ := q1
  cases r1
  exact PySem.W.callWith_K0 I1.kIn M.kp (run_makeKw (ks := []) M F hr I1 .nil rfl h)
end
end Own

namespace Own
open PySem PySem.Spec PyProof.Rows L2
/-- one value by place, one by its name -/
structure BK1 (fd : FuncData) (ps : List Str) (kw : Str) : Prop where
  to : ∀ (s : Shared) (u w : Value), BindsTo s fd ⟨[u], [(kw, w)]⟩ (ps.zip [u, w])
theorem bk1_of {K : PySem.W.Frag} {x qual : Str} {st : Stmt} {f : Addr} {fd : FuncData} {ps : List Str} {kw : Str} (F : Fun K x qual st f fd)
    (h : ∀ (kV doc pm : Value) (an : Option Addr) (cdv ct u w : Value), bindArgs (PySem.W.fnOf x qual (defArgs st) (defBody st) (defScope st) .none kV doc pm an cdv ct) ⟨[u], [(kw, w)]⟩ = pure (ps.zip [u, w])) : BK1 fd ps kw := by
  obtain ⟨oc, od, kV, doc, pm, an, cdv, ct, osl, rfl, lk, hcd⟩ := F.ex
  exact ⟨fun s u w => .of_eq (h kV doc pm an cdv ct u w)⟩
section
variable {X : Cx} {k : Nat} {f g C p : Addr} {fd : FuncData} {ps : List Str} {sp : Sp} {E : XK} {m kw : Str} {o e : Expr} {kpos pos apos : Pos} {ta te : TE} {mc : Value} {pl : Sem Bool}
theorem code_k1 {pins : List (Addr × Obj)} {σ : L2.St} {H : Hp} {s : Shared} {Q : VK} {u w : Value} {x y : V} (F : FnOk X.prog X.w X.K X.mg X.base CX0 k f fd ps sp) (hr : Room k X.A) (hb : BK1 fd ps kw) (I : Inv X pins σ H s) (rx : RelV x u) (ry : RelV y w) (h : sp [x, y] H Q E)
    {E' : Value → Shared → Prop} : codeAny (model X.prog X.w) X.A (.call (.ref f) ⟨[u], [(kw, w)]⟩) (wants (EP X pins σ Q) E') s := by
  refine codeAny_mono (F.run X.A X.stack s H ⟨[u], [(kw, w)]⟩ [u, w] [x, y] Q E hr I.env0 (hb.to s u w) (.cons rx (.cons ry .nil)) h) fun r s' hq => ?_
  cases r with
  | error e => exact False.elim hq
  | ok fl =>
    cases fl with
    | next => exact False.elim hq
    | brk => exact False.elim hq
    | cont => exact False.elim hq
    | ret u => exact I.after hq
/-- o.m(k = e) -/
def tMethK (C : Addr) (m : Str) (sp : Sp) (E : XK) (ta te : TE) : TE := fun σ H Q => ta σ H fun x H1 => ∃ a dx fs, x = .ref a ∧ H1 a = some (.ins C dx fs) ∧ fs.lookup m = none ∧ te σ H1 fun y H2 => sp [.ref a, y] H2 Q E
theorem pe_methK (he : PE X o ta) (c : Cls X.K C) (hm : Meth X.K C m f) (F : FnOk X.prog X.w X.K X.mg X.base CX0 k f fd ps sp) (hr : Room k X.A) (hb : BK1 fd ps kw) (hv : PE X e te)
    (hall : (backToKw pos (keywordEach [⟨some kw, e, kpos⟩] X.env)).all (·.1.isSome) = true := by rfl) (hks : (backToKw pos (keywordEach [⟨some kw, e, kpos⟩] X.env)).filterMap (·.1) = [kw] := by rfl)
    (hpl : ((backTo pos (starEach [] X.env)).any (·.1) || (backToKw pos (keywordEach [⟨some kw, e, kpos⟩] X.env)).any (·.1.isNone)) = false := by rfl)
    (ht : eval (.Call (.Attribute o m apos) [] [⟨some kw, e, kpos⟩] pos) X.env = (do
      let ov ← eval o X.env
      standAt apos.atName
      let (f, first) ← holding [ov] (getMethod ov m pl)
      callWith pos f first (backTo pos (starEach [] X.env)) (backToKw pos (keywordEach [⟨some kw, e, kpos⟩] X.env))) := by rfl) :
    PE X (.Call (.Attribute o m apos) [] [⟨some kw, e, kpos⟩] pos) (tMethK C m sp E ta te) := by
  refine ⟨fun pins s σ H Q I h => ?_⟩
  refine PySem.W.methodCall_KW (pl := pl) (thn (he.run pins s σ H _ I h) fun u s1 ⟨x, H1, I1, rx, a, dx, fs, ex, ea, l, q⟩ => ?_) ht
  subst ex
  obtain rfl : u = Value.ref a := rx
  refine getmeth_ok I1 ea c hm l ?_
  have pk : PK X [⟨some kw, e, kpos⟩] (tCons te tNil) := pk_cons hv pk_nil
  refine PySem.W.callWith_KW0 (first := [.ref a]) (h₀ := X.base) I.ok.mod.kin hm.kp hall (thn (pk.run pos pins s1 σ H1 (fun zs H2 => ∃ y, zs = [y] ∧ sp [.ref a, y] H2 Q E) I1 (show te σ H1 (fun y H2 => ∃ z, [y] = [z] ∧ sp [.ref a, z] H2 Q E) from ?_)) fun ws s2 ⟨zs, H2, I2, rz, y, ez, q2⟩ => ⟨I2.kIn, ?_⟩) hpl
  · have e2 : (fun (y : V) (H2 : Hp) => ∃ z, [y] = [z] ∧ sp [.ref a, z] H2 Q E) = fun y H2 => sp [.ref a, y] H2 Q E := by
      funext y H2
      exact propext ⟨fun ⟨z, ez, q⟩ => by cases ez; exact q, fun q => ⟨y, rfl, q⟩⟩
    rw [e2]
    exact q
  · subst ez
    obtain ⟨w, rfl, rw'⟩ := vals1 rz
    rw [hks]
    exact wpAny_call (code_k1 (x := V.ref a) F hr hb I2 rfl rw' q2)
/-- C.m(k = e), a classmethod -/
def tCMethK (C : Addr) (sp : Sp) (E : XK) (ta te : TE) : TE := fun σ H Q => ta σ H fun x H1 => x = .ref C ∧ te σ H1 fun y H2 => sp [.ref C, y] H2 Q E
theorem pe_cmethK (he : PE X o ta) (r : ClX.CRead X.K C mc) (c : ClX.CMet X.K C mc m p g) (F : FnOk X.prog X.w X.K X.mg X.base CX0 k g fd ps sp) (hr : Room k X.A) (hb : BK1 fd ps kw) (hv : PE X e te)
    (hall : (backToKw pos (keywordEach [⟨some kw, e, kpos⟩] X.env)).all (·.1.isSome) = true := by rfl) (hks : (backToKw pos (keywordEach [⟨some kw, e, kpos⟩] X.env)).filterMap (·.1) = [kw] := by rfl)
    (hpl : ((backTo pos (starEach [] X.env)).any (·.1) || (backToKw pos (keywordEach [⟨some kw, e, kpos⟩] X.env)).any (·.1.isNone)) = false := by rfl)
    (ht : eval (.Call (.Attribute o m apos) [] [⟨some kw, e, kpos⟩] pos) X.env = (do
      let ov ← eval o X.env
      standAt apos.atName
      let (f, first) ← holding [ov] (getMethod ov m pl)
      callWith pos f first (backTo pos (starEach [] X.env)) (backToKw pos (keywordEach [⟨some kw, e, kpos⟩] X.env))) := by rfl) :
    PE X (.Call (.Attribute o m apos) [] [⟨some kw, e, kpos⟩] pos) (tCMethK C sp E ta te) := by
  refine ⟨fun pins s σ H Q I h => ?_⟩
  refine PySem.W.methodCall_KW (pl := pl) (thn (he.run pins s σ H _ I h) fun u s1 ⟨x, H1, I1, rx, ex, q⟩ => ?_) ht
  subst ex
  obtain rfl : u = Value.ref C := rx
  refine ClX.getmethcm_ok I1 r c fun s2 I2 => ?_
  have pk : PK X [⟨some kw, e, kpos⟩] (tCons te tNil) := pk_cons hv pk_nil
  refine PySem.W.callWith_of hpl (PySem.W.keeps_M c.fi) (PyProof.Rows.evalArgs_kw2_nil hall (thn (pk.run pos _ s2 σ H1 (fun zs H2 => ∃ y, zs = [y] ∧ sp [.ref C, y] H2 Q E) I2 (show te σ H1 (fun y H2 => ∃ z, [y] = [z] ∧ sp [.ref C, z] H2 Q E) from ?_)) fun ws s3 ⟨zs, H2, I3, rz, y, ez, q2⟩ => ⟨⟨ClX.pin_at I3, I3.kIn⟩, ?_⟩))
  · have e2 : (fun (y : V) (H2 : Hp) => ∃ z, [y] = [z] ∧ sp [.ref C, z] H2 Q E) = fun y H2 => sp [.ref C, y] H2 Q E := by
      funext y H2
      exact propext ⟨fun ⟨z, ez, q⟩ => by cases ez; exact q, fun q => ⟨y, rfl, q⟩⟩
    rw [e2]
    exact q
  · subst ez
    obtain ⟨w, rfl, rw'⟩ := vals1 rz
    rw [hks]
    have z : wpAny (model X.prog X.w) X.A (call (.ref s1.heap.objs.size) [] [(kw, w)]) (EP X _ σ Q) X.xe s3 := wpAny_call (PySem.W.method_call (ClX.pin_at I3) (code_k1 (x := V.ref C) F hr hb I3 rfl rw' q2))
    exact thn z fun _ _ y => ClX.unpinE y
end
end Own

namespace K1
open PySem PySem.Spec PyProof.Rows L2
def top (i : Nat) : Stmt := PySem.Challenge.pw_errorplaces_k01_kinds_made.main.body.getD i (.Pass ⟨0, 0, 0, 0⟩)
abbrev sIsName : Stmt := top 3
abbrev sIsPair : Stmt := top 4
abbrev sSpread : Stmt := top 5
abbrev sCopied : Stmt := top 6
abbrev sTakenApart : Stmt := top 7
abbrev sPutTogether : Stmt := top 8
abbrev sInside : Stmt := top 9
abbrev sNoName_init : Stmt := inClass (top 11) 0
abbrev sNoBases_init : Stmt := inClass (top 12) 0
abbrev sNoRows_init : Stmt := inClass (top 13) 0
abbrev sNoKind_init : Stmt := inClass (top 14) 0
abbrev sTooMany_init : Stmt := inClass (top 15) 0
abbrev sInit : Stmt := inClass (top 17) 1
abbrev sOf : Stmt := inClass (top 17) 2
abbrev sTake : Stmt := inClass (top 17) 3
abbrev sEq : Stmt := inClass (top 17) 4
abbrev sLen : Stmt := inClass (top 17) 5
abbrev sRepr : Stmt := inClass (top 17) 6
abbrev sIn : Stmt := inClass (top 17) 7
abbrev sOrder : Stmt := inClass (top 17) 8
abbrev sBelow : Stmt := inClass (top 17) 9
abbrev sAbove : Stmt := inClass (top 17) 10
abbrev sAreRows : Stmt := top 18
abbrev sCkNames : Stmt := top 19
abbrev sCkBases : Stmt := top 20
abbrev sAreBases : Stmt := top 21
abbrev sAllAbove : Stmt := top 22
abbrev sSource : Stmt := top 24
abbrev sDraw : Stmt := top 25
abbrev sNames : Stmt := top 26
abbrev sLines : Stmt := top 27
abbrev sOver : Stmt := top 28
abbrev sRight : Stmt := top 29
abbrev sLaw : Stmt := top 30
end K1

namespace Own
open PySem PySem.Spec PyProof.Rows L2
/-! sorted lists of texts -/
def notAbove (a b : List Nat) : Prop := ltCps b a = false
theorem na_trans : ∀ {a b c : List Nat}, notAbove a b → notAbove b c → notAbove a c
  | [], _, [], _, _ => rfl
  | [], _, _ :: _, _, _ => rfl
  | x :: r, [], _, h, _ => by simp [notAbove, ltCps] at h
  | x :: r, y :: t, [], _, h => by simp [notAbove, ltCps] at h
  | x :: r, y :: t, z :: u, h1, h2 => by
    simp only [notAbove, ltCps, Bool.or_eq_false_iff, Bool.and_eq_false_iff, decide_eq_false_iff_not, beq_eq_false_iff_ne] at h1 h2 ⊢
    refine ⟨by omega, ?_⟩
    by_cases e : z = x
    · refine .inr ?_
      have e1 : y = x := by omega
      have q1 : ltCps t r = false := h1.2.elim (fun n => absurd e1 n) id
      have q2 : ltCps u t = false := h2.2.elim (fun n => absurd (by omega) n) id
      exact na_trans (show notAbove r t from q1) (show notAbove t u from q2)
    · exact .inl e
theorem na_antisymm : ∀ {a b : List Nat}, notAbove a b → notAbove b a → a = b
  | [], [], _, _ => rfl
  | [], y :: t, _, h => by simp [notAbove, ltCps] at h
  | x :: r, [], h, _ => by simp [notAbove, ltCps] at h
  | x :: r, y :: t, h1, h2 => by
    simp only [notAbove, ltCps, Bool.or_eq_false_iff, Bool.and_eq_false_iff, decide_eq_false_iff_not, beq_eq_false_iff_ne] at h1 h2
    have e : x = y := by omega
    subst e
    have q1 : ltCps t r = false := h1.2.elim (fun n => absurd rfl n) id
    have q2 : ltCps r t = false := h2.2.elim (fun n => absurd rfl n) id
    rw [na_antisymm (show notAbove r t from q1) (show notAbove t r from q2)]
theorem str_ext {a b : Str} (h : a.cps.toList = b.cps.toList) : a = b := by
  cases a with
  | mk x =>
    cases b with
    | mk y =>
      have e : x = y := Array.toList_inj.mp h
      rw [e]
theorem rising_all : ∀ (p : Str) (l : List Str), risingS p l = true → (∀ x ∈ l, notAbove p.cps.toList x.cps.toList) ∧ l.Pairwise fun a b => notAbove a.cps.toList b.cps.toList
  | _, [], _ => ⟨(fun _ h => nomatch h), List.Pairwise.nil⟩
  | p, x :: r, h => by
    obtain ⟨h1, h2⟩ := Bool.and_eq_true_iff.mp (show (!ltCps x.cps.toList p.cps.toList && risingS x r) = true from h)
    obtain ⟨i1, i2⟩ := rising_all x r h2
    have n1 : notAbove p.cps.toList x.cps.toList := by
      unfold notAbove
      simpa using h1
    refine ⟨fun y hy => ?_, List.pairwise_cons.mpr ⟨i1, i2⟩⟩
    rcases List.mem_cons.mp hy with e | e
    · rw [e]
      exact n1
    · exact na_trans n1 (i1 y e)
theorem sorted_pw {l : List Str} (h : sortedS l = true) : l.Pairwise fun a b => notAbove a.cps.toList b.cps.toList := by
  cases l with
  | nil => exact .nil
  | cons x r =>
    obtain ⟨a, b⟩ := rising_all x r h
    exact List.pairwise_cons.mpr ⟨a, b⟩
theorem sorted_one {xs ys : List Str} (p : xs.Perm ys) (hx : sortedS xs = true) (hy : sortedS ys = true) : xs = ys :=
  List.Perm.eq_of_pairwise (le := fun a b => notAbove a.cps.toList b.cps.toList) (fun a b _ _ h1 h2 => str_ext (na_antisymm h1 h2)) (sorted_pw hx) (sorted_pw hy) p

/-! a list or a tuple -/
def SeqOf (H : Hp) (a : Addr) (xs : List V) : Prop := H a = some (.lst xs) ∨ H a = some (.tup xs)
theorem SeqOf.same {H H' : Hp} {a : Addr} {xs : List V} (h : SeqOf H a xs) (k : Same H H') : SeqOf H' a xs := h.elim (fun e => .inl (k _ _ e)) fun e => .inr (k _ _ e)
theorem SeqOf.lt {K : PySem.W.Frag} {H : Hp} {a : Addr} {xs : List V} (h : SeqOf H a xs) : SqL K H a xs ∨ SqT K H a xs := h.elim (fun e => .inl (SqL.of e)) fun e => .inr (SqT.of e)
def iSeq (K : PySem.W.Frag) (i : Nat) : TI := fun σ H R => ∃ a, σ[i]? = some (some (.ref a)) ∧ (((∃ xs, H a = some (.lst xs)) ∧ R (Itl K a) H) ∨ ((∃ xs, H a = some (.tup xs)) ∧ R (Itt K a) H))
section
variable {X : Cx} {tg : Expr}
theorem pi_seq (i : Nat) {x : Str} {pos : Pos} (hN : X.N[i]? = some x := by rfl) (hv : Vis X.env.scope x := by first | exact Or.inl rfl | exact Or.inr (Or.inl rfl) | exact Or.inr (Or.inr rfl)) (hd : (x == ("__debug__" : Str)) = false := by decide)
    (hcd : (x == ("__classdict__" : Str)) = false := by decide) : PI X tg (.Name x pos) (iSeq X.K i) := by
  refine ⟨fun pins s σ H R I h => ?_⟩
  obtain ⟨a, e, h⟩ := h
  rcases h with ⟨⟨xs, hs⟩, q⟩ | ⟨⟨xs, hs⟩, q⟩
  · exact (pi_list (pe_var hN hv hd hcd)).run pins s σ H R I ⟨_, e, a, rfl, ⟨xs, SqL.of hs⟩, q⟩
  · exact (pi_tup (pe_var hN hv hd hcd)).run pins s σ H R I ⟨_, e, a, rfl, ⟨xs, SqT.of hs⟩, q⟩
end
theorem for_seq {K : PySem.W.Frag} {i : Nat} {a : Addr} {xs : List V} {g : TG} {tb : TS} {D : Ends} {σ : L2.St} {H : Hp} (e : σ[i]? = some (some (.ref a))) (hs : SeqOf H a xs) (Pv : Nat → L2.St → Hp → Prop) (h0 : Pv 0 σ H) (hk : ∀ i σ H', i ≤ xs.length → Pv i σ H' → ∀ o, H a = some o → H' a = some o)
    (turn : ∀ i x σ H, xs[i]? = some x → Pv i σ H → g x σ H fun σ2 H2 => tb { D with nx := Pv (i + 1), ct := Pv (i + 1), bk := D.nx } σ2 H2) (hd : ∀ σ H, Pv xs.length σ H → D.nx σ H) : tFor (iSeq K i) g tb D σ H := by
  refine ⟨a, e, ?_⟩
  rcases hs with h | h
  · exact .inl ⟨⟨xs, h⟩, for_list Pv h0 (fun j σ' H' hj p => SqL.of (hk j σ' H' hj p _ h)) turn hd⟩
  · exact .inr ⟨⟨xs, h⟩, for_tup Pv h0 (fun j σ' H' hj p => SqT.of (hk j σ' H' hj p _ h)) turn hd⟩
theorem lc_seq {K : PySem.W.Frag} {j : Nat} {a : Addr} {xs : List V} {g : TG} {tt : TT} {te : TE} {vs : List Nat} {σ : L2.St} {H : Hp} {Q : VK} (e : σ[j]? = some (some (.ref a))) (hs : SeqOf H a xs) (Pv : Addr → Nat → Hp → Prop) (h0 : ∀ D, H D = none → Pv D 0 (upd H D (.lst [])))
    (hk : ∀ D i H', H D = none → i ≤ xs.length → Pv D i H' → ∀ o, H a = some o → H' a = some o)
    (turn : ∀ D i x H', H D = none → xs[i]? = some x → Pv D i H' → g x (wipe σ vs) H' fun σ2 H2 => wipe σ2 vs = wipe σ vs ∧ tt σ2 H2 fun b H3 =>
      if b = true then te σ2 H3 fun y H4 => ∃ acc, H4 D = some (.lst acc) ∧ acc.length < sizeLine ∧ Pv D (i + 1) (upd H4 D (.lst (acc ++ [y]))) else Pv D (i + 1) H3) (hd : ∀ D H', H D = none → Pv D xs.length H' → Q (.ref D) H') : tLc (iSeq K j) g tt te vs σ H Q := by
  refine ⟨a, e, ?_⟩
  rcases hs with h | h
  · exact .inl ⟨⟨xs, h⟩, fun D nD => lc_list (Pv D) (h0 D nD) (fun i H' hi p => SqL.of (hk D i H' nD hi p _ h)) (fun i x H' hx p => turn D i x H' nD hx p) fun H' p => hd D H' nD p⟩
  · exact .inr ⟨⟨xs, h⟩, fun D nD => lc_tup (Pv D) (h0 D nD) (fun i H' hi p => SqT.of (hk D i H' nD hi p _ h)) (fun i x H' hx p => turn D i x H' nD hx p) fun H' p => hd D H' nD p⟩
/-! sorted of a tuple, of a list or tuple -/
section
variable {X : Cx}
theorem cr_sortedT : CallR X (.builtin "sorted") (fun vs H Q => ∃ (a : Addr) (xs : List Str), vs = [V.ref a] ∧ H a = some (.tup (xs.map V.str)) ∧ xs.length < 64 ∧ ∀ (ys : List Str) (p : Addr), ys.Perm xs → sortedS ys = true → H p = none → Q (.ref p) (upd H p (.lst (ys.map V.str)))) := by
  intro pins s σ H vs us Q I r h
  obtain ⟨a, xs, rfl, ha, h64, q⟩ := h
  obtain rfl := Vals.ref1 r
  obtain ⟨z0, its, rv, o, ho, hc, n, hd⟩ := (show ObjOk X.prog X.w H s.heap a (.tup (xs.map V.str)) from I.hok a _ ha)
  have hS := rv.strs
  have hal : its.length = xs.length := by
    have z := rv.length
    rw [List.length_map] at z
    exact z.symm
  have hsz : its.length ≤ sizeLine := by rw [hal, sizeLine_eq]; omega
  refine Calls.call_function_entry PyProof.Rows.kind_sorted PyProof.Rows.plain_sorted PyProof.Rows.entry_sorted (PyProof.Rows.args_sorted1 _) ?_
  unfold Builtin.«sorted»
  refine wpAny_bind (m := checkCount "sorted" 1 1 _) (wpAny_pure ?_)
  refine wpAny_bind (wpAny_collect_seq a (.inr rfl) ho hc hd (fun h' hk => ?_) (by rw [List.size_toArray]; exact hsz))
  rw [show its.toArray.toList = its from by simp]
  have I1 : Inv X pins σ H { s with heap := h' } := I.kept (t' := s.toks) hk
  refine wpAny_bind (wpAny_newList ?_ hsz)
  have hoL : (h'.push (seqObj "list" its.toArray 0)).get? h'.objs.size = some (seqObj "list" its.toArray 0) := Heap.get?_push_size _ rfl
  show wpAny _ _ _ _ _ { s with heap := h'.push (seqObj "list" its.toArray 0) }
  refine wpAny_bind (wpAny_holding (wpAny_call_entry PyProof.Rows.slot_list_sort ⟨_, hoL, rfl⟩ PyProof.Rows.entry_list_sort
    (list_sort_treeK strKind_oneLt (s := { s with heap := h'.push (seqObj "list" its.toArray 0) }) hoL hS.keysOf (fun v₁ v₂ rest e => keyKind_strs (by rw [← e]; exact hS)) (by rw [hal]; exact h64) fun st' hp hs => ⟨_, rfl, ?_⟩)
    (PyProof.Rows.args_list_sort _)))
  obtain ⟨ys, g1, g2, g3⟩ := sorted_out_str hS hp hs
  obtain ⟨e', he'⟩ := PyProof.Rows.sortedHeap_at (vs := its) (out := (arrOf st').map (·.2)) hoL
  have hlen : (ys.map V.str).length ≤ sizeLine := by
    rw [List.length_map, g2.length_eq, sizeLine_eq]
    omega
  refine wpAny_pure ⟨_, rfl, .ref h'.objs.size, upd H h'.objs.size (.lst (ys.map V.str)), I1.laid (t' := s.toks) (fun b u e => ?_) (Nat.le_refl _)
    (show ObjOk X.prog X.w _ _ _ (.lst (ys.map V.str)) from ⟨hlen, ((arrOf st').map (·.2)).toList, e', vals_of_strs g1, by rw [Array.toArray_toList]; exact he'⟩), rfl, q ys _ g2 g3 (I1.hok.fresh (Nat.le_refl _))⟩
  have hb : b < h'.objs.size := Heap.lt_size e
  rw [PyProof.Rows.sortedHeap_old (Nat.ne_of_lt hb) (by rw [size_push']; exact Nat.lt_succ_of_lt hb)]
  exact Heap.get?_push_of_some _ e
/-- sorted of a list or a tuple of texts -/
def rSortedQ : List V → Hp → VK → Prop := fun vs H Q => ∃ (a : Addr) (xs : List Str), vs = [V.ref a] ∧ SeqOf H a (xs.map V.str) ∧ xs.length < 64 ∧ ∀ (ys : List Str) (p : Addr), ys.Perm xs → sortedS ys = true → H p = none → Q (.ref p) (upd H p (.lst (ys.map V.str)))
theorem cr_sortedQ : CallR X (.builtin "sorted") rSortedQ := by
  intro pins s σ H vs us Q I r h
  obtain ⟨a, xs, ev, ha, h64, q⟩ := h
  rcases ha with ha | ha
  · exact cr_sortedS pins s σ H vs us Q I r ⟨a, xs, ev, SqL.of ha, h64, q⟩
  · exact cr_sortedT pins s σ H vs us Q I r ⟨a, xs, ev, ha, h64, q⟩
end
end Own

namespace K1
open PySem PySem.Spec PyProof.Rows L2
/-! ### a source of draws -/
theorem same_upd {H : Hp} {p : Addr} {o : HO} (h : H p = none) : Same H (upd H p o) := fun b x e => by
  rw [upd_ne (ne_of_none e h)]
  exact e
/-- all but what stands at s stays -/
def Keep (s : Addr) (H H' : Hp) : Prop := ∀ b o, b ≠ s → H b = some o → H' b = some o
theorem Keep.of {s : Addr} {H H' : Hp} (h : Same H H') : Keep s H H' := fun b o _ e => h b o e
theorem Keep.trans {s : Addr} {H H1 H2 : Hp} (a : Keep s H H1) (b : Keep s H1 H2) : Keep s H H2 := fun c o n e => b c o n (a c o n e)
theorem Keep.refl (s : Addr) (H : Hp) : Keep s H H := fun _ _ _ e => e
theorem Keep.upd {s : Addr} {H : Hp} {o : HO} : Keep s H (upd H s o) := fun b x n e => by
  rw [upd_ne n]
  exact e
theorem Keep.new {s p : Addr} {H H' : Hp} {o : HO} (a : Keep s H H') (h : H' p = none) : Keep s H (L2.upd H' p o) := a.trans (.of (same_upd h))
def SrcOk (a b : Int) : Prop := (b = 0 ∧ 0 ≤ a) ∨ (1 ≤ b ∧ 0 ≤ a ∧ a < 2147483647)
def Src (H : Hp) (s : Addr) : Prop := ∃ a b : Int, H s = some (.lst [.int a, .int b]) ∧ SrcOk a b
/-- where s is a source, a place that is free later was free before -/
theorem Keep.free {s p : Addr} {H H' : Hp} (k : Keep s H H') (q : Src H' s) (h : H' p = none) : H p = none := by
  by_cases e : p = s
  · subst e
    obtain ⟨a, b, z, _⟩ := q
    rw [z] at h
    cases h
  · cases z : H p with
    | none => rfl
    | some o =>
      rw [k p o e z] at h
      cases h
theorem Src.new {s p : Addr} {H : Hp} {o : HO} (q : Src H s) (h : H p = none) : Src (upd H p o) s := by
  obtain ⟨a, b, z, ok⟩ := q
  exact ⟨a, b, by rw [upd_ne (ne_of_none z h)]; exact z, ok⟩
theorem Src.same {s : Addr} {H H' : Hp} (q : Src H s) (h : Same H H') : Src H' s := by
  obtain ⟨a, b, z, ok⟩ := q
  exact ⟨a, b, h _ _ z, ok⟩
theorem mod_lt {a m : Int} (h : 0 < m) : 0 ≤ a % m ∧ a % m < m := ⟨Int.emod_nonneg _ (by omega), Int.emod_lt_of_pos _ h⟩
theorem fmod_pos {a m : Int} (h : 0 < m) : 0 ≤ a.fmod m ∧ a.fmod m < m := by
  rw [Int.fmod_eq_emod_of_nonneg _ (by omega)]
  exact mod_lt h
/-- draw: a number below many -/
def spDraw : Sp := fun vs H Q _ => ∃ (s : Addr) (m : Int), vs = [.ref s, .int m] ∧ Src H s ∧ 0 < m ∧ m < 1073741824 ∧ ∀ (d : Int) (H' : Hp), 0 ≤ d → d < m → Src H' s → Keep s H H' → Q (.int d) H'
section
variable {P : Program} {w : World} {K : PySem.W.Frag} {mg : Str → Option Value} {base : Heap}
theorem scDraw : FnScope ["source", "many", "digit"] ["source", "many"] (defScope sDraw) := ⟨rfl, rfl, rfl, by decide +kernel, rfl, by decide +kernel, by decide +kernel⟩
theorem ok_draw {f : Addr} {fd : FuncData} (F : Fun K "_law_draw" "_law_draw" sDraw f fd) : FnOk P w K mg base CX0 1 f fd ["source", "many"] spDraw := by
  refine F.ok scDraw (fun vs H Q E h => ?_) (fun cdv A outer s H vs Q E hr h => ?_)
  · obtain ⟨a, m, rfl, _⟩ := h
    rfl
  · obtain ⟨s, m, rfl, ⟨a, b, hs, ok⟩, m0, m1, k⟩ := h
    refine ⟨_, pss_cons (ps_if (pt_cmpR op_eq (pe_ix ix_list (pv 0) pe_int (fun _ _ => rfl)) pe_int (nomark _))
        (pss_cons (ps_set (i := 2) scDraw.nd rfl (Or.inl rfl) (pe_op op_modN (pe_ix ix_list (pv 0) pe_int (fun _ _ => rfl)) (pv 1)))
          (pss_cons (ps_asg (pe_op op_fdivN (pe_ix ix_list (pv 0) pe_int (fun _ _ => rfl)) (pv 1)) (pg_sub (pv 0) pe_int set_list))
            (pss_one (ps_ret (pv 2))))) pss_nil)
      (pss_cons (ps_asg (pe_op op_mod (pe_op op_add (pe_op op_add (pe_op op_pow (pe_ix ix_list (pv 0) pe_int (fun _ _ => rfl)) pe_int) (pe_op op_mul pe_int (pe_ix ix_list (pv 0) pe_int (fun _ _ => rfl)))) pe_int) pe_int) (pg_sub (pv 0) pe_int set_list))
      (pss_cons (ps_asg (pe_op op_add (pe_ix ix_list (pv 0) pe_int (fun _ _ => rfl)) pe_int) (pg_sub (pv 0) pe_int set_list))
      (pss_one (ps_ret (pe_op op_modN (pe_op op_fdiv (pe_op op_mod (pe_op op_mul (pe_ix ix_list (pv 0) pe_int (fun _ _ => rfl)) pe_int) pe_int) pe_int) (pv 1)))))), ?_⟩
    refine ⟨_, rfl, s, _, 1, _, rfl, rfl, SqL.of hs, atI_nat (j := 1) rfl, rfl, _, rfl, ite2 (fun e => ?_) (fun e => ?_)⟩
    · have b0 : b = 0 := V.int.inj (of_decide_eq_true e)
      subst b0
      have a0 : 0 ≤ a := by
        rcases ok with z | z
        · exact z.2
        · omega
      refine ⟨_, rfl, s, _, 0, _, rfl, rfl, SqL.of hs, atI_nat (j := 0) rfl, _, rfl, _, _, rfl, rfl, (by omega), ?_⟩
      refine ⟨_, rfl, s, _, 0, _, rfl, rfl, SqL.of hs, atI_nat (j := 0) rfl, _, rfl, _, _, rfl, rfl, ⟨by omega, by omega⟩, ?_⟩
      refine ⟨_, rfl, s, _, 0, 0, rfl, rfl, hs, rfl, ?_⟩
      refine ⟨_, rfl, ?_⟩
      have q := fmod_pos (a := a) m0
      refine k _ _ q.1 q.2 ⟨_, _, upd_same, .inl ⟨rfl, ?_⟩⟩ Keep.upd
      rw [Int.fdiv_eq_ediv_of_nonneg _ (by omega)]
      exact Int.ediv_nonneg a0 (by omega)
    · have b0 : ¬ b = 0 := fun z => e (by rw [z]; exact decide_eq_true rfl)
      obtain ⟨b1, a0, a1⟩ : 1 ≤ b ∧ 0 ≤ a ∧ a < 2147483647 := by
        rcases ok with z | z
        · exact absurd z.1 b0
        · exact z
      refine ⟨_, rfl, s, _, 0, _, rfl, rfl, SqL.of hs, atI_nat (j := 0) rfl, _, _, rfl, rfl, ⟨by decide, by decide, by omega⟩, ?_⟩
      refine ⟨_, rfl, s, _, 1, _, rfl, rfl, SqL.of hs, atI_nat (j := 1) rfl, _, _, rfl, rfl, .inl ⟨by decide, by decide⟩, _, _, rfl, rfl, _, _, rfl, rfl, _, _, rfl, rfl, (by decide : (0 : Int) < 2147483647), ?_⟩
      refine ⟨_, rfl, s, _, 0, 0, rfl, rfl, hs, rfl, ?_⟩
      have q := mod_lt (a := a ^ (5 : Int).toNat + 48271 * b + 11) (m := 2147483647) (by decide)
      refine ⟨_, rfl, s, _, 1, _, rfl, rfl, SqL.of upd_same, atI_nat (j := 1) rfl, _, _, rfl, rfl, ?_⟩
      refine ⟨_, rfl, s, _, 1, 1, rfl, rfl, upd_same, rfl, ?_⟩
      rw [upd_upd]
      refine ⟨_, rfl, s, _, 0, _, rfl, rfl, SqL.of upd_same, atI_nat (j := 0) rfl, _, _, rfl, rfl, .inr ⟨by decide, by decide⟩, _, _, rfl, rfl, (by decide : (0 : Int) < 2147483629), _, _, rfl, rfl, ⟨by decide, by decide⟩, _, rfl, _, _, rfl, rfl, (by omega), ?_⟩
      exact k _ _ (fmod_pos m0).1 (fmod_pos m0).2 ⟨_, _, upd_same, .inr ⟨by omega, q.1, q.2⟩⟩ Keep.upd
end
end K1

namespace K1
open PySem PySem.Spec PyProof.Rows L2 Own
theorem iteTD {p A B : Prop} [Decidable p] (hp : p) (h : A) : if decide p = true then A else B := by
  rw [if_pos (decide_eq_true hp)]
  exact h
theorem iteFD {p A B : Prop} [Decidable p] (hp : ¬ p) (h : B) : if decide p = true then A else B := by
  rw [if_neg (by rw [decide_eq_false hp]; decide)]
  exact h
theorem iteNF {p A B : Prop} [Decidable p] (hp : ¬ p) (h : A) : if (!decide p) = true then A else B := by
  rw [decide_eq_false hp]
  exact iteT h
/-! ### names -/
def NameOk (z : Str) : Prop := 1 ≤ z.length ∧ z.length ≤ 8 ∧ ∀ c ∈ z.cps.toList, 97 ≤ c ∧ c ≤ 122
def abc : Str := "abcdefghijklmnopqrstuvwxyz"
theorem in_abc {c : Nat} (h0 : 97 ≤ c) (h1 : c ≤ 122) : c ∈ abc.cps.toList := by
  have h : ∀ d : Fin 26, (97 + d.val) ∈ abc.cps.toList := by decide +kernel
  have q := h ⟨c - 97, by omega⟩
  have e : 97 + (c - 97) = c := by omega
  simpa [e] using q
def spIsName : Sp := fun vs H Q _ => ∃ z, vs = [.str z] ∧ NameOk z ∧ ∀ H', Same H H' → Q (.bl true) H'
def spIsPair : Sp := fun vs H Q _ => ∃ t x y, vs = [.ref t] ∧ H t = some (.tup [x, y]) ∧ Q (.bl true) H
section
variable {P : Program} {w : World} {K : PySem.W.Frag} {mg : Str → Option Value} {base : Heap}
theorem scIsName : FnScope ["thing", "letter"] ["thing"] (defScope sIsName) := ⟨rfl, rfl, rfl, by decide +kernel, rfl, by decide +kernel, by decide +kernel⟩
theorem ok_isName {f : Addr} {fd : FuncData} {tL : Tok} {tA : Tok} (F : Fun K "is_name" "is_name" sIsName f fd) (ml : mg "len" = none) (mi : mg "isinstance" = none) (ms : mg "str" = none) (ma : mg "all" = none) (mL : mg "LONGEST_NAME" = some (.int 8 tL)) (mA : mg "LETTERS" = some (.str abc tA)) :
    FnOk P w K mg base CX0 1 f fd ["thing"] spIsName := by
  refine F.ok scIsName (fun vs H Q E h => ?_) (fun cdv A outer s H vs Q E hr h => ?_)
  · obtain ⟨z, rfl, _⟩ := h
    rfl
  · obtain ⟨z, rfl, ⟨z1, z2, z3⟩, k⟩ := h
    refine ⟨_, pss_cons (ps_if (PW.pt (pw_or (pt_not (pt_val (pe_callB call_isi (by rfl) mi (by decide +kernel) (pa_cons (pv 0) (pa_cons (pe_bltn (v := .ty "str") (u := .type "str") (by rfl) ms (by decide +kernel) rfl) pa_nil)))))
        (pw_or1 (pt_not (pt_chain op_le op_le pe_int (pe_callB call_len_str (by rfl) ml PySem.boot_len (pa_cons (pv 0) pa_nil)) (pe_glob (v := .int 8) (by rfl) mL ⟨_, rfl⟩)))))) (pss_one (ps_ret pe_bl)) pss_nil)
      (pss_one (ps_ret (pe_callB (cr_all rfl) (by rfl) ma (by decide +kernel) (pa_cons (pe_lc (own := [("letter", 1)]) (g := gName 1) (tt := tYes) rfl scIsName.nd (pi_str (pv 0)) (blkOk_by (N := ["thing", "letter"]) (sc := defScope sIsName) (by decide +kernel))
        (fun _ _ _ _ _ => pg_name (i := 1) scIsName.nd rfl (Or.inl rfl)) (fun _ _ _ _ _ => pts_nil) (fun _ _ _ _ _ => pe_cmpR op_in_sign (pv 1) (pe_glob (v := .str abc) (by rfl) mA ⟨_, rfl⟩) rfl)) pa_nil)))), ?_⟩
    have zs : z.length ≤ sizeLine := by rw [sizeLine_eq]; omega
    refine ⟨_, rfl, _, _, _, _, true, rfl, .ty "str", .base (.str z), kit_ty (by decide +kernel), true, rfl, ?_⟩
    refine ⟨_, rfl, _, rfl, zs, _, _, rfl, rfl, _, rfl, ?_⟩
    refine iteTD (by omega) ⟨_, _, rfl, rfl, _, rfl, iteNS (by omega) ?_⟩
    refine ⟨_, rfl, z, rfl, fun D nD => lc_it walk_str (fun i H' => Same H H' ∧ H' D = some (.lst (List.replicate i (V.bl true)))) ⟨same_upd nD, upd_same⟩ (fun _ _ _ _ => trivial) ?_ ?_⟩
    · rintro i x H1 H' hi ⟨sm, hD⟩ ⟨rfl, c, hc, rfl⟩
      have cm : c ∈ z.cps.toList := by
        have q := Array.mem_of_getElem? hc
        exact Array.mem_toList_iff.mpr q
      have cb := z3 c cm
      have ca : decide (c ∈ abc.cps.toList) = true := decide_eq_true (in_abc cb.1 cb.2)
      have hz : z.cps.size ≤ 8 := z2
      refine ⟨rfl, _, rfl, c, abc, rfl, rfl, _, hD, ?_, ?_, ?_⟩
      · rw [List.length_replicate]
        exact small1000 (by omega)
      · intro b o e
        rw [upd_ne (ne_of_none e nD)]
        exact sm _ _ e
      · show upd H' D _ D = _
        rw [upd_same, ca, ← List.replicate_succ']
    · rintro H' ⟨sm, hD⟩
      refine ⟨D, List.replicate z.cps.size true, rfl, SqL.of (by rw [List.map_replicate]; exact hD), ?_⟩
      have e : (List.replicate z.cps.size true).all id = true := by simp
      rw [e]
      exact k _ sm
theorem scIsPair : FnScope ["thing"] ["thing"] (defScope sIsPair) := ⟨rfl, rfl, rfl, by decide +kernel, rfl, by decide +kernel, by decide +kernel⟩
theorem ok_isPair {f : Addr} {fd : FuncData} (F : Fun K "is_pair" "is_pair" sIsPair f fd) (ml : mg "len" = none) (mi : mg "isinstance" = none) (mt : mg "tuple" = none) : FnOk P w K mg base CX0 1 f fd ["thing"] spIsPair := by
  refine F.ok scIsPair (fun vs H Q E h => ?_) (fun cdv A outer s H vs Q E hr h => ?_)
  · obtain ⟨t, x, y, rfl, _⟩ := h
    rfl
  · obtain ⟨t, x, y, rfl, ht, k⟩ := h
    refine ⟨_, pss_one (ps_ret (pe_and (pe_callB call_isi (by rfl) mi (by decide +kernel) (pa_cons (pv 0) (pa_cons (pe_bltn (v := .ty "tuple") (u := .type "tuple") (by rfl) mt (by decide +kernel) rfl) pa_nil)))
      (pe_one (pe_cmpR op_eq (pe_callB call_len_seq (by rfl) ml PySem.boot_len (pa_cons (pv 0) pa_nil)) pe_int (nomark _))))), ?_⟩
    refine ⟨_, rfl, _, _, _, _, true, rfl, .ty "tuple", .base (.tup ht), kit_ty (by decide +kernel), true, rfl, iteT ?_⟩
    exact ⟨_, rfl, t, _, rfl, .inr (SqT.of ht), rfl, k⟩
end
end K1

namespace K1
open PySem PySem.Spec PyProof.Rows L2 Own
/-! ### rows -/
abbrev Ln := Str × List Str
abbrev nms (ls : List Ln) : List Str := ls.map (·.1)
def RowAt (H : Hp) (v : V) (l : Ln) : Prop := ∃ t b, v = .ref t ∧ H t = some (.tup [.str l.1, .ref b]) ∧ SeqOf H b (l.2.map V.str)
def RowsAt (H : Hp) (a : Addr) (ls : List Ln) : Prop := ∃ vs, SeqOf H a vs ∧ Paired (RowAt H) vs ls
theorem RowAt.same {H H' : Hp} {v : V} {l : Ln} (k : Same H H') (h : RowAt H v l) : RowAt H' v l := by
  obtain ⟨t, b, e, ht, hb⟩ := h
  exact ⟨t, b, e, k _ _ ht, hb.same k⟩
theorem paired_imp {α β : Type} {F G : α → β → Prop} (h : ∀ a b, F a b → G a b) : ∀ {xs : List α} {ys : List β}, Paired F xs ys → Paired G xs ys
  | _, _, .nil => .nil
  | _, _, .cons a r => .cons (h _ _ a) (paired_imp h r)
theorem RowsAt.same {H H' : Hp} {a : Addr} {ls : List Ln} (k : Same H H') (h : RowsAt H a ls) : RowsAt H' a ls := by
  obtain ⟨vs, hs, p⟩ := h
  exact ⟨vs, hs.same k, paired_imp (fun _ _ => RowAt.same k) p⟩
theorem paired_at {α β : Type} {F : α → β → Prop} : ∀ {xs : List α} {ys : List β}, Paired F xs ys → ∀ {i : Nat} {x : α}, xs[i]? = some x → ∃ y, ys[i]? = some y ∧ F x y
  | _, _, .nil, _, _, h => by simp at h
  | _, _, .cons a r, 0, x, h => by
    have e := Option.some.inj h
    subst e
    exact ⟨_, rfl, a⟩
  | _, _, .cons a r, i + 1, x, h => by
    obtain ⟨y, e, q⟩ := paired_at r (i := i) (x := x) (by simpa using h)
    exact ⟨y, by simpa using e, q⟩
theorem paired_at' {α β : Type} {F : α → β → Prop} : ∀ {xs : List α} {ys : List β}, Paired F xs ys → ∀ {i : Nat} {y : β}, ys[i]? = some y → ∃ x, xs[i]? = some x ∧ F x y
  | _, _, .nil, _, _, h => by simp at h
  | _, _, .cons a r, 0, x, h => by
    have e := Option.some.inj h
    subst e
    exact ⟨_, rfl, a⟩
  | _, _, .cons a r, i + 1, x, h => by
    obtain ⟨y, e, q⟩ := paired_at' r (i := i) (y := x) (by simpa using h)
    exact ⟨y, by simpa using e, q⟩
theorem paired_len {α β : Type} {F : α → β → Prop} : ∀ {xs : List α} {ys : List β}, Paired F xs ys → xs.length = ys.length
  | _, _, .nil => rfl
  | _, _, .cons _ r => by rw [List.length_cons, List.length_cons, paired_len r]
structure LnsOk (ls : List Ln) : Prop where
  names : ∀ l ∈ ls, NameOk l.1
  nd : (nms ls).Nodup
  few : ls.length ≤ 7
  base : ∀ (i : Nat) l, ls[i]? = some l → l.2.Nodup ∧ (∀ b ∈ l.2, b ∈ nms (ls.take i)) ∧ l.2.length ≤ 7
theorem inV_str (x : Str) (ss : List Str) : inV (.str x) (ss.map V.str) = decide (x ∈ ss) := by
  unfold inV
  rw [List.any_map]
  rw [Bool.eq_iff_iff, List.any_eq_true]
  simp only [Function.comp, eqV, decide_eq_true_eq]
  exact ⟨fun ⟨y, hy, e⟩ => by rw [← beq_iff_eq.mp e]; exact hy, fun h => ⟨x, h, beq_self_eq_true x⟩⟩
theorem flat_strs (ss : List Str) : (ss.map V.str).all flatV = true := by
  rw [List.all_map, List.all_eq_true]
  intro x _
  rfl
theorem take_succ_map {α β : Type} {f : α → β} {l : List α} {i : Nat} {x : α} (h : l[i]? = some x) : (l.take (i + 1)).map f = (l.take i).map f ++ [f x] := by
  rw [List.take_add_one, h, List.map_append]
  rfl
theorem not_before {ls : List Ln} {i : Nat} {l : Ln} (nd : (nms ls).Nodup) (h : ls[i]? = some l) : l.1 ∉ nms (ls.take i) := by
  intro hm
  obtain ⟨x, hx, e⟩ := List.mem_map.mp hm
  obtain ⟨j, hj⟩ := List.mem_iff_getElem?.mp hx
  rw [List.getElem?_take] at hj
  split at hj
  · rename_i hji
    have h1 : (nms ls)[j]? = some l.1 := by rw [List.getElem?_map, hj]; simp [e]
    have h2 : (nms ls)[i]? = some l.1 := by rw [List.getElem?_map, h]; rfl
    have := nd_ix nd h1 h2
    omega
  · cases hj
theorem isi_lt {K : PySem.W.Frag} {H : Hp} {a : Addr} {xs : List V} (h : SeqOf H a xs) : ∃ t, TyX K H (.ref a) t ∧ PySem.W.kitAny K t [.type "list", .type "tuple"] = some true := by
  rcases h with h | h
  · exact ⟨_, .base (.lst h), kitAny_cons (b := true) (kit_ty (by decide +kernel)) (fun z => nomatch z) fun _ => rfl⟩
  · exact ⟨_, .base (.tup h), kitAny_cons (b := false) (kit_ty (by decide +kernel)) (fun _ => kitAny_cons (b := true) (kit_ty (by decide +kernel)) (fun z => nomatch z) fun _ => rfl) fun z => nomatch z⟩
theorem q_cb1 {r : List V → Hp → VK → Prop} {te : TE} {σ : L2.St} {H : Hp} {Q : VK} (h : te σ H fun x H1 => r [x] H1 Q) : tCB r (tCons te tNil) σ H Q := h
def spAreRows : Sp := fun vs H Q _ => ∃ a ls, vs = [.ref a] ∧ RowsAt H a ls ∧ ls.length ≤ 1000 ∧ ∀ H', Same H H' → Q (.bl true) H'
def spCkNames : Sp := fun vs H Q _ => ∃ a ls, vs = [.ref a] ∧ RowsAt H a ls ∧ LnsOk ls ∧ ∀ H', Same H H' → Q .non H'
section
variable {P : Program} {w : World} {K : PySem.W.Frag} {mg : Str → Option Value} {base : Heap}
theorem scAreRows : FnScope ["thing", "row"] ["thing"] (defScope sAreRows) := ⟨rfl, rfl, rfl, by decide +kernel, rfl, by decide +kernel, by decide +kernel⟩
theorem ok_areRows {f g : Addr} {fd gd : FuncData} (F : Fun K "_are_rows" "_are_rows" sAreRows f fd) (G : FnOk P w K mg base CX0 1 g gd ["thing"] spIsPair) (kG : PySem.W.keepIn K (.ref g) = true) (bG : Binds K gd ["thing"] []) (mG : mg "is_pair" = some (.ref g))
    (mi : mg "isinstance" = none) (ma : mg "all" = none) (ml : mg "list" = none) (mt : mg "tuple" = none) : FnOk P w K mg base CX0 2 f fd ["thing"] spAreRows := by
  refine F.ok scAreRows (fun vs H Q E h => ?_) (fun cdv A outer s H vs Q E hr h => ?_)
  · obtain ⟨a, ls, rfl, _⟩ := h
    rfl
  · obtain ⟨a, ls, rfl, ⟨rs, hs, pr⟩, h1000, k⟩ := h
    refine ⟨_, pss_one (ps_ret (pe_and (pe_callB call_isiT (by rfl) mi (by decide +kernel) (pa_cons (pv 0) (pa_cons (pe_tup (pa_cons (pe_bltn (v := .ty "list") (u := .type "list") (by rfl) ml (by decide +kernel) rfl) (pa_cons (pe_bltn (v := .ty "tuple") (u := .type "tuple") (by rfl) mt (by decide +kernel) rfl) pa_nil))) pa_nil)))
      (pe_one (pe_callB (cr_all rfl) (by rfl) ma (by decide +kernel) (pa_cons (pe_lc (own := [("row", 1)]) (g := gName 1) (tt := tYes) rfl scAreRows.nd (pi_seq 0) (blkOk_by (N := ["thing", "row"]) (sc := defScope sAreRows) (by decide +kernel))
        (fun _ _ _ _ _ => pg_name (i := 1) scAreRows.nd rfl (Or.inl rfl)) (fun _ _ _ _ _ => pts_nil) (fun _ _ _ _ _ => pe_call G hr (by rfl) mG kG bG .nil pass0 (pa_cons (pv 1) pa_nil))) pa_nil))))), ?_⟩
    refine ⟨_, rfl, (by show 2 ≤ sizeLine; decide), fun tp ntp => ?_⟩
    have s1 : Same H (upd H tp (.tup [.ty "list", .ty "tuple"])) := same_upd ntp
    obtain ⟨t, ty, kt⟩ := isi_lt (K := K) (hs.same s1)
    refine ⟨_, tp, _, t, _, true, rfl, upd_same, .cons (.ty "list") (.cons (.ty "tuple") .nil), ty, kt, true, rfl, iteT ?_⟩
    have hl := paired_len pr
    generalize upd H tp (.tup [.ty "list", .ty "tuple"]) = H0 at s1
    refine q_cb1 ?_
    refine lc_seq (a := a) (xs := rs) (by rfl) (hs.same s1) (fun D i H' => Same H0 H' ∧ H' D = some (.lst (List.replicate i (V.bl true)))) (fun D nD => ⟨same_upd nD, upd_same⟩) (fun D i H' nD hi p => p.1 _) ?_ ?_
    · rintro D i x H' nD hx ⟨sm, hD⟩
      obtain ⟨l, hl2, t, b, rfl, ht, _⟩ := paired_at pr hx
      have hi : i < ls.length := (List.getElem?_eq_some_iff.mp hl2).1
      refine ⟨rfl, _, rfl, t, _, _, rfl, sm _ _ (s1 _ _ ht), _, hD, ?_, ?_, ?_⟩
      · rw [List.length_replicate]
        exact small1000 (by omega)
      · intro c o e
        rw [upd_ne (ne_of_none e nD)]
        exact sm _ _ e
      · show upd H' D _ D = _
        rw [upd_same, ← List.replicate_succ']
    · rintro D H' nD ⟨sm, hD⟩
      refine ⟨D, List.replicate rs.length true, rfl, SqL.of (by rw [List.map_replicate]; exact hD), ?_⟩
      have e : (List.replicate rs.length true).all id = true := by simp
      rw [e]
      exact k _ (s1.trans sm)
theorem scCkNames : FnScope ["rows", "before", "name", "_"] ["rows"] (defScope sCkNames) := ⟨rfl, rfl, rfl, by decide +kernel, rfl, by decide +kernel, by decide +kernel⟩
theorem ok_ckNames {f g : Addr} {fd gd : FuncData} (F : Fun K "_check_names" "_check_names" sCkNames f fd) (G : FnOk P w K mg base CX0 1 g gd ["thing"] spIsName) (kG : PySem.W.keepIn K (.ref g) = true) (bG : Binds K gd ["thing"] []) (mG : mg "is_name" = some (.ref g)) :
    FnOk P w K mg base CX0 2 f fd ["rows"] spCkNames := by
  refine F.ok scCkNames (fun vs H Q E h => ?_) (fun cdv A outer s H vs Q E hr h => ?_)
  · obtain ⟨a, ls, rfl, _⟩ := h
    rfl
  · obtain ⟨a, ls, rfl, ⟨rs, hs, pr⟩, ok, k⟩ := h
    refine ⟨_, pss_cons (ps_set (i := 1) scCkNames.nd rfl (Or.inl rfl) (pe_lst pa_nil))
      (pss_one (ps_for PassesOwn.never rfl (pi_seq 0) (pg_tup rfl (pgs_cons (pg_name (i := 2) scCkNames.nd rfl (Or.inl rfl)) (pgs_cons (pg_name (i := 3) scCkNames.nd rfl (Or.inl rfl)) pgs_nil)))
        (pss_cons (ps_if (PW.pt (pw_or (pt_not (pt_val (pe_call G hr (by rfl) mG kG bG .nil pass0 (pa_cons (pv 2) pa_nil)))) (pw_or1 (pt_cmpR op_in_seq (pv 2) (pv 1) (by rfl))))) (pss_one ps_never) pss_nil)
          (pss_one (ps_expr (pe_bm PySem.F.plainAttrs_list PySem.F.slot_list_append PySem.F.type_list_append mt_append (pv 1) (pa_cons (pv 2) pa_nil))))))), ?_⟩
    refine ⟨Nat.zero_le _, fun p np => ?_⟩
    have s1 : Same H (upd H p (.lst [])) := same_upd np
    have hl := paired_len pr
    refine for_seq (a := a) (xs := rs) (by rfl) (hs.same s1) (fun i σ H' => ∃ v2 v3, σ = [some (.ref a), some (.ref p), v2, v3] ∧ Same H H' ∧ H' p = some (.lst ((nms (ls.take i)).map V.str))) ⟨none, none, rfl, s1, upd_same⟩ ?_ ?_ ?_
    · rintro i σ H' hi ⟨v2, v3, rfl, sm, _⟩ o e
      rcases hs with e' | e'
      · rw [s1 _ _ e'] at e
        rw [← e]
        exact sm _ _ e'
      · rw [s1 _ _ e'] at e
        rw [← e]
        exact sm _ _ e'
    · rintro i x σ H' hx ⟨v2, v3, rfl, sm, hp⟩
      obtain ⟨l, hl2, t, b, rfl, ht, _⟩ := paired_at pr hx
      have hi : i < ls.length := (List.getElem?_eq_some_iff.mp hl2).1
      have few := ok.few
      refine ⟨t, _, rfl, SqT.of (sm _ _ ht), rfl, _, _, rfl, _, _, rfl, rfl, ?_⟩
      refine ⟨_, rfl, l.1, rfl, ok.names l (List.mem_of_getElem? hl2), fun H2 s2 => ⟨true, rfl, ?_⟩⟩
      have hp2 := s2 _ _ hp
      refine ⟨_, rfl, _, rfl, p, _, rfl, .inl (SqL.of hp2), rfl, flat_strs _, _, rfl, ?_⟩
      rw [show (if false = true then !inV (V.str l.1) ((nms (ls.take i)).map V.str) else inV (V.str l.1) ((nms (ls.take i)).map V.str)) = false from by
        rw [if_neg Bool.false_ne_true, inV_str]
        exact decide_eq_false (not_before ok.nd hl2)]
      refine ⟨_, rfl, .inl ⟨rfl, _, SqL.of hp2⟩, _, rfl, p, _, _, rfl, rfl, hp2, ?_, ?_⟩
      · rw [List.length_map, List.length_map, List.length_take]
        exact small1000 (by omega)
      · refine ⟨_, _, rfl, fun c o e => ?_, ?_⟩
        · rw [upd_ne (ne_of_none e np)]
          exact s2 _ _ (sm _ _ e)
        · rw [upd_same, show nms (ls.take (i + 1)) = nms (ls.take i) ++ [l.1] from take_succ_map hl2, List.map_append]
          rfl
    · rintro σ H' ⟨v2, v3, rfl, sm, _⟩
      exact k _ sm
end
end K1

namespace K1
open PySem PySem.Spec PyProof.Rows L2 Own
/-! ### what is above a kind -/
def grow (o : List Str) (x : Str) : List Str := if x ∈ o then o else o ++ [x]
theorem grow_mem {o : List Str} {x y : Str} : y ∈ grow o x ↔ y ∈ o ∨ y = x := by
  unfold grow
  split
  · rename_i h
    exact ⟨.inl, fun q => q.elim id fun e => by rw [e]; exact h⟩
  · simp
theorem grow_nd {o : List Str} {x : Str} (h : o.Nodup) : (grow o x).Nodup := by
  unfold grow
  split
  · exact h
  · rename_i n
    exact List.nodup_append.mpr ⟨h, List.nodup_cons.mpr ⟨List.not_mem_nil, List.nodup_nil⟩, fun a ha b hb => by
      rw [List.mem_singleton.mp hb]
      exact fun e => n (e ▸ ha)⟩
theorem grow_len (o : List Str) (x : Str) : (grow o x).length ≤ o.length + 1 := by
  unfold grow
  split
  · omega
  · rw [List.length_append, List.length_singleton]
    omega
abbrev Tb := List (Str × List Str)
def look (T : Tb) (n : Str) : List Str := (T.lookup n).getD []
theorem look_at : ∀ {T : Tb} {j : Nat} {n : Str} {y : List Str}, (T.map (·.1)).Nodup → T[j]? = some (n, y) → look T n = y
  | [], _, _, _, _, h => by simp at h
  | (m, z) :: r, 0, n, y, _, h => by
    have e := Option.some.inj h
    cases e
    unfold look
    rw [List.lookup_cons, beq_self_eq_true]
    rfl
  | (m, z) :: r, j + 1, n, y, nd, h => by
    have h' : r[j]? = some (n, y) := by simpa using h
    obtain ⟨n1, n2⟩ := List.nodup_cons.mp (show (m :: r.map (·.1)).Nodup from nd)
    have ne : ¬ n = m := fun e => n1 (by
      rw [← e]
      exact List.mem_map.mpr ⟨(n, y), List.mem_of_getElem? h', rfl⟩)
    have ih := look_at n2 h'
    unfold look at ih ⊢
    rw [List.lookup_cons, beq_eq_false_iff_ne.mpr ne]
    exact ih
/-- y is what is above the kind of this row, given what is above its bases -/
def UpsIs (F : Str → List Str) (l : Ln) (y : List Str) : Prop := y.Nodup ∧ ∀ x, x ∈ y ↔ x = l.1 ∨ ∃ b ∈ l.2, x ∈ F b
structure Tab (S : List Str → Prop) (ls : List Ln) (T : Tb) : Prop where
  len : T.length = ls.length
  row : ∀ (i : Nat) l, ls[i]? = some l → ∃ y, T[i]? = some (l.1, y) ∧ S y ∧ UpsIs (look (T.take i)) l y
theorem Tab.nms {S : List Str → Prop} {ls : List Ln} {T : Tb} (h : Tab S ls T) : T.map (·.1) = nms ls := by
  refine List.ext_getElem? fun i => ?_
  rw [List.getElem?_map, List.getElem?_map]
  cases e : ls[i]? with
  | none =>
    have q := List.getElem?_eq_none_iff.mp e
    rw [List.getElem?_eq_none_iff.mpr (by rw [h.len]; exact q)] <;> rfl
  | some l =>
    obtain ⟨y, hy, _⟩ := h.row i l e
    rw [hy]
    rfl
theorem Tab.nil {S : List Str → Prop} : Tab S [] [] := ⟨rfl, fun i l h => by simp at h⟩
theorem Tab.snoc {S : List Str → Prop} {ls : List Ln} {T : Tb} {l : Ln} {y : List Str} (h : Tab S ls T) (u : UpsIs (look T) l y) (s : S y) : Tab S (ls ++ [l]) (T ++ [(l.1, y)]) := by
  refine ⟨by rw [List.length_append, List.length_append, h.len]; rfl, fun i k hk => ?_⟩
  by_cases hi : i < ls.length
  · rw [List.getElem?_append_left hi] at hk
    obtain ⟨z, h1, h2, h3⟩ := h.row i k hk
    have hT : i < T.length := by rw [h.len]; exact hi
    refine ⟨z, by rw [List.getElem?_append_left hT]; exact h1, h2, ?_⟩
    rw [List.take_append_of_le_length (Nat.le_of_lt hT)]
    exact h3
  · have e : i = ls.length := by
      have q := (List.getElem?_eq_some_iff.mp hk).1
      rw [List.length_append, List.length_singleton] at q
      omega
    subst e
    rw [List.getElem?_append_right (Nat.le_refl _), Nat.sub_self] at hk
    have ek : l = k := Option.some.inj hk
    subst ek
    refine ⟨y, ?_, s, ?_⟩
    · rw [← h.len, List.getElem?_append_right (Nat.le_refl _), Nat.sub_self]
      rfl
    · rw [← h.len, List.take_append_of_le_length (Nat.le_refl _), List.take_length]
      exact u
theorem take_nodup {α : Type} {l : List α} (h : l.Nodup) (i : Nat) : (l.take i).Nodup := h.sublist (List.take_sublist _ _)
theorem mem_take {ls : List Ln} {i : Nat} {b : Str} (h : b ∈ nms (ls.take i)) : ∃ j l, j < i ∧ ls[j]? = some l ∧ l.1 = b := by
  obtain ⟨l, hl, e⟩ := List.mem_map.mp h
  obtain ⟨j, hj⟩ := List.mem_iff_getElem?.mp hl
  rw [List.getElem?_take] at hj
  split at hj
  · exact ⟨j, l, by assumption, hj, e⟩
  · cases hj
/-- the same names, the same bases in some order -/
def Alike (ls ls' : List Ln) : Prop := Paired (fun (l l' : Ln) => l.1 = l'.1 ∧ ∀ b, b ∈ l.2 ↔ b ∈ l'.2) ls ls'
theorem Alike.nms : ∀ {ls ls' : List Ln}, Alike ls ls' → nms ls = nms ls'
  | _, _, .nil => rfl
  | x :: xs, y :: ys, .cons a r => by
    have e : K1.nms xs = K1.nms ys := Alike.nms r
    show x.1 :: K1.nms xs = y.1 :: K1.nms ys
    rw [a.1, e]
theorem tab_alike {S S' : List Str → Prop} {ls ls' : List Ln} {T T' : Tb} (ok : LnsOk ls) (a : Alike ls ls') (h : Tab S ls T) (h' : Tab S' ls' T') :
    ∀ (i : Nat) (n n' : Str) (y y' : List Str), T[i]? = some (n, y) → T'[i]? = some (n', y') → n = n' ∧ ∀ x, x ∈ y ↔ x ∈ y' := by
  have ndT : (T.map (·.1)).Nodup := by rw [h.nms]; exact ok.nd
  have ndT' : (T'.map (·.1)).Nodup := by rw [h'.nms, ← a.nms]; exact ok.nd
  intro i
  induction i using Nat.strongRecOn with
  | ind i ih =>
    intro n n' y y' hy hy'
    have hi : i < ls.length := by
      rw [← h.len]
      exact (List.getElem?_eq_some_iff.mp hy).1
    obtain ⟨l', hl', e1, e2⟩ := paired_at a (List.getElem?_eq_getElem hi)
    obtain ⟨z, hz, _, _, uz⟩ := h.row i _ (List.getElem?_eq_getElem hi)
    obtain ⟨z', hz', _, _, uz'⟩ := h'.row i _ hl'
    rw [hy] at hz
    rw [hy'] at hz'
    cases hz
    cases hz'
    refine ⟨e1, fun x => ?_⟩
    have each : ∀ b ∈ (ls[i]).2, ∀ x, x ∈ look (T.take i) b ↔ x ∈ look (T'.take i) b := fun b hb x => by
      obtain ⟨j, k, hj, hk, ek⟩ := mem_take ((ok.base i _ (List.getElem?_eq_getElem hi)).2.1 b hb)
      subst ek
      obtain ⟨k', hk', f1, f2⟩ := paired_at a hk
      obtain ⟨u, hu, _, _⟩ := h.row j k hk
      obtain ⟨u', hu', _, _⟩ := h'.row j k' hk'
      have q := (ih j hj _ _ _ _ hu hu').2 x
      have g : (T.take i)[j]? = some (k.1, u) := by rw [List.getElem?_take_of_lt hj]; exact hu
      have g' : (T'.take i)[j]? = some (k.1, u') := by rw [List.getElem?_take_of_lt hj, f1]; exact hu'
      rw [look_at (by rw [List.map_take]; exact take_nodup ndT i) g, look_at (by rw [List.map_take]; exact take_nodup ndT' i) g']
      exact q
    rw [uz x, uz' x, e1]
    constructor
    · rintro (q | ⟨b, hb, q⟩)
      · exact .inl q
      · exact .inr ⟨b, (e2 b).mp hb, (each b hb x).mp q⟩
    · rintro (q | ⟨b, hb, q⟩)
      · exact .inl q
      · have hb' := (e2 b).mpr hb
        exact .inr ⟨b, hb', (each b hb' x).mpr q⟩
end K1

namespace K1
open PySem PySem.Spec PyProof.Rows L2 Own
def spAreBases : Sp := fun vs H Q _ => ∃ (b p : Addr) (bs ns : List Str), vs = [.ref b, .ref p] ∧ SeqOf H b (bs.map V.str) ∧ H p = some (.lst (ns.map V.str)) ∧ bs.Nodup ∧ (∀ x ∈ bs, x ∈ ns) ∧ bs.length ≤ 7 ∧ ∀ H', Same H H' → Q (.bl true) H'
theorem seq_keep {H H' : Hp} {a : Addr} {xs : List V} (h : SeqOf H a xs) (s : Same H H') : ∀ o, H a = some o → H' a = some o := fun o e => s _ _ e
theorem nd_not {ss : List Str} {i : Nat} {x : Str} (nd : ss.Nodup) (h : ss[i]? = some x) : x ∉ ss.take i := by
  intro hm
  obtain ⟨j, hj⟩ := List.mem_iff_getElem?.mp hm
  rw [List.getElem?_take] at hj
  split at hj
  · have := nd_ix nd hj h
    omega
  · cases hj
theorem same_past {H H' : Hp} {p : Addr} {o : HO} (np : H p = none) (s : Same H H') : Same H (upd H' p o) := fun b x e => by
  rw [upd_ne (ne_of_none e np)]
  exact s _ _ e
section
variable {P : Program} {w : World} {K : PySem.W.Frag} {mg : Str → Option Value} {base : Heap}
theorem scAreBases : FnScope ["thing", "before", "found", "base"] ["thing", "before"] (defScope sAreBases) := ⟨rfl, rfl, rfl, by decide +kernel, rfl, by decide +kernel, by decide +kernel⟩
theorem ok_areBases {f : Addr} {fd : FuncData} (F : Fun K "_are_bases" "_are_bases" sAreBases f fd) (mi : mg "isinstance" = none) (ml : mg "list" = none) (mt : mg "tuple" = none) : FnOk P w K mg base CX0 1 f fd ["thing", "before"] spAreBases := by
  refine F.ok scAreBases (fun vs H Q E h => ?_) (fun cdv A outer s H vs Q E hr h => ?_)
  · obtain ⟨b, p, bs, ns, rfl, _⟩ := h
    rfl
  · obtain ⟨b, p, bs, ns, rfl, hb, hp, nd, sub, few, k⟩ := h
    refine ⟨_, pss_cons (ps_if (pt_not (pt_val (pe_callB call_isiT (by rfl) mi (by decide +kernel) (pa_cons (pv 0) (pa_cons (pe_tup (pa_cons (pe_bltn (v := .ty "list") (u := .type "list") (by rfl) ml (by decide +kernel) rfl) (pa_cons (pe_bltn (v := .ty "tuple") (u := .type "tuple") (by rfl) mt (by decide +kernel) rfl) pa_nil))) pa_nil)))))
        (pss_one (ps_ret pe_bl)) pss_nil)
      (pss_cons (ps_set (i := 2) scAreBases.nd rfl (Or.inl rfl) (pe_lst pa_nil))
      (pss_cons (ps_for PassesOwn.never rfl (pi_seq 0) (pg_name (i := 3) scAreBases.nd rfl (Or.inl rfl))
        (pss_cons (ps_if (PW.pt (pw_or (pt_cmpR op_notIn_seq (pv 3) (pv 1) (by rfl)) (pw_or1 (pt_cmpR op_in_seq (pv 3) (pv 2) (by rfl))))) (pss_one (ps_ret pe_bl)) pss_nil)
          (pss_one (ps_expr (pe_bm PySem.F.plainAttrs_list PySem.F.slot_list_append PySem.F.type_list_append mt_append (pv 2) (pa_cons (pv 3) pa_nil))))))
      (pss_one (ps_ret pe_bl)))), ?_⟩
    refine ⟨_, rfl, (by show 2 ≤ sizeLine; decide), fun tp ntp => ?_⟩
    have s1 : Same H (upd H tp (.tup [.ty "list", .ty "tuple"])) := same_upd ntp
    obtain ⟨t, ty, kt⟩ := isi_lt (K := K) (hb.same s1)
    refine ⟨_, tp, _, t, _, true, rfl, upd_same, .cons (.ty "list") (.cons (.ty "tuple") .nil), ty, kt, true, rfl, iteF ?_⟩
    generalize upd H tp (.tup [.ty "list", .ty "tuple"]) = H0 at s1
    refine ⟨Nat.zero_le _, fun q nq => ?_⟩
    have s2 : Same H0 (upd H0 q (.lst [])) := same_upd nq
    refine for_seq (a := b) (xs := bs.map V.str) (by rfl) ((hb.same s1).same s2) (fun i σ H' => ∃ v3, σ = [some (.ref b), some (.ref p), some (.ref q), v3] ∧ Same H0 H' ∧ H' q = some (.lst ((bs.take i).map V.str))) ⟨none, rfl, s2, upd_same⟩ ?_ ?_ ?_
    · rintro i σ H' hi ⟨v3, rfl, sm, _⟩ o e
      have hb0 := hb.same s1
      rcases hb0 with e' | e'
      · rw [s2 _ _ e'] at e
        rw [← e]
        exact sm _ _ e'
      · rw [s2 _ _ e'] at e
        rw [← e]
        exact sm _ _ e'
    · rintro i x σ H' hx ⟨v3, rfl, sm, hq⟩
      rw [List.getElem?_map] at hx
      obtain ⟨y, hy, rfl⟩ := Option.map_eq_some_iff.mp hx
      have hi : i < bs.length := (List.getElem?_eq_some_iff.mp hy).1
      refine ⟨_, rfl, _, rfl, p, _, rfl, .inl (SqL.of (sm _ _ (s1 _ _ hp))), rfl, flat_strs _, _, rfl, ?_⟩
      rw [show (if true = true then !inV (V.str y) (ns.map V.str) else inV (V.str y) (ns.map V.str)) = false from by
        rw [if_pos rfl, inV_str, decide_eq_true (sub y (List.mem_of_getElem? hy))]
        rfl]
      refine iteF ⟨_, rfl, _, rfl, q, _, rfl, .inl (SqL.of hq), rfl, flat_strs _, _, rfl, ?_⟩
      rw [show (if false = true then !inV (V.str y) ((bs.take i).map V.str) else inV (V.str y) ((bs.take i).map V.str)) = false from by
        rw [if_neg Bool.false_ne_true, inV_str]
        exact decide_eq_false (nd_not nd hy)]
      refine iteF ⟨_, rfl, .inl ⟨rfl, _, SqL.of hq⟩, _, rfl, q, _, _, rfl, rfl, hq, ?_, ?_⟩
      · rw [List.length_map, List.length_take]
        exact small1000 (by omega)
      · refine ⟨_, rfl, same_past nq sm, ?_⟩
        rw [upd_same, List.take_add_one, hy, List.map_append]
        rfl
    · rintro σ H' ⟨v3, rfl, sm, _⟩
      exact k _ (s1.trans sm)
theorem scCkBases : FnScope ["rows", "before", "name", "bases"] ["rows"] (defScope sCkBases) := ⟨rfl, rfl, rfl, by decide +kernel, rfl, by decide +kernel, by decide +kernel⟩
theorem ok_ckBases {f g : Addr} {fd gd : FuncData} (F : Fun K "_check_bases" "_check_bases" sCkBases f fd) (G : FnOk P w K mg base CX0 1 g gd ["thing", "before"] spAreBases) (kG : PySem.W.keepIn K (.ref g) = true) (bG : Binds K gd ["thing", "before"] []) (mG : mg "_are_bases" = some (.ref g)) :
    FnOk P w K mg base CX0 2 f fd ["rows"] spCkNames := by
  refine F.ok scCkBases (fun vs H Q E h => ?_) (fun cdv A outer s H vs Q E hr h => ?_)
  · obtain ⟨a, ls, rfl, _⟩ := h
    rfl
  · obtain ⟨a, ls, rfl, ⟨rs, hs, pr⟩, ok, k⟩ := h
    refine ⟨_, pss_cons (ps_set (i := 1) scCkBases.nd rfl (Or.inl rfl) (pe_lst pa_nil))
      (pss_one (ps_for PassesOwn.never rfl (pi_seq 0) (pg_tup rfl (pgs_cons (pg_name (i := 2) scCkBases.nd rfl (Or.inl rfl)) (pgs_cons (pg_name (i := 3) scCkBases.nd rfl (Or.inl rfl)) pgs_nil)))
        (pss_cons (ps_if (pt_not (pt_val (pe_call G hr (by rfl) mG kG bG .nil pass0 (pa_cons (pv 3) (pa_cons (pv 1) pa_nil))))) (pss_one ps_never) pss_nil)
          (pss_one (ps_expr (pe_bm PySem.F.plainAttrs_list PySem.F.slot_list_append PySem.F.type_list_append mt_append (pv 1) (pa_cons (pv 2) pa_nil))))))), ?_⟩
    refine ⟨Nat.zero_le _, fun p np => ?_⟩
    have s1 : Same H (upd H p (.lst [])) := same_upd np
    refine for_seq (a := a) (xs := rs) (by rfl) (hs.same s1) (fun i σ H' => ∃ v2 v3, σ = [some (.ref a), some (.ref p), v2, v3] ∧ Same H H' ∧ H' p = some (.lst ((nms (ls.take i)).map V.str))) ⟨none, none, rfl, s1, upd_same⟩ ?_ ?_ ?_
    · rintro i σ H' hi ⟨v2, v3, rfl, sm, _⟩ o e
      rcases hs with e' | e'
      · rw [s1 _ _ e'] at e
        rw [← e]
        exact sm _ _ e'
      · rw [s1 _ _ e'] at e
        rw [← e]
        exact sm _ _ e'
    · rintro i x σ H' hx ⟨v2, v3, rfl, sm, hp⟩
      obtain ⟨l, hl2, t, b, rfl, ht, hb⟩ := paired_at pr hx
      have hi : i < ls.length := (List.getElem?_eq_some_iff.mp hl2).1
      have few := ok.few
      obtain ⟨b1, b2, b3⟩ := ok.base i l hl2
      refine ⟨t, _, rfl, SqT.of (sm _ _ ht), rfl, _, _, rfl, _, _, rfl, rfl, ?_⟩
      refine ⟨_, rfl, _, rfl, b, p, l.2, nms (ls.take i), rfl, hb.same sm, hp, b1, b2, b3, fun H2 s2 => ⟨true, rfl, iteF ?_⟩⟩
      have hp2 := s2 _ _ hp
      refine ⟨_, rfl, .inl ⟨rfl, _, SqL.of hp2⟩, _, rfl, p, _, _, rfl, rfl, hp2, ?_, ?_⟩
      · rw [List.length_map, List.length_map, List.length_take]
        exact small1000 (by omega)
      · refine ⟨_, _, rfl, same_past np (sm.trans s2), ?_⟩
        rw [upd_same, show nms (ls.take (i + 1)) = nms (ls.take i) ++ [l.1] from take_succ_map hl2, List.map_append]
        rfl
    · rintro σ H' ⟨v2, v3, rfl, sm, _⟩
      exact k _ sm
end
end K1

namespace K1
open PySem PySem.Spec PyProof.Rows L2 Own
/-! ### a dict of lists of names -/
def EntAt (N : Addr → Prop) (H : Hp) (kv : Key × V) (t : Str × List Str) : Prop := kv.1 = Sum.inr t.1 ∧ ∃ p, N p ∧ kv.2 = .ref p ∧ H p = some (.lst (t.2.map V.str))
def DictAt (N : Addr → Prop) (H : Hp) (d : Addr) (T : Tb) : Prop := N d ∧ ∃ kvs, H d = some (.dK kvs) ∧ Paired (EntAt N H) kvs T
theorem DictAt.same {N : Addr → Prop} {H H' : Hp} {d : Addr} {T : Tb} (s : Same H H') (h : DictAt N H d T) : DictAt N H' d T := by
  obtain ⟨n, kvs, e, p⟩ := h
  exact ⟨n, kvs, s _ _ e, paired_imp (fun _ _ ⟨a, q, b, c, z⟩ => ⟨a, q, b, c, s _ _ z⟩) p⟩
theorem ent_get {N : Addr → Prop} {H : Hp} {n : Str} {y : List Str} : ∀ {kvs : List (Key × V)} {T : Tb}, Paired (EntAt N H) kvs T → T.lookup n = some y → ∃ q, N q ∧ valV kvs (Sum.inr n) = some (.ref q) ∧ H q = some (.lst (y.map V.str))
  | _, _, .nil, h => by simp at h
  | kv :: kvs, t :: T, .cons a r, h => by
    obtain ⟨e, q, nq, ev, hq⟩ := a
    rw [show t = (t.1, t.2) from rfl, List.lookup_cons] at h
    by_cases c : n = t.1
    · rw [beq_iff_eq.mpr c] at h
      have h' : t.2 = y := Option.some.inj h
      exact ⟨q, nq, by rw [valV_pos (by rw [e, c]), ev], by rw [← h']; exact hq⟩
    · rw [beq_eq_false_iff_ne.mpr c] at h
      obtain ⟨q', n', e', h'⟩ := ent_get r h
      exact ⟨q', n', by rw [valV_neg (by rw [e]; exact fun z => c (Sum.inr.inj z).symm), e'], h'⟩
theorem ent_none {N : Addr → Prop} {H : Hp} {n : Str} : ∀ {kvs : List (Key × V)} {T : Tb}, Paired (EntAt N H) kvs T → n ∉ T.map (·.1) → valV kvs (Sum.inr n) = none
  | _, _, .nil, h => rfl
  | kv :: kvs, t :: T, .cons a r, h => by
    obtain ⟨e, _⟩ := a
    have h1 : ¬ n = t.1 ∧ n ∉ T.map (·.1) := by simpa using h
    rw [valV_neg (by rw [e]; exact fun z => h1.1 (Sum.inr.inj z).symm)]
    exact ent_none r h1.2
theorem look_in : ∀ {T : Tb} {n : Str}, n ∈ T.map (·.1) → T.lookup n = some (look T n)
  | [], _, h => by simp at h
  | (m, z) :: r, n, h => by
    unfold look
    rw [List.lookup_cons]
    by_cases c : n = m
    · rw [beq_iff_eq.mpr c]
      rfl
    · rw [beq_eq_false_iff_ne.mpr c]
      have h' : n ∈ r.map (·.1) := by
        rcases List.mem_cons.mp (show n ∈ m :: r.map (·.1) from h) with e | e
        · exact absurd e c
        · exact e
      have ih := look_in h'
      show r.lookup n = some ((r.lookup n).getD [])
      rw [ih]
      rfl
/-- the keys of a dict of Trues -/
def keysOf (o : List Str) : List (Key × V) := o.map fun x => (Sum.inr x, V.bl true)
theorem keysOf_keys (o : List Str) : (keysOf o).map (·.1) = o.map Sum.inr := by
  unfold keysOf
  rw [List.map_map]
  rfl
theorem keysOf_any (o : List Str) (x : Str) : ((keysOf o).any fun kv => decide (kv.1 = Sum.inr x)) = decide (x ∈ o) := by
  unfold keysOf
  rw [List.any_map, Bool.eq_iff_iff, List.any_eq_true]
  simp only [Function.comp, decide_eq_true_eq]
  exact ⟨fun ⟨y, hy, e⟩ => by rw [← Sum.inr.inj e]; exact hy, fun h => ⟨x, h, rfl⟩⟩
theorem put_keys (o : List Str) (x : Str) : putK (keysOf o) (Sum.inr x) (.bl true) = keysOf (grow o x) := by
  unfold putK grow
  rw [keysOf_any]
  by_cases h : x ∈ o
  · rw [if_pos (decide_eq_true h), if_pos h]
    unfold keysOf
    rw [List.map_map]
    refine List.map_congr_left fun y _ => ?_
    simp only [Function.comp]
    split <;> rfl
  · rw [if_neg (by rw [decide_eq_false h]; decide), if_neg h]
    unfold keysOf
    rw [List.map_append]
    rfl
theorem grows_mem : ∀ {ys o : List Str} {x : Str}, x ∈ ys.foldl grow o ↔ x ∈ o ∨ x ∈ ys
  | [], o, x => by simp
  | y :: r, o, x => by
    rw [List.foldl_cons, grows_mem, grow_mem, List.mem_cons]
    exact ⟨fun h => h.elim (fun h => h.elim .inl fun e => .inr (.inl e)) fun h => .inr (.inr h), fun h => h.elim (fun h => .inl (.inl h)) fun h => h.elim (fun e => .inl (.inr e)) .inr⟩
theorem grows_nd : ∀ {ys o : List Str}, o.Nodup → (ys.foldl grow o).Nodup
  | [], _, h => h
  | _ :: r, _, h => grows_nd (ys := r) (grow_nd h)
theorem nd_len : ∀ {xs ys : List Str}, xs.Nodup → (∀ x ∈ xs, x ∈ ys) → xs.length ≤ ys.length
  | [], _, _, _ => Nat.zero_le _
  | x :: r, ys, nd, h => by
    obtain ⟨n1, n2⟩ := List.nodup_cons.mp nd
    have hx := h x (List.mem_cons_self ..)
    have q := nd_len (xs := r) (ys := ys.erase x) n2 fun z hz => (List.mem_erase_of_ne (fun (e : z = x) => n1 (by rw [← e]; exact hz))).mpr (h z (List.mem_cons_of_mem _ hz))
    have l := List.length_erase_of_mem hx
    have l0 : 0 < ys.length := List.length_pos_of_mem hx
    rw [List.length_cons]
    omega
theorem take_sub {ls : List Ln} {i j : Nat} (h : i ≤ j) {x : Str} (hx : x ∈ nms (ls.take i)) : x ∈ nms (ls.take j) := by
  obtain ⟨k, l, hk, hl, e⟩ := mem_take hx
  subst e
  have g : (ls.take j)[k]? = some l := by rw [List.getElem?_take_of_lt (by omega)]; exact hl
  exact List.mem_map.mpr ⟨l, List.mem_of_getElem? g, rfl⟩
theorem tab_sub {S : List Str → Prop} {ls : List Ln} {T : Tb} (ok : LnsOk ls) (h : Tab S ls T) : ∀ (i : Nat) (n : Str) (y : List Str), T[i]? = some (n, y) → ∀ x ∈ y, x ∈ nms (ls.take (i + 1)) := by
  have ndT : (T.map (·.1)).Nodup := by rw [h.nms]; exact ok.nd
  intro i
  induction i using Nat.strongRecOn with
  | ind i ih =>
    intro n y hy x hx
    have hi : i < ls.length := by
      rw [← h.len]
      exact (List.getElem?_eq_some_iff.mp hy).1
    obtain ⟨z, hz, _, _, uz⟩ := h.row i _ (List.getElem?_eq_getElem hi)
    rw [hy] at hz
    cases hz
    rcases (uz x).mp hx with e | ⟨b, hb, q⟩
    · have g : (ls.take (i + 1))[i]? = some ls[i] := by rw [List.getElem?_take_of_lt (Nat.lt_succ_self _)]; exact List.getElem?_eq_getElem hi
      exact List.mem_map.mpr ⟨_, List.mem_of_getElem? g, e.symm⟩
    · obtain ⟨j, k, hj, hk, ek⟩ := mem_take ((ok.base i _ (List.getElem?_eq_getElem hi)).2.1 b hb)
      subst ek
      obtain ⟨u, hu, _, _⟩ := h.row j k hk
      have g : (T.take i)[j]? = some (k.1, u) := by rw [List.getElem?_take_of_lt hj]; exact hu
      rw [look_at (by rw [List.map_take]; exact take_nodup ndT i) g] at q
      exact take_sub (by omega) (ih j hj _ _ hu x q)
theorem look_sub {S : List Str → Prop} {ls : List Ln} {T : Tb} (ok : LnsOk ls) (h : Tab S ls T) {n x : Str} (hx : x ∈ look T n) : x ∈ nms ls := by
  by_cases c : n ∈ T.map (·.1)
  · have e := look_in c
    generalize look T n = y at e hx
    obtain ⟨l1, l2, e2, _⟩ := List.lookup_eq_some_iff.mp e
    have g : T[l1.length]? = some (n, y) := by rw [e2, List.getElem?_append_right (Nat.le_refl _), Nat.sub_self]; rfl
    have q := tab_sub ok h _ _ _ g x hx
    exact take_sub (ls := ls) (j := ls.length + (l1.length + 1)) (by omega) q |> fun z => by rwa [List.take_of_length_le (by omega)] at z
  · have e : T.lookup n = none := by
      cases e : T.lookup n with
      | none => rfl
      | some y =>
        obtain ⟨l1, l2, e2, _⟩ := List.lookup_eq_some_iff.mp e
        exact absurd (by rw [e2]; simp) c
    unfold look at hx
    rw [e] at hx
    exact nomatch hx
theorem look_nd {S : List Str → Prop} {ls : List Ln} {T : Tb} (h : Tab S ls T) (n : Str) : (look T n).Nodup := by
  cases e : T.lookup n with
  | none =>
    unfold look
    rw [e]
    exact List.nodup_nil
  | some y =>
    obtain ⟨l1, l2, e2, _⟩ := List.lookup_eq_some_iff.mp e
    have g : T[l1.length]? = some (n, y) := by rw [e2, List.getElem?_append_right (Nat.le_refl _), Nat.sub_self]; rfl
    have hi : l1.length < ls.length := by
      rw [← h.len]
      exact (List.getElem?_eq_some_iff.mp g).1
    obtain ⟨z, hz, _, u, _⟩ := h.row _ _ (List.getElem?_eq_getElem hi)
    rw [g] at hz
    cases hz
    unfold look
    rw [e]
    exact u
theorem look_len {S : List Str → Prop} {ls : List Ln} {T : Tb} (ok : LnsOk ls) (h : Tab S ls T) (n : Str) : (look T n).length ≤ 7 := by
  have q := nd_len (look_nd h n) fun x hx => look_sub ok h hx
  rw [List.length_map] at q
  have := ok.few
  omega
theorem grows_len : ∀ (ys o : List Str), (ys.foldl grow o).length ≤ o.length + ys.length
  | [], o => Nat.le_refl _
  | y :: r, o => by
    have a := grows_len r (grow o y)
    have b := grow_len o y
    rw [List.foldl_cons, List.length_cons]
    omega
theorem LnsOk.take {ls : List Ln} (ok : LnsOk ls) (i : Nat) : LnsOk (ls.take i) := by
  refine ⟨fun l hl => ok.names l (List.mem_of_mem_take hl), ?_, ?_, fun j l hl => ?_⟩
  · have e : nms (ls.take i) = (nms ls).take i := List.map_take ..
    rw [e]
    exact take_nodup ok.nd i
  · have := ok.few
    rw [List.length_take]
    omega
  · rw [List.getElem?_take] at hl
    split at hl
    · obtain ⟨a, b, c⟩ := ok.base j l hl
      refine ⟨a, fun x hx => ?_, c⟩
      rw [List.take_take, Nat.min_eq_left (Nat.le_of_lt (by assumption))]
      exact b x hx
    · cases hl
end K1

namespace K1
open PySem PySem.Spec PyProof.Rows L2 Own
abbrev Srt (y : List Str) : Prop := sortedS y = true
def spAllAbove : Sp := fun vs H Q _ => ∃ r ls, vs = [.ref r] ∧ RowsAt H r ls ∧ LnsOk ls ∧ ∀ H' d T, Same H H' → DictAt (fun p => H p = none) H' d T → Tab Srt ls T → Q (.ref d) H'
theorem seqs_keep {H H' : Hp} {a : Addr} {xs : List V} (h : SeqOf H a xs) {H0 : Hp} (s0 : Same H H0) (s : Same H H') : ∀ o, H0 a = some o → H' a = some o := fun o e => by
  rcases h with e' | e'
  · rw [s0 _ _ e'] at e
    rw [← e]
    exact s _ _ e'
  · rw [s0 _ _ e'] at e
    rw [← e]
    exact s _ _ e'
theorem merge_one (n : Str) (v : V) : mergeK [] [((Sum.inr n : Key), v)] = [((Sum.inr n : Key), v)] := rfl
theorem small_of {S : List Str → Prop} {ls : List Ln} {i : Nat} {l : Ln} {T : Tb} {o : List Str} (ok : LnsOk ls) (hl : ls[i]? = some l) (tab : Tab S (ls.take i) T) (no : o.Nodup) (h : ∀ x ∈ o, x = l.1 ∨ ∃ c, x ∈ look T c) : o.length ≤ 7 := by
  have q := nd_len (ys := nms ls) no fun x hx => by
    rcases h x hx with e | ⟨c, hc⟩
    · exact List.mem_map.mpr ⟨l, List.mem_of_getElem? hl, e.symm⟩
    · have z := look_sub (ok.take i) tab hc
      obtain ⟨m, hm, e⟩ := List.mem_map.mp z
      exact List.mem_map.mpr ⟨m, List.mem_of_mem_take hm, e⟩
  rw [List.length_map] at q
  have := ok.few
  omega
section
variable {P : Program} {w : World} {K : PySem.W.Frag} {mg : Str → Option Value} {base : Heap}
theorem scAllAbove : FnScope ["rows", "above", "name", "bases", "over", "base", "far"] ["rows"] (defScope sAllAbove) := ⟨rfl, rfl, rfl, by decide +kernel, rfl, by decide +kernel, by decide +kernel⟩
theorem ok_allAbove {f : Addr} {fd : FuncData} (F : Fun K "_all_above" "_all_above" sAllAbove f fd) (ms : mg "sorted" = none) : FnOk P w K mg base CX0 1 f fd ["rows"] spAllAbove := by
  refine F.ok scAllAbove (fun vs H Q E h => ?_) (fun cdv A outer s H vs Q E hr h => ?_)
  · obtain ⟨r, ls, rfl, _⟩ := h
    rfl
  · obtain ⟨r, ls, rfl, ⟨rs, hs, pr⟩, ok, k⟩ := h
    have hu := hu_of hr
    refine ⟨_, pss_cons (ps_set (i := 1) scAllAbove.nd rfl (Or.inl rfl) pe_dnewK)
      (pss_cons (ps_for PassesOwn.never rfl (pi_seq 0) (pg_tup rfl (pgs_cons (pg_name (i := 2) scAllAbove.nd rfl (Or.inl rfl)) (pgs_cons (pg_name (i := 3) scAllAbove.nd rfl (Or.inl rfl)) pgs_nil)))
        (pss_cons (ps_set (i := 4) scAllAbove.nd rfl (Or.inl rfl) (pe_disp (pps_cons (pv 2) pe_bl pps_nil) (by rfl) (by rfl) (fun z => by cases z) (by decide)))
        (pss_cons (ps_for PassesOwn.never rfl (pi_seq 3) (pg_name (i := 5) scAllAbove.nd rfl (Or.inl rfl))
          (pss_one (ps_for PassesOwn.never rfl (pi_list (pe_dget hu (pv 1) (pv 5) (fun _ _ => rfl))) (pg_name (i := 6) scAllAbove.nd rfl (Or.inl rfl))
            (pss_one (ps_dput hu (pv 4) (pv 6) pe_bl rfl)))))
        (pss_one (ps_dput hu (pv 1) (pv 2) (pe_callB (call_sortedD rfl) (by rfl) ms (by decide +kernel) (pa_cons (pv 4) pa_nil)) rfl)))))
      (pss_one (ps_ret (pv 1)))), ?_⟩
    intro d nd
    have s1 : Same H (upd H d (.dK [])) := same_upd nd
    refine for_seq (a := r) (xs := rs) (by rfl) (hs.same s1) (fun i σ H' => ∃ v2 v3 v4 v5 v6 T, σ = [some (.ref r), some (.ref d), v2, v3, v4, v5, v6] ∧ Same H H' ∧ DictAt (fun p => H p = none) H' d T ∧ Tab Srt (ls.take i) T)
      ⟨none, none, none, none, none, [], rfl, s1, ⟨nd, [], upd_same, .nil⟩, Tab.nil⟩ (fun i σ H' hi ⟨_, _, _, _, _, _, _, sm, _⟩ => seqs_keep hs s1 sm) ?_ ?_
    · rintro i x σ H' hx ⟨v2, v3, v4, v5, v6, T, rfl, sm, dT, tab⟩
      obtain ⟨l, hl2, t, b, rfl, ht, hb⟩ := paired_at pr hx
      have hi : i < ls.length := (List.getElem?_eq_some_iff.mp hl2).1
      have few := ok.few
      obtain ⟨b1, b2, b3⟩ := ok.base i l hl2
      refine ⟨t, _, rfl, SqT.of (sm _ _ ht), rfl, _, _, rfl, _, _, rfl, rfl, ?_⟩
      intro p np
      refine ⟨_, rfl, upd_same, [(Sum.inr l.1, .bl true)], rfl, (by show 1 ≤ 15; decide), ?_⟩
      rw [merge_one, upd_upd]
      have s2 : Same H' (upd H' p (.dK [(Sum.inr l.1, .bl true)])) := same_upd np
      -- the bases
      refine for_seq (a := b) (xs := l.2.map V.str) (by rfl) ((hb.same sm).same s2) (fun j σ H2 => ∃ v5 v6 o, σ = [some (.ref r), some (.ref d), some (.str l.1), some (.ref b), some (.ref p), v5, v6] ∧ Same H' H2 ∧ H2 p = some (.dK (keysOf o)) ∧ o.Nodup ∧ ∀ x, x ∈ o ↔ x = l.1 ∨ ∃ c ∈ l.2.take j, x ∈ look T c)
        ⟨v5, v6, [l.1], rfl, s2, upd_same, by simp, fun x => by simp⟩ (fun j σ H2 hj ⟨_, _, _, _, sm2, _⟩ => seqs_keep (hb.same sm) s2 sm2) ?_ ?_
      · rintro j x σ H2 hx ⟨v5, v6, o, rfl, sm2, hp, no, mo⟩
        rw [List.getElem?_map] at hx
        obtain ⟨c, hc, rfl⟩ := Option.map_eq_some_iff.mp hx
        have cl : c ∈ l.2 := List.mem_of_getElem? hc
        have cT : c ∈ T.map (·.1) := by rw [tab.nms]; exact b2 c cl
        have dT2 := dT.same sm2
        obtain ⟨_, kvs, hd, pk⟩ := dT2
        obtain ⟨q, nq, eq, hq⟩ := ent_get pk (look_in cT)
        have npq : p ≠ q := ne_of hp hq (by intro z; cases z)
        have g : DGet H2 d (.str c) (some (.ref q)) := by
          rw [← eq]
          exact DGet.k (k := Sum.inr c) hd
        refine ⟨_, rfl, _, rfl, d, _, rfl, g, q, rfl, ⟨_, SqL.of hq⟩, ?_⟩
        have lk := look_len (ok.take i) tab c
        have ol := small_of ok hl2 tab no fun x hx => (mo x).mp hx |>.imp id fun ⟨c, h1, h2⟩ => ⟨c, h2⟩
        refine for_list (K := K) (a := q) (xs := (look T c).map V.str) (fun m σ H3 => ∃ v6, σ = [some (.ref r), some (.ref d), some (.str l.1), some (.ref b), some (.ref p), some (.str c), v6] ∧ (∀ a u, a ≠ p → H2 a = some u → H3 a = some u) ∧ H3 p = some (.dK (keysOf (((look T c).take m).foldl grow o))))
          ⟨v6, rfl, fun _ _ _ e => e, hp⟩ (fun m σ H3 hm ⟨_, _, e, _⟩ => SqL.of (e q _ npq.symm hq)) ?_ ?_
        · rintro m x σ H3 hx ⟨v6, rfl, kp, hp3⟩
          rw [List.getElem?_map] at hx
          obtain ⟨z, hz, rfl⟩ := Option.map_eq_some_iff.mp hx
          have put := DPut.k (k := Sum.inr z) (v := .bl true) hp3 (by
            unfold keysOf
            rw [List.length_map]
            have a := grows_len ((look T c).take m) o
            have b : ((look T c).take m).length ≤ (look T c).length := by rw [List.length_take]; omega
            exact small1000 (by omega))
          rw [put_keys] at put
          refine ⟨_, rfl, _, rfl, p, _, rfl, put, ?_⟩
          refine ⟨_, rfl, fun a u ne e => by rw [upd_ne ne]; exact kp a u ne e, ?_⟩
          rw [upd_same, List.take_add_one, hz, List.foldl_append]
          rfl
        · rintro σ H3 ⟨v6, rfl, kp, hp3⟩
          rw [List.length_map, List.take_of_length_le (Nat.le_refl _)] at hp3
          refine ⟨_, _, _, rfl, fun a u e => kp a u (ne_of_none e np) (sm2 a u e), hp3, grows_nd no, fun x => ?_⟩
          rw [grows_mem, mo x, List.take_add_one, hc]
          simp only [Option.toList, List.mem_append, List.mem_singleton]
          constructor
          · rintro ((e | ⟨c', h1, h2⟩) | h2)
            · exact .inl e
            · exact .inr ⟨c', .inl h1, h2⟩
            · exact .inr ⟨c, .inr rfl, h2⟩
          · rintro (e | ⟨c', h1 | h1, h2⟩)
            · exact .inl (.inl e)
            · exact .inl (.inr ⟨c', h1, h2⟩)
            · subst h1
              exact .inr h2
      · rintro σ H2 ⟨v5, v6, o, rfl, sm2, hp, no, mo⟩
        rw [List.length_map, List.take_of_length_le (Nat.le_refl _)] at mo
        have ol := small_of ok hl2 tab no fun x hx => (mo x).mp hx |>.imp id fun ⟨c, h1, h2⟩ => ⟨c, h2⟩
        obtain ⟨nD, kvs, hd, pk⟩ := dT.same sm2
        refine ⟨_, rfl, p, _, o, rfl, .inl hp, keysOf_keys o, (by omega), fun ys q pe so nq => ?_⟩
        have s3 : Same H2 (upd H2 q (.lst (ys.map V.str))) := same_upd nq
        have nlT : l.1 ∉ T.map (·.1) := by
          rw [tab.nms]
          exact not_before ok.nd hl2
        have kl : kvs.length = T.length := paired_len pk
        have Tl : T.length ≤ 7 := by
          rw [tab.len, List.length_take]
          omega
        have put := DPut.k (k := Sum.inr l.1) (v := .ref q) (s3 _ _ hd) (small1000 (by omega))
        rw [putK_new _ (ent_none pk nlT)] at put
        refine ⟨_, rfl, _, rfl, d, _, rfl, put, ?_⟩
        have qH : H q = none := (sm.trans sm2).free nq
        have dq : q ≠ d := (ne_of_none hd nq).symm
        have ups : UpsIs (look T) l ys := ⟨pe.nodup_iff.mpr no, fun x => by rw [pe.mem_iff]; exact mo x⟩
        have e4 : ∀ a u, a ≠ d → H2 a = some u → (upd (upd H2 q (.lst (ys.map V.str))) d (.dK (kvs ++ [(Sum.inr l.1, .ref q)]))) a = some u := fun a u ne e => by
          rw [upd_ne ne]
          exact s3 _ _ e
        refine ⟨_, _, _, _, _, T ++ [(l.1, ys)], rfl, fun a u e => e4 a u (ne_of_none e nd) (sm2 _ _ (sm _ _ e)), ⟨nd, _, upd_same, ?_⟩, ?_⟩
        · refine Paired.snoc (paired_imp (fun kv t => ?_) pk) ⟨rfl, q, qH, rfl, ?_⟩
          · rintro ⟨a1, a2, a3, a4, a5⟩
            exact ⟨a1, a2, a3, a4, e4 _ _ (ne_of a5 hd (by intro z; cases z)) a5⟩
          · rw [upd_ne dq, upd_same]
        · rw [List.take_add_one, hl2]
          exact tab.snoc ups so
    · rintro σ H' ⟨v2, v3, v4, v5, v6, T, rfl, sm, dT, tab⟩
      rw [paired_len pr, List.take_of_length_le (Nat.le_refl _)] at tab
      exact ⟨_, rfl, k _ d T sm dT tab⟩
end
end K1

namespace K1
open PySem PySem.Spec PyProof.Rows L2 Own
/-! ### a table of kinds -/
theorem ra : ¬ (("_rows" : Str) = "_above") := by decide +kernel
theorem ar : ¬ (("_above" : Str) = "_rows") := by decide +kernel
def kf (r d : Addr) : List (Str × V) := [(("_rows" : Str), V.ref r), (("_above" : Str), V.ref d)]
theorem kf_rows (r d : Addr) : (kf r d).lookup ("_rows" : Str) = some (.ref r) := by
  unfold kf
  rw [List.lookup_cons, beq_self_eq_true]
theorem kf_above (r d : Addr) : (kf r d).lookup ("_above" : Str) = some (.ref d) := by
  unfold kf
  rw [List.lookup_cons, beq_eq_false_iff_ne.mpr ar, List.lookup_cons, beq_self_eq_true]
theorem kf_no (r d : Addr) {m : Str} (h1 : ¬ m = "_rows") (h2 : ¬ m = "_above") : (kf r d).lookup m = none := by
  unfold kf
  rw [List.lookup_cons, beq_eq_false_iff_ne.mpr h1, List.lookup_cons, beq_eq_false_iff_ne.mpr h2]
  rfl
/-- the fields of an object ahead of _take: none, or those of a table -/
def FsOk (fs : List (Str × V)) : Prop := fs = [] ∨ ∃ r d, fs = kf r d
theorem put_rows {fs : List (Str × V)} (h : FsOk fs) (r : Addr) : (putF "_rows" (.ref r) fs).lookup ("_rows" : Str) = some (.ref r) ∧ (putF "_rows" (.ref r) fs).length < 1000 ∧ ∀ d, putF "_above" (.ref d) (putF "_rows" (.ref r) fs) = kf r d := by
  refine ⟨by rw [lookup_putF, if_pos rfl], ?_, fun d => ?_⟩
  · have q := length_putF ("_rows" : Str) (.ref r) fs
    rcases h with e | ⟨r0, d0, e⟩
    · rw [e] at q ⊢
      exact Nat.lt_of_le_of_lt q (by decide)
    · rw [e] at q ⊢
      exact Nat.lt_of_le_of_lt q (by show 3 < 1000; decide)
  · rcases h with e | ⟨r0, d0, e⟩
    · subst e
      show (if ("_rows" : Str) = "_above" then [(("_rows" : Str), V.ref d)] else (("_rows" : Str), V.ref r) :: putF "_above" (V.ref d) []) = _
      rw [if_neg ra]
      rfl
    · subst e
      have e1 : putF "_rows" (.ref r) (kf r0 d0) = kf r d0 := by
        show (if ("_rows" : Str) = "_rows" then (("_rows" : Str), V.ref r) :: [(("_above" : Str), V.ref d0)] else _) = _
        rw [if_pos rfl]
        rfl
      rw [e1]
      show (if ("_rows" : Str) = "_above" then _ else (("_rows" : Str), V.ref r) :: (if ("_above" : Str) = "_above" then [(("_above" : Str), V.ref d)] else _)) = _
      rw [if_neg ra, if_pos rfl]
      rfl
theorem fs_limit {fs : List (Str × V)} (h : FsOk fs) : fs.lookup ("LIMIT" : Str) = none ∧ fs.length < 1000 := by
  rcases h with e | ⟨r, d, e⟩
  · subst e
    exact ⟨rfl, by decide⟩
  · subst e
    exact ⟨kf_no _ _ (by decide +kernel) (by decide +kernel), by show 2 < 1000; decide⟩
def RowIn (N : Addr → Prop) (H : Hp) (v : V) (l : Ln) : Prop := ∃ t b, v = .ref t ∧ N t ∧ N b ∧ H t = some (.tup [.str l.1, .ref b]) ∧ H b = some (.lst (l.2.map V.str))
theorem RowIn.row {N : Addr → Prop} {H : Hp} {v : V} {l : Ln} (h : RowIn N H v l) : RowAt H v l := by
  obtain ⟨t, b, e, _, _, h1, h2⟩ := h
  exact ⟨t, b, e, h1, .inl h2⟩
/-- the same rows with their bases in order -/
def SrtRel (l l' : Ln) : Prop := l.1 = l'.1 ∧ l'.2.Perm l.2 ∧ sortedS l'.2 = true
def SrtOf (ls ls' : List Ln) : Prop := Paired SrtRel ls ls'
theorem SrtOf.alike {ls ls' : List Ln} (h : SrtOf ls ls') : Alike ls ls' := paired_imp (fun _ _ a => ⟨a.1, fun b => (a.2.1.mem_iff (a := b)).symm⟩) h
theorem SrtOf.ok {ls ls' : List Ln} (h : SrtOf ls ls') (ok : LnsOk ls) : LnsOk ls' := by
  have en := h.alike.nms
  refine ⟨fun l' hl' => ?_, by rw [← en]; exact ok.nd, by rw [← paired_len h]; exact ok.few, fun i l' hl' => ?_⟩
  · obtain ⟨i, hi⟩ := List.mem_iff_getElem?.mp hl'
    obtain ⟨l, hl, a⟩ := paired_at' h hi
    rw [← a.1]
    exact ok.names l (List.mem_of_getElem? hl)
  · obtain ⟨l, hl, a1, a2, a3⟩ := paired_at' h hl'
    obtain ⟨b1, b2, b3⟩ := ok.base i l hl
    refine ⟨a2.nodup_iff.mpr b1, fun b hb => ?_, by rw [a2.length_eq]; exact b3⟩
    have q := b2 b (a2.mem_iff.mp hb)
    rw [show nms (ls'.take i) = (nms ls').take i from List.map_take .., ← en, ← List.map_take]
    exact q
theorem SrtOf.one {ls l1 l2 : List Ln} (h1 : SrtOf ls l1) (h2 : SrtOf ls l2) : l1 = l2 := by
  refine List.ext_getElem? fun i => ?_
  cases e : l1[i]? with
  | none =>
    have q := List.getElem?_eq_none_iff.mp e
    rw [List.getElem?_eq_none_iff.mpr (by rw [← paired_len h2, paired_len h1]; exact q)]
  | some a =>
    obtain ⟨l, hl, a1, a2, a3⟩ := paired_at' h1 e
    obtain ⟨b, hb, b1, b2, b3⟩ := paired_at h2 hl
    have e2 : a.2 = b.2 := sorted_one (a2.trans b2.symm) a3 b3
    have e3 : a = b := by
      cases a
      cases b
      simp only at e2 a1 b1
      rw [e2, ← a1, ← b1]
    rw [hb, e3]
def KObj (N : Addr → Prop) (C : Addr) (H : Hp) (x dx : Addr) (ls : List Ln) : Prop :=
  ∃ r d ls' T rs, H x = some (.ins C dx (kf r d)) ∧ N r ∧ H r = some (.lst rs) ∧ Paired (RowIn N H) rs ls' ∧ SrtOf ls ls' ∧ DictAt N H d T ∧ Tab Srt ls' T
theorem KObj.keep {N : Addr → Prop} {C : Addr} {H H' : Hp} {x dx : Addr} {ls : List Ln} (h : KObj N C H x dx ls) (k : ∀ a o, N a ∨ a = x → H a = some o → H' a = some o) : KObj N C H' x dx ls := by
  obtain ⟨r, d, ls', T, rs, hx, nr, hr, pr, so, ⟨nd, kvs, hd, pk⟩, tab⟩ := h
  refine ⟨r, d, ls', T, rs, k _ _ (.inr rfl) hx, nr, k _ _ (.inl nr) hr, paired_imp (fun _ _ ⟨t, b, e, nt, nb, h1, h2⟩ => ⟨t, b, e, nt, nb, k _ _ (.inl nt) h1, k _ _ (.inl nb) h2⟩) pr, so, ⟨nd, kvs, k _ _ (.inl nd) hd, ?_⟩, tab⟩
  exact paired_imp (fun _ _ ⟨a, q, nq, c, z⟩ => ⟨a, q, nq, c, k _ _ (.inl nq) z⟩) pk
theorem KObj.mono {N N' : Addr → Prop} {C : Addr} {H : Hp} {x dx : Addr} {ls : List Ln} (h : KObj N C H x dx ls) (k : ∀ a, N a → N' a) : KObj N' C H x dx ls := by
  obtain ⟨r, d, ls', T, rs, hx, nr, hr, pr, so, ⟨nd, kvs, hd, pk⟩, tab⟩ := h
  exact ⟨r, d, ls', T, rs, hx, k _ nr, hr, paired_imp (fun _ _ ⟨t, b, e, nt, nb, h1, h2⟩ => ⟨t, b, e, k _ nt, k _ nb, h1, h2⟩) pr, so, ⟨k _ nd, kvs, hd, paired_imp (fun _ _ ⟨a, q, nq, c, z⟩ => ⟨a, q, k _ nq, c, z⟩) pk⟩, tab⟩
/-- a table at x, its parts among N -/
def KAt (N : Addr → Prop) (C : Addr) (H : Hp) (x : Addr) (ls : List Ln) : Prop := N x ∧ ∃ dx, KObj N C H x dx ls
theorem KAt.same {N : Addr → Prop} {C : Addr} {H H' : Hp} {x : Addr} {ls : List Ln} (h : KAt N C H x ls) (k : ∀ a o, N a → H a = some o → H' a = some o) : KAt N C H' x ls := by
  obtain ⟨nx, dx, o⟩ := h
  exact ⟨nx, dx, o.keep fun a u e => k a u (e.elim id fun z => z ▸ nx)⟩
theorem q_seq {t u : TS} {D : Ends} {σ : L2.St} {H : Hp} (h : t { D with nx := u D } σ H) : tSeq t u D σ H := h
theorem q_fld {K : PySem.W.Frag} {ta tv : TE} {f : Str} {D : Ends} {σ : L2.St} {H : Hp} (h : tv σ H fun y H1 => ta σ H1 fun x H2 => ∃ a C dx fs, x = .ref a ∧ H2 a = some (.ins C dx fs) ∧ Cls K C ∧ NoAttr K C f ∧ fs.length < 1000 ∧ D.nx σ (upd H2 a (.ins C dx (putF f y fs)))) : sFld K ta tv f D σ H := h
structure KTxt (K : PySem.W.Frag) (mg : Str → Option Value) (C : Addr) : Prop where
  cl : Cls K C
  nR : NoAttr K C "_rows"
  nA : NoAttr K C "_above"
  lim : ∃ u, Con K C "LIMIT" (.int 7) u
  mgC : mg "Kinds" = some (.ref C)
  len : mg "len" = none
  sorted : mg "sorted" = none
  list : mg "list" = none
def spTake (C : Addr) : Sp := fun vs H Q _ => ∃ x a dx fs ls, vs = [.ref x, .ref a] ∧ H x = some (.ins C dx fs) ∧ FsOk fs ∧ RowsAt H a ls ∧ LnsOk ls ∧ ∀ H', (∀ b o, b ≠ x → H b = some o → H' b = some o) → KObj (fun p => H p = none) C H' x dx ls → Q .non H'
section
variable {P : Program} {w : World} {K : PySem.W.Frag} {mg : Str → Option Value} {base : Heap}
theorem scTake : FnScope ["self", "rows", "name", "bases"] ["self", "rows"] (defScope sTake) := ⟨rfl, rfl, rfl, by decide +kernel, rfl, by decide +kernel, by decide +kernel⟩
theorem ok_take {C f fN fB fA : Addr} {fd dN dB dA : FuncData} (F : Fun K "_take" "Kinds._take" sTake f fd) (T : KTxt K mg C)
    (GN : FnOk P w K mg base CX0 2 fN dN ["rows"] spCkNames) (kN : PySem.W.keepIn K (.ref fN) = true) (bN : Binds K dN ["rows"] []) (mN : mg "_check_names" = some (.ref fN))
    (GB : FnOk P w K mg base CX0 2 fB dB ["rows"] spCkNames) (kB : PySem.W.keepIn K (.ref fB) = true) (bB : Binds K dB ["rows"] []) (mB : mg "_check_bases" = some (.ref fB))
    (GA : FnOk P w K mg base CX0 1 fA dA ["rows"] spAllAbove) (kA : PySem.W.keepIn K (.ref fA) = true) (bA : Binds K dA ["rows"] []) (mA : mg "_all_above" = some (.ref fA)) : FnOk P w K mg base CX0 3 f fd ["self", "rows"] (spTake C) := by
  refine F.ok scTake (fun vs H Q E h => ?_) (fun cdv A outer s H vs Q E hr h => ?_)
  · obtain ⟨x, a, dx, fs, ls, rfl, _⟩ := h
    rfl
  · obtain ⟨x, a, dx, fs, ls, rfl, hx, fo, ⟨rs, hs, pr⟩, ok, k⟩ := h
    have hr1 : Room 1 _ := hr.mono (by decide)
    obtain ⟨uL, cL⟩ := T.lim
    refine ⟨_, pss_cons (ps_if (pt_cmpR op_gt (pe_callB call_len_seq (by rfl) T.len PySem.boot_len (pa_cons (pv 1) pa_nil)) (pe_con (pv 0) rfl) (nomark _)) (pss_one ps_never) pss_nil)
      (pss_cons (ps_expr (pe_call GN hr (by rfl) mN kN bN .nil pass0 (pa_cons (pv 1) pa_nil)))
      (pss_cons (ps_expr (pe_call GB hr (by rfl) mB kB bB .nil pass0 (pa_cons (pv 1) pa_nil)))
      (pss_cons (ps_fld (pv 0) (pe_lc (own := [("name", 2), ("bases", 3)]) (g := gTup K 2 (gCons (gName 2) (gCons (gName 3) gNil))) (tt := tYes) rfl scTake.nd (pi_seq 1) (blkOk_by (N := ["self", "rows", "name", "bases"]) (sc := defScope sTake) (by decide +kernel))
          (fun _ _ _ _ _ => pg_tup rfl (pgs_cons (pg_name (i := 2) scTake.nd rfl (Or.inl rfl)) (pgs_cons (pg_name (i := 3) scTake.nd rfl (Or.inl rfl)) pgs_nil))) (fun _ _ _ _ _ => pts_nil)
          (fun _ _ _ _ _ => pe_tup (pa_cons (pv 2) (pa_cons (pe_callB cr_sortedQ (by rfl) T.sorted (by decide +kernel) (pa_cons (pv 3) pa_nil)) pa_nil)))) rfl)
      (pss_one (ps_fld (pv 0) (pe_call GA hr1 (by rfl) mA kA bA .nil pass0 (pa_cons (pe_fld (pv 0) rfl) pa_nil)) rfl))))), ?_⟩
    have few := ok.few
    have hl := paired_len pr
    refine ⟨_, rfl, a, rs, rfl, hs.lt, _, rfl, x, C, dx, fs, .int 7, uL, rfl, hx, T.cl, cL, (fs_limit fo).1, _, _, rfl, rfl, _, rfl, iteFD (by omega) ?_⟩
    refine ⟨_, rfl, a, ls, rfl, ⟨rs, hs, pr⟩, ok, fun H1 s1 => ?_⟩
    refine ⟨_, rfl, a, ls, rfl, RowsAt.same s1 ⟨rs, hs, pr⟩, ok, fun H2 s2 => ?_⟩
    have s12 := s1.trans s2
    have pr2 : Paired (RowAt H2) rs ls := paired_imp (fun _ _ => RowAt.same s12) pr
    dsimp only
    refine q_seq (q_fld ?_)
    refine lc_seq (a := a) (xs := rs) (by rfl) (hs.same s12) (fun D i H' => Same H2 H' ∧ ∃ vs' ls', H' D = some (.lst vs') ∧ Paired (RowIn (fun p => H p = none ∧ p ≠ D) H') vs' ls' ∧ SrtOf (ls.take i) ls') (fun D nD => ⟨same_upd nD, [], [], upd_same, .nil, .nil⟩) (fun D i H' nD hi p => p.1 _) ?_ ?_
    · rintro D i v H' nD hv ⟨sm, vs', ls', hD, pk, so⟩
      obtain ⟨l, hl2, t, b, rfl, ht, hb⟩ := paired_at pr2 hv
      have hi : i < ls.length := (List.getElem?_eq_some_iff.mp hl2).1
      obtain ⟨b1, b2, b3⟩ := ok.base i l hl2
      refine ⟨t, _, rfl, SqT.of (sm _ _ ht), rfl, _, _, rfl, _, _, rfl, rfl, rfl, ?_⟩
      refine ⟨_, rfl, _, rfl, b, l.2, rfl, hb.same sm, (by omega), fun ys q pe sy nq => ?_⟩
      refine ⟨(by show 2 ≤ sizeLine; decide), fun p np => ?_⟩
      have e1 : Same H' (upd H' q (.lst (ys.map V.str))) := same_upd nq
      have e2 : Same (upd H' q (.lst (ys.map V.str))) (upd (upd H' q (.lst (ys.map V.str))) p (.tup [.str l.1, .ref q])) := same_upd np
      have hD2 := e2 _ _ (e1 _ _ hD)
      have lv : vs'.length ≤ 7 := by
        rw [paired_len pk, ← paired_len so, List.length_take]
        omega
      have nqH : H q = none := (s12.trans sm).free nq
      have npH : H p = none := (s12.trans sm).free (e1.free np)
      have nDq : D ≠ q := ne_of_none hD nq
      have nDp : D ≠ p := ne_of_none (e1 _ _ hD) np
      have e3 : ∀ a u, a ≠ D → H' a = some u → (upd (upd (upd H' q (.lst (ys.map V.str))) p (.tup [.str l.1, .ref q])) D (.lst (vs' ++ [V.ref p]))) a = some u := fun a u ne e => by
        rw [upd_ne ne]
        exact e2 _ _ (e1 _ _ e)
      refine ⟨_, hD2, small1000 (by omega), fun a u e => e3 a u (ne_of_none e nD) (sm _ _ e), vs' ++ [V.ref p], ls' ++ [(l.1, ys)], upd_same, ?_, ?_⟩
      · refine Paired.snoc (paired_imp (fun v l ⟨t', b', e, nt, nb, g1, g2⟩ => ⟨t', b', e, nt, nb, e3 _ _ nt.2 g1, e3 _ _ nb.2 g2⟩) pk) ⟨p, q, rfl, ⟨npH, nDp.symm⟩, ⟨nqH, nDq.symm⟩, ?_, ?_⟩
        · rw [upd_ne nDp.symm, upd_same]
        · rw [upd_ne nDq.symm]
          exact e2 _ _ upd_same
      · rw [List.take_add_one, hl2]
        exact Paired.snoc so ⟨rfl, pe, sy⟩
    · rintro D H' nD ⟨sm, vs', ls', hD, pk, so⟩
      rw [hl, List.take_of_length_le (Nat.le_refl _)] at so
      have nDH : H D = none := s12.free nD
      have hx2 : H' x = some (.ins C dx fs) := sm _ _ (s12 _ _ hx)
      obtain ⟨p1, p2, p3⟩ := put_rows fo D
      refine ⟨_, rfl, x, C, dx, fs, rfl, hx2, T.cl, T.nR, (fs_limit fo).2, ?_⟩
      have e1 : ∀ a u, a ≠ x → H' a = some u → (upd H' x (.ins C dx (putF "_rows" (.ref D) fs))) a = some u := fun a u ne e => by
        rw [upd_ne ne]
        exact e
      have nxa : ∀ {a : Addr} {u : HO}, H' a = some u → u ≠ .ins C dx fs → a ≠ x := fun e d => ne_of e hx2 d
      have pk1 : Paired (RowIn (fun p => H p = none) (upd H' x (.ins C dx (putF "_rows" (.ref D) fs)))) vs' ls' :=
        paired_imp (fun v l ⟨t', b', e, nt, nb, g1, g2⟩ => ⟨t', b', e, nt.1, nb.1, e1 _ _ (nxa g1 (by intro z; cases z)) g1, e1 _ _ (nxa g2 (by intro z; cases z)) g2⟩) pk
      have hD1 := e1 _ _ (nxa hD (by intro z; cases z)) hD
      refine ⟨_, rfl, x, C, dx, _, _, rfl, upd_same, T.cl, T.nR, p1, D, ls', rfl, ⟨vs', .inl hD1, paired_imp (fun _ _ => RowIn.row) pk1⟩, so.ok ok, fun H3 d TT s3 dT tab => ?_⟩
      have hx3 := s3 _ _ (upd_same (H := H') (a := x) (o := .ins C dx (putF "_rows" (.ref D) fs)))
      refine ⟨_, rfl, x, C, dx, _, rfl, hx3, T.cl, T.nA, p2, ?_⟩
      rw [p3 d]
      have e2 : ∀ a u, a ≠ x → H3 a = some u → (upd H3 x (.ins C dx (kf D d))) a = some u := fun a u ne e => by
        rw [upd_ne ne]
        exact e
      have nxb : ∀ {a : Addr} {u : HO}, H3 a = some u → u ≠ .ins C dx (putF "_rows" (.ref D) fs) → a ≠ x := fun e d => ne_of e hx3 d
      have back : ∀ a, (upd H' x (.ins C dx (putF "_rows" (.ref D) fs))) a = none → H a = none := fun a e => by
        by_cases c : a = x
        · rw [c, upd_same] at e
          cases e
        · rw [upd_ne c] at e
          exact (s12.trans sm).free e
      refine k _ (fun a u ne e => e2 a u ne (s3 _ _ (e1 a u ne (sm _ _ (s12 _ _ e))))) ⟨D, d, ls', TT, vs', upd_same, nDH, e2 _ _ (nxb (s3 _ _ hD1) (by intro z; cases z)) (s3 _ _ hD1), ?_, so, ?_, tab⟩
      · exact paired_imp (fun v l ⟨t', b', e, nt, nb, g1, g2⟩ => ⟨t', b', e, nt, nb, e2 _ _ (nxb (s3 _ _ g1) (by intro z; cases z)) (s3 _ _ g1), e2 _ _ (nxb (s3 _ _ g2) (by intro z; cases z)) (s3 _ _ g2)⟩) pk1
      · obtain ⟨n1, kvs, n2, n3⟩ := dT
        exact ⟨back _ n1, kvs, e2 _ _ (nxb n2 (by intro z; cases z)) n2, paired_imp (fun kv t ⟨a1, a2, a3, a4, a5⟩ => ⟨a1, a2, back _ a3, a4, e2 _ _ (nxb a5 (by intro z; cases z)) a5⟩) n3⟩
end
end K1

namespace K1
open PySem PySem.Spec PyProof.Rows L2 Own
/-! ### making tables -/
def k4 : List Str := ["io", "net", "disk", "both"]
def k6 : List Str := ["rows", "kinds", "name", "names", "of", "tree"]
def BasAt (H : Hp) (v : V) (l : Ln) : Prop := ∃ b, v = .ref b ∧ SeqOf H b (l.2.map V.str)
def spInit (C : Addr) : SpK := fun x ks vs H Q => ∃ dx ls, H x = some (.ins C dx []) ∧ nms ls = ks ∧ Paired (BasAt H) vs ls ∧ LnsOk ls ∧ (ks = [] ∨ ks = k4 ∨ ks = k6) ∧ ∀ H', (∀ b o, b ≠ x → H b = some o → H' b = some o) → KObj (fun p => H p = none) C H' x dx ls → Q .non H'
theorem rows_of {H' : Hp} : ∀ {ts : List Addr} {vs : List V} {ls : List Ln}, Paired (fun (t : Addr) (q : Key × V) => H' t = some (.tup [kV q.1, q.2])) ts (keyed ((nms ls).zip vs)) → Paired (BasAt H') vs ls → Paired (RowAt H') (ts.map V.ref) ls
  | [], _, [], _, _ => .nil
  | [], _, _ :: _, p, .cons _ _ => nomatch p
  | _ :: _, _, [], p, .nil => nomatch p
  | t :: ts, v :: vs, l :: ls, .cons a r, .cons ⟨b, e, hb⟩ s => .cons ⟨t, b, rfl, by rw [← e]; exact a, hb⟩ (rows_of r s)
def spOf (C : Addr) : Sp := fun vs H Q _ => ∃ a ls, vs = [.ref C, .ref a] ∧ RowsAt H a ls ∧ LnsOk ls ∧ ∀ H' x, Same H H' → KAt (fun p => H p = none) C H' x ls → Q (.ref x) H'
theorem lnsOk_nil : LnsOk [] := ⟨fun _ h => (nomatch h), List.nodup_nil, Nat.zero_le _, fun i l h => by simp at h⟩
section
variable {P : Program} {w : World} {K : PySem.W.Frag} {mg : Str → Option Value} {base : Heap}
theorem scInit : FnScope ["self", "bases"] ["self", "bases"] (defScope sInit) := ⟨rfl, rfl, rfl, by decide +kernel, rfl, by decide +kernel, by decide +kernel⟩
theorem ok_init {C f fT : Addr} {fd dT : FuncData} (F : Fun K "__init__" "Kinds.__init__" sInit f fd) (T : KTxt K mg C) (GT : FnOk P w K mg base CX0 3 fT dT ["self", "rows"] (spTake C)) (mT : Meth K C "_take" fT) (bT : Binds K dT ["self", "rows"] []) : FnKw P w K mg base 4 f (spInit C) := by
  obtain ⟨oc, od, kV, doc, pm, an, cdv, ct, osl, rfl, lk, hcd⟩ := F.ex
  refine fn_kw lk hcd scInit (fun x ks vs H Q h => ?_) (fun x ks vs H Q ws h hl => ?_) (fun A outer s H x d ks vs Q E hr h hd => ?_)
  · obtain ⟨dx, ls, _, e, _, ok, _⟩ := h
    subst e
    have := ok.few
    exact ⟨ok.nd, by rw [List.length_map]; omega⟩
  · obtain ⟨dx, ls, _, e, _, ok, he, _⟩ := h
    rcases he with he | he | he
    · subst he
      match ws, hl with
      | [], _ => rfl
    · subst he
      match ws, hl with
      | [a, b, c, d], _ => rfl
    · subst he
      match ws, hl with
      | [a, b, c, d, e, f], _ => rfl
  · obtain ⟨dx, ls, hx, e, pb, ok, he, k⟩ := h
    subst e
    refine ⟨_, pss_one (ps_expr (pe_meth (pv 0) T.cl mT GT hr bT .nil pass0 (pa_cons (LiI.pe_listItems rfl (pv 1) (by rfl) T.list (by decide +kernel)) pa_nil))), ?_⟩
    have s1 : Same H (upd H d (.dK (keyed ((nms ls).zip vs)))) := same_upd hd
    refine ⟨_, rfl, x, dx, [], rfl, s1 _ _ hx, rfl, _, rfl, d, _, rfl, upd_same, fun H' p ts s2 np nts pn hp pt => ?_⟩
    have pb2 : Paired (BasAt H') vs ls := paired_imp (fun _ _ ⟨b, e, hb⟩ => ⟨b, e, (hb.same s1).same s2⟩) pb
    refine ⟨x, p, dx, [], ls, rfl, s2 _ _ (s1 _ _ hx), .inl rfl, ⟨_, .inl hp, rows_of pt pb2⟩, ok, fun H3 s3 ko => ?_⟩
    exact k _ (fun b o ne e => s3 b o ne (s2 _ _ (s1 _ _ e))) (ko.mono fun a e => s1.free (Same.free s2 e))
theorem scOf : FnScope ["cls", "rows", "made"] ["cls", "rows"] (defScope sOf) := ⟨rfl, rfl, rfl, by decide +kernel, rfl, by decide +kernel, by decide +kernel⟩
theorem ok_of {C f fT fI fR : Addr} {fd dT dR : FuncData} (F : Fun K "of" "Kinds.of" sOf f fd) (T : KTxt K mg C) (M : Mk K C fI) (GI : FnKw P w K mg base 4 fI (spInit C)) (GT : FnOk P w K mg base CX0 3 fT dT ["self", "rows"] (spTake C)) (mT : Meth K C "_take" fT) (bT : Binds K dT ["self", "rows"] [])
    (GR : FnOk P w K mg base CX0 2 fR dR ["thing"] spAreRows) (kR : PySem.W.keepIn K (.ref fR) = true) (bR : Binds K dR ["thing"] []) (mR : mg "_are_rows" = some (.ref fR)) : FnOk P w K mg base CX0 6 f fd ["cls", "rows"] (spOf C) := by
  refine F.ok scOf (fun vs H Q E h => ?_) (fun cdv A outer s H vs Q E hr h => ?_)
  · obtain ⟨a, ls, rfl, _⟩ := h
    rfl
  · obtain ⟨a, ls, rfl, ra, ok, k⟩ := h
    refine ⟨_, pss_cons (ps_if (pt_not (pt_val (pe_call GR (hr.mono (by decide)) (by rfl) mR kR bR .nil pass0 (pa_cons (pv 1) pa_nil)))) (pss_one ps_never) pss_nil)
      (pss_cons (ps_set (i := 2) scOf.nd rfl (Or.inl rfl) (pe_makeL (i := 0) M GI hr rfl (Or.inl rfl)))
      (pss_cons (ps_expr (pe_meth (pv 2) T.cl mT GT (hr.mono (by decide)) bT .nil pass0 (pa_cons (pv 1) pa_nil)))
      (pss_one (ps_ret (pv 2))))), ?_⟩
    have few := ok.few
    refine ⟨_, rfl, a, ls, rfl, ra, (by omega), fun H1 s1 => ⟨true, rfl, iteF ?_⟩⟩
    refine ⟨rfl, fun x dx nx ndx ne => ?_⟩
    have s2 : Same H1 (upd (upd H1 dx (.own x)) x (.ins C dx [])) := fun b o e => by
      rw [upd_ne (ne_of_none e nx), upd_ne (ne_of_none e ndx)]
      exact e
    refine ⟨dx, [], upd_same, rfl, .nil, lnsOk_nil, .inl rfl, fun H3 s3 ko => ⟨rfl, ?_⟩⟩
    obtain ⟨r, d, ls', TT, rs, hx3, _⟩ := ko
    have s13 : Same H1 H3 := fun b o e => s3 b o (ne_of_none e nx) (s2 _ _ e)
    refine ⟨_, rfl, x, dx, _, rfl, hx3, kf_no _ _ (by decide +kernel) (by decide +kernel), _, rfl, x, a, dx, _, ls, rfl, hx3, .inr ⟨_, _, rfl⟩, (ra.same s1).same s13, ok, fun H4 s4 ko => ?_⟩
    have s14 : Same H1 H4 := fun b o e => s4 b o (ne_of_none e nx) (s13 _ _ e)
    refine ⟨_, rfl, k _ x (s1.trans s14) ⟨s1.free nx, dx, ko.mono fun p e => s1.free (s13.free e)⟩⟩
end
end K1

namespace K1
open PySem PySem.Spec PyProof.Rows L2 Own
/-! ### reading tables -/
def reprOf (ns : List Str) : Str := (("Kinds(" : Str) ++ Txt.join ", " ns) ++ (")" : Str)
/-- what stands in a table's object -/
structure KIn (C : Addr) (H : Hp) (x : Addr) (ls ls' : List Ln) (T : Tb) : Prop where
  ex : ∃ dx r d rs kvs, H x = some (.ins C dx (kf r d)) ∧ H r = some (.lst rs) ∧ Paired (RowIn (fun _ => True) H) rs ls' ∧ H d = some (.dK kvs) ∧ Paired (EntAt (fun _ => True) H) kvs T
  srt : SrtOf ls ls'
  tab : Tab Srt ls' T
theorem KAt.kin {N : Addr → Prop} {C : Addr} {H : Hp} {x : Addr} {ls : List Ln} (h : KAt N C H x ls) : ∃ ls' T, KIn C H x ls ls' T := by
  obtain ⟨_, dx, r, d, ls', T, rs, hx, _, hr, pr, so, ⟨_, kvs, hd, pk⟩, tab⟩ := h
  exact ⟨ls', T, ⟨dx, r, d, rs, kvs, hx, hr, paired_imp (fun _ _ ⟨t, b, e, _, _, h1, h2⟩ => ⟨t, b, e, trivial, trivial, h1, h2⟩) pr, hd, paired_imp (fun _ _ ⟨a, q, _, c, z⟩ => ⟨a, q, trivial, c, z⟩) pk⟩, so, tab⟩
theorem KIn.same {C : Addr} {H H' : Hp} {x : Addr} {ls ls' : List Ln} {T : Tb} (h : KIn C H x ls ls' T) (s : Same H H') : KIn C H' x ls ls' T := by
  obtain ⟨⟨dx, r, d, rs, kvs, hx, hr, pr, hd, pk⟩, so, tab⟩ := h
  exact ⟨⟨dx, r, d, rs, kvs, s _ _ hx, s _ _ hr, paired_imp (fun _ _ ⟨t, b, e, _, _, h1, h2⟩ => ⟨t, b, e, trivial, trivial, s _ _ h1, s _ _ h2⟩) pr, s _ _ hd, paired_imp (fun _ _ ⟨a, q, _, c, z⟩ => ⟨a, q, trivial, c, s _ _ z⟩) pk⟩, so, tab⟩
theorem srt_len {ls ls' : List Ln} (h : SrtOf ls ls') : ls.length = ls'.length := paired_len h
def spOrder (C : Addr) : Sp := fun vs H Q _ => ∃ x ls ls' T, vs = [.ref x] ∧ KIn C H x ls ls' T ∧ ls.length ≤ 1000 ∧ ∀ H' p, Same H H' → H p = none → H' p = some (.lst ((nms ls).map V.str)) → Q (.ref p) H'
def spLen (C : Addr) : Sp := fun vs H Q _ => ∃ x ls ls' T, vs = [.ref x] ∧ KIn C H x ls ls' T ∧ Q (.int ls.length) H
def spIn (C : Addr) (K : PySem.W.Frag) : Sp := fun vs H Q _ => ∃ x v ls ls' T, vs = [.ref x, v] ∧ KIn C H x ls ls' T ∧ ((∃ z, v = .str z ∧ Q (.bl (decide (z ∈ nms ls))) H) ∨ (∃ t, TyX K H v t ∧ PySem.W.kitOne K t (.type "str") = some false ∧ Q (.bl false) H))
theorem ent_has {N : Addr → Prop} {H : Hp} {n : Str} {kvs : List (Key × V)} {T : Tb} (p : Paired (EntAt N H) kvs T) : (valV kvs (Sum.inr n)).isSome = decide (n ∈ T.map (·.1)) := by
  by_cases h : n ∈ T.map (·.1)
  · obtain ⟨q, _, e, _⟩ := ent_get p (look_in h)
    rw [e, decide_eq_true h]
    rfl
  · rw [ent_none p h, decide_eq_false h]
    rfl
theorem KIn.names {C : Addr} {H : Hp} {x : Addr} {ls ls' : List Ln} {T : Tb} (h : KIn C H x ls ls' T) : T.map (·.1) = nms ls := by
  rw [h.tab.nms, ← h.srt.alike.nms]
section
variable {P : Program} {w : World} {K : PySem.W.Frag} {mg : Str → Option Value} {base : Heap}
theorem scOrder : FnScope ["self", "name", "_"] ["self"] (defScope sOrder) := ⟨rfl, rfl, rfl, by decide +kernel, rfl, by decide +kernel, by decide +kernel⟩
theorem ok_order {C f : Addr} {fd : FuncData} (F : Fun K "order" "Kinds.order" sOrder f fd) (T : KTxt K mg C) : FnOk P w K mg base CX0 1 f fd ["self"] (spOrder C) := by
  refine F.ok scOrder (fun vs H Q E h => ?_) (fun cdv A outer s H vs Q E hr h => ?_)
  · obtain ⟨x, ls, ls', TT, rfl, _⟩ := h
    rfl
  · obtain ⟨x, ls, ls', TT, rfl, ⟨⟨dx, r, d, rs, kvs, hx, hR, pr, hd, pk⟩, so, tab⟩, hl, k⟩ := h
    refine ⟨_, pss_one (ps_ret (pe_lc (own := [("name", 1), ("_", 2)]) (g := gTup K 2 (gCons (gName 1) (gCons (gName 2) gNil))) (tt := tYes) rfl scOrder.nd (pi_list (pe_fld (pv 0) rfl)) (blkOk_by (N := ["self", "name", "_"]) (sc := defScope sOrder) (by decide +kernel))
      (fun _ _ _ _ _ => pg_tup rfl (pgs_cons (pg_name (i := 1) scOrder.nd rfl (Or.inl rfl)) (pgs_cons (pg_name (i := 2) scOrder.nd rfl (Or.inl rfl)) pgs_nil))) (fun _ _ _ _ _ => pts_nil) (fun _ _ _ _ _ => pv 1))), ?_⟩
    have len := paired_len pr
    have len2 := srt_len so
    refine ⟨_, rfl, x, C, dx, _, _, rfl, hx, T.cl, T.nR, kf_rows _ _, r, rfl, ⟨_, SqL.of hR⟩, fun D nD => lc_list (K := K) (a := r) (xs := rs) (fun i H' => Same H H' ∧ H' D = some (.lst ((nms (ls'.take i)).map V.str))) ⟨same_upd nD, upd_same⟩ (fun i H' hi p => SqL.of (p.1 _ _ hR)) ?_ ?_⟩
    · rintro i v H' hv ⟨sm, hD⟩
      obtain ⟨l, hl2, t, b, rfl, _, _, ht, hb⟩ := paired_at pr hv
      have hi : i < ls'.length := (List.getElem?_eq_some_iff.mp hl2).1
      refine ⟨t, _, rfl, SqT.of (sm _ _ ht), rfl, _, _, rfl, _, _, rfl, rfl, rfl, _, rfl, _, hD, ?_, ?_, ?_⟩
      · rw [List.length_map, List.length_map, List.length_take]
        exact small1000 (by omega)
      · exact same_past nD sm
      · show upd H' D _ D = _
        rw [upd_same, show nms (ls'.take (i + 1)) = nms (ls'.take i) ++ [l.1] from take_succ_map hl2, List.map_append]
        rfl
    · rintro H' ⟨sm, hD⟩
      rw [len, List.take_of_length_le (Nat.le_refl _), ← so.alike.nms] at hD
      exact k _ D sm nD hD
theorem scLen : FnScope ["self"] ["self"] (defScope sLen) := ⟨rfl, rfl, rfl, by decide +kernel, rfl, by decide +kernel, by decide +kernel⟩
theorem ok_len {C f : Addr} {fd : FuncData} (F : Fun K "__len__" "Kinds.__len__" sLen f fd) (T : KTxt K mg C) : FnOk P w K mg base CX0 1 f fd ["self"] (spLen C) := by
  refine F.ok scLen (fun vs H Q E h => ?_) (fun cdv A outer s H vs Q E hr h => ?_)
  · obtain ⟨x, ls, ls', TT, rfl, _⟩ := h
    rfl
  · obtain ⟨x, ls, ls', TT, rfl, ⟨⟨dx, r, d, rs, kvs, hx, hR, pr, hd, pk⟩, so, tab⟩, k⟩ := h
    refine ⟨_, pss_one (ps_ret (pe_callB call_len_seq (by rfl) T.len PySem.boot_len (pa_cons (pe_fld (pv 0) rfl) pa_nil))), ?_⟩
    refine ⟨_, rfl, x, C, dx, _, _, rfl, hx, T.cl, T.nR, kf_rows _ _, r, _, rfl, .inl (SqL.of hR), ?_⟩
    rw [paired_len pr, ← srt_len so]
    exact k
theorem scIn : FnScope ["self", "x"] ["self", "x"] (defScope sIn) := ⟨rfl, rfl, rfl, by decide +kernel, rfl, by decide +kernel, by decide +kernel⟩
theorem ok_in {C f : Addr} {fd : FuncData} (F : Fun K "__contains__" "Kinds.__contains__" sIn f fd) (T : KTxt K mg C) (mi : mg "isinstance" = none) (ms : mg "str" = none) : FnOk P w K mg base CX0 1 f fd ["self", "x"] (spIn C K) := by
  refine F.ok scIn (fun vs H Q E h => ?_) (fun cdv A outer s H vs Q E hr h => ?_)
  · obtain ⟨x, v, ls, ls', TT, rfl, _⟩ := h
    rfl
  · obtain ⟨x, v, ls, ls', TT, rfl, kin, k⟩ := h
    have en := kin.names
    obtain ⟨⟨dx, r, d, rs, kvs, hx, hR, pr, hd, pk⟩, so, tab⟩ := kin
    have hu := hu_of hr
    refine ⟨_, pss_one (ps_ret (pe_and (pe_callB call_isi (by rfl) mi (by decide +kernel) (pa_cons (pv 1) (pa_cons (pe_bltn (v := .ty "str") (u := .type "str") (by rfl) ms (by decide +kernel) rfl) pa_nil)))
      (pe_one (pe_cmp (pc_din hu (pv 1) (pe_fld (pv 0) rfl)) rfl)))), ?_⟩
    rcases k with ⟨z, rfl, k⟩ | ⟨t, ty, kt, k⟩
    · refine ⟨_, rfl, _, _, _, _, true, rfl, .ty "str", .base (.str z), kit_ty (by decide +kernel), true, rfl, iteT ?_⟩
      refine ⟨_, rfl, _, rfl, x, C, dx, _, _, rfl, hx, T.cl, T.nA, kf_above _ _, d, _, rfl, DGet.k (k := Sum.inr z) hd, ?_⟩
      rw [ent_has pk, en]
      exact k
    · exact ⟨_, rfl, _, _, _, _, false, rfl, .ty "str", ty, kt, false, rfl, iteF k⟩
end
end K1

namespace K1
open PySem PySem.Spec PyProof.Rows L2 Own
def spBelow (C : Addr) : Sp := fun vs H Q _ => ∃ x n ls ls' T, vs = [.ref x, .str n] ∧ KIn C H x ls ls' T ∧ LnsOk ls ∧ n ∈ nms ls ∧ ∀ H' p ys, Same H H' → ys.Perm ((nms ls).filter fun m => decide (n ∈ look T m)) → Srt ys → H p = none → H' p = some (.lst (ys.map V.str)) → Q (.ref p) H'
def spAbove (C : Addr) : Sp := fun vs H Q _ => ∃ x n ls ls' T, vs = [.ref x, .str n] ∧ KIn C H x ls ls' T ∧ n ∈ nms ls ∧ ∀ H' p, Same H H' → H p = none → H' p = some (.lst ((look T n).map V.str)) → Q (.ref p) H'
def spEq (C : Addr) : Sp := fun vs H Q _ => ∃ x y l1 l2 l' T T', vs = [.ref x, .ref y] ∧ KIn C H x l1 l' T ∧ KIn C H y l2 l' T' ∧ LnsOk l1 ∧ Q (.bl true) H
structure Ord (K : PySem.W.Frag) (mg : Str → Option Value) (C : Addr) (p g : Addr) : Prop where
  of : PropOf K C "order" p g
theorem filter_len (f : Str → Bool) (xs : List Str) : (xs.filter f).length ≤ xs.length := List.length_filter_le f xs
section
variable {P : Program} {w : World} {K : PySem.W.Frag} {mg : Str → Option Value} {base : Heap}
theorem scBelow : FnScope ["self", "name", "kind"] ["self", "name"] (defScope sBelow) := ⟨rfl, rfl, rfl, by decide +kernel, rfl, by decide +kernel, by decide +kernel⟩
theorem ok_below {C f fI p fO : Addr} {fd dI dO : FuncData} (F : Fun K "below" "Kinds.below" sBelow f fd) (T : KTxt K mg C) (cI : Spc K C "__contains__" fI) (GI : FnOk P w K mg base CX0 1 fI dI ["self", "x"] (spIn C K)) (bI : Binds K dI ["self", "x"] [])
    (po : PropOf K C "order" p fO) (GO : FnOk P w K mg base CX0 1 fO dO ["self"] (spOrder C)) (bO : Binds K dO ["self"] []) : FnOk P w K mg base CX0 3 f fd ["self", "name"] (spBelow C) := by
  refine F.ok scBelow (fun vs H Q E h => ?_) (fun cdv A outer s H vs Q E hr h => ?_)
  · obtain ⟨x, n, ls, ls', TT, rfl, _⟩ := h
    rfl
  · obtain ⟨x, n, ls, ls', TT, rfl, kin, ok, hn, k⟩ := h
    have hu := hu_of hr
    have en := kin.names
    have few := ok.few
    obtain ⟨dx, r, d, rs, kvs, hx, hR, pr, hd, pk⟩ := kin.ex
    refine ⟨_, pss_cons (ps_if (pt_cmpR (op_notInO cI GI (hr.mono (by decide)) bI) (pv 1) (pv 0) (by rfl)) (pss_one ps_never) pss_nil)
      (pss_one (ps_ret (pe_callB cr_sortedQ (by rfl) T.sorted (by decide +kernel) (pa_cons (pe_lc (own := [("kind", 2)]) (g := gName 2) (tt := tTest (tOp (rIn K false) (tVar 1) (tDGet (tFld K (tVar 0) "_above") (tVar 2)))) rfl scBelow.nd (pi_list (pe_prop (pv 0) T.cl po GO hr bO .nil pass0 rfl)) (blkOk_by (N := ["self", "name", "kind"]) (sc := defScope sBelow) (by decide +kernel))
        (fun _ _ _ _ _ => pg_name (i := 2) scBelow.nd rfl (Or.inl rfl)) (fun _ _ _ _ _ => pts_one (pt_cmpR op_in_seq (pv 1) (pe_dget hu (pe_fld (pv 0) rfl) (pv 2) (fun _ _ => rfl)) (by rfl))) (fun _ _ _ _ _ => pv 2)) pa_nil)))), ?_⟩
    refine ⟨_, rfl, _, rfl, x, dx, _, rfl, hx, x, _, ls, ls', TT, rfl, kin, .inl ⟨n, rfl, _, rfl, _, rfl, iteNS hn ?_⟩⟩
    refine ⟨_, rfl, x, dx, _, rfl, hx, x, ls, ls', TT, rfl, kin, (by omega), fun H1 o s1 no ho => ⟨o, rfl, ⟨_, SqL.of ho⟩, fun D nD => ?_⟩⟩
    refine lc_list (K := K) (a := o) (xs := (nms ls).map V.str) (fun i H' => Same H1 H' ∧ H' D = some (.lst ((((nms ls).take i).filter fun m => decide (n ∈ look TT m)).map V.str))) ⟨same_upd nD, upd_same⟩ (fun i H' hi p => SqL.of (p.1 _ _ ho)) ?_ ?_
    · rintro i v H' hv ⟨sm, hD⟩
      rw [List.getElem?_map] at hv
      obtain ⟨m, hm, rfl⟩ := Option.map_eq_some_iff.mp hv
      have sH : Same H H' := s1.trans sm
      have mT : m ∈ TT.map (·.1) := by
        rw [en]
        exact List.mem_of_getElem? hm
      obtain ⟨q, _, eq, hq⟩ := ent_get pk (look_in mT)
      have g : DGet H' d (.str m) (some (.ref q)) := by
        rw [← eq]
        exact DGet.k (k := Sum.inr m) (sH _ _ hd)
      refine ⟨rfl, _, rfl, _, rfl, x, C, dx, _, _, rfl, sH _ _ hx, T.cl, T.nA, kf_above _ _, _, rfl, d, _, rfl, g, q, _, rfl, .inl (SqL.of (sH _ _ hq)), rfl, flat_strs _, _, rfl, ?_⟩
      rw [show (if false = true then !inV (V.str n) ((look TT m).map V.str) else inV (V.str n) ((look TT m).map V.str)) = decide (n ∈ look TT m) from by
        rw [if_neg Bool.false_ne_true, inV_str]]
      have tk : (((nms ls).take (i + 1)).filter fun m => decide (n ∈ look TT m)) = (((nms ls).take i).filter fun m => decide (n ∈ look TT m)) ++ [m].filter fun m => decide (n ∈ look TT m) := by
        rw [List.take_add_one, hm, List.filter_append]
        rfl
      refine ite2 (fun c => ?_) (fun c => ?_)
      · refine ⟨_, rfl, _, hD, ?_, same_past nD sm, ?_⟩
        · have a := filter_len (fun m => decide (n ∈ look TT m)) ((nms ls).take i)
          rw [List.length_take, List.length_map] at a
          rw [List.length_map]
          exact small1000 (by omega)
        · show upd H' D _ D = _
          rw [upd_same, tk, List.filter_cons, if_pos c, List.map_append]
          rfl
      · refine ⟨sm, ?_⟩
        rw [tk, List.filter_cons, if_neg c, List.filter_nil, List.append_nil]
        exact hD
    · rintro H' ⟨sm, hD⟩
      rw [List.length_map, List.take_of_length_le (Nat.le_refl _)] at hD
      have a := filter_len (fun m => decide (n ∈ look TT m)) (nms ls)
      rw [List.length_map] at a
      refine ⟨D, _, rfl, .inl hD, (by omega), fun ys p pe so np => ?_⟩
      exact k _ p ys ((s1.trans sm).trans (same_upd np)) pe so ((s1.trans sm).free np) upd_same
theorem scAbove : FnScope ["self", "name"] ["self", "name"] (defScope sAbove) := ⟨rfl, rfl, rfl, by decide +kernel, rfl, by decide +kernel, by decide +kernel⟩
theorem ok_above {C f fI : Addr} {fd dI : FuncData} (F : Fun K "above" "Kinds.above" sAbove f fd) (T : KTxt K mg C) (cI : Spc K C "__contains__" fI) (GI : FnOk P w K mg base CX0 1 fI dI ["self", "x"] (spIn C K)) (bI : Binds K dI ["self", "x"] []) : FnOk P w K mg base CX0 3 f fd ["self", "name"] (spAbove C) := by
  refine F.ok scAbove (fun vs H Q E h => ?_) (fun cdv A outer s H vs Q E hr h => ?_)
  · obtain ⟨x, n, ls, ls', TT, rfl, _⟩ := h
    rfl
  · obtain ⟨x, n, ls, ls', TT, rfl, kin, hn, k⟩ := h
    have hu := hu_of hr
    have en := kin.names
    obtain ⟨dx, r, d, rs, kvs, hx, hR, pr, hd, pk⟩ := kin.ex
    refine ⟨_, pss_cons (ps_if (pt_cmpR (op_notInO cI GI (hr.mono (by decide)) bI) (pv 1) (pv 0) (by rfl)) (pss_one ps_never) pss_nil)
      (pss_one (ps_ret (pe_callTy call_list_of (by rfl) T.list (by decide +kernel) (pa_cons (pe_dget hu (pe_fld (pv 0) rfl) (pv 1) (fun _ _ => rfl)) pa_nil)))), ?_⟩
    refine ⟨_, rfl, _, rfl, x, dx, _, rfl, hx, x, _, ls, ls', TT, rfl, kin, .inl ⟨n, rfl, _, rfl, _, rfl, iteNS hn ?_⟩⟩
    have nT : n ∈ TT.map (·.1) := by rw [en]; exact hn
    obtain ⟨q, _, eq, hq⟩ := ent_get pk (look_in nT)
    have g : DGet H d (.str n) (some (.ref q)) := by
      rw [← eq]
      exact DGet.k (k := Sum.inr n) hd
    refine ⟨_, rfl, x, C, dx, _, _, rfl, hx, T.cl, T.nA, kf_above _ _, _, rfl, d, _, rfl, g, q, _, rfl, .inl (SqL.of hq), fun l nl => ?_⟩
    exact k _ l (same_upd nl) nl upd_same
end
end K1

namespace K1
open PySem PySem.Spec PyProof.Rows L2 Own
theorem join_le (sep : Str) : ∀ ys : List Str, (Str.join sep ys).length ≤ (ys.map (·.length)).sum + ys.length * sep.length
  | [] => Nat.zero_le _
  | [y] => by
    show y.length ≤ (y.length + 0) + 1 * sep.length
    omega
  | y :: z :: r => by
    have ih := join_le sep (z :: r)
    show (y ++ sep ++ Str.join sep (z :: r)).length ≤ _
    rw [Str.length_append, Str.length_append, List.map_cons, List.sum_cons, List.length_cons, Nat.succ_mul]
    omega
theorem txt_join (sep : Str) (ys : List Str) : Txt.join sep ys = Str.join sep ys := PySem.StrLaws.glued_eq_join sep ys
theorem names_sum : ∀ ns : List Str, (∀ n ∈ ns, n.length ≤ 8) → (ns.map (·.length)).sum ≤ 8 * ns.length
  | [], _ => Nat.le_refl _
  | n :: r, h => by
    have ih := names_sum r fun m hm => h m (List.mem_cons_of_mem _ hm)
    have h0 := h n (List.mem_cons_self ..)
    rw [List.map_cons, List.sum_cons, List.length_cons]
    omega
theorem LnsOk.short {ls : List Ln} (ok : LnsOk ls) : ∀ n ∈ nms ls, n.length ≤ 8 := fun n hn => by
  obtain ⟨l, hl, e⟩ := List.mem_map.mp hn
  rw [← e]
  exact (ok.names l hl).2.1
theorem join_fits {ls : List Ln} (ok : LnsOk ls) : ((nms ls).map (·.length)).sum + (nms ls).length * (", " : Str).length ≤ 1000 ∧ (Txt.join ", " (nms ls)).length ≤ 1000 := by
  have a := names_sum (nms ls) ok.short
  have b := join_le ", " (nms ls)
  have c := ok.few
  have d : (nms ls).length = ls.length := List.length_map _
  have e : (", " : Str).length = 2 := by decide +kernel
  rw [txt_join]
  rw [e] at b ⊢
  omega
def spRepr (C : Addr) : Sp := fun vs H Q _ => ∃ x ls ls' T, vs = [.ref x] ∧ KIn C H x ls ls' T ∧ LnsOk ls ∧ ∀ H', Same H H' → Q (.str (reprOf (nms ls))) H'
/-- rows as data -/
def rowD (l : Ln) : PyData := .tuple [.str l.1, .list (l.2.map .str)]
def rowsD (ls : List Ln) : PyData := .list (ls.map rowD)
def strsD (ss : List Str) : PyData := .list (ss.map .str)
def Low (z : Str) : Prop := PyData.strOk z = true
theorem strs_lay : ∀ ss : List Str, (∀ s ∈ ss, Low s) → PyData.canLayAll0 (ss.map .str) = true ∧ PyData.depthAll (ss.map .str) = 0
  | [], _ => ⟨rfl, rfl⟩
  | s :: r, h => by
    obtain ⟨a, b⟩ := strs_lay r fun x hx => h x (List.mem_cons_of_mem _ hx)
    have h0 : PyData.strOk s = true := h s (List.mem_cons_self ..)
    constructor
    · show (PyData.canLay0 (.str s) && PyData.canLayAll0 (r.map .str)) = true
      rw [a]
      show (PyData.strOk s && true) = true
      rw [h0]
      rfl
    · show max (PyData.depth (.str s)) (PyData.depthAll (r.map .str)) = 0
      rw [b]
      rfl
theorem strs_shaped {ss : List Str} (h : ∀ s ∈ ss, Low s) : SeqAt.shaped (strsD ss) = true := by
  obtain ⟨a, b⟩ := strs_lay ss h
  show (PyData.canLayAll0 (ss.map .str) && decide (PyData.depthAll (ss.map .str) + 1 ≤ 64)) = true
  rw [a, b]
  rfl
theorem rows_lay : ∀ ls : List Ln, (∀ l ∈ ls, Low l.1 ∧ ∀ s ∈ l.2, Low s) → PyData.canLayAll0 (ls.map rowD) = true ∧ PyData.depthAll (ls.map rowD) ≤ 2
  | [], _ => ⟨rfl, Nat.zero_le _⟩
  | l :: r, h => by
    obtain ⟨a, b⟩ := rows_lay r fun x hx => h x (List.mem_cons_of_mem _ hx)
    obtain ⟨h1, h2⟩ := h l (List.mem_cons_self ..)
    obtain ⟨c, d⟩ := strs_lay l.2 h2
    constructor
    · show (PyData.canLay0 (rowD l) && PyData.canLayAll0 (r.map rowD)) = true
      rw [a]
      show ((PyData.strOk l.1 && (PyData.canLayAll0 (l.2.map .str) && true)) && true) = true
      rw [c, show PyData.strOk l.1 = true from h1]
      rfl
    · show max (max 0 (max (PyData.depthAll (l.2.map .str) + 1) 0) + 1) (PyData.depthAll (r.map rowD)) ≤ 2
      rw [d]
      omega
theorem rows_shaped {ls : List Ln} (h : ∀ l ∈ ls, Low l.1 ∧ ∀ s ∈ l.2, Low s) : SeqAt.shaped (rowsD ls) = true := by
  obtain ⟨a, b⟩ := rows_lay ls h
  show (PyData.canLayAll0 (ls.map rowD) && decide (PyData.depthAll (ls.map rowD) + 1 ≤ 64)) = true
  rw [a, decide_eq_true (by omega)]
  rfl
theorem name_low {z : Str} (h : NameOk z) : Low z := by
  show z.cps.all (· < 0x110000) = true
  rw [← Array.all_toList, List.all_eq_true]
  intro c hc
  have := h.2.2 c hc
  exact decide_eq_true (by omega)
theorem LnsOk.low {ls : List Ln} (ok : LnsOk ls) : ∀ n ∈ nms ls, Low n := fun n hn => by
  obtain ⟨l, hl, e⟩ := List.mem_map.mp hn
  rw [← e]
  exact name_low (ok.names l hl)
theorem LnsOk.lows {ls : List Ln} (ok : LnsOk ls) : ∀ l ∈ ls, Low l.1 ∧ ∀ s ∈ l.2, Low s := fun l hl => by
  refine ⟨name_low (ok.names l hl), fun s hs => ?_⟩
  obtain ⟨i, hi⟩ := List.mem_iff_getElem?.mp hl
  have q := (ok.base i l hi).2.1 s hs
  obtain ⟨k, hk, e⟩ := List.mem_map.mp q
  exact ok.low s (List.mem_map.mpr ⟨k, List.mem_of_mem_take hk, e⟩)
theorem strs_dp {K : PySem.W.Frag} {H : Hp} : ∀ ss : List Str, DpAll K H (ss.map V.str) (ss.map PyData.str)
  | [] => .nil
  | s :: r => .cons (.str s) (strs_dp r)
theorem rows_dp {K : PySem.W.Frag} {N : Addr → Prop} {H : Hp} : ∀ {rs : List V} {ls : List Ln}, Paired (RowIn N H) rs ls → DpAll K H rs (ls.map rowD)
  | _, _, .nil => .nil
  | _, l :: _, .cons ⟨t, b, e, _, _, h1, h2⟩ r => .cons (by rw [e]; exact .tup (SqT.of h1) (.cons (.str _) (.cons (.lst (SqL.of h2) (strs_dp _)) .nil))) (rows_dp r)
section
variable {P : Program} {w : World} {K : PySem.W.Frag} {mg : Str → Option Value} {base : Heap}
theorem scRepr : FnScope ["self"] ["self"] (defScope sRepr) := ⟨rfl, rfl, rfl, by decide +kernel, rfl, by decide +kernel, by decide +kernel⟩
theorem ok_repr {C f p fO : Addr} {fd dO : FuncData} (F : Fun K "__repr__" "Kinds.__repr__" sRepr f fd) (T : KTxt K mg C) (po : PropOf K C "order" p fO) (GO : FnOk P w K mg base CX0 1 fO dO ["self"] (spOrder C)) (bO : Binds K dO ["self"] []) : FnOk P w K mg base CX0 3 f fd ["self"] (spRepr C) := by
  refine F.ok scRepr (fun vs H Q E h => ?_) (fun cdv A outer s H vs Q E hr h => ?_)
  · obtain ⟨x, ls, ls', TT, rfl, _⟩ := h
    rfl
  · obtain ⟨x, ls, ls', TT, rfl, kin, ok, k⟩ := h
    obtain ⟨dx, r, d, rs, kvs, hx, hR, pr, hd, pk⟩ := kin.ex
    obtain ⟨f1, f2⟩ := join_fits ok
    have few := ok.few
    have l6 : ("Kinds(" : Str).length = 6 := by decide +kernel
    have l1 : (")" : Str).length = 1 := by decide +kernel
    refine ⟨_, pss_one (ps_ret (pe_joined (PJ.cons pe_str (PJ.cons (pe_fmt (pe_join pe_str (pe_prop (pv 0) T.cl po GO hr bO .nil pass0 rfl))) (PJ.cons pe_str PJ.nil))))), ?_⟩
    refine ⟨_, rfl, ?_, ⟨_, rfl⟩, _, rfl, x, dx, _, rfl, hx, x, ls, ls', TT, rfl, kin, (by omega), fun H1 o s1 no ho => ⟨_, o, nms ls, rfl, rfl, .inl (SqL.of ho), (by omega), ?_⟩⟩
    · rw [Str.empty_append, l6]
      decide
    · refine .inl ⟨_, rfl, small1000 f2 |> Nat.le_of_lt, _, rfl, ?_, _, rfl, ?_, ?_⟩
      · rw [Str.empty_append, Str.length_append, l6]
        exact Nat.le_of_lt (Nat.lt_of_le_of_lt (show _ ≤ 1006 by omega) (by decide))
      · rw [Str.empty_append, Str.length_append, Str.length_append, l6, l1]
        exact Nat.le_of_lt (Nat.lt_of_le_of_lt (show _ ≤ 1007 by omega) (by decide))
      · rw [Str.empty_append]
        exact k _ s1
theorem scEq : FnScope ["self", "other"] ["self", "other"] (defScope sEq) := ⟨rfl, rfl, rfl, by decide +kernel, rfl, by decide +kernel, by decide +kernel⟩
theorem ok_eq {C f : Addr} {fd : FuncData} (F : Fun K "__eq__" "Kinds.__eq__" sEq f fd) (T : KTxt K mg C) (ic : C8.InsC K C) (mi : mg "isinstance" = none) : FnOk P w K mg base CX0 1 f fd ["self", "other"] (spEq C) := by
  refine F.ok scEq (fun vs H Q E h => ?_) (fun cdv A outer s H vs Q E hr h => ?_)
  · obtain ⟨x, y, l1, l2, l', TT, T', rfl, _⟩ := h
    rfl
  · obtain ⟨x, y, l1, l2, l', TT, T', rfl, kx, ky, ok, k⟩ := h
    have ok' := kx.srt.ok ok
    obtain ⟨dx, r, d, rs, kvs, hx, hR, pr, hd, pk⟩ := kx.ex
    obtain ⟨dy, r2, d2, rs2, kvs2, hy, hR2, pr2, hd2, pk2⟩ := ky.ex
    refine ⟨_, pss_one (ps_ret (pe_and (pe_callB (C8.call_isC ic) (by rfl) mi (by decide +kernel) (pa_cons (pv 1) (pa_cons (pe_glob (v := .ref C) (by rfl) T.mgC rfl) pa_nil)))
      (pe_one (pe_cmpR (op_eqD hr.units) (pe_fld (pv 0) rfl) (pe_fld (pv 1) rfl) (nomark _))))), ?_⟩
    refine ⟨_, rfl, y, dy, _, rfl, hy, true, rfl, iteT ?_⟩
    refine ⟨_, rfl, x, C, dx, _, _, rfl, hx, T.cl, T.nR, kf_rows _ _, _, rfl, y, C, dy, _, _, rfl, hy, T.cl, T.nR, kf_rows _ _, rowsD l', rowsD l', .lst (SqL.of hR) (rows_dp pr), .lst (SqL.of hR2) (rows_dp pr2), rows_shaped ok'.lows, rows_shaped ok'.lows, ?_⟩
    rw [SeqAt.eqv_refl _ (SeqAt.canLay_of_shaped (rows_shaped ok'.lows))]
    exact k
end
end K1

namespace K1
open PySem PySem.Spec PyProof.Rows L2
/-- source: from the script and a place, a new source -/
def spSource (K : PySem.W.Frag) : Sp := fun vs H Q _ => ∃ (a : Addr) (ns : List Int) (k : Int), vs = [.ref a, .int k] ∧ SqL K H a (ns.map V.int) ∧ ns.length ≤ 63 ∧ 0 ≤ k ∧ ∀ (p : Addr) (H' : Hp), Same H H' → H p = none → Src H' p → Q (.ref p) H'
theorem big60 : ((10 : Int) ^ (60 : Int).toNat).natAbs < 2 ^ 200 := by decide
theorem big120 : ((10 : Int) ^ (60 : Int).toNat * (10 : Int) ^ (60 : Int).toNat).natAbs < 2 ^ 400 := by decide
theorem bigpos : (10 : Int) ^ (60 : Int).toNat * (10 : Int) ^ (60 : Int).toNat * (10 : Int) ^ (60 : Int).toNat ≠ 0 := by decide
theorem bigpos' : (0 : Int) < (10 : Int) ^ (60 : Int).toNat * (10 : Int) ^ (60 : Int).toNat * (10 : Int) ^ (60 : Int).toNat := by decide
theorem int_at {ns : List Int} {k : Int} (h0 : 0 ≤ k) (h : k < (ns.length : Int)) : ∃ v : Int, atI (ns.map V.int) k = some (.int v) := by
  have hk : k.toNat < ns.length := by omega
  have ek : k = ((k.toNat : Nat) : Int) := by omega
  have q : atI (ns.map V.int) ((k.toNat : Nat) : Int) = some (.int ns[k.toNat]) := atI_nat (by rw [List.getElem?_map, List.getElem?_eq_getElem hk] <;> rfl)
  rw [← ek] at q
  exact ⟨_, q⟩
section
variable {P : Program} {w : World} {K : PySem.W.Frag} {mg : Str → Option Value} {base : Heap}
theorem scSource : FnScope ["script", "at", "cell", "mix", "k"] ["script", "at"] (defScope sSource) := ⟨rfl, rfl, rfl, by decide +kernel, rfl, by decide +kernel, by decide +kernel⟩
theorem ok_source {f : Addr} {fd : FuncData} (F : Fun K "_law_source" "_law_source" sSource f fd) (ml : mg "len" = none) (ma : mg "abs" = none) (mr : mg "range" = none) (mm : mg "min" = none) : FnOk P w K mg base CX0 1 f fd ["script", "at"] (spSource K) := by
  refine F.ok scSource (fun vs H Q E h => ?_) (fun cdv A outer s H vs Q E hr h => ?_)
  · obtain ⟨a, ns, k, rfl, _⟩ := h
    rfl
  · obtain ⟨a, ns, k, rfl, hS, h63, k0, q⟩ := h
    have hl : (ns.map V.int).length = ns.length := List.length_map _
    refine ⟨_, pss_cons (ps_set (i := 2) scSource.nd rfl (Or.inl rfl) pe_int)
      (C8.pss_cut (ps_if (pt_cmpR op_lt (pv 1) (pe_callB call_len_seq (by rfl) ml PySem.boot_len (pa_cons (pv 0) pa_nil)) (nomark _))
        (pss_one (ps_set (i := 2) scSource.nd rfl (Or.inl rfl) (pe_op op_modN (pe_callB call_abs (by rfl) ma (by decide +kernel) (pa_cons (pe_ix ix_list (pv 0) (pv 1) (fun _ _ => rfl)) pa_nil))
          (pe_op op_mulW (pe_op op_mulW (pe_op op_pow pe_int pe_int) (pe_op op_pow pe_int pe_int)) (pe_op op_pow pe_int pe_int))))) pss_nil)
      (pss_cons (ps_if (pt_cmpR op_ge (pv 2) (pe_op op_pow pe_int pe_int) (nomark _)) (pss_one (ps_ret (pe_lst (pa_cons (pv 2) (pa_cons pe_int pa_nil))))) pss_nil)
      (pss_cons (ps_set (i := 3) scSource.nd rfl (Or.inl rfl) (pe_op op_mod (pe_op op_add (pe_op op_add (pv 2) (pe_op op_mul pe_int (pv 1))) pe_int) pe_int))
      (pss_cons (ps_for PassesOwn.never rfl (pi_range1 (by rfl) mr (pa_cons (pe_callB (call_min2 rfl) (by rfl) mm (by decide +kernel) (pa_cons (pe_callB call_len_seq (by rfl) ml PySem.boot_len (pa_cons (pv 0) pa_nil)) (pa_cons pe_int pa_nil))) pa_nil)) (pg_name (i := 4) scSource.nd rfl (Or.inl rfl))
        (pss_one (ps_set (i := 3) scSource.nd rfl (Or.inl rfl) (pe_op op_mod (pe_op op_add (pe_op op_add (pe_op op_pow (pv 3) pe_int) (pe_op op_mod (pe_ix ix_list (pv 0) (pv 4) (fun _ _ => rfl)) pe_int)) (pe_op op_mul pe_int (pv 4))) pe_int))))
      (pss_one (ps_ret (pe_lst (pa_cons (pv 3) (pa_cons pe_int pa_nil))))))))), ?_⟩
    refine ⟨fun σ H1 => H1 = H ∧ ∃ c : Int, 0 ≤ c ∧ σ = [some (.ref a), some (.int k), some (.int c), none, none], ?_, ?_⟩
    · refine ⟨_, rfl, _, rfl, a, _, rfl, .inl hS, _, _, rfl, rfl, _, rfl, ite2 (fun e => ?_) (fun e => ?_)⟩
      · have e1 : k < (((ns.map V.int).length : Nat) : Int) := of_decide_eq_true e
        rw [hl] at e1
        obtain ⟨v, hv⟩ := int_at (ns := ns) k0 e1
        refine ⟨_, rfl, _, rfl, a, _, _, _, rfl, rfl, hS, hv, _, rfl, _, _, rfl, rfl, ⟨by decide, by decide, by decide⟩, _, _, rfl, rfl, ⟨by decide, by decide, by decide⟩, _, _, rfl, rfl, wide_mul big60 big60 (by decide) (by decide) (by decide), ?_⟩
        refine ⟨_, _, rfl, rfl, ⟨by decide, by decide, by decide⟩, _, _, rfl, rfl, wide_mul big120 big60 (by decide) (by decide) (by decide), _, _, rfl, rfl, bigpos, ?_⟩
        exact ⟨rfl, _, (fmod_pos bigpos').1, rfl⟩
      · exact ⟨rfl, 0, by decide, rfl⟩
    rintro σ H1 ⟨rfl, c, c0, rfl⟩
    refine ⟨_, rfl, _, _, rfl, rfl, ⟨by decide, by decide, by decide⟩, _, _, rfl, rfl, _, rfl, ite2 (fun e => ?_) (fun e => ?_)⟩
    · refine ⟨_, rfl, (by show 2 ≤ sizeLine; decide), fun p np => ?_⟩
      exact q p _ (same_upd np) np ⟨c, 0, upd_same, .inl ⟨rfl, c0⟩⟩
    · refine ⟨_, rfl, _, rfl, _, _, rfl, rfl, .inl ⟨by decide, by decide⟩, _, _, rfl, rfl, _, _, rfl, rfl, _, _, rfl, rfl, (by decide : (0 : Int) < 2147483647), ?_⟩
      have z := mod_lt (a := c + 7919 * k + 29) (m := 2147483647) (by decide)
      have hz : (if (9 : Int) < (((ns.map V.int).length : Nat) : Int) then (9 : Int) else (((ns.map V.int).length : Nat) : Int)) ≤ (ns.length : Int) ∧ 0 ≤ (if (9 : Int) < (((ns.map V.int).length : Nat) : Int) then (9 : Int) else (((ns.map V.int).length : Nat) : Int)) := by
        rw [hl]
        split <;> omega
      refine ⟨_, rfl, a, _, rfl, .inl hS, _, _, rfl, _, rfl, (by omega), (by omega), for_range (lo := 0) (fun i σ H' => H' = H1 ∧ ∃ (mx : Int) (v : Option V), (0 ≤ mx ∧ mx < 2147483647) ∧ σ = [some (.ref a), some (.int k), some (.int c), some (.int mx), v]) ⟨rfl, _, _, z, rfl⟩ ?_ ?_⟩
      · rintro i σ H' hi ⟨rfl, mx, v, ⟨m0, m1⟩, rfl⟩
        have hi2 : (0 + (i : Int)) < (ns.length : Int) := by omega
        obtain ⟨y, hy⟩ := int_at (ns := ns) (k := 0 + (i : Int)) (by omega) hi2
        refine ⟨_, rfl, _, _, rfl, rfl, ⟨by decide, by decide, by omega⟩, _, rfl, _, rfl, a, _, _, _, rfl, rfl, hS, hy, _, _, rfl, rfl, (by decide : (0 : Int) < 2147483629), _, _, rfl, rfl, _, rfl, _, _, rfl, rfl, .inl ⟨by decide, by decide⟩, _, _, rfl, rfl, _, _, rfl, rfl, (by decide : (0 : Int) < 2147483647), ?_⟩
        exact ⟨rfl, _, _, mod_lt (by decide), rfl⟩
      · rintro σ H' ⟨rfl, mx, v, ⟨m0, m1⟩, rfl⟩
        refine ⟨_, rfl, (by show 2 ≤ sizeLine; decide), fun p np => ?_⟩
        exact q p _ (same_upd np) np ⟨mx, 1, upd_same, .inr ⟨by decide, m0, m1⟩⟩
end
end K1

namespace K1
open PySem PySem.Spec PyProof.Rows L2 Own
/-! ### names drawn -/
def sg (c : Nat) : Str := ⟨#[c]⟩
theorem sg_list (c : Nat) : (sg c).cps.toList = [c] := rfl
theorem abc_at {i : Int} (h0 : 0 ≤ i) (h1 : i < 26) : atI abc.cps.toList i = some (97 + i.toNat) := by
  have h : ∀ d : Fin 26, atI abc.cps.toList ((d.val : Nat) : Int) = some (97 + d.val) := by decide +kernel
  have e : i = ((i.toNat : Nat) : Int) := by omega
  have q := h ⟨i.toNat, by omega⟩
  rw [← e] at q
  exact q
theorem app_list (a b : Str) : (a ++ b).cps.toList = a.cps.toList ++ b.cps.toList := by
  show (a.cps ++ b.cps).toList = _
  rw [Array.toList_append]
theorem len_list (a : Str) : a.length = a.cps.toList.length := by
  show a.cps.size = _
  rw [Array.length_toList]
theorem join_list : ∀ cs : List Nat, (Str.join Str.empty (cs.map sg)).cps.toList = cs
  | [] => rfl
  | [c] => rfl
  | c :: d :: r => by
    have ih := join_list (d :: r)
    show (sg c ++ Str.empty ++ Str.join Str.empty ((d :: r).map sg)).cps.toList = _
    rw [app_list, app_list, ih]
    rfl
theorem cut_lo (z : Str) (a : Nat) (h : a ≤ z.length) : (cutS z none (some ((a : Nat) : Int))).cps.toList = z.cps.toList.take a := by
  unfold cutS
  rw [HT.sIx_none, HT.sIx_nat, List.drop_zero, Nat.sub_zero, Nat.min_eq_left h]
theorem cut_hi (z : Str) (a : Nat) (h : a ≤ z.length) : (cutS z (some ((a : Nat) : Int)) none).cps.toList = z.cps.toList.drop a := by
  unfold cutS
  rw [HT.sIx_none, HT.sIx_nat, Nat.min_eq_left h]
  show (z.cps.toList.drop a).take (z.length - a) = _
  rw [List.take_of_length_le]
  rw [List.length_drop, ← len_list]
  exact Nat.le_refl _
/-- the name that turn k makes -/
def nameK (z : Str) (a b k : Nat) : Str := cutS z none (some ((a : Nat) : Int)) ++ sg (97 + (b + 5 * k) % 26) ++ cutS z (some ((a : Nat) : Int)) none
theorem nameK_list (z : Str) (a b k : Nat) (h : a ≤ z.length) : (nameK z a b k).cps.toList = z.cps.toList.take a ++ (97 + (b + 5 * k) % 26) :: z.cps.toList.drop a := by
  unfold nameK
  rw [app_list, app_list, cut_lo z a h, cut_hi z a h, sg_list, List.append_assoc]
  rfl
theorem nameK_len (z : Str) (a b k : Nat) (h : a ≤ z.length) : (nameK z a b k).length = z.length + 1 := by
  rw [len_list, nameK_list z a b k h, len_list z] at *
  rw [List.length_append, List.length_cons, List.length_take, List.length_drop]
  omega
theorem nameK_one {z : Str} {a b j k : Nat} (h : a ≤ z.length) (hj : j < 8) (hk : k < 8) (e : nameK z a b j = nameK z a b k) : j = k := by
  have q : (nameK z a b j).cps.toList = (nameK z a b k).cps.toList := by rw [e]
  rw [nameK_list z a b j h, nameK_list z a b k h] at q
  have q2 := (List.cons.inj (List.append_cancel_left q)).1
  omega
theorem nameK_ok {z : Str} {a b k : Nat} (h : a ≤ z.length) (h7 : z.length ≤ 7) (hz : ∀ c ∈ z.cps.toList, 97 ≤ c ∧ c ≤ 122) : NameOk (nameK z a b k) := by
  refine ⟨by rw [nameK_len z a b k h]; omega, by rw [nameK_len z a b k h]; omega, fun c hc => ?_⟩
  rw [nameK_list z a b k h] at hc
  rcases List.mem_append.mp hc with q | q
  · exact hz c (List.mem_of_mem_take q)
  · rcases List.mem_cons.mp q with q | q
    · omega
    · exact hz c (List.mem_of_mem_drop q)
/-- drawn names -/
def Drawn (ns : List Str) : Prop := ns.Nodup ∧ ∀ n ∈ ns, NameOk n ∧ n.length ≠ 4
theorem drawn_of {z : Str} {a b : Nat} (m : Nat) (h : a ≤ z.length) (hm : m ≤ 8) (h7 : z.length ≤ 7) (h3 : z.length ≠ 3) (hz : ∀ c ∈ z.cps.toList, 97 ≤ c ∧ c ≤ 122) : Drawn ((List.range m).map (nameK z a b)) := by
  refine ⟨?_, fun n hn => ?_⟩
  · have r : (List.range m).Pairwise (fun j k => j ≠ k ∧ j < 8 ∧ k < 8) := by
      refine List.Pairwise.imp_of_mem (R := fun j k => j ≠ k) (fun ha hb q => ⟨q, ?_, ?_⟩) List.nodup_range
      · have := List.mem_range.mp ha
        omega
      · have := List.mem_range.mp hb
        omega
    exact List.Pairwise.map _ (fun j k q e => q.1 (nameK_one h q.2.1 q.2.2 e)) r
  · obtain ⟨k, hk, rfl⟩ := List.mem_map.mp hn
    exact ⟨nameK_ok h h7 hz, by rw [nameK_len z a b k h]; omega⟩
theorem four {d : Int} (h0 : 0 ≤ d) (h1 : d < 4) : ∃ n : Nat, atI [V.int 0, V.int 1, V.int 2, V.int 7] d = some (V.int (n : Int)) ∧ n ≤ 7 ∧ n ≠ 3 := by
  have c : d = 0 ∨ d = 1 ∨ d = 2 ∨ d = 3 := by omega
  rcases c with e | e | e | e
  · subst e
    exact ⟨0, rfl, by decide, by decide⟩
  · subst e
    exact ⟨1, rfl, by decide, by decide⟩
  · subst e
    exact ⟨2, rfl, by decide, by decide⟩
  · subst e
    exact ⟨7, rfl, by decide, by decide⟩
theorem Keep.put {s p : Addr} {H H' : Hp} {o : HO} (a : Keep s H H') (h : H p = none) : Keep s H (L2.upd H' p o) := fun b x n e => by
  rw [upd_ne (ne_of_none e h)]
  exact a b x n e
theorem Src.put {s p : Addr} {H : Hp} {o : HO} (q : Src H s) (h : p ≠ s) : Src (upd H p o) s := by
  obtain ⟨a, b, z, ok⟩ := q
  exact ⟨a, b, by rw [upd_ne h.symm]; exact z, ok⟩
theorem Src.ne {s p : Addr} {H : Hp} {ss : List Str} (q : Src H s) (h : H p = some (.lst (ss.map V.str))) : p ≠ s := fun e => by
  obtain ⟨a, b, z, _⟩ := q
  rw [e, z] at h
  have h' := HO.lst.inj (Option.some.inj h)
  cases ss with
  | nil => cases h'
  | cons x r => cases h'
def spNames : Sp := fun vs H Q _ => ∃ (s : Addr) (m : Nat), vs = [.ref s, .int (m : Nat)] ∧ Src H s ∧ m ≤ 8 ∧ ∀ H' p ns, Keep s H H' → Src H' s → H p = none → H' p = some (.lst (ns.map V.str)) → ns.length = m → Drawn ns → Q (.ref p) H'
section
variable {P : Program} {w : World} {K : PySem.W.Frag} {mg : Str → Option Value} {base : Heap}
theorem scNames : FnScope ["source", "many", "letters", "base", "at", "begin", "k"] ["source", "many"] (defScope sNames) := ⟨rfl, rfl, rfl, by decide +kernel, rfl, by decide +kernel, by decide +kernel⟩
theorem ok_names {f g : Addr} {fd gd : FuncData} (F : Fun K "_law_random_names" "_law_random_names" sNames f fd) (GD : FnOk P w K mg base CX0 1 g gd ["source", "many"] spDraw) (kD : PySem.W.keepIn K (.ref g) = true) (bD : Binds K gd ["source", "many"] []) (mD : mg "_law_draw" = some (.ref g))
    (mr : mg "range" = none) (ml : mg "len" = none) : FnOk P w K mg base CX0 2 f fd ["source", "many"] spNames := by
  refine F.ok scNames (fun vs H Q E h => ?_) (fun cdv A outer s H vs Q E hr h => ?_)
  · obtain ⟨s, m, rfl, _⟩ := h
    rfl
  · obtain ⟨s, m, rfl, src, m8, k⟩ := h
    refine ⟨_, pss_cons (ps_set (i := 2) scNames.nd rfl (Or.inr rfl) pe_str)
      (pss_cons (ps_set (i := 3) scNames.nd rfl (Or.inr rfl) (pe_join pe_str (pe_lc (own := [("k", 6)]) (g := gName 6) (tt := tYes) rfl scNames.nd
          (pi_range1 (by rfl) mr (pa_cons (pe_ix ix_list (pe_lst (pa_cons pe_int (pa_cons pe_int (pa_cons pe_int (pa_cons pe_int pa_nil))))) (pe_call GD hr (by rfl) mD kD bD .nil pass0 (pa_cons (pv 0) (pa_cons pe_int pa_nil))) (fun _ _ => rfl)) pa_nil))
          (blkOk_by (N := ["source", "many", "letters", "base", "at", "begin", "k"]) (sc := defScope sNames) (by decide +kernel))
          (fun _ _ _ _ _ => pg_name (i := 6) scNames.nd rfl (Or.inl rfl)) (fun _ _ _ _ _ => pts_nil) (fun _ _ _ _ _ => pe_ix ix_str (pv 2) (pe_call GD hr (by rfl) mD kD bD .nil pass0 (pa_cons (pv 0) (pa_cons pe_int pa_nil))) (fun _ _ => rfl)))))
      (pss_cons (ps_set (i := 4) scNames.nd rfl (Or.inr rfl) (pe_call GD hr (by rfl) mD kD bD .nil pass0 (pa_cons (pv 0) (pa_cons (pe_op op_add (pe_callB call_len_str (by rfl) ml PySem.boot_len (pa_cons (pv 3) pa_nil)) pe_int) pa_nil))))
      (pss_cons (ps_set (i := 5) scNames.nd rfl (Or.inr rfl) (pe_call GD hr (by rfl) mD kD bD .nil pass0 (pa_cons (pv 0) (pa_cons pe_int pa_nil))))
      (pss_one (ps_ret (pe_lc (own := [("k", 6)]) (g := gName 6) (tt := tYes) rfl scNames.nd (pi_range1 (by rfl) mr (pa_cons (pv 1) pa_nil))
          (blkOk_by (N := ["source", "many", "letters", "base", "at", "begin", "k"]) (sc := defScope sNames) (by decide +kernel))
          (fun _ _ _ _ _ => pg_name (i := 6) scNames.nd rfl (Or.inl rfl)) (fun _ _ _ _ _ => pts_nil)
          (fun _ _ _ _ _ => pe_op op_add_str (pe_op op_add_str (pe_slice sl_str (pv 3) po_none (po_some (pv 4))) (pe_ix ix_str (pv 2) (pe_op op_mod (pe_op op_add (pv 5) (pe_op op_mul pe_int (pv 6))) pe_int) (fun _ _ => rfl))) (pe_slice sl_str (pv 3) (po_some (pv 4)) po_none)))))))), ?_⟩
    refine ⟨⟨_, rfl⟩, (by show 4 ≤ sizeLine; decide), fun q nq => ?_⟩
    have s0 : Keep s H (upd H q (.lst [.int 0, .int 1, .int 2, .int 7])) := Keep.new (Keep.refl s H) nq
    have sr0 : Src (upd H q (.lst [.int 0, .int 1, .int 2, .int 7])) s := src.new nq
    refine ⟨_, rfl, s, 4, rfl, sr0, (by decide), (by decide), fun d H1 d0 d1 sr1 k1 => ?_⟩
    have kq := s0.trans k1
    have qs : q ≠ s := fun e => by
      obtain ⟨a, b, z, _⟩ := src
      rw [e, z] at nq
      cases nq
    obtain ⟨n, hn, n7, n3⟩ := four d0 d1
    refine ⟨q, _, d, _, rfl, rfl, SqL.of (k1 q _ qs upd_same), hn, _, rfl, (by omega), (by omega), fun D nD => ?_⟩
    have nDH : H D = none := kq.free sr1 nD
    refine lc_range (lo := 0) (n := n) (fun i H' => Keep s H H' ∧ Src H' s ∧ ∃ cs : List Nat, cs.length = i ∧ (∀ c ∈ cs, 97 ≤ c ∧ c ≤ 122) ∧ H' D = some (.lst ((cs.map sg).map V.str))) ⟨kq.new nD, sr1.new nD, [], rfl, (fun _ h => nomatch h), upd_same⟩ ?_ ?_
    · rintro i H' hi ⟨kp, sr, cs, cl, cok, hD⟩
      have Ds : D ≠ s := sr.ne hD
      refine ⟨rfl, _, rfl, _, rfl, s, 26, rfl, sr, (by decide), (by decide), fun c H2 c0 c1 sr2 k2 => ?_⟩
      have hD2 := k2 D _ Ds hD
      refine ⟨abc, c, _, rfl, rfl, (by decide), abc_at c0 c1, _, hD2, ?_, (kp.trans k2).put nDH, ?_, cs ++ [97 + c.toNat], ?_, ?_, ?_⟩
      · rw [List.length_map, List.length_map, cl]
        exact small1000 (by omega)
      · exact sr2.put Ds
      · rw [List.length_append, cl]
        rfl
      · intro e he
        rcases List.mem_append.mp he with h | h
        · exact cok e h
        · rw [List.mem_singleton.mp h]
          omega
      · rw [upd_same, List.map_append, List.map_append]
        rfl
    · rintro H' ⟨kp, sr, cs, cl, cok, hD⟩
      obtain ⟨z, ez⟩ : ∃ z, z = Str.join Str.empty (cs.map sg) := ⟨_, rfl⟩
      have zl : z.cps.toList = cs := by rw [ez, join_list]
      have zn : z.length = n := by rw [len_list, zl, cl]
      have sum1 : ∀ es : List Nat, ((es.map sg).map (·.length)).sum = es.length := fun es => by
        induction es with
        | nil => rfl
        | cons x r ih =>
          show 1 + ((r.map sg).map (·.length)).sum = r.length + 1
          rw [ih, Nat.add_comm]
      have el : ("" : Str).length = 0 := rfl
      refine ⟨_, D, cs.map sg, rfl, rfl, .inl (SqL.of hD), ?_, ?_⟩
      · rw [sum1, List.length_map, el]
        omega
      rw [txt_join, show Str.join ("" : Str) (cs.map sg) = z from ez.symm]
      refine ⟨_, rfl, _, rfl, z, rfl, (by rw [sizeLine_eq]; omega), _, _, rfl, rfl, s, _, rfl, sr, (by omega), (by omega), fun d2 H2 e0 e1 sr2 k2 => ?_⟩
      obtain ⟨at_, eat⟩ : ∃ a : Nat, d2 = (a : Int) := ⟨d2.toNat, by omega⟩
      subst eat
      refine ⟨_, rfl, s, _, rfl, sr2, (by decide), (by decide), fun d3 H3 b0 b1 sr3 k3 => ?_⟩
      obtain ⟨be, ebe⟩ : ∃ a : Nat, d3 = (a : Int) := ⟨d3.toNat, by omega⟩
      subst ebe
      have k13 := (kp.trans k2).trans k3
      have zz : z.length ≤ sizeLine := by rw [sizeLine_eq]; omega
      have z4 : z.length ≤ 7 := by omega
      refine ⟨_, rfl, (m : Int), rfl, (by omega), (by omega), fun D2 nD2 => ?_⟩
      have nD2H : H D2 = none := k13.free sr3 nD2
      have al : at_ ≤ z.length := by omega
      refine lc_range (lo := 0) (n := m) (fun i H' => Same H3 H' ∧ H' D2 = some (.lst (((List.range i).map (nameK z at_ be)).map V.str))) ⟨same_upd nD2, upd_same⟩ ?_ ?_
      · rintro i H4 hi ⟨sm, hD4⟩
        have ix : atI abc.cps.toList (((be : Int) + 5 * (0 + (i : Int))) % 26) = some (97 + (be + 5 * i) % 26) := by
          rw [abc_at (Int.emod_nonneg _ (by decide)) (Int.emod_lt_of_pos _ (by decide))]
          congr 1
          omega
        have c1 := cutS_length z none (some ((at_ : Nat) : Int))
        have c2 := cutS_length z (some ((at_ : Nat) : Int)) none
        have c3 : (sg (97 + (be + 5 * i) % 26)).length = 1 := rfl
        refine ⟨rfl, _, rfl, _, rfl, _, rfl, z, rfl, zz, _, rfl, _, rfl, _, rfl, _, _, rfl, rfl, .inl ⟨by decide, by decide⟩, _, _, rfl, rfl, _, _, rfl, rfl, (by decide : (0 : Int) < 26), abc, _, _, rfl, rfl, (by decide), ix, _, _, rfl, rfl, ?_, _, rfl, _, rfl, _, rfl, z, rfl, zz, _, _, rfl, rfl, ?_, _, hD4, ?_, ?_, ?_⟩
        · rw [sizeLine_eq]
          show (cutS z none (some ((at_ : Nat) : Int))).length + 1 ≤ _
          omega
        · rw [sizeLine_eq, Str.length_append]
          show (cutS z none (some ((at_ : Nat) : Int))).length + 1 + (cutS z (some ((at_ : Nat) : Int)) none).length ≤ _
          omega
        · rw [List.length_map, List.length_map, List.length_range]
          exact small1000 (by omega)
        · exact same_past nD2 sm
        · rw [upd_same, List.range_succ, List.map_append, List.map_append]
          rfl
      · rintro H4 ⟨sm, hD4⟩
        refine k H4 D2 _ (k13.trans (.of sm)) (sr3.same sm) nD2H hD4 ?_ ?_
        · rw [List.length_map, List.length_range]
        · exact drawn_of m al m8 z4 (by omega) (by rw [zl]; exact cok)
end
end K1

namespace K1
open PySem PySem.Spec PyProof.Rows L2 Own
/-! ### rows drawn -/
def LinAt (H : Hp) (v : V) (l : Ln) : Prop := ∃ t b, v = .ref t ∧ H t = some (.tup [.str l.1, .ref b]) ∧ H b = some (.tup (l.2.map V.str))
def LinsAt (H : Hp) (a : Addr) (ls : List Ln) : Prop := ∃ vs, H a = some (.lst vs) ∧ Paired (LinAt H) vs ls
theorem LinAt.same {H H' : Hp} {v : V} {l : Ln} (h : LinAt H v l) (k : ∀ a xs, H a = some (.tup xs) → H' a = some (.tup xs)) : LinAt H' v l := by
  obtain ⟨t, b, e, h1, h2⟩ := h
  exact ⟨t, b, e, k _ _ h1, k _ _ h2⟩
theorem LinsAt.keep {H H' : Hp} {a : Addr} {ls : List Ln} (h : LinsAt H a ls) (k : ∀ b xs, H b = some (.tup xs) → H' b = some (.tup xs)) (ka : ∀ xs, H a = some (.lst xs) → H' a = some (.lst xs)) : LinsAt H' a ls := by
  obtain ⟨vs, h1, h2⟩ := h
  exact ⟨vs, ka _ h1, paired_imp (fun _ _ q => q.same k) h2⟩
theorem LinsAt.same {H H' : Hp} {a : Addr} {ls : List Ln} (h : LinsAt H a ls) (s : Same H H') : LinsAt H' a ls := h.keep (fun _ _ e => s _ _ e) fun _ e => s _ _ e
theorem LinsAt.rows {H : Hp} {a : Addr} {ls : List Ln} (h : LinsAt H a ls) : RowsAt H a ls := by
  obtain ⟨vs, h1, h2⟩ := h
  exact ⟨vs, .inl h1, paired_imp (fun _ _ ⟨t, b, e, z1, z2⟩ => ⟨t, b, e, z1, .inr z2⟩) h2⟩
theorem Src.neL {s p : Addr} {H H0 : Hp} {rs : List V} {ls : List Ln} (q : Src H s) (h : H p = some (.lst rs)) (pl : Paired (LinAt H0) rs ls) : p ≠ s := fun e => by
  obtain ⟨a, b, z, _⟩ := q
  rw [e, z] at h
  have h' := HO.lst.inj (Option.some.inj h)
  subst h'
  cases pl with
  | cons c r =>
    obtain ⟨t, b, e, _⟩ := c
    cases e
theorem four2 {d : Int} (h0 : 0 ≤ d) (h1 : d < 4) : ∃ n : Nat, atI [V.int 0, V.int 1, V.int 1, V.int 2] d = some (V.int (n : Int)) ∧ n ≤ 2 := by
  have c : d = 0 ∨ d = 1 ∨ d = 2 ∨ d = 3 := by omega
  rcases c with e | e | e | e
  · subst e
    exact ⟨0, rfl, by decide⟩
  · subst e
    exact ⟨1, rfl, by decide⟩
  · subst e
    exact ⟨1, rfl, by decide⟩
  · subst e
    exact ⟨2, rfl, by decide⟩
theorem cutV_lo (xs : List V) (k : Nat) (h : k ≤ xs.length) : cutV xs none (some ((k : Nat) : Int)) = xs.take k := by
  unfold cutV
  rw [HT.sIx_none, HT.sIx_nat, Nat.min_eq_left h]
  rfl
theorem ne_nil_eq (xs : List Str) : (!PyData.eqv (strsD xs) (strsD [])) = !decide (xs = []) := by
  cases xs with
  | nil => rfl
  | cons x r => rfl
theorem erase_map : ∀ (xs : List Str) (u : Nat), (xs.map V.str).eraseIdx u = (xs.eraseIdx u).map V.str
  | [], _ => rfl
  | x :: r, 0 => rfl
  | x :: r, u + 1 => by
    show V.str x :: (r.map V.str).eraseIdx u = V.str x :: (r.eraseIdx u).map V.str
    rw [erase_map r u]
theorem erase_perm : ∀ (xs : List Str) (u : Nat) (h : u < xs.length), (xs[u] :: xs.eraseIdx u).Perm xs
  | x :: r, 0, _ => .refl _
  | x :: r, u + 1, h => by
    have ih := erase_perm r u (Nat.lt_of_succ_lt_succ h)
    show (r[u]'(Nat.lt_of_succ_lt_succ h) :: x :: r.eraseIdx u).Perm (x :: r)
    exact (List.Perm.swap ..).trans (List.Perm.cons x ih)
/-- the rows so far -/
structure Far (ns : List Str) (i : Nat) (ls : List Ln) : Prop where
  nms : nms ls = ns.take i
  base : ∀ (j : Nat) l, ls[j]? = some l → l.2.Nodup ∧ (∀ b ∈ l.2, b ∈ ns.take j) ∧ l.2.length ≤ 7
theorem Far.ok {ns : List Str} {ls : List Ln} (f : Far ns ns.length ls) (d : Drawn ns) (h7 : ns.length ≤ 7) : LnsOk ls := by
  have e : K1.nms ls = ns := by rw [f.nms, List.take_of_length_le (Nat.le_refl _)]
  refine ⟨fun l hl => ?_, by rw [e]; exact d.1, ?_, fun j l hl => ?_⟩
  · have q : l.1 ∈ ns := by
      rw [← e]
      exact List.mem_map.mpr ⟨l, hl, rfl⟩
    exact (d.2 _ q).1
  · have q : (K1.nms ls).length = ns.length := by rw [e]
    rw [List.length_map] at q
    omega
  · obtain ⟨a, b, c⟩ := f.base j l hl
    refine ⟨a, fun x hx => ?_, c⟩
    rw [show K1.nms (ls.take j) = (K1.nms ls).take j from List.map_take .., e]
    exact b x hx
def spLines : Sp := fun vs H Q _ => ∃ (s a : Addr) (ns : List Str), vs = [.ref s, .ref a] ∧ Src H s ∧ H a = some (.lst (ns.map V.str)) ∧ ns.length ≤ 7 ∧ Drawn ns ∧ ∀ H' p ls, Keep s H H' → Src H' s → LinsAt H' p ls → nms ls = ns → LnsOk ls → Q (.ref p) H'
section
variable {P : Program} {w : World} {K : PySem.W.Frag} {mg : Str → Option Value} {base : Heap}
theorem scLines : FnScope ["source", "labels", "found", "k", "left", "bases", "turn"] ["source", "labels"] (defScope sLines) := ⟨rfl, rfl, rfl, by decide +kernel, rfl, by decide +kernel, by decide +kernel⟩
theorem ok_lines {f g : Addr} {fd gd : FuncData} (F : Fun K "_law_random_lines" "_law_random_lines" sLines f fd) (GD : FnOk P w K mg base CX0 1 g gd ["source", "many"] spDraw) (kD : PySem.W.keepIn K (.ref g) = true) (bD : Binds K gd ["source", "many"] []) (mD : mg "_law_draw" = some (.ref g))
    (mr : mg "range" = none) (ml : mg "len" = none) (mi : mg "list" = none) (mt : mg "tuple" = none) : FnOk P w K mg base CX0 2 f fd ["source", "labels"] spLines := by
  refine F.ok scLines (fun vs H Q E h => ?_) (fun cdv A outer s H vs Q E hr h => ?_)
  · obtain ⟨s, a, ns, rfl, _⟩ := h
    rfl
  · obtain ⟨s, a, ns, rfl, src, ha, n7, dr, k⟩ := h
    refine ⟨_, pss_cons (ps_set (i := 2) scLines.nd rfl (Or.inl rfl) (pe_lst pa_nil))
      (pss_cons (ps_for PassesOwn.never rfl (pi_range1 (by rfl) mr (pa_cons (pe_callB call_len_seq (by rfl) ml PySem.boot_len (pa_cons (pv 1) pa_nil)) pa_nil)) (pg_name (i := 3) scLines.nd rfl (Or.inl rfl))
        (pss_cons (ps_par (i := 4) (j := 5) rfl scLines.nd rfl rfl (by decide) rfl rfl (pa_cons (pe_callTy call_list_of (by rfl) mi (by decide +kernel) (pa_cons (pe_slice sl_list (pv 1) po_none (po_some (pv 3))) pa_nil)) (pa_cons (pe_lst pa_nil) pa_nil)) (by rfl))
        (pss_cons (ps_for PassesOwn.never rfl (pi_range1 (by rfl) mr (pa_cons (pe_ix ix_list (pe_lst (pa_cons pe_int (pa_cons pe_int (pa_cons pe_int (pa_cons pe_int pa_nil))))) (pe_call GD hr (by rfl) mD kD bD .nil pass0 (pa_cons (pv 0) (pa_cons pe_int pa_nil))) (fun _ _ => rfl)) pa_nil)) (pg_name (i := 6) scLines.nd rfl (Or.inl rfl))
          (pss_one (ps_if (pt_cmpR (op_neD hr.units) (pv 4) (pe_lst pa_nil) (nomark _))
            (pss_one (ps_expr (pe_bm PySem.F.plainAttrs_list PySem.F.slot_list_append PySem.F.type_list_append mt_append (pv 5) (pa_cons
              (pe_bm PySem.F.plainAttrs_list PySem.F.slot_list_pop PySem.F.type_list_pop mt_popAt (pv 4) (pa_cons (pe_call GD hr (by rfl) mD kD bD .nil pass0 (pa_cons (pv 0) (pa_cons (pe_callB call_len_seq (by rfl) ml PySem.boot_len (pa_cons (pv 4) pa_nil)) pa_nil))) pa_nil)) pa_nil)))) pss_nil)))
        (pss_one (ps_expr (pe_bm PySem.F.plainAttrs_list PySem.F.slot_list_append PySem.F.type_list_append mt_append (pv 2) (pa_cons
          (pe_tup (pa_cons (pe_ix ix_list (pv 1) (pv 3) (fun _ _ => rfl)) (pa_cons (pe_callTy call_tuple_of (by rfl) mt (by decide +kernel) (pa_cons (pv 5) pa_nil)) pa_nil))) pa_nil)))))))
      (pss_one (ps_ret (pv 2)))), ?_⟩
    refine ⟨Nat.zero_le _, fun fa nF => ?_⟩
    have as : a ≠ s := src.ne ha
    have al : (ns.map V.str).length = ns.length := List.length_map _
    refine ⟨_, rfl, a, _, rfl, .inl (SqL.of (same_upd nF _ _ ha)), _, rfl, (by omega), (by omega), ?_⟩
    refine for_range (lo := 0) (fun i σ H' => ∃ v3 v4 v5 v6 ls rs, σ = [some (.ref s), some (.ref a), some (.ref fa), v3, v4, v5, v6] ∧ Keep s H H' ∧ Src H' s ∧ H' fa = some (.lst rs) ∧ Paired (LinAt H') rs ls ∧ Far ns i ls)
      ⟨none, none, none, none, [], [], rfl, .of (same_upd nF), src.new nF, upd_same, .nil, rfl, fun j l h => by simp at h⟩ ?_ ?_
    · rintro i σ H1 hi ⟨v3, v4, v5, v6, ls, rs, rfl, k1, sr1, hF, pl, far⟩
      have hi' : i < ns.length := by
        rw [show ((((ns.map V.str).length : Nat) : Int)).toNat = (ns.map V.str).length from rfl] at hi
        omega
      have ha1 := k1 a _ as ha
      refine ⟨_, rfl, _, rfl, (0 + (i : Int)), rfl, a, _, rfl, SqL.of ha1, fun p np => ?_⟩
      have e1 : Same H1 (upd H1 p (.lst (cutV (ns.map V.str) none (some (0 + (i : Int)))))) := same_upd np
      refine ⟨p, _, rfl, .inl (SqL.of upd_same), fun L nL => ?_⟩
      have e2 := e1.trans (same_upd (o := .lst (cutV (ns.map V.str) none (some (0 + (i : Int))))) nL)
      refine ⟨Nat.zero_le _, fun B nB => ?_⟩
      have e3 := e2.trans (same_upd (o := .lst []) nB)
      refine ⟨_, _, rfl, ?_⟩
      have LB : L ≠ B := ne_of_none upd_same nB
      have cut : cutV (ns.map V.str) none (some (0 + (i : Int))) = (ns.take i).map V.str := by
        rw [show (0 + (i : Int)) = ((i : Nat) : Int) from by omega, cutV_lo _ i (by omega), List.map_take]
      have hL := same_upd (o := .lst []) nB L _ (upd_same (H := upd H1 p (.lst (cutV (ns.map V.str) none (some (0 + (i : Int)))))) (a := L) (o := .lst (cutV (ns.map V.str) none (some (0 + (i : Int))))))
      have hB := upd_same (H := upd (upd H1 p (.lst (cutV (ns.map V.str) none (some (0 + (i : Int)))))) L (.lst (cutV (ns.map V.str) none (some (0 + (i : Int)))))) (a := B) (o := .lst [])
      generalize upd (upd (upd H1 p (.lst (cutV (ns.map V.str) none (some (0 + (i : Int)))))) L (.lst (cutV (ns.map V.str) none (some (0 + (i : Int)))))) B (.lst []) = H2 at e3 hL hB ⊢
      rw [cut] at hL
      have nL1 : H1 L = none := e1.free nL
      have nB1 : H1 B = none := e2.free nB
      have sr2 := sr1.same e3
      refine ⟨(by show 4 ≤ sizeLine; decide), fun q nq => ?_⟩
      have e4 : Same H2 (upd H2 q (.lst [.int 0, .int 1, .int 1, .int 2])) := same_upd nq
      refine ⟨_, rfl, s, 4, rfl, sr2.same e4, (by decide), (by decide), fun d H3 d0 d1 sr3 k3 => ?_⟩
      obtain ⟨n, hn, n2⟩ := four2 d0 d1
      have qs : q ≠ s := fun e => by
        obtain ⟨a, b, z, _⟩ := sr2
        rw [e, z] at nq
        cases nq
      have k23 : Keep s H2 H3 := (Keep.of e4).trans k3
      have Ls : L ≠ s := sr2.ne hL
      have Bs : B ≠ s := sr2.ne (ss := []) hB
      refine ⟨q, _, d, _, rfl, rfl, SqL.of (k3 q _ qs upd_same), hn, _, rfl, (by omega), (by omega), ?_⟩
      refine for_range (lo := 0) (fun j σ H' => ∃ v6 xs ys, σ = [some (.ref s), some (.ref a), some (.ref fa), some (.int (0 + (i : Int))), some (.ref L), some (.ref B), v6] ∧ Src H' s ∧ (∀ b o, b ≠ s → b ≠ L → b ≠ B → H2 b = some o → H' b = some o) ∧ H' L = some (.lst (xs.map V.str)) ∧ H' B = some (.lst (ys.map V.str)) ∧ (ys ++ xs).Perm (ns.take i))
        ⟨v6, ns.take i, [], rfl, sr3, fun b o n1 _ _ e => k23 b o n1 e, k23 L _ Ls hL, k23 B _ Bs hB, .refl _⟩ ?_ ?_
      · rintro j σ H4 hj ⟨v6, xs, ys, rfl, sr4, k4, hL4, hB4, pm⟩
        have tot : ys.length + xs.length = i := by
          have z := pm.length_eq
          rw [List.length_append, List.length_take] at z
          omega
        have lowx : ∀ x ∈ xs, Low x := fun x hx => by
          have q1 : x ∈ ns.take i := pm.mem_iff.mp (List.mem_append_right _ hx)
          exact name_low (dr.2 x (List.mem_of_mem_take q1)).1
        refine ⟨_, rfl, Nat.zero_le _, fun z nz => ?_⟩
        have e5 : Same H4 (upd H4 z (.lst [])) := same_upd nz
        have LB4 : ∀ {c : Addr} {o : HO}, H4 c = some o → z ≠ c := fun e q => by
          rw [q, e] at nz
          cases nz
        refine ⟨strsD xs, strsD [], .lst (SqL.of (e5 _ _ hL4)) (strs_dp xs), .lst (SqL.of upd_same) .nil, strs_shaped lowx, strs_shaped (fun _ h => nomatch h), ?_⟩
        rw [ne_nil_eq]
        have k5 : ∀ b o, b ≠ s → b ≠ L → b ≠ B → H2 b = some o → (upd H4 z (.lst [])) b = some o := fun b o n1 n2 n3 e => e5 _ _ (k4 b o n1 n2 n3 e)
        have hL5 := e5 _ _ hL4
        have hB5 := e5 _ _ hB4
        have sr5 := sr4.new (o := .lst []) nz
        generalize upd H4 z (.lst []) = H5 at k5 hL5 hB5 sr5 ⊢
        cases xs with
        | nil => exact ⟨_, rfl, ⟨_, [], ys, rfl, sr5, k5, hL5, hB5, pm⟩⟩
        | cons x r =>
          have xl : ((x :: r).map V.str).length = r.length + 1 := by rw [List.length_map, List.length_cons]
          refine ⟨_, rfl, _, rfl, .inl ⟨rfl, _, SqL.of hB5⟩, _, rfl, .inl ⟨rfl, _, SqL.of hL5⟩, _, rfl, _, rfl, L, _, rfl, .inl (SqL.of hL5), s, _, rfl, sr5, (by omega), (by rw [List.length_cons] at tot; omega), fun d4 H6 f0 f1 sr6 k6 => ?_⟩
          obtain ⟨u, rfl⟩ : ∃ u : Nat, d4 = (u : Int) := ⟨d4.toNat, by omega⟩
          have hu : u < (x :: r).length := by
            rw [List.length_cons]
            omega
          have hL6 := k6 L _ Ls hL5
          have hB6 := k6 B _ Bs hB5
          have gu : ((x :: r).map V.str)[u]? = some (.str (x :: r)[u]) := by rw [List.getElem?_map, List.getElem?_eq_getElem hu]; rfl
          refine ⟨L, _, (u : Int), u, _, rfl, rfl, hL6, (by omega), (by omega), PySem.StrLaws.seqIndex_nonneg (by omega) (by omega), gu, ?_⟩
          have hB7 : (upd H6 L (.lst (((x :: r).map V.str).eraseIdx u))) B = some (.lst (ys.map V.str)) := by
            rw [upd_ne LB.symm]
            exact hB6
          refine ⟨B, _, _, rfl, rfl, hB7, ?_, ?_⟩
          · rw [List.length_map]
            exact small1000 (by omega)
          refine ⟨_, (x :: r).eraseIdx u, ys ++ [(x :: r)[u]], rfl, (sr6.put Ls).put Bs, fun b o n1 n2 n3 e => ?_, ?_, ?_, ?_⟩
          · rw [upd_ne n3, upd_ne n2]
            exact k6 b o n1 (k5 b o n1 n2 n3 e)
          · rw [upd_ne LB, upd_same]
            congr 2
            exact erase_map _ _
          · rw [upd_same, List.map_append]
            rfl
          · rw [List.append_assoc]
            exact (List.Perm.append_left ys (erase_perm _ _ hu)).trans pm
      · rintro σ H4 ⟨v6, xs, ys, rfl, sr4, k4, hL4, hB4, pm⟩
        have ha4 : H4 a = some (.lst (ns.map V.str)) := k4 a _ as (ne_of_none ha1 nL1) (ne_of_none ha1 nB1) (e3 _ _ ha1)
        have ysub : ∀ b ∈ ys, b ∈ ns.take i := fun b hb => pm.mem_iff.mp (List.mem_append_left _ hb)
        have ynd : ys.Nodup := ((pm.nodup_iff.mpr (take_nodup dr.1 i)).sublist (List.sublist_append_left ys xs))
        have ylen : ys.length ≤ 7 := by
          have z := pm.length_eq
          rw [List.length_append, List.length_take] at z
          omega
        have gi : (ns.map V.str)[i]? = some (.str ns[i]) := by rw [List.getElem?_map, List.getElem?_eq_getElem hi']; rfl
        have gi' : atI (ns.map V.str) (0 + (i : Int)) = some (.str ns[i]) := by
          rw [Int.zero_add]
          exact atI_nat gi
        have hF4 : H4 fa = some (.lst rs) := k4 fa _ (sr1.neL hF pl) (ne_of_none hF nL1) (ne_of_none hF nB1) (e3 _ _ hF)
        have rl := paired_len pl
        have il : ls.length = i := by
          have z : (K1.nms ls).length = (ns.take i).length := by rw [far.nms]
          rw [List.length_map, List.length_take] at z
          omega
        refine ⟨_, rfl, .inl ⟨rfl, _, SqL.of hF4⟩, _, rfl, _, rfl, a, _, _, _, rfl, rfl, SqL.of ha4, gi', _, rfl, B, _, rfl, .inl ⟨SqL.of hB4, fun T nT => ⟨(by show 2 ≤ sizeLine; decide), fun U nU => ?_⟩⟩⟩
        have e6 : Same H4 (upd H4 T (.tup (ys.map V.str))) := same_upd nT
        have e7 := e6.trans (same_upd (o := .tup [.str ns[i], .ref T]) nU)
        have hT7 := same_upd (o := .tup [.str ns[i], .ref T]) nU T _ (upd_same (H := H4) (a := T) (o := .tup (ys.map V.str)))
        have hU7 := upd_same (H := upd H4 T (.tup (ys.map V.str))) (a := U) (o := .tup [.str ns[i], .ref T])
        generalize upd (upd H4 T (.tup (ys.map V.str))) U (.tup [.str ns[i], .ref T]) = H7 at e7 hT7 hU7 ⊢
        have hF7 := e7 _ _ hF4
        refine ⟨fa, _, _, rfl, rfl, hF7, small1000 (by omega), ?_⟩
        have tupF : ∀ {b : Addr} {xs : List V}, H7 b = some (.tup xs) → b ≠ fa := fun e => ne_of e hF7 (by intro z; cases z)
        have Fs : fa ≠ s := sr1.neL hF pl
        refine ⟨_, _, _, _, ls ++ [(ns[i], ys)], rs ++ [.ref U], rfl, fun b o n1 e => ?_, (sr4.same e7).put Fs, upd_same, ?_, ?_⟩
        · have h1 := k1 b o n1 e
          have nF1 : b ≠ fa := ne_of_none e nF
          rw [upd_ne nF1]
          exact e7 _ _ (k4 b o n1 (ne_of_none h1 nL1) (ne_of_none h1 nB1) (e3 _ _ h1))
        · have pl7 : Paired (LinAt H7) rs ls := paired_imp (fun _ _ q => q.same fun b xs e => e7 _ _ (k4 b _ (fun z => by
            obtain ⟨u, v, z2, _⟩ := sr1
            rw [z, z2] at e
            cases e) (ne_of_none e nL1) (ne_of_none e nB1) (e3 _ _ e))) pl
          have pl8 := Paired.snoc pl7 (⟨U, T, rfl, hU7, hT7⟩ : LinAt H7 (.ref U) (ns[i], ys))
          exact paired_imp (fun _ _ q => q.same fun b xs e => by rw [upd_ne (tupF e)]; exact e) pl8
        · refine ⟨?_, fun j l hl => ?_⟩
          · show List.map (·.1) (ls ++ [(ns[i], ys)]) = _
            rw [List.map_append, List.take_add_one, List.getElem?_eq_getElem hi', ← far.nms]
            rfl
          · by_cases c : j < ls.length
            · rw [List.getElem?_append_left c] at hl
              exact far.base j l hl
            · have ej : j = ls.length := by
                have z := (List.getElem?_eq_some_iff.mp hl).1
                rw [List.length_append, List.length_singleton] at z
                omega
              subst ej
              rw [List.getElem?_append_right (Nat.le_refl _), Nat.sub_self] at hl
              have el := Option.some.inj hl
              subst el
              exact ⟨ynd, fun b hb => by rw [il]; exact ysub b hb, ylen⟩
    · rintro σ H' ⟨v3, v4, v5, v6, ls, rs, rfl, kp, sr, hF, pl, far⟩
      rw [show ((((ns.map V.str).length : Nat) : Int)).toNat = ns.length from al] at far
      exact ⟨_, rfl, k H' fa ls kp sr ⟨rs, hF, pl⟩ (by rw [far.nms, List.take_of_length_le (Nat.le_refl _)]) (far.ok dr n7)⟩
end
end K1

namespace K1
open PySem PySem.Spec PyProof.Rows L2 Own
/-! ### what stands above, reckoned by the law -/
abbrev Any1 (y : List Str) : Prop := True
abbrev All1 (a : Addr) : Prop := True
def spOver : Sp := fun vs H Q _ => ∃ r ls, vs = [.ref r] ∧ LinsAt H r ls ∧ LnsOk ls ∧ ∀ H' d T, Same H H' → DictAt All1 H' d T → Tab Any1 ls T → Q (.ref d) H'
theorem more_nd {o y : List Str} (no : o.Nodup) (ny : y.Nodup) : (o ++ y.filter fun x => decide (x ∉ o)).Nodup := by
  refine List.nodup_append.mpr ⟨no, ny.sublist List.filter_sublist, fun a ha b hb e => ?_⟩
  have q := (List.mem_filter.mp hb).2
  exact of_decide_eq_true q (e ▸ ha)
theorem more_mem {o y : List Str} {x : Str} : x ∈ o ++ (y.filter fun x => decide (x ∉ o)) ↔ x ∈ o ∨ x ∈ y := by
  rw [List.mem_append, List.mem_filter]
  by_cases h : x ∈ o
  · exact ⟨fun _ => .inl h, fun _ => .inl h⟩
  · constructor
    · rintro (q | ⟨q, _⟩)
      · exact .inl q
      · exact .inr q
    · rintro (q | q)
      · exact .inl q
      · exact .inr ⟨q, decide_eq_true h⟩
section
variable {P : Program} {w : World} {K : PySem.W.Frag} {mg : Str → Option Value} {base : Heap}
theorem scOver : FnScope ["lines", "found", "label", "bases", "over", "base", "one"] ["lines"] (defScope sOver) := ⟨rfl, rfl, rfl, by decide +kernel, rfl, by decide +kernel, by decide +kernel⟩
theorem ok_over {f : Addr} {fd : FuncData} (F : Fun K "_law_over" "_law_over" sOver f fd) : FnOk P w K mg base CX0 1 f fd ["lines"] spOver := by
  refine F.ok scOver (fun vs H Q E h => ?_) (fun cdv A outer s H vs Q E hr h => ?_)
  · obtain ⟨r, ls, rfl, _⟩ := h
    rfl
  · obtain ⟨r, ls, rfl, la, ok, k⟩ := h
    obtain ⟨rs, hs, pr⟩ := la
    have hu := hu_of hr
    have hs' : SeqOf H r rs := .inl hs
    refine ⟨_, pss_cons (ps_set (i := 1) scOver.nd rfl (Or.inl rfl) pe_dnewK)
      (pss_cons (ps_for PassesOwn.never rfl (pi_seq 0) (pg_tup rfl (pgs_cons (pg_name (i := 2) scOver.nd rfl (Or.inl rfl)) (pgs_cons (pg_name (i := 3) scOver.nd rfl (Or.inl rfl)) pgs_nil)))
        (pss_cons (ps_set (i := 4) scOver.nd rfl (Or.inr rfl) (pe_lst (pa_cons (pv 2) pa_nil)))
        (pss_cons (ps_for PassesOwn.never rfl (pi_seq 3) (pg_name (i := 5) scOver.nd rfl (Or.inl rfl))
          (pss_one (ps_set (i := 4) scOver.nd rfl (Or.inr rfl) (pe_op op_cat (pv 4) (pe_lc (own := [("one", 6)]) (g := gName 6) (tt := tTest (tOp (rIn K true) (tVar 6) (tVar 4))) rfl scOver.nd (pi_list (pe_dget hu (pv 1) (pv 5) (fun _ _ => rfl))) (blkOk_by (N := ["lines", "found", "label", "bases", "over", "base", "one"]) (sc := defScope sOver) (by decide +kernel))
            (fun _ _ _ _ _ => pg_name (i := 6) scOver.nd rfl (Or.inl rfl)) (fun _ _ _ _ _ => pts_one (pt_cmpR op_notIn_seq (pv 6) (pv 4) (by rfl))) (fun _ _ _ _ _ => pv 6))))))
        (pss_one (ps_dput hu (pv 1) (pv 2) (pv 4) rfl)))))
      (pss_one (ps_ret (pv 1)))), ?_⟩
    intro d nd
    have s1 : Same H (upd H d (.dK [])) := same_upd nd
    refine for_seq (a := r) (xs := rs) (by rfl) (hs'.same s1) (fun i σ H' => ∃ v2 v3 v4 v5 v6 T, σ = [some (.ref r), some (.ref d), v2, v3, v4, v5, v6] ∧ Same H H' ∧ DictAt All1 H' d T ∧ Tab Any1 (ls.take i) T)
      ⟨none, none, none, none, none, [], rfl, s1, ⟨trivial, [], upd_same, .nil⟩, Tab.nil⟩ (fun i σ H' hi ⟨_, _, _, _, _, _, _, sm, _⟩ => seqs_keep hs' s1 sm) ?_ ?_
    · rintro i x σ H' hx ⟨v2, v3, v4, v5, v6, T, rfl, sm, dT, tab⟩
      obtain ⟨l, hl2, t, b, rfl, ht, hb⟩ := paired_at pr hx
      have hi : i < ls.length := (List.getElem?_eq_some_iff.mp hl2).1
      have few := ok.few
      obtain ⟨b1, b2, b3⟩ := ok.base i l hl2
      have hb' : SeqOf H b (l.2.map V.str) := .inr hb
      refine ⟨t, _, rfl, SqT.of (sm _ _ ht), rfl, _, _, rfl, _, _, rfl, rfl, ?_⟩
      refine ⟨_, rfl, (by show 1 ≤ sizeLine; decide), fun p np => ?_⟩
      have s2 : Same H' (upd H' p (.lst [.str l.1])) := same_upd np
      refine for_seq (a := b) (xs := l.2.map V.str) (by rfl) ((hb'.same sm).same s2) (fun j σ H2 => ∃ p v5 v6 o, σ = [some (.ref r), some (.ref d), some (.str l.1), some (.ref b), some (.ref p), v5, v6] ∧ Same H' H2 ∧ H2 p = some (.lst (o.map V.str)) ∧ o.Nodup ∧ ∀ x, x ∈ o ↔ x = l.1 ∨ ∃ c ∈ l.2.take j, x ∈ look T c)
        ⟨p, v5, v6, [l.1], rfl, s2, upd_same, by simp, fun x => by simp⟩ (fun j σ H2 hj ⟨_, _, _, _, _, sm2, _⟩ => seqs_keep (hb'.same sm) s2 sm2) ?_ ?_
      · rintro j x σ H2 hx ⟨p, v5, v6, o, rfl, sm2, hp, no, mo⟩
        rw [List.getElem?_map] at hx
        obtain ⟨c, hc, rfl⟩ := Option.map_eq_some_iff.mp hx
        have cl : c ∈ l.2 := List.mem_of_getElem? hc
        have cT : c ∈ T.map (·.1) := by rw [tab.nms]; exact b2 c cl
        obtain ⟨_, kvs, hd, pk⟩ := dT.same sm2
        obtain ⟨q, nq, eq, hq⟩ := ent_get pk (look_in cT)
        have g : DGet H2 d (.str c) (some (.ref q)) := by
          rw [← eq]
          exact DGet.k (k := Sum.inr c) hd
        have lk := look_len (ok.take i) tab c
        have ol := small_of ok hl2 tab no fun x hx => (mo x).mp hx |>.imp id fun ⟨c, h1, h2⟩ => ⟨c, h2⟩
        refine ⟨_, rfl, _, rfl, _, rfl, d, _, rfl, g, q, rfl, ⟨_, SqL.of hq⟩, fun D nD => ?_⟩
        refine lc_list (K := K) (a := q) (xs := (look T c).map V.str) (fun m H3 => Same H2 H3 ∧ H3 D = some (.lst ((((look T c).take m).filter fun x => decide (x ∉ o)).map V.str))) ⟨same_upd nD, upd_same⟩ (fun m H3 hm z => SqL.of (z.1 _ _ hq)) ?_ ?_
        · rintro m x H3 hx ⟨sm3, hD⟩
          rw [List.getElem?_map] at hx
          obtain ⟨z, hz, rfl⟩ := Option.map_eq_some_iff.mp hx
          refine ⟨rfl, _, rfl, _, rfl, p, _, rfl, .inl (SqL.of (sm3 _ _ hp)), rfl, flat_strs _, _, rfl, ?_⟩
          rw [show (if true = true then !inV (V.str z) (o.map V.str) else inV (V.str z) (o.map V.str)) = decide (z ∉ o) from by
            rw [if_pos rfl, inV_str, decide_not]]
          have tk : (((look T c).take (m + 1)).filter fun x => decide (x ∉ o)) = (((look T c).take m).filter fun x => decide (x ∉ o)) ++ [z].filter fun x => decide (x ∉ o) := by
            rw [List.take_add_one, hz, List.filter_append]
            rfl
          refine ite2 (fun cc => ?_) (fun cc => ?_)
          · refine ⟨_, rfl, _, hD, ?_, same_past nD sm3, ?_⟩
            · have a := filter_len (fun x => decide (x ∉ o)) ((look T c).take m)
              rw [List.length_take] at a
              rw [List.length_map]
              exact small1000 (by omega)
            · show upd H3 D _ D = _
              rw [upd_same, tk, List.filter_cons, if_pos cc, List.map_append]
              rfl
          · refine ⟨sm3, ?_⟩
            rw [tk, List.filter_cons, if_neg cc, List.filter_nil, List.append_nil]
            exact hD
        · rintro H3 ⟨sm3, hD⟩
          rw [List.length_map, List.take_of_length_le (Nat.le_refl _)] at hD
          have fl := filter_len (fun x => decide (x ∉ o)) (look T c)
          refine ⟨p, D, _, _, rfl, rfl, sm3 _ _ hp, hD, ?_, fun u nu => ?_⟩
          · rw [List.length_map, List.length_map, sizeLine_eq]
            omega
          refine ⟨u, _, _, o ++ (look T c).filter fun x => decide (x ∉ o), rfl, (sm2.trans sm3).trans (same_upd nu), ?_, more_nd no (look_nd tab c), fun x => ?_⟩
          · rw [upd_same, List.map_append]
          · rw [more_mem, mo x, List.take_add_one, hc]
            simp only [Option.toList, List.mem_append, List.mem_singleton]
            constructor
            · rintro ((e | ⟨c', h1, h2⟩) | h2)
              · exact .inl e
              · exact .inr ⟨c', .inl h1, h2⟩
              · exact .inr ⟨c, .inr rfl, h2⟩
            · rintro (e | ⟨c', h1 | h1, h2⟩)
              · exact .inl (.inl e)
              · exact .inl (.inr ⟨c', h1, h2⟩)
              · subst h1
                exact .inr h2
      · rintro σ H2 ⟨p, v5, v6, o, rfl, sm2, hp, no, mo⟩
        rw [List.length_map, List.take_of_length_le (Nat.le_refl _)] at mo
        have ol := small_of ok hl2 tab no fun x hx => (mo x).mp hx |>.imp id fun ⟨c, h1, h2⟩ => ⟨c, h2⟩
        obtain ⟨_, kvs, hd, pk⟩ := dT.same sm2
        have nlT : l.1 ∉ T.map (·.1) := by
          rw [tab.nms]
          exact not_before ok.nd hl2
        have kl : kvs.length = T.length := paired_len pk
        have Tl : T.length ≤ 7 := by
          rw [tab.len, List.length_take]
          omega
        have put := DPut.k (k := Sum.inr l.1) (v := .ref p) hd (small1000 (by omega))
        rw [putK_new _ (ent_none pk nlT)] at put
        refine ⟨_, rfl, _, rfl, _, rfl, d, _, rfl, put, ?_⟩
        have e4 : ∀ a u, a ≠ d → H2 a = some u → (upd H2 d (.dK (kvs ++ [(Sum.inr l.1, .ref p)]))) a = some u := fun a u ne e => by
          rw [upd_ne ne]
          exact e
        refine ⟨_, _, _, _, _, T ++ [(l.1, o)], rfl, fun a u e => e4 a u (ne_of_none e nd) (sm2 _ _ (sm _ _ e)), ⟨trivial, _, upd_same, ?_⟩, ?_⟩
        · refine Paired.snoc (paired_imp (fun kv t => ?_) pk) ⟨rfl, p, trivial, rfl, e4 _ _ (ne_of hp hd (by intro z; cases z)) hp⟩
          rintro ⟨a1, a2, a3, a4, a5⟩
          exact ⟨a1, a2, a3, a4, e4 _ _ (ne_of a5 hd (by intro z; cases z)) a5⟩
        · rw [List.take_add_one, hl2]
          exact tab.snoc ⟨no, fun x => mo x⟩ trivial
    · rintro σ H' ⟨v2, v3, v4, v5, v6, T, rfl, sm, dT, tab⟩
      rw [paired_len pr, List.take_of_length_le (Nat.le_refl _)] at tab
      exact ⟨_, rfl, k _ d T sm dT tab⟩
end
end K1

namespace K1
open PySem PySem.Spec PyProof.Rows L2 Own
/-! ### is it right? -/
theorem look_same {S S' : List Str → Prop} {ls ls' : List Ln} {T T' : Tb} (ok : LnsOk ls) (a : Alike ls ls') (h : Tab S ls T) (h' : Tab S' ls' T') {n : Str} (hn : n ∈ nms ls) : ∀ x, x ∈ look T n ↔ x ∈ look T' n := by
  obtain ⟨l, hl, e⟩ := List.mem_map.mp hn
  obtain ⟨i, hi⟩ := List.mem_iff_getElem?.mp hl
  obtain ⟨y, hy, _⟩ := h.row i l hi
  obtain ⟨l', hl', e1, _⟩ := paired_at a hi
  obtain ⟨y', hy', _⟩ := h'.row i l' hl'
  obtain ⟨_, q⟩ := tab_alike ok a h h' i _ _ _ _ hy hy'
  have ndT : (T.map (·.1)).Nodup := by rw [h.nms]; exact ok.nd
  have ndT' : (T'.map (·.1)).Nodup := by rw [h'.nms, ← a.nms]; exact ok.nd
  intro x
  subst e
  rw [look_at ndT hy, e1, look_at ndT' hy']
  exact q x
theorem look_srt {ls : List Ln} {T : Tb} (h : Tab Srt ls T) {n : Str} (hn : n ∈ nms ls) (nd : (nms ls).Nodup) : Srt (look T n) := by
  obtain ⟨l, hl, e⟩ := List.mem_map.mp hn
  obtain ⟨i, hi⟩ := List.mem_iff_getElem?.mp hl
  obtain ⟨y, hy, s, _⟩ := h.row i l hi
  have ndT : (T.map (·.1)).Nodup := by rw [h.nms]; exact nd
  subst e
  rw [look_at ndT hy]
  exact s
theorem perm_of_nd {xs ys : List Str} (nx : xs.Nodup) (ny : ys.Nodup) (h : ∀ x, x ∈ xs ↔ x ∈ ys) : xs.Perm ys := by
  refine (List.perm_ext_iff_of_nodup nx ny).mpr h
theorem strs3_shaped {a b c : List Str} (ha : ∀ s ∈ a, Low s) (hb : ∀ s ∈ b, Low s) (hc : ∀ s ∈ c, Low s) : SeqAt.shaped (.list [strsD a, strsD b, strsD c]) = true := by
  obtain ⟨a1, a2⟩ := strs_lay a ha
  obtain ⟨b1, b2⟩ := strs_lay b hb
  obtain ⟨c1, c2⟩ := strs_lay c hc
  show ((PyData.canLayAll0 (a.map .str) && (PyData.canLayAll0 (b.map .str) && (PyData.canLayAll0 (c.map .str) && true))) && decide (max (PyData.depthAll (a.map .str) + 1) (max (PyData.depthAll (b.map .str) + 1) (max (PyData.depthAll (c.map .str) + 1) 0)) + 1 ≤ 64)) = true
  rw [a1, a2, b1, b2, c1, c2]
  rfl
theorem ne_self {d : PyData} (h : SeqAt.shaped d = true) : (!PyData.eqv d d) = false := by
  rw [SeqAt.eqv_refl _ (SeqAt.canLay_of_shaped h)]
  rfl
/-- a value that no table holds -/
def OddV (ns : List Str) (H : Hp) (v : V) : Prop := (∃ z, v = .str z ∧ z ∉ ns) ∨ v = .non ∨ (∃ i, v = .int i) ∨ (∃ b, v = .bl b) ∨ (∃ a xs, v = .ref a ∧ (H a = some (.lst xs) ∨ H a = some (.tup xs)))
theorem OddV.same {ns : List Str} {H H' : Hp} {v : V} (h : OddV ns H v) (s : Same H H') : OddV ns H' v := by
  rcases h with h | h | h | h | ⟨a, xs, e, q | q⟩
  · exact .inl h
  · exact .inr (.inl h)
  · exact .inr (.inr (.inl h))
  · exact .inr (.inr (.inr (.inl h)))
  · exact .inr (.inr (.inr (.inr ⟨a, xs, e, .inl (s _ _ q)⟩)))
  · exact .inr (.inr (.inr (.inr ⟨a, xs, e, .inr (s _ _ q)⟩)))
theorem OddV.ty {K : PySem.W.Frag} {ns : List Str} {H : Hp} {v : V} (h : OddV ns H v) : (∃ z, v = .str z ∧ z ∉ ns) ∨ ∃ t, TyX K H v t ∧ PySem.W.kitOne K t (.type "str") = some false := by
  rcases h with h | rfl | ⟨i, rfl⟩ | ⟨b, rfl⟩ | ⟨a, xs, rfl, q | q⟩
  · exact .inl h
  · exact .inr ⟨_, .base .non, kit_ty (by decide +kernel)⟩
  · exact .inr ⟨_, .base (.int _), kit_ty (by decide +kernel)⟩
  · exact .inr ⟨_, .base (.bl _), kit_ty (by decide +kernel)⟩
  · exact .inr ⟨_, .base (.lst q), kit_ty (by decide +kernel)⟩
  · exact .inr ⟨_, .base (.tup q), kit_ty (by decide +kernel)⟩
def spRight (C : Addr) : Sp := fun vs H Q _ => ∃ x a ls ls' T, vs = [.ref x, .ref a] ∧ KIn C H x ls ls' T ∧ LinsAt H a ls ∧ LnsOk ls ∧ ("zzzz" : Str) ∉ nms ls ∧ ∀ H', Same H H' → Q (.bl true) H'
abbrev nR : List Str := ["sorts", "lines", "over", "labels", "label", "below", "held", "some", "odd", "row", "one"]
section
variable {P : Program} {w : World} {K : PySem.W.Frag} {mg : Str → Option Value} {base : Heap}
theorem scRight : FnScope nR ["sorts", "lines"] (defScope sRight) := ⟨rfl, rfl, rfl, by decide +kernel, rfl, by decide +kernel, by decide +kernel⟩
theorem ok_right {C f fV p fO fL fR fI fB fA : Addr} {fd dV dO dL dR dI dB dA : FuncData} (F : Fun K "_law_is_right" "_law_is_right" sRight f fd) (T : KTxt K mg C)
    (GV : FnOk P w K mg base CX0 1 fV dV ["lines"] spOver) (kV : PySem.W.keepIn K (.ref fV) = true) (bV : Binds K dV ["lines"] []) (mV : mg "_law_over" = some (.ref fV))
    (po : PropOf K C "order" p fO) (GO : FnOk P w K mg base CX0 1 fO dO ["self"] (spOrder C)) (bO : Binds K dO ["self"] [])
    (cL : Spc K C "__len__" fL) (GL : FnOk P w K mg base CX0 1 fL dL ["self"] (spLen C)) (bL : Binds K dL ["self"] [])
    (cR : Spc K C "__repr__" fR) (GR : FnOk P w K mg base CX0 3 fR dR ["self"] (spRepr C)) (bR : Binds K dR ["self"] [])
    (cI : Spc K C "__contains__" fI) (GI : FnOk P w K mg base CX0 1 fI dI ["self", "x"] (spIn C K)) (bI : Binds K dI ["self", "x"] [])
    (mB : Meth K C "below" fB) (GB : FnOk P w K mg base CX0 3 fB dB ["self", "name"] (spBelow C)) (bB : Binds K dB ["self", "name"] []) (kB : BK1 dB ["self", "name"] "name")
    (mA : Meth K C "above" fA) (GA : FnOk P w K mg base CX0 3 fA dA ["self", "name"] (spAbove C)) (bA : Binds K dA ["self", "name"] []) (kA : BK1 dA ["self", "name"] "name")
    (hn : PySem.W.findIn K (.ref C) "__bool__" = some none) (mrp : mg "repr" = none) (man : mg "any" = none) (mbo : mg "bool" = none) : FnOk P w K mg base CX0 6 f fd ["sorts", "lines"] (spRight C) := by
  refine F.ok scRight (fun vs H Q E h => ?_) (fun cdv A outer s H vs Q E hr h => ?_)
  · obtain ⟨x, a, ls, ls', TT, rfl, _⟩ := h
    rfl
  · obtain ⟨x, a, ls, ls', TT, rfl, kin, lat, ok, nz, k⟩ := h
    have hu := hu_of hr
    have ml := T.len
    have ms := T.sorted
    have hr1 : Room 1 _ := hr.mono (by decide)
    have hr2 : Room 2 _ := hr.mono (by decide)
    have hr3 : Room 3 _ := hr.mono (by decide)
    have hr4 : Room 4 _ := hr.mono (by decide)
    refine ⟨_, pss_cons (ps_set (i := 2) scRight.nd rfl (Or.inr rfl) (pe_call GV hr1 (by rfl) mV kV bV .nil pass0 (pa_cons (pv 1) pa_nil)))
      (pss_cons (ps_setLc (i := 3) (own := [("row", 9)]) (g := gName 9) (tt := tYes) (te := tOp (rIxT K) (tVar 9) (tC (.int 0))) rfl scRight.nd rfl rfl (by rfl) (pi_list (pv 1)) (blkOk_by (N := nR) (sc := defScope sRight) (by decide +kernel))
        (fun _ _ _ _ _ => pg_name (i := 9) scRight.nd rfl (Or.inl rfl)) (fun _ _ _ _ _ => pts_nil) (fun _ _ _ _ _ => pe_ix ix_tup (pv 9) pe_int (fun _ _ => rfl)))
      (pss_cons (ps_if (PW.pt (pw_or (pt_cmpR (op_neD hr.units) (pe_prop (pv 0) T.cl po GO hr2 bO .nil pass0 rfl) (pv 3) (nomark _))
          (pw_or (pt_cmpR op_ne (pe_callB (call_lenO cL GL hr2 bL) (by rfl) ml PySem.boot_len (pa_cons (pv 0) pa_nil)) (pe_callB call_len_seq (by rfl) ml PySem.boot_len (pa_cons (pv 3) pa_nil)) (nomark _))
          (pw_or1 (pt_cmpR op_ne (pe_callB (call_reprO cR GR hr4 bR) (by rfl) mrp (by decide +kernel) (pa_cons (pv 0) pa_nil)) (pe_op op_add_str (pe_op op_add_str pe_str (pe_join pe_str (pv 3))) pe_str) (nomark _)))))) (pss_one (ps_ret pe_bl)) pss_nil)
      (pss_cons (ps_for PassesOwn.never rfl (pi_list (pv 3)) (pg_name (i := 4) scRight.nd rfl (Or.inr rfl))
        (pss_cons (ps_set (i := 5) scRight.nd rfl (Or.inl rfl) (pe_callB cr_sortedQ (by rfl) ms (by decide +kernel) (pa_cons (pe_lc (own := [("one", 10)]) (g := gName 10) (tt := tTest (tOp (rIn K false) (tVar 4) (tDGet (tVar 2) (tVar 10)))) rfl scRight.nd (pi_list (pv 3)) (blkOk_by (N := nR) (sc := defScope sRight) (by decide +kernel))
          (fun _ _ _ _ _ => pg_name (i := 10) scRight.nd rfl (Or.inl rfl)) (fun _ _ _ _ _ => pts_one (pt_cmpR op_in_seq (pv 4) (pe_dget hu (pv 2) (pv 10) (fun _ _ => rfl)) (by rfl))) (fun _ _ _ _ _ => pv 10)) pa_nil)))
        (pss_cons (ps_if (PW.pt (pw_or (pt_cmpR (op_neD hr.units) (pe_meth (pv 0) T.cl mB GB hr3 bB .nil pass0 (pa_cons (pv 4) pa_nil)) (pv 5) (nomark _))
          (pw_or1 (pt_cmpR (op_neD hr.units) (pe_methK (E := E0) (pv 0) T.cl mA GA hr3 kA (pv 4)) (pe_callB cr_sortedQ (by rfl) ms (by decide +kernel) (pa_cons (pe_dget hu (pv 2) (pv 4) (fun _ _ => rfl)) pa_nil)) (nomark _))))) (pss_one (ps_ret pe_bl)) pss_nil)
        (pss_cons (ps_set (i := 6) scRight.nd rfl (Or.inl rfl) (pe_lst (pa_cons (pe_prop (pv 0) T.cl po GO hr2 bO .nil pass0 rfl) (pa_cons (pe_methK (E := E0) (pv 0) T.cl mB GB hr3 kB (pv 4)) (pa_cons (pe_meth (pv 0) T.cl mA GA hr3 bA .nil pass0 (pa_cons (pv 4) pa_nil)) pa_nil)))))
        (pss_cons (ps_for PassesOwn.never rfl (pi_list (pv 6)) (pg_name (i := 7) scRight.nd rfl (Or.inl rfl))
          (pss_one (ps_expr (pe_bm PySem.F.plainAttrs_list PySem.F.slot_list_append PySem.F.type_list_append mt_append (pv 7) (pa_cons pe_str pa_nil)))))
        (pss_cons (ps_if (pt_cmpR (op_neD hr.units) (pe_lst (pa_cons (pe_prop (pv 0) T.cl po GO hr2 bO .nil pass0 rfl) (pa_cons (pe_meth (pv 0) T.cl mB GB hr3 bB .nil pass0 (pa_cons (pv 4) pa_nil)) (pa_cons (pe_meth (pv 0) T.cl mA GA hr3 bA .nil pass0 (pa_cons (pv 4) pa_nil)) pa_nil))))
            (pe_lst (pa_cons (pv 3) (pa_cons (pv 5) (pa_cons (pe_callB cr_sortedQ (by rfl) ms (by decide +kernel) (pa_cons (pe_dget hu (pv 2) (pv 4) (fun _ _ => rfl)) pa_nil)) pa_nil)))) (nomark _)) (pss_one (ps_ret pe_bl)) pss_nil)
        (pss_one (ps_if (pt_cmpR (op_notInO cI GI hr1 bI) (pv 4) (pv 0) (by rfl)) (pss_one (ps_ret pe_bl)) pss_nil))))))))
      (pss_cons (ps_set (i := 8) scRight.nd rfl (Or.inl rfl) (pe_lst (pa_cons pe_non (pa_cons pe_str (pa_cons pe_str (pa_cons pe_str (pa_cons pe_int (pa_cons pe_bl (pa_cons (pe_tup pa_nil) (pa_cons
          (pe_slice sl_list (pe_op op_cat (pe_slice sl_list (pv 3) po_none (po_some pe_int)) (pe_lst (pa_cons pe_str pa_nil))) (po_some pe_int) (po_some pe_int))
          (pa_cons (pe_tup (pa_cons pe_str pa_nil)) (pa_cons (pe_lst (pa_cons (pe_lst pa_nil) pa_nil)) (pa_cons pe_str pa_nil)))))))))))))
      (pss_cons (ps_if (pt_val (pe_callB (cr_any rfl) (by rfl) man (by decide +kernel) (pa_cons (pe_lc (own := [("one", 10)]) (g := gName 10) (tt := tYes) rfl scRight.nd (pi_list (pv 8)) (blkOk_by (N := nR) (sc := defScope sRight) (by decide +kernel))
        (fun _ _ _ _ _ => pg_name (i := 10) scRight.nd rfl (Or.inl rfl)) (fun _ _ _ _ _ => pts_nil) (fun _ _ _ _ _ => pe_cmpR (op_inO cI GI hr1 bI) (pv 10) (pv 0) (by rfl))) pa_nil))) (pss_one (ps_ret pe_bl)) pss_nil)
      (pss_one (ps_ret (pe_cmpR op_eq (pe_callTy (call_boolO hn cL GL hr bL) (by rfl) mbo (by decide +kernel) (pa_cons (pv 0) pa_nil)) (pe_cmpR (op_neD hr.units) (pv 3) (pe_lst pa_nil) (nomark _)) (nomark _))))))))), ?_⟩
    obtain ⟨dx, r, d, rs0, kvs0, hx, _, _, _, _⟩ := kin.ex
    have few := ok.few
    have nlen : (nms ls).length = ls.length := List.length_map _
    have low := ok.low
    refine ⟨_, rfl, a, ls, rfl, lat, ok, fun H1 oV T2 s1 dO tab2 => ?_⟩
    obtain ⟨rs, hs, pr⟩ := lat.same s1
    refine ⟨_, rfl, a, rfl, ⟨_, SqL.of hs⟩, fun L nL => ?_⟩
    refine lc_list (K := K) (a := a) (xs := rs) (fun i H' => Same H1 H' ∧ H' L = some (.lst ((nms (ls.take i)).map V.str))) ⟨same_upd nL, upd_same⟩ (fun i H' hi z => SqL.of (z.1 _ _ hs)) ?_ ?_
    · rintro i v H' hv ⟨sm, hL⟩
      obtain ⟨l, hl2, t, b, rfl, ht, _⟩ := paired_at pr hv
      have hi : i < ls.length := (List.getElem?_eq_some_iff.mp hl2).1
      refine ⟨rfl, _, rfl, t, _, 0, _, rfl, rfl, SqT.of (sm _ _ ht), atI_nat (j := 0) rfl, _, hL, ?_, same_past nL sm, ?_⟩
      · rw [List.length_map, List.length_map, List.length_take]
        exact small1000 (by omega)
      · rw [upd_same, show nms (ls.take (i + 1)) = nms (ls.take i) ++ [l.1] from take_succ_map hl2, List.map_append]
        rfl
    rintro H2 ⟨s2, hL⟩
    rw [paired_len pr, List.take_of_length_le (Nat.le_refl _)] at hL
    have s12 := s1.trans s2
    have ins : ∀ {H'}, Same H H' → H' x = some (.ins C dx (kf r d)) := fun s => s _ _ hx
    have shL := strs_shaped low
    -- the order, the length, the text
    refine ⟨_, rfl, x, dx, _, rfl, ins s12, x, ls, ls', TT, rfl, kin.same s12, (by omega), fun H3 o s3 no ho => ?_⟩
    have s13 := s12.trans s3
    refine ⟨_, rfl, strsD (nms ls), strsD (nms ls), .lst (SqL.of ho) (strs_dp _), .lst (SqL.of (s3 _ _ hL)) (strs_dp _), shL, shL, ?_⟩
    rw [ne_self shL]
    refine ⟨_, rfl, iteF ?_⟩
    refine ⟨_, rfl, x, dx, _, rfl, ins s13, x, ls, ls', TT, rfl, kin.same s13, _, rfl, (by omega), (by omega), _, rfl, L, _, rfl, .inl (SqL.of (s3 _ _ hL)), rfl, ?_⟩
    rw [List.length_map, List.length_map, decide_eq_true rfl]
    refine ⟨_, rfl, iteF ?_⟩
    obtain ⟨f1, f2⟩ := join_fits ok
    have l6 : ("Kinds(" : Str).length = 6 := by decide +kernel
    have l1 : (")" : Str).length = 1 := by decide +kernel
    refine ⟨_, rfl, x, dx, _, rfl, ins s13, x, ls, ls', TT, rfl, kin.same s13, ok, fun H4 s4 => ?_⟩
    have s14 := s13.trans s4
    have hL4 := s4 _ _ (s3 _ _ hL)
    refine ⟨_, rfl, ⟨_, rfl⟩, _, rfl, _, L, nms ls, rfl, rfl, .inl (SqL.of hL4), (by omega), _, _, rfl, rfl, (by rw [sizeLine_eq, l6]; omega), _, _, rfl, rfl, (by rw [sizeLine_eq, Str.length_append, l6, l1]; omega), rfl, ?_⟩
    refine ⟨false, congrArg V.bl (congrArg (fun b => !b) (decide_eq_true rfl)), iteF ?_⟩
    have dO4 : DictAt All1 H4 oV T2 := ((dO.same s2).same s3).same s4
    have kin4 := kin.same s14
    clear ho
    obtain ⟨_, kvs2, hd2, pk2⟩ := dO4
    have same2 : ∀ n ∈ nms ls, ∀ z, z ∈ look T2 n ↔ z ∈ look TT n := fun n h => look_same ok kin.srt.alike tab2 kin.tab h
    have get2 : ∀ {H' : Hp} {n : Str}, Same H4 H' → n ∈ nms ls → ∃ q, DGet H' oV (.str n) (some (.ref q)) ∧ H' q = some (.lst ((look T2 n).map V.str)) := fun {H' n} s h => by
      have nT : n ∈ T2.map (·.1) := by rw [tab2.nms]; exact h
      obtain ⟨q, _, eq, hq⟩ := ent_get pk2 (look_in nT)
      refine ⟨q, ?_, s _ _ hq⟩
      rw [← eq]
      exact DGet.k (k := Sum.inr n) (s _ _ hd2)
    have srtA : ∀ {n : Str} {ys : List Str}, n ∈ nms ls → ys.Perm (look T2 n) → Srt ys → ys = look TT n := fun {n ys} h pe so =>
      sorted_one (pe.trans (perm_of_nd (look_nd tab2 n) (look_nd kin.tab n) (same2 n h))) so (look_srt kin.tab (by rw [← kin.srt.alike.nms]; exact h) (by rw [← kin.srt.alike.nms]; exact ok.nd))
    have len2 : ∀ n, (look T2 n).length ≤ 7 := look_len ok tab2
    have lowA : ∀ n, ∀ z ∈ look TT n, Low z := fun n z hz => low z (by
      have q := look_sub (kin.srt.ok ok) kin.tab hz
      rw [← kin.srt.alike.nms] at q
      exact q)
    -- name by name
    refine ⟨_, rfl, L, rfl, ⟨_, SqL.of hL4⟩, ?_⟩
    refine for_list (K := K) (a := L) (xs := (nms ls).map V.str) (fun i σ H' => ∃ v4 v5 v6 v7 v8 v9 v10, σ = [some (.ref x), some (.ref a), some (.ref oV), some (.ref L), v4, v5, v6, v7, v8, v9, v10] ∧ Same H4 H') ⟨_, _, _, _, _, _, _, rfl, Same.refl H4⟩ (fun i σ H' hi ⟨_, _, _, _, _, _, _, _, sm⟩ => SqL.of (sm _ _ hL4)) ?_ ?_
    · rintro i v σ H5 hv ⟨v4, v5, v6, v7, v8, v9, v10, rfl, sm⟩
      rw [List.getElem?_map] at hv
      obtain ⟨n, hn2, rfl⟩ := Option.map_eq_some_iff.mp hv
      have hnm : n ∈ nms ls := List.mem_of_getElem? hn2
      have s15 := s14.trans sm
      refine ⟨_, rfl, L, rfl, ⟨_, SqL.of (sm _ _ hL4)⟩, fun D nD => ?_⟩
      refine lc_list (K := K) (a := L) (xs := (nms ls).map V.str) (fun i H' => Same H5 H' ∧ H' D = some (.lst ((((nms ls).take i).filter fun m => decide (n ∈ look T2 m)).map V.str))) ⟨same_upd nD, upd_same⟩ (fun i H' hi z => SqL.of (z.1 _ _ (sm _ _ hL4))) ?_ ?_
      · rintro j v H6 hv ⟨sm6, hD⟩
        rw [List.getElem?_map] at hv
        obtain ⟨m, hm, rfl⟩ := Option.map_eq_some_iff.mp hv
        obtain ⟨q, g, hq⟩ := get2 (sm.trans sm6) (List.mem_of_getElem? hm)
        refine ⟨rfl, _, rfl, _, rfl, _, rfl, oV, _, rfl, g, q, _, rfl, .inl (SqL.of hq), rfl, flat_strs _, _, rfl, ?_⟩
        rw [show (if false = true then !inV (V.str n) ((look T2 m).map V.str) else inV (V.str n) ((look T2 m).map V.str)) = decide (n ∈ look T2 m) from by
          rw [if_neg Bool.false_ne_true, inV_str]]
        have tk : (((nms ls).take (j + 1)).filter fun m => decide (n ∈ look T2 m)) = (((nms ls).take j).filter fun m => decide (n ∈ look T2 m)) ++ [m].filter fun m => decide (n ∈ look T2 m) := by
          rw [List.take_add_one, hm, List.filter_append]
          rfl
        refine ite2 (fun c => ?_) (fun c => ?_)
        · refine ⟨_, rfl, _, hD, ?_, same_past nD sm6, ?_⟩
          · have z := filter_len (fun m => decide (n ∈ look T2 m)) ((nms ls).take j)
            rw [List.length_take] at z
            rw [List.length_map]
            exact small1000 (by omega)
          · show upd H6 D _ D = _
            rw [upd_same, tk, List.filter_cons, if_pos c, List.map_append]
            rfl
        · refine ⟨sm6, ?_⟩
          rw [tk, List.filter_cons, if_neg c, List.filter_nil, List.append_nil]
          exact hD
      rintro H6 ⟨sm6, hD⟩
      rw [List.length_map, List.take_of_length_le (Nat.le_refl _)] at hD
      have fl := filter_len (fun m => decide (n ∈ look T2 m)) (nms ls)
      have fe : ((nms ls).filter fun m => decide (n ∈ look T2 m)) = (nms ls).filter fun m => decide (n ∈ look TT m) := List.filter_congr fun m hm => by
        rw [decide_eq_decide]
        exact same2 m hm n
      refine ⟨D, _, rfl, .inl hD, (by omega), fun ys pB pe so npB => ?_⟩
      rw [fe] at pe
      have lowB : ∀ z ∈ ys, Low z := fun z hz => low z (List.mem_filter.mp (pe.mem_iff.mp hz)).1
      have shB := strs_shaped lowB
      have shA := strs_shaped (lowA n)
      have s56 := sm6.trans (same_upd (o := .lst (ys.map V.str)) npB)
      have hB := upd_same (H := H6) (a := pB) (o := .lst (ys.map V.str))
      generalize upd H6 pB (.lst (ys.map V.str)) = H7 at s56 hB ⊢
      have sm7 := sm.trans s56
      have s17 := s14.trans sm7
      have kbel : ∀ zs : List Str, zs.Perm ((nms ls).filter fun m => decide (n ∈ look TT m)) → Srt zs → zs = ys := fun zs p2 s2 => sorted_one (p2.trans pe.symm) s2 so
      have nb : ∀ {m : Str}, ¬ m = "_rows" → ¬ m = "_above" → (kf r d).lookup m = none := fun a b => kf_no r d a b
      have nbB := nb (m := "below") (by decide +kernel) (by decide +kernel)
      have nbA := nb (m := "above") (by decide +kernel) (by decide +kernel)
      -- below, above
      refine ⟨_, rfl, x, dx, _, rfl, ins s17, nbB, _, rfl, x, n, ls, ls', TT, rfl, kin.same s17, ok, hnm, fun H8 p8 zs s8 pz sz np8 hp8 => ?_⟩
      have ez := kbel zs pz sz
      subst ez
      refine ⟨_, rfl, strsD zs, strsD zs, .lst (SqL.of hp8) (strs_dp _), .lst (SqL.of (s8 _ _ hB)) (strs_dp _), shB, shB, ?_⟩
      rw [ne_self shB]
      refine ⟨_, rfl, iteF ?_⟩
      have s18 := s17.trans s8
      refine ⟨_, rfl, x, dx, _, rfl, ins s18, nbA, _, rfl, x, n, ls, ls', TT, rfl, kin.same s18, hnm, fun H9 p9 s9 np9 hp9 => ?_⟩
      obtain ⟨q9, g9, hq9⟩ := get2 ((sm7.trans s8).trans s9) hnm
      refine ⟨_, rfl, _, rfl, oV, _, rfl, g9, q9, _, rfl, .inl hq9, (by have := len2 n; omega), fun us pU peU soU npU => ?_⟩
      have eu := srtA hnm peU soU
      subst eu
      refine ⟨strsD (look TT n), strsD (look TT n), .lst (SqL.of (same_upd npU _ _ hp9)) (strs_dp _), .lst (SqL.of upd_same) (strs_dp _), shA, shA, ?_⟩
      rw [ne_self shA]
      refine ⟨_, rfl, iteF ?_⟩
      have s9U := s9.trans (same_upd (o := .lst ((look TT n).map V.str)) npU)
      generalize upd H9 pU (.lst ((look TT n).map V.str)) = H10 at s9U ⊢
      have s7A := s8.trans s9U
      have s1A := s17.trans s7A
      -- the held lists
      refine ⟨_, rfl, x, dx, _, rfl, ins s1A, x, ls, ls', TT, rfl, kin.same s1A, (by omega), fun H11 o5 t1 no5 ho5 => ?_⟩
      have s1B := s1A.trans t1
      refine ⟨_, rfl, x, dx, _, rfl, ins s1B, nbB, _, rfl, x, n, ls, ls', TT, rfl, kin.same s1B, ok, hnm, fun H12 p6 zs6 t2 pz6 sz6 np6 hp6 => ?_⟩
      have s1C := s1B.trans t2
      refine ⟨_, rfl, x, dx, _, rfl, ins s1C, nbA, _, rfl, x, n, ls, ls', TT, rfl, kin.same s1C, hnm, fun H13 p7 t3 np7 hp7 => ?_⟩
      have t13 := (t1.trans t2).trans t3
      have f6 : H10 p6 = none := t1.free np6
      have f7 : H10 p7 = none := (t1.trans t2).free np7
      have hp6' := t3 _ _ hp6
      have ho5' := t3 _ _ (t2 _ _ ho5)
      have zl : zs6.length ≤ 7 := by
        have z := pz6.length_eq
        have z2 := filter_len (fun m => decide (n ∈ look TT m)) (nms ls)
        omega
      have al : (look TT n).length ≤ 7 := look_len (kin.srt.ok ok) kin.tab n
      refine ⟨(by show 3 ≤ sizeLine; decide), fun h nh => ?_⟩
      have q13 : ∀ q ∈ [o5, p6, p7], H10 q = none ∧ ∃ xs, H13 q = some (.lst xs) ∧ xs.length ≤ 7 := fun q hq => by
        rcases List.mem_cons.mp hq with e | hq
        · subst e
          exact ⟨no5, _, ho5', by rw [List.length_map]; omega⟩
        rcases List.mem_cons.mp hq with e | hq
        · subst e
          exact ⟨f6, _, hp6', by rw [List.length_map]; omega⟩
        rcases List.mem_cons.mp hq with e | hq
        · subst e
          exact ⟨f7, _, hp7, by rw [List.length_map]; omega⟩
        · cases hq
      have same13 : Same H13 (upd H13 h (.lst [.ref o5, .ref p6, .ref p7])) := same_upd nh
      refine ⟨_, rfl, h, rfl, ⟨_, SqL.of upd_same⟩, ?_⟩
      refine for_list (K := K) (a := h) (xs := [o5, p6, p7].map V.ref) (fun j σ H' => ∃ v7, σ = [some (.ref x), some (.ref a), some (.ref oV), some (.ref L), some (.str n), some (.ref pB), some (.ref h), v7, v8, v9, v10] ∧ Same H10 H' ∧ H' h = some (.lst ([o5, p6, p7].map V.ref)) ∧ ∀ q ∈ [o5, p6, p7], ∃ xs, H' q = some (.lst xs) ∧ xs.length ≤ 7 + j)
        ⟨v7, rfl, t13.trans same13, upd_same, fun q hq => ?_⟩ (fun j σ H' hj ⟨_, _, _, e, _⟩ => SqL.of e) ?_ ?_
      · obtain ⟨_, xs, e, l⟩ := q13 q hq
        exact ⟨xs, same13 _ _ e, by omega⟩
      · rintro j v σ H' hv ⟨v7, rfl, kp, hh, each⟩
        have j3 : j < 3 := (List.getElem?_eq_some_iff.mp hv).1
        rw [List.getElem?_map] at hv
        obtain ⟨q, hq, rfl⟩ := Option.map_eq_some_iff.mp hv
        have qm : q ∈ [o5, p6, p7] := List.mem_of_getElem? hq
        obtain ⟨qf, _, q13', _⟩ := q13 q qm
        have hq0 : h ≠ q := (ne_of_none q13' nh).symm
        obtain ⟨xs, hxs, xl⟩ := each q qm
        refine ⟨_, rfl, .inl ⟨rfl, _, SqL.of hxs⟩, q, _, _, rfl, rfl, hxs, small1000 (by omega), ?_⟩
        refine ⟨_, rfl, fun b o e => ?_, ?_, fun q2 hq2 => ?_⟩
        · rw [upd_ne (ne_of_none e qf)]
          exact kp _ _ e
        · rw [upd_ne hq0]
          exact hh
        · by_cases c : q2 = q
          · subst c
            exact ⟨_, upd_same, by rw [List.length_append, List.length_singleton]; omega⟩
          · obtain ⟨ys, e, l⟩ := each q2 hq2
            exact ⟨ys, by rw [upd_ne c]; exact e, by omega⟩
      rintro σ H14 ⟨v7, rfl, kp, _, _⟩
      have s1E := s1A.trans kp
      have s7E := s7A.trans kp
      -- the table itself is as it was
      refine ⟨_, rfl, x, dx, _, rfl, ins s1E, x, ls, ls', TT, rfl, kin.same s1E, (by omega), fun H15 o8 u1 n8 h8 => ?_⟩
      have s1F := s1E.trans u1
      refine ⟨_, rfl, x, dx, _, rfl, ins s1F, nbB, _, rfl, x, n, ls, ls', TT, rfl, kin.same s1F, ok, hnm, fun H16 p9 z9 u2 pz9 sz9 np9 hp9 => ?_⟩
      have ez := kbel z9 pz9 sz9
      subst ez
      have s1G := s1F.trans u2
      refine ⟨_, rfl, x, dx, _, rfl, ins s1G, nbA, _, rfl, x, n, ls, ls', TT, rfl, kin.same s1G, hnm, fun H17 p10 u3 np10 hp10 => ?_⟩
      have s7G := ((s7E.trans u1).trans u2).trans u3
      refine ⟨(by show 3 ≤ sizeLine; decide), fun g1 ng1 => ?_⟩
      have w1 := same_upd (o := .lst [.ref o8, .ref p9, .ref p10]) ng1
      obtain ⟨q9, g9, hq9⟩ := get2 ((sm7.trans s7G).trans w1) hnm
      refine ⟨_, rfl, _, rfl, _, rfl, _, rfl, oV, _, rfl, g9, q9, _, rfl, .inl hq9, (by have := len2 n; omega), fun us pU peU soU npU => ?_⟩
      have eu := srtA hnm peU soU
      subst eu
      have w2 := same_upd (o := .lst ((look TT n).map V.str)) npU
      refine ⟨(by show 3 ≤ sizeLine; decide), fun g2 ng2 => ?_⟩
      have w3 := same_upd (o := .lst [.ref L, .ref pB, .ref pU]) ng2
      have sh3 := strs3_shaped low lowB (lowA n)
      have w23 := w2.trans w3
      have w123 := w1.trans w23
      refine ⟨.list [strsD (nms ls), strsD z9, strsD (look TT n)], .list [strsD (nms ls), strsD z9, strsD (look TT n)],
        .lst (SqL.of (w23 _ _ upd_same)) (.cons (.lst (SqL.of (w123 _ _ (u3 _ _ (u2 _ _ h8)))) (strs_dp _)) (.cons (.lst (SqL.of (w123 _ _ (u3 _ _ hp9))) (strs_dp _)) (.cons (.lst (SqL.of (w123 _ _ hp10)) (strs_dp _)) .nil))),
        .lst (SqL.of upd_same) (.cons (.lst (SqL.of (w123 _ _ (s7G _ _ (sm7 _ _ hL4)))) (strs_dp _)) (.cons (.lst (SqL.of (w123 _ _ (s7G _ _ hB))) (strs_dp _)) (.cons (.lst (SqL.of (w3 _ _ upd_same)) (strs_dp _)) .nil))), sh3, sh3, ?_⟩
      rw [ne_self sh3]
      refine ⟨_, rfl, iteF ?_⟩
      have s1Z := (s17.trans s7G).trans w123
      refine ⟨_, rfl, _, rfl, x, dx, _, rfl, ins s1Z, x, _, ls, ls', TT, rfl, kin.same s1Z, .inl ⟨n, rfl, _, rfl, _, rfl, iteNS hnm ?_⟩⟩
      exact ⟨_, _, _, _, _, _, _, rfl, (sm7.trans s7G).trans w123⟩
    · rintro σ H5 ⟨v4, v5, v6, v7, v8, v9, v10, rfl, sm⟩
      have s15 := s14.trans sm
      have hL5 := sm _ _ hL4
      refine ⟨(by show 0 ≤ sizeLine; decide), fun e1 ne1 => ?_⟩
      have a1 := same_upd (o := .tup []) ne1
      have h1 := upd_same (H := H5) (a := e1) (o := .tup [])
      generalize upd H5 e1 (.tup []) = G1 at a1 h1 ⊢
      refine ⟨_, rfl, 1, rfl, L, _, rfl, SqL.of (a1 _ _ hL5), fun e2 ne2 => ?_⟩
      have a2 := same_upd (o := .lst (cutV ((nms ls).map V.str) none (some 1))) ne2
      have h2 := upd_same (H := G1) (a := e2) (o := .lst (cutV ((nms ls).map V.str) none (some 1)))
      have c2 := cutV_length ((nms ls).map V.str) none (some 1)
      rw [List.length_map, nlen] at c2
      generalize cutV ((nms ls).map V.str) none (some 1) = c1 at a2 h2 c2 ⊢
      generalize upd G1 e2 (.lst c1) = G2 at a2 h2 ⊢
      refine ⟨(by show 1 ≤ sizeLine; decide), fun e3 ne3 => ?_⟩
      have a3 := same_upd (o := .lst [.str "a"]) ne3
      have h3 := upd_same (H := G2) (a := e3) (o := .lst [.str "a"])
      generalize upd G2 e3 (.lst [.str "a"]) = G3 at a3 h3 ⊢
      refine ⟨e2, e3, _, _, rfl, rfl, a3 _ _ h2, h3, (by show c1.length + 1 ≤ sizeLine; rw [sizeLine_eq]; omega), fun e4 ne4 => ?_⟩
      have a4 := same_upd (o := .lst (c1 ++ [.str "a"])) ne4
      have h4 := upd_same (H := G3) (a := e4) (o := .lst (c1 ++ [.str "a"]))
      generalize upd G3 e4 (.lst (c1 ++ [.str "a"])) = G4 at a4 h4 ⊢
      refine ⟨0, rfl, 1, rfl, e4, _, rfl, SqL.of h4, fun e5 ne5 => ?_⟩
      generalize cutV (c1 ++ [V.str "a"]) (some 0) (some 1) = c5 at ⊢
      have a5 := same_upd (o := .lst c5) ne5
      have h5 := upd_same (H := G4) (a := e5) (o := .lst c5)
      generalize upd G4 e5 (.lst c5) = G5 at a5 h5 ⊢
      refine ⟨(by show 1 ≤ sizeLine; decide), fun e6 ne6 => ?_⟩
      have a6 := same_upd (o := .tup [.str "a"]) ne6
      have h6 := upd_same (H := G5) (a := e6) (o := .tup [.str "a"])
      generalize upd G5 e6 (.tup [.str "a"]) = G6 at a6 h6 ⊢
      refine ⟨(by show 0 ≤ sizeLine; decide), fun e7 ne7 => ⟨(by show 1 ≤ sizeLine; decide), fun e8 ne8 => ?_⟩⟩
      have a8 := (same_upd (o := .lst []) ne7).trans (same_upd (o := .lst [.ref e7]) ne8)
      have h8 := upd_same (H := upd G6 e7 (.lst [])) (a := e8) (o := .lst [.ref e7])
      generalize upd (upd G6 e7 (.lst [])) e8 (.lst [.ref e7]) = G8 at a8 h8 ⊢
      refine ⟨(by show 11 ≤ sizeLine; decide), fun od nod => ?_⟩
      have a9 := same_upd (o := .lst [.non, .str "", .str "zzzz", .str "*", .int 3, .bl true, .ref e1, .ref e5, .ref e6, .ref e8, .str "A"]) nod
      have h9 := upd_same (H := G8) (a := od) (o := .lst [.non, .str "", .str "zzzz", .str "*", .int 3, .bl true, .ref e1, .ref e5, .ref e6, .ref e8, .str "A"])
      have odd : ∀ v ∈ [V.non, .str "", .str "zzzz", .str "*", .int 3, .bl true, .ref e1, .ref e5, .ref e6, .ref e8, .str "A"], OddV (nms ls) G8 v := fun v hv => by
        have nm : ∀ {z : Str}, ¬ NameOk z → z ∉ nms ls := fun {z} h hz => by
          obtain ⟨l, hl, e⟩ := List.mem_map.mp hz
          exact h (e ▸ ok.names l hl)
        rcases List.mem_cons.mp hv with e | hv
        · exact .inr (.inl e)
        rcases List.mem_cons.mp hv with e | hv
        · exact .inl ⟨_, e, nm fun h => by have := h.1; exact absurd this (by decide +kernel)⟩
        rcases List.mem_cons.mp hv with e | hv
        · exact .inl ⟨_, e, nz⟩
        rcases List.mem_cons.mp hv with e | hv
        · exact .inl ⟨_, e, nm fun h => by have := h.2.2 42 (by decide +kernel); omega⟩
        rcases List.mem_cons.mp hv with e | hv
        · exact .inr (.inr (.inl ⟨_, e⟩))
        rcases List.mem_cons.mp hv with e | hv
        · exact .inr (.inr (.inr (.inl ⟨_, e⟩)))
        rcases List.mem_cons.mp hv with e | hv
        · exact .inr (.inr (.inr (.inr ⟨_, _, e, .inr (a8 _ _ (a6 _ _ (a5 _ _ (a4 _ _ (a3 _ _ (a2 _ _ h1))))))⟩)))
        rcases List.mem_cons.mp hv with e | hv
        · exact .inr (.inr (.inr (.inr ⟨_, _, e, .inl (a8 _ _ (a6 _ _ h5))⟩)))
        rcases List.mem_cons.mp hv with e | hv
        · exact .inr (.inr (.inr (.inr ⟨_, _, e, .inr (a8 _ _ h6)⟩)))
        rcases List.mem_cons.mp hv with e | hv
        · exact .inr (.inr (.inr (.inr ⟨_, _, e, .inl h8⟩)))
        rcases List.mem_cons.mp hv with e | hv
        · exact .inl ⟨_, e, nm fun h => by have := h.2.2 65 (by decide +kernel); omega⟩
        · cases hv
      have s19 := (((((((s15.trans a1).trans a2).trans a3).trans a4).trans a5).trans a6).trans a8).trans a9
      have hL9 := a9 _ _ (a8 _ _ (a6 _ _ (a5 _ _ (a4 _ _ (a3 _ _ (a2 _ _ (a1 _ _ hL5)))))))
      generalize upd G8 od (.lst [.non, .str "", .str "zzzz", .str "*", .int 3, .bl true, .ref e1, .ref e5, .ref e6, .ref e8, .str "A"]) = G9 at a9 h9 s19 hL9 ⊢
      have e11 : [V.non, .str "", .str "zzzz", .str "*", .int 3, .bl true, .ref e1, .ref e5, .ref e6, .ref e8, .str "A"].length = 11 := rfl
      generalize [V.non, .str "", .str "zzzz", .str "*", .int 3, .bl true, .ref e1, .ref e5, .ref e6, .ref e8, .str "A"] = os at h9 odd e11
      refine ⟨_, rfl, od, rfl, ⟨_, SqL.of h9⟩, fun D nD => ?_⟩
      refine lc_list (K := K) (a := od) (xs := os) (fun i H' => Same G9 H' ∧ H' D = some (.lst (List.replicate i (V.bl false)))) ⟨same_upd nD, upd_same⟩ (fun i H' hi z => SqL.of (z.1 _ _ h9)) ?_ ?_
      · rintro i v H' hv ⟨sm', hD⟩
        have hi : i < os.length := (List.getElem?_eq_some_iff.mp hv).1
        have s1' := s19.trans sm'
        have q := (((odd v (List.mem_of_getElem? hv)).same a9).same sm').ty (K := K)
        refine ⟨rfl, _, rfl, _, rfl, x, dx, _, rfl, ins s1', x, v, ls, ls', TT, rfl, kin.same s1', ?_⟩
        have fin : ∃ acc, H' D = some (.lst acc) ∧ acc.length < sizeLine ∧ Same G9 (upd H' D (.lst (acc ++ [V.bl false]))) ∧ (upd H' D (.lst (acc ++ [V.bl false]))) D = some (.lst (List.replicate (i + 1) (V.bl false))) := by
          refine ⟨_, hD, ?_, same_past nD sm', ?_⟩
          · rw [List.length_replicate]
            exact small1000 (by omega)
          · rw [upd_same, ← List.replicate_succ']
        rcases q with ⟨z, rfl, hz⟩ | ⟨t, ty, kt⟩
        · refine .inl ⟨z, rfl, _, rfl, ?_⟩
          rw [decide_eq_false hz]
          exact fin
        · exact .inr ⟨t, ty, kt, _, rfl, fin⟩
      rintro G10 ⟨sm', hD⟩
      have s1' := s19.trans sm'
      refine ⟨D, List.replicate os.length false, rfl, SqL.of (by rw [List.map_replicate]; exact hD), ?_⟩
      have ea : (List.replicate os.length false).any id = false := by simp
      rw [ea]
      refine ⟨_, rfl, iteF ?_⟩
      refine ⟨_, rfl, x, dx, _, rfl, ins s1', x, ls, ls', TT, rfl, kin.same s1', _, rfl, (by omega), (by omega), ?_⟩
      refine ⟨_, rfl, (by show 0 ≤ sizeLine; decide), fun pn npn => ?_⟩
      refine ⟨strsD (nms ls), strsD [], .lst (SqL.of (same_upd npn _ _ (sm' _ _ hL9))) (strs_dp _), .lst (SqL.of upd_same) .nil, shL, strs_shaped (fun _ h => nomatch h), ?_⟩
      rw [ne_nil_eq]
      refine ⟨rfl, ?_⟩
      have eb : decide (V.bl ((ls.length : Int) != 0) = V.bl (!decide (nms ls = []))) = true := by
        refine decide_eq_true (congrArg V.bl ?_)
        cases ls with
        | nil => rfl
        | cons l r =>
          rw [List.length_cons, show nms (l :: r) = l.1 :: nms r from rfl, decide_eq_false (List.cons_ne_nil _ _)]
          exact bne_iff_ne.mpr (by omega)
      rw [eb]
      exact k _ (s1'.trans (same_upd npn))
end
end K1

namespace K1
open PySem PySem.Spec PyProof.Rows L2 Own
/-! ### the law -/
def spLaw (K : PySem.W.Frag) : Sp := fun vs H Q _ => ∃ (a : Addr) (ns : List Int), vs = [.ref a] ∧ SqL K H a (ns.map V.int) ∧ ns.length ≤ 63 ∧ ∀ H', Q (.bl true) H'
abbrev nL : List Str := ["script", "k", "source", "turn", "lines", "label", "bases", "handed", "sorts", "held", "some"]
def rListOf (K : PySem.W.Frag) : List V → Hp → VK → Prop := fun xs H Q => ∃ p ys, xs = [.ref p] ∧ (SqL K H p ys ∨ SqT K H p ys) ∧ ∀ l, H l = none → Q (.ref l) (upd H l (.lst ys))
/-- a row handed over: its bases a tuple, or a list that is among N -/
def HRow (N : Addr → Prop) (H : Hp) (v : V) (l : Ln) : Prop := ∃ t b, v = .ref t ∧ N t ∧ H t = some (.tup [.str l.1, .ref b]) ∧ (H b = some (.tup (l.2.map V.str)) ∨ (N b ∧ H b = some (.lst (l.2.map V.str))))
theorem HRow.row {N : Addr → Prop} {H : Hp} {v : V} {l : Ln} (h : HRow N H v l) : RowAt H v l := by
  obtain ⟨t, b, e, _, h1, h2⟩ := h
  exact ⟨t, b, e, h1, h2.elim .inr fun z => .inl z.2⟩
theorem HRow.same {N : Addr → Prop} {H H' : Hp} {v : V} {l : Ln} (h : HRow N H v l) (s : ∀ a xs, (H a = some (.tup xs) → H' a = some (.tup xs)) ∧ (N a → H a = some (.lst xs) → H' a = some (.lst xs))) : HRow N H' v l := by
  obtain ⟨t, b, e, nt, h1, h2⟩ := h
  exact ⟨t, b, e, nt, (s _ _).1 h1, h2.elim (fun z => .inl ((s _ _).1 z)) fun z => .inr ⟨z.1, (s _ _).2 z.1 z.2⟩⟩
/-! the rows that the law writes out -/
def tStrs : List Str → TA
  | [] => tNil
  | s :: r => tCons (tC (.str s)) (tStrs r)
theorem q_strs : ∀ (ss : List Str) {σ : L2.St} {H : Hp} {Q : List V → Hp → Prop}, Q (ss.map V.str) H → tStrs ss σ H Q
  | [], _, _, _, h => h
  | s :: r, _, _, _, h => q_strs r (Q := fun xs H2 => _) h
def tRows : List Ln → TA
  | [] => tNil
  | l :: r => tCons (tTup (tCons (tC (.str l.1)) (tCons (tTup (tStrs l.2)) tNil))) (tRows r)
theorem q_rows : ∀ (ls : List Ln) (few : ∀ l ∈ ls, l.2.length ≤ 7) {σ : L2.St} {H : Hp} {Q : List V → Hp → Prop}, (∀ H' vs, Same H H' → Paired (LinAt H') vs ls → Q vs H') → tRows ls σ H Q
  | [], _, _, _, _, h => h _ [] (Same.refl _) .nil
  | l :: r, few, σ, H, Q, h => by
    show (tStrs l.2) σ H fun xs H1 => xs.length ≤ sizeLine ∧ ∀ b, H1 b = none → 2 ≤ sizeLine ∧ ∀ t, upd H1 b (.tup xs) t = none → tRows r σ (upd (upd H1 b (.tup xs)) t (.tup [.str l.1, .ref b])) fun vs H2 => Q (.ref t :: vs) H2
    refine q_strs l.2 ⟨?_, fun b nb => ⟨by decide, fun t nt => ?_⟩⟩
    · have q := few l (List.mem_cons_self ..)
      rw [List.length_map, sizeLine_eq]
      omega
    · refine q_rows r (fun m hm => few m (List.mem_cons_of_mem _ hm)) fun H' vs sm p => ?_
      have a1 := same_upd (o := .tup (l.2.map V.str)) nb
      have a2 := same_upd (o := .tup [.str l.1, .ref b]) nt
      exact h H' _ ((a1.trans a2).trans sm) (.cons ⟨t, b, rfl, sm _ _ upd_same, sm _ _ (a2 _ _ upd_same)⟩ p)
theorem q_lines (ls : List Ln) (few : ∀ l ∈ ls, l.2.length ≤ 7) (lf : ls.length ≤ 7) {σ : L2.St} {H : Hp} {Q : VK} (h : ∀ H' p, Same H H' → LinsAt H' p ls → Q (.ref p) H') : tLst (tRows ls) σ H Q := by
  refine q_rows ls few fun H' vs sm p => ⟨?_, fun q nq => ?_⟩
  · rw [paired_len p, sizeLine_eq]
    omega
  · exact h _ q (sm.trans (same_upd nq)) ⟨vs, upd_same, paired_imp (fun _ _ z => z.same fun b xs e => same_upd nq _ _ e) p⟩
def tTups : List Ln → TA
  | [] => tNil
  | l :: r => tCons (tTup (tStrs l.2)) (tTups r)
theorem BasAt.same {H H' : Hp} {v : V} {l : Ln} (h : BasAt H v l) (s : Same H H') : BasAt H' v l := by
  obtain ⟨b, e, q⟩ := h
  exact ⟨b, e, q.same s⟩
theorem q_tups : ∀ (ls : List Ln) (few : ∀ l ∈ ls, l.2.length ≤ 7) {σ : L2.St} {H : Hp} {Q : List V → Hp → Prop}, (∀ H' vs, Same H H' → Paired (BasAt H') vs ls → Q vs H') → tTups ls σ H Q
  | [], _, _, _, _, h => h _ [] (Same.refl _) .nil
  | l :: r, few, σ, H, Q, h => by
    show (tStrs l.2) σ H fun xs H1 => xs.length ≤ sizeLine ∧ ∀ b, H1 b = none → tTups r σ (upd H1 b (.tup xs)) fun vs H2 => Q (.ref b :: vs) H2
    refine q_strs l.2 ⟨?_, fun b nb => ?_⟩
    · have q := few l (List.mem_cons_self ..)
      rw [List.length_map, sizeLine_eq]
      omega
    · refine q_tups r (fun m hm => few m (List.mem_cons_of_mem _ hm)) fun H' vs sm p => ?_
      exact h H' _ ((same_upd nb).trans sm) (.cons ⟨b, rfl, .inr (sm _ _ upd_same)⟩ p)
theorem q_asg {te : TE} {g : TG} {D : Ends} {σ : L2.St} {H : Hp} (h : te σ H fun x H1 => g x σ H1 D.nx) : tAsg te g D σ H := h
theorem q_mkw {C : Addr} {ks : List Str} {sp : SpK} {tk : TA} {σ : L2.St} {H : Hp} {Q : VK} (h : tk σ H fun zs H2 => zs.length = ks.length ∧ ∀ x dx, H2 x = none → H2 dx = none → dx ≠ x → sp x ks zs (upd (upd H2 dx (.own x)) x (.ins C dx [])) (fun v H3 => v = .non ∧ Q (.ref x) H3)) : tMakeKw C ks sp tk σ H Q := h
instance (z : Str) : Decidable (NameOk z) := by
  unfold NameOk
  infer_instance
def L4 : List Ln := [("io", []), ("net", ["io"]), ("disk", ["io"]), ("both", ["net", "disk"])]
def L6 : List Ln := [("rows", []), ("kinds", ["rows"]), ("name", []), ("names", []), ("of", ["names"]), ("tree", [])]
theorem ok4 : LnsOk L4 := by
  refine ⟨by decide +kernel, by decide +kernel, by decide, fun i l h => ?_⟩
  have q : ∀ i : Fin 4, (L4[i.val].2.Nodup ∧ (∀ b ∈ L4[i.val].2, b ∈ nms (L4.take i.val)) ∧ L4[i.val].2.length ≤ 7) := by decide +kernel
  obtain ⟨hi, e⟩ := List.getElem?_eq_some_iff.mp h
  subst e
  exact q ⟨i, hi⟩
theorem ok6 : LnsOk L6 := by
  refine ⟨by decide +kernel, by decide +kernel, by decide, fun i l h => ?_⟩
  have q : ∀ i : Fin 6, (L6[i.val].2.Nodup ∧ (∀ b ∈ L6[i.val].2, b ∈ nms (L6.take i.val)) ∧ L6[i.val].2.length ≤ 7) := by decide +kernel
  obtain ⟨hi, e⟩ := List.getElem?_eq_some_iff.mp h
  subst e
  exact q ⟨i, hi⟩
theorem few4 : ∀ l ∈ L4, l.2.length ≤ 7 := by decide +kernel
theorem few6 : ∀ l ∈ L6, l.2.length ≤ 7 := by decide +kernel
/-- a row handed over, later: its bases may have grown -/
def HGrown (N : Addr → Prop) (H : Hp) (j : Nat) (v : V) : Prop := ∃ t b n, v = .ref t ∧ H t = some (.tup [.str n, .ref b]) ∧ ((∃ xs, H b = some (.tup xs)) ∨ (N b ∧ ∃ xs, H b = some (.lst xs) ∧ xs.length ≤ 7 + j))
theorem KIn.one {C : Addr} {H : Hp} {x y : Addr} {ls l1 l2 : List Ln} {T T' : Tb} (a : KIn C H x ls l1 T) (b : KIn C H y ls l2 T') : l1 = l2 := a.srt.one b.srt
theorem KIn.obj {C : Addr} {H : Hp} {x : Addr} {ls l1 : List Ln} {T : Tb} (a : KIn C H x ls l1 T) : ∃ dx fs, H x = some (.ins C dx fs) := by
  obtain ⟨dx, r, d, _, _, hx, _⟩ := a.ex
  exact ⟨dx, _, hx⟩
theorem two {x y : V} {d : Int} (h0 : 0 ≤ d) (h1 : d < 2) : ∃ v, atI [x, y] d = some v ∧ (v = x ∨ v = y) := by
  have c : d = 0 ∨ d = 1 := by omega
  rcases c with e | e
  · subst e
    exact ⟨x, rfl, .inl rfl⟩
  · subst e
    exact ⟨y, rfl, .inr rfl⟩
def rTupOf (K : PySem.W.Frag) : List V → Hp → VK → Prop := fun xs H Q => ∃ p ys, xs = [.ref p] ∧ ((SqL K H p ys ∧ ∀ l, H l = none → Q (.ref l) (upd H l (.tup ys))) ∨ (SqT K H p ys ∧ Q (.ref p) H))
theorem seq_arg {K : PySem.W.Frag} {t : TT} {j : Nat} {D : Addr} {xs : List V} {σ : L2.St} {H : Hp} {Q : VK} (e : σ[j]? = some (some (.ref D))) (hD : H D = some (.lst xs)) (ht : ∀ Qt : Bool → Hp → Prop, (∀ b, Qt b H) → t σ H Qt) (q : ∀ l H', Same H H' → SeqOf H' l xs → Q (.ref l) H') :
    tIf t (tVar j) (tCB (rTupOf K) (tCons (tVar j) tNil)) σ H Q := by
  refine ht _ fun b => ite2 (fun _ => ?_) (fun _ => ?_)
  · exact ⟨_, e, q D H (Same.refl H) (.inl hD)⟩
  · exact ⟨_, e, D, xs, rfl, .inl ⟨SqL.of hD, fun l nl => q l _ (same_upd nl) (.inr upd_same)⟩⟩
section
variable {P : Program} {w : World} {K : PySem.W.Frag} {mg : Str → Option Value} {base : Heap}
theorem scLaw : FnScope nL ["script"] (defScope sLaw) := ⟨rfl, rfl, rfl, by decide +kernel, rfl, by decide +kernel, by decide +kernel⟩
theorem ok_law {C f fS fD fN fL fR fO p fE fI : Addr} {mc : Value} {fd dS dD dN dL dR dO dE : FuncData} (F : Fun K "law" "law" sLaw f fd) (T : KTxt K mg C)
    (GS : FnOk P w K mg base CX0 1 fS dS ["script", "at"] (spSource K)) (kS : PySem.W.keepIn K (.ref fS) = true) (bS : Binds K dS ["script", "at"] []) (mS : mg "_law_source" = some (.ref fS))
    (GD : FnOk P w K mg base CX0 1 fD dD ["source", "many"] spDraw) (kD : PySem.W.keepIn K (.ref fD) = true) (bD : Binds K dD ["source", "many"] []) (mD : mg "_law_draw" = some (.ref fD))
    (GN : FnOk P w K mg base CX0 2 fN dN ["source", "many"] spNames) (kN : PySem.W.keepIn K (.ref fN) = true) (bN : Binds K dN ["source", "many"] []) (mN : mg "_law_random_names" = some (.ref fN))
    (GL : FnOk P w K mg base CX0 2 fL dL ["source", "labels"] spLines) (kL : PySem.W.keepIn K (.ref fL) = true) (bL : Binds K dL ["source", "labels"] []) (mL : mg "_law_random_lines" = some (.ref fL))
    (GR : FnOk P w K mg base CX0 6 fR dR ["sorts", "lines"] (spRight C)) (kR : PySem.W.keepIn K (.ref fR) = true) (bR : Binds K dR ["sorts", "lines"] []) (mR : mg "_law_is_right" = some (.ref fR))
    (cr : ClX.CRead K C mc) (cm : ClX.CMet K C mc "of" p fO) (GO : FnOk P w K mg base CX0 6 fO dO ["cls", "rows"] (spOf C)) (bO : Binds K dO ["cls", "rows"] []) (kO : BK1 dO ["cls", "rows"] "rows")
    (cE : Spc K C "__eq__" fE) (nE : NeO K C) (GE : FnOk P w K mg base CX0 1 fE dE ["self", "other"] (spEq C)) (bE : Binds K dE ["self", "other"] [])
    (M : Mk K C fI) (GI : FnKw P w K mg base 4 fI (spInit C))
    (mr : mg "range" = none) (mmax : mg "max" = none) (mmin : mg "min" = none) (mtu : mg "tuple" = none) (mi : mg "isinstance" = none) : FnOk P w K mg base CX0 7 f fd ["script"] (spLaw K) := by
  refine F.ok scLaw (fun vs H Q E h => ?_) (fun cdv A outer s H vs Q E hr h => ?_)
  · obtain ⟨a, ns, rfl, _⟩ := h
    rfl
  · obtain ⟨a, ns, rfl, hS, h63, k⟩ := h
    have ml := T.len
    have mli := T.list
    have hr1 : Room 1 _ := hr.mono (by decide)
    have hr2 : Room 2 _ := hr.mono (by decide)
    have hr5 : Room 5 _ := hr.mono (by decide)
    have GOR := GO.raw bO (dvs := []) .nil
    refine ⟨_, pss_cons (ps_for PassesOwn.never rfl (pi_range1 (by rfl) mr (pa_cons (pe_callB (call_max2 rfl) (by rfl) mmax (by decide +kernel) (pa_cons pe_int (pa_cons (pe_callB (call_min2 rfl) (by rfl) mmin (by decide +kernel) (pa_cons pe_int (pa_cons (pe_callB call_len_seq (by rfl) ml PySem.boot_len (pa_cons (pv 0) pa_nil)) pa_nil))) pa_nil))) pa_nil)) (pg_name (i := 1) scLaw.nd rfl (Or.inl rfl))
      (pss_cons (ps_set (i := 2) scLaw.nd rfl (Or.inr rfl) (pe_call GS hr1 (by rfl) mS kS bS .nil pass0 (pa_cons (pv 0) (pa_cons (pv 1) pa_nil))))
      (pss_one (ps_for PassesOwn.never rfl (pi_range1 (by rfl) mr (pa_cons pe_int pa_nil)) (pg_name (i := 3) scLaw.nd rfl (Or.inl rfl))
        (pss_cons (ps_set (i := 4) scLaw.nd rfl (Or.inl rfl) (pe_call GL hr2 (by rfl) mL kL bL .nil pass0 (pa_cons (pv 2) (pa_cons (pe_call GN hr2 (by rfl) mN kN bN .nil pass0 (pa_cons (pv 2) (pa_cons (pe_call GD hr1 (by rfl) mD kD bD .nil pass0 (pa_cons (pv 2) (pa_cons pe_int pa_nil))) pa_nil))) pa_nil))))
        (pss_cons (ps_setLc (i := 7) (own := [("label", 5), ("bases", 6)]) (g := gTup K 2 (gCons (gName 5) (gCons (gName 6) gNil))) (tt := tYes)
            (te := tTup (tCons (tVar 5) (tCons (tOp (rIxL K) (tLst (tCons (tCB (rListOf K) (tCons (tVar 6) tNil)) (tCons (tVar 6) tNil))) (tCall spDraw [] E0 (tCons (tVar 2) (tCons (tC (.int 2)) tNil)))) tNil))) rfl scLaw.nd rfl rfl (by rfl) (pi_list (pv 4)) (blkOk_by (N := nL) (sc := defScope sLaw) (by decide +kernel))
            (fun _ _ _ _ _ => pg_tup rfl (pgs_cons (pg_name (i := 5) scLaw.nd rfl (Or.inl rfl)) (pgs_cons (pg_name (i := 6) scLaw.nd rfl (Or.inl rfl)) pgs_nil))) (fun _ _ _ _ _ => pts_nil)
            (fun _ _ _ _ _ => pe_tup (pa_cons (pv 5) (pa_cons (pe_ix ix_list (pe_lst (pa_cons (pe_callTy call_list_of (by rfl) mli (by decide +kernel) (pa_cons (pv 6) pa_nil)) (pa_cons (pv 6) pa_nil))) (pe_call GD hr1 (by rfl) mD kD bD .nil pass0 (pa_cons (pv 2) (pa_cons pe_int pa_nil))) (fun _ _ => rfl)) pa_nil))))
        (pss_cons (ps_set (i := 8) scLaw.nd rfl (Or.inl rfl) (ClX.pe_cmeth (pe_glob (v := .ref C) (by rfl) T.mgC rfl) cr cm GOR hr pass0 (pa_cons (pe_ifExp (pt_cmpR op_eq (pe_op op_mod (pv 3) pe_int) pe_int (nomark _)) (pv 7) (pe_callTy call_tuple_of (by rfl) mtu (by decide +kernel) (pa_cons (pv 7) pa_nil))) pa_nil)))
        (pss_cons (ps_if (PW.pt (pw_or (pt_not (pt_val (pe_call GR hr (by rfl) mR kR bR .nil pass0 (pa_cons (pv 8) (pa_cons (pv 4) pa_nil)))))
            (pw_or1 (pt_not (pt_val (pe_call GR hr (by rfl) mR kR bR .nil pass0 (pa_cons (pe_cmethK (E := E0) (pe_glob (v := .ref C) (by rfl) T.mgC rfl) cr cm GO hr kO (pv 4)) (pa_cons (pv 4) pa_nil)))))))) (pss_one (ps_ret pe_bl)) pss_nil)
        (pss_cons (ps_for PassesOwn.never rfl (pi_list (pv 7)) (pg_tup rfl (pgs_cons (pg_name (i := 5) scLaw.nd rfl (Or.inl rfl)) (pgs_cons (pg_name (i := 6) scLaw.nd rfl (Or.inl rfl)) pgs_nil)))
          (pss_one (ps_if (pt_val (pe_callB call_isi (by rfl) mi (by decide +kernel) (pa_cons (pv 6) (pa_cons (pe_bltn (v := .ty "list") (u := .type "list") (by rfl) mli (by decide +kernel) rfl) pa_nil))))
            (pss_one (ps_expr (pe_bm PySem.F.plainAttrs_list PySem.F.slot_list_append PySem.F.type_list_append mt_append (pv 6) (pa_cons pe_str pa_nil)))) pss_nil)))
        (pss_cons (ps_expr (pe_bm0 PySem.F.plainAttrs_list PySem.F.slot_list_reverse PySem.F.type_list_reverse mt_reverse (pv 7)))
        (pss_one (ps_if (PW.pt (pw_or (pt_not (pt_val (pe_call GR hr (by rfl) mR kR bR .nil pass0 (pa_cons (pv 8) (pa_cons (pv 4) pa_nil)))))
            (pw_or (pt_cmpR (cmp_neO nE cE GE hr5 bE) (pv 8) (ClX.pe_cmeth (pe_glob (v := .ref C) (by rfl) T.mgC rfl) cr cm GOR hr pass0 (pa_cons (pv 4) pa_nil)) (nomark _))
            (pw_or1 (pt_cmpR (cmp_neO nE cE GE hr5 bE) (ClX.pe_cmeth (pe_glob (v := .ref C) (by rfl) T.mgC rfl) cr cm GOR hr pass0 (pa_cons (pv 4) pa_nil)) (pv 8) (nomark _)))))) (pss_one (ps_ret pe_bl)) pss_nil)))))))))))) 
      (pss_cons (ps_set (i := 9) scLaw.nd rfl (Or.inl rfl) (pe_lst (pa_cons pe_str pa_nil)))
      (pss_cons (ps_set (i := 10) scLaw.nd rfl (Or.inl rfl) (pe_makeKw (ks := k4) M GI hr5 (by rfl) T.mgC (pk_cons (pe_tup pa_nil) (pk_cons (pv 9) (pk_cons (pe_tup (pa_cons pe_str pa_nil)) (pk_cons (pe_tup (pa_cons pe_str (pa_cons pe_str pa_nil))) pk_nil))))))
      (pss_cons (ps_expr (pe_bm PySem.F.plainAttrs_list PySem.F.slot_list_append PySem.F.type_list_append mt_append (pv 9) (pa_cons pe_str pa_nil)))
      (pss_cons (ps_set (i := 4) scLaw.nd rfl (Or.inl rfl) (pe_lst (pa_cons (pe_tup (pa_cons pe_str (pa_cons (pe_tup pa_nil) pa_nil))) (pa_cons (pe_tup (pa_cons pe_str (pa_cons (pe_tup (pa_cons pe_str pa_nil)) pa_nil)))
          (pa_cons (pe_tup (pa_cons pe_str (pa_cons (pe_tup (pa_cons pe_str pa_nil)) pa_nil))) (pa_cons (pe_tup (pa_cons pe_str (pa_cons (pe_tup (pa_cons pe_str (pa_cons pe_str pa_nil))) pa_nil))) pa_nil))))))
      (pss_cons (ps_if (PW.pt (pw_or (pt_not (pt_val (pe_call GR hr (by rfl) mR kR bR .nil pass0 (pa_cons (pv 10) (pa_cons (pv 4) pa_nil)))))
            (pw_or1 (pt_cmpR (cmp_neO nE cE GE hr5 bE) (pv 10) (ClX.pe_cmeth (pe_glob (v := .ref C) (by rfl) T.mgC rfl) cr cm GOR hr pass0 (pa_cons (pv 4) pa_nil)) (nomark _))))) (pss_one (ps_ret pe_bl)) pss_nil)
      (pss_cons (ps_set (i := 10) scLaw.nd rfl (Or.inl rfl) (pe_makeKw (ks := k6) M GI hr5 (by rfl) T.mgC (pk_cons (pe_tup pa_nil) (pk_cons (pe_tup (pa_cons pe_str pa_nil)) (pk_cons (pe_tup pa_nil) (pk_cons (pe_tup pa_nil) (pk_cons (pe_tup (pa_cons pe_str pa_nil)) (pk_cons (pe_tup pa_nil) pk_nil))))))))
      (pss_cons (ps_set (i := 4) scLaw.nd rfl (Or.inl rfl) (pe_lst (pa_cons (pe_tup (pa_cons pe_str (pa_cons (pe_tup pa_nil) pa_nil))) (pa_cons (pe_tup (pa_cons pe_str (pa_cons (pe_tup (pa_cons pe_str pa_nil)) pa_nil)))
          (pa_cons (pe_tup (pa_cons pe_str (pa_cons (pe_tup pa_nil) pa_nil))) (pa_cons (pe_tup (pa_cons pe_str (pa_cons (pe_tup pa_nil) pa_nil))) (pa_cons (pe_tup (pa_cons pe_str (pa_cons (pe_tup (pa_cons pe_str pa_nil)) pa_nil))) (pa_cons (pe_tup (pa_cons pe_str (pa_cons (pe_tup pa_nil) pa_nil))) pa_nil))))))))
      (pss_one (ps_ret (pe_call GR hr (by rfl) mR kR bR .nil pass0 (pa_cons (pv 10) (pa_cons (pv 4) pa_nil)))))))))))), ?_⟩
    have hl : (ns.map V.int).length = ns.length := List.length_map _
    have cm_ : ∀ z : Nat, z ≤ 63 → (1 : Int) ≤ (if (if ((z : Nat) : Int) < 4 then ((z : Nat) : Int) else 4) > 1 then (if ((z : Nat) : Int) < 4 then ((z : Nat) : Int) else 4) else 1) ∧ (if (if ((z : Nat) : Int) < 4 then ((z : Nat) : Int) else 4) > 1 then (if ((z : Nat) : Int) < 4 then ((z : Nat) : Int) else 4) else 1) ≤ 4 := fun z hz => by
      split <;> split at * <;> omega
    have cb := cm_ (ns.map V.int).length (by omega)
    refine ⟨_, rfl, a, _, rfl, .inl hS, _, _, rfl, _, _, rfl, _, rfl, (by omega), (by omega), ?_⟩
    generalize (if (if (((ns.map V.int).length : Nat) : Int) < 4 then (((ns.map V.int).length : Nat) : Int) else 4) > 1 then (if (((ns.map V.int).length : Nat) : Int) < 4 then (((ns.map V.int).length : Nat) : Int) else 4) else 1) = many at cb ⊢
    refine for_range (lo := 0) (fun i σ H' => ∃ v1 v2 v3 v4 v5 v6 v7 v8 v9 v10, σ = [some (.ref a), v1, v2, v3, v4, v5, v6, v7, v8, v9, v10] ∧ Same H H') ⟨_, _, _, _, _, _, _, _, _, _, rfl, Same.refl H⟩ ?_ ?_
    · rintro i σ H0 hi ⟨v1, v2, v3, v4, v5, v6, v7, v8, v9, v10, rfl, sm⟩
      refine ⟨_, rfl, _, rfl, a, ns, (0 + (i : Int)), rfl, sm.seq hS, h63, (by omega), fun s H1 s1 nS sr1 => ?_⟩
      have nSH : H s = none := sm.free nS
      refine ⟨4, rfl, (by decide), (by decide), ?_⟩
      refine for_range (lo := 0) (fun t σ H' => ∃ v3 v4 v5 v6 v7 v8 v9 v10, σ = [some (.ref a), some (.int (0 + (i : Int))), some (.ref s), v3, v4, v5, v6, v7, v8, v9, v10] ∧ Keep s H1 H' ∧ Src H' s) ⟨_, _, _, _, _, _, _, _, rfl, Keep.refl s H1, sr1⟩ ?_ ?_
      · rintro t σ H2 ht ⟨v3, v4, v5, v6, v7, v8, v9, v10, rfl, kp, sr2⟩
        refine ⟨_, rfl, _, rfl, _, rfl, s, 8, rfl, sr2, (by decide), (by decide), fun d H3 d0 d1 sr3 k3 => ?_⟩
        obtain ⟨m, rfl⟩ : ∃ m : Nat, d = (m : Int) := ⟨d.toNat, by omega⟩
        refine ⟨s, m, rfl, sr3, (by omega), fun H4 pn ns4 k4 sr4 n4 hn4 nl4 dr4 => ?_⟩
        refine ⟨s, pn, ns4, rfl, sr4, hn4, (by omega), dr4, fun H5 pl ls k5 sr5 lat en ok => ?_⟩
        have kp5 := ((kp.trans k3).trans k4).trans k5
        have nz : ("zzzz" : Str) ∉ nms ls := fun h => by
          rw [en] at h
          exact (dr4.2 _ h).2 (by decide +kernel)
        have few := ok.few
        clear hn4 n4 dr4
        obtain ⟨rs, hs, pr⟩ := lat
        refine ⟨_, rfl, pl, rfl, ⟨_, SqL.of hs⟩, fun D nD => ?_⟩
        have pls : pl ≠ s := sr5.neL hs pr
        have alive : ∀ {p : Addr} {o : HO}, H5 p = some o → p ≠ D := fun e => ne_of_none e nD
        have Ds : D ≠ s := by
          obtain ⟨u, v, z, _⟩ := sr5
          exact (ne_of_none z nD).symm
        have tups : ∀ {H' : Hp} {p : Addr} {xs : List V}, Src H' s → H' p = some (.tup xs) → p ≠ s := fun sr e => by
          obtain ⟨u, v, z, _⟩ := sr
          exact ne_of e z (by intro z; cases z)
        refine lc_list (K := K) (a := pl) (xs := rs) (fun i H' => Keep s H5 H' ∧ Src H' s ∧ ∃ hv, H' D = some (.lst hv) ∧ Paired (HRow (fun p => H5 p = none ∧ p ≠ D) H') hv (ls.take i)) ⟨.of (same_upd nD), sr5.new nD, [], upd_same, .nil⟩ (fun i H' hi z => SqL.of (z.1 _ _ pls hs)) ?_ ?_
        · rintro j v H6 hv ⟨kp6, sr6, hv6, hD, pk⟩
          obtain ⟨l, hl2, t, b, rfl, ht, hb⟩ := paired_at pr hv
          have hj : j < ls.length := (List.getElem?_eq_some_iff.mp hl2).1
          have ht6 := kp6 t _ (tups sr5 ht) ht
          have hb6 := kp6 b _ (tups sr5 hb) hb
          refine ⟨t, _, rfl, SqT.of ht6, rfl, _, _, rfl, _, _, rfl, rfl, rfl, ?_⟩
          refine ⟨_, rfl, _, rfl, b, _, rfl, .inr (SqT.of hb6), fun B nB => ?_⟩
          refine ⟨_, rfl, (by show 2 ≤ sizeLine; decide), fun q nq => ?_⟩
          have a1 := same_upd (o := .lst (l.2.map V.str)) nB
          have hB1 := upd_same (H := H6) (a := B) (o := .lst (l.2.map V.str))
          generalize upd H6 B (.lst (l.2.map V.str)) = G1 at a1 hB1 nq ⊢
          have a2 := same_upd (o := .lst [.ref B, .ref b]) nq
          have hq2 := upd_same (H := G1) (a := q) (o := .lst [.ref B, .ref b])
          generalize upd G1 q (.lst [.ref B, .ref b]) = G2 at a2 hq2 ⊢
          have a12 := a1.trans a2
          have srG := sr6.same a12
          refine ⟨_, rfl, s, 2, rfl, srG, (by decide), (by decide), fun d G3 e0 e1 srG3 kG => ?_⟩
          have qs : q ≠ s := fun e => by
            obtain ⟨u, v, z, _⟩ := srG
            rw [e, z] at hq2
            have z2 := HO.lst.inj (Option.some.inj hq2)
            cases z2
          obtain ⟨val, hval, vc⟩ := two (x := .ref B) (y := .ref b) e0 e1
          refine ⟨q, _, d, _, rfl, rfl, SqL.of (kG q _ qs hq2), hval, (by show 2 ≤ sizeLine; decide), fun u nu => ?_⟩
          have Bs : B ≠ s := by
            obtain ⟨u, v, z, _⟩ := sr6
            exact (ne_of_none z nB).symm
          have kp3 : Keep s H6 G3 := (Keep.of a12).trans kG
          have hB3 := kG B _ Bs (a2 _ _ hB1)
          have hb3 := kp3 b _ (tups sr6 hb6) hb6
          have hD3 := kp3 D _ Ds hD
          have BD : B ≠ D := (ne_of_none hD nB).symm
          have a4 := same_upd (o := .tup [.str l.1, val]) nu
          have hu4 := upd_same (H := G3) (a := u) (o := .tup [.str l.1, val])
          have uf : H6 u = none := kp3.free srG3 nu
          have uD : u ≠ D := (ne_of_none hD uf).symm
          have uf5 : H5 u = none := kp6.free sr6 uf
          have Bf5 : H5 B = none := kp6.free sr6 nB
          generalize upd G3 u (.tup [.str l.1, val]) = G4 at a4 hu4 ⊢
          have hD4 := a4 _ _ hD3
          have kp4 : Keep s H6 G4 := kp3.trans (.of a4)
          have sr4' := srG3.same a4
          have pl' : hv6.length ≤ 7 := by
            rw [paired_len pk, List.length_take]
            omega
          refine ⟨hv6, hD4, small1000 (by omega), fun c o n e => ?_, sr4'.put Ds, hv6 ++ [.ref u], upd_same, ?_⟩
          · rw [upd_ne (alive e)]
            exact kp4 c o n (kp6 c o n e)
          · have pk2 : Paired (HRow (fun p => H5 p = none ∧ p ≠ D) (upd G4 D (.lst (hv6 ++ [.ref u])))) hv6 (ls.take j) := paired_imp (fun _ _ h => h.same fun c xs => ⟨fun e => by
              rw [upd_ne (ne_of e hD (by intro z; cases z))]
              exact kp4 c _ (tups sr6 e) e, fun n e => by
              rw [upd_ne n.2]
              exact kp4 c _ (fun e2 => by
                obtain ⟨u, v, z, _⟩ := sr5
                have z2 := n.1
                rw [e2, z] at z2
                cases z2) e⟩) pk
            rw [List.take_add_one, hl2]
            refine Paired.snoc pk2 ?_
            rcases vc with e | e
            · subst e
              exact ⟨u, B, rfl, ⟨uf5, uD⟩, by rw [upd_ne uD]; exact hu4, .inr ⟨⟨Bf5, BD⟩, by rw [upd_ne BD]; exact a4 _ _ hB3⟩⟩
            · subst e
              exact ⟨u, b, rfl, ⟨uf5, uD⟩, by rw [upd_ne uD]; exact hu4, .inl (by rw [upd_ne (alive hb)]; exact a4 _ _ hb3)⟩
        rintro H6 ⟨kp6, sr6, hv6, hD, pk⟩
        rw [paired_len pr, List.take_of_length_le (Nat.le_refl _)] at pk
        -- the table
        refine ⟨rfl, seq_arg (K := K) (j := 7) (D := D) (xs := hv6) rfl hD (fun Qt hQ => ⟨_, rfl, _, _, rfl, rfl, (show (0 : Int) < 2 by decide), rfl, _, rfl, hQ _⟩) fun z H7 s7 sz => ?_⟩
        have latK : ∀ {H'}, Keep s H5 H' → LinsAt H' pl ls := fun kp => ⟨rs, kp pl _ pls hs, paired_imp (fun _ _ q => q.same fun b xs e => kp b _ (tups sr5 e) e) pr⟩
        have kp7 := kp6.trans (.of s7)
        have sr7 := sr6.same s7
        have pk7 := paired_imp (fun _ _ (q : HRow (fun p => H5 p = none ∧ p ≠ D) H6 _ _) => q.same (H' := H7) fun _ _ => ⟨fun e => s7 _ _ e, fun _ e => s7 _ _ e⟩) pk
        have hD7 := s7 _ _ hD
        refine ⟨z, ls, rfl, ⟨hv6, sz, paired_imp (fun _ _ q => q.row) pk7⟩, ok, fun H8 x s8 ka => ?_⟩
        obtain ⟨l8, T8, kin8⟩ := ka.kin
        refine ⟨_, rfl, _, rfl, x, pl, ls, l8, T8, rfl, kin8, latK (kp7.trans (.of s8)), ok, nz, fun H9 s9 => ⟨true, rfl, iteF ?_⟩⟩
        have s79 := s8.trans s9
        refine ⟨rfl, _, rfl, pl, ls, rfl, (latK (kp7.trans (.of s79))).rows, ok, fun H10 y s10 ky => ?_⟩
        obtain ⟨l10, T10, kin10⟩ := ky.kin
        have s7A := s79.trans s10
        refine ⟨_, rfl, y, pl, ls, l10, T10, rfl, kin10, latK (kp7.trans (.of s7A)), ok, nz, fun H11 s11 => ⟨true, rfl, iteF ?_⟩⟩
        have s7B := s7A.trans s11
        have s8B := (s9.trans s10).trans s11
        have hDB := s7B _ _ hD7
        have len6 : hv6.length = ls.length := paired_len pk
        -- the handed rows change
        refine ⟨_, rfl, D, rfl, ⟨_, SqL.of hDB⟩, ?_⟩
        refine for_list (K := K) (a := D) (xs := hv6) (fun j σ H' => ∃ v5 v6, σ = [some (.ref a), some (.int (0 + (i : Int))), some (.ref s), some (.int (0 + (t : Int))), some (.ref pl), v5, v6, some (.ref D), some (.ref x), v9, v10] ∧ Keep s H5 H' ∧ Src H' s ∧ H' D = some (.lst hv6) ∧ (∀ c o, H7 c = none → H11 c = some o → H' c = some o) ∧ ∀ v ∈ hv6, HGrown (fun p => H5 p = none ∧ p ≠ D ∧ H7 p ≠ none) H' j v)
          ⟨_, _, rfl, kp7.trans (.of s7B), sr7.same s7B, hDB, fun _ _ _ e => e, fun v hv => ?_⟩ (fun j σ H' hj ⟨_, _, _, _, _, e, _⟩ => SqL.of e) ?_ ?_
        · obtain ⟨j, hj⟩ := List.mem_iff_getElem?.mp hv
          obtain ⟨l, hl2, t, b, e, nt, ht, hb⟩ := paired_at pk7 hj
          refine ⟨t, b, l.1, e, s7B _ _ ht, ?_⟩
          rcases hb with hb | ⟨nb, hb⟩
          · exact .inl ⟨_, s7B _ _ hb⟩
          · refine .inr ⟨⟨nb.1, nb.2, by rw [hb]; exact fun z => nomatch z⟩, _, s7B _ _ hb, ?_⟩
            have q := ok.base _ l (hl2)
            rw [List.length_map]
            omega
        · rintro j v σ H' hv ⟨v5, v6, rfl, kpj, srj, hDj, frj, each⟩
          have hj : j < hv6.length := (List.getElem?_eq_some_iff.mp hv).1
          obtain ⟨t2, b, n, rfl, ht, hb⟩ := each v (List.mem_of_getElem? hv)
          refine ⟨t2, _, rfl, SqT.of ht, rfl, _, _, rfl, _, _, rfl, rfl, ?_⟩
          rcases hb with ⟨xs, hb⟩ | ⟨⟨n5, nD2, n7⟩, xs, hb, xl⟩
          · refine ⟨_, rfl, _, _, _, _, false, rfl, .ty "list", .base (.tup hb), kit_ty (by decide +kernel), false, rfl, iteF ?_⟩
            refine ⟨_, _, rfl, kpj, srj, hDj, frj, fun v hv => ?_⟩
            obtain ⟨t3, b3, n3, e3, h3, h4⟩ := each v hv
            exact ⟨t3, b3, n3, e3, h3, h4.imp id fun ⟨q1, ys, q2, q3⟩ => ⟨q1, ys, q2, by omega⟩⟩
          · refine ⟨_, rfl, _, _, _, _, true, rfl, .ty "list", .base (.lst hb), kit_ty (by decide +kernel), true, rfl, iteT ?_⟩
            refine ⟨_, rfl, .inl ⟨rfl, _, SqL.of hb⟩, b, _, _, rfl, rfl, hb, small1000 (by omega), ?_⟩
            have bs : b ≠ s := fun e => by
              obtain ⟨u, v, z, _⟩ := sr5
              rw [e, z] at n5
              cases n5
            refine ⟨_, _, rfl, kpj.put n5, srj.put bs, by rw [upd_ne nD2.symm]; exact hDj, fun c o e1 e2 => ?_, fun v hv => ?_⟩
            · rw [upd_ne (show c ≠ b from fun e => n7 (by rw [← e]; exact e1))]
              exact frj c o e1 e2
            · obtain ⟨t3, b3, n3, e3, h3, h4⟩ := each v hv
              refine ⟨t3, b3, n3, e3, by rw [upd_ne (ne_of h3 hb (by intro z; cases z))]; exact h3, ?_⟩
              rcases h4 with ⟨ys, h4⟩ | ⟨q1, ys, q2, q3⟩
              · exact .inl ⟨ys, by rw [upd_ne (ne_of h4 hb (by intro z; cases z))]; exact h4⟩
              · by_cases c : b3 = b
                · subst c
                  exact .inr ⟨q1, _, upd_same, by rw [List.length_append, List.length_singleton]; omega⟩
                · exact .inr ⟨q1, ys, by rw [upd_ne c]; exact q2, by omega⟩
        rintro σ H12 ⟨v5, v6, rfl, kpC, srC, hDC, frC, _⟩
        refine ⟨_, rfl, .inl ⟨rfl, _, SqL.of hDC⟩, D, _, rfl, rfl, hDC, ?_⟩
        have kpE := kpC.put (o := .lst hv6.reverse) nD
        have srE := srC.put (o := .lst hv6.reverse) Ds
        have frE : ∀ c o, H7 c = none → H11 c = some o → (upd H12 D (.lst hv6.reverse)) c = some o := fun c o e1 e2 => by
          rw [upd_ne (fun e => by rw [e, hD7] at e1; cases e1)]
          exact frC c o e1 e2
        generalize upd H12 D (.lst hv6.reverse) = H13 at kpE srE frE ⊢
        have kaE : KAt (fun p => H7 p = none) C H13 x ls := (ka.same fun c o _ e => s8B _ _ e).same frE
        obtain ⟨l13, T13, kin13⟩ := kaE.kin
        -- and the table does not
        refine ⟨_, rfl, _, rfl, x, pl, ls, l13, T13, rfl, kin13, latK kpE, ok, nz, fun H14 s14 => ⟨true, rfl, iteF ?_⟩⟩
        refine ⟨_, rfl, rfl, _, rfl, pl, ls, rfl, (latK (kpE.trans (.of s14))).rows, ok, fun H15 y2 s15 ky2 => ?_⟩
        obtain ⟨l15, T15, kin15⟩ := ky2.kin
        have kx15 := kin13.same (s14.trans s15)
        obtain ⟨dx1, fs1, ex1⟩ := kx15.obj
        obtain ⟨dy1, gs1, ey1⟩ := kin15.obj
        have e15 := kx15.one kin15
        subst e15
        refine ⟨x, y2, _, _, _, _, rfl, rfl, ex1, ey1, x, y2, ls, ls, l13, T13, T15, rfl, kx15, kin15, ok, true, rfl, false, rfl, iteF ?_⟩
        have kp15 := kpE.trans (.of (s14.trans s15))
        refine ⟨rfl, _, rfl, pl, ls, rfl, (latK kp15).rows, ok, fun H16 y3 s16 ky3 => ?_⟩
        obtain ⟨l16, T16, kin16⟩ := ky3.kin
        have kx16 := kx15.same s16
        obtain ⟨dx2, fs2, ex2⟩ := kx16.obj
        obtain ⟨dy2, gs2, ey2⟩ := kin16.obj
        have e16 := kx16.one kin16
        subst e16
        refine ⟨_, rfl, y3, x, _, _, _, _, rfl, rfl, ey2, ex2, y3, x, ls, ls, l13, T16, T13, rfl, kin16, kx16, ok, true, rfl, false, rfl, iteF ?_⟩
        have s1316 := (s14.trans s15).trans s16
        exact ⟨_, _, _, _, _, _, _, _, rfl, (kp5.trans kpE).trans (.of s1316), srE.same s1316⟩
      · rintro σ H2 ⟨v3, v4, v5, v6, v7, v8, v9, v10, rfl, kp, sr2⟩
        refine ⟨_, _, _, _, _, _, _, _, _, _, rfl, fun b o e => kp b o (ne_of_none e nSH) (s1 _ _ (sm _ _ e))⟩
    · rintro σ H0 ⟨v1, v2, v3, v4, v5, v6, v7, v8, v9, v10, rfl, sm⟩
      refine ⟨(by show 1 ≤ sizeLine; decide), fun h nh => ?_⟩
      have hh := upd_same (H := H0) (a := h) (o := .lst [.str "io"])
      generalize upd H0 h (.lst [.str "io"]) = G0 at hh ⊢
      refine ⟨(by show 0 ≤ sizeLine; decide), fun t1 nt1 => ?_⟩
      have a1 := same_upd (o := .tup []) nt1
      have h1 := upd_same (H := G0) (a := t1) (o := .tup [])
      generalize upd G0 t1 (.tup []) = G1 at a1 h1 ⊢
      refine ⟨_, rfl, (by show 1 ≤ sizeLine; decide), fun t2 nt2 => ?_⟩
      have a2 := same_upd (o := .tup [.str "io"]) nt2
      have h2 := upd_same (H := G1) (a := t2) (o := .tup [.str "io"])
      generalize upd G1 t2 (.tup [.str "io"]) = G2 at a2 h2 ⊢
      refine ⟨(by show 2 ≤ sizeLine; decide), fun t3 nt3 => ?_⟩
      have a3 := same_upd (o := .tup [.str "net", .str "disk"]) nt3
      have h3 := upd_same (H := G2) (a := t3) (o := .tup [.str "net", .str "disk"])
      generalize upd G2 t3 (.tup [.str "net", .str "disk"]) = G3 at a3 h3 ⊢
      refine ⟨rfl, fun x dx nx ndx ne => ?_⟩
      have a4 : Same G3 (upd (upd G3 dx (.own x)) x (.ins C dx [])) := fun b o e => by
        rw [upd_ne (ne_of_none e nx), upd_ne (ne_of_none e ndx)]
        exact e
      have hh3 := a3 _ _ (a2 _ _ (a1 _ _ hh))
      refine ⟨dx, L4, upd_same, rfl, .cons ⟨t1, rfl, .inr (a4 _ _ (a3 _ _ (a2 _ _ h1)))⟩ (.cons ⟨h, rfl, .inl (a4 _ _ hh3)⟩ (.cons ⟨t2, rfl, .inr (a4 _ _ (a3 _ _ h2))⟩ (.cons ⟨t3, rfl, .inr (a4 _ _ h3)⟩ .nil))), ok4, .inr (.inl rfl), fun H3 s3 ko => ⟨rfl, ?_⟩⟩
      have s34 : Same G3 H3 := fun b o e => s3 b o (ne_of_none e nx) (a4 _ _ e)
      have hhB := s34 _ _ hh3
      have ka : KAt (fun p => G3 p = none) C H3 x L4 := ⟨nx, dx, ko.mono fun p e => a4.free e⟩
      refine ⟨_, rfl, .inl ⟨rfl, _, SqL.of hhB⟩, h, _, _, rfl, rfl, hhB, (by decide), ?_⟩
      have ka2 : KAt (fun p => G3 p = none) C (upd H3 h (.lst ([.str "io"] ++ [.str "zz"]))) x L4 := ka.same fun c o n e => by
        rw [upd_ne (fun z => by rw [z, hh3] at n; cases n)]
        exact e
      generalize upd H3 h (.lst ([.str "io"] ++ [.str "zz"])) = G4 at ka2 ⊢
      refine q_seq (q_asg (q_lines L4 few4 (by decide) fun G5 pl s5 lat => ?_))
      have no4 : ("zzzz" : Str) ∉ nms L4 := by decide +kernel
      have no6 : ("zzzz" : Str) ∉ nms L6 := by decide +kernel
      obtain ⟨l5, T5, kin5⟩ := (ka2.same fun c o _ e => s5 _ _ e).kin
      refine ⟨_, rfl, _, rfl, x, pl, L4, l5, T5, rfl, kin5, lat, ok4, no4, fun G6 s6 => ⟨true, rfl, iteF ?_⟩⟩
      refine ⟨_, rfl, rfl, _, rfl, pl, L4, rfl, (lat.same s6).rows, ok4, fun G7 y s7 ky => ?_⟩
      obtain ⟨l7, T7, kin7⟩ := ky.kin
      have kx7 := kin5.same (s6.trans s7)
      obtain ⟨dx1, fs1, ex1⟩ := kx7.obj
      obtain ⟨dy1, gs1, ey1⟩ := kin7.obj
      have e7 := kx7.one kin7
      subst e7
      refine ⟨x, y, _, _, _, _, rfl, rfl, ex1, ey1, x, y, L4, L4, l5, T5, T7, rfl, kx7, kin7, ok4, true, rfl, false, rfl, iteF ?_⟩
      refine q_seq (q_asg (q_mkw (q_tups L6 few6 fun G8 vs s8 pb => ⟨(paired_len pb).trans rfl, fun x2 dx2 nx2 ndx2 ne2 => ?_⟩)))
      have a8 : Same G8 (upd (upd G8 dx2 (.own x2)) x2 (.ins C dx2 [])) := fun b o e => by
        rw [upd_ne (ne_of_none e nx2), upd_ne (ne_of_none e ndx2)]
        exact e
      refine ⟨dx2, L6, upd_same, rfl, paired_imp (fun _ _ q => q.same a8) pb, ok6, .inr (.inr rfl), fun G9 s9 ko => ⟨rfl, ?_⟩⟩
      have kb : KAt (fun p => G8 p = none) C G9 x2 L6 := ⟨nx2, dx2, ko.mono fun p e => a8.free e⟩
      refine q_seq (q_asg (q_lines L6 few6 (by decide) fun G10 pl2 s10 lat2 => ?_))
      obtain ⟨l10, T10, kin10⟩ := (kb.same fun c o _ e => s10 _ _ e).kin
      refine ⟨_, rfl, _, rfl, x2, pl2, L6, l10, T10, rfl, kin10, lat2, ok6, no6, fun G11 s11 => k _⟩
end
end K1

namespace K1
open PySem PySem.Spec PyProof.Rows L2 Own
/-! ### what the top has written -/
theorem kit_self (K : PySem.W.Frag) (C : Addr) : PySem.W.kitOne K (.ref C) (.ref C) = some true := by
  unfold PySem.W.kitOne
  refine if_pos ?_
  first
  | exact beq_self_eq_true _
  | (show (C == C) = true; exact beq_self_eq_true _)
  | simp
theorem all_mk {l : PySem.W.OpenLaw} {w : World} {K : PySem.W.Frag} {h : Heap} {mg : Str → Option Value} {fa C pO pF f1 f2 f3 f4 f5 f6 f7 f8 f9 f10 f11 f12 f13 f14 f15 f16 f17 f18 f19 f20 f21 f22 f23 f24 : Addr} (X : K.In h) (G : h.Ns mainGlobals mg) (hfa : mg "law" = some (.ref fa))
    {restO restF : List Value} {tM tL tA : Tok} {od1 an1 od2 an2 od3 an3 od4 an4 od5 an5 od6 an6 od7 an7 od8 an8 od9 an9 od10 an10 od11 an11 od12 an12 od13 an13 od14 an14 od15 an15 od16 an16 od17 an17 od18 an18 od19 an19 od20 an20 od21 an21 od22 an22 od23 an23 od24 an24 : Option Addr} {sl1 sl2 sl3 sl4 sl5 sl6 sl7 sl8 sl9 sl10 sl11 sl12 sl13 sl14 sl15 sl16 sl17 sl18 sl19 sl20 sl21 sl22 sl23 sl24 : Array (Option Value)}
    {oc1 kV1 dc1 pm1 cd1 ct1 oc2 kV2 dc2 pm2 cd2 ct2 oc3 kV3 dc3 pm3 cd3 ct3 oc4 kV4 dc4 pm4 cd4 ct4 oc5 kV5 dc5 pm5 cd5 ct5 oc6 kV6 dc6 pm6 cd6 ct6 oc7 kV7 dc7 pm7 cd7 ct7 oc8 kV8 dc8 pm8 cd8 ct8 oc9 kV9 dc9 pm9 cd9 ct9 oc10 kV10 dc10 pm10 cd10 ct10 oc11 kV11 dc11 pm11 cd11 ct11 oc12 kV12 dc12 pm12 cd12 ct12 oc13 kV13 dc13 pm13 cd13 ct13 oc14 kV14 dc14 pm14 cd14 ct14 oc15 kV15 dc15 pm15 cd15 ct15 oc16 kV16 dc16 pm16 cd16 ct16 oc17 kV17 dc17 pm17 cd17 ct17 oc18 kV18 dc18 pm18 cd18 ct18 oc19 kV19 dc19 pm19 cd19 ct19 oc20 kV20 dc20 pm20 cd20 ct20 oc21 kV21 dc21 pm21 cd21 ct21 oc22 kV22 dc22 pm22 cd22 ct22 oc23 kV23 dc23 pm23 cd23 ct23 oc24 kV24 dc24 pm24 cd24 ct24 : Value}
    (aC : PySem.W.nsIn K mainGlobals "Kinds" = some (some (.ref C)))
    (a1 : PySem.W.nsIn K mainGlobals "is_name" = some (some (.ref f1)))
    (l1 : K.lookup f1 = some ⟨oc1, od1, .func (PySem.W.fnOf "is_name" "is_name" (defArgs sIsName) (defBody sIsName) (defScope sIsName) .none kV1 dc1 pm1 an1 cd1 ct1), sl1⟩)
    (c1 : PySem.W.codeIn K cd1 "is_name" = true)
    (k1 : PySem.W.keepIn K (.ref f1) = true)
    (a2 : PySem.W.nsIn K mainGlobals "is_pair" = some (some (.ref f2)))
    (l2 : K.lookup f2 = some ⟨oc2, od2, .func (PySem.W.fnOf "is_pair" "is_pair" (defArgs sIsPair) (defBody sIsPair) (defScope sIsPair) .none kV2 dc2 pm2 an2 cd2 ct2), sl2⟩)
    (c2 : PySem.W.codeIn K cd2 "is_pair" = true)
    (k2 : PySem.W.keepIn K (.ref f2) = true)
    (a3 : PySem.W.nsIn K mainGlobals "_are_rows" = some (some (.ref f3)))
    (l3 : K.lookup f3 = some ⟨oc3, od3, .func (PySem.W.fnOf "_are_rows" "_are_rows" (defArgs sAreRows) (defBody sAreRows) (defScope sAreRows) .none kV3 dc3 pm3 an3 cd3 ct3), sl3⟩)
    (c3 : PySem.W.codeIn K cd3 "_are_rows" = true)
    (k3 : PySem.W.keepIn K (.ref f3) = true)
    (a4 : PySem.W.nsIn K mainGlobals "_check_names" = some (some (.ref f4)))
    (l4 : K.lookup f4 = some ⟨oc4, od4, .func (PySem.W.fnOf "_check_names" "_check_names" (defArgs sCkNames) (defBody sCkNames) (defScope sCkNames) .none kV4 dc4 pm4 an4 cd4 ct4), sl4⟩)
    (c4 : PySem.W.codeIn K cd4 "_check_names" = true)
    (k4 : PySem.W.keepIn K (.ref f4) = true)
    (a5 : PySem.W.nsIn K mainGlobals "_check_bases" = some (some (.ref f5)))
    (l5 : K.lookup f5 = some ⟨oc5, od5, .func (PySem.W.fnOf "_check_bases" "_check_bases" (defArgs sCkBases) (defBody sCkBases) (defScope sCkBases) .none kV5 dc5 pm5 an5 cd5 ct5), sl5⟩)
    (c5 : PySem.W.codeIn K cd5 "_check_bases" = true)
    (k5 : PySem.W.keepIn K (.ref f5) = true)
    (a6 : PySem.W.nsIn K mainGlobals "_are_bases" = some (some (.ref f6)))
    (l6 : K.lookup f6 = some ⟨oc6, od6, .func (PySem.W.fnOf "_are_bases" "_are_bases" (defArgs sAreBases) (defBody sAreBases) (defScope sAreBases) .none kV6 dc6 pm6 an6 cd6 ct6), sl6⟩)
    (c6 : PySem.W.codeIn K cd6 "_are_bases" = true)
    (k6 : PySem.W.keepIn K (.ref f6) = true)
    (a7 : PySem.W.nsIn K mainGlobals "_all_above" = some (some (.ref f7)))
    (l7 : K.lookup f7 = some ⟨oc7, od7, .func (PySem.W.fnOf "_all_above" "_all_above" (defArgs sAllAbove) (defBody sAllAbove) (defScope sAllAbove) .none kV7 dc7 pm7 an7 cd7 ct7), sl7⟩)
    (c7 : PySem.W.codeIn K cd7 "_all_above" = true)
    (k7 : PySem.W.keepIn K (.ref f7) = true)
    (a8 : PySem.W.nsIn K mainGlobals "_law_source" = some (some (.ref f8)))
    (l8 : K.lookup f8 = some ⟨oc8, od8, .func (PySem.W.fnOf "_law_source" "_law_source" (defArgs sSource) (defBody sSource) (defScope sSource) .none kV8 dc8 pm8 an8 cd8 ct8), sl8⟩)
    (c8 : PySem.W.codeIn K cd8 "_law_source" = true)
    (k8 : PySem.W.keepIn K (.ref f8) = true)
    (a9 : PySem.W.nsIn K mainGlobals "_law_draw" = some (some (.ref f9)))
    (l9 : K.lookup f9 = some ⟨oc9, od9, .func (PySem.W.fnOf "_law_draw" "_law_draw" (defArgs sDraw) (defBody sDraw) (defScope sDraw) .none kV9 dc9 pm9 an9 cd9 ct9), sl9⟩)
    (c9 : PySem.W.codeIn K cd9 "_law_draw" = true)
    (k9 : PySem.W.keepIn K (.ref f9) = true)
    (a10 : PySem.W.nsIn K mainGlobals "_law_random_names" = some (some (.ref f10)))
    (l10 : K.lookup f10 = some ⟨oc10, od10, .func (PySem.W.fnOf "_law_random_names" "_law_random_names" (defArgs sNames) (defBody sNames) (defScope sNames) .none kV10 dc10 pm10 an10 cd10 ct10), sl10⟩)
    (c10 : PySem.W.codeIn K cd10 "_law_random_names" = true)
    (k10 : PySem.W.keepIn K (.ref f10) = true)
    (a11 : PySem.W.nsIn K mainGlobals "_law_random_lines" = some (some (.ref f11)))
    (l11 : K.lookup f11 = some ⟨oc11, od11, .func (PySem.W.fnOf "_law_random_lines" "_law_random_lines" (defArgs sLines) (defBody sLines) (defScope sLines) .none kV11 dc11 pm11 an11 cd11 ct11), sl11⟩)
    (c11 : PySem.W.codeIn K cd11 "_law_random_lines" = true)
    (k11 : PySem.W.keepIn K (.ref f11) = true)
    (a12 : PySem.W.nsIn K mainGlobals "_law_over" = some (some (.ref f12)))
    (l12 : K.lookup f12 = some ⟨oc12, od12, .func (PySem.W.fnOf "_law_over" "_law_over" (defArgs sOver) (defBody sOver) (defScope sOver) .none kV12 dc12 pm12 an12 cd12 ct12), sl12⟩)
    (c12 : PySem.W.codeIn K cd12 "_law_over" = true)
    (k12 : PySem.W.keepIn K (.ref f12) = true)
    (a13 : PySem.W.nsIn K mainGlobals "_law_is_right" = some (some (.ref f13)))
    (l13 : K.lookup f13 = some ⟨oc13, od13, .func (PySem.W.fnOf "_law_is_right" "_law_is_right" (defArgs sRight) (defBody sRight) (defScope sRight) .none kV13 dc13 pm13 an13 cd13 ct13), sl13⟩)
    (c13 : PySem.W.codeIn K cd13 "_law_is_right" = true)
    (k13 : PySem.W.keepIn K (.ref f13) = true)
    (a14 : PySem.W.nsIn K mainGlobals "law" = some (some (.ref f14)))
    (l14 : K.lookup f14 = some ⟨oc14, od14, .func (PySem.W.fnOf "law" "law" (defArgs sLaw) (defBody sLaw) (defScope sLaw) .none kV14 dc14 pm14 an14 cd14 ct14), sl14⟩)
    (c14 : PySem.W.codeIn K cd14 "law" = true)
    (k14 : PySem.W.keepIn K (.ref f14) = true)
    (a15 : PySem.W.findIn K (.ref C) "__init__" = some (some (.ref f15)))
    (i15 : PySem.W.isFn K (.ref f15) = true)
    (l15 : K.lookup f15 = some ⟨oc15, od15, .func (PySem.W.fnOf "__init__" "Kinds.__init__" (defArgs sInit) (defBody sInit) (defScope sInit) .none kV15 dc15 pm15 an15 cd15 ct15), sl15⟩)
    (c15 : PySem.W.codeIn K cd15 "Kinds.__init__" = true)
    (k15 : PySem.W.keepIn K (.ref f15) = true)
    (a16 : PySem.W.findIn K (.ref C) "_take" = some (some (.ref f16)))
    (i16 : PySem.W.isFn K (.ref f16) = true)
    (l16 : K.lookup f16 = some ⟨oc16, od16, .func (PySem.W.fnOf "_take" "Kinds._take" (defArgs sTake) (defBody sTake) (defScope sTake) .none kV16 dc16 pm16 an16 cd16 ct16), sl16⟩)
    (c16 : PySem.W.codeIn K cd16 "Kinds._take" = true)
    (k16 : PySem.W.keepIn K (.ref f16) = true)
    (a17 : PySem.W.findIn K (.ref C) "__eq__" = some (some (.ref f17)))
    (i17 : PySem.W.isFn K (.ref f17) = true)
    (l17 : K.lookup f17 = some ⟨oc17, od17, .func (PySem.W.fnOf "__eq__" "Kinds.__eq__" (defArgs sEq) (defBody sEq) (defScope sEq) .none kV17 dc17 pm17 an17 cd17 ct17), sl17⟩)
    (c17 : PySem.W.codeIn K cd17 "Kinds.__eq__" = true)
    (k17 : PySem.W.keepIn K (.ref f17) = true)
    (a18 : PySem.W.findIn K (.ref C) "__len__" = some (some (.ref f18)))
    (i18 : PySem.W.isFn K (.ref f18) = true)
    (l18 : K.lookup f18 = some ⟨oc18, od18, .func (PySem.W.fnOf "__len__" "Kinds.__len__" (defArgs sLen) (defBody sLen) (defScope sLen) .none kV18 dc18 pm18 an18 cd18 ct18), sl18⟩)
    (c18 : PySem.W.codeIn K cd18 "Kinds.__len__" = true)
    (k18 : PySem.W.keepIn K (.ref f18) = true)
    (a19 : PySem.W.findIn K (.ref C) "__repr__" = some (some (.ref f19)))
    (i19 : PySem.W.isFn K (.ref f19) = true)
    (l19 : K.lookup f19 = some ⟨oc19, od19, .func (PySem.W.fnOf "__repr__" "Kinds.__repr__" (defArgs sRepr) (defBody sRepr) (defScope sRepr) .none kV19 dc19 pm19 an19 cd19 ct19), sl19⟩)
    (c19 : PySem.W.codeIn K cd19 "Kinds.__repr__" = true)
    (k19 : PySem.W.keepIn K (.ref f19) = true)
    (a20 : PySem.W.findIn K (.ref C) "__contains__" = some (some (.ref f20)))
    (i20 : PySem.W.isFn K (.ref f20) = true)
    (l20 : K.lookup f20 = some ⟨oc20, od20, .func (PySem.W.fnOf "__contains__" "Kinds.__contains__" (defArgs sIn) (defBody sIn) (defScope sIn) .none kV20 dc20 pm20 an20 cd20 ct20), sl20⟩)
    (c20 : PySem.W.codeIn K cd20 "Kinds.__contains__" = true)
    (k20 : PySem.W.keepIn K (.ref f20) = true)
    (a21 : PySem.W.findIn K (.ref C) "below" = some (some (.ref f21)))
    (i21 : PySem.W.isFn K (.ref f21) = true)
    (l21 : K.lookup f21 = some ⟨oc21, od21, .func (PySem.W.fnOf "below" "Kinds.below" (defArgs sBelow) (defBody sBelow) (defScope sBelow) .none kV21 dc21 pm21 an21 cd21 ct21), sl21⟩)
    (c21 : PySem.W.codeIn K cd21 "Kinds.below" = true)
    (k21 : PySem.W.keepIn K (.ref f21) = true)
    (a22 : PySem.W.findIn K (.ref C) "above" = some (some (.ref f22)))
    (i22 : PySem.W.isFn K (.ref f22) = true)
    (l22 : K.lookup f22 = some ⟨oc22, od22, .func (PySem.W.fnOf "above" "Kinds.above" (defArgs sAbove) (defBody sAbove) (defScope sAbove) .none kV22 dc22 pm22 an22 cd22 ct22), sl22⟩)
    (c22 : PySem.W.codeIn K cd22 "Kinds.above" = true)
    (k22 : PySem.W.keepIn K (.ref f22) = true)
    (a23 : PySem.W.findIn K (.ref C) "order" = some (some (.ref pO)))
    (g23 : PySem.W.specialIn K (.ref pO) "__get__" = some (some (.builtin "property.__get__")))
    (t23 : PySem.W.takesIn K (.ref pO) = some true)
    (r23 : PySem.W.recIn K pO "property" = some (.ref f23 :: restO))
    (l23 : K.lookup f23 = some ⟨oc23, od23, .func (PySem.W.fnOf "order" "Kinds.order" (defArgs sOrder) (defBody sOrder) (defScope sOrder) .none kV23 dc23 pm23 an23 cd23 ct23), sl23⟩)
    (c23 : PySem.W.codeIn K cd23 "Kinds.order" = true)
    (k23 : PySem.W.keepIn K (.ref f23) = true)
    (rd : PySem.W.readsIn K C (.type "type") = true)
    (ga : PySem.W.specialIn K (.ref C) "__getattribute__" = some (some (.builtin "type.__getattribute__")))
    (a24 : PySem.W.findCls K (.ref C) (.type "type") "of" = some (.get (.builtin "classmethod.__get__") (.ref pF) .none (.ref C)))
    (r24 : PySem.W.recIn K pF "classmethod" = some (.ref f24 :: restF))
    (i24 : PySem.W.fnIn K f24 = true)
    (l24 : K.lookup f24 = some ⟨oc24, od24, .func (PySem.W.fnOf "of" "Kinds.of" (defArgs sOf) (defBody sOf) (defScope sOf) .none kV24 dc24 pm24 an24 cd24 ct24), sl24⟩)
    (c24 : PySem.W.codeIn K cd24 "Kinds.of" = true)
    (k24 : PySem.W.keepIn K (.ref f24) = true)
    (pg : PySem.W.plainGet K C Str.empty = true)
    (hd : PySem.W.hasDictIn K C = true)
    (po : PySem.W.plainOver K C = true)
    (sa : PySem.W.findIn K (.ref C) "__setattr__" = some (some (.builtin "object.__setattr__")))
    (mk : PySem.W.makesIn K C = true)
    (kc : PySem.W.keepIn K (.ref C) = true)
    (nR : PySem.W.findIn K (.ref C) "_rows" = some none)
    (nA : PySem.W.findIn K (.ref C) "_above" = some none)
    (lm : PySem.W.findIn K (.ref C) "LIMIT" = some (some (.int 7 tM)))
    (lg : PySem.W.specialIn K (.int 7 tM) "__get__" = some none)
    (nb : PySem.W.findIn K (.ref C) "__bool__" = some none)
    (ne : PySem.W.findIn K (.ref C) "__ne__" = some (some (.builtin "object.__ne__")))
    (mo : PySem.W.mroIn K C (.type "object") = some true)
    (hcl : PySem.W.findIn K (.ref C) "__class__" = some (some (.builtin "object.__class__")))
    (hg : PySem.W.specialIn K (.builtin "object.__class__") "__get__" = some (some (.builtin "getset_descriptor.__get__")))
    (ht : PySem.W.takesIn K (.builtin "object.__class__") = some true)
    (vL : PySem.W.nsIn K mainGlobals "LONGEST_NAME" = some (some (.int 8 tL)))
    (vA : PySem.W.nsIn K mainGlobals "LETTERS" = some (some (.str abc tA)))
    (z_len : PySem.W.nsIn K mainGlobals "len" = some none)
    (z_isinstance : PySem.W.nsIn K mainGlobals "isinstance" = some none)
    (z_str : PySem.W.nsIn K mainGlobals "str" = some none)
    (z_all : PySem.W.nsIn K mainGlobals "all" = some none)
    (z_tuple : PySem.W.nsIn K mainGlobals "tuple" = some none)
    (z_list : PySem.W.nsIn K mainGlobals "list" = some none)
    (z_sorted : PySem.W.nsIn K mainGlobals "sorted" = some none)
    (z_abs : PySem.W.nsIn K mainGlobals "abs" = some none)
    (z_range : PySem.W.nsIn K mainGlobals "range" = some none)
    (z_min : PySem.W.nsIn K mainGlobals "min" = some none)
    (z_max : PySem.W.nsIn K mainGlobals "max" = some none)
    (z_repr : PySem.W.nsIn K mainGlobals "repr" = some none)
    (z_any : PySem.W.nsIn K mainGlobals "any" = some none)
    (z_bool : PySem.W.nsIn K mainGlobals "bool" = some none) :
    ∃ fd : FuncData, (∀ (s : Shared) (v : Value), BindsTo s fd ⟨[v], []⟩ [("script", v)]) ∧ ∀ base : Heap, K.In base → base.Ns mainGlobals mg → FnOk l.prog w K mg base CX0 7 fa fd ["script"] (spLaw K) := by
  have e := hfa.symm.trans (PySem.W.mg_of X G a14)
  cases e
  have F1 := fun_mk (st := sIsName) l1 c1 k1
  have b1 := F1.binds (ps := ["thing"]) fun _ _ _ _ _ _ us hl => match us, hl with | [_], _ => rfl
  have F2 := fun_mk (st := sIsPair) l2 c2 k2
  have b2 := F2.binds (ps := ["thing"]) fun _ _ _ _ _ _ us hl => match us, hl with | [_], _ => rfl
  have F3 := fun_mk (st := sAreRows) l3 c3 k3
  have b3 := F3.binds (ps := ["thing"]) fun _ _ _ _ _ _ us hl => match us, hl with | [_], _ => rfl
  have F4 := fun_mk (st := sCkNames) l4 c4 k4
  have b4 := F4.binds (ps := ["rows"]) fun _ _ _ _ _ _ us hl => match us, hl with | [_], _ => rfl
  have F5 := fun_mk (st := sCkBases) l5 c5 k5
  have b5 := F5.binds (ps := ["rows"]) fun _ _ _ _ _ _ us hl => match us, hl with | [_], _ => rfl
  have F6 := fun_mk (st := sAreBases) l6 c6 k6
  have b6 := F6.binds (ps := ["thing", "before"]) fun _ _ _ _ _ _ us hl => match us, hl with | [_, _], _ => rfl
  have F7 := fun_mk (st := sAllAbove) l7 c7 k7
  have b7 := F7.binds (ps := ["rows"]) fun _ _ _ _ _ _ us hl => match us, hl with | [_], _ => rfl
  have F8 := fun_mk (st := sSource) l8 c8 k8
  have b8 := F8.binds (ps := ["script", "at"]) fun _ _ _ _ _ _ us hl => match us, hl with | [_, _], _ => rfl
  have F9 := fun_mk (st := sDraw) l9 c9 k9
  have b9 := F9.binds (ps := ["source", "many"]) fun _ _ _ _ _ _ us hl => match us, hl with | [_, _], _ => rfl
  have F10 := fun_mk (st := sNames) l10 c10 k10
  have b10 := F10.binds (ps := ["source", "many"]) fun _ _ _ _ _ _ us hl => match us, hl with | [_, _], _ => rfl
  have F11 := fun_mk (st := sLines) l11 c11 k11
  have b11 := F11.binds (ps := ["source", "labels"]) fun _ _ _ _ _ _ us hl => match us, hl with | [_, _], _ => rfl
  have F12 := fun_mk (st := sOver) l12 c12 k12
  have b12 := F12.binds (ps := ["lines"]) fun _ _ _ _ _ _ us hl => match us, hl with | [_], _ => rfl
  have F13 := fun_mk (st := sRight) l13 c13 k13
  have b13 := F13.binds (ps := ["sorts", "lines"]) fun _ _ _ _ _ _ us hl => match us, hl with | [_, _], _ => rfl
  have F14 := fun_mk (st := sLaw) l14 c14 k14
  have F15 := fun_mk (st := sInit) l15 c15 k15
  have F16 := fun_mk (st := sTake) l16 c16 k16
  have b16 := F16.binds (ps := ["self", "rows"]) fun _ _ _ _ _ _ us hl => match us, hl with | [_, _], _ => rfl
  have F17 := fun_mk (st := sEq) l17 c17 k17
  have b17 := F17.binds (ps := ["self", "other"]) fun _ _ _ _ _ _ us hl => match us, hl with | [_, _], _ => rfl
  have F18 := fun_mk (st := sLen) l18 c18 k18
  have b18 := F18.binds (ps := ["self"]) fun _ _ _ _ _ _ us hl => match us, hl with | [_], _ => rfl
  have F19 := fun_mk (st := sRepr) l19 c19 k19
  have b19 := F19.binds (ps := ["self"]) fun _ _ _ _ _ _ us hl => match us, hl with | [_], _ => rfl
  have F20 := fun_mk (st := sIn) l20 c20 k20
  have b20 := F20.binds (ps := ["self", "x"]) fun _ _ _ _ _ _ us hl => match us, hl with | [_, _], _ => rfl
  have F21 := fun_mk (st := sBelow) l21 c21 k21
  have b21 := F21.binds (ps := ["self", "name"]) fun _ _ _ _ _ _ us hl => match us, hl with | [_, _], _ => rfl
  have F22 := fun_mk (st := sAbove) l22 c22 k22
  have b22 := F22.binds (ps := ["self", "name"]) fun _ _ _ _ _ _ us hl => match us, hl with | [_, _], _ => rfl
  have F23 := fun_mk (st := sOrder) l23 c23 k23
  have b23 := F23.binds (ps := ["self"]) fun _ _ _ _ _ _ us hl => match us, hl with | [_], _ => rfl
  have F24 := fun_mk (st := sOf) l24 c24 k24
  have b24 := F24.binds (ps := ["cls", "rows"]) fun _ _ _ _ _ _ us hl => match us, hl with | [_, _], _ => rfl
  have m1 := PySem.W.mg_of X G a1
  have m2 := PySem.W.mg_of X G a2
  have m3 := PySem.W.mg_of X G a3
  have m4 := PySem.W.mg_of X G a4
  have m5 := PySem.W.mg_of X G a5
  have m6 := PySem.W.mg_of X G a6
  have m7 := PySem.W.mg_of X G a7
  have m8 := PySem.W.mg_of X G a8
  have m9 := PySem.W.mg_of X G a9
  have m10 := PySem.W.mg_of X G a10
  have m11 := PySem.W.mg_of X G a11
  have m12 := PySem.W.mg_of X G a12
  have m13 := PySem.W.mg_of X G a13
  have y_len := PySem.W.mg_none_of X G z_len
  have y_isinstance := PySem.W.mg_none_of X G z_isinstance
  have y_str := PySem.W.mg_none_of X G z_str
  have y_all := PySem.W.mg_none_of X G z_all
  have y_tuple := PySem.W.mg_none_of X G z_tuple
  have y_list := PySem.W.mg_none_of X G z_list
  have y_sorted := PySem.W.mg_none_of X G z_sorted
  have y_abs := PySem.W.mg_none_of X G z_abs
  have y_range := PySem.W.mg_none_of X G z_range
  have y_min := PySem.W.mg_none_of X G z_min
  have y_max := PySem.W.mg_none_of X G z_max
  have y_repr := PySem.W.mg_none_of X G z_repr
  have y_any := PySem.W.mg_none_of X G z_any
  have y_bool := PySem.W.mg_none_of X G z_bool
  have T : KTxt K mg C := ⟨⟨pg, hd, po, sa⟩, nR, nA, ⟨_, lm, ⟨_, rfl⟩, lg, rfl⟩, PySem.W.mg_of X G aC, y_len, y_sorted, y_list⟩
  have ic : C8.InsC K C := ⟨⟨pg, hd, po, sa⟩, hcl, hg, ht, mo, kit_self K C⟩
  have nE : NeO K C := ⟨ne, mo⟩
  have M : Mk K C f15 := ⟨mk, a15, i15, kc⟩
  have mT : Meth K C "_take" f16 := ⟨a16, i16, k16⟩
  have mB : Meth K C "below" f21 := ⟨a21, i21, k21⟩
  have mA : Meth K C "above" f22 := ⟨a22, i22, k22⟩
  have cE : Spc K C "__eq__" f17 := ⟨a17, i17⟩
  have cL : Spc K C "__len__" f18 := ⟨a18, i18⟩
  have cR : Spc K C "__repr__" f19 := ⟨a19, i19⟩
  have cI : Spc K C "__contains__" f20 := ⟨a20, i20⟩
  have pO_ : PropOf K C "order" pO f23 := ⟨a23, g23, t23, _, r23⟩
  have cr : ClX.CRead K C (.type "type") := ⟨rd, ga⟩
  have cm : ClX.CMet K C (.type "type") "of" pF f24 := ⟨a24, ⟨_, r24⟩, i24⟩
  have kB := bk1_of (ps := ["self", "name"]) (kw := "name") F21 fun _ _ _ _ _ _ _ _ => rfl
  have kA := bk1_of (ps := ["self", "name"]) (kw := "name") F22 fun _ _ _ _ _ _ _ _ => rfl
  have kO := bk1_of (ps := ["cls", "rows"]) (kw := "rows") F24 fun _ _ _ _ _ _ _ _ => rfl
  refine ⟨PySem.W.fnOf "law" "law" (defArgs sLaw) (defBody sLaw) (defScope sLaw) .none kV14 dc14 pm14 an14 cd14 ct14, fun s v => .of_eq rfl, fun base _ _ => ?_⟩
  have GisName := ok_isName (P := l.prog) (w := w) (mg := mg) (base := base) F1 y_len y_isinstance y_str y_all (PySem.W.mg_of X G vL) (PySem.W.mg_of X G vA)
  have GisPair := ok_isPair (P := l.prog) (w := w) (mg := mg) (base := base) F2 y_len y_isinstance y_tuple
  have GareRows := ok_areRows (P := l.prog) (w := w) (mg := mg) (base := base) F3 GisPair k2 b2 m2 y_isinstance y_all y_list y_tuple
  have GckNames := ok_ckNames (P := l.prog) (w := w) (mg := mg) (base := base) F4 GisName k1 b1 m1
  have GareBases := ok_areBases (P := l.prog) (w := w) (mg := mg) (base := base) F6 y_isinstance y_list y_tuple
  have GckBases := ok_ckBases (P := l.prog) (w := w) (mg := mg) (base := base) F5 GareBases k6 b6 m6
  have GallAbove := ok_allAbove (P := l.prog) (w := w) (mg := mg) (base := base) F7 y_sorted
  have Gtake := ok_take (P := l.prog) (w := w) (mg := mg) (base := base) F16 T GckNames k4 b4 m4 GckBases k5 b5 m5 GallAbove k7 b7 m7
  have Ginit := ok_init (P := l.prog) (w := w) (mg := mg) (base := base) F15 T Gtake mT b16
  have Gof := ok_of (P := l.prog) (w := w) (mg := mg) (base := base) F24 T M Ginit Gtake mT b16 GareRows k3 b3 m3
  have Gorder := ok_order (P := l.prog) (w := w) (mg := mg) (base := base) F23 T
  have Glen := ok_len (P := l.prog) (w := w) (mg := mg) (base := base) F18 T
  have Gin := ok_in (P := l.prog) (w := w) (mg := mg) (base := base) F20 T y_isinstance y_str
  have Gbelow := ok_below (P := l.prog) (w := w) (mg := mg) (base := base) F21 T cI Gin b20 pO_ Gorder b23
  have Gabove := ok_above (P := l.prog) (w := w) (mg := mg) (base := base) F22 T cI Gin b20
  have Grepr := ok_repr (P := l.prog) (w := w) (mg := mg) (base := base) F19 T pO_ Gorder b23
  have Geq := ok_eq (P := l.prog) (w := w) (mg := mg) (base := base) F17 T ic y_isinstance
  have Gsource := ok_source (P := l.prog) (w := w) (mg := mg) (base := base) F8 y_len y_abs y_range y_min
  have Gdraw := ok_draw (P := l.prog) (w := w) (mg := mg) (base := base) F9
  have Gnames := ok_names (P := l.prog) (w := w) (mg := mg) (base := base) F10 Gdraw k9 b9 m9 y_range y_len
  have Glines := ok_lines (P := l.prog) (w := w) (mg := mg) (base := base) F11 Gdraw k9 b9 m9 y_range y_len y_list y_tuple
  have Gover := ok_over (P := l.prog) (w := w) (mg := mg) (base := base) F12
  have Gright := ok_right (P := l.prog) (w := w) (mg := mg) (base := base) F13 T Gover k12 b12 m12 pO_ Gorder b23 cL Glen b18 cR Grepr b19 cI Gin b20 mB Gbelow b21 kB mA Gabove b22 kA nb y_repr y_any y_bool
  exact ok_law (P := l.prog) (w := w) (mg := mg) (base := base) F14 T Gsource k8 b8 m8 Gdraw k9 b9 m9 Gnames k10 b10 m10 Glines k11 b11 m11 Gright k13 b13 m13 cr cm Gof b24 kO cE nE Geq b17 M Ginit y_range y_max y_min y_tuple y_isinstance
theorem walk {l : PySem.W.OpenLaw} {q : Program} {loose : List Str} {XP : (Str → Option Value) → Heap → Prop} {YP : World → Heap → Prop} {d : DefRec} {K : Params → PySem.W.Frag} (hn : l.most = some 63) (hdf : d.params.defaults = [])
    (hY : ∀ (w : World) (h : Heap), YP w h → (K w.params).In h)
    (F : ∀ (w : World) (mg : Str → Option Value) (fa : Addr) (h : Heap), (K w.params).In h → h.Ns mainGlobals mg → mg d.name = some (.ref fa) →
      ∃ fd : FuncData, (∀ (s : Shared) (u : Value), BindsTo s fd ⟨[u], []⟩ [("script", u)]) ∧ ∀ base : Heap, (K w.params).In base → base.Ns mainGlobals mg → FnOk l.prog w (K w.params) mg base CX0 7 fa fd ["script"] (spLaw (K w.params))) :
    PySem.W.WalkO q loose XP YP l.row.toRowW d [] (fun f vs => PySem.call f vs) :=
  L2.walk_of (n := 63) (k := 7) (x := "script") (CX := fun _ => CX0) (sp := fun w => spLaw (K w.params)) hn (by decide) hdf ⟨rfl, by decide, by decide⟩ hY F (fun _ _ a ns hl _ hS => ⟨a, ns, rfl, hS, hl, fun _ => rfl⟩) fun _ _ _ _ _ z => z
end K1

open PySem PySem.W PyProof.Rows in
set_option maxRecDepth 100000 in
set_option maxHeartbeats 0 in
theorem PySem.Challenge.cw_errorplaces_k01_kinds_made_holds : PySem.Challenge.rw_errorplaces_k01_kinds_made.Holds := by
  w_on; o_law; k_head; (case hw => w_witness2)
  k_fill
  refine K1.walk (l := PySem.Challenge.rw_errorplaces_k01_kinds_made) rfl rfl (fun w h Y => PySem.W.kIn_of Y) ?F
  case F =>
    intro w mg fa h KX G hmg
    refine' K1.all_mk KX G hmg ?aC ?a1 ?l1 ?c1 ?k1 ?a2 ?l2 ?c2 ?k2 ?a3 ?l3 ?c3 ?k3 ?a4 ?l4 ?c4 ?k4 ?a5 ?l5 ?c5 ?k5 ?a6 ?l6 ?c6 ?k6 ?a7 ?l7 ?c7 ?k7 ?a8 ?l8 ?c8 ?k8 ?a9 ?l9 ?c9 ?k9 ?a10 ?l10 ?c10 ?k10 ?a11 ?l11 ?c11 ?k11 ?a12 ?l12 ?c12 ?k12 ?a13 ?l13 ?c13 ?k13 ?a14 ?l14 ?c14 ?k14 ?a15 ?i15 ?l15 ?c15 ?k15 ?a16 ?i16 ?l16 ?c16 ?k16 ?a17 ?i17 ?l17 ?c17 ?k17 ?a18 ?i18 ?l18 ?c18 ?k18 ?a19 ?i19 ?l19 ?c19 ?k19 ?a20 ?i20 ?l20 ?c20 ?k20 ?a21 ?i21 ?l21 ?c21 ?k21 ?a22 ?i22 ?l22 ?c22 ?k22 ?a23 ?g23 ?t23 ?r23 ?l23 ?c23 ?k23 ?rd ?ga ?a24 ?r24 ?i24 ?l24 ?c24 ?k24 ?pg ?hd ?po ?sa ?mk ?kc ?nR ?nA ?lm ?lg ?nb ?ne ?mo ?hcl ?hg ?ht ?vL ?vA ?z_len ?z_isinstance ?z_str ?z_all ?z_tuple ?z_list ?z_sorted ?z_abs ?z_range ?z_min ?z_max ?z_repr ?z_any ?z_bool
    (case aC => k_is)
    (case a1 => k_is)
    (case l1 => k_is)
    (case c1 => k_is)
    (case k1 => k_is)
    (case a2 => k_is)
    (case l2 => k_is)
    (case c2 => k_is)
    (case k2 => k_is)
    (case a3 => k_is)
    (case l3 => k_is)
    (case c3 => k_is)
    (case k3 => k_is)
    (case a4 => k_is)
    (case l4 => k_is)
    (case c4 => k_is)
    (case k4 => k_is)
    (case a5 => k_is)
    (case l5 => k_is)
    (case c5 => k_is)
    (case k5 => k_is)
    (case a6 => k_is)
    (case l6 => k_is)
    (case c6 => k_is)
    (case k6 => k_is)
    (case a7 => k_is)
    (case l7 => k_is)
    (case c7 => k_is)
    (case k7 => k_is)
    (case a8 => k_is)
    (case l8 => k_is)
    (case c8 => k_is)
    (case k8 => k_is)
    (case a9 => k_is)
    (case l9 => k_is)
    (case c9 => k_is)
    (case k9 => k_is)
    (case a10 => k_is)
    (case l10 => k_is)
    (case c10 => k_is)
    (case k10 => k_is)
    (case a11 => k_is)
    (case l11 => k_is)
    (case c11 => k_is)
    (case k11 => k_is)
    (case a12 => k_is)
    (case l12 => k_is)
    (case c12 => k_is)
    (case k12 => k_is)
    (case a13 => k_is)
    (case l13 => k_is)
    (case c13 => k_is)
    (case k13 => k_is)
    (case a14 => k_is)
    (case l14 => k_is)
    (case c14 => k_is)
    (case k14 => k_is)
    (case a15 => k_is)
    (case i15 => k_is)
    (case l15 => k_is)
    (case c15 => k_is)
    (case k15 => k_is)
    (case a16 => k_is)
    (case i16 => k_is)
    (case l16 => k_is)
    (case c16 => k_is)
    (case k16 => k_is)
    (case a17 => k_is)
    (case i17 => k_is)
    (case l17 => k_is)
    (case c17 => k_is)
    (case k17 => k_is)
    (case a18 => k_is)
    (case i18 => k_is)
    (case l18 => k_is)
    (case c18 => k_is)
    (case k18 => k_is)
    (case a19 => k_is)
    (case i19 => k_is)
    (case l19 => k_is)
    (case c19 => k_is)
    (case k19 => k_is)
    (case a20 => k_is)
    (case i20 => k_is)
    (case l20 => k_is)
    (case c20 => k_is)
    (case k20 => k_is)
    (case a21 => k_is)
    (case i21 => k_is)
    (case l21 => k_is)
    (case c21 => k_is)
    (case k21 => k_is)
    (case a22 => k_is)
    (case i22 => k_is)
    (case l22 => k_is)
    (case c22 => k_is)
    (case k22 => k_is)
    (case a23 => k_is)
    (case g23 => k_is)
    (case t23 => k_is)
    (case r23 => k_is)
    (case l23 => k_is)
    (case c23 => k_is)
    (case k23 => k_is)
    (case rd => k_is)
    (case ga => k_is)
    (case a24 => k_is)
    (case r24 => k_is)
    (case i24 => k_is)
    (case l24 => k_is)
    (case c24 => k_is)
    (case k24 => k_is)
    (case pg => k_is)
    (case hd => k_is)
    (case po => k_is)
    (case sa => k_is)
    (case mk => k_is)
    (case kc => k_is)
    (case nR => k_is)
    (case nA => k_is)
    (case lm => k_is)
    (case lg => k_is)
    (case nb => k_is)
    (case ne => k_is)
    (case mo => k_is)
    (case hcl => k_is)
    (case hg => k_is)
    (case ht => k_is)
    (case vL => k_is)
    (case vA => k_is)
    (case z_len => k_is)
    (case z_isinstance => k_is)
    (case z_str => k_is)
    (case z_all => k_is)
    (case z_tuple => k_is)
    (case z_list => k_is)
    (case z_sorted => k_is)
    (case z_abs => k_is)
    (case z_range => k_is)
    (case z_min => k_is)
    (case z_max => k_is)
    (case z_repr => k_is)
    (case z_any => k_is)
    (case z_bool => k_is)
