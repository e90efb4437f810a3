import PyProof.Rows.All
import Wide.All
import OpenK.AllK
import Wide.FinOn
import HandS.ForMost
import PyProof.InstNe
import HandS.OwnEq
import HandS.Star
import HandS.ClsMeth
import HandS.Property
import HandS.FStr
import HandS.ListItems
import HandS.IsInst
import HandS.Wide
import HandS.Sort
import HandS.More
import HandS.CallLocal
import KE.KParD
import HandS.Codes
import HandS.Walk
import HandS.TupLen
import HandS.List
import HandS.Text
import HandS.Ends
import PyProof.ReprRoads
import PyProof.AutoSeq1
import HandS.Style
import KE.KRevSl
import HandS.Defaults
import PyProof.StrLawsRepr
import PyProof.Rows.StrFit
import PyProof.Rows.RegStrFacts
import HandS.TupAny
import HandS.Deep
import PyProof.Rows.ReprOcc
import HandS.TupMul
import PySem.Challenge.RW_errorplaces_k11_is_stack
set_option Elab.async false
set_option linter.all false
set_option maxRecDepth 100000
set_option maxHeartbeats 8000000
namespace Own
open PySem PySem.Spec PyProof.Rows L2
section
variable {X : Cx} {k : Nat} {f g C : Addr} {fd : FuncData} {ps : List Str} {sp : Sp} {E : XK} {pins : List (Addr × Obj)} {σ : L2.St} {H : Hp} {s : Shared}
/-- a def that raises nothing, called somewhere below the body -/
theorem run_sub {Q : VK} {us : List Value} {vs : List V} {E' : Value → Shared → Prop} {A : Around} (hA : A.frames = X.A.frames) (F : FnOk X.prog X.w X.K X.mg X.base CX0 k f fd ps sp) (hr : Room k A) (hb : Binds X.K fd ps []) (I : Inv X pins σ H s) (r : Vals vs us) (h : sp vs H Q E) :
    wpAny (model X.prog X.w) A (call (.ref f) us) (EP X pins σ Q) E' s := by
  have hl : (us ++ []).length = ps.length := by rw [List.append_nil, ← r.length]; exact F.len _ _ _ _ h
  have e := I.env0
  have e0 : Env0 X.prog X.w X.K X.mg X.base A X.stack s H := ⟨by rw [hA]; exact e.frames, e.mod, e.bs, e.bsz, e.funs, e.frf, e.hok, e.bare⟩
  have hb' : BindsTo s fd ⟨us, []⟩ (ps.zip us) := by
    have q := hb s us I.kIn hl
    rw [List.append_nil] at q
    exact q
  refine wpAny_call (codeAny_mono (F.run A X.stack s H ⟨us, []⟩ us vs Q E hr e0 hb' r h) fun r s' hq => ?_)
  cases r with
  | error e => exact False.elim hq
  | ok fl =>
    cases fl with
    | ret u => exact I.after hq
    | next => exact False.elim hq
    | brk => exact False.elim hq
    | cont => exact False.elim hq
theorem inst_of {C dx a : Addr} {fs : List (Str × V)} (I : Inv X pins σ H s) (e : H a = some (.ins C dx fs)) : ∃ od, PySem.W.InstAt s.heap a (PySem.W.instObj C dx) C (some od) := by
  obtain ⟨mA, J, _⟩ := ins_get I.hok e
  obtain ⟨od, J, _⟩ := J.look
  exact ⟨od, J⟩
/-- the class's own special method -/
structure Spc (K : PySem.W.Frag) (C : Addr) (m : Str) (f : Addr) : Prop where
  at_ : PySem.W.findIn K (.ref C) m = some (some (.ref f))
  fn : PySem.W.isFn K (.ref f) = true

/-- len(o) -/
theorem call_lenO (c : Spc X.K C "__len__" f) (F : FnOk X.prog X.w X.K X.mg X.base CX0 k f fd ["self"] sp) (hr : Room (k + 1) X.A) (hb : Binds X.K fd ["self"] []) :
    CallR X (.builtin "len") (fun xs H Q => ∃ a dx fs, xs = [.ref a] ∧ H a = some (.ins C dx fs) ∧ sp [.ref a] H (fun v H1 => ∃ n : Int, v = .int n ∧ 0 ≤ n ∧ n < 2 ^ 63 ∧ Q (.int n) H1) E0) := by
  intro pins s σ H xs us Q I r h
  obtain ⟨a, dx, fs, rfl, ha, q⟩ := h
  obtain rfl := Vals.ref1 r
  obtain ⟨od, J⟩ := inst_of I ha
  obtain ⟨m, hF⟩ := I.fr
  refine PySem.W.len_K hF I.ok.mod.kin J c.at_ c.fn (thn (run_sub (A := X.A.in1) rfl F hr.in1 hb I r q) fun u s1 ⟨v, H1, I1, rv, n, ev, h0, h1, q1⟩ => ?_)
  subst ev
  obtain ⟨t, rfl⟩ := rv
  exact ⟨⟨h0, h1⟩, .int n, H1, I1.tok _, ⟨_, rfl⟩, q1⟩
/-- repr(o) -/
theorem call_reprO (c : Spc X.K C "__repr__" f) (F : FnOk X.prog X.w X.K X.mg X.base CX0 k f fd ["self"] sp) (hr : Room (k + 1) X.A) (hb : Binds X.K fd ["self"] []) :
    CallR X (.builtin "repr") (fun xs H Q => ∃ a dx fs, xs = [.ref a] ∧ H a = some (.ins C dx fs) ∧ sp [.ref a] H (fun v H1 => ∃ z : Str, v = .str z ∧ Q (.str z) H1) E0) := by
  intro pins s σ H xs us Q I r h
  obtain ⟨a, dx, fs, rfl, ha, q⟩ := h
  obtain rfl := Vals.ref1 r
  obtain ⟨od, J⟩ := inst_of I ha
  obtain ⟨m, hF⟩ := I.fr
  refine PySem.W.repr_K hr.in1.units0 hF I.ok.mod.kin J c.at_ c.fn (thn (run_sub (A := X.A.in1) rfl F hr.in1 hb I r q) fun u s1 ⟨v, H1, I1, rv, z, ev, q1⟩ => ?_)
  subst ev
  obtain ⟨t, rfl⟩ := rv
  exact ⟨.str z, H1, I1, ⟨_, rfl⟩, q1⟩
/-- x in o, x not in o -/
theorem op_inO (c : Spc X.K C "__contains__" f) (F : FnOk X.prog X.w X.K X.mg X.base CX0 k f fd ["self", "x"] sp) (hr : Room k X.A) (hb : Binds X.K fd ["self", "x"] []) :
    OpR X (compareOp .In) (fun x y H Q => ∃ a dx fs, y = .ref a ∧ H a = some (.ins C dx fs) ∧ sp [.ref a, x] H (fun v H1 => ∃ b, v = .bl b ∧ Q (.bl b) H1) E0) := by
  intro pins s σ H x y v u Q I rx ry h
  obtain ⟨a, dx, fs, rfl, ha, q⟩ := h
  cases ry
  obtain ⟨od, J⟩ := inst_of I ha
  obtain ⟨m, hF⟩ := I.fr
  refine PySem.W.in_K hF I.ok.mod.kin J c.at_ c.fn (thn (run_sub (vs := [.ref a, x]) rfl F hr hb I (.cons rfl (.cons rx .nil)) q) fun u s1 ⟨v, H1, I1, rv, b, ev, q1⟩ => ?_)
  subst ev
  cases rv
  exact wpAny_truthy_bool ⟨.bl b, H1, I1, rfl, q1⟩
theorem op_notInO (c : Spc X.K C "__contains__" f) (F : FnOk X.prog X.w X.K X.mg X.base CX0 k f fd ["self", "x"] sp) (hr : Room k X.A) (hb : Binds X.K fd ["self", "x"] []) :
    OpR X (compareOp .NotIn) (fun x y H Q => ∃ a dx fs, y = .ref a ∧ H a = some (.ins C dx fs) ∧ sp [.ref a, x] H (fun v H1 => ∃ b, v = .bl b ∧ Q (.bl (!b)) H1) E0) := by
  intro pins s σ H x y v u Q I rx ry h
  obtain ⟨a, dx, fs, rfl, ha, q⟩ := h
  cases ry
  obtain ⟨od, J⟩ := inst_of I ha
  obtain ⟨m, hF⟩ := I.fr
  refine PySem.W.notIn_K hF I.ok.mod.kin J c.at_ c.fn (thn (run_sub (vs := [.ref a, x]) rfl F hr hb I (.cons rfl (.cons rx .nil)) q) fun u s1 ⟨v, H1, I1, rv, b, ev, q1⟩ => ?_)
  subst ev
  cases rv
  exact wpAny_truthy_bool ⟨.bl (!b), H1, I1, rfl, q1⟩
/-- len(o) asked below a built-in's body -/
theorem len_body (c : Spc X.K C "__len__" f) (F : FnOk X.prog X.w X.K X.mg X.base CX0 k f fd ["self"] sp) {A : Around} (hA : A.frames = X.A.frames) (hr : Room k A) (hb : Binds X.K fd ["self"] []) {Q : Int → Shared → Prop} {E' : Value → Shared → Prop} {R : Int → Hp → Prop}
    {a dx : Addr} {fs : List (Str × V)} (I : Inv X pins σ H s) (ha : H a = some (.ins C dx fs)) (q : sp [.ref a] H (fun v H1 => ∃ n : Int, v = .int n ∧ 0 ≤ n ∧ n < 2 ^ 63 ∧ R n H1) E0) (hR : ∀ n H1 s', Inv X pins σ H1 s' → R n H1 → Q n s') :
    wpAny (model X.prog X.w) A (Builtin.«len» ⟨[.ref a], []⟩) (fun z s' => ∃ n t, z = Fin.done (.ret (.int n t)) ∧ Q n s') E' s := by
  obtain ⟨od, J⟩ := inst_of I ha
  have KX := I.kIn
  unfold Builtin.«len»
  refine wpAny_bind (m := oneArg "len" _) (wpAny_pure ?_)
  refine wpAny_bind (m := callSpecial? (.ref a) (Str.ofString "__len__")) (PySem.W.special_fn KX J c.at_ (beq_iff_eq.mp c.fn) ?_)
  refine thn (run_sub (vs := [.ref a]) hA F hr hb I (.cons rfl .nil) q) fun u s1 ⟨v, H1, I1, rv, n, ev, h0, h1, q1⟩ => ?_
  subst ev
  obtain ⟨t, rfl⟩ := rv
  refine wpAny_bind (wpAny_holding (wpAny_pure (wpAny_bind (wpAny_letGo ?_))))
  show wpAny _ _ (if n < 0 then _ else _) _ _ _
  rw [if_neg (by omega)]
  show wpAny _ _ (if n ≥ 2 ^ 63 then _ else _) _ _ _
  rw [if_neg (by omega)]
  exact wpAny_bind (wpAny_mkInt (wpAny_pure ⟨n, _, rfl, hR n H1 _ (I1.tok _) q1⟩))
/-- truth by __len__ -/
theorem truthy_len (hn : PySem.W.findIn X.K (.ref C) "__bool__" = some none) (c : Spc X.K C "__len__" f) (F : FnOk X.prog X.w X.K X.mg X.base CX0 k f fd ["self"] sp) {A : Around} (hA : A.frames = X.A.frames) (hr : Room (k + 1) A) (hb : Binds X.K fd ["self"] []) {Q : Bool → Shared → Prop} {E' : Value → Shared → Prop} {R : Int → Hp → Prop}
    {a dx : Addr} {fs : List (Str × V)} (I : Inv X pins σ H s) (ha : H a = some (.ins C dx fs)) (q : sp [.ref a] H (fun v H1 => ∃ n : Int, v = .int n ∧ 0 ≤ n ∧ n < 2 ^ 63 ∧ R n H1) E0) (hR : ∀ n H1 s', Inv X pins σ H1 s' → R n H1 → Q (n != 0) s') :
    wpAny (model X.prog X.w) A (truthy (.ref a)) Q E' s := by
  obtain ⟨od, J⟩ := inst_of I ha
  have KX := I.kIn
  unfold truthy
  refine wpAny_bind (m := callSpecial? (.ref a) (Str.ofString "__bool__")) (wpAny_bind (wpAny_bind (J.type.here ((PySem.W.looks_findIn KX hn).here (wpAny_pure ?_)))))
  refine wpAny_bind (wpAny_bind (J.type.here ((PySem.W.looks_findIn KX c.at_).here ?_)))
  have key : wpAny (model X.prog X.w) A (runValue (.builtin "len" ⟨[.ref a], []⟩)) (fun r s' => ∃ n t, r = .int n t ∧ Q (n != 0) s') E' s := by
    refine wpAny_runValue (codeAny_builtin entry_len ?_)
    rw [Around.under_plainId plain_len _]
    refine wpAny_mono (len_body (Q := fun n s' => Q (n != 0) s') (A := A.in1) c F hA hr.in1 hb I ha q hR) (fun z s' hz => ?_) fun _ _ e => e
    obtain ⟨n, t, rfl, hq⟩ := hz
    exact ⟨n, t, rfl, hq⟩
  refine wpAny_bind (wpAny_mono key (fun r s' hv => ?_) fun _ _ e => e)
  obtain ⟨n, t, rfl, hq⟩ := hv
  exact wpAny_pure hq
end
end Own

namespace Own
open PySem PySem.Spec PyProof.Rows L2
/-! bool(o): the constructor of a built-in type whose own code is known in this model alone -/
section
variable {prog : Program} {w : World} {A : Around} {E : Value → Shared → Prop} {s : Shared}
theorem typeMade_in {T nid iid : String} {Bn Bi : Builtin} {as : List Value} {S : PySem.Spec} {Q Q1 : Value → Shared → Prop} (tc : TypeCalled T nid iid) (c1 : checkTypeCall T ⟨as, []⟩ = pure ()) (c2 : checkBuiltinCall nid ⟨.type T :: as, []⟩ = pure ())
    (e1 : entryFor table nid = some Bn) (e2 : entryFor table iid = some Bi) (g1 : MeetsIn prog w (Bn ⟨.type T :: as, []⟩) S) (h1 : S A.in1 (wants Q1 E) s)
    (h2 : ∀ o s1, Q1 o s1 → s1.TypeIs o T ∧ argsOk iid ⟨o :: as, []⟩ ∧ ∃ S2, Meets (Bi ⟨o :: as, []⟩) S2 ∧ S2 A.in1 (wants (fun r s2 => r = .none ∧ Q o s2) E) s1) : wpAny (model prog w) A (call (.type T) as) Q E s := by
  obtain ⟨mc, ml, mr⟩ := tc.mro
  have m1 := tc.made
  have m2 := tc.sub
  refine wpAny_call (codeAny_of_tree ?_)
  show wpAny _ _ (callAny (.type T) _) _ _ _
  refine wpAny_pure ⟨Code.quiet_builtin _ (by decide +kernel), codeAny_builtin PySem.F.entry_type_call ?_⟩
  rw [Around.under_plain (weight_type_call_type T as []) (units_type_call_type T as [])]
  have m3 := tc.notType
  have m4 := tc.canCreate
  repeat (any_goals (first | assumption | wp_step))
  refine codeAny_mono (codeAny_call_builtin tc.plain e1 (wpAny_of_eq c2 (g1 A.in1 _ s h1))) fun z s1 hz => ?_
  cases z with
  | error _ => exact hz
  | ok fl =>
    cases fl with
    | next => exact hz.elim
    | brk => exact hz.elim
    | cont => exact hz.elim
    | ret o =>
      obtain ⟨hT, hok, S2, g2, q2⟩ := h2 _ _ hz
      have l1 := tc.init.lookup
      have l2 := tc.init.bind o
      repeat (any_goals (first | assumption | wp_step))
      refine codeAny_mono (codeAny_call_builtin tc.init.plain e2 (tc.init.check _ _ _ _ _ _ _ _ hT hok (g2 prog w A.in1 _ s1 q2))) fun z2 s2 hz2 => ?_
      cases z2 with
      | error _ => exact hz2
      | ok fl2 =>
        cases fl2 with
        | next => exact hz2.elim
        | brk => exact hz2.elim
        | cont => exact hz2.elim
        | ret r =>
          obtain ⟨rfl, hq⟩ := hz2
          repeat (any_goals (first | assumption | wp_step))
end
section
variable {X : Cx} {k : Nat} {f g C : Addr} {fd : FuncData} {sp : Sp}
theorem call_boolO (hn : PySem.W.findIn X.K (.ref C) "__bool__" = some none) (c : Spc X.K C "__len__" f) (F : FnOk X.prog X.w X.K X.mg X.base CX0 k f fd ["self"] sp) (hr : Room (k + 4) X.A) (hb : Binds X.K fd ["self"] []) :
    CallR X (.type "bool") (fun xs H Q => ∃ a dx fs, xs = [.ref a] ∧ H a = some (.ins C dx fs) ∧ sp [.ref a] H (fun v H1 => ∃ n : Int, v = .int n ∧ 0 ≤ n ∧ n < 2 ^ 63 ∧ Q (.bl (n != 0)) H1) E0) := by
  intro pins s σ H xs us Q I r h
  obtain ⟨a, dx, fs, rfl, ha, q⟩ := h
  obtain rfl := Vals.ref1 r
  have g1 : MeetsIn X.prog X.w (Builtin.«bool.__new__» ⟨[.type "bool", .ref a], []⟩) (fun A' R s0 => A' = X.A.in1 ∧ s0 = s ∧ ∀ (b : Bool) (s' : Shared), EP X pins σ Q (.bool b) s' → R (.ok (.ret (.bool b))) s') := by
    rintro A' R s0 ⟨rfl, rfl, hR⟩
    have f1 := PySem.F.conv_sub_bool
    obtain ⟨hp, gg, d, tk, os⟩ := s0
    have tr : wpAny (model X.prog X.w) X.A.in1.in1 (truthy (.ref a)) (fun b s' => EP X pins σ Q (.bool b) s') (fun e s' => R (.error e) s') ⟨hp, gg, d, tk, os⟩ := by
      exact truthy_len (A := X.A.in1.in1) hn c F rfl (hr.mono (by omega : k + 1 + 1 + 1 ≤ k + 4)).in1.in1 hb I ha q fun n H1 s' I1 q1 => ⟨.bl (n != 0), H1, I1, rfl, q1⟩
    repeat (any_goals (first | assumption | (with_reducible refine thn tr fun b s' hb => ?_) | wp_step))
    exact hR _ _ (by assumption)
  exact typeMade_in (Q1 := fun o s1 => s1.TypeIs o "bool" ∧ EP X pins σ Q o s1) PySem.F.called_bool (PySem.F.typeCall_bool_1 _) (PySem.F.newCall_bool_1 _) PySem.F.entry_bool_new PySem.F.entry_object_init g1 ⟨rfl, rfl, fun b s' hb => ⟨PySem.typeIs_bool _ _, hb⟩⟩ fun o s1 hq => ⟨hq.1, PySem.F.args_object_init_2 _ _, _, object_init_meets PySem.F.called_bool.init.lookup PySem.F.called_bool.made PySem.F.newNe_bool, hq.1, rfl, hq.2⟩
end
end Own

namespace Own
open PySem PySem.Spec PyProof.Rows L2
/-! a != b by the own __eq__ (the class has no __ne__ of its own) -/
section
variable {X : Cx} {k : Nat} {f C : Addr} {fd : FuncData} {sp : Sp} {pins : List (Addr × Obj)} {σ : L2.St} {H : Hp} {s : Shared}
theorem ne_bind (self : Value) : bindSpecial (.builtin "object.__ne__") self = pure (.builtin "object.__ne__", [self]) := PySem.F.slot_tuple_iterator_ne.bind self
theorem cmp_eqO (c : Spc X.K C "__eq__" f) (F : FnOk X.prog X.w X.K X.mg X.base CX0 k f fd ["self", "other"] sp) (hr : Room k X.A) (hb : Binds X.K fd ["self", "other"] []) :
    OpR X (compareOp .Eq) (fun x y H Q => ∃ a b dx fs dy gs, x = .ref a ∧ y = .ref b ∧ H a = some (.ins C dx fs) ∧ H b = some (.ins C dy gs) ∧ sp [.ref a, .ref b] H (fun v H1 => ∃ z, v = .bl z ∧ Q (.bl z) H1) E0) := by
  intro pins s σ H x y v u Q I rx ry h
  obtain ⟨a, b, dx, fs, dy, gs, rfl, rfl, ha, hb', q⟩ := h
  cases rx
  cases ry
  obtain ⟨od, J⟩ := inst_of I ha
  obtain ⟨od', J'⟩ := inst_of I hb'
  obtain ⟨m, hF⟩ := I.fr
  refine PySem.W.cmp_ofEq (PySem.W.cmp_K (op := .Eq) (tb := .ref C) hr.units0 hF I.ok.mod.kin J J'.type (by simp [PySem.W.notFirst]) c.at_ c.fn ?_)
  refine thn (run_sub (vs := [.ref a, .ref b]) rfl F hr hb I (.cons rfl (.cons rfl .nil)) q) fun u s1 ⟨v, H1, I1, rv, z, ev, q1⟩ => ?_
  subst ev
  cases rv
  exact ⟨.bl z, H1, I1, rfl, q1⟩
/-- the class takes != from object -/
structure NeO (K : PySem.W.Frag) (C : Addr) : Prop where
  at_ : PySem.W.findIn K (.ref C) "__ne__" = some (some (.builtin "object.__ne__"))
  ob : PySem.W.mroIn K C (.type "object") = some true
theorem cmp_neO (n : NeO X.K C) (c : Spc X.K C "__eq__" f) (F : FnOk X.prog X.w X.K X.mg X.base CX0 k f fd ["self", "other"] sp) (hr : Room (k + 4) X.A) (hb : Binds X.K fd ["self", "other"] []) :
    OpR X (compareOp .NotEq) (fun x y H Q => ∃ a b dx fs dy gs, x = .ref a ∧ y = .ref b ∧ H a = some (.ins C dx fs) ∧ H b = some (.ins C dy gs) ∧ sp [.ref a, .ref b] H (fun v H1 => ∃ z, v = .bl z ∧ Q (.bl (!z)) H1) E0) := by
  intro pins s σ H x y v u Q I rx ry h
  obtain ⟨a, b, dx, fs, dy, gs, rfl, rfl, ha, hb', q⟩ := h
  cases rx
  cases ry
  obtain ⟨od, J⟩ := inst_of I ha
  obtain ⟨od', J'⟩ := inst_of I hb'
  have KX := I.kIn
  have inner : wpAny (model X.prog X.w) X.A.in1 (Builtin.«object.__ne__» ⟨[.ref a, .ref b], []⟩) (fun z s' => ∃ t, z = Fin.done (.ret (.bool t)) ∧ EP X pins σ Q (.bool t) s') X.xe s := by
    unfold Builtin.«object.__ne__»
    refine wpAny_bind (m := slotArgs "__ne__" 1 _) (wpAny_pure ?_)
    refine wpAny_bind (wpAny_cRoomFor (hr.mono (by omega : k + 3 + 1 ≤ k + 4)).in1.units0 ?_)
    refine wpAny_bind (m := callSpecialIfBound? (.ref a) (Str.ofString "__eq__") [.ref b]) (PySem.W.ifBound_K KX J c.at_ c.fn ?_)
    refine thn (run_sub (A := X.A.in1) (vs := [.ref a, .ref b]) rfl F (hr.mono (by omega : k + 1 ≤ k + 4)).in1 hb I (.cons rfl (.cons rfl .nil)) q) fun u s1 ⟨v, H1, I1, rv, z, ev, q1⟩ => ?_
    subst ev
    cases rv
    refine wpAny_bind (wpAny_truthy_bool (wpAny_pure ⟨_, rfl, .bl (!z), H1, I1, rfl, q1⟩))
  have one : wpAny (model X.prog X.w) X.A (tryCompare (.ref a) "__ne__" (.ref b)) (fun r s' => ∃ t, r = some (.bool t) ∧ EP X pins σ Q (.bool t) s') X.xe s := by
    have cl : wpAny (model X.prog X.w) X.A (call (.builtin "object.__ne__") [.ref a, .ref b]) (fun r s' => ∃ t, r = .bool t ∧ EP X pins σ Q (.bool t) s') X.xe s := by
      refine wpAny_call (codeAny_call_builtin PySem.F.slot_tuple_iterator_ne.plain PySem.F.cmpEntry_ne ?_)
      refine @PySem.W.check_slot (model X.prog X.w) _ _ s "object.__ne__" "object" "__ne__" (.ref a) [.ref b] [] _ PySem.F.cmpKind_ne PySem.F.cmpSplit_ne (J.type.andThen (PySem.W.looks_mroIn KX n.ob)) (PySem.F.cmpArgs_ne _ _) ?_
      refine wpAny_mono inner (fun z s' hz => ?_) fun _ _ e => e
      obtain ⟨t, rfl, hq⟩ := hz
      exact ⟨t, rfl, hq⟩
    simp only [tryCompare, callSpecialIfBound?, bindSpecialIfBound?]
    refine wpAny_bind (wpAny_holding (wpAny_bind (wpAny_bind (wpAny_bind (J.type.here ((PySem.W.looks_findIn KX n.at_).here ?_))))))
    refine wpAny_bind (wpAny_askSetting (wpAny_ite ?_))
    have fin : wpAny (model X.prog X.w) X.A (call (.builtin "object.__ne__") ([.ref a] ++ [.ref b]) >>= fun v => pure (some v)) (fun r s' => ∃ t, r = some (.bool t) ∧ EP X pins σ Q (.bool t) s') X.xe s :=
      wpAny_bind (wpAny_mono cl (fun v s' ⟨t, e, hq⟩ => wpAny_pure ⟨t, by rw [e], hq⟩) fun _ _ e => e)
    have fin2 : wpAny (model X.prog X.w) X.A (call (.builtin "object.__ne__") ([.ref a] ++ [.ref b]) >>= fun v => pure (some v)) (fun r s' => wpAny (model X.prog X.w) X.A (match r with | some .notImplemented | none => pure none | some v => pure (some v)) (fun r s' => ∃ t, r = some (.bool t) ∧ EP X pins σ Q (.bool t) s') X.xe s') X.xe s :=
      wpAny_mono fin (fun r s' ⟨t, e, hq⟩ => by subst e; exact wpAny_pure ⟨t, rfl, hq⟩) fun _ _ e => e
    split
    · exact wpAny_bind ((PySem.W.Looks.of_pure (ne_bind _)).here (wpAny_pure (by exact fin2)))
    · exact wpAny_tryCatch (wpAny_bind ((PySem.W.Looks.of_pure (ne_bind _)).here (wpAny_pure (by exact fin2))))
  show wpAny _ _ (richCompare .NotEq (.ref a) (.ref b)) _ _ _
  unfold richCompare
  simp only [oneThing_ref]
  refine wpAny_holding (wpAny_bind (wpAny_cRoomFor hr.units0 ?_))
  refine wpAny_bind (J.type.here (wpAny_bind (J'.type.here ?_)))
  rw [show (Value.ref C != Value.ref C) = false from by simp]
  simp only [Bool.false_eq_true, if_false]
  refine wpAny_bind (wpAny_pure ?_)
  simp only [Bool.false_eq_true, if_false]
  refine wpAny_bind (wpAny_mono one (fun r s' ⟨t, e, hq⟩ => ?_) fun _ _ e => e)
  subst e
  exact wpAny_pure hq
end
end Own

namespace Own
open PySem PySem.Spec PyProof.Rows L2
/-! a def that takes all keywords: f(self, **bases) -/
section
variable {prog : Program} {w : World} {A : Around} {E : Value → Shared → Prop} {d : Addr}
theorem put_one {s : Shared} {es : List DictEntry} {n : Nat} {k : Str} {v : Value} {Q : Unit → Shared → Prop} (D : s.heap.get? d = some (PySem.W.dictOf es n)) (hs : ∀ e ∈ es, e.key.isStr k = false) (hr : ∀ e ∈ es, e.refKey = false)
    (h : ∀ h', h'.get? d = some (PySem.W.dictOf (es ++ [⟨PyData.keyHash w.params k, .str k s.toks, v⟩]) (n + 1)) → (∀ b o, b ≠ d → s.heap.get? b = some o → h'.get? b = some o) → Q () { s with heap := h', toks := s.toks + 1 }) :
    wpAny (model prog w) A (nsSet d k v) Q E s := by
  have a1 : es.any (·.key.isStr k) = false := List.any_eq_false.mpr fun e he => by rw [hs e he]; decide
  have a2 : es.any (·.refKey) = false := List.any_eq_false.mpr fun e he => by rw [hr e he]; decide
  have a3 : Obj.putName k (PyData.keyHash w.params k) (.str k s.toks) v (PySem.W.dictOf es n) = PySem.W.dictOf (es ++ [⟨PyData.keyHash w.params k, .str k s.toks, v⟩]) (n + 1) := by
    rw [PySem.W.putName_dict, PySem.W.putL_new hs]
    show PySem.W.dictOf _ (if es.any (·.key.isStr k) then n else n + 1) = _
    rw [a1, if_neg Bool.false_ne_true]
  have a4 : aRefKeyMayBeTheName k es.toArray = false := by
    rw [aRefKeyMayBeTheName_at, ← Array.any_toList, ← Array.any_toList]
    show (!es.any (·.key.isStr k) && es.any (·.refKey)) = false
    rw [a2, Bool.and_false]
  unfold nsSet
  refine wpAny_bind (wpAny_bind (wpAny_askSetting (wpAny_pure (wpAny_bind (wpAny_mkText (wpAny_bind (wpAny_loadPart D ?_)))))))
  dsimp only
  rw [a4]
  refine wpAny_updatePart D (h _ ?_ fun b o hb e => ?_)
  · rw [← a3]
    exact Heap.get?_update_self _ D ((congrArg Obj.isFreed a3).trans rfl)
  · exact (Heap.get?_update_ne _ b d _ hb).trans e
def putAll (d : Addr) (l : List (Str × Value)) : Sem PUnit := forIn l PUnit.unit fun x _ => (nsSet d x.1 x.2 >>= fun _ => pure (ForInStep.yield PUnit.unit))
theorem put_all {Q : PUnit → Shared → Prop} : ∀ (l : List (Str × Value)) (s : Shared) (es : List DictEntry) (n : Nat), s.heap.get? d = some (PySem.W.dictOf es n) → (∀ e ∈ es, ∀ x ∈ l, e.key.isStr x.1 = false) → (∀ e ∈ es, e.refKey = false) → (l.map (·.1)).Nodup →
    (∀ h', h'.get? d = some (PySem.W.dictOf (es ++ PySem.W.kwEs w.params s.toks l) (n + l.length)) → (∀ b o, b ≠ d → s.heap.get? b = some o → h'.get? b = some o) → Q ⟨⟩ { s with heap := h', toks := s.toks + l.length }) → wpAny (model prog w) A (putAll d l) Q E s
  | [], s, es, n, D, _, _, _, h => by
    unfold putAll
    rw [List.forIn_nil]
    refine wpAny_pure (h s.heap ?_ fun _ _ _ e => e)
    show s.heap.get? d = some (PySem.W.dictOf (es ++ []) n)
    rw [List.append_nil]
    exact D
  | x :: r, s, es, n, D, hs, hr, hn, h => by
    obtain ⟨n1, n2⟩ := List.nodup_cons.mp (show (x.1 :: r.map (·.1)).Nodup from hn)
    unfold putAll
    rw [List.forIn_cons]
    refine wpAny_bind (wpAny_bind (put_one D (fun e he => hs e he x (.head _)) hr fun h' D' k' => wpAny_pure ?_))
    refine put_all r { s with heap := h', toks := s.toks + 1 } _ _ D' (fun e he y hy => ?_) (fun e he => ?_) n2 fun h2 D2 k2 => ?_
    · rcases List.mem_append.mp he with z | z
      · exact hs e z y (.tail _ hy)
      · obtain rfl := List.mem_singleton.mp z
        exact beq_eq_false_iff_ne.mpr fun q => n1 (by rw [q]; exact List.mem_map_of_mem hy)
    · rcases List.mem_append.mp he with z | z
      · exact hr e z
      · obtain rfl := List.mem_singleton.mp z
        rfl
    · have t1 : s.toks + 1 + r.length = s.toks + (r.length + 1) := by omega
      have t2 : n + 1 + r.length = n + (r.length + 1) := by omega
      show Q ⟨⟩ { s with heap := h2, toks := s.toks + 1 + r.length }
      rw [t1]
      refine h h2 ?_ fun b o hb e => k2 b o hb (k' b o hb e)
      rw [t2, List.append_assoc] at D2
      exact D2
/-- the keys are texts -/
def keyed {α : Type} (l : List (Str × α)) : List (Key × α) := l.map fun p => (.inr p.1, p.2)
theorem keyed_pairs : ∀ (l : List (Str × Value)) (t : Tok), Pairs (mixKind prog w) (PySem.W.kwEs w.params t l) (keyed l)
  | [], _ => Pairs.nil
  | x :: r, t => Pairs.cons (mixKind_str prog w x.1 t) rfl (keyed_pairs r (t + 1))
theorem keyed_keys {α : Type} (l : List (Str × α)) : (keyed l).map (·.1) = (l.map (·.1)).map Sum.inr := by
  unfold keyed
  rw [List.map_map, List.map_map]
  rfl
theorem keyed_nodup {α : Type} {l : List (Str × α)} (h : (l.map (·.1)).Nodup) : ((keyed l).map (·.1)).Nodup := by
  rw [keyed_keys]
  exact List.Pairwise.map _ (fun a b n e => n (Sum.inr.inj e)) h
theorem put_dict {h : Heap} {l : List (Str × Value)} {t : Tok} {n : Nat} (D : h.get? d = some (PySem.W.dictOf (PySem.W.kwEs w.params t l) n)) (hn : (l.map (·.1)).Nodup) : h.DictOf (mixKind prog w) d (keyed l) := by
  refine ⟨_, (PySem.W.kwEs w.params t l).toArray, n, D, ⟨rfl, rfl, rfl⟩, rfl, fun e he => ?_, keyed_pairs l t, keyed_nodup hn⟩
  obtain ⟨k, u, hk, hh⟩ := PySem.W.kwEs_key l t e (List.mem_toArray.mp he)
  exact ⟨.inr k, by rw [hk]; exact mixKind_str prog w k u, hh.trans rfl⟩
theorem keyed_kv : ∀ {ks : List Str} {vs : List V} {ws : List Value}, Vals vs ws → KV (keyed (ks.zip vs)) (keyed (ks.zip ws))
  | [], _, _, _ => by
    rw [List.zip_nil_left, List.zip_nil_left]
    exact .nil
  | _ :: _, _, _, .nil => .nil
  | k :: ks, _, _, .cons r t => .cons ⟨rfl, r⟩ (keyed_kv t)
end
end Own

namespace Own
open PySem PySem.Spec PyProof.Rows L2
section
variable {P : Program} {w : World} {K : PySem.W.Frag} {mg : Str → Option Value} {base : Heap} {A : Around} {outer : List Env} {s : Shared} {H : Hp}
theorem env0_grown {h' : Heap} {d : Addr} {u : HO} {t : Nat} (e0 : Env0 P w K mg base A outer s H) (kp : ∀ b x, s.heap.get? b = some x → h'.get? b = some x) (hd : s.heap.objs.size ≤ d) (sz : s.heap.objs.size ≤ h'.objs.size) (new : ObjOk P w (upd H d u) h' d u) :
    Env0 P w K mg base A outer { s with heap := h', toks := t } (upd H d u) := by
  refine ⟨e0.frames, e0.mod, fun b x e => ⟨kp b x (e0.bs b x e).1, ?_⟩, Nat.le_trans e0.bsz sz, Heap.FunFrames.of_keeps (fun b x e _ => ⟨x, kp b x e, rfl⟩) e0.funs, fun b hb => ?_, e0.hok.laid kp hd new, e0.bare⟩
  · rw [upd_ne (Nat.ne_of_lt (Nat.lt_of_lt_of_le (Heap.lt_size (e0.bs b x e).1) hd))]
    exact (e0.bs b x e).2
  · obtain ⟨_, x, hx, _⟩ := e0.funs.mem hb
    rw [upd_ne (Nat.ne_of_lt (Nat.lt_of_lt_of_le (Heap.lt_size hx) hd))]
    exact e0.frf b hb
/-- a promise of a def f(self, **bases): the object, the names, their values -/
abbrev SpK := Addr → List Str → List V → Hp → VK → Prop
def FnKw (P : Program) (w : World) (K : PySem.W.Frag) (mg : Str → Option Value) (base : Heap) (k : Nat) (f : Addr) (sp : SpK) : Prop :=
  ∀ (A : Around) (outer : List Env) (s : Shared) (H : Hp) (x : Addr) (ks : List Str) (ws : List Value) (vs : List V) (Q : VK) (E : XK), Room k A → Env0 P w K mg base A outer s H → Vals vs ws → vs.length = ks.length → sp x ks vs H Q →
    codeAny (model P w) A (.call (.ref f) ⟨[.ref x], ks.zip ws⟩) (CR CX0 outer P w H s Q E) s
theorem fn_kw {k : Nat} {f : Addr} {name qual : Str} {params : Arguments} {body : List Stmt} {scope : Scope} {dV kV doc pm cdv ct oc : Value} {an od : Option Addr} {osl : Array (Option Value)} {N : List Str} {sp : SpK} {p1 p2 : Str}
    (lk : K.lookup f = some ⟨oc, od, .func (PySem.W.fnOf name qual params body scope dV kV doc pm an cdv ct), osl⟩) (hcd : PySem.W.codeIn K cdv qual = true) (S : FnScope N [p1, p2] scope)
    (nd : ∀ x ks vs H Q, sp x ks vs H Q → ks.Nodup ∧ ks.length ≤ 1000)
    (hb : ∀ x ks vs H Q (ws : List Value), sp x ks vs H Q → ws.length = ks.length → bindArgs (PySem.W.fnOf name qual params body scope dV kV doc pm an cdv ct) ⟨[.ref x], ks.zip ws⟩ =
      (alloc ({ cls := .type "dict", data := .dict #[] } : Obj) >>= fun d => putAll d (ks.zip ws) >>= fun _ => pure [(p1, Value.ref x), (p2, Value.ref d)]))
    (hbody : ∀ (A : Around) (outer : List Env) (s : Shared) (H : Hp) (x d : Addr) (ks : List Str) (vs : List V) (Q : VK) (E : XK), Room k (A.deeper (envOfC qual scope s.heap.objs.size f cdv)) → sp x ks vs H Q → H d = none →
      ∃ t, PSs (cxOf CX0 P w K mg base N qual scope f cdv A outer s (upd H d (.dK (keyed (ks.zip vs)))) E).nox body t ∧ t { nx := fun _ H' => Q .non H', rt := Q } (start N [.ref x, .ref d]) (upd H d (.dK (keyed (ks.zip vs))))) :
    FnKw P w K mg base (k + 1) f sp := by
  intro A outer s H x ks ws vs Q E hr e0 r hl hsp
  have hlw : ws.length = ks.length := r.length.symm.trans hl
  have hn : H s.heap.objs.size = Option.none := e0.hok.fresh (Nat.le_refl _)
  obtain ⟨nd1, nd2⟩ := nd _ _ _ _ _ hsp
  have keysE : ((ks.zip ws).map (·.1)) = ks := by
    rw [List.map_fst_zip]
    omega
  refine StX.run_bnd (ps := [p1, p2]) lk hcd S hr e0 (G := fun xs H2 => ∃ d, H d = Option.none ∧ xs = [V.ref x, V.ref d] ∧ H2 = upd H d (.dK (keyed (ks.zip vs)))) (fun A' Ex Q' h => ?_) fun s2 H2 xs ⟨d, hd, ex, eH⟩ hr' => ?_
  · rw [hb x ks vs H Q ws hsp hlw]
    refine wpAny_bind (wpAny_alloc (wpAny_bind ?_))
    refine put_all (ks.zip ws) { s with heap := s.heap.push ({ cls := .type "dict", data := .dict #[] } : Obj) } [] 0 (Heap.get?_push_size _ rfl) (fun _ z => nomatch z) (fun _ z => nomatch z) (by rw [keysE]; exact nd1) fun h' D' kp' => wpAny_pure ?_
    have kp : ∀ b o, s.heap.get? b = some o → h'.get? b = some o := fun b o e => kp' b o (Nat.ne_of_lt (Heap.lt_size e)) (Heap.get?_push_of_some _ e)
    have dct : h'.DictOf (mixKind P w) s.heap.objs.size (keyed (ks.zip ws)) := put_dict (t := s.toks) (n := 0 + (ks.zip ws).length) (by simpa using D') (by rw [keysE]; exact nd1)
    have kv : KV (keyed (ks.zip vs)) (keyed (ks.zip ws)) := keyed_kv r
    have z : (keyed (ks.zip vs)).length ≤ sizeLine := by
      unfold keyed
      rw [List.length_map, List.length_zip]
      exact Nat.le_of_lt (small1000 (by omega))
    have big := StX.env0_big e0
    have new : ObjOk P w (upd H s.heap.objs.size (.dK (keyed (ks.zip vs)))) h' s.heap.objs.size (.dK (keyed (ks.zip vs))) := ⟨z, beq_eq_false_iff_ne.mpr (Ne.symm (Nat.ne_of_lt big)), _, kv, dct⟩
    have un : Un (frs outer) [] H (upd H s.heap.objs.size (.dK (keyed (ks.zip vs)))) s.heap h' := Un.laid kp (Nat.le_refl _) hn
    exact h { s with heap := h', toks := s.toks + (ks.zip ws).length } _ [V.ref x, V.ref s.heap.objs.size] [Value.ref x, Value.ref s.heap.objs.size] (env0_grown e0 kp (Nat.le_refl _) (Nat.le_of_lt (by
      obtain ⟨o, es, ep, ho, _⟩ := dct
      exact Heap.lt_size ho)) new) un rfl (fun e s' hh => hh) (.cons rfl (.cons rfl .nil)) rfl ⟨_, hn, rfl, rfl⟩
  · subst ex eH
    obtain ⟨t, ht, q⟩ := hbody A outer s2 H x d ks vs Q E hr' hsp hd
    exact ⟨t, ht.nox, q⟩
end
/-- C(k = v, ..), no positional argument -/
def tMakeKw (C : Addr) (ks : List Str) (sp : SpK) (tk : TA) : TE := fun σ H Q => tk σ H fun zs H2 => zs.length = ks.length ∧
  ∀ x dx, H2 x = none → H2 dx = none → dx ≠ x → sp x ks zs (upd (upd H2 dx (.own x)) x (.ins C dx [])) (fun v H3 => v = .non ∧ Q (.ref x) H3)
section
variable {X : Cx} {k i : Nat} {f C : Addr} {ks : List Str} {sp : SpK} {x : Str} {p pos : Pos} {kws : List Keyword} {tk : TA}
theorem run_makeKw {pins : List (Addr × Obj)} {σ : L2.St} {H : Hp} {s : Shared} {Q : VK} {ws : List Value} {zs : List V} (M : Mk X.K C f) (F : FnKw X.prog X.w X.K X.mg X.base k f sp) (hr : Room (k + 1) X.A) (I : Inv X pins σ H s) (rz : Vals zs ws) (l : zs.length = ks.length)
    (h : ∀ x dx, H x = none → H dx = none → dx ≠ x → sp x ks zs (upd (upd H dx (.own x)) x (.ins C dx [])) (fun v H3 => v = .non ∧ Q (.ref x) H3)) :
    wpAny (model X.prog X.w) X.A (call (.ref C) [] (ks.zip ws)) (EP X pins σ Q) X.xe s := by
  have hq := h (s.heap.objs.size + 1) s.heap.objs.size (I.hok.fresh (Nat.le_succ _)) (I.hok.fresh (Nat.le_refl _)) (Nat.ne_of_lt (Nat.lt_succ_self _))
  have I2 := Inv.made (C := C) I
  refine wpAny_call (make_map (f := f) I.kIn M.makes M.init (beq_iff_eq.mp M.fn) (codeAny_mono (F _ X.stack _ _ (s.heap.objs.size + 1) ks ws zs _ E0 (hr.make C [] (ks.zip ws)) (I2.env0.make C [] (ks.zip ws)) rz l hq) fun r s' z => ?_))
  cases r with
  | error e => exact False.elim z
  | ok fl =>
    cases fl with
    | next => exact False.elim z
    | brk => exact False.elim z
    | cont => exact False.elim z
    | ret u =>
      obtain ⟨v, H3, I3, rv, ev, q3⟩ := I2.after z
      subst ev
      exact ⟨rv, V.ref (s.heap.objs.size + 1), H3, I3, rfl, q3⟩
theorem pe_makeKw (M : Mk X.K C f) (F : FnKw X.prog X.w X.K X.mg X.base k f sp) (hr : Room (k + 1) X.A) (hg : Gl X x) (hm : X.mg x = some (.ref C)) (hkw : PK X kws tk)
    (hall : (backToKw pos (keywordEach kws X.env)).all (·.1.isSome) = true := by rfl) (hks : (backToKw pos (keywordEach kws X.env)).filterMap (·.1) = ks := by rfl) (hdb : (x == ("__debug__" : Str)) = false := by decide)
    (hpl : ((backTo pos (starEach [] X.env)).any (·.1) || (backToKw pos (keywordEach kws X.env)).any (·.1.isNone)) = false := by rfl) : PE X (.Call (.Name x p) [] kws pos) (tMakeKw C ks sp tk) := by
  refine ⟨fun pins s σ H Q I h => ?_⟩
  refine wpAny_Call_Name_kw (ld_glob I hg hm ?_ hdb)
  refine PySem.W.callWith_KW0 (h₀ := X.base) (first := []) I.ok.mod.kin M.kp hall (thn (hkw.run pos pins s σ H _ I h) fun ws s2 ⟨zs, H2, I2, rz, l, q⟩ => ⟨I2.kIn, ?_⟩) hpl
  rw [hks]
  exact run_makeKw M F hr I2 rz l q
/-- x(), x a local name that holds the class -/
def tMakeL (i : Nat) (C : Addr) (sp : SpK) : TE := fun σ H Q => σ[i]? = some (some (.ref C)) ∧ ∀ x dx, H x = none → H dx = none → dx ≠ x → sp x [] [] (upd (upd H dx (.own x)) x (.ins C dx [])) (fun v H3 => v = .non ∧ Q (.ref x) H3)
theorem pe_makeL (M : Mk X.K C f) (F : FnKw X.prog X.w X.K X.mg X.base k f sp) (hr : Room (k + 1) X.A) (hN : X.N[i]? = some x) (hv : Vis X.env.scope x) (hdb : (x == ("__debug__" : Str)) = false := by decide) (hcd : (x == ("__classdict__" : Str)) = false := by decide) :
    PE X (.Call (.Name x p) [] [] pos) (tMakeL i C sp) := by
  refine ⟨fun pins s σ H Q I h => ?_⟩
  obtain ⟨hs, h⟩ := h
  refine wpAny_Call_Name_kw (thn ((pe_var (pos := p) hN hv hdb hcd).run pins s σ H (fun v H1 => v = .ref C ∧ H1 = H) I ⟨.ref C, hs, rfl, rfl⟩) fun u s1 ⟨v, H1, I1, r1, q1⟩ => ?_)
  obtain ⟨rfl, rfl⟩ := q1
  cases r1
  exact PySem.W.callWith_K0 I1.kIn M.kp (run_makeKw (ks := []) M F hr I1 .nil rfl h)
end
end Own

namespace Own
open PySem PySem.Spec PyProof.Rows L2
/-- one value by place, one by its name -/
structure BK1 (fd : FuncData) (ps : List Str) (kw : Str) : Prop where
  to : ∀ (s : Shared) (u w : Value), BindsTo s fd ⟨[u], [(kw, w)]⟩ (ps.zip [u, w])
theorem bk1_of {K : PySem.W.Frag} {x qual : Str} {st : Stmt} {f : Addr} {fd : FuncData} {ps : List Str} {kw : Str} (F : Fun K x qual st f fd)
    (h : ∀ (kV doc pm : Value) (an : Option Addr) (cdv ct u w : Value), bindArgs (PySem.W.fnOf x qual (defArgs st) (defBody st) (defScope st) .none kV doc pm an cdv ct) ⟨[u], [(kw, w)]⟩ = pure (ps.zip [u, w])) : BK1 fd ps kw := by
  obtain ⟨oc, od, kV, doc, pm, an, cdv, ct, osl, rfl, lk, hcd⟩ := F.ex
  exact ⟨fun s u w => .of_eq (h kV doc pm an cdv ct u w)⟩
section
variable {X : Cx} {k : Nat} {f g C p : Addr} {fd : FuncData} {ps : List Str} {sp : Sp} {E : XK} {m kw : Str} {o e : Expr} {kpos pos apos : Pos} {ta te : TE} {mc : Value} {pl : Sem Bool}
theorem code_k1 {pins : List (Addr × Obj)} {σ : L2.St} {H : Hp} {s : Shared} {Q : VK} {u w : Value} {x y : V} (F : FnOk X.prog X.w X.K X.mg X.base CX0 k f fd ps sp) (hr : Room k X.A) (hb : BK1 fd ps kw) (I : Inv X pins σ H s) (rx : RelV x u) (ry : RelV y w) (h : sp [x, y] H Q E)
    {E' : Value → Shared → Prop} : codeAny (model X.prog X.w) X.A (.call (.ref f) ⟨[u], [(kw, w)]⟩) (wants (EP X pins σ Q) E') s := by
  refine codeAny_mono (F.run X.A X.stack s H ⟨[u], [(kw, w)]⟩ [u, w] [x, y] Q E hr I.env0 (hb.to s u w) (.cons rx (.cons ry .nil)) h) fun r s' hq => ?_
  cases r with
  | error e => exact False.elim hq
  | ok fl =>
    cases fl with
    | next => exact False.elim hq
    | brk => exact False.elim hq
    | cont => exact False.elim hq
    | ret u => exact I.after hq
/-- o.m(k = e) -/
def tMethK (C : Addr) (m : Str) (sp : Sp) (E : XK) (ta te : TE) : TE := fun σ H Q => ta σ H fun x H1 => ∃ a dx fs, x = .ref a ∧ H1 a = some (.ins C dx fs) ∧ fs.lookup m = none ∧ te σ H1 fun y H2 => sp [.ref a, y] H2 Q E
theorem pe_methK (he : PE X o ta) (c : Cls X.K C) (hm : Meth X.K C m f) (F : FnOk X.prog X.w X.K X.mg X.base CX0 k f fd ps sp) (hr : Room k X.A) (hb : BK1 fd ps kw) (hv : PE X e te)
    (hall : (backToKw pos (keywordEach [⟨some kw, e, kpos⟩] X.env)).all (·.1.isSome) = true := by rfl) (hks : (backToKw pos (keywordEach [⟨some kw, e, kpos⟩] X.env)).filterMap (·.1) = [kw] := by rfl)
    (hpl : ((backTo pos (starEach [] X.env)).any (·.1) || (backToKw pos (keywordEach [⟨some kw, e, kpos⟩] X.env)).any (·.1.isNone)) = false := by rfl)
    (ht : eval (.Call (.Attribute o m apos) [] [⟨some kw, e, kpos⟩] pos) X.env = (do
      let ov ← eval o X.env
      standAt apos.atName
      let (f, first) ← holding [ov] (getMethod ov m pl)
      callWith pos f first (backTo pos (starEach [] X.env)) (backToKw pos (keywordEach [⟨some kw, e, kpos⟩] X.env))) := by rfl) :
    PE X (.Call (.Attribute o m apos) [] [⟨some kw, e, kpos⟩] pos) (tMethK C m sp E ta te) := by
  refine ⟨fun pins s σ H Q I h => ?_⟩
  refine PySem.W.methodCall_KW (pl := pl) (thn (he.run pins s σ H _ I h) fun u s1 ⟨x, H1, I1, rx, a, dx, fs, ex, ea, l, q⟩ => ?_) ht
  subst ex
  obtain rfl : u = Value.ref a := rx
  refine getmeth_ok I1 ea c hm l ?_
  have pk : PK X [⟨some kw, e, kpos⟩] (tCons te tNil) := pk_cons hv pk_nil
  refine PySem.W.callWith_KW0 (first := [.ref a]) (h₀ := X.base) I.ok.mod.kin hm.kp hall (thn (pk.run pos pins s1 σ H1 (fun zs H2 => ∃ y, zs = [y] ∧ sp [.ref a, y] H2 Q E) I1 (show te σ H1 (fun y H2 => ∃ z, [y] = [z] ∧ sp [.ref a, z] H2 Q E) from ?_)) fun ws s2 ⟨zs, H2, I2, rz, y, ez, q2⟩ => ⟨I2.kIn, ?_⟩) hpl
  · have e2 : (fun (y : V) (H2 : Hp) => ∃ z, [y] = [z] ∧ sp [.ref a, z] H2 Q E) = fun y H2 => sp [.ref a, y] H2 Q E := by
      funext y H2
      exact propext ⟨fun ⟨z, ez, q⟩ => by cases ez; exact q, fun q => ⟨y, rfl, q⟩⟩
    rw [e2]
    exact q
  · subst ez
    obtain ⟨w, rfl, rw'⟩ := vals1 rz
    rw [hks]
    exact wpAny_call (code_k1 (x := V.ref a) F hr hb I2 rfl rw' q2)
/-- C.m(k = e), a classmethod -/
def tCMethK (C : Addr) (sp : Sp) (E : XK) (ta te : TE) : TE := fun σ H Q => ta σ H fun x H1 => x = .ref C ∧ te σ H1 fun y H2 => sp [.ref C, y] H2 Q E
theorem pe_cmethK (he : PE X o ta) (r : ClX.CRead X.K C mc) (c : ClX.CMet X.K C mc m p g) (F : FnOk X.prog X.w X.K X.mg X.base CX0 k g fd ps sp) (hr : Room k X.A) (hb : BK1 fd ps kw) (hv : PE X e te)
    (hall : (backToKw pos (keywordEach [⟨some kw, e, kpos⟩] X.env)).all (·.1.isSome) = true := by rfl) (hks : (backToKw pos (keywordEach [⟨some kw, e, kpos⟩] X.env)).filterMap (·.1) = [kw] := by rfl)
    (hpl : ((backTo pos (starEach [] X.env)).any (·.1) || (backToKw pos (keywordEach [⟨some kw, e, kpos⟩] X.env)).any (·.1.isNone)) = false := by rfl)
    (ht : eval (.Call (.Attribute o m apos) [] [⟨some kw, e, kpos⟩] pos) X.env = (do
      let ov ← eval o X.env
      standAt apos.atName
      let (f, first) ← holding [ov] (getMethod ov m pl)
      callWith pos f first (backTo pos (starEach [] X.env)) (backToKw pos (keywordEach [⟨some kw, e, kpos⟩] X.env))) := by rfl) :
    PE X (.Call (.Attribute o m apos) [] [⟨some kw, e, kpos⟩] pos) (tCMethK C sp E ta te) := by
  refine ⟨fun pins s σ H Q I h => ?_⟩
  refine PySem.W.methodCall_KW (pl := pl) (thn (he.run pins s σ H _ I h) fun u s1 ⟨x, H1, I1, rx, ex, q⟩ => ?_) ht
  subst ex
  obtain rfl : u = Value.ref C := rx
  refine ClX.getmethcm_ok I1 r c fun s2 I2 => ?_
  have pk : PK X [⟨some kw, e, kpos⟩] (tCons te tNil) := pk_cons hv pk_nil
  refine PySem.W.callWith_of hpl (PySem.W.keeps_M c.fi) (PyProof.Rows.evalArgs_kw2_nil hall (thn (pk.run pos _ s2 σ H1 (fun zs H2 => ∃ y, zs = [y] ∧ sp [.ref C, y] H2 Q E) I2 (show te σ H1 (fun y H2 => ∃ z, [y] = [z] ∧ sp [.ref C, z] H2 Q E) from ?_)) fun ws s3 ⟨zs, H2, I3, rz, y, ez, q2⟩ => ⟨⟨ClX.pin_at I3, I3.kIn⟩, ?_⟩))
  · have e2 : (fun (y : V) (H2 : Hp) => ∃ z, [y] = [z] ∧ sp [.ref C, z] H2 Q E) = fun y H2 => sp [.ref C, y] H2 Q E := by
      funext y H2
      exact propext ⟨fun ⟨z, ez, q⟩ => by cases ez; exact q, fun q => ⟨y, rfl, q⟩⟩
    rw [e2]
    exact q
  · subst ez
    obtain ⟨w, rfl, rw'⟩ := vals1 rz
    rw [hks]
    have z : wpAny (model X.prog X.w) X.A (call (.ref s1.heap.objs.size) [] [(kw, w)]) (EP X _ σ Q) X.xe s3 := wpAny_call (PySem.W.method_call (ClX.pin_at I3) (code_k1 (x := V.ref C) F hr hb I3 rfl rw' q2))
    exact thn z fun _ _ y => ClX.unpinE y
end
end Own

namespace K1
open PySem PySem.Spec PyProof.Rows L2
def top (i : Nat) : Stmt := PySem.Challenge.pw_errorplaces_k11_is_stack.main.body.getD i (.Pass ⟨0, 0, 0, 0⟩)
abbrev sIsName : Stmt := top 3
abbrev sIsPair : Stmt := top 4
abbrev sIsGroup : Stmt := top 5
abbrev sSpread : Stmt := top 6
abbrev sCopied : Stmt := top 7
abbrev sTakenApart : Stmt := top 8
abbrev sPutTogether : Stmt := top 9
abbrev sInside : Stmt := top 10
abbrev sNoName_init : Stmt := inClass (top 12) 0
abbrev sNoBases_init : Stmt := inClass (top 13) 0
abbrev sNoRows_init : Stmt := inClass (top 14) 0
abbrev sNoKind_init : Stmt := inClass (top 15) 0
abbrev sTooMany_init : Stmt := inClass (top 16) 0
abbrev sIsForm : Stmt := top 18
abbrev sIsStack : Stmt := top 19
abbrev sAreKinds : Stmt := top 20
abbrev sPasses : Stmt := top 21
abbrev sIsPlain : Stmt := top 22
abbrev sInit : Stmt := inClass (top 24) 1
abbrev sOf : Stmt := inClass (top 24) 2
abbrev sTake : Stmt := inClass (top 24) 3
abbrev sEq : Stmt := inClass (top 24) 4
abbrev sLen : Stmt := inClass (top 24) 5
abbrev sRepr : Stmt := inClass (top 24) 6
abbrev sIn : Stmt := inClass (top 24) 7
abbrev sOrder : Stmt := inClass (top 24) 8
abbrev sBelow : Stmt := inClass (top 24) 9
abbrev sAbove : Stmt := inClass (top 24) 10
abbrev sAreRows : Stmt := top 25
abbrev sCkNames : Stmt := top 26
abbrev sCkBases : Stmt := top 27
abbrev sAreBases : Stmt := top 28
abbrev sAllAbove : Stmt := top 29
abbrev sSource : Stmt := top 31
abbrev sDraw : Stmt := top 32
abbrev sNames : Stmt := top 33
abbrev sLines : Stmt := top 34
abbrev sOver : Stmt := top 35
abbrev sLawRandomForm : Stmt := top 36
abbrev sLawSomeLabels : Stmt := top 37
abbrev sLawRandomLayer : Stmt := top 38
abbrev sLawRandomLayers : Stmt := top 39
abbrev sLawSetup : Stmt := top 40
abbrev sLawAny : Stmt := top 41
abbrev sLawBent : Stmt := top 42
abbrev sLawIsMessage : Stmt := top 43
abbrev sLawStars : Stmt := top 44
abbrev sLawAreLabels : Stmt := top 45
abbrev sLawIsLayer : Stmt := top 46
abbrev sLaw : Stmt := top 47
end K1

namespace Own
open PySem PySem.Spec PyProof.Rows L2
/-! sorted lists of texts -/
def notAbove (a b : List Nat) : Prop := ltCps b a = false
theorem na_trans : ∀ {a b c : List Nat}, notAbove a b → notAbove b c → notAbove a c
  | [], _, [], _, _ => rfl
  | [], _, _ :: _, _, _ => rfl
  | x :: r, [], _, h, _ => by simp [notAbove, ltCps] at h
  | x :: r, y :: t, [], _, h => by simp [notAbove, ltCps] at h
  | x :: r, y :: t, z :: u, h1, h2 => by
    simp only [notAbove, ltCps, Bool.or_eq_false_iff, Bool.and_eq_false_iff, decide_eq_false_iff_not, beq_eq_false_iff_ne] at h1 h2 ⊢
    refine ⟨by omega, ?_⟩
    by_cases e : z = x
    · refine .inr ?_
      have e1 : y = x := by omega
      have q1 : ltCps t r = false := h1.2.elim (fun n => absurd e1 n) id
      have q2 : ltCps u t = false := h2.2.elim (fun n => absurd (by omega) n) id
      exact na_trans (show notAbove r t from q1) (show notAbove t u from q2)
    · exact .inl e
theorem na_antisymm : ∀ {a b : List Nat}, notAbove a b → notAbove b a → a = b
  | [], [], _, _ => rfl
  | [], y :: t, _, h => by simp [notAbove, ltCps] at h
  | x :: r, [], h, _ => by simp [notAbove, ltCps] at h
  | x :: r, y :: t, h1, h2 => by
    simp only [notAbove, ltCps, Bool.or_eq_false_iff, Bool.and_eq_false_iff, decide_eq_false_iff_not, beq_eq_false_iff_ne] at h1 h2
    have e : x = y := by omega
    subst e
    have q1 : ltCps t r = false := h1.2.elim (fun n => absurd rfl n) id
    have q2 : ltCps r t = false := h2.2.elim (fun n => absurd rfl n) id
    rw [na_antisymm (show notAbove r t from q1) (show notAbove t r from q2)]
theorem str_ext {a b : Str} (h : a.cps.toList = b.cps.toList) : a = b := by
  cases a with
  | mk x =>
    cases b with
    | mk y =>
      have e : x = y := Array.toList_inj.mp h
      rw [e]
theorem rising_all : ∀ (p : Str) (l : List Str), risingS p l = true → (∀ x ∈ l, notAbove p.cps.toList x.cps.toList) ∧ l.Pairwise fun a b => notAbove a.cps.toList b.cps.toList
  | _, [], _ => ⟨(fun _ h => nomatch h), List.Pairwise.nil⟩
  | p, x :: r, h => by
    obtain ⟨h1, h2⟩ := Bool.and_eq_true_iff.mp (show (!ltCps x.cps.toList p.cps.toList && risingS x r) = true from h)
    obtain ⟨i1, i2⟩ := rising_all x r h2
    have n1 : notAbove p.cps.toList x.cps.toList := by
      unfold notAbove
      simpa using h1
    refine ⟨fun y hy => ?_, List.pairwise_cons.mpr ⟨i1, i2⟩⟩
    rcases List.mem_cons.mp hy with e | e
    · rw [e]
      exact n1
    · exact na_trans n1 (i1 y e)
theorem sorted_pw {l : List Str} (h : sortedS l = true) : l.Pairwise fun a b => notAbove a.cps.toList b.cps.toList := by
  cases l with
  | nil => exact .nil
  | cons x r =>
    obtain ⟨a, b⟩ := rising_all x r h
    exact List.pairwise_cons.mpr ⟨a, b⟩
theorem sorted_one {xs ys : List Str} (p : xs.Perm ys) (hx : sortedS xs = true) (hy : sortedS ys = true) : xs = ys :=
  List.Perm.eq_of_pairwise (le := fun a b => notAbove a.cps.toList b.cps.toList) (fun a b _ _ h1 h2 => str_ext (na_antisymm h1 h2)) (sorted_pw hx) (sorted_pw hy) p

/-! a list or a tuple -/
def SeqOf (H : Hp) (a : Addr) (xs : List V) : Prop := H a = some (.lst xs) ∨ H a = some (.tup xs)
theorem SeqOf.same {H H' : Hp} {a : Addr} {xs : List V} (h : SeqOf H a xs) (k : Same H H') : SeqOf H' a xs := h.elim (fun e => .inl (k _ _ e)) fun e => .inr (k _ _ e)
theorem SeqOf.lt {K : PySem.W.Frag} {H : Hp} {a : Addr} {xs : List V} (h : SeqOf H a xs) : SqL K H a xs ∨ SqT K H a xs := h.elim (fun e => .inl (SqL.of e)) fun e => .inr (SqT.of e)
def iSeq (K : PySem.W.Frag) (i : Nat) : TI := fun σ H R => ∃ a, σ[i]? = some (some (.ref a)) ∧ (((∃ xs, H a = some (.lst xs)) ∧ R (Itl K a) H) ∨ ((∃ xs, H a = some (.tup xs)) ∧ R (Itt K a) H))
section
variable {X : Cx} {tg : Expr}
theorem pi_seq (i : Nat) {x : Str} {pos : Pos} (hN : X.N[i]? = some x := by rfl) (hv : Vis X.env.scope x := by first | exact Or.inl rfl | exact Or.inr (Or.inl rfl) | exact Or.inr (Or.inr rfl)) (hd : (x == ("__debug__" : Str)) = false := by decide)
    (hcd : (x == ("__classdict__" : Str)) = false := by decide) : PI X tg (.Name x pos) (iSeq X.K i) := by
  refine ⟨fun pins s σ H R I h => ?_⟩
  obtain ⟨a, e, h⟩ := h
  rcases h with ⟨⟨xs, hs⟩, q⟩ | ⟨⟨xs, hs⟩, q⟩
  · exact (pi_list (pe_var hN hv hd hcd)).run pins s σ H R I ⟨_, e, a, rfl, ⟨xs, SqL.of hs⟩, q⟩
  · exact (pi_tup (pe_var hN hv hd hcd)).run pins s σ H R I ⟨_, e, a, rfl, ⟨xs, SqT.of hs⟩, q⟩
end
theorem for_seq {K : PySem.W.Frag} {i : Nat} {a : Addr} {xs : List V} {g : TG} {tb : TS} {D : Ends} {σ : L2.St} {H : Hp} (e : σ[i]? = some (some (.ref a))) (hs : SeqOf H a xs) (Pv : Nat → L2.St → Hp → Prop) (h0 : Pv 0 σ H) (hk : ∀ i σ H', i ≤ xs.length → Pv i σ H' → ∀ o, H a = some o → H' a = some o)
    (turn : ∀ i x σ H, xs[i]? = some x → Pv i σ H → g x σ H fun σ2 H2 => tb { D with nx := Pv (i + 1), ct := Pv (i + 1), bk := D.nx } σ2 H2) (hd : ∀ σ H, Pv xs.length σ H → D.nx σ H) : tFor (iSeq K i) g tb D σ H := by
  refine ⟨a, e, ?_⟩
  rcases hs with h | h
  · exact .inl ⟨⟨xs, h⟩, for_list Pv h0 (fun j σ' H' hj p => SqL.of (hk j σ' H' hj p _ h)) turn hd⟩
  · exact .inr ⟨⟨xs, h⟩, for_tup Pv h0 (fun j σ' H' hj p => SqT.of (hk j σ' H' hj p _ h)) turn hd⟩
theorem lc_seq {K : PySem.W.Frag} {j : Nat} {a : Addr} {xs : List V} {g : TG} {tt : TT} {te : TE} {vs : List Nat} {σ : L2.St} {H : Hp} {Q : VK} (e : σ[j]? = some (some (.ref a))) (hs : SeqOf H a xs) (Pv : Addr → Nat → Hp → Prop) (h0 : ∀ D, H D = none → Pv D 0 (upd H D (.lst [])))
    (hk : ∀ D i H', H D = none → i ≤ xs.length → Pv D i H' → ∀ o, H a = some o → H' a = some o)
    (turn : ∀ D i x H', H D = none → xs[i]? = some x → Pv D i H' → g x (wipe σ vs) H' fun σ2 H2 => wipe σ2 vs = wipe σ vs ∧ tt σ2 H2 fun b H3 =>
      if b = true then te σ2 H3 fun y H4 => ∃ acc, H4 D = some (.lst acc) ∧ acc.length < sizeLine ∧ Pv D (i + 1) (upd H4 D (.lst (acc ++ [y]))) else Pv D (i + 1) H3) (hd : ∀ D H', H D = none → Pv D xs.length H' → Q (.ref D) H') : tLc (iSeq K j) g tt te vs σ H Q := by
  refine ⟨a, e, ?_⟩
  rcases hs with h | h
  · exact .inl ⟨⟨xs, h⟩, fun D nD => lc_list (Pv D) (h0 D nD) (fun i H' hi p => SqL.of (hk D i H' nD hi p _ h)) (fun i x H' hx p => turn D i x H' nD hx p) fun H' p => hd D H' nD p⟩
  · exact .inr ⟨⟨xs, h⟩, fun D nD => lc_tup (Pv D) (h0 D nD) (fun i H' hi p => SqT.of (hk D i H' nD hi p _ h)) (fun i x H' hx p => turn D i x H' nD hx p) fun H' p => hd D H' nD p⟩
/-! sorted of a tuple, of a list or tuple -/
section
variable {X : Cx}
theorem cr_sortedT : CallR X (.builtin "sorted") (fun vs H Q => ∃ (a : Addr) (xs : List Str), vs = [V.ref a] ∧ H a = some (.tup (xs.map V.str)) ∧ xs.length < 64 ∧ ∀ (ys : List Str) (p : Addr), ys.Perm xs → sortedS ys = true → H p = none → Q (.ref p) (upd H p (.lst (ys.map V.str)))) := by
  intro pins s σ H vs us Q I r h
  obtain ⟨a, xs, rfl, ha, h64, q⟩ := h
  obtain rfl := Vals.ref1 r
  obtain ⟨z0, its, rv, o, ho, hc, n, hd⟩ := (show ObjOk X.prog X.w H s.heap a (.tup (xs.map V.str)) from I.hok a _ ha)
  have hS := rv.strs
  have hal : its.length = xs.length := by
    have z := rv.length
    rw [List.length_map] at z
    exact z.symm
  have hsz : its.length ≤ sizeLine := by rw [hal, sizeLine_eq]; omega
  refine Calls.call_function_entry PyProof.Rows.kind_sorted PyProof.Rows.plain_sorted PyProof.Rows.entry_sorted (PyProof.Rows.args_sorted1 _) ?_
  unfold Builtin.«sorted»
  refine wpAny_bind (m := checkCount "sorted" 1 1 _) (wpAny_pure ?_)
  refine wpAny_bind (wpAny_collect_seq a (.inr rfl) ho hc hd (fun h' hk => ?_) (by rw [List.size_toArray]; exact hsz))
  rw [show its.toArray.toList = its from by simp]
  have I1 : Inv X pins σ H { s with heap := h' } := I.kept (t' := s.toks) hk
  refine wpAny_bind (wpAny_newList ?_ hsz)
  have hoL : (h'.push (seqObj "list" its.toArray 0)).get? h'.objs.size = some (seqObj "list" its.toArray 0) := Heap.get?_push_size _ rfl
  show wpAny _ _ _ _ _ { s with heap := h'.push (seqObj "list" its.toArray 0) }
  refine wpAny_bind (wpAny_holding (wpAny_call_entry PyProof.Rows.slot_list_sort ⟨_, hoL, rfl⟩ PyProof.Rows.entry_list_sort
    (list_sort_treeK strKind_oneLt (s := { s with heap := h'.push (seqObj "list" its.toArray 0) }) hoL hS.keysOf (fun v₁ v₂ rest e => keyKind_strs (by rw [← e]; exact hS)) (by rw [hal]; exact h64) fun st' hp hs => ⟨_, rfl, ?_⟩)
    (PyProof.Rows.args_list_sort _)))
  obtain ⟨ys, g1, g2, g3⟩ := sorted_out_str hS hp hs
  obtain ⟨e', he'⟩ := PyProof.Rows.sortedHeap_at (vs := its) (out := (arrOf st').map (·.2)) hoL
  have hlen : (ys.map V.str).length ≤ sizeLine := by
    rw [List.length_map, g2.length_eq, sizeLine_eq]
    omega
  refine wpAny_pure ⟨_, rfl, .ref h'.objs.size, upd H h'.objs.size (.lst (ys.map V.str)), I1.laid (t' := s.toks) (fun b u e => ?_) (Nat.le_refl _)
    (show ObjOk X.prog X.w _ _ _ (.lst (ys.map V.str)) from ⟨hlen, ((arrOf st').map (·.2)).toList, e', vals_of_strs g1, by rw [Array.toArray_toList]; exact he'⟩), rfl, q ys _ g2 g3 (I1.hok.fresh (Nat.le_refl _))⟩
  have hb : b < h'.objs.size := Heap.lt_size e
  rw [PyProof.Rows.sortedHeap_old (Nat.ne_of_lt hb) (by rw [size_push']; exact Nat.lt_succ_of_lt hb)]
  exact Heap.get?_push_of_some _ e
/-- sorted of a list or a tuple of texts -/
def rSortedQ : List V → Hp → VK → Prop := fun vs H Q => ∃ (a : Addr) (xs : List Str), vs = [V.ref a] ∧ SeqOf H a (xs.map V.str) ∧ xs.length < 64 ∧ ∀ (ys : List Str) (p : Addr), ys.Perm xs → sortedS ys = true → H p = none → Q (.ref p) (upd H p (.lst (ys.map V.str)))
theorem cr_sortedQ : CallR X (.builtin "sorted") rSortedQ := by
  intro pins s σ H vs us Q I r h
  obtain ⟨a, xs, ev, ha, h64, q⟩ := h
  rcases ha with ha | ha
  · exact cr_sortedS pins s σ H vs us Q I r ⟨a, xs, ev, SqL.of ha, h64, q⟩
  · exact cr_sortedT pins s σ H vs us Q I r ⟨a, xs, ev, ha, h64, q⟩
end
end Own

namespace K1
open PySem PySem.Spec PyProof.Rows L2
/-! ### a source of draws -/
theorem same_upd {H : Hp} {p : Addr} {o : HO} (h : H p = none) : Same H (upd H p o) := fun b x e => by
  rw [upd_ne (ne_of_none e h)]
  exact e
/-- all but what stands at s stays -/
def Keep (s : Addr) (H H' : Hp) : Prop := ∀ b o, b ≠ s → H b = some o → H' b = some o
theorem Keep.of {s : Addr} {H H' : Hp} (h : Same H H') : Keep s H H' := fun b o _ e => h b o e
theorem Keep.trans {s : Addr} {H H1 H2 : Hp} (a : Keep s H H1) (b : Keep s H1 H2) : Keep s H H2 := fun c o n e => b c o n (a c o n e)
theorem Keep.refl (s : Addr) (H : Hp) : Keep s H H := fun _ _ _ e => e
theorem Keep.upd {s : Addr} {H : Hp} {o : HO} : Keep s H (upd H s o) := fun b x n e => by
  rw [upd_ne n]
  exact e
theorem Keep.new {s p : Addr} {H H' : Hp} {o : HO} (a : Keep s H H') (h : H' p = none) : Keep s H (L2.upd H' p o) := a.trans (.of (same_upd h))
def SrcOk (a b : Int) : Prop := (b = 0 ∧ 0 ≤ a) ∨ (1 ≤ b ∧ 0 ≤ a ∧ a < 2147483647)
def Src (H : Hp) (s : Addr) : Prop := ∃ a b : Int, H s = some (.lst [.int a, .int b]) ∧ SrcOk a b
/-- where s is a source, a place that is free later was free before -/
theorem Keep.free {s p : Addr} {H H' : Hp} (k : Keep s H H') (q : Src H' s) (h : H' p = none) : H p = none := by
  by_cases e : p = s
  · subst e
    obtain ⟨a, b, z, _⟩ := q
    rw [z] at h
    cases h
  · cases z : H p with
    | none => rfl
    | some o =>
      rw [k p o e z] at h
      cases h
theorem Src.new {s p : Addr} {H : Hp} {o : HO} (q : Src H s) (h : H p = none) : Src (upd H p o) s := by
  obtain ⟨a, b, z, ok⟩ := q
  exact ⟨a, b, by rw [upd_ne (ne_of_none z h)]; exact z, ok⟩
theorem Src.same {s : Addr} {H H' : Hp} (q : Src H s) (h : Same H H') : Src H' s := by
  obtain ⟨a, b, z, ok⟩ := q
  exact ⟨a, b, h _ _ z, ok⟩
theorem mod_lt {a m : Int} (h : 0 < m) : 0 ≤ a % m ∧ a % m < m := ⟨Int.emod_nonneg _ (by omega), Int.emod_lt_of_pos _ h⟩
theorem fmod_pos {a m : Int} (h : 0 < m) : 0 ≤ a.fmod m ∧ a.fmod m < m := by
  rw [Int.fmod_eq_emod_of_nonneg _ (by omega)]
  exact mod_lt h
/-- draw: a number below many -/
def spDraw : Sp := fun vs H Q _ => ∃ (s : Addr) (m : Int), vs = [.ref s, .int m] ∧ Src H s ∧ 0 < m ∧ m < 1073741824 ∧ ∀ (d : Int) (H' : Hp), 0 ≤ d → d < m → Src H' s → Keep s H H' → Q (.int d) H'
section
variable {P : Program} {w : World} {K : PySem.W.Frag} {mg : Str → Option Value} {base : Heap}
theorem scDraw : FnScope ["source", "many", "digit"] ["source", "many"] (defScope sDraw) := ⟨rfl, rfl, rfl, by decide +kernel, rfl, by decide +kernel, by decide +kernel⟩
theorem ok_draw {f : Addr} {fd : FuncData} (F : Fun K "_law_draw" "_law_draw" sDraw f fd) : FnOk P w K mg base CX0 1 f fd ["source", "many"] spDraw := by
  refine F.ok scDraw (fun vs H Q E h => ?_) (fun cdv A outer s H vs Q E hr h => ?_)
  · obtain ⟨a, m, rfl, _⟩ := h
    rfl
  · obtain ⟨s, m, rfl, ⟨a, b, hs, ok⟩, m0, m1, k⟩ := h
    refine ⟨_, pss_cons (ps_if (pt_cmpR op_eq (pe_ix ix_list (pv 0) pe_int (fun _ _ => rfl)) pe_int (nomark _))
        (pss_cons (ps_set (i := 2) scDraw.nd rfl (Or.inl rfl) (pe_op op_modN (pe_ix ix_list (pv 0) pe_int (fun _ _ => rfl)) (pv 1)))
          (pss_cons (ps_asg (pe_op op_fdivN (pe_ix ix_list (pv 0) pe_int (fun _ _ => rfl)) (pv 1)) (pg_sub (pv 0) pe_int set_list))
            (pss_one (ps_ret (pv 2))))) pss_nil)
      (pss_cons (ps_asg (pe_op op_mod (pe_op op_add (pe_op op_add (pe_op op_pow (pe_ix ix_list (pv 0) pe_int (fun _ _ => rfl)) pe_int) (pe_op op_mul pe_int (pe_ix ix_list (pv 0) pe_int (fun _ _ => rfl)))) pe_int) pe_int) (pg_sub (pv 0) pe_int set_list))
      (pss_cons (ps_asg (pe_op op_add (pe_ix ix_list (pv 0) pe_int (fun _ _ => rfl)) pe_int) (pg_sub (pv 0) pe_int set_list))
      (pss_one (ps_ret (pe_op op_modN (pe_op op_fdiv (pe_op op_mod (pe_op op_mul (pe_ix ix_list (pv 0) pe_int (fun _ _ => rfl)) pe_int) pe_int) pe_int) (pv 1)))))), ?_⟩
    refine ⟨_, rfl, s, _, 1, _, rfl, rfl, SqL.of hs, atI_nat (j := 1) rfl, rfl, _, rfl, ite2 (fun e => ?_) (fun e => ?_)⟩
    · have b0 : b = 0 := V.int.inj (of_decide_eq_true e)
      subst b0
      have a0 : 0 ≤ a := by
        rcases ok with z | z
        · exact z.2
        · omega
      refine ⟨_, rfl, s, _, 0, _, rfl, rfl, SqL.of hs, atI_nat (j := 0) rfl, _, rfl, _, _, rfl, rfl, (by omega), ?_⟩
      refine ⟨_, rfl, s, _, 0, _, rfl, rfl, SqL.of hs, atI_nat (j := 0) rfl, _, rfl, _, _, rfl, rfl, ⟨by omega, by omega⟩, ?_⟩
      refine ⟨_, rfl, s, _, 0, 0, rfl, rfl, hs, rfl, ?_⟩
      refine ⟨_, rfl, ?_⟩
      have q := fmod_pos (a := a) m0
      refine k _ _ q.1 q.2 ⟨_, _, upd_same, .inl ⟨rfl, ?_⟩⟩ Keep.upd
      rw [Int.fdiv_eq_ediv_of_nonneg _ (by omega)]
      exact Int.ediv_nonneg a0 (by omega)
    · have b0 : ¬ b = 0 := fun z => e (by rw [z]; exact decide_eq_true rfl)
      obtain ⟨b1, a0, a1⟩ : 1 ≤ b ∧ 0 ≤ a ∧ a < 2147483647 := by
        rcases ok with z | z
        · exact absurd z.1 b0
        · exact z
      refine ⟨_, rfl, s, _, 0, _, rfl, rfl, SqL.of hs, atI_nat (j := 0) rfl, _, _, rfl, rfl, ⟨by decide, by decide, by omega⟩, ?_⟩
      refine ⟨_, rfl, s, _, 1, _, rfl, rfl, SqL.of hs, atI_nat (j := 1) rfl, _, _, rfl, rfl, .inl ⟨by decide, by decide⟩, _, _, rfl, rfl, _, _, rfl, rfl, _, _, rfl, rfl, (by decide : (0 : Int) < 2147483647), ?_⟩
      refine ⟨_, rfl, s, _, 0, 0, rfl, rfl, hs, rfl, ?_⟩
      have q := mod_lt (a := a ^ (5 : Int).toNat + 48271 * b + 11) (m := 2147483647) (by decide)
      refine ⟨_, rfl, s, _, 1, _, rfl, rfl, SqL.of upd_same, atI_nat (j := 1) rfl, _, _, rfl, rfl, ?_⟩
      refine ⟨_, rfl, s, _, 1, 1, rfl, rfl, upd_same, rfl, ?_⟩
      rw [upd_upd]
      refine ⟨_, rfl, s, _, 0, _, rfl, rfl, SqL.of upd_same, atI_nat (j := 0) rfl, _, _, rfl, rfl, .inr ⟨by decide, by decide⟩, _, _, rfl, rfl, (by decide : (0 : Int) < 2147483629), _, _, rfl, rfl, ⟨by decide, by decide⟩, _, rfl, _, _, rfl, rfl, (by omega), ?_⟩
      exact k _ _ (fmod_pos m0).1 (fmod_pos m0).2 ⟨_, _, upd_same, .inr ⟨by omega, q.1, q.2⟩⟩ Keep.upd
end
end K1

namespace K1
open PySem PySem.Spec PyProof.Rows L2 Own
theorem iteTD {p A B : Prop} [Decidable p] (hp : p) (h : A) : if decide p = true then A else B := by
  rw [if_pos (decide_eq_true hp)]
  exact h
theorem iteFD {p A B : Prop} [Decidable p] (hp : ¬ p) (h : B) : if decide p = true then A else B := by
  rw [if_neg (by rw [decide_eq_false hp]; decide)]
  exact h
theorem iteNF {p A B : Prop} [Decidable p] (hp : ¬ p) (h : A) : if (!decide p) = true then A else B := by
  rw [decide_eq_false hp]
  exact iteT h
/-! ### names -/
def NameOk (z : Str) : Prop := 1 ≤ z.length ∧ z.length ≤ 8 ∧ ∀ c ∈ z.cps.toList, 97 ≤ c ∧ c ≤ 122
def abc : Str := "abcdefghijklmnopqrstuvwxyz"
theorem in_abc {c : Nat} (h0 : 97 ≤ c) (h1 : c ≤ 122) : c ∈ abc.cps.toList := by
  have h : ∀ d : Fin 26, (97 + d.val) ∈ abc.cps.toList := by decide +kernel
  have q := h ⟨c - 97, by omega⟩
  have e : 97 + (c - 97) = c := by omega
  simpa [e] using q
def spIsName : Sp := fun vs H Q _ => ∃ z, vs = [.str z] ∧ NameOk z ∧ ∀ H', Same H H' → Q (.bl true) H'
def spIsPair : Sp := fun vs H Q _ => ∃ t x y, vs = [.ref t] ∧ H t = some (.tup [x, y]) ∧ Q (.bl true) H
section
variable {P : Program} {w : World} {K : PySem.W.Frag} {mg : Str → Option Value} {base : Heap}
theorem scIsName : FnScope ["thing", "letter"] ["thing"] (defScope sIsName) := ⟨rfl, rfl, rfl, by decide +kernel, rfl, by decide +kernel, by decide +kernel⟩
theorem ok_isName {f : Addr} {fd : FuncData} {tL : Tok} {tA : Tok} (F : Fun K "is_name" "is_name" sIsName f fd) (ml : mg "len" = none) (mi : mg "isinstance" = none) (ms : mg "str" = none) (ma : mg "all" = none) (mL : mg "LONGEST_NAME" = some (.int 8 tL)) (mA : mg "LETTERS" = some (.str abc tA)) :
    FnOk P w K mg base CX0 1 f fd ["thing"] spIsName := by
  refine F.ok scIsName (fun vs H Q E h => ?_) (fun cdv A outer s H vs Q E hr h => ?_)
  · obtain ⟨z, rfl, _⟩ := h
    rfl
  · obtain ⟨z, rfl, ⟨z1, z2, z3⟩, k⟩ := h
    refine ⟨_, pss_cons (ps_if (PW.pt (pw_or (pt_not (pt_val (pe_callB call_isi (by rfl) mi (by decide +kernel) (pa_cons (pv 0) (pa_cons (pe_bltn (v := .ty "str") (u := .type "str") (by rfl) ms (by decide +kernel) rfl) pa_nil)))))
        (pw_or1 (pt_not (pt_chain op_le op_le pe_int (pe_callB call_len_str (by rfl) ml PySem.boot_len (pa_cons (pv 0) pa_nil)) (pe_glob (v := .int 8) (by rfl) mL ⟨_, rfl⟩)))))) (pss_one (ps_ret pe_bl)) pss_nil)
      (pss_one (ps_ret (pe_callB (cr_all rfl) (by rfl) ma (by decide +kernel) (pa_cons (pe_lc (own := [("letter", 1)]) (g := gName 1) (tt := tYes) rfl scIsName.nd (pi_str (pv 0)) (blkOk_by (N := ["thing", "letter"]) (sc := defScope sIsName) (by decide +kernel))
        (fun _ _ _ _ _ => pg_name (i := 1) scIsName.nd rfl (Or.inl rfl)) (fun _ _ _ _ _ => pts_nil) (fun _ _ _ _ _ => pe_cmpR op_in_sign (pv 1) (pe_glob (v := .str abc) (by rfl) mA ⟨_, rfl⟩) rfl)) pa_nil)))), ?_⟩
    have zs : z.length ≤ sizeLine := by rw [sizeLine_eq]; omega
    refine ⟨_, rfl, _, _, _, _, true, rfl, .ty "str", .base (.str z), kit_ty (by decide +kernel), true, rfl, ?_⟩
    refine ⟨_, rfl, _, rfl, zs, _, _, rfl, rfl, _, rfl, ?_⟩
    refine iteTD (by omega) ⟨_, _, rfl, rfl, _, rfl, iteNS (by omega) ?_⟩
    refine ⟨_, rfl, z, rfl, fun D nD => lc_it walk_str (fun i H' => Same H H' ∧ H' D = some (.lst (List.replicate i (V.bl true)))) ⟨same_upd nD, upd_same⟩ (fun _ _ _ _ => trivial) ?_ ?_⟩
    · rintro i x H1 H' hi ⟨sm, hD⟩ ⟨rfl, c, hc, rfl⟩
      have cm : c ∈ z.cps.toList := by
        have q := Array.mem_of_getElem? hc
        exact Array.mem_toList_iff.mpr q
      have cb := z3 c cm
      have ca : decide (c ∈ abc.cps.toList) = true := decide_eq_true (in_abc cb.1 cb.2)
      have hz : z.cps.size ≤ 8 := z2
      refine ⟨rfl, _, rfl, c, abc, rfl, rfl, _, hD, ?_, ?_, ?_⟩
      · rw [List.length_replicate]
        exact small1000 (by omega)
      · intro b o e
        rw [upd_ne (ne_of_none e nD)]
        exact sm _ _ e
      · show upd H' D _ D = _
        rw [upd_same, ca, ← List.replicate_succ']
    · rintro H' ⟨sm, hD⟩
      refine ⟨D, List.replicate z.cps.size true, rfl, SqL.of (by rw [List.map_replicate]; exact hD), ?_⟩
      have e : (List.replicate z.cps.size true).all id = true := by simp
      rw [e]
      exact k _ sm
theorem scIsPair : FnScope ["thing"] ["thing"] (defScope sIsPair) := ⟨rfl, rfl, rfl, by decide +kernel, rfl, by decide +kernel, by decide +kernel⟩
theorem ok_isPair {f : Addr} {fd : FuncData} (F : Fun K "is_pair" "is_pair" sIsPair f fd) (ml : mg "len" = none) (mi : mg "isinstance" = none) (mt : mg "tuple" = none) : FnOk P w K mg base CX0 1 f fd ["thing"] spIsPair := by
  refine F.ok scIsPair (fun vs H Q E h => ?_) (fun cdv A outer s H vs Q E hr h => ?_)
  · obtain ⟨t, x, y, rfl, _⟩ := h
    rfl
  · obtain ⟨t, x, y, rfl, ht, k⟩ := h
    refine ⟨_, pss_one (ps_ret (pe_and (pe_callB call_isi (by rfl) mi (by decide +kernel) (pa_cons (pv 0) (pa_cons (pe_bltn (v := .ty "tuple") (u := .type "tuple") (by rfl) mt (by decide +kernel) rfl) pa_nil)))
      (pe_one (pe_cmpR op_eq (pe_callB call_len_seq (by rfl) ml PySem.boot_len (pa_cons (pv 0) pa_nil)) pe_int (nomark _))))), ?_⟩
    refine ⟨_, rfl, _, _, _, _, true, rfl, .ty "tuple", .base (.tup ht), kit_ty (by decide +kernel), true, rfl, iteT ?_⟩
    exact ⟨_, rfl, t, _, rfl, .inr (SqT.of ht), rfl, k⟩
end
end K1

namespace K1
open PySem PySem.Spec PyProof.Rows L2 Own
/-! ### rows -/
abbrev Ln := Str × List Str
abbrev nms (ls : List Ln) : List Str := ls.map (·.1)
def RowAt (H : Hp) (v : V) (l : Ln) : Prop := ∃ t b, v = .ref t ∧ H t = some (.tup [.str l.1, .ref b]) ∧ SeqOf H b (l.2.map V.str)
def RowsAt (H : Hp) (a : Addr) (ls : List Ln) : Prop := ∃ vs, SeqOf H a vs ∧ Paired (RowAt H) vs ls
theorem RowAt.same {H H' : Hp} {v : V} {l : Ln} (k : Same H H') (h : RowAt H v l) : RowAt H' v l := by
  obtain ⟨t, b, e, ht, hb⟩ := h
  exact ⟨t, b, e, k _ _ ht, hb.same k⟩
theorem paired_imp {α β : Type} {F G : α → β → Prop} (h : ∀ a b, F a b → G a b) : ∀ {xs : List α} {ys : List β}, Paired F xs ys → Paired G xs ys
  | _, _, .nil => .nil
  | _, _, .cons a r => .cons (h _ _ a) (paired_imp h r)
theorem RowsAt.same {H H' : Hp} {a : Addr} {ls : List Ln} (k : Same H H') (h : RowsAt H a ls) : RowsAt H' a ls := by
  obtain ⟨vs, hs, p⟩ := h
  exact ⟨vs, hs.same k, paired_imp (fun _ _ => RowAt.same k) p⟩
theorem paired_at {α β : Type} {F : α → β → Prop} : ∀ {xs : List α} {ys : List β}, Paired F xs ys → ∀ {i : Nat} {x : α}, xs[i]? = some x → ∃ y, ys[i]? = some y ∧ F x y
  | _, _, .nil, _, _, h => by simp at h
  | _, _, .cons a r, 0, x, h => by
    have e := Option.some.inj h
    subst e
    exact ⟨_, rfl, a⟩
  | _, _, .cons a r, i + 1, x, h => by
    obtain ⟨y, e, q⟩ := paired_at r (i := i) (x := x) (by simpa using h)
    exact ⟨y, by simpa using e, q⟩
theorem paired_at' {α β : Type} {F : α → β → Prop} : ∀ {xs : List α} {ys : List β}, Paired F xs ys → ∀ {i : Nat} {y : β}, ys[i]? = some y → ∃ x, xs[i]? = some x ∧ F x y
  | _, _, .nil, _, _, h => by simp at h
  | _, _, .cons a r, 0, x, h => by
    have e := Option.some.inj h
    subst e
    exact ⟨_, rfl, a⟩
  | _, _, .cons a r, i + 1, x, h => by
    obtain ⟨y, e, q⟩ := paired_at' r (i := i) (y := x) (by simpa using h)
    exact ⟨y, by simpa using e, q⟩
theorem paired_len {α β : Type} {F : α → β → Prop} : ∀ {xs : List α} {ys : List β}, Paired F xs ys → xs.length = ys.length
  | _, _, .nil => rfl
  | _, _, .cons _ r => by rw [List.length_cons, List.length_cons, paired_len r]
structure LnsOk (ls : List Ln) : Prop where
  names : ∀ l ∈ ls, NameOk l.1
  nd : (nms ls).Nodup
  few : ls.length ≤ 7
  base : ∀ (i : Nat) l, ls[i]? = some l → l.2.Nodup ∧ (∀ b ∈ l.2, b ∈ nms (ls.take i)) ∧ l.2.length ≤ 7
theorem inV_str (x : Str) (ss : List Str) : inV (.str x) (ss.map V.str) = decide (x ∈ ss) := by
  unfold inV
  rw [List.any_map]
  rw [Bool.eq_iff_iff, List.any_eq_true]
  simp only [Function.comp, eqV, decide_eq_true_eq]
  exact ⟨fun ⟨y, hy, e⟩ => by rw [← beq_iff_eq.mp e]; exact hy, fun h => ⟨x, h, beq_self_eq_true x⟩⟩
theorem flat_strs (ss : List Str) : (ss.map V.str).all flatV = true := by
  rw [List.all_map, List.all_eq_true]
  intro x _
  rfl
theorem take_succ_map {α β : Type} {f : α → β} {l : List α} {i : Nat} {x : α} (h : l[i]? = some x) : (l.take (i + 1)).map f = (l.take i).map f ++ [f x] := by
  rw [List.take_add_one, h, List.map_append]
  rfl
theorem not_before {ls : List Ln} {i : Nat} {l : Ln} (nd : (nms ls).Nodup) (h : ls[i]? = some l) : l.1 ∉ nms (ls.take i) := by
  intro hm
  obtain ⟨x, hx, e⟩ := List.mem_map.mp hm
  obtain ⟨j, hj⟩ := List.mem_iff_getElem?.mp hx
  rw [List.getElem?_take] at hj
  split at hj
  · rename_i hji
    have h1 : (nms ls)[j]? = some l.1 := by rw [List.getElem?_map, hj]; simp [e]
    have h2 : (nms ls)[i]? = some l.1 := by rw [List.getElem?_map, h]; rfl
    have := nd_ix nd h1 h2
    omega
  · cases hj
theorem isi_lt {K : PySem.W.Frag} {H : Hp} {a : Addr} {xs : List V} (h : SeqOf H a xs) : ∃ t, TyX K H (.ref a) t ∧ PySem.W.kitAny K t [.type "list", .type "tuple"] = some true := by
  rcases h with h | h
  · exact ⟨_, .base (.lst h), kitAny_cons (b := true) (kit_ty (by decide +kernel)) (fun z => nomatch z) fun _ => rfl⟩
  · exact ⟨_, .base (.tup h), kitAny_cons (b := false) (kit_ty (by decide +kernel)) (fun _ => kitAny_cons (b := true) (kit_ty (by decide +kernel)) (fun z => nomatch z) fun _ => rfl) fun z => nomatch z⟩
theorem q_cb1 {r : List V → Hp → VK → Prop} {te : TE} {σ : L2.St} {H : Hp} {Q : VK} (h : te σ H fun x H1 => r [x] H1 Q) : tCB r (tCons te tNil) σ H Q := h
def spAreRows : Sp := fun vs H Q _ => ∃ a ls, vs = [.ref a] ∧ RowsAt H a ls ∧ ls.length ≤ 1000 ∧ ∀ H', Same H H' → Q (.bl true) H'
def spCkNames : Sp := fun vs H Q _ => ∃ a ls, vs = [.ref a] ∧ RowsAt H a ls ∧ LnsOk ls ∧ ∀ H', Same H H' → Q .non H'
section
variable {P : Program} {w : World} {K : PySem.W.Frag} {mg : Str → Option Value} {base : Heap}
theorem scAreRows : FnScope ["thing", "row"] ["thing"] (defScope sAreRows) := ⟨rfl, rfl, rfl, by decide +kernel, rfl, by decide +kernel, by decide +kernel⟩
theorem ok_areRows {f g : Addr} {fd gd : FuncData} (F : Fun K "_are_rows" "_are_rows" sAreRows f fd) (G : FnOk P w K mg base CX0 1 g gd ["thing"] spIsPair) (kG : PySem.W.keepIn K (.ref g) = true) (bG : Binds K gd ["thing"] []) (mG : mg "is_pair" = some (.ref g))
    (mi : mg "isinstance" = none) (ma : mg "all" = none) (ml : mg "list" = none) (mt : mg "tuple" = none) : FnOk P w K mg base CX0 2 f fd ["thing"] spAreRows := by
  refine F.ok scAreRows (fun vs H Q E h => ?_) (fun cdv A outer s H vs Q E hr h => ?_)
  · obtain ⟨a, ls, rfl, _⟩ := h
    rfl
  · obtain ⟨a, ls, rfl, ⟨rs, hs, pr⟩, h1000, k⟩ := h
    refine ⟨_, pss_one (ps_ret (pe_and (pe_callB call_isiT (by rfl) mi (by decide +kernel) (pa_cons (pv 0) (pa_cons (pe_tup (pa_cons (pe_bltn (v := .ty "list") (u := .type "list") (by rfl) ml (by decide +kernel) rfl) (pa_cons (pe_bltn (v := .ty "tuple") (u := .type "tuple") (by rfl) mt (by decide +kernel) rfl) pa_nil))) pa_nil)))
      (pe_one (pe_callB (cr_all rfl) (by rfl) ma (by decide +kernel) (pa_cons (pe_lc (own := [("row", 1)]) (g := gName 1) (tt := tYes) rfl scAreRows.nd (pi_seq 0) (blkOk_by (N := ["thing", "row"]) (sc := defScope sAreRows) (by decide +kernel))
        (fun _ _ _ _ _ => pg_name (i := 1) scAreRows.nd rfl (Or.inl rfl)) (fun _ _ _ _ _ => pts_nil) (fun _ _ _ _ _ => pe_call G hr (by rfl) mG kG bG .nil pass0 (pa_cons (pv 1) pa_nil))) pa_nil))))), ?_⟩
    refine ⟨_, rfl, (by show 2 ≤ sizeLine; decide), fun tp ntp => ?_⟩
    have s1 : Same H (upd H tp (.tup [.ty "list", .ty "tuple"])) := same_upd ntp
    obtain ⟨t, ty, kt⟩ := isi_lt (K := K) (hs.same s1)
    refine ⟨_, tp, _, t, _, true, rfl, upd_same, .cons (.ty "list") (.cons (.ty "tuple") .nil), ty, kt, true, rfl, iteT ?_⟩
    have hl := paired_len pr
    generalize upd H tp (.tup [.ty "list", .ty "tuple"]) = H0 at s1
    refine q_cb1 ?_
    refine lc_seq (a := a) (xs := rs) (by rfl) (hs.same s1) (fun D i H' => Same H0 H' ∧ H' D = some (.lst (List.replicate i (V.bl true)))) (fun D nD => ⟨same_upd nD, upd_same⟩) (fun D i H' nD hi p => p.1 _) ?_ ?_
    · rintro D i x H' nD hx ⟨sm, hD⟩
      obtain ⟨l, hl2, t, b, rfl, ht, _⟩ := paired_at pr hx
      have hi : i < ls.length := (List.getElem?_eq_some_iff.mp hl2).1
      refine ⟨rfl, _, rfl, t, _, _, rfl, sm _ _ (s1 _ _ ht), _, hD, ?_, ?_, ?_⟩
      · rw [List.length_replicate]
        exact small1000 (by omega)
      · intro c o e
        rw [upd_ne (ne_of_none e nD)]
        exact sm _ _ e
      · show upd H' D _ D = _
        rw [upd_same, ← List.replicate_succ']
    · rintro D H' nD ⟨sm, hD⟩
      refine ⟨D, List.replicate rs.length true, rfl, SqL.of (by rw [List.map_replicate]; exact hD), ?_⟩
      have e : (List.replicate rs.length true).all id = true := by simp
      rw [e]
      exact k _ (s1.trans sm)
theorem scCkNames : FnScope ["rows", "before", "name", "_"] ["rows"] (defScope sCkNames) := ⟨rfl, rfl, rfl, by decide +kernel, rfl, by decide +kernel, by decide +kernel⟩
theorem ok_ckNames {f g : Addr} {fd gd : FuncData} (F : Fun K "_check_names" "_check_names" sCkNames f fd) (G : FnOk P w K mg base CX0 1 g gd ["thing"] spIsName) (kG : PySem.W.keepIn K (.ref g) = true) (bG : Binds K gd ["thing"] []) (mG : mg "is_name" = some (.ref g)) :
    FnOk P w K mg base CX0 2 f fd ["rows"] spCkNames := by
  refine F.ok scCkNames (fun vs H Q E h => ?_) (fun cdv A outer s H vs Q E hr h => ?_)
  · obtain ⟨a, ls, rfl, _⟩ := h
    rfl
  · obtain ⟨a, ls, rfl, ⟨rs, hs, pr⟩, ok, k⟩ := h
    refine ⟨_, pss_cons (ps_set (i := 1) scCkNames.nd rfl (Or.inl rfl) (pe_lst pa_nil))
      (pss_one (ps_for PassesOwn.never rfl (pi_seq 0) (pg_tup rfl (pgs_cons (pg_name (i := 2) scCkNames.nd rfl (Or.inl rfl)) (pgs_cons (pg_name (i := 3) scCkNames.nd rfl (Or.inl rfl)) pgs_nil)))
        (pss_cons (ps_if (PW.pt (pw_or (pt_not (pt_val (pe_call G hr (by rfl) mG kG bG .nil pass0 (pa_cons (pv 2) pa_nil)))) (pw_or1 (pt_cmpR op_in_seq (pv 2) (pv 1) (by rfl))))) (pss_one ps_never) pss_nil)
          (pss_one (ps_expr (pe_bm PySem.F.plainAttrs_list PySem.F.slot_list_append PySem.F.type_list_append mt_append (pv 1) (pa_cons (pv 2) pa_nil))))))), ?_⟩
    refine ⟨Nat.zero_le _, fun p np => ?_⟩
    have s1 : Same H (upd H p (.lst [])) := same_upd np
    have hl := paired_len pr
    refine for_seq (a := a) (xs := rs) (by rfl) (hs.same s1) (fun i σ H' => ∃ v2 v3, σ = [some (.ref a), some (.ref p), v2, v3] ∧ Same H H' ∧ H' p = some (.lst ((nms (ls.take i)).map V.str))) ⟨none, none, rfl, s1, upd_same⟩ ?_ ?_ ?_
    · rintro i σ H' hi ⟨v2, v3, rfl, sm, _⟩ o e
      rcases hs with e' | e'
      · rw [s1 _ _ e'] at e
        rw [← e]
        exact sm _ _ e'
      · rw [s1 _ _ e'] at e
        rw [← e]
        exact sm _ _ e'
    · rintro i x σ H' hx ⟨v2, v3, rfl, sm, hp⟩
      obtain ⟨l, hl2, t, b, rfl, ht, _⟩ := paired_at pr hx
      have hi : i < ls.length := (List.getElem?_eq_some_iff.mp hl2).1
      have few := ok.few
      refine ⟨t, _, rfl, SqT.of (sm _ _ ht), rfl, _, _, rfl, _, _, rfl, rfl, ?_⟩
      refine ⟨_, rfl, l.1, rfl, ok.names l (List.mem_of_getElem? hl2), fun H2 s2 => ⟨true, rfl, ?_⟩⟩
      have hp2 := s2 _ _ hp
      refine ⟨_, rfl, _, rfl, p, _, rfl, .inl (SqL.of hp2), rfl, flat_strs _, _, rfl, ?_⟩
      rw [show (if false = true then !inV (V.str l.1) ((nms (ls.take i)).map V.str) else inV (V.str l.1) ((nms (ls.take i)).map V.str)) = false from by
        rw [if_neg Bool.false_ne_true, inV_str]
        exact decide_eq_false (not_before ok.nd hl2)]
      refine ⟨_, rfl, .inl ⟨rfl, _, SqL.of hp2⟩, _, rfl, p, _, _, rfl, rfl, hp2, ?_, ?_⟩
      · rw [List.length_map, List.length_map, List.length_take]
        exact small1000 (by omega)
      · refine ⟨_, _, rfl, fun c o e => ?_, ?_⟩
        · rw [upd_ne (ne_of_none e np)]
          exact s2 _ _ (sm _ _ e)
        · rw [upd_same, show nms (ls.take (i + 1)) = nms (ls.take i) ++ [l.1] from take_succ_map hl2, List.map_append]
          rfl
    · rintro σ H' ⟨v2, v3, rfl, sm, _⟩
      exact k _ sm
end
end K1

namespace K1
open PySem PySem.Spec PyProof.Rows L2 Own
/-! ### what is above a kind -/
def grow (o : List Str) (x : Str) : List Str := if x ∈ o then o else o ++ [x]
theorem grow_mem {o : List Str} {x y : Str} : y ∈ grow o x ↔ y ∈ o ∨ y = x := by
  unfold grow
  split
  · rename_i h
    exact ⟨.inl, fun q => q.elim id fun e => by rw [e]; exact h⟩
  · simp
theorem grow_nd {o : List Str} {x : Str} (h : o.Nodup) : (grow o x).Nodup := by
  unfold grow
  split
  · exact h
  · rename_i n
    exact List.nodup_append.mpr ⟨h, List.nodup_cons.mpr ⟨List.not_mem_nil, List.nodup_nil⟩, fun a ha b hb => by
      rw [List.mem_singleton.mp hb]
      exact fun e => n (e ▸ ha)⟩
theorem grow_len (o : List Str) (x : Str) : (grow o x).length ≤ o.length + 1 := by
  unfold grow
  split
  · omega
  · rw [List.length_append, List.length_singleton]
    omega
abbrev Tb := List (Str × List Str)
def look (T : Tb) (n : Str) : List Str := (T.lookup n).getD []
theorem look_at : ∀ {T : Tb} {j : Nat} {n : Str} {y : List Str}, (T.map (·.1)).Nodup → T[j]? = some (n, y) → look T n = y
  | [], _, _, _, _, h => by simp at h
  | (m, z) :: r, 0, n, y, _, h => by
    have e := Option.some.inj h
    cases e
    unfold look
    rw [List.lookup_cons, beq_self_eq_true]
    rfl
  | (m, z) :: r, j + 1, n, y, nd, h => by
    have h' : r[j]? = some (n, y) := by simpa using h
    obtain ⟨n1, n2⟩ := List.nodup_cons.mp (show (m :: r.map (·.1)).Nodup from nd)
    have ne : ¬ n = m := fun e => n1 (by
      rw [← e]
      exact List.mem_map.mpr ⟨(n, y), List.mem_of_getElem? h', rfl⟩)
    have ih := look_at n2 h'
    unfold look at ih ⊢
    rw [List.lookup_cons, beq_eq_false_iff_ne.mpr ne]
    exact ih
/-- y is what is above the kind of this row, given what is above its bases -/
def UpsIs (F : Str → List Str) (l : Ln) (y : List Str) : Prop := y.Nodup ∧ ∀ x, x ∈ y ↔ x = l.1 ∨ ∃ b ∈ l.2, x ∈ F b
structure Tab (S : List Str → Prop) (ls : List Ln) (T : Tb) : Prop where
  len : T.length = ls.length
  row : ∀ (i : Nat) l, ls[i]? = some l → ∃ y, T[i]? = some (l.1, y) ∧ S y ∧ UpsIs (look (T.take i)) l y
theorem Tab.nms {S : List Str → Prop} {ls : List Ln} {T : Tb} (h : Tab S ls T) : T.map (·.1) = nms ls := by
  refine List.ext_getElem? fun i => ?_
  rw [List.getElem?_map, List.getElem?_map]
  cases e : ls[i]? with
  | none =>
    have q := List.getElem?_eq_none_iff.mp e
    rw [List.getElem?_eq_none_iff.mpr (by rw [h.len]; exact q)] <;> rfl
  | some l =>
    obtain ⟨y, hy, _⟩ := h.row i l e
    rw [hy]
    rfl
theorem Tab.nil {S : List Str → Prop} : Tab S [] [] := ⟨rfl, fun i l h => by simp at h⟩
theorem Tab.snoc {S : List Str → Prop} {ls : List Ln} {T : Tb} {l : Ln} {y : List Str} (h : Tab S ls T) (u : UpsIs (look T) l y) (s : S y) : Tab S (ls ++ [l]) (T ++ [(l.1, y)]) := by
  refine ⟨by rw [List.length_append, List.length_append, h.len]; rfl, fun i k hk => ?_⟩
  by_cases hi : i < ls.length
  · rw [List.getElem?_append_left hi] at hk
    obtain ⟨z, h1, h2, h3⟩ := h.row i k hk
    have hT : i < T.length := by rw [h.len]; exact hi
    refine ⟨z, by rw [List.getElem?_append_left hT]; exact h1, h2, ?_⟩
    rw [List.take_append_of_le_length (Nat.le_of_lt hT)]
    exact h3
  · have e : i = ls.length := by
      have q := (List.getElem?_eq_some_iff.mp hk).1
      rw [List.length_append, List.length_singleton] at q
      omega
    subst e
    rw [List.getElem?_append_right (Nat.le_refl _), Nat.sub_self] at hk
    have ek : l = k := Option.some.inj hk
    subst ek
    refine ⟨y, ?_, s, ?_⟩
    · rw [← h.len, List.getElem?_append_right (Nat.le_refl _), Nat.sub_self]
      rfl
    · rw [← h.len, List.take_append_of_le_length (Nat.le_refl _), List.take_length]
      exact u
theorem take_nodup {α : Type} {l : List α} (h : l.Nodup) (i : Nat) : (l.take i).Nodup := h.sublist (List.take_sublist _ _)
theorem mem_take {ls : List Ln} {i : Nat} {b : Str} (h : b ∈ nms (ls.take i)) : ∃ j l, j < i ∧ ls[j]? = some l ∧ l.1 = b := by
  obtain ⟨l, hl, e⟩ := List.mem_map.mp h
  obtain ⟨j, hj⟩ := List.mem_iff_getElem?.mp hl
  rw [List.getElem?_take] at hj
  split at hj
  · exact ⟨j, l, by assumption, hj, e⟩
  · cases hj
/-- the same names, the same bases in some order -/
def Alike (ls ls' : List Ln) : Prop := Paired (fun (l l' : Ln) => l.1 = l'.1 ∧ ∀ b, b ∈ l.2 ↔ b ∈ l'.2) ls ls'
theorem Alike.nms : ∀ {ls ls' : List Ln}, Alike ls ls' → nms ls = nms ls'
  | _, _, .nil => rfl
  | x :: xs, y :: ys, .cons a r => by
    have e : K1.nms xs = K1.nms ys := Alike.nms r
    show x.1 :: K1.nms xs = y.1 :: K1.nms ys
    rw [a.1, e]
theorem tab_alike {S S' : List Str → Prop} {ls ls' : List Ln} {T T' : Tb} (ok : LnsOk ls) (a : Alike ls ls') (h : Tab S ls T) (h' : Tab S' ls' T') :
    ∀ (i : Nat) (n n' : Str) (y y' : List Str), T[i]? = some (n, y) → T'[i]? = some (n', y') → n = n' ∧ ∀ x, x ∈ y ↔ x ∈ y' := by
  have ndT : (T.map (·.1)).Nodup := by rw [h.nms]; exact ok.nd
  have ndT' : (T'.map (·.1)).Nodup := by rw [h'.nms, ← a.nms]; exact ok.nd
  intro i
  induction i using Nat.strongRecOn with
  | ind i ih =>
    intro n n' y y' hy hy'
    have hi : i < ls.length := by
      rw [← h.len]
      exact (List.getElem?_eq_some_iff.mp hy).1
    obtain ⟨l', hl', e1, e2⟩ := paired_at a (List.getElem?_eq_getElem hi)
    obtain ⟨z, hz, _, _, uz⟩ := h.row i _ (List.getElem?_eq_getElem hi)
    obtain ⟨z', hz', _, _, uz'⟩ := h'.row i _ hl'
    rw [hy] at hz
    rw [hy'] at hz'
    cases hz
    cases hz'
    refine ⟨e1, fun x => ?_⟩
    have each : ∀ b ∈ (ls[i]).2, ∀ x, x ∈ look (T.take i) b ↔ x ∈ look (T'.take i) b := fun b hb x => by
      obtain ⟨j, k, hj, hk, ek⟩ := mem_take ((ok.base i _ (List.getElem?_eq_getElem hi)).2.1 b hb)
      subst ek
      obtain ⟨k', hk', f1, f2⟩ := paired_at a hk
      obtain ⟨u, hu, _, _⟩ := h.row j k hk
      obtain ⟨u', hu', _, _⟩ := h'.row j k' hk'
      have q := (ih j hj _ _ _ _ hu hu').2 x
      have g : (T.take i)[j]? = some (k.1, u) := by rw [List.getElem?_take_of_lt hj]; exact hu
      have g' : (T'.take i)[j]? = some (k.1, u') := by rw [List.getElem?_take_of_lt hj, f1]; exact hu'
      rw [look_at (by rw [List.map_take]; exact take_nodup ndT i) g, look_at (by rw [List.map_take]; exact take_nodup ndT' i) g']
      exact q
    rw [uz x, uz' x, e1]
    constructor
    · rintro (q | ⟨b, hb, q⟩)
      · exact .inl q
      · exact .inr ⟨b, (e2 b).mp hb, (each b hb x).mp q⟩
    · rintro (q | ⟨b, hb, q⟩)
      · exact .inl q
      · have hb' := (e2 b).mpr hb
        exact .inr ⟨b, hb', (each b hb' x).mpr q⟩
end K1

namespace K1
open PySem PySem.Spec PyProof.Rows L2 Own
def spAreBases : Sp := fun vs H Q _ => ∃ (b p : Addr) (bs ns : List Str), vs = [.ref b, .ref p] ∧ SeqOf H b (bs.map V.str) ∧ H p = some (.lst (ns.map V.str)) ∧ bs.Nodup ∧ (∀ x ∈ bs, x ∈ ns) ∧ bs.length ≤ 7 ∧ ∀ H', Same H H' → Q (.bl true) H'
theorem seq_keep {H H' : Hp} {a : Addr} {xs : List V} (h : SeqOf H a xs) (s : Same H H') : ∀ o, H a = some o → H' a = some o := fun o e => s _ _ e
theorem nd_not {ss : List Str} {i : Nat} {x : Str} (nd : ss.Nodup) (h : ss[i]? = some x) : x ∉ ss.take i := by
  intro hm
  obtain ⟨j, hj⟩ := List.mem_iff_getElem?.mp hm
  rw [List.getElem?_take] at hj
  split at hj
  · have := nd_ix nd hj h
    omega
  · cases hj
theorem same_past {H H' : Hp} {p : Addr} {o : HO} (np : H p = none) (s : Same H H') : Same H (upd H' p o) := fun b x e => by
  rw [upd_ne (ne_of_none e np)]
  exact s _ _ e
section
variable {P : Program} {w : World} {K : PySem.W.Frag} {mg : Str → Option Value} {base : Heap}
theorem scAreBases : FnScope ["thing", "before", "found", "base"] ["thing", "before"] (defScope sAreBases) := ⟨rfl, rfl, rfl, by decide +kernel, rfl, by decide +kernel, by decide +kernel⟩
theorem ok_areBases {f : Addr} {fd : FuncData} (F : Fun K "_are_bases" "_are_bases" sAreBases f fd) (mi : mg "isinstance" = none) (ml : mg "list" = none) (mt : mg "tuple" = none) : FnOk P w K mg base CX0 1 f fd ["thing", "before"] spAreBases := by
  refine F.ok scAreBases (fun vs H Q E h => ?_) (fun cdv A outer s H vs Q E hr h => ?_)
  · obtain ⟨b, p, bs, ns, rfl, _⟩ := h
    rfl
  · obtain ⟨b, p, bs, ns, rfl, hb, hp, nd, sub, few, k⟩ := h
    refine ⟨_, pss_cons (ps_if (pt_not (pt_val (pe_callB call_isiT (by rfl) mi (by decide +kernel) (pa_cons (pv 0) (pa_cons (pe_tup (pa_cons (pe_bltn (v := .ty "list") (u := .type "list") (by rfl) ml (by decide +kernel) rfl) (pa_cons (pe_bltn (v := .ty "tuple") (u := .type "tuple") (by rfl) mt (by decide +kernel) rfl) pa_nil))) pa_nil)))))
        (pss_one (ps_ret pe_bl)) pss_nil)
      (pss_cons (ps_set (i := 2) scAreBases.nd rfl (Or.inl rfl) (pe_lst pa_nil))
      (pss_cons (ps_for PassesOwn.never rfl (pi_seq 0) (pg_name (i := 3) scAreBases.nd rfl (Or.inl rfl))
        (pss_cons (ps_if (PW.pt (pw_or (pt_cmpR op_notIn_seq (pv 3) (pv 1) (by rfl)) (pw_or1 (pt_cmpR op_in_seq (pv 3) (pv 2) (by rfl))))) (pss_one (ps_ret pe_bl)) pss_nil)
          (pss_one (ps_expr (pe_bm PySem.F.plainAttrs_list PySem.F.slot_list_append PySem.F.type_list_append mt_append (pv 2) (pa_cons (pv 3) pa_nil))))))
      (pss_one (ps_ret pe_bl)))), ?_⟩
    refine ⟨_, rfl, (by show 2 ≤ sizeLine; decide), fun tp ntp => ?_⟩
    have s1 : Same H (upd H tp (.tup [.ty "list", .ty "tuple"])) := same_upd ntp
    obtain ⟨t, ty, kt⟩ := isi_lt (K := K) (hb.same s1)
    refine ⟨_, tp, _, t, _, true, rfl, upd_same, .cons (.ty "list") (.cons (.ty "tuple") .nil), ty, kt, true, rfl, iteF ?_⟩
    generalize upd H tp (.tup [.ty "list", .ty "tuple"]) = H0 at s1
    refine ⟨Nat.zero_le _, fun q nq => ?_⟩
    have s2 : Same H0 (upd H0 q (.lst [])) := same_upd nq
    refine for_seq (a := b) (xs := bs.map V.str) (by rfl) ((hb.same s1).same s2) (fun i σ H' => ∃ v3, σ = [some (.ref b), some (.ref p), some (.ref q), v3] ∧ Same H0 H' ∧ H' q = some (.lst ((bs.take i).map V.str))) ⟨none, rfl, s2, upd_same⟩ ?_ ?_ ?_
    · rintro i σ H' hi ⟨v3, rfl, sm, _⟩ o e
      have hb0 := hb.same s1
      rcases hb0 with e' | e'
      · rw [s2 _ _ e'] at e
        rw [← e]
        exact sm _ _ e'
      · rw [s2 _ _ e'] at e
        rw [← e]
        exact sm _ _ e'
    · rintro i x σ H' hx ⟨v3, rfl, sm, hq⟩
      rw [List.getElem?_map] at hx
      obtain ⟨y, hy, rfl⟩ := Option.map_eq_some_iff.mp hx
      have hi : i < bs.length := (List.getElem?_eq_some_iff.mp hy).1
      refine ⟨_, rfl, _, rfl, p, _, rfl, .inl (SqL.of (sm _ _ (s1 _ _ hp))), rfl, flat_strs _, _, rfl, ?_⟩
      rw [show (if true = true then !inV (V.str y) (ns.map V.str) else inV (V.str y) (ns.map V.str)) = false from by
        rw [if_pos rfl, inV_str, decide_eq_true (sub y (List.mem_of_getElem? hy))]
        rfl]
      refine iteF ⟨_, rfl, _, rfl, q, _, rfl, .inl (SqL.of hq), rfl, flat_strs _, _, rfl, ?_⟩
      rw [show (if false = true then !inV (V.str y) ((bs.take i).map V.str) else inV (V.str y) ((bs.take i).map V.str)) = false from by
        rw [if_neg Bool.false_ne_true, inV_str]
        exact decide_eq_false (nd_not nd hy)]
      refine iteF ⟨_, rfl, .inl ⟨rfl, _, SqL.of hq⟩, _, rfl, q, _, _, rfl, rfl, hq, ?_, ?_⟩
      · rw [List.length_map, List.length_take]
        exact small1000 (by omega)
      · refine ⟨_, rfl, same_past nq sm, ?_⟩
        rw [upd_same, List.take_add_one, hy, List.map_append]
        rfl
    · rintro σ H' ⟨v3, rfl, sm, _⟩
      exact k _ (s1.trans sm)
theorem scCkBases : FnScope ["rows", "before", "name", "bases"] ["rows"] (defScope sCkBases) := ⟨rfl, rfl, rfl, by decide +kernel, rfl, by decide +kernel, by decide +kernel⟩
theorem ok_ckBases {f g : Addr} {fd gd : FuncData} (F : Fun K "_check_bases" "_check_bases" sCkBases f fd) (G : FnOk P w K mg base CX0 1 g gd ["thing", "before"] spAreBases) (kG : PySem.W.keepIn K (.ref g) = true) (bG : Binds K gd ["thing", "before"] []) (mG : mg "_are_bases" = some (.ref g)) :
    FnOk P w K mg base CX0 2 f fd ["rows"] spCkNames := by
  refine F.ok scCkBases (fun vs H Q E h => ?_) (fun cdv A outer s H vs Q E hr h => ?_)
  · obtain ⟨a, ls, rfl, _⟩ := h
    rfl
  · obtain ⟨a, ls, rfl, ⟨rs, hs, pr⟩, ok, k⟩ := h
    refine ⟨_, pss_cons (ps_set (i := 1) scCkBases.nd rfl (Or.inl rfl) (pe_lst pa_nil))
      (pss_one (ps_for PassesOwn.never rfl (pi_seq 0) (pg_tup rfl (pgs_cons (pg_name (i := 2) scCkBases.nd rfl (Or.inl rfl)) (pgs_cons (pg_name (i := 3) scCkBases.nd rfl (Or.inl rfl)) pgs_nil)))
        (pss_cons (ps_if (pt_not (pt_val (pe_call G hr (by rfl) mG kG bG .nil pass0 (pa_cons (pv 3) (pa_cons (pv 1) pa_nil))))) (pss_one ps_never) pss_nil)
          (pss_one (ps_expr (pe_bm PySem.F.plainAttrs_list PySem.F.slot_list_append PySem.F.type_list_append mt_append (pv 1) (pa_cons (pv 2) pa_nil))))))), ?_⟩
    refine ⟨Nat.zero_le _, fun p np => ?_⟩
    have s1 : Same H (upd H p (.lst [])) := same_upd np
    refine for_seq (a := a) (xs := rs) (by rfl) (hs.same s1) (fun i σ H' => ∃ v2 v3, σ = [some (.ref a), some (.ref p), v2, v3] ∧ Same H H' ∧ H' p = some (.lst ((nms (ls.take i)).map V.str))) ⟨none, none, rfl, s1, upd_same⟩ ?_ ?_ ?_
    · rintro i σ H' hi ⟨v2, v3, rfl, sm, _⟩ o e
      rcases hs with e' | e'
      · rw [s1 _ _ e'] at e
        rw [← e]
        exact sm _ _ e'
      · rw [s1 _ _ e'] at e
        rw [← e]
        exact sm _ _ e'
    · rintro i x σ H' hx ⟨v2, v3, rfl, sm, hp⟩
      obtain ⟨l, hl2, t, b, rfl, ht, hb⟩ := paired_at pr hx
      have hi : i < ls.length := (List.getElem?_eq_some_iff.mp hl2).1
      have few := ok.few
      obtain ⟨b1, b2, b3⟩ := ok.base i l hl2
      refine ⟨t, _, rfl, SqT.of (sm _ _ ht), rfl, _, _, rfl, _, _, rfl, rfl, ?_⟩
      refine ⟨_, rfl, _, rfl, b, p, l.2, nms (ls.take i), rfl, hb.same sm, hp, b1, b2, b3, fun H2 s2 => ⟨true, rfl, iteF ?_⟩⟩
      have hp2 := s2 _ _ hp
      refine ⟨_, rfl, .inl ⟨rfl, _, SqL.of hp2⟩, _, rfl, p, _, _, rfl, rfl, hp2, ?_, ?_⟩
      · rw [List.length_map, List.length_map, List.length_take]
        exact small1000 (by omega)
      · refine ⟨_, _, rfl, same_past np (sm.trans s2), ?_⟩
        rw [upd_same, show nms (ls.take (i + 1)) = nms (ls.take i) ++ [l.1] from take_succ_map hl2, List.map_append]
        rfl
    · rintro σ H' ⟨v2, v3, rfl, sm, _⟩
      exact k _ sm
end
end K1

namespace K1
open PySem PySem.Spec PyProof.Rows L2 Own
/-! ### a dict of lists of names -/
def EntAt (N : Addr → Prop) (H : Hp) (kv : Key × V) (t : Str × List Str) : Prop := kv.1 = Sum.inr t.1 ∧ ∃ p, N p ∧ kv.2 = .ref p ∧ H p = some (.lst (t.2.map V.str))
def DictAt (N : Addr → Prop) (H : Hp) (d : Addr) (T : Tb) : Prop := N d ∧ ∃ kvs, H d = some (.dK kvs) ∧ Paired (EntAt N H) kvs T
theorem DictAt.same {N : Addr → Prop} {H H' : Hp} {d : Addr} {T : Tb} (s : Same H H') (h : DictAt N H d T) : DictAt N H' d T := by
  obtain ⟨n, kvs, e, p⟩ := h
  exact ⟨n, kvs, s _ _ e, paired_imp (fun _ _ ⟨a, q, b, c, z⟩ => ⟨a, q, b, c, s _ _ z⟩) p⟩
theorem ent_get {N : Addr → Prop} {H : Hp} {n : Str} {y : List Str} : ∀ {kvs : List (Key × V)} {T : Tb}, Paired (EntAt N H) kvs T → T.lookup n = some y → ∃ q, N q ∧ valV kvs (Sum.inr n) = some (.ref q) ∧ H q = some (.lst (y.map V.str))
  | _, _, .nil, h => by simp at h
  | kv :: kvs, t :: T, .cons a r, h => by
    obtain ⟨e, q, nq, ev, hq⟩ := a
    rw [show t = (t.1, t.2) from rfl, List.lookup_cons] at h
    by_cases c : n = t.1
    · rw [beq_iff_eq.mpr c] at h
      have h' : t.2 = y := Option.some.inj h
      exact ⟨q, nq, by rw [valV_pos (by rw [e, c]), ev], by rw [← h']; exact hq⟩
    · rw [beq_eq_false_iff_ne.mpr c] at h
      obtain ⟨q', n', e', h'⟩ := ent_get r h
      exact ⟨q', n', by rw [valV_neg (by rw [e]; exact fun z => c (Sum.inr.inj z).symm), e'], h'⟩
theorem ent_none {N : Addr → Prop} {H : Hp} {n : Str} : ∀ {kvs : List (Key × V)} {T : Tb}, Paired (EntAt N H) kvs T → n ∉ T.map (·.1) → valV kvs (Sum.inr n) = none
  | _, _, .nil, h => rfl
  | kv :: kvs, t :: T, .cons a r, h => by
    obtain ⟨e, _⟩ := a
    have h1 : ¬ n = t.1 ∧ n ∉ T.map (·.1) := by simpa using h
    rw [valV_neg (by rw [e]; exact fun z => h1.1 (Sum.inr.inj z).symm)]
    exact ent_none r h1.2
theorem look_in : ∀ {T : Tb} {n : Str}, n ∈ T.map (·.1) → T.lookup n = some (look T n)
  | [], _, h => by simp at h
  | (m, z) :: r, n, h => by
    unfold look
    rw [List.lookup_cons]
    by_cases c : n = m
    · rw [beq_iff_eq.mpr c]
      rfl
    · rw [beq_eq_false_iff_ne.mpr c]
      have h' : n ∈ r.map (·.1) := by
        rcases List.mem_cons.mp (show n ∈ m :: r.map (·.1) from h) with e | e
        · exact absurd e c
        · exact e
      have ih := look_in h'
      show r.lookup n = some ((r.lookup n).getD [])
      rw [ih]
      rfl
/-- the keys of a dict of Trues -/
def keysOf (o : List Str) : List (Key × V) := o.map fun x => (Sum.inr x, V.bl true)
theorem keysOf_keys (o : List Str) : (keysOf o).map (·.1) = o.map Sum.inr := by
  unfold keysOf
  rw [List.map_map]
  rfl
theorem keysOf_any (o : List Str) (x : Str) : ((keysOf o).any fun kv => decide (kv.1 = Sum.inr x)) = decide (x ∈ o) := by
  unfold keysOf
  rw [List.any_map, Bool.eq_iff_iff, List.any_eq_true]
  simp only [Function.comp, decide_eq_true_eq]
  exact ⟨fun ⟨y, hy, e⟩ => by rw [← Sum.inr.inj e]; exact hy, fun h => ⟨x, h, rfl⟩⟩
theorem put_keys (o : List Str) (x : Str) : putK (keysOf o) (Sum.inr x) (.bl true) = keysOf (grow o x) := by
  unfold putK grow
  rw [keysOf_any]
  by_cases h : x ∈ o
  · rw [if_pos (decide_eq_true h), if_pos h]
    unfold keysOf
    rw [List.map_map]
    refine List.map_congr_left fun y _ => ?_
    simp only [Function.comp]
    split <;> rfl
  · rw [if_neg (by rw [decide_eq_false h]; decide), if_neg h]
    unfold keysOf
    rw [List.map_append]
    rfl
theorem grows_mem : ∀ {ys o : List Str} {x : Str}, x ∈ ys.foldl grow o ↔ x ∈ o ∨ x ∈ ys
  | [], o, x => by simp
  | y :: r, o, x => by
    rw [List.foldl_cons, grows_mem, grow_mem, List.mem_cons]
    exact ⟨fun h => h.elim (fun h => h.elim .inl fun e => .inr (.inl e)) fun h => .inr (.inr h), fun h => h.elim (fun h => .inl (.inl h)) fun h => h.elim (fun e => .inl (.inr e)) .inr⟩
theorem grows_nd : ∀ {ys o : List Str}, o.Nodup → (ys.foldl grow o).Nodup
  | [], _, h => h
  | _ :: r, _, h => grows_nd (ys := r) (grow_nd h)
theorem nd_len : ∀ {xs ys : List Str}, xs.Nodup → (∀ x ∈ xs, x ∈ ys) → xs.length ≤ ys.length
  | [], _, _, _ => Nat.zero_le _
  | x :: r, ys, nd, h => by
    obtain ⟨n1, n2⟩ := List.nodup_cons.mp nd
    have hx := h x (List.mem_cons_self ..)
    have q := nd_len (xs := r) (ys := ys.erase x) n2 fun z hz => (List.mem_erase_of_ne (fun (e : z = x) => n1 (by rw [← e]; exact hz))).mpr (h z (List.mem_cons_of_mem _ hz))
    have l := List.length_erase_of_mem hx
    have l0 : 0 < ys.length := List.length_pos_of_mem hx
    rw [List.length_cons]
    omega
theorem take_sub {ls : List Ln} {i j : Nat} (h : i ≤ j) {x : Str} (hx : x ∈ nms (ls.take i)) : x ∈ nms (ls.take j) := by
  obtain ⟨k, l, hk, hl, e⟩ := mem_take hx
  subst e
  have g : (ls.take j)[k]? = some l := by rw [List.getElem?_take_of_lt (by omega)]; exact hl
  exact List.mem_map.mpr ⟨l, List.mem_of_getElem? g, rfl⟩
theorem tab_sub {S : List Str → Prop} {ls : List Ln} {T : Tb} (ok : LnsOk ls) (h : Tab S ls T) : ∀ (i : Nat) (n : Str) (y : List Str), T[i]? = some (n, y) → ∀ x ∈ y, x ∈ nms (ls.take (i + 1)) := by
  have ndT : (T.map (·.1)).Nodup := by rw [h.nms]; exact ok.nd
  intro i
  induction i using Nat.strongRecOn with
  | ind i ih =>
    intro n y hy x hx
    have hi : i < ls.length := by
      rw [← h.len]
      exact (List.getElem?_eq_some_iff.mp hy).1
    obtain ⟨z, hz, _, _, uz⟩ := h.row i _ (List.getElem?_eq_getElem hi)
    rw [hy] at hz
    cases hz
    rcases (uz x).mp hx with e | ⟨b, hb, q⟩
    · have g : (ls.take (i + 1))[i]? = some ls[i] := by rw [List.getElem?_take_of_lt (Nat.lt_succ_self _)]; exact List.getElem?_eq_getElem hi
      exact List.mem_map.mpr ⟨_, List.mem_of_getElem? g, e.symm⟩
    · obtain ⟨j, k, hj, hk, ek⟩ := mem_take ((ok.base i _ (List.getElem?_eq_getElem hi)).2.1 b hb)
      subst ek
      obtain ⟨u, hu, _, _⟩ := h.row j k hk
      have g : (T.take i)[j]? = some (k.1, u) := by rw [List.getElem?_take_of_lt hj]; exact hu
      rw [look_at (by rw [List.map_take]; exact take_nodup ndT i) g] at q
      exact take_sub (by omega) (ih j hj _ _ hu x q)
theorem look_sub {S : List Str → Prop} {ls : List Ln} {T : Tb} (ok : LnsOk ls) (h : Tab S ls T) {n x : Str} (hx : x ∈ look T n) : x ∈ nms ls := by
  by_cases c : n ∈ T.map (·.1)
  · have e := look_in c
    generalize look T n = y at e hx
    obtain ⟨l1, l2, e2, _⟩ := List.lookup_eq_some_iff.mp e
    have g : T[l1.length]? = some (n, y) := by rw [e2, List.getElem?_append_right (Nat.le_refl _), Nat.sub_self]; rfl
    have q := tab_sub ok h _ _ _ g x hx
    exact take_sub (ls := ls) (j := ls.length + (l1.length + 1)) (by omega) q |> fun z => by rwa [List.take_of_length_le (by omega)] at z
  · have e : T.lookup n = none := by
      cases e : T.lookup n with
      | none => rfl
      | some y =>
        obtain ⟨l1, l2, e2, _⟩ := List.lookup_eq_some_iff.mp e
        exact absurd (by rw [e2]; simp) c
    unfold look at hx
    rw [e] at hx
    exact nomatch hx
theorem look_nd {S : List Str → Prop} {ls : List Ln} {T : Tb} (h : Tab S ls T) (n : Str) : (look T n).Nodup := by
  cases e : T.lookup n with
  | none =>
    unfold look
    rw [e]
    exact List.nodup_nil
  | some y =>
    obtain ⟨l1, l2, e2, _⟩ := List.lookup_eq_some_iff.mp e
    have g : T[l1.length]? = some (n, y) := by rw [e2, List.getElem?_append_right (Nat.le_refl _), Nat.sub_self]; rfl
    have hi : l1.length < ls.length := by
      rw [← h.len]
      exact (List.getElem?_eq_some_iff.mp g).1
    obtain ⟨z, hz, _, u, _⟩ := h.row _ _ (List.getElem?_eq_getElem hi)
    rw [g] at hz
    cases hz
    unfold look
    rw [e]
    exact u
theorem look_len {S : List Str → Prop} {ls : List Ln} {T : Tb} (ok : LnsOk ls) (h : Tab S ls T) (n : Str) : (look T n).length ≤ 7 := by
  have q := nd_len (look_nd h n) fun x hx => look_sub ok h hx
  rw [List.length_map] at q
  have := ok.few
  omega
theorem grows_len : ∀ (ys o : List Str), (ys.foldl grow o).length ≤ o.length + ys.length
  | [], o => Nat.le_refl _
  | y :: r, o => by
    have a := grows_len r (grow o y)
    have b := grow_len o y
    rw [List.foldl_cons, List.length_cons]
    omega
theorem LnsOk.take {ls : List Ln} (ok : LnsOk ls) (i : Nat) : LnsOk (ls.take i) := by
  refine ⟨fun l hl => ok.names l (List.mem_of_mem_take hl), ?_, ?_, fun j l hl => ?_⟩
  · have e : nms (ls.take i) = (nms ls).take i := List.map_take ..
    rw [e]
    exact take_nodup ok.nd i
  · have := ok.few
    rw [List.length_take]
    omega
  · rw [List.getElem?_take] at hl
    split at hl
    · obtain ⟨a, b, c⟩ := ok.base j l hl
      refine ⟨a, fun x hx => ?_, c⟩
      rw [List.take_take, Nat.min_eq_left (Nat.le_of_lt (by assumption))]
      exact b x hx
    · cases hl
end K1

namespace K1
open PySem PySem.Spec PyProof.Rows L2 Own
abbrev Srt (y : List Str) : Prop := sortedS y = true
def spAllAbove : Sp := fun vs H Q _ => ∃ r ls, vs = [.ref r] ∧ RowsAt H r ls ∧ LnsOk ls ∧ ∀ H' d T, Same H H' → DictAt (fun p => H p = none) H' d T → Tab Srt ls T → Q (.ref d) H'
theorem seqs_keep {H H' : Hp} {a : Addr} {xs : List V} (h : SeqOf H a xs) {H0 : Hp} (s0 : Same H H0) (s : Same H H') : ∀ o, H0 a = some o → H' a = some o := fun o e => by
  rcases h with e' | e'
  · rw [s0 _ _ e'] at e
    rw [← e]
    exact s _ _ e'
  · rw [s0 _ _ e'] at e
    rw [← e]
    exact s _ _ e'
theorem merge_one (n : Str) (v : V) : mergeK [] [((Sum.inr n : Key), v)] = [((Sum.inr n : Key), v)] := rfl
theorem small_of {S : List Str → Prop} {ls : List Ln} {i : Nat} {l : Ln} {T : Tb} {o : List Str} (ok : LnsOk ls) (hl : ls[i]? = some l) (tab : Tab S (ls.take i) T) (no : o.Nodup) (h : ∀ x ∈ o, x = l.1 ∨ ∃ c, x ∈ look T c) : o.length ≤ 7 := by
  have q := nd_len (ys := nms ls) no fun x hx => by
    rcases h x hx with e | ⟨c, hc⟩
    · exact List.mem_map.mpr ⟨l, List.mem_of_getElem? hl, e.symm⟩
    · have z := look_sub (ok.take i) tab hc
      obtain ⟨m, hm, e⟩ := List.mem_map.mp z
      exact List.mem_map.mpr ⟨m, List.mem_of_mem_take hm, e⟩
  rw [List.length_map] at q
  have := ok.few
  omega
section
variable {P : Program} {w : World} {K : PySem.W.Frag} {mg : Str → Option Value} {base : Heap}
theorem scAllAbove : FnScope ["rows", "above", "name", "bases", "over", "base", "far"] ["rows"] (defScope sAllAbove) := ⟨rfl, rfl, rfl, by decide +kernel, rfl, by decide +kernel, by decide +kernel⟩
theorem ok_allAbove {f : Addr} {fd : FuncData} (F : Fun K "_all_above" "_all_above" sAllAbove f fd) (ms : mg "sorted" = none) : FnOk P w K mg base CX0 1 f fd ["rows"] spAllAbove := by
  refine F.ok scAllAbove (fun vs H Q E h => ?_) (fun cdv A outer s H vs Q E hr h => ?_)
  · obtain ⟨r, ls, rfl, _⟩ := h
    rfl
  · obtain ⟨r, ls, rfl, ⟨rs, hs, pr⟩, ok, k⟩ := h
    have hu := hu_of hr
    refine ⟨_, pss_cons (ps_set (i := 1) scAllAbove.nd rfl (Or.inl rfl) pe_dnewK)
      (pss_cons (ps_for PassesOwn.never rfl (pi_seq 0) (pg_tup rfl (pgs_cons (pg_name (i := 2) scAllAbove.nd rfl (Or.inl rfl)) (pgs_cons (pg_name (i := 3) scAllAbove.nd rfl (Or.inl rfl)) pgs_nil)))
        (pss_cons (ps_set (i := 4) scAllAbove.nd rfl (Or.inl rfl) (pe_disp (pps_cons (pv 2) pe_bl pps_nil) (by rfl) (by rfl) (fun z => by cases z) (by decide)))
        (pss_cons (ps_for PassesOwn.never rfl (pi_seq 3) (pg_name (i := 5) scAllAbove.nd rfl (Or.inl rfl))
          (pss_one (ps_for PassesOwn.never rfl (pi_list (pe_dget hu (pv 1) (pv 5) (fun _ _ => rfl))) (pg_name (i := 6) scAllAbove.nd rfl (Or.inl rfl))
            (pss_one (ps_dput hu (pv 4) (pv 6) pe_bl rfl)))))
        (pss_one (ps_dput hu (pv 1) (pv 2) (pe_callB (call_sortedD rfl) (by rfl) ms (by decide +kernel) (pa_cons (pv 4) pa_nil)) rfl)))))
      (pss_one (ps_ret (pv 1)))), ?_⟩
    intro d nd
    have s1 : Same H (upd H d (.dK [])) := same_upd nd
    refine for_seq (a := r) (xs := rs) (by rfl) (hs.same s1) (fun i σ H' => ∃ v2 v3 v4 v5 v6 T, σ = [some (.ref r), some (.ref d), v2, v3, v4, v5, v6] ∧ Same H H' ∧ DictAt (fun p => H p = none) H' d T ∧ Tab Srt (ls.take i) T)
      ⟨none, none, none, none, none, [], rfl, s1, ⟨nd, [], upd_same, .nil⟩, Tab.nil⟩ (fun i σ H' hi ⟨_, _, _, _, _, _, _, sm, _⟩ => seqs_keep hs s1 sm) ?_ ?_
    · rintro i x σ H' hx ⟨v2, v3, v4, v5, v6, T, rfl, sm, dT, tab⟩
      obtain ⟨l, hl2, t, b, rfl, ht, hb⟩ := paired_at pr hx
      have hi : i < ls.length := (List.getElem?_eq_some_iff.mp hl2).1
      have few := ok.few
      obtain ⟨b1, b2, b3⟩ := ok.base i l hl2
      refine ⟨t, _, rfl, SqT.of (sm _ _ ht), rfl, _, _, rfl, _, _, rfl, rfl, ?_⟩
      intro p np
      refine ⟨_, rfl, upd_same, [(Sum.inr l.1, .bl true)], rfl, (by show 1 ≤ 15; decide), ?_⟩
      rw [merge_one, upd_upd]
      have s2 : Same H' (upd H' p (.dK [(Sum.inr l.1, .bl true)])) := same_upd np
      -- the bases
      refine for_seq (a := b) (xs := l.2.map V.str) (by rfl) ((hb.same sm).same s2) (fun j σ H2 => ∃ v5 v6 o, σ = [some (.ref r), some (.ref d), some (.str l.1), some (.ref b), some (.ref p), v5, v6] ∧ Same H' H2 ∧ H2 p = some (.dK (keysOf o)) ∧ o.Nodup ∧ ∀ x, x ∈ o ↔ x = l.1 ∨ ∃ c ∈ l.2.take j, x ∈ look T c)
        ⟨v5, v6, [l.1], rfl, s2, upd_same, by simp, fun x => by simp⟩ (fun j σ H2 hj ⟨_, _, _, _, sm2, _⟩ => seqs_keep (hb.same sm) s2 sm2) ?_ ?_
      · rintro j x σ H2 hx ⟨v5, v6, o, rfl, sm2, hp, no, mo⟩
        rw [List.getElem?_map] at hx
        obtain ⟨c, hc, rfl⟩ := Option.map_eq_some_iff.mp hx
        have cl : c ∈ l.2 := List.mem_of_getElem? hc
        have cT : c ∈ T.map (·.1) := by rw [tab.nms]; exact b2 c cl
        have dT2 := dT.same sm2
        obtain ⟨_, kvs, hd, pk⟩ := dT2
        obtain ⟨q, nq, eq, hq⟩ := ent_get pk (look_in cT)
        have npq : p ≠ q := ne_of hp hq (by intro z; cases z)
        have g : DGet H2 d (.str c) (some (.ref q)) := by
          rw [← eq]
          exact DGet.k (k := Sum.inr c) hd
        refine ⟨_, rfl, _, rfl, d, _, rfl, g, q, rfl, ⟨_, SqL.of hq⟩, ?_⟩
        have lk := look_len (ok.take i) tab c
        have ol := small_of ok hl2 tab no fun x hx => (mo x).mp hx |>.imp id fun ⟨c, h1, h2⟩ => ⟨c, h2⟩
        refine for_list (K := K) (a := q) (xs := (look T c).map V.str) (fun m σ H3 => ∃ v6, σ = [some (.ref r), some (.ref d), some (.str l.1), some (.ref b), some (.ref p), some (.str c), v6] ∧ (∀ a u, a ≠ p → H2 a = some u → H3 a = some u) ∧ H3 p = some (.dK (keysOf (((look T c).take m).foldl grow o))))
          ⟨v6, rfl, fun _ _ _ e => e, hp⟩ (fun m σ H3 hm ⟨_, _, e, _⟩ => SqL.of (e q _ npq.symm hq)) ?_ ?_
        · rintro m x σ H3 hx ⟨v6, rfl, kp, hp3⟩
          rw [List.getElem?_map] at hx
          obtain ⟨z, hz, rfl⟩ := Option.map_eq_some_iff.mp hx
          have put := DPut.k (k := Sum.inr z) (v := .bl true) hp3 (by
            unfold keysOf
            rw [List.length_map]
            have a := grows_len ((look T c).take m) o
            have b : ((look T c).take m).length ≤ (look T c).length := by rw [List.length_take]; omega
            exact small1000 (by omega))
          rw [put_keys] at put
          refine ⟨_, rfl, _, rfl, p, _, rfl, put, ?_⟩
          refine ⟨_, rfl, fun a u ne e => by rw [upd_ne ne]; exact kp a u ne e, ?_⟩
          rw [upd_same, List.take_add_one, hz, List.foldl_append]
          rfl
        · rintro σ H3 ⟨v6, rfl, kp, hp3⟩
          rw [List.length_map, List.take_of_length_le (Nat.le_refl _)] at hp3
          refine ⟨_, _, _, rfl, fun a u e => kp a u (ne_of_none e np) (sm2 a u e), hp3, grows_nd no, fun x => ?_⟩
          rw [grows_mem, mo x, List.take_add_one, hc]
          simp only [Option.toList, List.mem_append, List.mem_singleton]
          constructor
          · rintro ((e | ⟨c', h1, h2⟩) | h2)
            · exact .inl e
            · exact .inr ⟨c', .inl h1, h2⟩
            · exact .inr ⟨c, .inr rfl, h2⟩
          · rintro (e | ⟨c', h1 | h1, h2⟩)
            · exact .inl (.inl e)
            · exact .inl (.inr ⟨c', h1, h2⟩)
            · subst h1
              exact .inr h2
      · rintro σ H2 ⟨v5, v6, o, rfl, sm2, hp, no, mo⟩
        rw [List.length_map, List.take_of_length_le (Nat.le_refl _)] at mo
        have ol := small_of ok hl2 tab no fun x hx => (mo x).mp hx |>.imp id fun ⟨c, h1, h2⟩ => ⟨c, h2⟩
        obtain ⟨nD, kvs, hd, pk⟩ := dT.same sm2
        refine ⟨_, rfl, p, _, o, rfl, .inl hp, keysOf_keys o, (by omega), fun ys q pe so nq => ?_⟩
        have s3 : Same H2 (upd H2 q (.lst (ys.map V.str))) := same_upd nq
        have nlT : l.1 ∉ T.map (·.1) := by
          rw [tab.nms]
          exact not_before ok.nd hl2
        have kl : kvs.length = T.length := paired_len pk
        have Tl : T.length ≤ 7 := by
          rw [tab.len, List.length_take]
          omega
        have put := DPut.k (k := Sum.inr l.1) (v := .ref q) (s3 _ _ hd) (small1000 (by omega))
        rw [putK_new _ (ent_none pk nlT)] at put
        refine ⟨_, rfl, _, rfl, d, _, rfl, put, ?_⟩
        have qH : H q = none := (sm.trans sm2).free nq
        have dq : q ≠ d := (ne_of_none hd nq).symm
        have ups : UpsIs (look T) l ys := ⟨pe.nodup_iff.mpr no, fun x => by rw [pe.mem_iff]; exact mo x⟩
        have e4 : ∀ a u, a ≠ d → H2 a = some u → (upd (upd H2 q (.lst (ys.map V.str))) d (.dK (kvs ++ [(Sum.inr l.1, .ref q)]))) a = some u := fun a u ne e => by
          rw [upd_ne ne]
          exact s3 _ _ e
        refine ⟨_, _, _, _, _, T ++ [(l.1, ys)], rfl, fun a u e => e4 a u (ne_of_none e nd) (sm2 _ _ (sm _ _ e)), ⟨nd, _, upd_same, ?_⟩, ?_⟩
        · refine Paired.snoc (paired_imp (fun kv t => ?_) pk) ⟨rfl, q, qH, rfl, ?_⟩
          · rintro ⟨a1, a2, a3, a4, a5⟩
            exact ⟨a1, a2, a3, a4, e4 _ _ (ne_of a5 hd (by intro z; cases z)) a5⟩
          · rw [upd_ne dq, upd_same]
        · rw [List.take_add_one, hl2]
          exact tab.snoc ups so
    · rintro σ H' ⟨v2, v3, v4, v5, v6, T, rfl, sm, dT, tab⟩
      rw [paired_len pr, List.take_of_length_le (Nat.le_refl _)] at tab
      exact ⟨_, rfl, k _ d T sm dT tab⟩
end
end K1

namespace K1
open PySem PySem.Spec PyProof.Rows L2 Own
/-! ### a table of kinds -/
theorem ra : ¬ (("_rows" : Str) = "_above") := by decide +kernel
theorem ar : ¬ (("_above" : Str) = "_rows") := by decide +kernel
def kf (r d : Addr) : List (Str × V) := [(("_rows" : Str), V.ref r), (("_above" : Str), V.ref d)]
theorem kf_rows (r d : Addr) : (kf r d).lookup ("_rows" : Str) = some (.ref r) := by
  unfold kf
  rw [List.lookup_cons, beq_self_eq_true]
theorem kf_above (r d : Addr) : (kf r d).lookup ("_above" : Str) = some (.ref d) := by
  unfold kf
  rw [List.lookup_cons, beq_eq_false_iff_ne.mpr ar, List.lookup_cons, beq_self_eq_true]
theorem kf_no (r d : Addr) {m : Str} (h1 : ¬ m = "_rows") (h2 : ¬ m = "_above") : (kf r d).lookup m = none := by
  unfold kf
  rw [List.lookup_cons, beq_eq_false_iff_ne.mpr h1, List.lookup_cons, beq_eq_false_iff_ne.mpr h2]
  rfl
/-- the fields of an object ahead of _take: none, or those of a table -/
def FsOk (fs : List (Str × V)) : Prop := fs = [] ∨ ∃ r d, fs = kf r d
theorem put_rows {fs : List (Str × V)} (h : FsOk fs) (r : Addr) : (putF "_rows" (.ref r) fs).lookup ("_rows" : Str) = some (.ref r) ∧ (putF "_rows" (.ref r) fs).length < 1000 ∧ ∀ d, putF "_above" (.ref d) (putF "_rows" (.ref r) fs) = kf r d := by
  refine ⟨by rw [lookup_putF, if_pos rfl], ?_, fun d => ?_⟩
  · have q := length_putF ("_rows" : Str) (.ref r) fs
    rcases h with e | ⟨r0, d0, e⟩
    · rw [e] at q ⊢
      exact Nat.lt_of_le_of_lt q (by decide)
    · rw [e] at q ⊢
      exact Nat.lt_of_le_of_lt q (by show 3 < 1000; decide)
  · rcases h with e | ⟨r0, d0, e⟩
    · subst e
      show (if ("_rows" : Str) = "_above" then [(("_rows" : Str), V.ref d)] else (("_rows" : Str), V.ref r) :: putF "_above" (V.ref d) []) = _
      rw [if_neg ra]
      rfl
    · subst e
      have e1 : putF "_rows" (.ref r) (kf r0 d0) = kf r d0 := by
        show (if ("_rows" : Str) = "_rows" then (("_rows" : Str), V.ref r) :: [(("_above" : Str), V.ref d0)] else _) = _
        rw [if_pos rfl]
        rfl
      rw [e1]
      show (if ("_rows" : Str) = "_above" then _ else (("_rows" : Str), V.ref r) :: (if ("_above" : Str) = "_above" then [(("_above" : Str), V.ref d)] else _)) = _
      rw [if_neg ra, if_pos rfl]
      rfl
theorem fs_limit {fs : List (Str × V)} (h : FsOk fs) : fs.lookup ("LIMIT" : Str) = none ∧ fs.length < 1000 := by
  rcases h with e | ⟨r, d, e⟩
  · subst e
    exact ⟨rfl, by decide⟩
  · subst e
    exact ⟨kf_no _ _ (by decide +kernel) (by decide +kernel), by show 2 < 1000; decide⟩
def RowIn (N : Addr → Prop) (H : Hp) (v : V) (l : Ln) : Prop := ∃ t b, v = .ref t ∧ N t ∧ N b ∧ H t = some (.tup [.str l.1, .ref b]) ∧ H b = some (.lst (l.2.map V.str))
theorem RowIn.row {N : Addr → Prop} {H : Hp} {v : V} {l : Ln} (h : RowIn N H v l) : RowAt H v l := by
  obtain ⟨t, b, e, _, _, h1, h2⟩ := h
  exact ⟨t, b, e, h1, .inl h2⟩
/-- the same rows with their bases in order -/
def SrtRel (l l' : Ln) : Prop := l.1 = l'.1 ∧ l'.2.Perm l.2 ∧ sortedS l'.2 = true
def SrtOf (ls ls' : List Ln) : Prop := Paired SrtRel ls ls'
theorem SrtOf.alike {ls ls' : List Ln} (h : SrtOf ls ls') : Alike ls ls' := paired_imp (fun _ _ a => ⟨a.1, fun b => (a.2.1.mem_iff (a := b)).symm⟩) h
theorem SrtOf.ok {ls ls' : List Ln} (h : SrtOf ls ls') (ok : LnsOk ls) : LnsOk ls' := by
  have en := h.alike.nms
  refine ⟨fun l' hl' => ?_, by rw [← en]; exact ok.nd, by rw [← paired_len h]; exact ok.few, fun i l' hl' => ?_⟩
  · obtain ⟨i, hi⟩ := List.mem_iff_getElem?.mp hl'
    obtain ⟨l, hl, a⟩ := paired_at' h hi
    rw [← a.1]
    exact ok.names l (List.mem_of_getElem? hl)
  · obtain ⟨l, hl, a1, a2, a3⟩ := paired_at' h hl'
    obtain ⟨b1, b2, b3⟩ := ok.base i l hl
    refine ⟨a2.nodup_iff.mpr b1, fun b hb => ?_, by rw [a2.length_eq]; exact b3⟩
    have q := b2 b (a2.mem_iff.mp hb)
    rw [show nms (ls'.take i) = (nms ls').take i from List.map_take .., ← en, ← List.map_take]
    exact q
theorem SrtOf.one {ls l1 l2 : List Ln} (h1 : SrtOf ls l1) (h2 : SrtOf ls l2) : l1 = l2 := by
  refine List.ext_getElem? fun i => ?_
  cases e : l1[i]? with
  | none =>
    have q := List.getElem?_eq_none_iff.mp e
    rw [List.getElem?_eq_none_iff.mpr (by rw [← paired_len h2, paired_len h1]; exact q)]
  | some a =>
    obtain ⟨l, hl, a1, a2, a3⟩ := paired_at' h1 e
    obtain ⟨b, hb, b1, b2, b3⟩ := paired_at h2 hl
    have e2 : a.2 = b.2 := sorted_one (a2.trans b2.symm) a3 b3
    have e3 : a = b := by
      cases a
      cases b
      simp only at e2 a1 b1
      rw [e2, ← a1, ← b1]
    rw [hb, e3]
def KObj (N : Addr → Prop) (C : Addr) (H : Hp) (x dx : Addr) (ls : List Ln) : Prop :=
  ∃ r d ls' T rs, H x = some (.ins C dx (kf r d)) ∧ N r ∧ H r = some (.lst rs) ∧ Paired (RowIn N H) rs ls' ∧ SrtOf ls ls' ∧ DictAt N H d T ∧ Tab Srt ls' T
theorem KObj.keep {N : Addr → Prop} {C : Addr} {H H' : Hp} {x dx : Addr} {ls : List Ln} (h : KObj N C H x dx ls) (k : ∀ a o, N a ∨ a = x → H a = some o → H' a = some o) : KObj N C H' x dx ls := by
  obtain ⟨r, d, ls', T, rs, hx, nr, hr, pr, so, ⟨nd, kvs, hd, pk⟩, tab⟩ := h
  refine ⟨r, d, ls', T, rs, k _ _ (.inr rfl) hx, nr, k _ _ (.inl nr) hr, paired_imp (fun _ _ ⟨t, b, e, nt, nb, h1, h2⟩ => ⟨t, b, e, nt, nb, k _ _ (.inl nt) h1, k _ _ (.inl nb) h2⟩) pr, so, ⟨nd, kvs, k _ _ (.inl nd) hd, ?_⟩, tab⟩
  exact paired_imp (fun _ _ ⟨a, q, nq, c, z⟩ => ⟨a, q, nq, c, k _ _ (.inl nq) z⟩) pk
theorem KObj.mono {N N' : Addr → Prop} {C : Addr} {H : Hp} {x dx : Addr} {ls : List Ln} (h : KObj N C H x dx ls) (k : ∀ a, N a → N' a) : KObj N' C H x dx ls := by
  obtain ⟨r, d, ls', T, rs, hx, nr, hr, pr, so, ⟨nd, kvs, hd, pk⟩, tab⟩ := h
  exact ⟨r, d, ls', T, rs, hx, k _ nr, hr, paired_imp (fun _ _ ⟨t, b, e, nt, nb, h1, h2⟩ => ⟨t, b, e, k _ nt, k _ nb, h1, h2⟩) pr, so, ⟨k _ nd, kvs, hd, paired_imp (fun _ _ ⟨a, q, nq, c, z⟩ => ⟨a, q, k _ nq, c, z⟩) pk⟩, tab⟩
/-- a table at x, its parts among N -/
def KAt (N : Addr → Prop) (C : Addr) (H : Hp) (x : Addr) (ls : List Ln) : Prop := N x ∧ ∃ dx, KObj N C H x dx ls
theorem KAt.same {N : Addr → Prop} {C : Addr} {H H' : Hp} {x : Addr} {ls : List Ln} (h : KAt N C H x ls) (k : ∀ a o, N a → H a = some o → H' a = some o) : KAt N C H' x ls := by
  obtain ⟨nx, dx, o⟩ := h
  exact ⟨nx, dx, o.keep fun a u e => k a u (e.elim id fun z => z ▸ nx)⟩
theorem q_seq {t u : TS} {D : Ends} {σ : L2.St} {H : Hp} (h : t { D with nx := u D } σ H) : tSeq t u D σ H := h
theorem q_fld {K : PySem.W.Frag} {ta tv : TE} {f : Str} {D : Ends} {σ : L2.St} {H : Hp} (h : tv σ H fun y H1 => ta σ H1 fun x H2 => ∃ a C dx fs, x = .ref a ∧ H2 a = some (.ins C dx fs) ∧ Cls K C ∧ NoAttr K C f ∧ fs.length < 1000 ∧ D.nx σ (upd H2 a (.ins C dx (putF f y fs)))) : sFld K ta tv f D σ H := h
structure KTxt (K : PySem.W.Frag) (mg : Str → Option Value) (C : Addr) : Prop where
  cl : Cls K C
  nR : NoAttr K C "_rows"
  nA : NoAttr K C "_above"
  lim : ∃ u, Con K C "LIMIT" (.int 7) u
  mgC : mg "Kinds" = some (.ref C)
  len : mg "len" = none
  sorted : mg "sorted" = none
  list : mg "list" = none
def spTake (C : Addr) : Sp := fun vs H Q _ => ∃ x a dx fs ls, vs = [.ref x, .ref a] ∧ H x = some (.ins C dx fs) ∧ FsOk fs ∧ RowsAt H a ls ∧ LnsOk ls ∧ ∀ H', (∀ b o, b ≠ x → H b = some o → H' b = some o) → KObj (fun p => H p = none) C H' x dx ls → Q .non H'
section
variable {P : Program} {w : World} {K : PySem.W.Frag} {mg : Str → Option Value} {base : Heap}
theorem scTake : FnScope ["self", "rows", "name", "bases"] ["self", "rows"] (defScope sTake) := ⟨rfl, rfl, rfl, by decide +kernel, rfl, by decide +kernel, by decide +kernel⟩
theorem ok_take {C f fN fB fA : Addr} {fd dN dB dA : FuncData} (F : Fun K "_take" "Kinds._take" sTake f fd) (T : KTxt K mg C)
    (GN : FnOk P w K mg base CX0 2 fN dN ["rows"] spCkNames) (kN : PySem.W.keepIn K (.ref fN) = true) (bN : Binds K dN ["rows"] []) (mN : mg "_check_names" = some (.ref fN))
    (GB : FnOk P w K mg base CX0 2 fB dB ["rows"] spCkNames) (kB : PySem.W.keepIn K (.ref fB) = true) (bB : Binds K dB ["rows"] []) (mB : mg "_check_bases" = some (.ref fB))
    (GA : FnOk P w K mg base CX0 1 fA dA ["rows"] spAllAbove) (kA : PySem.W.keepIn K (.ref fA) = true) (bA : Binds K dA ["rows"] []) (mA : mg "_all_above" = some (.ref fA)) : FnOk P w K mg base CX0 3 f fd ["self", "rows"] (spTake C) := by
  refine F.ok scTake (fun vs H Q E h => ?_) (fun cdv A outer s H vs Q E hr h => ?_)
  · obtain ⟨x, a, dx, fs, ls, rfl, _⟩ := h
    rfl
  · obtain ⟨x, a, dx, fs, ls, rfl, hx, fo, ⟨rs, hs, pr⟩, ok, k⟩ := h
    have hr1 : Room 1 _ := hr.mono (by decide)
    obtain ⟨uL, cL⟩ := T.lim
    refine ⟨_, pss_cons (ps_if (pt_cmpR op_gt (pe_callB call_len_seq (by rfl) T.len PySem.boot_len (pa_cons (pv 1) pa_nil)) (pe_con (pv 0) rfl) (nomark _)) (pss_one ps_never) pss_nil)
      (pss_cons (ps_expr (pe_call GN hr (by rfl) mN kN bN .nil pass0 (pa_cons (pv 1) pa_nil)))
      (pss_cons (ps_expr (pe_call GB hr (by rfl) mB kB bB .nil pass0 (pa_cons (pv 1) pa_nil)))
      (pss_cons (ps_fld (pv 0) (pe_lc (own := [("name", 2), ("bases", 3)]) (g := gTup K 2 (gCons (gName 2) (gCons (gName 3) gNil))) (tt := tYes) rfl scTake.nd (pi_seq 1) (blkOk_by (N := ["self", "rows", "name", "bases"]) (sc := defScope sTake) (by decide +kernel))
          (fun _ _ _ _ _ => pg_tup rfl (pgs_cons (pg_name (i := 2) scTake.nd rfl (Or.inl rfl)) (pgs_cons (pg_name (i := 3) scTake.nd rfl (Or.inl rfl)) pgs_nil))) (fun _ _ _ _ _ => pts_nil)
          (fun _ _ _ _ _ => pe_tup (pa_cons (pv 2) (pa_cons (pe_callB cr_sortedQ (by rfl) T.sorted (by decide +kernel) (pa_cons (pv 3) pa_nil)) pa_nil)))) rfl)
      (pss_one (ps_fld (pv 0) (pe_call GA hr1 (by rfl) mA kA bA .nil pass0 (pa_cons (pe_fld (pv 0) rfl) pa_nil)) rfl))))), ?_⟩
    have few := ok.few
    have hl := paired_len pr
    refine ⟨_, rfl, a, rs, rfl, hs.lt, _, rfl, x, C, dx, fs, .int 7, uL, rfl, hx, T.cl, cL, (fs_limit fo).1, _, _, rfl, rfl, _, rfl, iteFD (by omega) ?_⟩
    refine ⟨_, rfl, a, ls, rfl, ⟨rs, hs, pr⟩, ok, fun H1 s1 => ?_⟩
    refine ⟨_, rfl, a, ls, rfl, RowsAt.same s1 ⟨rs, hs, pr⟩, ok, fun H2 s2 => ?_⟩
    have s12 := s1.trans s2
    have pr2 : Paired (RowAt H2) rs ls := paired_imp (fun _ _ => RowAt.same s12) pr
    dsimp only
    refine q_seq (q_fld ?_)
    refine lc_seq (a := a) (xs := rs) (by rfl) (hs.same s12) (fun D i H' => Same H2 H' ∧ ∃ vs' ls', H' D = some (.lst vs') ∧ Paired (RowIn (fun p => H p = none ∧ p ≠ D) H') vs' ls' ∧ SrtOf (ls.take i) ls') (fun D nD => ⟨same_upd nD, [], [], upd_same, .nil, .nil⟩) (fun D i H' nD hi p => p.1 _) ?_ ?_
    · rintro D i v H' nD hv ⟨sm, vs', ls', hD, pk, so⟩
      obtain ⟨l, hl2, t, b, rfl, ht, hb⟩ := paired_at pr2 hv
      have hi : i < ls.length := (List.getElem?_eq_some_iff.mp hl2).1
      obtain ⟨b1, b2, b3⟩ := ok.base i l hl2
      refine ⟨t, _, rfl, SqT.of (sm _ _ ht), rfl, _, _, rfl, _, _, rfl, rfl, rfl, ?_⟩
      refine ⟨_, rfl, _, rfl, b, l.2, rfl, hb.same sm, (by omega), fun ys q pe sy nq => ?_⟩
      refine ⟨(by show 2 ≤ sizeLine; decide), fun p np => ?_⟩
      have e1 : Same H' (upd H' q (.lst (ys.map V.str))) := same_upd nq
      have e2 : Same (upd H' q (.lst (ys.map V.str))) (upd (upd H' q (.lst (ys.map V.str))) p (.tup [.str l.1, .ref q])) := same_upd np
      have hD2 := e2 _ _ (e1 _ _ hD)
      have lv : vs'.length ≤ 7 := by
        rw [paired_len pk, ← paired_len so, List.length_take]
        omega
      have nqH : H q = none := (s12.trans sm).free nq
      have npH : H p = none := (s12.trans sm).free (e1.free np)
      have nDq : D ≠ q := ne_of_none hD nq
      have nDp : D ≠ p := ne_of_none (e1 _ _ hD) np
      have e3 : ∀ a u, a ≠ D → H' a = some u → (upd (upd (upd H' q (.lst (ys.map V.str))) p (.tup [.str l.1, .ref q])) D (.lst (vs' ++ [V.ref p]))) a = some u := fun a u ne e => by
        rw [upd_ne ne]
        exact e2 _ _ (e1 _ _ e)
      refine ⟨_, hD2, small1000 (by omega), fun a u e => e3 a u (ne_of_none e nD) (sm _ _ e), vs' ++ [V.ref p], ls' ++ [(l.1, ys)], upd_same, ?_, ?_⟩
      · refine Paired.snoc (paired_imp (fun v l ⟨t', b', e, nt, nb, g1, g2⟩ => ⟨t', b', e, nt, nb, e3 _ _ nt.2 g1, e3 _ _ nb.2 g2⟩) pk) ⟨p, q, rfl, ⟨npH, nDp.symm⟩, ⟨nqH, nDq.symm⟩, ?_, ?_⟩
        · rw [upd_ne nDp.symm, upd_same]
        · rw [upd_ne nDq.symm]
          exact e2 _ _ upd_same
      · rw [List.take_add_one, hl2]
        exact Paired.snoc so ⟨rfl, pe, sy⟩
    · rintro D H' nD ⟨sm, vs', ls', hD, pk, so⟩
      rw [hl, List.take_of_length_le (Nat.le_refl _)] at so
      have nDH : H D = none := s12.free nD
      have hx2 : H' x = some (.ins C dx fs) := sm _ _ (s12 _ _ hx)
      obtain ⟨p1, p2, p3⟩ := put_rows fo D
      refine ⟨_, rfl, x, C, dx, fs, rfl, hx2, T.cl, T.nR, (fs_limit fo).2, ?_⟩
      have e1 : ∀ a u, a ≠ x → H' a = some u → (upd H' x (.ins C dx (putF "_rows" (.ref D) fs))) a = some u := fun a u ne e => by
        rw [upd_ne ne]
        exact e
      have nxa : ∀ {a : Addr} {u : HO}, H' a = some u → u ≠ .ins C dx fs → a ≠ x := fun e d => ne_of e hx2 d
      have pk1 : Paired (RowIn (fun p => H p = none) (upd H' x (.ins C dx (putF "_rows" (.ref D) fs)))) vs' ls' :=
        paired_imp (fun v l ⟨t', b', e, nt, nb, g1, g2⟩ => ⟨t', b', e, nt.1, nb.1, e1 _ _ (nxa g1 (by intro z; cases z)) g1, e1 _ _ (nxa g2 (by intro z; cases z)) g2⟩) pk
      have hD1 := e1 _ _ (nxa hD (by intro z; cases z)) hD
      refine ⟨_, rfl, x, C, dx, _, _, rfl, upd_same, T.cl, T.nR, p1, D, ls', rfl, ⟨vs', .inl hD1, paired_imp (fun _ _ => RowIn.row) pk1⟩, so.ok ok, fun H3 d TT s3 dT tab => ?_⟩
      have hx3 := s3 _ _ (upd_same (H := H') (a := x) (o := .ins C dx (putF "_rows" (.ref D) fs)))
      refine ⟨_, rfl, x, C, dx, _, rfl, hx3, T.cl, T.nA, p2, ?_⟩
      rw [p3 d]
      have e2 : ∀ a u, a ≠ x → H3 a = some u → (upd H3 x (.ins C dx (kf D d))) a = some u := fun a u ne e => by
        rw [upd_ne ne]
        exact e
      have nxb : ∀ {a : Addr} {u : HO}, H3 a = some u → u ≠ .ins C dx (putF "_rows" (.ref D) fs) → a ≠ x := fun e d => ne_of e hx3 d
      have back : ∀ a, (upd H' x (.ins C dx (putF "_rows" (.ref D) fs))) a = none → H a = none := fun a e => by
        by_cases c : a = x
        · rw [c, upd_same] at e
          cases e
        · rw [upd_ne c] at e
          exact (s12.trans sm).free e
      refine k _ (fun a u ne e => e2 a u ne (s3 _ _ (e1 a u ne (sm _ _ (s12 _ _ e))))) ⟨D, d, ls', TT, vs', upd_same, nDH, e2 _ _ (nxb (s3 _ _ hD1) (by intro z; cases z)) (s3 _ _ hD1), ?_, so, ?_, tab⟩
      · exact paired_imp (fun v l ⟨t', b', e, nt, nb, g1, g2⟩ => ⟨t', b', e, nt, nb, e2 _ _ (nxb (s3 _ _ g1) (by intro z; cases z)) (s3 _ _ g1), e2 _ _ (nxb (s3 _ _ g2) (by intro z; cases z)) (s3 _ _ g2)⟩) pk1
      · obtain ⟨n1, kvs, n2, n3⟩ := dT
        exact ⟨back _ n1, kvs, e2 _ _ (nxb n2 (by intro z; cases z)) n2, paired_imp (fun kv t ⟨a1, a2, a3, a4, a5⟩ => ⟨a1, a2, back _ a3, a4, e2 _ _ (nxb a5 (by intro z; cases z)) a5⟩) n3⟩
end
end K1

namespace K1
open PySem PySem.Spec PyProof.Rows L2 Own
/-! ### making tables -/
def k4 : List Str := ["io", "net", "disk", "both"]
def k6 : List Str := ["rows", "kinds", "name", "names", "of", "tree"]
def BasAt (H : Hp) (v : V) (l : Ln) : Prop := ∃ b, v = .ref b ∧ SeqOf H b (l.2.map V.str)
def spInit (C : Addr) : SpK := fun x ks vs H Q => ∃ dx ls, H x = some (.ins C dx []) ∧ nms ls = ks ∧ Paired (BasAt H) vs ls ∧ LnsOk ls ∧ (ks = [] ∨ ks = k4 ∨ ks = k6) ∧ ∀ H', (∀ b o, b ≠ x → H b = some o → H' b = some o) → KObj (fun p => H p = none) C H' x dx ls → Q .non H'
theorem rows_of {H' : Hp} : ∀ {ts : List Addr} {vs : List V} {ls : List Ln}, Paired (fun (t : Addr) (q : Key × V) => H' t = some (.tup [kV q.1, q.2])) ts (keyed ((nms ls).zip vs)) → Paired (BasAt H') vs ls → Paired (RowAt H') (ts.map V.ref) ls
  | [], _, [], _, _ => .nil
  | [], _, _ :: _, p, .cons _ _ => nomatch p
  | _ :: _, _, [], p, .nil => nomatch p
  | t :: ts, v :: vs, l :: ls, .cons a r, .cons ⟨b, e, hb⟩ s => .cons ⟨t, b, rfl, by rw [← e]; exact a, hb⟩ (rows_of r s)
def spOf (C : Addr) : Sp := fun vs H Q _ => ∃ a ls, vs = [.ref C, .ref a] ∧ RowsAt H a ls ∧ LnsOk ls ∧ ∀ H' x, Same H H' → KAt (fun p => H p = none) C H' x ls → Q (.ref x) H'
theorem lnsOk_nil : LnsOk [] := ⟨fun _ h => (nomatch h), List.nodup_nil, Nat.zero_le _, fun i l h => by simp at h⟩
section
variable {P : Program} {w : World} {K : PySem.W.Frag} {mg : Str → Option Value} {base : Heap}
theorem scInit : FnScope ["self", "bases"] ["self", "bases"] (defScope sInit) := ⟨rfl, rfl, rfl, by decide +kernel, rfl, by decide +kernel, by decide +kernel⟩
theorem ok_init {C f fT : Addr} {fd dT : FuncData} (F : Fun K "__init__" "Kinds.__init__" sInit f fd) (T : KTxt K mg C) (GT : FnOk P w K mg base CX0 3 fT dT ["self", "rows"] (spTake C)) (mT : Meth K C "_take" fT) (bT : Binds K dT ["self", "rows"] []) : FnKw P w K mg base 4 f (spInit C) := by
  obtain ⟨oc, od, kV, doc, pm, an, cdv, ct, osl, rfl, lk, hcd⟩ := F.ex
  refine fn_kw lk hcd scInit (fun x ks vs H Q h => ?_) (fun x ks vs H Q ws h hl => ?_) (fun A outer s H x d ks vs Q E hr h hd => ?_)
  · obtain ⟨dx, ls, _, e, _, ok, _⟩ := h
    subst e
    have := ok.few
    exact ⟨ok.nd, by rw [List.length_map]; omega⟩
  · obtain ⟨dx, ls, _, e, _, ok, he, _⟩ := h
    rcases he with he | he | he
    · subst he
      match ws, hl with
      | [], _ => rfl
    · subst he
      match ws, hl with
      | [a, b, c, d], _ => rfl
    · subst he
      match ws, hl with
      | [a, b, c, d, e, f], _ => rfl
  · obtain ⟨dx, ls, hx, e, pb, ok, he, k⟩ := h
    subst e
    refine ⟨_, pss_one (ps_expr (pe_meth (pv 0) T.cl mT GT hr bT .nil pass0 (pa_cons (LiI.pe_listItems rfl (pv 1) (by rfl) T.list (by decide +kernel)) pa_nil))), ?_⟩
    have s1 : Same H (upd H d (.dK (keyed ((nms ls).zip vs)))) := same_upd hd
    refine ⟨_, rfl, x, dx, [], rfl, s1 _ _ hx, rfl, _, rfl, d, _, rfl, upd_same, fun H' p ts s2 np nts pn hp pt => ?_⟩
    have pb2 : Paired (BasAt H') vs ls := paired_imp (fun _ _ ⟨b, e, hb⟩ => ⟨b, e, (hb.same s1).same s2⟩) pb
    refine ⟨x, p, dx, [], ls, rfl, s2 _ _ (s1 _ _ hx), .inl rfl, ⟨_, .inl hp, rows_of pt pb2⟩, ok, fun H3 s3 ko => ?_⟩
    exact k _ (fun b o ne e => s3 b o ne (s2 _ _ (s1 _ _ e))) (ko.mono fun a e => s1.free (Same.free s2 e))
theorem scOf : FnScope ["cls", "rows", "made"] ["cls", "rows"] (defScope sOf) := ⟨rfl, rfl, rfl, by decide +kernel, rfl, by decide +kernel, by decide +kernel⟩
theorem ok_of {C f fT fI fR : Addr} {fd dT dR : FuncData} (F : Fun K "of" "Kinds.of" sOf f fd) (T : KTxt K mg C) (M : Mk K C fI) (GI : FnKw P w K mg base 4 fI (spInit C)) (GT : FnOk P w K mg base CX0 3 fT dT ["self", "rows"] (spTake C)) (mT : Meth K C "_take" fT) (bT : Binds K dT ["self", "rows"] [])
    (GR : FnOk P w K mg base CX0 2 fR dR ["thing"] spAreRows) (kR : PySem.W.keepIn K (.ref fR) = true) (bR : Binds K dR ["thing"] []) (mR : mg "_are_rows" = some (.ref fR)) : FnOk P w K mg base CX0 6 f fd ["cls", "rows"] (spOf C) := by
  refine F.ok scOf (fun vs H Q E h => ?_) (fun cdv A outer s H vs Q E hr h => ?_)
  · obtain ⟨a, ls, rfl, _⟩ := h
    rfl
  · obtain ⟨a, ls, rfl, ra, ok, k⟩ := h
    refine ⟨_, pss_cons (ps_if (pt_not (pt_val (pe_call GR (hr.mono (by decide)) (by rfl) mR kR bR .nil pass0 (pa_cons (pv 1) pa_nil)))) (pss_one ps_never) pss_nil)
      (pss_cons (ps_set (i := 2) scOf.nd rfl (Or.inl rfl) (pe_makeL (i := 0) M GI hr rfl (Or.inl rfl)))
      (pss_cons (ps_expr (pe_meth (pv 2) T.cl mT GT (hr.mono (by decide)) bT .nil pass0 (pa_cons (pv 1) pa_nil)))
      (pss_one (ps_ret (pv 2))))), ?_⟩
    have few := ok.few
    refine ⟨_, rfl, a, ls, rfl, ra, (by omega), fun H1 s1 => ⟨true, rfl, iteF ?_⟩⟩
    refine ⟨rfl, fun x dx nx ndx ne => ?_⟩
    have s2 : Same H1 (upd (upd H1 dx (.own x)) x (.ins C dx [])) := fun b o e => by
      rw [upd_ne (ne_of_none e nx), upd_ne (ne_of_none e ndx)]
      exact e
    refine ⟨dx, [], upd_same, rfl, .nil, lnsOk_nil, .inl rfl, fun H3 s3 ko => ⟨rfl, ?_⟩⟩
    obtain ⟨r, d, ls', TT, rs, hx3, _⟩ := ko
    have s13 : Same H1 H3 := fun b o e => s3 b o (ne_of_none e nx) (s2 _ _ e)
    refine ⟨_, rfl, x, dx, _, rfl, hx3, kf_no _ _ (by decide +kernel) (by decide +kernel), _, rfl, x, a, dx, _, ls, rfl, hx3, .inr ⟨_, _, rfl⟩, (ra.same s1).same s13, ok, fun H4 s4 ko => ?_⟩
    have s14 : Same H1 H4 := fun b o e => s4 b o (ne_of_none e nx) (s13 _ _ e)
    refine ⟨_, rfl, k _ x (s1.trans s14) ⟨s1.free nx, dx, ko.mono fun p e => s1.free (s13.free e)⟩⟩
end
end K1

namespace K1
open PySem PySem.Spec PyProof.Rows L2 Own
/-! ### reading tables -/
def reprOf (ns : List Str) : Str := (("Kinds(" : Str) ++ Txt.join ", " ns) ++ (")" : Str)
/-- what stands in a table's object -/
structure KIn (C : Addr) (H : Hp) (x : Addr) (ls ls' : List Ln) (T : Tb) : Prop where
  ex : ∃ dx r d rs kvs, H x = some (.ins C dx (kf r d)) ∧ H r = some (.lst rs) ∧ Paired (RowIn (fun _ => True) H) rs ls' ∧ H d = some (.dK kvs) ∧ Paired (EntAt (fun _ => True) H) kvs T
  srt : SrtOf ls ls'
  tab : Tab Srt ls' T
theorem KAt.kin {N : Addr → Prop} {C : Addr} {H : Hp} {x : Addr} {ls : List Ln} (h : KAt N C H x ls) : ∃ ls' T, KIn C H x ls ls' T := by
  obtain ⟨_, dx, r, d, ls', T, rs, hx, _, hr, pr, so, ⟨_, kvs, hd, pk⟩, tab⟩ := h
  exact ⟨ls', T, ⟨dx, r, d, rs, kvs, hx, hr, paired_imp (fun _ _ ⟨t, b, e, _, _, h1, h2⟩ => ⟨t, b, e, trivial, trivial, h1, h2⟩) pr, hd, paired_imp (fun _ _ ⟨a, q, _, c, z⟩ => ⟨a, q, trivial, c, z⟩) pk⟩, so, tab⟩
theorem KIn.same {C : Addr} {H H' : Hp} {x : Addr} {ls ls' : List Ln} {T : Tb} (h : KIn C H x ls ls' T) (s : Same H H') : KIn C H' x ls ls' T := by
  obtain ⟨⟨dx, r, d, rs, kvs, hx, hr, pr, hd, pk⟩, so, tab⟩ := h
  exact ⟨⟨dx, r, d, rs, kvs, s _ _ hx, s _ _ hr, paired_imp (fun _ _ ⟨t, b, e, _, _, h1, h2⟩ => ⟨t, b, e, trivial, trivial, s _ _ h1, s _ _ h2⟩) pr, s _ _ hd, paired_imp (fun _ _ ⟨a, q, _, c, z⟩ => ⟨a, q, trivial, c, s _ _ z⟩) pk⟩, so, tab⟩
theorem srt_len {ls ls' : List Ln} (h : SrtOf ls ls') : ls.length = ls'.length := paired_len h
def spOrder (C : Addr) : Sp := fun vs H Q _ => ∃ x ls ls' T, vs = [.ref x] ∧ KIn C H x ls ls' T ∧ ls.length ≤ 1000 ∧ ∀ H' p, Same H H' → H p = none → H' p = some (.lst ((nms ls).map V.str)) → Q (.ref p) H'
def spLen (C : Addr) : Sp := fun vs H Q _ => ∃ x ls ls' T, vs = [.ref x] ∧ KIn C H x ls ls' T ∧ Q (.int ls.length) H
def spIn (C : Addr) (K : PySem.W.Frag) : Sp := fun vs H Q _ => ∃ x v ls ls' T, vs = [.ref x, v] ∧ KIn C H x ls ls' T ∧ ((∃ z, v = .str z ∧ Q (.bl (decide (z ∈ nms ls))) H) ∨ (∃ t, TyX K H v t ∧ PySem.W.kitOne K t (.type "str") = some false ∧ Q (.bl false) H))
theorem ent_has {N : Addr → Prop} {H : Hp} {n : Str} {kvs : List (Key × V)} {T : Tb} (p : Paired (EntAt N H) kvs T) : (valV kvs (Sum.inr n)).isSome = decide (n ∈ T.map (·.1)) := by
  by_cases h : n ∈ T.map (·.1)
  · obtain ⟨q, _, e, _⟩ := ent_get p (look_in h)
    rw [e, decide_eq_true h]
    rfl
  · rw [ent_none p h, decide_eq_false h]
    rfl
theorem KIn.names {C : Addr} {H : Hp} {x : Addr} {ls ls' : List Ln} {T : Tb} (h : KIn C H x ls ls' T) : T.map (·.1) = nms ls := by
  rw [h.tab.nms, ← h.srt.alike.nms]
section
variable {P : Program} {w : World} {K : PySem.W.Frag} {mg : Str → Option Value} {base : Heap}
theorem scOrder : FnScope ["self", "name", "_"] ["self"] (defScope sOrder) := ⟨rfl, rfl, rfl, by decide +kernel, rfl, by decide +kernel, by decide +kernel⟩
theorem ok_order {C f : Addr} {fd : FuncData} (F : Fun K "order" "Kinds.order" sOrder f fd) (T : KTxt K mg C) : FnOk P w K mg base CX0 1 f fd ["self"] (spOrder C) := by
  refine F.ok scOrder (fun vs H Q E h => ?_) (fun cdv A outer s H vs Q E hr h => ?_)
  · obtain ⟨x, ls, ls', TT, rfl, _⟩ := h
    rfl
  · obtain ⟨x, ls, ls', TT, rfl, ⟨⟨dx, r, d, rs, kvs, hx, hR, pr, hd, pk⟩, so, tab⟩, hl, k⟩ := h
    refine ⟨_, pss_one (ps_ret (pe_lc (own := [("name", 1), ("_", 2)]) (g := gTup K 2 (gCons (gName 1) (gCons (gName 2) gNil))) (tt := tYes) rfl scOrder.nd (pi_list (pe_fld (pv 0) rfl)) (blkOk_by (N := ["self", "name", "_"]) (sc := defScope sOrder) (by decide +kernel))
      (fun _ _ _ _ _ => pg_tup rfl (pgs_cons (pg_name (i := 1) scOrder.nd rfl (Or.inl rfl)) (pgs_cons (pg_name (i := 2) scOrder.nd rfl (Or.inl rfl)) pgs_nil))) (fun _ _ _ _ _ => pts_nil) (fun _ _ _ _ _ => pv 1))), ?_⟩
    have len := paired_len pr
    have len2 := srt_len so
    refine ⟨_, rfl, x, C, dx, _, _, rfl, hx, T.cl, T.nR, kf_rows _ _, r, rfl, ⟨_, SqL.of hR⟩, fun D nD => lc_list (K := K) (a := r) (xs := rs) (fun i H' => Same H H' ∧ H' D = some (.lst ((nms (ls'.take i)).map V.str))) ⟨same_upd nD, upd_same⟩ (fun i H' hi p => SqL.of (p.1 _ _ hR)) ?_ ?_⟩
    · rintro i v H' hv ⟨sm, hD⟩
      obtain ⟨l, hl2, t, b, rfl, _, _, ht, hb⟩ := paired_at pr hv
      have hi : i < ls'.length := (List.getElem?_eq_some_iff.mp hl2).1
      refine ⟨t, _, rfl, SqT.of (sm _ _ ht), rfl, _, _, rfl, _, _, rfl, rfl, rfl, _, rfl, _, hD, ?_, ?_, ?_⟩
      · rw [List.length_map, List.length_map, List.length_take]
        exact small1000 (by omega)
      · exact same_past nD sm
      · show upd H' D _ D = _
        rw [upd_same, show nms (ls'.take (i + 1)) = nms (ls'.take i) ++ [l.1] from take_succ_map hl2, List.map_append]
        rfl
    · rintro H' ⟨sm, hD⟩
      rw [len, List.take_of_length_le (Nat.le_refl _), ← so.alike.nms] at hD
      exact k _ D sm nD hD
theorem scLen : FnScope ["self"] ["self"] (defScope sLen) := ⟨rfl, rfl, rfl, by decide +kernel, rfl, by decide +kernel, by decide +kernel⟩
theorem ok_len {C f : Addr} {fd : FuncData} (F : Fun K "__len__" "Kinds.__len__" sLen f fd) (T : KTxt K mg C) : FnOk P w K mg base CX0 1 f fd ["self"] (spLen C) := by
  refine F.ok scLen (fun vs H Q E h => ?_) (fun cdv A outer s H vs Q E hr h => ?_)
  · obtain ⟨x, ls, ls', TT, rfl, _⟩ := h
    rfl
  · obtain ⟨x, ls, ls', TT, rfl, ⟨⟨dx, r, d, rs, kvs, hx, hR, pr, hd, pk⟩, so, tab⟩, k⟩ := h
    refine ⟨_, pss_one (ps_ret (pe_callB call_len_seq (by rfl) T.len PySem.boot_len (pa_cons (pe_fld (pv 0) rfl) pa_nil))), ?_⟩
    refine ⟨_, rfl, x, C, dx, _, _, rfl, hx, T.cl, T.nR, kf_rows _ _, r, _, rfl, .inl (SqL.of hR), ?_⟩
    rw [paired_len pr, ← srt_len so]
    exact k
theorem scIn : FnScope ["self", "x"] ["self", "x"] (defScope sIn) := ⟨rfl, rfl, rfl, by decide +kernel, rfl, by decide +kernel, by decide +kernel⟩
theorem ok_in {C f : Addr} {fd : FuncData} (F : Fun K "__contains__" "Kinds.__contains__" sIn f fd) (T : KTxt K mg C) (mi : mg "isinstance" = none) (ms : mg "str" = none) : FnOk P w K mg base CX0 1 f fd ["self", "x"] (spIn C K) := by
  refine F.ok scIn (fun vs H Q E h => ?_) (fun cdv A outer s H vs Q E hr h => ?_)
  · obtain ⟨x, v, ls, ls', TT, rfl, _⟩ := h
    rfl
  · obtain ⟨x, v, ls, ls', TT, rfl, kin, k⟩ := h
    have en := kin.names
    obtain ⟨⟨dx, r, d, rs, kvs, hx, hR, pr, hd, pk⟩, so, tab⟩ := kin
    have hu := hu_of hr
    refine ⟨_, pss_one (ps_ret (pe_and (pe_callB call_isi (by rfl) mi (by decide +kernel) (pa_cons (pv 1) (pa_cons (pe_bltn (v := .ty "str") (u := .type "str") (by rfl) ms (by decide +kernel) rfl) pa_nil)))
      (pe_one (pe_cmp (pc_din hu (pv 1) (pe_fld (pv 0) rfl)) rfl)))), ?_⟩
    rcases k with ⟨z, rfl, k⟩ | ⟨t, ty, kt, k⟩
    · refine ⟨_, rfl, _, _, _, _, true, rfl, .ty "str", .base (.str z), kit_ty (by decide +kernel), true, rfl, iteT ?_⟩
      refine ⟨_, rfl, _, rfl, x, C, dx, _, _, rfl, hx, T.cl, T.nA, kf_above _ _, d, _, rfl, DGet.k (k := Sum.inr z) hd, ?_⟩
      rw [ent_has pk, en]
      exact k
    · exact ⟨_, rfl, _, _, _, _, false, rfl, .ty "str", ty, kt, false, rfl, iteF k⟩
end
end K1

namespace K1
open PySem PySem.Spec PyProof.Rows L2 Own
def spBelow (C : Addr) : Sp := fun vs H Q _ => ∃ x n ls ls' T, vs = [.ref x, .str n] ∧ KIn C H x ls ls' T ∧ LnsOk ls ∧ n ∈ nms ls ∧ ∀ H' p ys, Same H H' → ys.Perm ((nms ls).filter fun m => decide (n ∈ look T m)) → Srt ys → H p = none → H' p = some (.lst (ys.map V.str)) → Q (.ref p) H'
def spAbove (C : Addr) : Sp := fun vs H Q _ => ∃ x n ls ls' T, vs = [.ref x, .str n] ∧ KIn C H x ls ls' T ∧ n ∈ nms ls ∧ ∀ H' p, Same H H' → H p = none → H' p = some (.lst ((look T n).map V.str)) → Q (.ref p) H'
def spEq (C : Addr) : Sp := fun vs H Q _ => ∃ x y l1 l2 l' T T', vs = [.ref x, .ref y] ∧ KIn C H x l1 l' T ∧ KIn C H y l2 l' T' ∧ LnsOk l1 ∧ Q (.bl true) H
structure Ord (K : PySem.W.Frag) (mg : Str → Option Value) (C : Addr) (p g : Addr) : Prop where
  of : PropOf K C "order" p g
theorem filter_len (f : Str → Bool) (xs : List Str) : (xs.filter f).length ≤ xs.length := List.length_filter_le f xs
section
variable {P : Program} {w : World} {K : PySem.W.Frag} {mg : Str → Option Value} {base : Heap}
theorem scBelow : FnScope ["self", "name", "kind"] ["self", "name"] (defScope sBelow) := ⟨rfl, rfl, rfl, by decide +kernel, rfl, by decide +kernel, by decide +kernel⟩
theorem ok_below {C f fI p fO : Addr} {fd dI dO : FuncData} (F : Fun K "below" "Kinds.below" sBelow f fd) (T : KTxt K mg C) (cI : Spc K C "__contains__" fI) (GI : FnOk P w K mg base CX0 1 fI dI ["self", "x"] (spIn C K)) (bI : Binds K dI ["self", "x"] [])
    (po : PropOf K C "order" p fO) (GO : FnOk P w K mg base CX0 1 fO dO ["self"] (spOrder C)) (bO : Binds K dO ["self"] []) : FnOk P w K mg base CX0 3 f fd ["self", "name"] (spBelow C) := by
  refine F.ok scBelow (fun vs H Q E h => ?_) (fun cdv A outer s H vs Q E hr h => ?_)
  · obtain ⟨x, n, ls, ls', TT, rfl, _⟩ := h
    rfl
  · obtain ⟨x, n, ls, ls', TT, rfl, kin, ok, hn, k⟩ := h
    have hu := hu_of hr
    have en := kin.names
    have few := ok.few
    obtain ⟨dx, r, d, rs, kvs, hx, hR, pr, hd, pk⟩ := kin.ex
    refine ⟨_, pss_cons (ps_if (pt_cmpR (op_notInO cI GI (hr.mono (by decide)) bI) (pv 1) (pv 0) (by rfl)) (pss_one ps_never) pss_nil)
      (pss_one (ps_ret (pe_callB cr_sortedQ (by rfl) T.sorted (by decide +kernel) (pa_cons (pe_lc (own := [("kind", 2)]) (g := gName 2) (tt := tTest (tOp (rIn K false) (tVar 1) (tDGet (tFld K (tVar 0) "_above") (tVar 2)))) rfl scBelow.nd (pi_list (pe_prop (pv 0) T.cl po GO hr bO .nil pass0 rfl)) (blkOk_by (N := ["self", "name", "kind"]) (sc := defScope sBelow) (by decide +kernel))
        (fun _ _ _ _ _ => pg_name (i := 2) scBelow.nd rfl (Or.inl rfl)) (fun _ _ _ _ _ => pts_one (pt_cmpR op_in_seq (pv 1) (pe_dget hu (pe_fld (pv 0) rfl) (pv 2) (fun _ _ => rfl)) (by rfl))) (fun _ _ _ _ _ => pv 2)) pa_nil)))), ?_⟩
    refine ⟨_, rfl, _, rfl, x, dx, _, rfl, hx, x, _, ls, ls', TT, rfl, kin, .inl ⟨n, rfl, _, rfl, _, rfl, iteNS hn ?_⟩⟩
    refine ⟨_, rfl, x, dx, _, rfl, hx, x, ls, ls', TT, rfl, kin, (by omega), fun H1 o s1 no ho => ⟨o, rfl, ⟨_, SqL.of ho⟩, fun D nD => ?_⟩⟩
    refine lc_list (K := K) (a := o) (xs := (nms ls).map V.str) (fun i H' => Same H1 H' ∧ H' D = some (.lst ((((nms ls).take i).filter fun m => decide (n ∈ look TT m)).map V.str))) ⟨same_upd nD, upd_same⟩ (fun i H' hi p => SqL.of (p.1 _ _ ho)) ?_ ?_
    · rintro i v H' hv ⟨sm, hD⟩
      rw [List.getElem?_map] at hv
      obtain ⟨m, hm, rfl⟩ := Option.map_eq_some_iff.mp hv
      have sH : Same H H' := s1.trans sm
      have mT : m ∈ TT.map (·.1) := by
        rw [en]
        exact List.mem_of_getElem? hm
      obtain ⟨q, _, eq, hq⟩ := ent_get pk (look_in mT)
      have g : DGet H' d (.str m) (some (.ref q)) := by
        rw [← eq]
        exact DGet.k (k := Sum.inr m) (sH _ _ hd)
      refine ⟨rfl, _, rfl, _, rfl, x, C, dx, _, _, rfl, sH _ _ hx, T.cl, T.nA, kf_above _ _, _, rfl, d, _, rfl, g, q, _, rfl, .inl (SqL.of (sH _ _ hq)), rfl, flat_strs _, _, rfl, ?_⟩
      rw [show (if false = true then !inV (V.str n) ((look TT m).map V.str) else inV (V.str n) ((look TT m).map V.str)) = decide (n ∈ look TT m) from by
        rw [if_neg Bool.false_ne_true, inV_str]]
      have tk : (((nms ls).take (i + 1)).filter fun m => decide (n ∈ look TT m)) = (((nms ls).take i).filter fun m => decide (n ∈ look TT m)) ++ [m].filter fun m => decide (n ∈ look TT m) := by
        rw [List.take_add_one, hm, List.filter_append]
        rfl
      refine ite2 (fun c => ?_) (fun c => ?_)
      · refine ⟨_, rfl, _, hD, ?_, same_past nD sm, ?_⟩
        · have a := filter_len (fun m => decide (n ∈ look TT m)) ((nms ls).take i)
          rw [List.length_take, List.length_map] at a
          rw [List.length_map]
          exact small1000 (by omega)
        · show upd H' D _ D = _
          rw [upd_same, tk, List.filter_cons, if_pos c, List.map_append]
          rfl
      · refine ⟨sm, ?_⟩
        rw [tk, List.filter_cons, if_neg c, List.filter_nil, List.append_nil]
        exact hD
    · rintro H' ⟨sm, hD⟩
      rw [List.length_map, List.take_of_length_le (Nat.le_refl _)] at hD
      have a := filter_len (fun m => decide (n ∈ look TT m)) (nms ls)
      rw [List.length_map] at a
      refine ⟨D, _, rfl, .inl hD, (by omega), fun ys p pe so np => ?_⟩
      exact k _ p ys ((s1.trans sm).trans (same_upd np)) pe so ((s1.trans sm).free np) upd_same
theorem scAbove : FnScope ["self", "name"] ["self", "name"] (defScope sAbove) := ⟨rfl, rfl, rfl, by decide +kernel, rfl, by decide +kernel, by decide +kernel⟩
theorem ok_above {C f fI : Addr} {fd dI : FuncData} (F : Fun K "above" "Kinds.above" sAbove f fd) (T : KTxt K mg C) (cI : Spc K C "__contains__" fI) (GI : FnOk P w K mg base CX0 1 fI dI ["self", "x"] (spIn C K)) (bI : Binds K dI ["self", "x"] []) : FnOk P w K mg base CX0 3 f fd ["self", "name"] (spAbove C) := by
  refine F.ok scAbove (fun vs H Q E h => ?_) (fun cdv A outer s H vs Q E hr h => ?_)
  · obtain ⟨x, n, ls, ls', TT, rfl, _⟩ := h
    rfl
  · obtain ⟨x, n, ls, ls', TT, rfl, kin, hn, k⟩ := h
    have hu := hu_of hr
    have en := kin.names
    obtain ⟨dx, r, d, rs, kvs, hx, hR, pr, hd, pk⟩ := kin.ex
    refine ⟨_, pss_cons (ps_if (pt_cmpR (op_notInO cI GI (hr.mono (by decide)) bI) (pv 1) (pv 0) (by rfl)) (pss_one ps_never) pss_nil)
      (pss_one (ps_ret (pe_callTy call_list_of (by rfl) T.list (by decide +kernel) (pa_cons (pe_dget hu (pe_fld (pv 0) rfl) (pv 1) (fun _ _ => rfl)) pa_nil)))), ?_⟩
    refine ⟨_, rfl, _, rfl, x, dx, _, rfl, hx, x, _, ls, ls', TT, rfl, kin, .inl ⟨n, rfl, _, rfl, _, rfl, iteNS hn ?_⟩⟩
    have nT : n ∈ TT.map (·.1) := by rw [en]; exact hn
    obtain ⟨q, _, eq, hq⟩ := ent_get pk (look_in nT)
    have g : DGet H d (.str n) (some (.ref q)) := by
      rw [← eq]
      exact DGet.k (k := Sum.inr n) hd
    refine ⟨_, rfl, x, C, dx, _, _, rfl, hx, T.cl, T.nA, kf_above _ _, _, rfl, d, _, rfl, g, q, _, rfl, .inl (SqL.of hq), fun l nl => ?_⟩
    exact k _ l (same_upd nl) nl upd_same
end
end K1

namespace K1
open PySem PySem.Spec PyProof.Rows L2 Own
theorem join_le (sep : Str) : ∀ ys : List Str, (Str.join sep ys).length ≤ (ys.map (·.length)).sum + ys.length * sep.length
  | [] => Nat.zero_le _
  | [y] => by
    show y.length ≤ (y.length + 0) + 1 * sep.length
    omega
  | y :: z :: r => by
    have ih := join_le sep (z :: r)
    show (y ++ sep ++ Str.join sep (z :: r)).length ≤ _
    rw [Str.length_append, Str.length_append, List.map_cons, List.sum_cons, List.length_cons, Nat.succ_mul]
    omega
theorem txt_join (sep : Str) (ys : List Str) : Txt.join sep ys = Str.join sep ys := PySem.StrLaws.glued_eq_join sep ys
theorem names_sum : ∀ ns : List Str, (∀ n ∈ ns, n.length ≤ 8) → (ns.map (·.length)).sum ≤ 8 * ns.length
  | [], _ => Nat.le_refl _
  | n :: r, h => by
    have ih := names_sum r fun m hm => h m (List.mem_cons_of_mem _ hm)
    have h0 := h n (List.mem_cons_self ..)
    rw [List.map_cons, List.sum_cons, List.length_cons]
    omega
theorem LnsOk.short {ls : List Ln} (ok : LnsOk ls) : ∀ n ∈ nms ls, n.length ≤ 8 := fun n hn => by
  obtain ⟨l, hl, e⟩ := List.mem_map.mp hn
  rw [← e]
  exact (ok.names l hl).2.1
theorem join_fits {ls : List Ln} (ok : LnsOk ls) : ((nms ls).map (·.length)).sum + (nms ls).length * (", " : Str).length ≤ 1000 ∧ (Txt.join ", " (nms ls)).length ≤ 1000 := by
  have a := names_sum (nms ls) ok.short
  have b := join_le ", " (nms ls)
  have c := ok.few
  have d : (nms ls).length = ls.length := List.length_map _
  have e : (", " : Str).length = 2 := by decide +kernel
  rw [txt_join]
  rw [e] at b ⊢
  omega
def spRepr (C : Addr) : Sp := fun vs H Q _ => ∃ x ls ls' T, vs = [.ref x] ∧ KIn C H x ls ls' T ∧ LnsOk ls ∧ ∀ H', Same H H' → Q (.str (reprOf (nms ls))) H'
/-- rows as data -/
def rowD (l : Ln) : PyData := .tuple [.str l.1, .list (l.2.map .str)]
def rowsD (ls : List Ln) : PyData := .list (ls.map rowD)
def strsD (ss : List Str) : PyData := .list (ss.map .str)
def Low (z : Str) : Prop := PyData.strOk z = true
theorem strs_lay : ∀ ss : List Str, (∀ s ∈ ss, Low s) → PyData.canLayAll0 (ss.map .str) = true ∧ PyData.depthAll (ss.map .str) = 0
  | [], _ => ⟨rfl, rfl⟩
  | s :: r, h => by
    obtain ⟨a, b⟩ := strs_lay r fun x hx => h x (List.mem_cons_of_mem _ hx)
    have h0 : PyData.strOk s = true := h s (List.mem_cons_self ..)
    constructor
    · show (PyData.canLay0 (.str s) && PyData.canLayAll0 (r.map .str)) = true
      rw [a]
      show (PyData.strOk s && true) = true
      rw [h0]
      rfl
    · show max (PyData.depth (.str s)) (PyData.depthAll (r.map .str)) = 0
      rw [b]
      rfl
theorem strs_shaped {ss : List Str} (h : ∀ s ∈ ss, Low s) : SeqAt.shaped (strsD ss) = true := by
  obtain ⟨a, b⟩ := strs_lay ss h
  show (PyData.canLayAll0 (ss.map .str) && decide (PyData.depthAll (ss.map .str) + 1 ≤ 64)) = true
  rw [a, b]
  rfl
theorem rows_lay : ∀ ls : List Ln, (∀ l ∈ ls, Low l.1 ∧ ∀ s ∈ l.2, Low s) → PyData.canLayAll0 (ls.map rowD) = true ∧ PyData.depthAll (ls.map rowD) ≤ 2
  | [], _ => ⟨rfl, Nat.zero_le _⟩
  | l :: r, h => by
    obtain ⟨a, b⟩ := rows_lay r fun x hx => h x (List.mem_cons_of_mem _ hx)
    obtain ⟨h1, h2⟩ := h l (List.mem_cons_self ..)
    obtain ⟨c, d⟩ := strs_lay l.2 h2
    constructor
    · show (PyData.canLay0 (rowD l) && PyData.canLayAll0 (r.map rowD)) = true
      rw [a]
      show ((PyData.strOk l.1 && (PyData.canLayAll0 (l.2.map .str) && true)) && true) = true
      rw [c, show PyData.strOk l.1 = true from h1]
      rfl
    · show max (max 0 (max (PyData.depthAll (l.2.map .str) + 1) 0) + 1) (PyData.depthAll (r.map rowD)) ≤ 2
      rw [d]
      omega
theorem rows_shaped {ls : List Ln} (h : ∀ l ∈ ls, Low l.1 ∧ ∀ s ∈ l.2, Low s) : SeqAt.shaped (rowsD ls) = true := by
  obtain ⟨a, b⟩ := rows_lay ls h
  show (PyData.canLayAll0 (ls.map rowD) && decide (PyData.depthAll (ls.map rowD) + 1 ≤ 64)) = true
  rw [a, decide_eq_true (by omega)]
  rfl
theorem name_low {z : Str} (h : NameOk z) : Low z := by
  show z.cps.all (· < 0x110000) = true
  rw [← Array.all_toList, List.all_eq_true]
  intro c hc
  have := h.2.2 c hc
  exact decide_eq_true (by omega)
theorem LnsOk.low {ls : List Ln} (ok : LnsOk ls) : ∀ n ∈ nms ls, Low n := fun n hn => by
  obtain ⟨l, hl, e⟩ := List.mem_map.mp hn
  rw [← e]
  exact name_low (ok.names l hl)
theorem LnsOk.lows {ls : List Ln} (ok : LnsOk ls) : ∀ l ∈ ls, Low l.1 ∧ ∀ s ∈ l.2, Low s := fun l hl => by
  refine ⟨name_low (ok.names l hl), fun s hs => ?_⟩
  obtain ⟨i, hi⟩ := List.mem_iff_getElem?.mp hl
  have q := (ok.base i l hi).2.1 s hs
  obtain ⟨k, hk, e⟩ := List.mem_map.mp q
  exact ok.low s (List.mem_map.mpr ⟨k, List.mem_of_mem_take hk, e⟩)
theorem strs_dp {K : PySem.W.Frag} {H : Hp} : ∀ ss : List Str, DpAll K H (ss.map V.str) (ss.map PyData.str)
  | [] => .nil
  | s :: r => .cons (.str s) (strs_dp r)
theorem rows_dp {K : PySem.W.Frag} {N : Addr → Prop} {H : Hp} : ∀ {rs : List V} {ls : List Ln}, Paired (RowIn N H) rs ls → DpAll K H rs (ls.map rowD)
  | _, _, .nil => .nil
  | _, l :: _, .cons ⟨t, b, e, _, _, h1, h2⟩ r => .cons (by rw [e]; exact .tup (SqT.of h1) (.cons (.str _) (.cons (.lst (SqL.of h2) (strs_dp _)) .nil))) (rows_dp r)
section
variable {P : Program} {w : World} {K : PySem.W.Frag} {mg : Str → Option Value} {base : Heap}
theorem scRepr : FnScope ["self"] ["self"] (defScope sRepr) := ⟨rfl, rfl, rfl, by decide +kernel, rfl, by decide +kernel, by decide +kernel⟩
theorem ok_repr {C f p fO : Addr} {fd dO : FuncData} (F : Fun K "__repr__" "Kinds.__repr__" sRepr f fd) (T : KTxt K mg C) (po : PropOf K C "order" p fO) (GO : FnOk P w K mg base CX0 1 fO dO ["self"] (spOrder C)) (bO : Binds K dO ["self"] []) : FnOk P w K mg base CX0 3 f fd ["self"] (spRepr C) := by
  refine F.ok scRepr (fun vs H Q E h => ?_) (fun cdv A outer s H vs Q E hr h => ?_)
  · obtain ⟨x, ls, ls', TT, rfl, _⟩ := h
    rfl
  · obtain ⟨x, ls, ls', TT, rfl, kin, ok, k⟩ := h
    obtain ⟨dx, r, d, rs, kvs, hx, hR, pr, hd, pk⟩ := kin.ex
    obtain ⟨f1, f2⟩ := join_fits ok
    have few := ok.few
    have l6 : ("Kinds(" : Str).length = 6 := by decide +kernel
    have l1 : (")" : Str).length = 1 := by decide +kernel
    refine ⟨_, pss_one (ps_ret (pe_joined (PJ.cons pe_str (PJ.cons (pe_fmt (pe_join pe_str (pe_prop (pv 0) T.cl po GO hr bO .nil pass0 rfl))) (PJ.cons pe_str PJ.nil))))), ?_⟩
    refine ⟨_, rfl, ?_, ⟨_, rfl⟩, _, rfl, x, dx, _, rfl, hx, x, ls, ls', TT, rfl, kin, (by omega), fun H1 o s1 no ho => ⟨_, o, nms ls, rfl, rfl, .inl (SqL.of ho), (by omega), ?_⟩⟩
    · rw [Str.empty_append, l6]
      decide
    · refine .inl ⟨_, rfl, small1000 f2 |> Nat.le_of_lt, _, rfl, ?_, _, rfl, ?_, ?_⟩
      · rw [Str.empty_append, Str.length_append, l6]
        exact Nat.le_of_lt (Nat.lt_of_le_of_lt (show _ ≤ 1006 by omega) (by decide))
      · rw [Str.empty_append, Str.length_append, Str.length_append, l6, l1]
        exact Nat.le_of_lt (Nat.lt_of_le_of_lt (show _ ≤ 1007 by omega) (by decide))
      · rw [Str.empty_append]
        exact k _ s1
theorem scEq : FnScope ["self", "other"] ["self", "other"] (defScope sEq) := ⟨rfl, rfl, rfl, by decide +kernel, rfl, by decide +kernel, by decide +kernel⟩
theorem ok_eq {C f : Addr} {fd : FuncData} (F : Fun K "__eq__" "Kinds.__eq__" sEq f fd) (T : KTxt K mg C) (ic : C8.InsC K C) (mi : mg "isinstance" = none) : FnOk P w K mg base CX0 1 f fd ["self", "other"] (spEq C) := by
  refine F.ok scEq (fun vs H Q E h => ?_) (fun cdv A outer s H vs Q E hr h => ?_)
  · obtain ⟨x, y, l1, l2, l', TT, T', rfl, _⟩ := h
    rfl
  · obtain ⟨x, y, l1, l2, l', TT, T', rfl, kx, ky, ok, k⟩ := h
    have ok' := kx.srt.ok ok
    obtain ⟨dx, r, d, rs, kvs, hx, hR, pr, hd, pk⟩ := kx.ex
    obtain ⟨dy, r2, d2, rs2, kvs2, hy, hR2, pr2, hd2, pk2⟩ := ky.ex
    refine ⟨_, pss_one (ps_ret (pe_and (pe_callB (C8.call_isC ic) (by rfl) mi (by decide +kernel) (pa_cons (pv 1) (pa_cons (pe_glob (v := .ref C) (by rfl) T.mgC rfl) pa_nil)))
      (pe_one (pe_cmpR (op_eqD hr.units) (pe_fld (pv 0) rfl) (pe_fld (pv 1) rfl) (nomark _))))), ?_⟩
    refine ⟨_, rfl, y, dy, _, rfl, hy, true, rfl, iteT ?_⟩
    refine ⟨_, rfl, x, C, dx, _, _, rfl, hx, T.cl, T.nR, kf_rows _ _, _, rfl, y, C, dy, _, _, rfl, hy, T.cl, T.nR, kf_rows _ _, rowsD l', rowsD l', .lst (SqL.of hR) (rows_dp pr), .lst (SqL.of hR2) (rows_dp pr2), rows_shaped ok'.lows, rows_shaped ok'.lows, ?_⟩
    rw [SeqAt.eqv_refl _ (SeqAt.canLay_of_shaped (rows_shaped ok'.lows))]
    exact k
end
end K1

namespace K1
open PySem PySem.Spec PyProof.Rows L2
/-- source: from the script and a place, a new source -/
def spSource (K : PySem.W.Frag) : Sp := fun vs H Q _ => ∃ (a : Addr) (ns : List Int) (k : Int), vs = [.ref a, .int k] ∧ SqL K H a (ns.map V.int) ∧ ns.length ≤ 63 ∧ 0 ≤ k ∧ ∀ (p : Addr) (H' : Hp), Same H H' → H p = none → Src H' p → Q (.ref p) H'
theorem big60 : ((10 : Int) ^ (60 : Int).toNat).natAbs < 2 ^ 200 := by decide
theorem big120 : ((10 : Int) ^ (60 : Int).toNat * (10 : Int) ^ (60 : Int).toNat).natAbs < 2 ^ 400 := by decide
theorem bigpos : (10 : Int) ^ (60 : Int).toNat * (10 : Int) ^ (60 : Int).toNat * (10 : Int) ^ (60 : Int).toNat ≠ 0 := by decide
theorem bigpos' : (0 : Int) < (10 : Int) ^ (60 : Int).toNat * (10 : Int) ^ (60 : Int).toNat * (10 : Int) ^ (60 : Int).toNat := by decide
theorem int_at {ns : List Int} {k : Int} (h0 : 0 ≤ k) (h : k < (ns.length : Int)) : ∃ v : Int, atI (ns.map V.int) k = some (.int v) := by
  have hk : k.toNat < ns.length := by omega
  have ek : k = ((k.toNat : Nat) : Int) := by omega
  have q : atI (ns.map V.int) ((k.toNat : Nat) : Int) = some (.int ns[k.toNat]) := atI_nat (by rw [List.getElem?_map, List.getElem?_eq_getElem hk] <;> rfl)
  rw [← ek] at q
  exact ⟨_, q⟩
section
variable {P : Program} {w : World} {K : PySem.W.Frag} {mg : Str → Option Value} {base : Heap}
theorem scSource : FnScope ["script", "at", "cell", "mix", "k"] ["script", "at"] (defScope sSource) := ⟨rfl, rfl, rfl, by decide +kernel, rfl, by decide +kernel, by decide +kernel⟩
theorem ok_source {f : Addr} {fd : FuncData} (F : Fun K "_law_source" "_law_source" sSource f fd) (ml : mg "len" = none) (ma : mg "abs" = none) (mr : mg "range" = none) (mm : mg "min" = none) : FnOk P w K mg base CX0 1 f fd ["script", "at"] (spSource K) := by
  refine F.ok scSource (fun vs H Q E h => ?_) (fun cdv A outer s H vs Q E hr h => ?_)
  · obtain ⟨a, ns, k, rfl, _⟩ := h
    rfl
  · obtain ⟨a, ns, k, rfl, hS, h63, k0, q⟩ := h
    have hl : (ns.map V.int).length = ns.length := List.length_map _
    refine ⟨_, pss_cons (ps_set (i := 2) scSource.nd rfl (Or.inl rfl) pe_int)
      (C8.pss_cut (ps_if (pt_cmpR op_lt (pv 1) (pe_callB call_len_seq (by rfl) ml PySem.boot_len (pa_cons (pv 0) pa_nil)) (nomark _))
        (pss_one (ps_set (i := 2) scSource.nd rfl (Or.inl rfl) (pe_op op_modN (pe_callB call_abs (by rfl) ma (by decide +kernel) (pa_cons (pe_ix ix_list (pv 0) (pv 1) (fun _ _ => rfl)) pa_nil))
          (pe_op op_mulW (pe_op op_mulW (pe_op op_pow pe_int pe_int) (pe_op op_pow pe_int pe_int)) (pe_op op_pow pe_int pe_int))))) pss_nil)
      (pss_cons (ps_if (pt_cmpR op_ge (pv 2) (pe_op op_pow pe_int pe_int) (nomark _)) (pss_one (ps_ret (pe_lst (pa_cons (pv 2) (pa_cons pe_int pa_nil))))) pss_nil)
      (pss_cons (ps_set (i := 3) scSource.nd rfl (Or.inl rfl) (pe_op op_mod (pe_op op_add (pe_op op_add (pv 2) (pe_op op_mul pe_int (pv 1))) pe_int) pe_int))
      (pss_cons (ps_for PassesOwn.never rfl (pi_range1 (by rfl) mr (pa_cons (pe_callB (call_min2 rfl) (by rfl) mm (by decide +kernel) (pa_cons (pe_callB call_len_seq (by rfl) ml PySem.boot_len (pa_cons (pv 0) pa_nil)) (pa_cons pe_int pa_nil))) pa_nil)) (pg_name (i := 4) scSource.nd rfl (Or.inl rfl))
        (pss_one (ps_set (i := 3) scSource.nd rfl (Or.inl rfl) (pe_op op_mod (pe_op op_add (pe_op op_add (pe_op op_pow (pv 3) pe_int) (pe_op op_mod (pe_ix ix_list (pv 0) (pv 4) (fun _ _ => rfl)) pe_int)) (pe_op op_mul pe_int (pv 4))) pe_int))))
      (pss_one (ps_ret (pe_lst (pa_cons (pv 3) (pa_cons pe_int pa_nil))))))))), ?_⟩
    refine ⟨fun σ H1 => H1 = H ∧ ∃ c : Int, 0 ≤ c ∧ σ = [some (.ref a), some (.int k), some (.int c), none, none], ?_, ?_⟩
    · refine ⟨_, rfl, _, rfl, a, _, rfl, .inl hS, _, _, rfl, rfl, _, rfl, ite2 (fun e => ?_) (fun e => ?_)⟩
      · have e1 : k < (((ns.map V.int).length : Nat) : Int) := of_decide_eq_true e
        rw [hl] at e1
        obtain ⟨v, hv⟩ := int_at (ns := ns) k0 e1
        refine ⟨_, rfl, _, rfl, a, _, _, _, rfl, rfl, hS, hv, _, rfl, _, _, rfl, rfl, ⟨by decide, by decide, by decide⟩, _, _, rfl, rfl, ⟨by decide, by decide, by decide⟩, _, _, rfl, rfl, wide_mul big60 big60 (by decide) (by decide) (by decide), ?_⟩
        refine ⟨_, _, rfl, rfl, ⟨by decide, by decide, by decide⟩, _, _, rfl, rfl, wide_mul big120 big60 (by decide) (by decide) (by decide), _, _, rfl, rfl, bigpos, ?_⟩
        exact ⟨rfl, _, (fmod_pos bigpos').1, rfl⟩
      · exact ⟨rfl, 0, by decide, rfl⟩
    rintro σ H1 ⟨rfl, c, c0, rfl⟩
    refine ⟨_, rfl, _, _, rfl, rfl, ⟨by decide, by decide, by decide⟩, _, _, rfl, rfl, _, rfl, ite2 (fun e => ?_) (fun e => ?_)⟩
    · refine ⟨_, rfl, (by show 2 ≤ sizeLine; decide), fun p np => ?_⟩
      exact q p _ (same_upd np) np ⟨c, 0, upd_same, .inl ⟨rfl, c0⟩⟩
    · refine ⟨_, rfl, _, rfl, _, _, rfl, rfl, .inl ⟨by decide, by decide⟩, _, _, rfl, rfl, _, _, rfl, rfl, _, _, rfl, rfl, (by decide : (0 : Int) < 2147483647), ?_⟩
      have z := mod_lt (a := c + 7919 * k + 29) (m := 2147483647) (by decide)
      have hz : (if (9 : Int) < (((ns.map V.int).length : Nat) : Int) then (9 : Int) else (((ns.map V.int).length : Nat) : Int)) ≤ (ns.length : Int) ∧ 0 ≤ (if (9 : Int) < (((ns.map V.int).length : Nat) : Int) then (9 : Int) else (((ns.map V.int).length : Nat) : Int)) := by
        rw [hl]
        split <;> omega
      refine ⟨_, rfl, a, _, rfl, .inl hS, _, _, rfl, _, rfl, (by omega), (by omega), for_range (lo := 0) (fun i σ H' => H' = H1 ∧ ∃ (mx : Int) (v : Option V), (0 ≤ mx ∧ mx < 2147483647) ∧ σ = [some (.ref a), some (.int k), some (.int c), some (.int mx), v]) ⟨rfl, _, _, z, rfl⟩ ?_ ?_⟩
      · rintro i σ H' hi ⟨rfl, mx, v, ⟨m0, m1⟩, rfl⟩
        have hi2 : (0 + (i : Int)) < (ns.length : Int) := by omega
        obtain ⟨y, hy⟩ := int_at (ns := ns) (k := 0 + (i : Int)) (by omega) hi2
        refine ⟨_, rfl, _, _, rfl, rfl, ⟨by decide, by decide, by omega⟩, _, rfl, _, rfl, a, _, _, _, rfl, rfl, hS, hy, _, _, rfl, rfl, (by decide : (0 : Int) < 2147483629), _, _, rfl, rfl, _, rfl, _, _, rfl, rfl, .inl ⟨by decide, by decide⟩, _, _, rfl, rfl, _, _, rfl, rfl, (by decide : (0 : Int) < 2147483647), ?_⟩
        exact ⟨rfl, _, _, mod_lt (by decide), rfl⟩
      · rintro σ H' ⟨rfl, mx, v, ⟨m0, m1⟩, rfl⟩
        refine ⟨_, rfl, (by show 2 ≤ sizeLine; decide), fun p np => ?_⟩
        exact q p _ (same_upd np) np ⟨mx, 1, upd_same, .inr ⟨by decide, m0, m1⟩⟩
end
end K1

namespace K1
open PySem PySem.Spec PyProof.Rows L2 Own
/-! ### names drawn -/
def sg (c : Nat) : Str := ⟨#[c]⟩
theorem sg_list (c : Nat) : (sg c).cps.toList = [c] := rfl
theorem abc_at {i : Int} (h0 : 0 ≤ i) (h1 : i < 26) : atI abc.cps.toList i = some (97 + i.toNat) := by
  have h : ∀ d : Fin 26, atI abc.cps.toList ((d.val : Nat) : Int) = some (97 + d.val) := by decide +kernel
  have e : i = ((i.toNat : Nat) : Int) := by omega
  have q := h ⟨i.toNat, by omega⟩
  rw [← e] at q
  exact q
theorem app_list (a b : Str) : (a ++ b).cps.toList = a.cps.toList ++ b.cps.toList := by
  show (a.cps ++ b.cps).toList = _
  rw [Array.toList_append]
theorem len_list (a : Str) : a.length = a.cps.toList.length := by
  show a.cps.size = _
  rw [Array.length_toList]
theorem join_list : ∀ cs : List Nat, (Str.join Str.empty (cs.map sg)).cps.toList = cs
  | [] => rfl
  | [c] => rfl
  | c :: d :: r => by
    have ih := join_list (d :: r)
    show (sg c ++ Str.empty ++ Str.join Str.empty ((d :: r).map sg)).cps.toList = _
    rw [app_list, app_list, ih]
    rfl
theorem cut_lo (z : Str) (a : Nat) (h : a ≤ z.length) : (cutS z none (some ((a : Nat) : Int))).cps.toList = z.cps.toList.take a := by
  unfold cutS
  rw [HT.sIx_none, HT.sIx_nat, List.drop_zero, Nat.sub_zero, Nat.min_eq_left h]
theorem cut_hi (z : Str) (a : Nat) (h : a ≤ z.length) : (cutS z (some ((a : Nat) : Int)) none).cps.toList = z.cps.toList.drop a := by
  unfold cutS
  rw [HT.sIx_none, HT.sIx_nat, Nat.min_eq_left h]
  show (z.cps.toList.drop a).take (z.length - a) = _
  rw [List.take_of_length_le]
  rw [List.length_drop, ← len_list]
  exact Nat.le_refl _
/-- the name that turn k makes -/
def nameK (z : Str) (a b k : Nat) : Str := cutS z none (some ((a : Nat) : Int)) ++ sg (97 + (b + 5 * k) % 26) ++ cutS z (some ((a : Nat) : Int)) none
theorem nameK_list (z : Str) (a b k : Nat) (h : a ≤ z.length) : (nameK z a b k).cps.toList = z.cps.toList.take a ++ (97 + (b + 5 * k) % 26) :: z.cps.toList.drop a := by
  unfold nameK
  rw [app_list, app_list, cut_lo z a h, cut_hi z a h, sg_list, List.append_assoc]
  rfl
theorem nameK_len (z : Str) (a b k : Nat) (h : a ≤ z.length) : (nameK z a b k).length = z.length + 1 := by
  rw [len_list, nameK_list z a b k h, len_list z] at *
  rw [List.length_append, List.length_cons, List.length_take, List.length_drop]
  omega
theorem nameK_one {z : Str} {a b j k : Nat} (h : a ≤ z.length) (hj : j < 8) (hk : k < 8) (e : nameK z a b j = nameK z a b k) : j = k := by
  have q : (nameK z a b j).cps.toList = (nameK z a b k).cps.toList := by rw [e]
  rw [nameK_list z a b j h, nameK_list z a b k h] at q
  have q2 := (List.cons.inj (List.append_cancel_left q)).1
  omega
theorem nameK_ok {z : Str} {a b k : Nat} (h : a ≤ z.length) (h7 : z.length ≤ 7) (hz : ∀ c ∈ z.cps.toList, 97 ≤ c ∧ c ≤ 122) : NameOk (nameK z a b k) := by
  refine ⟨by rw [nameK_len z a b k h]; omega, by rw [nameK_len z a b k h]; omega, fun c hc => ?_⟩
  rw [nameK_list z a b k h] at hc
  rcases List.mem_append.mp hc with q | q
  · exact hz c (List.mem_of_mem_take q)
  · rcases List.mem_cons.mp q with q | q
    · omega
    · exact hz c (List.mem_of_mem_drop q)
/-- drawn names -/
def Drawn (ns : List Str) : Prop := ns.Nodup ∧ ∀ n ∈ ns, NameOk n ∧ n.length ≠ 4
theorem drawn_of {z : Str} {a b : Nat} (m : Nat) (h : a ≤ z.length) (hm : m ≤ 8) (h7 : z.length ≤ 7) (h3 : z.length ≠ 3) (hz : ∀ c ∈ z.cps.toList, 97 ≤ c ∧ c ≤ 122) : Drawn ((List.range m).map (nameK z a b)) := by
  refine ⟨?_, fun n hn => ?_⟩
  · have r : (List.range m).Pairwise (fun j k => j ≠ k ∧ j < 8 ∧ k < 8) := by
      refine List.Pairwise.imp_of_mem (R := fun j k => j ≠ k) (fun ha hb q => ⟨q, ?_, ?_⟩) List.nodup_range
      · have := List.mem_range.mp ha
        omega
      · have := List.mem_range.mp hb
        omega
    exact List.Pairwise.map _ (fun j k q e => q.1 (nameK_one h q.2.1 q.2.2 e)) r
  · obtain ⟨k, hk, rfl⟩ := List.mem_map.mp hn
    exact ⟨nameK_ok h h7 hz, by rw [nameK_len z a b k h]; omega⟩
theorem four {d : Int} (h0 : 0 ≤ d) (h1 : d < 4) : ∃ n : Nat, atI [V.int 0, V.int 1, V.int 2, V.int 7] d = some (V.int (n : Int)) ∧ n ≤ 7 ∧ n ≠ 3 := by
  have c : d = 0 ∨ d = 1 ∨ d = 2 ∨ d = 3 := by omega
  rcases c with e | e | e | e
  · subst e
    exact ⟨0, rfl, by decide, by decide⟩
  · subst e
    exact ⟨1, rfl, by decide, by decide⟩
  · subst e
    exact ⟨2, rfl, by decide, by decide⟩
  · subst e
    exact ⟨7, rfl, by decide, by decide⟩
theorem Keep.put {s p : Addr} {H H' : Hp} {o : HO} (a : Keep s H H') (h : H p = none) : Keep s H (L2.upd H' p o) := fun b x n e => by
  rw [upd_ne (ne_of_none e h)]
  exact a b x n e
theorem Src.put {s p : Addr} {H : Hp} {o : HO} (q : Src H s) (h : p ≠ s) : Src (upd H p o) s := by
  obtain ⟨a, b, z, ok⟩ := q
  exact ⟨a, b, by rw [upd_ne h.symm]; exact z, ok⟩
theorem Src.ne {s p : Addr} {H : Hp} {ss : List Str} (q : Src H s) (h : H p = some (.lst (ss.map V.str))) : p ≠ s := fun e => by
  obtain ⟨a, b, z, _⟩ := q
  rw [e, z] at h
  have h' := HO.lst.inj (Option.some.inj h)
  cases ss with
  | nil => cases h'
  | cons x r => cases h'
def spNames : Sp := fun vs H Q _ => ∃ (s : Addr) (m : Nat), vs = [.ref s, .int (m : Nat)] ∧ Src H s ∧ m ≤ 8 ∧ ∀ H' p ns, Keep s H H' → Src H' s → H p = none → H' p = some (.lst (ns.map V.str)) → ns.length = m → Drawn ns → Q (.ref p) H'
section
variable {P : Program} {w : World} {K : PySem.W.Frag} {mg : Str → Option Value} {base : Heap}
theorem scNames : FnScope ["source", "many", "letters", "base", "at", "begin", "k"] ["source", "many"] (defScope sNames) := ⟨rfl, rfl, rfl, by decide +kernel, rfl, by decide +kernel, by decide +kernel⟩
theorem ok_names {f g : Addr} {fd gd : FuncData} (F : Fun K "_law_random_names" "_law_random_names" sNames f fd) (GD : FnOk P w K mg base CX0 1 g gd ["source", "many"] spDraw) (kD : PySem.W.keepIn K (.ref g) = true) (bD : Binds K gd ["source", "many"] []) (mD : mg "_law_draw" = some (.ref g))
    (mr : mg "range" = none) (ml : mg "len" = none) : FnOk P w K mg base CX0 2 f fd ["source", "many"] spNames := by
  refine F.ok scNames (fun vs H Q E h => ?_) (fun cdv A outer s H vs Q E hr h => ?_)
  · obtain ⟨s, m, rfl, _⟩ := h
    rfl
  · obtain ⟨s, m, rfl, src, m8, k⟩ := h
    refine ⟨_, pss_cons (ps_set (i := 2) scNames.nd rfl (Or.inr rfl) pe_str)
      (pss_cons (ps_set (i := 3) scNames.nd rfl (Or.inr rfl) (pe_join pe_str (pe_lc (own := [("k", 6)]) (g := gName 6) (tt := tYes) rfl scNames.nd
          (pi_range1 (by rfl) mr (pa_cons (pe_ix ix_list (pe_lst (pa_cons pe_int (pa_cons pe_int (pa_cons pe_int (pa_cons pe_int pa_nil))))) (pe_call GD hr (by rfl) mD kD bD .nil pass0 (pa_cons (pv 0) (pa_cons pe_int pa_nil))) (fun _ _ => rfl)) pa_nil))
          (blkOk_by (N := ["source", "many", "letters", "base", "at", "begin", "k"]) (sc := defScope sNames) (by decide +kernel))
          (fun _ _ _ _ _ => pg_name (i := 6) scNames.nd rfl (Or.inl rfl)) (fun _ _ _ _ _ => pts_nil) (fun _ _ _ _ _ => pe_ix ix_str (pv 2) (pe_call GD hr (by rfl) mD kD bD .nil pass0 (pa_cons (pv 0) (pa_cons pe_int pa_nil))) (fun _ _ => rfl)))))
      (pss_cons (ps_set (i := 4) scNames.nd rfl (Or.inr rfl) (pe_call GD hr (by rfl) mD kD bD .nil pass0 (pa_cons (pv 0) (pa_cons (pe_op op_add (pe_callB call_len_str (by rfl) ml PySem.boot_len (pa_cons (pv 3) pa_nil)) pe_int) pa_nil))))
      (pss_cons (ps_set (i := 5) scNames.nd rfl (Or.inr rfl) (pe_call GD hr (by rfl) mD kD bD .nil pass0 (pa_cons (pv 0) (pa_cons pe_int pa_nil))))
      (pss_one (ps_ret (pe_lc (own := [("k", 6)]) (g := gName 6) (tt := tYes) rfl scNames.nd (pi_range1 (by rfl) mr (pa_cons (pv 1) pa_nil))
          (blkOk_by (N := ["source", "many", "letters", "base", "at", "begin", "k"]) (sc := defScope sNames) (by decide +kernel))
          (fun _ _ _ _ _ => pg_name (i := 6) scNames.nd rfl (Or.inl rfl)) (fun _ _ _ _ _ => pts_nil)
          (fun _ _ _ _ _ => pe_op op_add_str (pe_op op_add_str (pe_slice sl_str (pv 3) po_none (po_some (pv 4))) (pe_ix ix_str (pv 2) (pe_op op_mod (pe_op op_add (pv 5) (pe_op op_mul pe_int (pv 6))) pe_int) (fun _ _ => rfl))) (pe_slice sl_str (pv 3) (po_some (pv 4)) po_none)))))))), ?_⟩
    refine ⟨⟨_, rfl⟩, (by show 4 ≤ sizeLine; decide), fun q nq => ?_⟩
    have s0 : Keep s H (upd H q (.lst [.int 0, .int 1, .int 2, .int 7])) := Keep.new (Keep.refl s H) nq
    have sr0 : Src (upd H q (.lst [.int 0, .int 1, .int 2, .int 7])) s := src.new nq
    refine ⟨_, rfl, s, 4, rfl, sr0, (by decide), (by decide), fun d H1 d0 d1 sr1 k1 => ?_⟩
    have kq := s0.trans k1
    have qs : q ≠ s := fun e => by
      obtain ⟨a, b, z, _⟩ := src
      rw [e, z] at nq
      cases nq
    obtain ⟨n, hn, n7, n3⟩ := four d0 d1
    refine ⟨q, _, d, _, rfl, rfl, SqL.of (k1 q _ qs upd_same), hn, _, rfl, (by omega), (by omega), fun D nD => ?_⟩
    have nDH : H D = none := kq.free sr1 nD
    refine lc_range (lo := 0) (n := n) (fun i H' => Keep s H H' ∧ Src H' s ∧ ∃ cs : List Nat, cs.length = i ∧ (∀ c ∈ cs, 97 ≤ c ∧ c ≤ 122) ∧ H' D = some (.lst ((cs.map sg).map V.str))) ⟨kq.new nD, sr1.new nD, [], rfl, (fun _ h => nomatch h), upd_same⟩ ?_ ?_
    · rintro i H' hi ⟨kp, sr, cs, cl, cok, hD⟩
      have Ds : D ≠ s := sr.ne hD
      refine ⟨rfl, _, rfl, _, rfl, s, 26, rfl, sr, (by decide), (by decide), fun c H2 c0 c1 sr2 k2 => ?_⟩
      have hD2 := k2 D _ Ds hD
      refine ⟨abc, c, _, rfl, rfl, (by decide), abc_at c0 c1, _, hD2, ?_, (kp.trans k2).put nDH, ?_, cs ++ [97 + c.toNat], ?_, ?_, ?_⟩
      · rw [List.length_map, List.length_map, cl]
        exact small1000 (by omega)
      · exact sr2.put Ds
      · rw [List.length_append, cl]
        rfl
      · intro e he
        rcases List.mem_append.mp he with h | h
        · exact cok e h
        · rw [List.mem_singleton.mp h]
          omega
      · rw [upd_same, List.map_append, List.map_append]
        rfl
    · rintro H' ⟨kp, sr, cs, cl, cok, hD⟩
      obtain ⟨z, ez⟩ : ∃ z, z = Str.join Str.empty (cs.map sg) := ⟨_, rfl⟩
      have zl : z.cps.toList = cs := by rw [ez, join_list]
      have zn : z.length = n := by rw [len_list, zl, cl]
      have sum1 : ∀ es : List Nat, ((es.map sg).map (·.length)).sum = es.length := fun es => by
        induction es with
        | nil => rfl
        | cons x r ih =>
          show 1 + ((r.map sg).map (·.length)).sum = r.length + 1
          rw [ih, Nat.add_comm]
      have el : ("" : Str).length = 0 := rfl
      refine ⟨_, D, cs.map sg, rfl, rfl, .inl (SqL.of hD), ?_, ?_⟩
      · rw [sum1, List.length_map, el]
        omega
      rw [txt_join, show Str.join ("" : Str) (cs.map sg) = z from ez.symm]
      refine ⟨_, rfl, _, rfl, z, rfl, (by rw [sizeLine_eq]; omega), _, _, rfl, rfl, s, _, rfl, sr, (by omega), (by omega), fun d2 H2 e0 e1 sr2 k2 => ?_⟩
      obtain ⟨at_, eat⟩ : ∃ a : Nat, d2 = (a : Int) := ⟨d2.toNat, by omega⟩
      subst eat
      refine ⟨_, rfl, s, _, rfl, sr2, (by decide), (by decide), fun d3 H3 b0 b1 sr3 k3 => ?_⟩
      obtain ⟨be, ebe⟩ : ∃ a : Nat, d3 = (a : Int) := ⟨d3.toNat, by omega⟩
      subst ebe
      have k13 := (kp.trans k2).trans k3
      have zz : z.length ≤ sizeLine := by rw [sizeLine_eq]; omega
      have z4 : z.length ≤ 7 := by omega
      refine ⟨_, rfl, (m : Int), rfl, (by omega), (by omega), fun D2 nD2 => ?_⟩
      have nD2H : H D2 = none := k13.free sr3 nD2
      have al : at_ ≤ z.length := by omega
      refine lc_range (lo := 0) (n := m) (fun i H' => Same H3 H' ∧ H' D2 = some (.lst (((List.range i).map (nameK z at_ be)).map V.str))) ⟨same_upd nD2, upd_same⟩ ?_ ?_
      · rintro i H4 hi ⟨sm, hD4⟩
        have ix : atI abc.cps.toList (((be : Int) + 5 * (0 + (i : Int))) % 26) = some (97 + (be + 5 * i) % 26) := by
          rw [abc_at (Int.emod_nonneg _ (by decide)) (Int.emod_lt_of_pos _ (by decide))]
          congr 1
          omega
        have c1 := cutS_length z none (some ((at_ : Nat) : Int))
        have c2 := cutS_length z (some ((at_ : Nat) : Int)) none
        have c3 : (sg (97 + (be + 5 * i) % 26)).length = 1 := rfl
        refine ⟨rfl, _, rfl, _, rfl, _, rfl, z, rfl, zz, _, rfl, _, rfl, _, rfl, _, _, rfl, rfl, .inl ⟨by decide, by decide⟩, _, _, rfl, rfl, _, _, rfl, rfl, (by decide : (0 : Int) < 26), abc, _, _, rfl, rfl, (by decide), ix, _, _, rfl, rfl, ?_, _, rfl, _, rfl, _, rfl, z, rfl, zz, _, _, rfl, rfl, ?_, _, hD4, ?_, ?_, ?_⟩
        · rw [sizeLine_eq]
          show (cutS z none (some ((at_ : Nat) : Int))).length + 1 ≤ _
          omega
        · rw [sizeLine_eq, Str.length_append]
          show (cutS z none (some ((at_ : Nat) : Int))).length + 1 + (cutS z (some ((at_ : Nat) : Int)) none).length ≤ _
          omega
        · rw [List.length_map, List.length_map, List.length_range]
          exact small1000 (by omega)
        · exact same_past nD2 sm
        · rw [upd_same, List.range_succ, List.map_append, List.map_append]
          rfl
      · rintro H4 ⟨sm, hD4⟩
        refine k H4 D2 _ (k13.trans (.of sm)) (sr3.same sm) nD2H hD4 ?_ ?_
        · rw [List.length_map, List.length_range]
        · exact drawn_of m al m8 z4 (by omega) (by rw [zl]; exact cok)
end
end K1

namespace K1
open PySem PySem.Spec PyProof.Rows L2 Own
/-! ### rows drawn -/
def LinAt (H : Hp) (v : V) (l : Ln) : Prop := ∃ t b, v = .ref t ∧ H t = some (.tup [.str l.1, .ref b]) ∧ H b = some (.tup (l.2.map V.str))
def LinsAt (H : Hp) (a : Addr) (ls : List Ln) : Prop := ∃ vs, H a = some (.lst vs) ∧ Paired (LinAt H) vs ls
theorem LinAt.same {H H' : Hp} {v : V} {l : Ln} (h : LinAt H v l) (k : ∀ a xs, H a = some (.tup xs) → H' a = some (.tup xs)) : LinAt H' v l := by
  obtain ⟨t, b, e, h1, h2⟩ := h
  exact ⟨t, b, e, k _ _ h1, k _ _ h2⟩
theorem LinsAt.keep {H H' : Hp} {a : Addr} {ls : List Ln} (h : LinsAt H a ls) (k : ∀ b xs, H b = some (.tup xs) → H' b = some (.tup xs)) (ka : ∀ xs, H a = some (.lst xs) → H' a = some (.lst xs)) : LinsAt H' a ls := by
  obtain ⟨vs, h1, h2⟩ := h
  exact ⟨vs, ka _ h1, paired_imp (fun _ _ q => q.same k) h2⟩
theorem LinsAt.same {H H' : Hp} {a : Addr} {ls : List Ln} (h : LinsAt H a ls) (s : Same H H') : LinsAt H' a ls := h.keep (fun _ _ e => s _ _ e) fun _ e => s _ _ e
theorem LinsAt.rows {H : Hp} {a : Addr} {ls : List Ln} (h : LinsAt H a ls) : RowsAt H a ls := by
  obtain ⟨vs, h1, h2⟩ := h
  exact ⟨vs, .inl h1, paired_imp (fun _ _ ⟨t, b, e, z1, z2⟩ => ⟨t, b, e, z1, .inr z2⟩) h2⟩
theorem Src.neL {s p : Addr} {H H0 : Hp} {rs : List V} {ls : List Ln} (q : Src H s) (h : H p = some (.lst rs)) (pl : Paired (LinAt H0) rs ls) : p ≠ s := fun e => by
  obtain ⟨a, b, z, _⟩ := q
  rw [e, z] at h
  have h' := HO.lst.inj (Option.some.inj h)
  subst h'
  cases pl with
  | cons c r =>
    obtain ⟨t, b, e, _⟩ := c
    cases e
theorem four2 {d : Int} (h0 : 0 ≤ d) (h1 : d < 4) : ∃ n : Nat, atI [V.int 0, V.int 1, V.int 1, V.int 2] d = some (V.int (n : Int)) ∧ n ≤ 2 := by
  have c : d = 0 ∨ d = 1 ∨ d = 2 ∨ d = 3 := by omega
  rcases c with e | e | e | e
  · subst e
    exact ⟨0, rfl, by decide⟩
  · subst e
    exact ⟨1, rfl, by decide⟩
  · subst e
    exact ⟨1, rfl, by decide⟩
  · subst e
    exact ⟨2, rfl, by decide⟩
theorem cutV_lo (xs : List V) (k : Nat) (h : k ≤ xs.length) : cutV xs none (some ((k : Nat) : Int)) = xs.take k := by
  unfold cutV
  rw [HT.sIx_none, HT.sIx_nat, Nat.min_eq_left h]
  rfl
theorem ne_nil_eq (xs : List Str) : (!PyData.eqv (strsD xs) (strsD [])) = !decide (xs = []) := by
  cases xs with
  | nil => rfl
  | cons x r => rfl
theorem erase_map : ∀ (xs : List Str) (u : Nat), (xs.map V.str).eraseIdx u = (xs.eraseIdx u).map V.str
  | [], _ => rfl
  | x :: r, 0 => rfl
  | x :: r, u + 1 => by
    show V.str x :: (r.map V.str).eraseIdx u = V.str x :: (r.eraseIdx u).map V.str
    rw [erase_map r u]
theorem erase_perm : ∀ (xs : List Str) (u : Nat) (h : u < xs.length), (xs[u] :: xs.eraseIdx u).Perm xs
  | x :: r, 0, _ => .refl _
  | x :: r, u + 1, h => by
    have ih := erase_perm r u (Nat.lt_of_succ_lt_succ h)
    show (r[u]'(Nat.lt_of_succ_lt_succ h) :: x :: r.eraseIdx u).Perm (x :: r)
    exact (List.Perm.swap ..).trans (List.Perm.cons x ih)
/-- the rows so far -/
structure Far (ns : List Str) (i : Nat) (ls : List Ln) : Prop where
  nms : nms ls = ns.take i
  base : ∀ (j : Nat) l, ls[j]? = some l → l.2.Nodup ∧ (∀ b ∈ l.2, b ∈ ns.take j) ∧ l.2.length ≤ 7
theorem Far.ok {ns : List Str} {ls : List Ln} (f : Far ns ns.length ls) (d : Drawn ns) (h7 : ns.length ≤ 7) : LnsOk ls := by
  have e : K1.nms ls = ns := by rw [f.nms, List.take_of_length_le (Nat.le_refl _)]
  refine ⟨fun l hl => ?_, by rw [e]; exact d.1, ?_, fun j l hl => ?_⟩
  · have q : l.1 ∈ ns := by
      rw [← e]
      exact List.mem_map.mpr ⟨l, hl, rfl⟩
    exact (d.2 _ q).1
  · have q : (K1.nms ls).length = ns.length := by rw [e]
    rw [List.length_map] at q
    omega
  · obtain ⟨a, b, c⟩ := f.base j l hl
    refine ⟨a, fun x hx => ?_, c⟩
    rw [show K1.nms (ls.take j) = (K1.nms ls).take j from List.map_take .., e]
    exact b x hx
def spLines : Sp := fun vs H Q _ => ∃ (s a : Addr) (ns : List Str), vs = [.ref s, .ref a] ∧ Src H s ∧ H a = some (.lst (ns.map V.str)) ∧ ns.length ≤ 7 ∧ Drawn ns ∧ ∀ H' p ls, Keep s H H' → Src H' s → LinsAt H' p ls → nms ls = ns → LnsOk ls → Q (.ref p) H'
section
variable {P : Program} {w : World} {K : PySem.W.Frag} {mg : Str → Option Value} {base : Heap}
theorem scLines : FnScope ["source", "labels", "found", "k", "left", "bases", "turn"] ["source", "labels"] (defScope sLines) := ⟨rfl, rfl, rfl, by decide +kernel, rfl, by decide +kernel, by decide +kernel⟩
theorem ok_lines {f g : Addr} {fd gd : FuncData} (F : Fun K "_law_random_lines" "_law_random_lines" sLines f fd) (GD : FnOk P w K mg base CX0 1 g gd ["source", "many"] spDraw) (kD : PySem.W.keepIn K (.ref g) = true) (bD : Binds K gd ["source", "many"] []) (mD : mg "_law_draw" = some (.ref g))
    (mr : mg "range" = none) (ml : mg "len" = none) (mi : mg "list" = none) (mt : mg "tuple" = none) : FnOk P w K mg base CX0 2 f fd ["source", "labels"] spLines := by
  refine F.ok scLines (fun vs H Q E h => ?_) (fun cdv A outer s H vs Q E hr h => ?_)
  · obtain ⟨s, a, ns, rfl, _⟩ := h
    rfl
  · obtain ⟨s, a, ns, rfl, src, ha, n7, dr, k⟩ := h
    refine ⟨_, pss_cons (ps_set (i := 2) scLines.nd rfl (Or.inl rfl) (pe_lst pa_nil))
      (pss_cons (ps_for PassesOwn.never rfl (pi_range1 (by rfl) mr (pa_cons (pe_callB call_len_seq (by rfl) ml PySem.boot_len (pa_cons (pv 1) pa_nil)) pa_nil)) (pg_name (i := 3) scLines.nd rfl (Or.inl rfl))
        (pss_cons (ps_par (i := 4) (j := 5) rfl scLines.nd rfl rfl (by decide) rfl rfl (pa_cons (pe_callTy call_list_of (by rfl) mi (by decide +kernel) (pa_cons (pe_slice sl_list (pv 1) po_none (po_some (pv 3))) pa_nil)) (pa_cons (pe_lst pa_nil) pa_nil)) (by rfl))
        (pss_cons (ps_for PassesOwn.never rfl (pi_range1 (by rfl) mr (pa_cons (pe_ix ix_list (pe_lst (pa_cons pe_int (pa_cons pe_int (pa_cons pe_int (pa_cons pe_int pa_nil))))) (pe_call GD hr (by rfl) mD kD bD .nil pass0 (pa_cons (pv 0) (pa_cons pe_int pa_nil))) (fun _ _ => rfl)) pa_nil)) (pg_name (i := 6) scLines.nd rfl (Or.inl rfl))
          (pss_one (ps_if (pt_cmpR (op_neD hr.units) (pv 4) (pe_lst pa_nil) (nomark _))
            (pss_one (ps_expr (pe_bm PySem.F.plainAttrs_list PySem.F.slot_list_append PySem.F.type_list_append mt_append (pv 5) (pa_cons
              (pe_bm PySem.F.plainAttrs_list PySem.F.slot_list_pop PySem.F.type_list_pop mt_popAt (pv 4) (pa_cons (pe_call GD hr (by rfl) mD kD bD .nil pass0 (pa_cons (pv 0) (pa_cons (pe_callB call_len_seq (by rfl) ml PySem.boot_len (pa_cons (pv 4) pa_nil)) pa_nil))) pa_nil)) pa_nil)))) pss_nil)))
        (pss_one (ps_expr (pe_bm PySem.F.plainAttrs_list PySem.F.slot_list_append PySem.F.type_list_append mt_append (pv 2) (pa_cons
          (pe_tup (pa_cons (pe_ix ix_list (pv 1) (pv 3) (fun _ _ => rfl)) (pa_cons (pe_callTy call_tuple_of (by rfl) mt (by decide +kernel) (pa_cons (pv 5) pa_nil)) pa_nil))) pa_nil)))))))
      (pss_one (ps_ret (pv 2)))), ?_⟩
    refine ⟨Nat.zero_le _, fun fa nF => ?_⟩
    have as : a ≠ s := src.ne ha
    have al : (ns.map V.str).length = ns.length := List.length_map _
    refine ⟨_, rfl, a, _, rfl, .inl (SqL.of (same_upd nF _ _ ha)), _, rfl, (by omega), (by omega), ?_⟩
    refine for_range (lo := 0) (fun i σ H' => ∃ v3 v4 v5 v6 ls rs, σ = [some (.ref s), some (.ref a), some (.ref fa), v3, v4, v5, v6] ∧ Keep s H H' ∧ Src H' s ∧ H' fa = some (.lst rs) ∧ Paired (LinAt H') rs ls ∧ Far ns i ls)
      ⟨none, none, none, none, [], [], rfl, .of (same_upd nF), src.new nF, upd_same, .nil, rfl, fun j l h => by simp at h⟩ ?_ ?_
    · rintro i σ H1 hi ⟨v3, v4, v5, v6, ls, rs, rfl, k1, sr1, hF, pl, far⟩
      have hi' : i < ns.length := by
        rw [show ((((ns.map V.str).length : Nat) : Int)).toNat = (ns.map V.str).length from rfl] at hi
        omega
      have ha1 := k1 a _ as ha
      refine ⟨_, rfl, _, rfl, (0 + (i : Int)), rfl, a, _, rfl, SqL.of ha1, fun p np => ?_⟩
      have e1 : Same H1 (upd H1 p (.lst (cutV (ns.map V.str) none (some (0 + (i : Int)))))) := same_upd np
      refine ⟨p, _, rfl, .inl (SqL.of upd_same), fun L nL => ?_⟩
      have e2 := e1.trans (same_upd (o := .lst (cutV (ns.map V.str) none (some (0 + (i : Int))))) nL)
      refine ⟨Nat.zero_le _, fun B nB => ?_⟩
      have e3 := e2.trans (same_upd (o := .lst []) nB)
      refine ⟨_, _, rfl, ?_⟩
      have LB : L ≠ B := ne_of_none upd_same nB
      have cut : cutV (ns.map V.str) none (some (0 + (i : Int))) = (ns.take i).map V.str := by
        rw [show (0 + (i : Int)) = ((i : Nat) : Int) from by omega, cutV_lo _ i (by omega), List.map_take]
      have hL := same_upd (o := .lst []) nB L _ (upd_same (H := upd H1 p (.lst (cutV (ns.map V.str) none (some (0 + (i : Int)))))) (a := L) (o := .lst (cutV (ns.map V.str) none (some (0 + (i : Int))))))
      have hB := upd_same (H := upd (upd H1 p (.lst (cutV (ns.map V.str) none (some (0 + (i : Int)))))) L (.lst (cutV (ns.map V.str) none (some (0 + (i : Int)))))) (a := B) (o := .lst [])
      generalize upd (upd (upd H1 p (.lst (cutV (ns.map V.str) none (some (0 + (i : Int)))))) L (.lst (cutV (ns.map V.str) none (some (0 + (i : Int)))))) B (.lst []) = H2 at e3 hL hB ⊢
      rw [cut] at hL
      have nL1 : H1 L = none := e1.free nL
      have nB1 : H1 B = none := e2.free nB
      have sr2 := sr1.same e3
      refine ⟨(by show 4 ≤ sizeLine; decide), fun q nq => ?_⟩
      have e4 : Same H2 (upd H2 q (.lst [.int 0, .int 1, .int 1, .int 2])) := same_upd nq
      refine ⟨_, rfl, s, 4, rfl, sr2.same e4, (by decide), (by decide), fun d H3 d0 d1 sr3 k3 => ?_⟩
      obtain ⟨n, hn, n2⟩ := four2 d0 d1
      have qs : q ≠ s := fun e => by
        obtain ⟨a, b, z, _⟩ := sr2
        rw [e, z] at nq
        cases nq
      have k23 : Keep s H2 H3 := (Keep.of e4).trans k3
      have Ls : L ≠ s := sr2.ne hL
      have Bs : B ≠ s := sr2.ne (ss := []) hB
      refine ⟨q, _, d, _, rfl, rfl, SqL.of (k3 q _ qs upd_same), hn, _, rfl, (by omega), (by omega), ?_⟩
      refine for_range (lo := 0) (fun j σ H' => ∃ v6 xs ys, σ = [some (.ref s), some (.ref a), some (.ref fa), some (.int (0 + (i : Int))), some (.ref L), some (.ref B), v6] ∧ Src H' s ∧ (∀ b o, b ≠ s → b ≠ L → b ≠ B → H2 b = some o → H' b = some o) ∧ H' L = some (.lst (xs.map V.str)) ∧ H' B = some (.lst (ys.map V.str)) ∧ (ys ++ xs).Perm (ns.take i))
        ⟨v6, ns.take i, [], rfl, sr3, fun b o n1 _ _ e => k23 b o n1 e, k23 L _ Ls hL, k23 B _ Bs hB, .refl _⟩ ?_ ?_
      · rintro j σ H4 hj ⟨v6, xs, ys, rfl, sr4, k4, hL4, hB4, pm⟩
        have tot : ys.length + xs.length = i := by
          have z := pm.length_eq
          rw [List.length_append, List.length_take] at z
          omega
        have lowx : ∀ x ∈ xs, Low x := fun x hx => by
          have q1 : x ∈ ns.take i := pm.mem_iff.mp (List.mem_append_right _ hx)
          exact name_low (dr.2 x (List.mem_of_mem_take q1)).1
        refine ⟨_, rfl, Nat.zero_le _, fun z nz => ?_⟩
        have e5 : Same H4 (upd H4 z (.lst [])) := same_upd nz
        have LB4 : ∀ {c : Addr} {o : HO}, H4 c = some o → z ≠ c := fun e q => by
          rw [q, e] at nz
          cases nz
        refine ⟨strsD xs, strsD [], .lst (SqL.of (e5 _ _ hL4)) (strs_dp xs), .lst (SqL.of upd_same) .nil, strs_shaped lowx, strs_shaped (fun _ h => nomatch h), ?_⟩
        rw [ne_nil_eq]
        have k5 : ∀ b o, b ≠ s → b ≠ L → b ≠ B → H2 b = some o → (upd H4 z (.lst [])) b = some o := fun b o n1 n2 n3 e => e5 _ _ (k4 b o n1 n2 n3 e)
        have hL5 := e5 _ _ hL4
        have hB5 := e5 _ _ hB4
        have sr5 := sr4.new (o := .lst []) nz
        generalize upd H4 z (.lst []) = H5 at k5 hL5 hB5 sr5 ⊢
        cases xs with
        | nil => exact ⟨_, rfl, ⟨_, [], ys, rfl, sr5, k5, hL5, hB5, pm⟩⟩
        | cons x r =>
          have xl : ((x :: r).map V.str).length = r.length + 1 := by rw [List.length_map, List.length_cons]
          refine ⟨_, rfl, _, rfl, .inl ⟨rfl, _, SqL.of hB5⟩, _, rfl, .inl ⟨rfl, _, SqL.of hL5⟩, _, rfl, _, rfl, L, _, rfl, .inl (SqL.of hL5), s, _, rfl, sr5, (by omega), (by rw [List.length_cons] at tot; omega), fun d4 H6 f0 f1 sr6 k6 => ?_⟩
          obtain ⟨u, rfl⟩ : ∃ u : Nat, d4 = (u : Int) := ⟨d4.toNat, by omega⟩
          have hu : u < (x :: r).length := by
            rw [List.length_cons]
            omega
          have hL6 := k6 L _ Ls hL5
          have hB6 := k6 B _ Bs hB5
          have gu : ((x :: r).map V.str)[u]? = some (.str (x :: r)[u]) := by rw [List.getElem?_map, List.getElem?_eq_getElem hu]; rfl
          refine ⟨L, _, (u : Int), u, _, rfl, rfl, hL6, (by omega), (by omega), PySem.StrLaws.seqIndex_nonneg (by omega) (by omega), gu, ?_⟩
          have hB7 : (upd H6 L (.lst (((x :: r).map V.str).eraseIdx u))) B = some (.lst (ys.map V.str)) := by
            rw [upd_ne LB.symm]
            exact hB6
          refine ⟨B, _, _, rfl, rfl, hB7, ?_, ?_⟩
          · rw [List.length_map]
            exact small1000 (by omega)
          refine ⟨_, (x :: r).eraseIdx u, ys ++ [(x :: r)[u]], rfl, (sr6.put Ls).put Bs, fun b o n1 n2 n3 e => ?_, ?_, ?_, ?_⟩
          · rw [upd_ne n3, upd_ne n2]
            exact k6 b o n1 (k5 b o n1 n2 n3 e)
          · rw [upd_ne LB, upd_same]
            congr 2
            exact erase_map _ _
          · rw [upd_same, List.map_append]
            rfl
          · rw [List.append_assoc]
            exact (List.Perm.append_left ys (erase_perm _ _ hu)).trans pm
      · rintro σ H4 ⟨v6, xs, ys, rfl, sr4, k4, hL4, hB4, pm⟩
        have ha4 : H4 a = some (.lst (ns.map V.str)) := k4 a _ as (ne_of_none ha1 nL1) (ne_of_none ha1 nB1) (e3 _ _ ha1)
        have ysub : ∀ b ∈ ys, b ∈ ns.take i := fun b hb => pm.mem_iff.mp (List.mem_append_left _ hb)
        have ynd : ys.Nodup := ((pm.nodup_iff.mpr (take_nodup dr.1 i)).sublist (List.sublist_append_left ys xs))
        have ylen : ys.length ≤ 7 := by
          have z := pm.length_eq
          rw [List.length_append, List.length_take] at z
          omega
        have gi : (ns.map V.str)[i]? = some (.str ns[i]) := by rw [List.getElem?_map, List.getElem?_eq_getElem hi']; rfl
        have gi' : atI (ns.map V.str) (0 + (i : Int)) = some (.str ns[i]) := by
          rw [Int.zero_add]
          exact atI_nat gi
        have hF4 : H4 fa = some (.lst rs) := k4 fa _ (sr1.neL hF pl) (ne_of_none hF nL1) (ne_of_none hF nB1) (e3 _ _ hF)
        have rl := paired_len pl
        have il : ls.length = i := by
          have z : (K1.nms ls).length = (ns.take i).length := by rw [far.nms]
          rw [List.length_map, List.length_take] at z
          omega
        refine ⟨_, rfl, .inl ⟨rfl, _, SqL.of hF4⟩, _, rfl, _, rfl, a, _, _, _, rfl, rfl, SqL.of ha4, gi', _, rfl, B, _, rfl, .inl ⟨SqL.of hB4, fun T nT => ⟨(by show 2 ≤ sizeLine; decide), fun U nU => ?_⟩⟩⟩
        have e6 : Same H4 (upd H4 T (.tup (ys.map V.str))) := same_upd nT
        have e7 := e6.trans (same_upd (o := .tup [.str ns[i], .ref T]) nU)
        have hT7 := same_upd (o := .tup [.str ns[i], .ref T]) nU T _ (upd_same (H := H4) (a := T) (o := .tup (ys.map V.str)))
        have hU7 := upd_same (H := upd H4 T (.tup (ys.map V.str))) (a := U) (o := .tup [.str ns[i], .ref T])
        generalize upd (upd H4 T (.tup (ys.map V.str))) U (.tup [.str ns[i], .ref T]) = H7 at e7 hT7 hU7 ⊢
        have hF7 := e7 _ _ hF4
        refine ⟨fa, _, _, rfl, rfl, hF7, small1000 (by omega), ?_⟩
        have tupF : ∀ {b : Addr} {xs : List V}, H7 b = some (.tup xs) → b ≠ fa := fun e => ne_of e hF7 (by intro z; cases z)
        have Fs : fa ≠ s := sr1.neL hF pl
        refine ⟨_, _, _, _, ls ++ [(ns[i], ys)], rs ++ [.ref U], rfl, fun b o n1 e => ?_, (sr4.same e7).put Fs, upd_same, ?_, ?_⟩
        · have h1 := k1 b o n1 e
          have nF1 : b ≠ fa := ne_of_none e nF
          rw [upd_ne nF1]
          exact e7 _ _ (k4 b o n1 (ne_of_none h1 nL1) (ne_of_none h1 nB1) (e3 _ _ h1))
        · have pl7 : Paired (LinAt H7) rs ls := paired_imp (fun _ _ q => q.same fun b xs e => e7 _ _ (k4 b _ (fun z => by
            obtain ⟨u, v, z2, _⟩ := sr1
            rw [z, z2] at e
            cases e) (ne_of_none e nL1) (ne_of_none e nB1) (e3 _ _ e))) pl
          have pl8 := Paired.snoc pl7 (⟨U, T, rfl, hU7, hT7⟩ : LinAt H7 (.ref U) (ns[i], ys))
          exact paired_imp (fun _ _ q => q.same fun b xs e => by rw [upd_ne (tupF e)]; exact e) pl8
        · refine ⟨?_, fun j l hl => ?_⟩
          · show List.map (·.1) (ls ++ [(ns[i], ys)]) = _
            rw [List.map_append, List.take_add_one, List.getElem?_eq_getElem hi', ← far.nms]
            rfl
          · by_cases c : j < ls.length
            · rw [List.getElem?_append_left c] at hl
              exact far.base j l hl
            · have ej : j = ls.length := by
                have z := (List.getElem?_eq_some_iff.mp hl).1
                rw [List.length_append, List.length_singleton] at z
                omega
              subst ej
              rw [List.getElem?_append_right (Nat.le_refl _), Nat.sub_self] at hl
              have el := Option.some.inj hl
              subst el
              exact ⟨ynd, fun b hb => by rw [il]; exact ysub b hb, ylen⟩
    · rintro σ H' ⟨v3, v4, v5, v6, ls, rs, rfl, kp, sr, hF, pl, far⟩
      rw [show ((((ns.map V.str).length : Nat) : Int)).toNat = ns.length from al] at far
      exact ⟨_, rfl, k H' fa ls kp sr ⟨rs, hF, pl⟩ (by rw [far.nms, List.take_of_length_le (Nat.le_refl _)]) (far.ok dr n7)⟩
end
end K1

namespace K1
open PySem PySem.Spec PyProof.Rows L2 Own
/-! ### what stands above, reckoned by the law -/
abbrev Any1 (y : List Str) : Prop := True
abbrev All1 (a : Addr) : Prop := True
def spOver : Sp := fun vs H Q _ => ∃ r ls, vs = [.ref r] ∧ LinsAt H r ls ∧ LnsOk ls ∧ ∀ H' d T, Same H H' → DictAt All1 H' d T → Tab Any1 ls T → Q (.ref d) H'
theorem more_nd {o y : List Str} (no : o.Nodup) (ny : y.Nodup) : (o ++ y.filter fun x => decide (x ∉ o)).Nodup := by
  refine List.nodup_append.mpr ⟨no, ny.sublist List.filter_sublist, fun a ha b hb e => ?_⟩
  have q := (List.mem_filter.mp hb).2
  exact of_decide_eq_true q (e ▸ ha)
theorem more_mem {o y : List Str} {x : Str} : x ∈ o ++ (y.filter fun x => decide (x ∉ o)) ↔ x ∈ o ∨ x ∈ y := by
  rw [List.mem_append, List.mem_filter]
  by_cases h : x ∈ o
  · exact ⟨fun _ => .inl h, fun _ => .inl h⟩
  · constructor
    · rintro (q | ⟨q, _⟩)
      · exact .inl q
      · exact .inr q
    · rintro (q | q)
      · exact .inl q
      · exact .inr ⟨q, decide_eq_true h⟩
section
variable {P : Program} {w : World} {K : PySem.W.Frag} {mg : Str → Option Value} {base : Heap}
theorem scOver : FnScope ["lines", "found", "label", "bases", "over", "base", "one"] ["lines"] (defScope sOver) := ⟨rfl, rfl, rfl, by decide +kernel, rfl, by decide +kernel, by decide +kernel⟩
theorem ok_over {f : Addr} {fd : FuncData} (F : Fun K "_law_over" "_law_over" sOver f fd) : FnOk P w K mg base CX0 1 f fd ["lines"] spOver := by
  refine F.ok scOver (fun vs H Q E h => ?_) (fun cdv A outer s H vs Q E hr h => ?_)
  · obtain ⟨r, ls, rfl, _⟩ := h
    rfl
  · obtain ⟨r, ls, rfl, la, ok, k⟩ := h
    obtain ⟨rs, hs, pr⟩ := la
    have hu := hu_of hr
    have hs' : SeqOf H r rs := .inl hs
    refine ⟨_, pss_cons (ps_set (i := 1) scOver.nd rfl (Or.inl rfl) pe_dnewK)
      (pss_cons (ps_for PassesOwn.never rfl (pi_seq 0) (pg_tup rfl (pgs_cons (pg_name (i := 2) scOver.nd rfl (Or.inl rfl)) (pgs_cons (pg_name (i := 3) scOver.nd rfl (Or.inl rfl)) pgs_nil)))
        (pss_cons (ps_set (i := 4) scOver.nd rfl (Or.inr rfl) (pe_lst (pa_cons (pv 2) pa_nil)))
        (pss_cons (ps_for PassesOwn.never rfl (pi_seq 3) (pg_name (i := 5) scOver.nd rfl (Or.inl rfl))
          (pss_one (ps_set (i := 4) scOver.nd rfl (Or.inr rfl) (pe_op op_cat (pv 4) (pe_lc (own := [("one", 6)]) (g := gName 6) (tt := tTest (tOp (rIn K true) (tVar 6) (tVar 4))) rfl scOver.nd (pi_list (pe_dget hu (pv 1) (pv 5) (fun _ _ => rfl))) (blkOk_by (N := ["lines", "found", "label", "bases", "over", "base", "one"]) (sc := defScope sOver) (by decide +kernel))
            (fun _ _ _ _ _ => pg_name (i := 6) scOver.nd rfl (Or.inl rfl)) (fun _ _ _ _ _ => pts_one (pt_cmpR op_notIn_seq (pv 6) (pv 4) (by rfl))) (fun _ _ _ _ _ => pv 6))))))
        (pss_one (ps_dput hu (pv 1) (pv 2) (pv 4) rfl)))))
      (pss_one (ps_ret (pv 1)))), ?_⟩
    intro d nd
    have s1 : Same H (upd H d (.dK [])) := same_upd nd
    refine for_seq (a := r) (xs := rs) (by rfl) (hs'.same s1) (fun i σ H' => ∃ v2 v3 v4 v5 v6 T, σ = [some (.ref r), some (.ref d), v2, v3, v4, v5, v6] ∧ Same H H' ∧ DictAt All1 H' d T ∧ Tab Any1 (ls.take i) T)
      ⟨none, none, none, none, none, [], rfl, s1, ⟨trivial, [], upd_same, .nil⟩, Tab.nil⟩ (fun i σ H' hi ⟨_, _, _, _, _, _, _, sm, _⟩ => seqs_keep hs' s1 sm) ?_ ?_
    · rintro i x σ H' hx ⟨v2, v3, v4, v5, v6, T, rfl, sm, dT, tab⟩
      obtain ⟨l, hl2, t, b, rfl, ht, hb⟩ := paired_at pr hx
      have hi : i < ls.length := (List.getElem?_eq_some_iff.mp hl2).1
      have few := ok.few
      obtain ⟨b1, b2, b3⟩ := ok.base i l hl2
      have hb' : SeqOf H b (l.2.map V.str) := .inr hb
      refine ⟨t, _, rfl, SqT.of (sm _ _ ht), rfl, _, _, rfl, _, _, rfl, rfl, ?_⟩
      refine ⟨_, rfl, (by show 1 ≤ sizeLine; decide), fun p np => ?_⟩
      have s2 : Same H' (upd H' p (.lst [.str l.1])) := same_upd np
      refine for_seq (a := b) (xs := l.2.map V.str) (by rfl) ((hb'.same sm).same s2) (fun j σ H2 => ∃ p v5 v6 o, σ = [some (.ref r), some (.ref d), some (.str l.1), some (.ref b), some (.ref p), v5, v6] ∧ Same H' H2 ∧ H2 p = some (.lst (o.map V.str)) ∧ o.Nodup ∧ ∀ x, x ∈ o ↔ x = l.1 ∨ ∃ c ∈ l.2.take j, x ∈ look T c)
        ⟨p, v5, v6, [l.1], rfl, s2, upd_same, by simp, fun x => by simp⟩ (fun j σ H2 hj ⟨_, _, _, _, _, sm2, _⟩ => seqs_keep (hb'.same sm) s2 sm2) ?_ ?_
      · rintro j x σ H2 hx ⟨p, v5, v6, o, rfl, sm2, hp, no, mo⟩
        rw [List.getElem?_map] at hx
        obtain ⟨c, hc, rfl⟩ := Option.map_eq_some_iff.mp hx
        have cl : c ∈ l.2 := List.mem_of_getElem? hc
        have cT : c ∈ T.map (·.1) := by rw [tab.nms]; exact b2 c cl
        obtain ⟨_, kvs, hd, pk⟩ := dT.same sm2
        obtain ⟨q, nq, eq, hq⟩ := ent_get pk (look_in cT)
        have g : DGet H2 d (.str c) (some (.ref q)) := by
          rw [← eq]
          exact DGet.k (k := Sum.inr c) hd
        have lk := look_len (ok.take i) tab c
        have ol := small_of ok hl2 tab no fun x hx => (mo x).mp hx |>.imp id fun ⟨c, h1, h2⟩ => ⟨c, h2⟩
        refine ⟨_, rfl, _, rfl, _, rfl, d, _, rfl, g, q, rfl, ⟨_, SqL.of hq⟩, fun D nD => ?_⟩
        refine lc_list (K := K) (a := q) (xs := (look T c).map V.str) (fun m H3 => Same H2 H3 ∧ H3 D = some (.lst ((((look T c).take m).filter fun x => decide (x ∉ o)).map V.str))) ⟨same_upd nD, upd_same⟩ (fun m H3 hm z => SqL.of (z.1 _ _ hq)) ?_ ?_
        · rintro m x H3 hx ⟨sm3, hD⟩
          rw [List.getElem?_map] at hx
          obtain ⟨z, hz, rfl⟩ := Option.map_eq_some_iff.mp hx
          refine ⟨rfl, _, rfl, _, rfl, p, _, rfl, .inl (SqL.of (sm3 _ _ hp)), rfl, flat_strs _, _, rfl, ?_⟩
          rw [show (if true = true then !inV (V.str z) (o.map V.str) else inV (V.str z) (o.map V.str)) = decide (z ∉ o) from by
            rw [if_pos rfl, inV_str, decide_not]]
          have tk : (((look T c).take (m + 1)).filter fun x => decide (x ∉ o)) = (((look T c).take m).filter fun x => decide (x ∉ o)) ++ [z].filter fun x => decide (x ∉ o) := by
            rw [List.take_add_one, hz, List.filter_append]
            rfl
          refine ite2 (fun cc => ?_) (fun cc => ?_)
          · refine ⟨_, rfl, _, hD, ?_, same_past nD sm3, ?_⟩
            · have a := filter_len (fun x => decide (x ∉ o)) ((look T c).take m)
              rw [List.length_take] at a
              rw [List.length_map]
              exact small1000 (by omega)
            · show upd H3 D _ D = _
              rw [upd_same, tk, List.filter_cons, if_pos cc, List.map_append]
              rfl
          · refine ⟨sm3, ?_⟩
            rw [tk, List.filter_cons, if_neg cc, List.filter_nil, List.append_nil]
            exact hD
        · rintro H3 ⟨sm3, hD⟩
          rw [List.length_map, List.take_of_length_le (Nat.le_refl _)] at hD
          have fl := filter_len (fun x => decide (x ∉ o)) (look T c)
          refine ⟨p, D, _, _, rfl, rfl, sm3 _ _ hp, hD, ?_, fun u nu => ?_⟩
          · rw [List.length_map, List.length_map, sizeLine_eq]
            omega
          refine ⟨u, _, _, o ++ (look T c).filter fun x => decide (x ∉ o), rfl, (sm2.trans sm3).trans (same_upd nu), ?_, more_nd no (look_nd tab c), fun x => ?_⟩
          · rw [upd_same, List.map_append]
          · rw [more_mem, mo x, List.take_add_one, hc]
            simp only [Option.toList, List.mem_append, List.mem_singleton]
            constructor
            · rintro ((e | ⟨c', h1, h2⟩) | h2)
              · exact .inl e
              · exact .inr ⟨c', .inl h1, h2⟩
              · exact .inr ⟨c, .inr rfl, h2⟩
            · rintro (e | ⟨c', h1 | h1, h2⟩)
              · exact .inl (.inl e)
              · exact .inl (.inr ⟨c', h1, h2⟩)
              · subst h1
                exact .inr h2
      · rintro σ H2 ⟨p, v5, v6, o, rfl, sm2, hp, no, mo⟩
        rw [List.length_map, List.take_of_length_le (Nat.le_refl _)] at mo
        have ol := small_of ok hl2 tab no fun x hx => (mo x).mp hx |>.imp id fun ⟨c, h1, h2⟩ => ⟨c, h2⟩
        obtain ⟨_, kvs, hd, pk⟩ := dT.same sm2
        have nlT : l.1 ∉ T.map (·.1) := by
          rw [tab.nms]
          exact not_before ok.nd hl2
        have kl : kvs.length = T.length := paired_len pk
        have Tl : T.length ≤ 7 := by
          rw [tab.len, List.length_take]
          omega
        have put := DPut.k (k := Sum.inr l.1) (v := .ref p) hd (small1000 (by omega))
        rw [putK_new _ (ent_none pk nlT)] at put
        refine ⟨_, rfl, _, rfl, _, rfl, d, _, rfl, put, ?_⟩
        have e4 : ∀ a u, a ≠ d → H2 a = some u → (upd H2 d (.dK (kvs ++ [(Sum.inr l.1, .ref p)]))) a = some u := fun a u ne e => by
          rw [upd_ne ne]
          exact e
        refine ⟨_, _, _, _, _, T ++ [(l.1, o)], rfl, fun a u e => e4 a u (ne_of_none e nd) (sm2 _ _ (sm _ _ e)), ⟨trivial, _, upd_same, ?_⟩, ?_⟩
        · refine Paired.snoc (paired_imp (fun kv t => ?_) pk) ⟨rfl, p, trivial, rfl, e4 _ _ (ne_of hp hd (by intro z; cases z)) hp⟩
          rintro ⟨a1, a2, a3, a4, a5⟩
          exact ⟨a1, a2, a3, a4, e4 _ _ (ne_of a5 hd (by intro z; cases z)) a5⟩
        · rw [List.take_add_one, hl2]
          exact tab.snoc ⟨no, fun x => mo x⟩ trivial
    · rintro σ H' ⟨v2, v3, v4, v5, v6, T, rfl, sm, dT, tab⟩
      rw [paired_len pr, List.take_of_length_le (Nat.le_refl _)] at tab
      exact ⟨_, rfl, k _ d T sm dT tab⟩
end
end K1

namespace Own
open PySem PySem.Spec PyProof.Rows L2
/-! a def's promise where it is known that no repr is under way -/
def Calm (A : Around) : Prop := A.guards = some []
theorem Calm.deeper {A : Around} (h : Calm A) (env : Env) : Calm (A.deeper env) := h
theorem Calm.in1 {A : Around} (h : Calm A) : Calm A.in1 := h
structure FnG (P : Program) (w : World) (K : PySem.W.Frag) (mg : Str → Option Value) (base : Heap) (k : Nat) (f : Addr) (fd : FuncData) (ps : List Str) (sp : Sp) : Prop where
  len : ∀ vs H Q E, sp vs H Q E → vs.length = ps.length
  run : ∀ (A : Around) (out : List Env) (s : Shared) (H : Hp) (args : Args) (us : List Value) (vs : List V) (Q : VK) (E : XK), Calm A → Room k A → Env0 P w K mg base A out s H → BindsTo s fd args (ps.zip us) → Vals vs us → sp vs H Q E →
    codeAny (model P w) A (.call (.ref f) args) (CR CX0 out P w H s Q E) s
section
variable {P : Program} {w : World} {K : PySem.W.Frag} {mg : Str → Option Value} {base : Heap} {j k : Nat} {f : Addr} {fd : FuncData} {ps : List Str} {sp : Sp}
theorem fnG_ok (F : FnOk P w K mg base CX0 k f fd ps sp) : FnG P w K mg base k f fd ps sp :=
  ⟨F.len, fun A out s H args us vs Q E _ hr e0 hb r h => F.run A out s H args us vs Q E hr e0 hb r h⟩
theorem FnG.mono (F : FnG P w K mg base j f fd ps sp) (h : j ≤ k) : FnG P w K mg base k f fd ps sp :=
  ⟨F.len, fun A out s H args us vs Q E c hr => F.run A out s H args us vs Q E c (hr.mono h)⟩
end
section
variable {X : Cx} {k : Nat} {f : Addr} {fd : FuncData} {ps : List Str} {sp : Sp} {ds : List Value} {dvs : List V} {E : XK} {x : Str} {p pos : Pos} {e : Expr} {es : List Expr} {t : TA}
theorem run_g {pins : List (Addr × Obj)} {σ : L2.St} {H : Hp} {s : Shared} {Q : VK} {us : List Value} {vs : List V} (F : FnG X.prog X.w X.K X.mg X.base k f fd ps sp) (hc : Calm X.A) (hr : Room k X.A) (hb : Binds X.K fd ps []) (I : Inv X pins σ H s) (r : Vals vs us) (h : sp vs H Q E) :
    wpAny (model X.prog X.w) X.A (call (.ref f) us) (EP X pins σ Q) X.xe s := by
  have hl : us.length = ps.length := r.length.symm.trans (F.len _ _ _ _ h)
  have b := hb s us I.kIn (by rw [List.append_nil]; exact hl)
  rw [List.append_nil] at b
  refine wpAny_call (codeAny_mono (F.run X.A X.stack s H ⟨us, []⟩ us vs Q E hc hr I.env0 b r h) fun z s' hz => ?_)
  match z, hz with
  | .error _, hz => exact hz.elim
  | .ok (.ret _), hz => exact I.after hz
  | .ok .next, hz => exact hz.elim
  | .ok .brk, hz => exact hz.elim
  | .ok .cont, hz => exact hz.elim
theorem pe_callG (F : FnG X.prog X.w X.K X.mg X.base k f fd ps sp) (hc : Calm X.A) (hr : Room k X.A) (hg : Gl X x) (hm : X.mg x = some (.ref f)) (hk : PySem.W.keepIn X.K (.ref f) = true) (hb : Binds X.K fd ps []) (ha : PA X (e :: es) t)
    (hdb : (x == ("__debug__" : Str)) = false := by decide) (hst : starEach (e :: es) X.env = (false, eval e X.env) :: starEach es X.env := by rfl) (hno : (backTo pos (starEach es X.env)).any (·.1) = false := by rfl) :
    PE X (.Call (.Name x p) (e :: es) [] pos) (tCall sp [] E t) := by
  refine ⟨fun pins s σ H Q I q => wpAny_Call_Name_kw (ld_glob I hg hm (PySem.W.callWith_K (h₀ := X.base) I.ok.mod.kin hk (thn (ha.run pos pins s σ H _ I q) fun us s1 hq => ?_) hst hno) hdb)⟩
  obtain ⟨vs, H1, I1, r1, q1⟩ := hq
  rw [List.append_nil] at q1
  exact ⟨I1.kIn, run_g F hc hr hb I1 r1 q1⟩
end
theorem okG {P : Program} {w : World} {K : PySem.W.Frag} {mg : Str → Option Value} {base : Heap} {x qual : Str} {st : Stmt} {f : Addr} {fd : FuncData} {N ps : List Str} {k : Nat} {sp : Sp} (F : Fun K x qual st f fd) (S : FnScope N ps (defScope st)) (len : ∀ vs H Q E, sp vs H Q E → vs.length = ps.length)
    (hbody : ∀ (cdv : Value) (A : Around) (out : List Env) (s : Shared) (H : Hp) (vs : List V) (Q : VK) (E : XK), Calm (A.deeper (envOfC qual (defScope st) s.heap.objs.size f cdv)) → Room k (A.deeper (envOfC qual (defScope st) s.heap.objs.size f cdv)) → sp vs H Q E →
      ∃ t, PSs (cxOf CX0 P w K mg base N qual (defScope st) f cdv A out s H E).nox (defBody st) t ∧ t { nx := fun _ H' => Q .non H', rt := Q } (start N vs) H) : FnG P w K mg base (k + 1) f fd ps sp := by
  obtain ⟨oc, od, kV, doc, pm, an, cdv, ct, osl, rfl, lk, hcd⟩ := F.ex
  refine ⟨len, fun A out s H args us vs Q E hc hr e0 hb r h => ?_⟩
  have kin := e0.mod.kin.keeps fun b o q => (e0.bs b o q).1
  have nolim := e0.mod.nolimit.keeps fun b o q => (e0.bs b o q).1
  have names : ∀ y ∈ ps.zip us, (defScope st).names.lookup y.1 = some .local ∨ ((defScope st).names.lookup y.1 = some .cell ∧ ((cellsFrom (s.heap.objs.size + 1) (defScope st).names []).lookup y.1).isSome = true) := fun y hy =>
    (S.par y.1 (List.of_mem_zip (a := y.1) (b := y.2) hy).1).imp id fun q => ⟨q, PySem.W.cellsFrom_some _ _ _ (.inl q)⟩
  refine codeAny_call_function hr.depth (kin _ _ lk) rfl S.co S.gen rfl (PySem.W.codeRec_of kin hcd) (hb _ _ _ _ (wpAny_newFunctionEnv_cells S.kind names fun env he s1 c => ?_))
  subst he
  obtain ⟨t, ht, q⟩ := hbody cdv A out s H vs Q E (hc.deeper _) (hr.deeper _) h
  refine ⟨nolim.keeps c.toInCall.keep, codeAny_func (wpAny_mono (ht.nox.run [] s1 (start N vs) H _ (inv_start S hr.hd e0 (len _ _ _ _ h) r c) q) (fun fl s' z => ?_) fun _ _ z => z)⟩
  match fl, z with
  | .ret u, ⟨v, σ', H', J, rv, q⟩ => exact ⟨v, H', J.os, J.bare, J.base, J.hok, rv, q⟩
  | .next, ⟨σ', H', J, q⟩ => exact ⟨V.non, H', J.os, J.bare, J.base, J.hok, rfl, q⟩
  | .brk, ⟨_, _, _, q⟩ => exact q.elim
  | .cont, ⟨_, _, _, q⟩ => exact q.elim
end Own

namespace Own
open PySem PySem.Spec PyProof.Rows L2
/-! the end of a law whose promise asks that no repr is under way -/
section
variable {P : Program} {w : World} {K : PySem.W.Frag} {mg mb : Str → Option Value} {k : Nat} {fa a : Addr} {fd : FuncData} {x : Str} {sp : Sp} {s : Shared} {vs : List Value} {ns : List Int}
def scriptObj (vs : List Value) : Obj := { cls := .type "list", data := .seq vs.toArray }
/-- from a heap in which at most the script is tracked -/
theorem end_from {H : Hp} (kin : K.In s.heap) (hns : s.heap.Ns mainGlobals mg) (hb : s.heap.Ns builtinsNs mb) (hbb : ∀ x : Str, x ≠ "__name__" → mb x = bootBuiltins x) (nl : s.heap.NoLimit) (hg : s.gens = #[])
    (ha : s.heap.get? a = some (scriptObj vs)) (only : ∀ b, H b = none ∨ b = a ∧ H b = some (.frz (scriptObj vs) (.lst (ns.map V.int)))) (out : H a ≠ none → K.lookup a = none) (hok : HOk P w H s.heap) (hr : Room k callerA)
    (F : ∀ base : Heap, K.In base → base.Ns mainGlobals mg → FnG P w K mg base k fa fd [x] sp) (bind : ∀ (s : Shared) (u : Value), BindsTo s fd ⟨[u], []⟩ [(x, u)]) (q : sp [.ref a] H (fun v _ => v = .bl true) fun _ _ _ => False) :
    codeAny (model P w) callerA (.call (.ref fa) ⟨[.ref a], []⟩) (fun r z => r = .ok (.ret (.bool true)) ∧ OldK s.heap z.heap ∧ z.os = s.os ∧ AllBare z.gens) s := by
  have away : ∀ {b : Addr} {o : Obj}, s.heap.get? b = some o → (H b ≠ none → o ≠ scriptObj vs) → H b = none := fun {b o} e n => by
    rcases only b with z | ⟨z1, z2⟩
    · exact z
    · subst z1
      rw [ha] at e
      exact absurd (Option.some.inj e).symm (n (by rw [z2]; exact fun c => nomatch c))
  have put : ∀ {b : Addr} {m : Str → Option Value}, s.heap.Ns b m → (hidT s.heap H).Ns b m := fun ⟨o, es, ep, e, d, r⟩ => ⟨o, es, ep, hidT_get e (away e fun _ c => by
    rw [c] at d
    exact nomatch d), d, r⟩
  have kinB : K.In (hidT s.heap H) := fun b o e => hidT_get (kin b o e) (by
    cases c : H b with
    | none => rfl
    | some u =>
      rcases only b with z | ⟨z, _⟩
      · rw [z] at c
        cases c
      · subst z
        rw [out (by rw [c]; exact fun h => nomatch h)] at e
        cases e)
  obtain ⟨mc, n1, n2⟩ := nl
  have env : Env0 P w K mg (hidT s.heap H) callerA [] s H :=
    ⟨rfl, ⟨kinB, put hns, ⟨mb, put hb, hbb⟩, ⟨mc, put n1, n2⟩⟩, fun _ _ e => of_hidT e, Nat.le_of_eq (hidT_size _ _), trivial, (fun b h => nomatch (show b ∈ ([] : List Addr) from h)), hok, .of_eq hg⟩
  refine codeAny_mono ((F _ kinB (put hns)).run callerA [] s H ⟨[.ref a], []⟩ [.ref a] [.ref a] _ _ rfl hr env (bind s (.ref a)) (.cons rfl .nil) q) fun r z hz => ?_
  match r, hz with
  | .error _, hz => exact hz.elim
  | .ok .next, hz => exact hz.elim
  | .ok .brk, hz => exact hz.elim
  | .ok .cont, hz => exact hz.elim
  | .ok (.ret u), ⟨v, H', os, bare, un, hok', rv, qv⟩ =>
    have qv' : v = .bl true := qv
    subst qv'
    have ru : u = Value.bool true := rv
    subst ru
    refine ⟨rfl, OldK.of_keep fun b o e => ?_, os, bare⟩
    rcases only b with z1 | ⟨z1, z2⟩
    · exact un.keep b o e z1 (fun h => nomatch (show b ∈ ([] : List Addr) from h)) (fun h => nomatch h)
    · obtain ⟨e1, _⟩ := hok b _ z2
      obtain ⟨e2, _⟩ := hok' b _ (un.frzs b _ _ z2)
      have e3 := e1.symm.trans e
      cases e3
      exact e2
theorem end_call (kin : K.In s.heap) (hns : s.heap.Ns mainGlobals mg) (hb : s.heap.Ns builtinsNs mb) (hbb : ∀ x : Str, x ≠ "__name__" → mb x = bootBuiltins x) (nl : s.heap.NoLimit) (hg : s.gens = #[])
    (ha : s.heap.get? a = some (scriptObj vs)) (hi : IntsAre vs ns) (hl : ns.length ≤ sizeLine) (hr : Room k callerA)
    (F : ∀ base : Heap, K.In base → base.Ns mainGlobals mg → FnG P w K mg base k fa fd [x] sp) (bind : ∀ (s : Shared) (u : Value), BindsTo s fd ⟨[u], []⟩ [(x, u)]) (q : ∀ H : Hp, SqL K H a (ns.map V.int) → sp [.ref a] H (fun v _ => v = .bl true) fun _ _ _ => False) :
    codeAny (model P w) callerA (.call (.ref fa) ⟨[.ref a], []⟩) (fun r z => r = .ok (.ret (.bool true)) ∧ OldK s.heap z.heap ∧ z.os = s.os ∧ AllBare z.gens) s := by
  have rv := vals_ints hi
  have lv := hi.length
  by_cases c : K.lookup a = none
  · have at1 : ∀ b, (fun b => if b = a then some (HO.frz (scriptObj vs) (.lst (ns.map V.int))) else none) b = none ∨ b = a ∧ (fun b => if b = a then some (HO.frz (scriptObj vs) (.lst (ns.map V.int))) else none) b = some (.frz (scriptObj vs) (.lst (ns.map V.int))) := fun b => by
      by_cases e : b = a
      · exact .inr ⟨e, if_pos e⟩
      · exact .inl (if_neg e)
    refine end_from (H := fun b => if b = a then some (.frz (scriptObj vs) (.lst (ns.map V.int))) else none) kin hns hb hbb nl hg ha at1 (fun _ => c) (fun b u z => ?_) hr F bind (q _ (.inl (.inr ⟨scriptObj vs, if_pos rfl⟩)))
    rcases at1 b with e | ⟨e1, e2⟩
    · have z2 := e.symm.trans z
      cases z2
    · have z2 := e2.symm.trans z
      cases z2
      subst e1
      exact ⟨ha, by rw [List.length_map]; exact hl, vs, _, rv, ha⟩
  · obtain ⟨o, ho⟩ := Option.ne_none_iff_exists'.mp c
    have e := (kin a o ho).symm.trans ha
    cases e
    exact end_from (ns := ns) (H := fun _ => none) kin hns hb hbb nl hg ha (fun _ => .inl rfl) (fun z => absurd rfl z) (fun b u z => nomatch z) hr F bind (q _ (.inr ⟨_, vs.toArray, _, ho, rfl, rfl, rfl, by rw [List.size_toArray, lv]; exact hl, by simpa using rv⟩))
end
theorem walk_ofG {l : PySem.W.OpenLaw} {n k : Nat} {q : Program} {loose : List Str} {XP : (Str → Option Value) → Heap → Prop} {YP : World → Heap → Prop} {d : DefRec} {K : Params → PySem.W.Frag} {sp : World → Sp} {x : Str} (hn : l.most = some n) (hn2 : n ≤ sizeLine) (hdf : d.params.defaults = []) (hr : Room k callerA)
    (hY : ∀ (w : World) (h : Heap), YP w h → (K w.params).In h)
    (F : ∀ (w : World) (mg : Str → Option Value) (fa : Addr) (h : Heap), (K w.params).In h → h.Ns mainGlobals mg → mg d.name = some (.ref fa) → ∃ fd : FuncData, (∀ (s : Shared) (u : Value), BindsTo s fd ⟨[u], []⟩ [(x, u)]) ∧ ∀ base : Heap, (K w.params).In base → base.Ns mainGlobals mg → FnG l.prog w (K w.params) mg base k fa fd [x] (sp w))
    (hsp : ∀ (w : World) (H : Hp) (a : Addr) (ns : List Int), ns.length ≤ n → SqL (K w.params) H a (ns.map V.int) → sp w [.ref a] H (fun v _ => v = .bl true) fun _ _ _ => False) : PySem.W.WalkO q loose XP YP l.row.toRowW d [] (fun f vs => PySem.call f vs) := by
  refine Att.attach_call hn hdf fun w s0 s1 mg mb fa o pm cd doc a vs ns G Y ho hd hcd hmg hobj hints hlen hg => ?_
  have kin := hY w _ Y
  obtain ⟨fd, bind, hF⟩ := F w mg fa _ kin G.T.g hmg
  exact end_call kin G.T.g G.T.b G.T.builtins G.T.nolimit hg hobj hints (Nat.le_trans hlen hn2) hr hF bind fun H hS => hsp w H a ns hlen hS
end Own

namespace Own
open PySem PySem.Spec PyProof.Rows L2
/-! data: what a value reads as -/
theorem Same.rd {H H' : Hp} {a : Addr} {o : HO} (s : Same H H') (h : Rd H a o) : Rd H' a o := h.elim (fun e => .inl (s _ _ e)) fun ⟨b, e⟩ => .inr ⟨b, s _ _ e⟩
theorem Same.tup {K : PySem.W.Frag} {H H' : Hp} {a : Addr} {xs : List V} (s : Same H H') (h : SqT K H a xs) : SqT K H' a xs := h.elim (fun e => .inl (Same.rd s e)) .inr
section
variable {K : PySem.W.Frag} {H H' : Hp}
mutual
theorem dp_same (s : Same H H') : ∀ {v : V} {d : PyData}, Dp K H v d → Dp K H' v d
  | _, _, .non => .non
  | _, _, .bl b => .bl b
  | _, _, .int i => .int i
  | _, _, .str z => .str z
  | _, _, .lst h a => .lst (s.seq h) (dpAll_same s a)
  | _, _, .tup h a => .tup (Same.tup s h) (dpAll_same s a)
theorem dpAll_same (s : Same H H') : ∀ {vs : List V} {ds : List PyData}, DpAll K H vs ds → DpAll K H' vs ds
  | _, _, .nil => .nil
  | _, _, .cons a r => .cons (dp_same s a) (dpAll_same s r)
end
theorem dpAll_len : ∀ {vs : List V} {ds : List PyData}, DpAll K H vs ds → vs.length = ds.length
  | _, _, .nil => rfl
  | _, _, .cons _ r => by rw [List.length_cons, List.length_cons, dpAll_len r]
theorem dpAll_at : ∀ {vs : List V} {ds : List PyData}, DpAll K H vs ds → ∀ {i : Nat} {v : V}, vs[i]? = some v → ∃ d, ds[i]? = some d ∧ Dp K H v d
  | _, _, .nil, i, v, e => by simp at e
  | _, _, .cons a r, 0, v, e => ⟨_, rfl, by
    have z := Option.some.inj e
    rw [← z]
    exact a⟩
  | _, _, .cons a r, i + 1, v, e => dpAll_at r (i := i) (by simpa using e)
theorem dpAll_at' : ∀ {vs : List V} {ds : List PyData}, DpAll K H vs ds → ∀ {i : Nat} {d : PyData}, ds[i]? = some d → ∃ v, vs[i]? = some v ∧ Dp K H v d
  | _, _, .nil, i, v, e => by simp at e
  | _, _, .cons a r, 0, v, e => ⟨_, rfl, by
    have z := Option.some.inj e
    rw [← z]
    exact a⟩
  | _, _, .cons a r, i + 1, v, e => dpAll_at' r (i := i) (by simpa using e)
theorem dpAll_app : ∀ {vs ws : List V} {ds es : List PyData}, DpAll K H vs ds → DpAll K H ws es → DpAll K H (vs ++ ws) (ds ++ es)
  | _, _, _, _, .nil, b => b
  | _, _, _, _, .cons a r, b => .cons a (dpAll_app r b)
theorem dpAll_take : ∀ {vs : List V} {ds : List PyData} (n : Nat), DpAll K H vs ds → DpAll K H (vs.take n) (ds.take n)
  | _, _, 0, _ => by
    rw [List.take_zero, List.take_zero]
    exact .nil
  | _, _, n + 1, .nil => .nil
  | _, _, n + 1, .cons a r => .cons a (dpAll_take n r)
theorem dpAll_drop : ∀ {vs : List V} {ds : List PyData} (n : Nat), DpAll K H vs ds → DpAll K H (vs.drop n) (ds.drop n)
  | _, _, 0, a => a
  | _, _, n + 1, .nil => .nil
  | _, _, n + 1, .cons a r => dpAll_drop n r
theorem dpAll_rev {vs : List V} {ds : List PyData} (h : DpAll K H vs ds) : DpAll K H vs.reverse ds.reverse := by
  induction vs generalizing ds with
  | nil =>
    cases h
    exact .nil
  | cons v r ih =>
    cases h with
    | cons a b =>
      rw [List.reverse_cons, List.reverse_cons]
      exact dpAll_app (ih b) (.cons a .nil)
/-- the built-in type of data -/
def tyD : PyData → String
  | .none => "NoneType"
  | .bool _ => "bool"
  | .int _ => "int"
  | .str _ => "str"
  | .list _ => "list"
  | .tuple _ => "tuple"
  | .dict _ => "dict"
theorem dp_ty {v : V} {d : PyData} (h : Dp K H v d) : TyX K H v (.type (tyD d)) := by
  cases h with
  | non => exact .base .non
  | bl b => exact .base (.bl b)
  | int i => exact .base (.int i)
  | str z => exact .base (.str z)
  | lst h _ =>
    rcases h with (h | ⟨o, h⟩) | ⟨o, _, _, h, c, _⟩
    · exact .base (.lst h)
    · exact .base (.frz h)
    · exact .kList h c
  | tup h _ =>
    rcases h with (h | ⟨o, h⟩) | ⟨o, _, _, h, c, _⟩
    · exact .base (.tup h)
    · exact .fTuple h
    · exact .kTuple h c
end
section
variable {X : Cx}
/-- repr of data -/
theorem call_reprD (hc : Calm X.A) (hr : Room 1 X.A) : CallR X (.builtin "repr") (fun xs H Q => ∃ v d, xs = [v] ∧ Dp X.K H v d ∧ d.showable = true ∧ d.canLay0 = true ∧ d.depth ≤ 100 ∧ d.shown.length ≤ sizeLine ∧ Q (.str d.shown) H) := by
  intro pins s σ H xs us Q I r h
  obtain ⟨v, d, rfl, hd, hs, hl, hp, hz, q⟩ := h
  obtain ⟨u, rfl, ru⟩ := vals1 r
  obtain ⟨as, rd⟩ := Dp.reads I d v u hd ru
  have hu : X.A.units + (d.depth + 1) < cLine := by have := hr.un; omega
  have fin : ∀ h' t tk, (∀ b o, s.heap.get? b = some o → h'.get? b = some o) → EP X pins σ Q (.str d.shown t) { s with heap := h', toks := tk } := fun h' t tk k => ⟨.str d.shown, H, I.kept (t' := tk) k, ⟨_, rfl⟩, q⟩
  cases hd with
  | non =>
    cases ru
    exact PySem.P.repr_of_none (fin _ _ _ fun _ _ e => e)
  | bl b =>
    cases ru
    exact PySem.P.repr_of_bool (fin _ _ _ fun _ _ e => e)
  | int i =>
    obtain ⟨t, rfl⟩ := ru
    exact PySem.P.repr_of_int (of_decide_eq_true hs) (fin _ _ _ fun _ _ e => e)
  | str z =>
    obtain ⟨t, rfl⟩ := ru
    exact PySem.P.repr_of_str (fin _ _ _ fun _ _ e => e) hz
  | lst h a =>
    cases ru
    exact repr_of_reads' rd hs (PyData.noDict_hsm (PyData.hasDict_of_canLay _ hl)) hc hu (fun _ _ e => e) fin hz
  | tup h a =>
    cases ru
    exact repr_of_reads' rd hs (PyData.noDict_hsm (PyData.hasDict_of_canLay _ hl)) hc hu (fun _ _ e => e) fin hz
end
end Own

namespace Own
open PySem PySem.Spec PyProof.Rows L2
/-! xs.extend(t), t a tuple -/
theorem extend_tup (l : Addr) (its : Array Value) (n : Nat) (b : Addr) (ts : Array Value) (m : Nat) (od : Option Addr) (sl : Array (Option Value)) (h0 : ¬(!its.isEmpty && Builtin.List.listTooLong (its.size + ts.size)) = true) (h1 : its.size ≤ sizeLine) (h2 : its.size + ts.size ≤ sizeLine + 1) :
    Meets (Builtin.«list.extend» ⟨[.ref l, .ref b], []⟩) (fun _ R s => s.heap.get? l = some { cls := .type "list", dict := none, data := .seq its n, slots := #[] } ∧ s.heap.get? b = some { cls := .type "tuple", dict := od, data := .seq ts m, slots := sl } ∧
      R (.ok (.ret Value.none)) { s with heap := s.heap.update l (Obj.mapSeq fun x => x ++ ts), toks := s.toks }) := by
  refine .of_wp fun prog w A R s h => ?_
  obtain ⟨hp, g, d, tk, os⟩ := s
  obtain ⟨hl, hb, h⟩ := h
  have s1 := AutoSeq1.idx_int
  have s2 := AutoSeq1.sub_tuple_tuple
  have s3 := AutoSeq1.sub_list_list
  have s4 := AutoSeq1.sub_tuple_list
  have s5 := AutoSeq1.sub_list_tuple
  have hz : (its ++ ts).size ≤ sizeLine + 1 := by
    rw [Array.size_append]
    exact h2
  wp_walk using (wpAny_updateSeq hl rfl (hz := h1) (_hz' := hz)), AutoSeq1.wpAny_loadPart' hl, AutoSeq1.wpAny_loadPart' hb
  exact ⟨_, rfl, h⟩
section
variable {X : Cx}
def rExtT (K : PySem.W.Frag) : V → List V → Hp → VK → Prop := fun x vs H Q => ∃ l b xs zs, x = .ref l ∧ vs = [.ref b] ∧ H l = some (.lst xs) ∧ SqT K H b zs ∧ xs.length + zs.length ≤ sizeLine ∧ Q .non (upd H l (.lst (xs ++ zs)))
theorem mt_extT : MtM X "list.extend" (rExtT X.K) := by
  intro pins s σ H x vs v us Q I rx rv h
  obtain ⟨l, b, xs, zs, rfl, rfl, hH, hB, hz, q⟩ := h
  cases rx
  obtain ⟨u, rfl, ru⟩ := rv.one
  cases ru
  obtain ⟨z, its, n, r, hl, e⟩ := I.lstM hH
  obtain ⟨ts, r2, ⟨⟨oc, od, dt, sl⟩, e2, c2, m, d2⟩, z2⟩ := I.tuple hB
  have c2' : oc = Value.type "tuple" := c2
  have d2' : dt = Data.seq ts.toArray m := d2
  subst c2' d2'
  have l2 := r2.length
  have sz : its.toArray.size + ts.toArray.size ≤ sizeLine := by
    rw [List.size_toArray, List.size_toArray]
    omega
  have short : ¬(!its.toArray.isEmpty && Builtin.List.listTooLong (its.toArray.size + ts.toArray.size)) = true := by
    rw [notLongL sz, Bool.and_false]
    exact Bool.false_ne_true
  refine call_meets F.slot_list_extend ⟨_, e, rfl⟩ F.entry_list_extend (F.args_list_extend_2 _ _) (extend_tup l its.toArray n b ts.toArray m od sl short (by rw [List.size_toArray]; omega) (by omega)) ⟨e, e2, ?_⟩
  exact ⟨.non, _, I.lset (its' := its ++ ts) hH e (by simp) (r.append r2) (by rw [List.length_append]; omega), rfl, q⟩
end
end Own

namespace Own
open PySem PySem.Spec PyProof.Rows L2 HT
/-! t[::-1], t a tuple -/
section
variable {prog : Program} {w : World} {A : Around} {E : Value → Shared → Prop} {s : Shared}
theorem back_places (n : Nat) : Builtin.Slice.slicePlaces ((n : Int) - 1) (-1) (-1) = n := by
  unfold Builtin.Slice.slicePlaces
  rw [if_neg (by decide)]
  by_cases h : (n : Int) - 1 > -1
  · rw [if_pos h, show (- -1 : Int) = 1 by decide, Int.ediv_one]
    omega
  · rw [if_neg h]
    omega
theorem back_applied {sl : Addr} {k : Tok} {n : Nat} {Q : Int × Int × Nat → Shared → Prop} (sp : s.heap.IsSliceOf sl .none .none (.int (-1) k)) (q : Q ((n : Int) - 1, -1, n) s) : wpAny (model prog w) A (Builtin.Slice.sliceApplied (.ref sl) (pure (n : Int))) Q E s := by
  obtain ⟨o, ho, hc, hd⟩ := id sp
  unfold Builtin.Slice.sliceApplied Builtin.Slice.sliceFields
  refine wpAny_bind (wpAny_bind (wpAny_field ho hd (x := .none) rfl (wpAny_bind (wpAny_field ho hd (x := .none) rfl (wpAny_bind (wpAny_field ho hd (x := .int (-1) k) rfl (wpAny_pure ?_)))))))
  refine wpAny_bind (slicePart_ (.int (-1) k) ?_)
  show wpAny _ _ (if ((-1 : Int) == 0) = true then _ else _) _ _ s
  rw [if_neg (by decide)]
  refine wpAny_bind (slicePart_ .none (wpAny_bind (slicePart_ .none (wpAny_bind (wpAny_pure ?_)))))
  have e : Builtin.Slice.sliceAdjust none none (-1) (n : Int) = ((n : Int) - 1, -1) := rfl
  show wpAny _ _ (match Builtin.Slice.sliceAdjust none none (-1) (n : Int) with | (lo, hi) => pure (lo, (-1 : Int), Builtin.Slice.slicePlaces lo hi (-1))) _ _ s
  rw [e]
  show wpAny _ _ (pure ((n : Int) - 1, (-1 : Int), Builtin.Slice.slicePlaces ((n : Int) - 1) (-1) (-1))) _ _ s
  rw [back_places]
  exact wpAny_pure q
theorem fm_congr {α β : Type} {f g : α → Option β} : ∀ {l : List α}, (∀ m ∈ l, f m = g m) → l.filterMap f = l.filterMap g
  | [], _ => rfl
  | x :: r, h => by
    rw [List.filterMap_cons, List.filterMap_cons, h x (List.mem_cons_self ..), fm_congr fun m hm => h m (List.mem_cons_of_mem _ hm)]
theorem back_pick (xs : Array Value) : ((List.range xs.size).filterMap fun (m : Nat) => xs[(((xs.size : Int) - 1) + (m : Int) * -1).toNat]?).toArray = xs.toList.reverse.toArray := by
  have e : (List.range xs.size).filterMap (fun (m : Nat) => xs[(((xs.size : Int) - 1) + (m : Int) * -1).toNat]?) = ((List.range xs.size).map fun k => xs.size - 1 - k).filterMap (xs[·]?) := by
    rw [List.filterMap_map]
    refine fm_congr fun m hm => ?_
    have := List.mem_range.mp hm
    show xs[_]? = xs[xs.size - 1 - m]?
    congr 1
    omega
  rw [e, PySem.W.krv_range, List.filterMap_reverse, PySem.W.krv_all]
theorem back_tuple {t sl : Addr} {xs : Array Value} {k : Tok} {Q : Value → Shared → Prop} (tp : IsTup s.heap t xs) (sp : s.heap.IsSliceOf sl .none .none (.int (-1) k)) (zs : xs.size ≤ sizeLine)
    (q : Q (.ref s.heap.objs.size) { s with heap := s.heap.push { cls := .type "tuple", data := .seq xs.toList.reverse.toArray } }) : wpAny (model prog w) A (getItem (.ref t) (.ref sl)) Q E s := by
  obtain ⟨o, ho, hc, hd⟩ := id sp
  have sty : s.TypeIs (.ref sl) "slice" := ⟨o, ho, hc⟩
  have fits : sizeOk (.seq xs.toList.reverse.toArray) := by
    show xs.toList.reverse.toArray.size ≤ sizeLine
    rw [List.size_toArray, List.length_reverse, Array.length_toList]
    exact zs
  unfold getItem
  try with_reducible refine wpAny_holding ?_
  first | refine wpAny_bind (wpAny_pure ?_) | skip
  refine wpAny_bind (wpAny_sequenceKey tp.typeIs (by decide) (wpAny_bind (wpAny_callSpecial?_slot (name := Str.ofString "__getitem__") tp.typeIs PyProof.Rows.slot_tuple_getitem (wpAny_call_entry PyProof.Rows.slot_tuple_getitem tp.typeIs entry_tuple_getitem ?_ (args_tuple_getitem _ _)))))
  show wpAny _ _ (Builtin.Tuple.tupleItemsOf (.ref t) >>= _) _ _ s
  refine wpAny_bind (tupleItemsOf_ tp (wpAny_bind (wpAny_typeOf sty ?_)))
  rw [if_pos (by decide)]
  refine wpAny_bind (back_applied sp ?_)
  have no : ¬ ((((xs.size : Int) - 1) == 0 && (-1 : Int) == 1 && xs.size == xs.size) = true) := by
    intro z
    rw [Bool.and_eq_true, Bool.and_eq_true] at z
    have z1 : (-1 : Int) = 1 := eq_of_beq z.1.2
    exact absurd z1 (by decide)
  show wpAny _ _ (if (((xs.size : Int) - 1) == 0 && (-1 : Int) == 1 && xs.size == xs.size) = true then _ else _) _ _ s
  rw [if_neg no, back_pick]
  first
  | exact wpAny_bind (m := Builtin.Tuple.tupleExact _) (wpAny_newObj_type (wpAny_pure ⟨_, rfl, wpAny_pure q⟩) fits)
  | exact wpAny_bind (m := Builtin.Tuple.tupleExact _) (wpAny_newObj_type (wpAny_bind (wpAny_pure (wpAny_pure ⟨_, rfl, wpAny_pure q⟩))) fits)
  | exact wpAny_bind (wpAny_bind (m := Builtin.Tuple.tupleExact _) (wpAny_newObj_type (wpAny_pure (wpAny_pure ⟨_, rfl, wpAny_pure q⟩)) fits))
  | exact wpAny_bind (wpAny_bind (m := Builtin.Tuple.tupleExact _) (wpAny_newObj_type (wpAny_pure ⟨_, rfl, wpAny_pure q⟩) fits))
end
section
variable {X : Cx}
def tRevT (K : PySem.W.Frag) (te : TE) : TE := fun σ H Q => te σ H fun x H1 => ∃ a xs, x = .ref a ∧ SqT K H1 a xs ∧ ∀ p, H1 p = none → Q (.ref p) (upd H1 p (.tup xs.reverse))
theorem pe_revT {e : Expr} {te : TE} {k : Nat} {p1 p2 p3 pos : Pos} (he : PE X e te) : PE X (.Subscript e (.Slice none none (some (.UnaryOp .USub (.Constant (.int 1) k p1) p2)) p3) pos) (tRevT X.K te) := by
  refine ⟨fun pins s σ H Q I h => Subscript_ (thn (he.run pins s σ H _ I h) fun v s1 hv => ?_)⟩
  obtain ⟨x, H1, I1, r1, a, xs, rfl, hx, q⟩ := hv
  cases r1
  have step : PO X (some (.UnaryOp .USub (.Constant (.int 1) k p1) p2)) (tPart (tUn (rU fun i => .int (-i)) (tC (.int 1)))) := po_some (pe_un un_neg pe_int)
  refine wpAny_Slice (thn (po_none.run pins s1 σ H1 (fun o G => o = none ∧ G = H1) I1 ⟨rfl, rfl⟩) fun vl s2 h2 => ?_)
  obtain ⟨l, H2, I2, pl, rfl, rfl⟩ := h2
  refine thn (po_none.run pins s2 σ H2 (fun o G => o = none ∧ G = H2) I2 ⟨rfl, rfl⟩) fun vu s3 h3 => ?_
  obtain ⟨u, H3, I3, pu, rfl, rfl⟩ := h3
  refine thn (step.run pins s3 σ H3 (fun o G => o = some (-1) ∧ G = H3) I3 ⟨1, rfl, -1, rfl, rfl, rfl⟩) fun vs s4 h4 => ?_
  obtain ⟨o, H4, I4, ps, rfl, rfl⟩ := h4
  cases pl
  cases pu
  cases ps with
  | int _ tk =>
    have I5 := I4.kept (h' := s4.heap.push { cls := .type "slice", data := .fields #[.none, .none, .int (-1) tk] }) (t' := s4.toks) fun b ob z => Heap.get?_push_of_some _ z
    obtain ⟨its, r, tp, hz⟩ := I5.tuple hx
    have ln := r.length
    show wpAny (model X.prog X.w) X.A (subscriptTail e (.Slice none none (some (.UnaryOp .USub (.Constant (.int 1) k p1) p2)) p3) (.ref a) (.ref s4.heap.objs.size)) (EP X pins σ Q) X.xe _
    refine tail_any (ops := [.ref a, .ref s4.heap.objs.size]) tp.typeIs slot_tuple_getitem.lookup ?_ (by with_unfolding_all rfl)
    refine back_tuple tp (Heap.IsSliceOf.new _ .none .none (.int (-1) tk)) (by rw [List.size_toArray]; omega) ?_
    refine ⟨.ref _, _, I5.laid (t' := s4.toks) (o := .tup xs.reverse) (fun b ob z => Heap.get?_push_of_some _ z) (Nat.le_refl _) ?_, rfl, q _ (I5.hok.fresh (Nat.le_refl _))⟩
    refine ⟨by rw [List.length_reverse]; exact hz, its.reverse, r.reverse, _, Heap.get?_push_size _ rfl, rfl, 0, rfl⟩
end
end Own

namespace Own
open PySem PySem.Spec PyProof.Rows L2
/-! f(k = v, ..), no value by place -/
def tCallK (n : Nat) (sp : Sp) (gV : List V → List V) (E : XK) (tk : TA) : TE := fun σ H Q => tk σ H fun zs H2 => zs.length = n ∧ sp (gV zs) H2 Q E
section
variable {X : Cx} {k : Nat} {f : Addr} {fd : FuncData} {ps ks : List Str} {sp : Sp} {E : XK} {x : Str} {p pos : Pos} {kws : List Keyword} {tk : TA} {g : List Value → List Value → List Value} {gV : List V → List V → List V}
theorem pe_callK (F : FnOk X.prog X.w X.K X.mg X.base CX0 k f fd ps sp) (hr : Room k X.A) (hg : Gl X x) (hm : X.mg x = some (.ref f)) (hk : PySem.W.keepIn X.K (.ref f) = true) (hb : KBn X.K fd ps 0 ks g gV) (hkw : PK X kws tk)
    (hal : (backToKw pos (keywordEach kws X.env)).all (·.1.isSome) = true := by rfl) (hks : (backToKw pos (keywordEach kws X.env)).filterMap (·.1) = ks := by rfl) (hdb : (x == ("__debug__" : Str)) = false := by decide)
    (hno : ((backTo pos (starEach [] X.env)).any (·.1) || (backToKw pos (keywordEach kws X.env)).any (·.1.isNone)) = false := by rfl) : PE X (.Call (.Name x p) [] kws pos) (tCallK ks.length sp (gV []) E tk) := by
  refine ⟨fun pins s σ H Q I h => wpAny_Call_Name_kw (ld_glob I hg hm ?_ hdb)⟩
  refine PySem.W.callWith_KW0 (h₀ := X.base) (first := []) I.ok.mod.kin hk hal (thn (hkw.run pos pins s σ H _ I h) fun ws s2 hw => ?_) hno
  obtain ⟨zs, H2, I2, rz, l, q⟩ := hw
  refine ⟨I2.kIn, ?_⟩
  rw [hks]
  exact run_fnN (E := E) F hr hb pass0 I2 .nil rz rfl l q
end
end Own

namespace K1
open PySem PySem.Spec PyProof.Rows L2 Own
/-! ### data: names, numbers, pairs, groups -/
def nameB (z : Str) : Bool := decide (1 ≤ z.length) && (decide (z.length ≤ 8) && z.cps.toList.all fun c => decide (c ∈ abc.cps.toList))
def isNameD : PyData → Bool
  | .str z => nameB z
  | _ => false
def isNumD : PyData → Bool
  | .int i => decide (0 ≤ i)
  | _ => false
def isPairD : PyData → Bool
  | .tuple ds => decide (ds.length = 2)
  | _ => false
mutual
/-- data of a size that a rule takes -/
def okD : PyData → Bool
  | .none => true
  | .bool _ => true
  | .int _ => true
  | .str z => PyData.strOk z && decide (z.length ≤ 1000)
  | .list ds => decide (ds.length ≤ 1000) && okAll ds
  | .tuple ds => decide (ds.length ≤ 1000) && okAll ds
  | .dict _ => false
def okAll : List PyData → Bool
  | [] => true
  | d :: r => okD d && okAll r
end
theorem okAll_mem : ∀ {ds : List PyData}, okAll ds = true → ∀ d ∈ ds, okD d = true
  | [], _, d, h => nomatch h
  | x :: r, e, d, h => by
    obtain ⟨e1, e2⟩ := Bool.and_eq_true_iff.mp (show (okD x && okAll r) = true from e)
    rcases List.mem_cons.mp h with q | q
    · rw [q]
      exact e1
    · exact okAll_mem e2 d q
mutual
theorem ok_lay : ∀ d : PyData, okD d = true → d.canLay0 = true
  | .none, _ => rfl
  | .bool _, _ => rfl
  | .int _, _ => rfl
  | .str z, h => (Bool.and_eq_true_iff.mp h).1
  | .list ds, h => okAll_lay ds (Bool.and_eq_true_iff.mp h).2
  | .tuple ds, h => okAll_lay ds (Bool.and_eq_true_iff.mp h).2
  | .dict _, h => nomatch h
theorem okAll_lay : ∀ ds : List PyData, okAll ds = true → PyData.canLayAll0 ds = true
  | [], _ => rfl
  | d :: r, h => by
    obtain ⟨e1, e2⟩ := Bool.and_eq_true_iff.mp (show (okD d && okAll r) = true from h)
    show (d.canLay0 && PyData.canLayAll0 r) = true
    rw [ok_lay d e1, okAll_lay r e2]
    rfl
end
theorem dep_mem : ∀ {ds : List PyData} {d : PyData}, d ∈ ds → d.depth ≤ PyData.depthAll ds
  | [], _, h => nomatch h
  | x :: r, d, h => by
    show d.depth ≤ max x.depth (PyData.depthAll r)
    rcases List.mem_cons.mp h with q | q
    · rw [q]
      exact Nat.le_max_left _ _
    · exact Nat.le_trans (dep_mem q) (Nat.le_max_right _ _)
structure Fit (d : PyData) : Prop where
  ok : okD d = true
  dep : d.depth ≤ 60
theorem Fit.lay {d : PyData} (h : Fit d) : d.canLay0 = true := ok_lay d h.ok
theorem Fit.str {d : PyData} (h : Fit d) : ∀ z, d = .str z → z.length ≤ sizeLine := fun z e => by
  subst e
  have q := of_decide_eq_true (Bool.and_eq_true_iff.mp h.ok).2
  rw [sizeLine_eq]
  omega
theorem Fit.shaped {d : PyData} (h : Fit d) : SeqAt.shaped d = true := by
  show (d.canLay0 && decide (d.depth ≤ 64)) = true
  rw [h.lay, decide_eq_true (by have := h.dep; omega)]
  rfl
theorem Fit.kid {ds : List PyData} (h : Fit (.tuple ds)) {d : PyData} (m : d ∈ ds) : Fit d := by
  refine ⟨okAll_mem (Bool.and_eq_true_iff.mp h.ok).2 d m, ?_⟩
  have q : PyData.depthAll ds + 1 ≤ 60 := h.dep
  have r := dep_mem m
  omega
theorem Fit.kidL {ds : List PyData} (h : Fit (.list ds)) {d : PyData} (m : d ∈ ds) : Fit d := by
  refine ⟨okAll_mem (Bool.and_eq_true_iff.mp h.ok).2 d m, ?_⟩
  have q : PyData.depthAll ds + 1 ≤ 60 := h.dep
  have r := dep_mem m
  omega
theorem Fit.few {ds : List PyData} (h : Fit (.tuple ds)) : ds.length ≤ 1000 := of_decide_eq_true (Bool.and_eq_true_iff.mp h.ok).1
def spD1 (K : PySem.W.Frag) (f : PyData → Bool) : Sp := fun vs H Q _ => ∃ v d, vs = [v] ∧ Dp K H v d ∧ Fit d ∧ ∀ H', Same H H' → Q (.bl (f d)) H'
def isStrD : PyData → Bool
  | .str _ => true
  | _ => false
def isIntD : PyData → Bool
  | .int _ => true
  | .bool _ => true
  | _ => false
def isBoolD : PyData → Bool
  | .bool _ => true
  | _ => false
def isTupD : PyData → Bool
  | .tuple _ => true
  | _ => false
def isListD : PyData → Bool
  | .list _ => true
  | _ => false
theorem kt_str (d : PyData) : kitB (tyD d) "str" = some (isStrD d) := by
  cases d with
  | none => exact (by decide +kernel : kitB "NoneType" "str" = some false)
  | bool _ => exact (by decide +kernel : kitB "bool" "str" = some false)
  | int _ => exact (by decide +kernel : kitB "int" "str" = some false)
  | str _ => exact (by decide +kernel : kitB "str" "str" = some true)
  | list _ => exact (by decide +kernel : kitB "list" "str" = some false)
  | tuple _ => exact (by decide +kernel : kitB "tuple" "str" = some false)
  | dict _ => exact (by decide +kernel : kitB "dict" "str" = some false)
theorem kt_int (d : PyData) : kitB (tyD d) "int" = some (isIntD d) := by
  cases d with
  | none => exact (by decide +kernel : kitB "NoneType" "int" = some false)
  | bool _ => exact (by decide +kernel : kitB "bool" "int" = some true)
  | int _ => exact (by decide +kernel : kitB "int" "int" = some true)
  | str _ => exact (by decide +kernel : kitB "str" "int" = some false)
  | list _ => exact (by decide +kernel : kitB "list" "int" = some false)
  | tuple _ => exact (by decide +kernel : kitB "tuple" "int" = some false)
  | dict _ => exact (by decide +kernel : kitB "dict" "int" = some false)
theorem kt_bool (d : PyData) : kitB (tyD d) "bool" = some (isBoolD d) := by
  cases d with
  | none => exact (by decide +kernel : kitB "NoneType" "bool" = some false)
  | bool _ => exact (by decide +kernel : kitB "bool" "bool" = some true)
  | int _ => exact (by decide +kernel : kitB "int" "bool" = some false)
  | str _ => exact (by decide +kernel : kitB "str" "bool" = some false)
  | list _ => exact (by decide +kernel : kitB "list" "bool" = some false)
  | tuple _ => exact (by decide +kernel : kitB "tuple" "bool" = some false)
  | dict _ => exact (by decide +kernel : kitB "dict" "bool" = some false)
theorem kt_tuple (d : PyData) : kitB (tyD d) "tuple" = some (isTupD d) := by
  cases d with
  | none => exact (by decide +kernel : kitB "NoneType" "tuple" = some false)
  | bool _ => exact (by decide +kernel : kitB "bool" "tuple" = some false)
  | int _ => exact (by decide +kernel : kitB "int" "tuple" = some false)
  | str _ => exact (by decide +kernel : kitB "str" "tuple" = some false)
  | list _ => exact (by decide +kernel : kitB "list" "tuple" = some false)
  | tuple _ => exact (by decide +kernel : kitB "tuple" "tuple" = some true)
  | dict _ => exact (by decide +kernel : kitB "dict" "tuple" = some false)
theorem kt_list (d : PyData) : kitB (tyD d) "list" = some (isListD d) := by
  cases d with
  | none => exact (by decide +kernel : kitB "NoneType" "list" = some false)
  | bool _ => exact (by decide +kernel : kitB "bool" "list" = some false)
  | int _ => exact (by decide +kernel : kitB "int" "list" = some false)
  | str _ => exact (by decide +kernel : kitB "str" "list" = some false)
  | list _ => exact (by decide +kernel : kitB "list" "list" = some true)
  | tuple _ => exact (by decide +kernel : kitB "tuple" "list" = some false)
  | dict _ => exact (by decide +kernel : kitB "dict" "list" = some false)
theorem isi_d {K : PySem.W.Frag} {H : Hp} {v : V} {d : PyData} {T : String} {b : Bool} (h : Dp K H v d) (e : kitB (tyD d) T = some b) : ∃ t, TyX K H v t ∧ PySem.W.kitOne K t (.type T) = some b := ⟨_, dp_ty h, kit_ty e⟩
theorem rep_map (z : Str) (i : Nat) (c : Nat) (f : Nat → Bool) (h : z.cps[i]? = some c) : (z.cps.toList.take (i + 1)).map f = (z.cps.toList.take i).map f ++ [f c] := by
  rw [List.take_add_one, show z.cps.toList[i]? = some c from by rw [Array.getElem?_toList]; exact h, List.map_append]
  rfl
section
variable {P : Program} {w : World} {K : PySem.W.Frag} {mg : Str → Option Value} {base : Heap}
theorem ok_isNameD {f : Addr} {fd : FuncData} {tL : Tok} {tA : Tok} (F : Fun K "is_name" "is_name" sIsName f fd) (ml : mg "len" = none) (mi : mg "isinstance" = none) (ms : mg "str" = none) (ma : mg "all" = none) (mL : mg "LONGEST_NAME" = some (.int 8 tL)) (mA : mg "LETTERS" = some (.str abc tA)) :
    FnOk P w K mg base CX0 1 f fd ["thing"] (spD1 K isNameD) := by
  refine F.ok scIsName (fun vs H Q E h => ?_) (fun cdv A outer s H vs Q E hr h => ?_)
  · obtain ⟨v, d, rfl, _⟩ := h
    rfl
  · obtain ⟨v, d, rfl, hd, fit, k⟩ := h
    refine ⟨_, pss_cons (ps_if (PW.pt (pw_or (pt_not (pt_val (pe_callB call_isi (by rfl) mi (by decide +kernel) (pa_cons (pv 0) (pa_cons (pe_bltn (v := .ty "str") (u := .type "str") (by rfl) ms (by decide +kernel) rfl) pa_nil)))))
        (pw_or1 (pt_not (pt_chain op_le op_le pe_int (pe_callB call_len_str (by rfl) ml PySem.boot_len (pa_cons (pv 0) pa_nil)) (pe_glob (v := .int 8) (by rfl) mL ⟨_, rfl⟩)))))) (pss_one (ps_ret pe_bl)) pss_nil)
      (pss_one (ps_ret (pe_callB (cr_all rfl) (by rfl) ma (by decide +kernel) (pa_cons (pe_lc (own := [("letter", 1)]) (g := gName 1) (tt := tYes) rfl scIsName.nd (pi_str (pv 0)) (blkOk_by (N := ["thing", "letter"]) (sc := defScope sIsName) (by decide +kernel))
        (fun _ _ _ _ _ => pg_name (i := 1) scIsName.nd rfl (Or.inl rfl)) (fun _ _ _ _ _ => pts_nil) (fun _ _ _ _ _ => pe_cmpR op_in_sign (pv 1) (pe_glob (v := .str abc) (by rfl) mA ⟨_, rfl⟩) rfl)) pa_nil)))), ?_⟩
    have ty := dp_ty hd
    cases hd with
    | str z =>
      refine ⟨_, rfl, _, .ty "str", _, _, true, rfl, .ty "str", ty, kit_ty (kt_str _), true, rfl, iteF ?_⟩
      refine ⟨_, rfl, z, rfl, fit.str z rfl, _, _, rfl, rfl, _, rfl, ?_⟩
      by_cases h1 : 1 ≤ z.length
      · refine iteTD (by omega) ⟨_, _, rfl, rfl, _, rfl, ?_⟩
        by_cases h2 : z.length ≤ 8
        · rw [show decide ((z.length : Int) ≤ 8) = true from decide_eq_true (by omega)]
          refine iteF ⟨_, rfl, z, rfl, fun D nD => lc_it walk_str (fun i H' => Same H H' ∧ H' D = some (.lst (((z.cps.toList.take i).map fun c => decide (c ∈ abc.cps.toList)).map V.bl))) ⟨same_upd nD, upd_same⟩ (fun _ _ _ _ => trivial) ?_ ?_⟩
          · rintro i x H1 H' hi ⟨sm, hD⟩ ⟨rfl, c, hc, rfl⟩
            have hz : z.cps.toList.length ≤ 8 := by
              rw [← len_list]
              exact h2
            refine ⟨rfl, _, rfl, c, abc, rfl, rfl, _, hD, ?_, same_past nD sm, ?_⟩
            · rw [List.length_map, List.length_map, List.length_take]
              exact small1000 (by omega)
            · rw [upd_same, rep_map z i c _ hc, List.map_append]
              rfl
          · rintro H' ⟨sm, hD⟩
            have hl : z.cps.size = z.cps.toList.length := (Array.length_toList).symm
            rw [hl, List.take_of_length_le (Nat.le_refl _)] at hD
            refine ⟨D, _, rfl, SqL.of hD, ?_⟩
            have e : ((z.cps.toList.map fun c => decide (c ∈ abc.cps.toList)).all id) = nameB z := by
              unfold nameB
              rw [decide_eq_true h1, decide_eq_true h2, List.all_map]
              rfl
            rw [e]
            exact k _ sm
        · rw [show decide ((z.length : Int) ≤ 8) = false from decide_eq_false (by omega)]
          refine iteT ?_
          have e : isNameD (.str z) = false := by
            show nameB z = false
            unfold nameB
            rw [decide_eq_false h2, Bool.false_and, Bool.and_false]
          rw [e] at k
          exact k _ (Same.refl _)
      · refine iteFD (by omega) ⟨_, rfl, iteT ?_⟩
        have e : isNameD (.str z) = false := by
          show nameB z = false
          unfold nameB
          rw [decide_eq_false h1, Bool.false_and]
        rw [e] at k
        exact k _ (Same.refl _)
    | _ => exact ⟨_, rfl, _, .ty "str", _, _, false, rfl, .ty "str", ty, kit_ty (kt_str _), false, rfl, iteT (k _ (Same.refl _))⟩
end
end K1

namespace K1
open PySem PySem.Spec PyProof.Rows L2 Own
def msgD (d : PyData) : Bool := PyData.eqv d (.str "") || isNameD d
def isGroupD : PyData → Bool
  | .tuple [m, .tuple (_ :: _)] => msgD m
  | _ => false
section
variable {P : Program} {w : World} {K : PySem.W.Frag} {mg : Str → Option Value} {base : Heap}
theorem ok_isPairD {f : Addr} {fd : FuncData} (F : Fun K "is_pair" "is_pair" sIsPair f fd) (ml : mg "len" = none) (mi : mg "isinstance" = none) (mt : mg "tuple" = none) : FnOk P w K mg base CX0 1 f fd ["thing"] (spD1 K isPairD) := by
  refine F.ok scIsPair (fun vs H Q E h => ?_) (fun cdv A outer s H vs Q E hr h => ?_)
  · obtain ⟨v, d, rfl, _⟩ := h
    rfl
  · obtain ⟨v, d, rfl, hd, fit, k⟩ := h
    refine ⟨_, pss_one (ps_ret (pe_and (pe_callB call_isi (by rfl) mi (by decide +kernel) (pa_cons (pv 0) (pa_cons (pe_bltn (v := .ty "tuple") (u := .type "tuple") (by rfl) mt (by decide +kernel) rfl) pa_nil)))
      (pe_one (pe_cmpR op_eq (pe_callB call_len_seq (by rfl) ml PySem.boot_len (pa_cons (pv 0) pa_nil)) pe_int (nomark _))))), ?_⟩
    have ty := dp_ty hd
    have k0 := k H (Same.refl H)
    cases hd with
    | tup hs ha =>
      refine ⟨_, rfl, _, .ty "tuple", _, _, true, rfl, .ty "tuple", ty, kit_ty (kt_tuple _), true, rfl, iteT ?_⟩
      refine ⟨_, rfl, _, _, rfl, .inr hs, rfl, ?_⟩
      rw [dpAll_len ha]
      rename_i ds
      have e : decide (V.int (ds.length : Int) = V.int 2) = decide (ds.length = 2) := by
        rw [decide_eq_decide]
        exact ⟨fun h => by have := V.int.inj h; omega, fun h => by rw [h]; rfl⟩
      rw [e]
      exact k0
    | _ => exact ⟨_, rfl, _, .ty "tuple", _, _, false, rfl, .ty "tuple", ty, kit_ty (kt_tuple _), false, rfl, iteF k0⟩
end
end K1

namespace K1
open PySem PySem.Spec PyProof.Rows L2 Own
theorem pair_of : ∀ {d : PyData}, isPairD d = true → ∃ m i, d = .tuple [m, i]
  | .tuple [], h => nomatch h
  | .tuple [_], h => nomatch h
  | .tuple [m, i], _ => ⟨m, i, rfl⟩
  | .tuple (_ :: _ :: _ :: r), h => by
    have q := of_decide_eq_true (show decide (r.length + 3 = 2) = true from h)
    omega
  | .none, h => nomatch h
  | .bool _, h => nomatch h
  | .int _, h => nomatch h
  | .str _, h => nomatch h
  | .list _, h => nomatch h
  | .dict _, h => nomatch h
theorem group_pair : ∀ {d : PyData}, isGroupD d = true → isPairD d = true
  | .tuple [_, .tuple (_ :: _)], _ => rfl
theorem group_no {d : PyData} (h : isPairD d = false) : isGroupD d = false := by
  cases e : isGroupD d with
  | false => rfl
  | true =>
    rw [group_pair e] at h
    cases h
theorem fit_empty : Fit (.str "") := ⟨by decide +kernel, by decide⟩
/-- a pair's two values -/
theorem dp_pair {K : PySem.W.Frag} {H : Hp} {v : V} {m i : PyData} (h : Dp K H v (.tuple [m, i])) : ∃ a x y, v = .ref a ∧ SqT K H a [x, y] ∧ Dp K H x m ∧ Dp K H y i := by
  cases h with
  | tup hs ha =>
    cases ha with
    | cons hm r =>
      cases r with
      | cons hi n =>
        cases n
        exact ⟨_, _, _, rfl, hs, hm, hi⟩
section
variable {P : Program} {w : World} {K : PySem.W.Frag} {mg : Str → Option Value} {base : Heap}
theorem scIsGroup : FnScope ["thing", "message", "inner"] ["thing"] (defScope sIsGroup) := ⟨rfl, rfl, rfl, by decide +kernel, rfl, by decide +kernel, by decide +kernel⟩
theorem ok_isGroup {f fP fN : Addr} {fd dP dN : FuncData} (F : Fun K "is_group" "is_group" sIsGroup f fd) (GP : FnOk P w K mg base CX0 1 fP dP ["thing"] (spD1 K isPairD)) (kP : PySem.W.keepIn K (.ref fP) = true) (bP : Binds K dP ["thing"] []) (mP : mg "is_pair" = some (.ref fP))
    (GN : FnOk P w K mg base CX0 1 fN dN ["thing"] (spD1 K isNameD)) (kN : PySem.W.keepIn K (.ref fN) = true) (bN : Binds K dN ["thing"] []) (mN : mg "is_name" = some (.ref fN)) (ml : mg "len" = none) (mi : mg "isinstance" = none) (mt : mg "tuple" = none) : FnOk P w K mg base CX0 2 f fd ["thing"] (spD1 K isGroupD) := by
  refine F.ok scIsGroup (fun vs H Q E h => ?_) (fun cdv A outer s H vs Q E hr h => ?_)
  · obtain ⟨v, d, rfl, _⟩ := h
    rfl
  · obtain ⟨v, d, rfl, hd, fit, k⟩ := h
    refine ⟨_, pss_cons (ps_if (pt_not (pt_val (pe_call GP hr (by rfl) mP kP bP .nil pass0 (pa_cons (pv 0) pa_nil)))) (pss_one (ps_ret pe_bl)) pss_nil)
      (pss_cons (ps_asg (pv 0) (pg_tup rfl (pgs_cons (pg_name (i := 1) scIsGroup.nd rfl (Or.inl rfl)) (pgs_cons (pg_name (i := 2) scIsGroup.nd rfl (Or.inl rfl)) pgs_nil))))
      (pss_one (ps_ret (pe_and (pe_or (pe_cmpR (op_eqD hr.units) (pv 1) pe_str (nomark _)) (pe_one (pe_call GN hr (by rfl) mN kN bN .nil pass0 (pa_cons (pv 1) pa_nil))))
        (pe_and (pe_callB call_isi (by rfl) mi (by decide +kernel) (pa_cons (pv 2) (pa_cons (pe_bltn (v := .ty "tuple") (u := .type "tuple") (by rfl) mt (by decide +kernel) rfl) pa_nil)))
          (pe_one (pe_cmpR op_gt (pe_callB call_len_seq (by rfl) ml PySem.boot_len (pa_cons (pv 2) pa_nil)) pe_int (nomark _)))))))), ?_⟩
    refine ⟨_, rfl, v, d, rfl, hd, fit, fun H1 s1 => ?_⟩
    cases ep : isPairD d with
    | false =>
      rw [group_no ep] at k
      exact ⟨_, rfl, iteT (k _ s1)⟩
    | true =>
      obtain ⟨m, i, rfl⟩ := pair_of ep
      have fm : Fit m := fit.kid (List.mem_cons_self ..)
      have fi : Fit i := fit.kid (List.mem_cons_of_mem _ (List.mem_cons_self ..))
      obtain ⟨a, x, y, rfl, hs, hm, hi⟩ := dp_pair (dp_same s1 hd)
      refine ⟨_, rfl, iteF ⟨_, rfl, a, _, rfl, hs, rfl, _, _, rfl, _, _, rfl, rfl, ?_⟩⟩
      have tail : ∀ H2, Same H1 H2 → msgD m = true → tAndV (tCB (rIsi K) (tCons (tVar 2) (tCons (tC (.ty "tuple")) tNil))) (tOp (rI0 fun i j => .bl (decide (j < i))) (tCB (fun xs H Q => ∃ p ys, xs = [V.ref p] ∧ (SqL K H p ys ∨ SqT K H p ys) ∧ Q (V.int ys.length) H) (tCons (tVar 2) tNil)) (tC (.int 0))) [some (.ref a), some x, some y] H2 Q := fun H2 s2 em => by
        have k2 := k H2 (s1.trans s2)
        have hi2 := dp_same s2 hi
        have ty := dp_ty hi2
        cases hi2 with
        | tup hs2 ha2 =>
          refine ⟨_, rfl, _, .ty "tuple", _, _, true, rfl, .ty "tuple", ty, kit_ty (kt_tuple _), true, rfl, iteT ?_⟩
          refine ⟨_, rfl, _, _, rfl, .inr hs2, _, _, rfl, rfl, ?_⟩
          rw [dpAll_len ha2]
          rename_i ds
          cases ds with
          | nil => exact k2
          | cons c r =>
            have e : isGroupD (.tuple [m, .tuple (c :: r)]) = true := em
            rw [e] at k2
            show Q (.bl (decide ((0 : Int) < (((c :: r).length : Nat) : Int)))) H2
            rw [show decide ((0 : Int) < (((c :: r).length : Nat) : Int)) = true from decide_eq_true (by rw [List.length_cons]; omega)]
            exact k2
        | _ => exact ⟨_, rfl, _, .ty "tuple", _, _, false, rfl, .ty "tuple", ty, kit_ty (kt_tuple _), false, rfl, iteF k2⟩
      have none_ : ∀ H2, Same H1 H2 → msgD m = false → Q (.bl false) H2 := fun H2 s2 em => by
        have e : isGroupD (.tuple [m, i]) = false := by
          cases i with
          | tuple ds =>
            cases ds with
            | nil => rfl
            | cons c r => exact em
          | _ => rfl
        have k2 := k H2 (s1.trans s2)
        rw [e] at k2
        exact k2
      refine ⟨_, rfl, m, .str "", hm, .str "", fm.shaped, fit_empty.shaped, ?_⟩
      cases ee : PyData.eqv m (.str "") with
      | true => exact ⟨true, rfl, iteT ⟨true, rfl, iteT (tail H1 (Same.refl H1) (by unfold msgD; rw [ee]; rfl))⟩⟩
      | false =>
        refine ⟨false, rfl, iteF ⟨_, rfl, x, m, rfl, hm, fm, fun H2 s2 => ?_⟩⟩
        cases en : isNameD m with
        | true => exact ⟨true, rfl, iteT (tail H2 s2 (by unfold msgD; rw [ee, en]; rfl))⟩
        | false => exact ⟨false, rfl, iteF (none_ H2 s2 (by unfold msgD; rw [ee, en]; rfl))⟩
end
end K1

namespace K1
open PySem PySem.Spec PyProof.Rows L2 Own
/-! ### trees -/
def inD (ns : List Str) : PyData → Bool
  | .str z => decide (z ∈ ns)
  | _ => false
section
variable {P : Program} {w : World} {K : PySem.W.Frag} {mg : Str → Option Value} {base : Heap}
/-- what a table says of data -/
theorem in_dp {C x : Addr} {H : Hp} {v : V} {d : PyData} {ls ls' : List Ln} {T : Tb} {R : Bool → Hp → Prop} (hd : Dp K H v d) (kin : KIn C H x ls ls' T) (k : R (inD (nms ls) d) H) : spIn C K [.ref x, v] H (fun v H1 => ∃ b, v = .bl b ∧ R b H1) E0 := by
  refine ⟨x, v, ls, ls', T, rfl, kin, ?_⟩
  cases hd with
  | str z => exact .inl ⟨z, rfl, _, rfl, k⟩
  | non => exact .inr ⟨_, .base .non, kit_ty (kt_str .none), _, rfl, k⟩
  | bl b => exact .inr ⟨_, .base (.bl b), kit_ty (kt_str (.bool b)), _, rfl, k⟩
  | int i => exact .inr ⟨_, .base (.int i), kit_ty (kt_str (.int i)), _, rfl, k⟩
  | lst hs ha => exact .inr ⟨_, dp_ty (.lst hs ha), kit_ty (kt_str (.list _)), _, rfl, k⟩
  | tup hs ha => exact .inr ⟨_, dp_ty (.tup hs ha), kit_ty (kt_str (.tuple _)), _, rfl, k⟩
end
end K1

namespace K1
open PySem PySem.Spec PyProof.Rows L2 Own
mutual
/-- how many values stand in data -/
def ndD : PyData → Nat
  | .list ds => ndAll ds + 1
  | .tuple ds => ndAll ds + 1
  | _ => 1
def ndAll : List PyData → Nat
  | [] => 0
  | d :: r => ndD d + ndAll r
end
theorem nd_pos : ∀ d : PyData, 1 ≤ ndD d
  | .none => Nat.le_refl _
  | .bool _ => Nat.le_refl _
  | .int _ => Nat.le_refl _
  | .str _ => Nat.le_refl _
  | .list _ => Nat.le_add_left _ _
  | .tuple _ => Nat.le_add_left _ _
  | .dict _ => Nat.le_refl _
theorem ndAll_app : ∀ (a b : List PyData), ndAll (a ++ b) = ndAll a + ndAll b
  | [], b => (Nat.zero_add _).symm
  | d :: r, b => by
    show ndD d + ndAll (r ++ b) = ndD d + ndAll r + ndAll b
    rw [ndAll_app r b, Nat.add_assoc]
theorem ndAll_len : ∀ ds : List PyData, ds.length ≤ ndAll ds
  | [] => Nat.le_refl _
  | d :: r => by
    have a := nd_pos d
    have b := ndAll_len r
    show r.length + 1 ≤ ndD d + ndAll r
    omega
theorem nd_mem : ∀ {ds : List PyData} {d : PyData}, d ∈ ds → ndD d ≤ ndAll ds
  | [], _, h => nomatch h
  | x :: r, d, h => by
    show ndD d ≤ ndD x + ndAll r
    rcases List.mem_cons.mp h with q | q
    · rw [q]
      omega
    · have := nd_mem q
      omega
def kidsD : PyData → List PyData
  | .tuple [_, .tuple cs] => cs
  | _ => []
theorem kids_nd (d : PyData) : ndAll (kidsD d) < ndD d := by
  unfold kidsD
  split
  · rename_i m cs
    show ndAll cs < (ndD m + ((ndAll cs + 1) + 0)) + 1
    omega
  · exact nd_pos _
theorem dpAll_snoc {K : PySem.W.Frag} {H : Hp} : ∀ {vs : List V} {ds : List PyData}, DpAll K H vs ds → vs ≠ [] → ∃ ws y es e, vs = ws ++ [y] ∧ ds = es ++ [e] ∧ DpAll K H ws es ∧ Dp K H y e
  | _, _, .nil, n => absurd rfl n
  | v :: [], d :: _, .cons a .nil, _ => ⟨[], v, [], d, rfl, rfl, .nil, a⟩
  | v :: u :: r, d :: _, .cons a b, _ => by
    obtain ⟨ws, y, es, e, h1, h2, h3, h4⟩ := dpAll_snoc b (fun z => nomatch z)
    exact ⟨v :: ws, y, d :: es, e, by rw [h1]; rfl, by rw [h2]; rfl, .cons a h3, h4⟩
theorem group_of {d : PyData} (h : isGroupD d = true) : ∃ m c r, d = .tuple [m, .tuple (c :: r)] := by
  match d, h with
  | .tuple [m, .tuple (c :: r)], _ => exact ⟨m, c, r, rfl⟩
end K1

namespace K1
open PySem PySem.Spec PyProof.Rows L2 Own
/-! ### forms: the stars in data, or nothing -/
def isStar (d : PyData) : Bool := PyData.eqv d (.str "*")
def starsD (ns : List Str) (d : PyData) : Option Nat :=
  if isGroupD d = true then (kidsD d).attach.foldr (fun c r => match starsD ns c.1, r with
    | some a, some b => some (a + b)
    | _, _ => none) (some 0)
  else if isStar d = true then some 1 else if inD ns d = true then some 0 else none
termination_by ndD d
decreasing_by
  have a := kids_nd d
  have b := nd_mem c.2
  omega
def addO : Option Nat → Option Nat → Option Nat
  | some a, some b => some (a + b)
  | _, _ => none
def sumS (f : PyData → Option Nat) (ds : List PyData) : Option Nat := ds.foldr (fun c r => addO (f c) r) (some 0)
theorem addO_none (a : Option Nat) : addO a none = none := by cases a <;> rfl
theorem addO_assoc (a b c : Option Nat) : addO (addO a b) c = addO a (addO b c) := by
  cases a with
  | none => rfl
  | some a =>
    cases b with
    | none => rfl
    | some b =>
      cases c with
      | none => rfl
      | some c =>
        show some (a + b + c) = some (a + (b + c))
        rw [Nat.add_assoc]
theorem addO_zero (a : Option Nat) : addO (some 0) a = a := by
  cases a with
  | none => rfl
  | some a =>
    show some (0 + a) = some a
    rw [Nat.zero_add]
theorem sumS_app (f : PyData → Option Nat) : ∀ a b : List PyData, sumS f (a ++ b) = addO (sumS f a) (sumS f b)
  | [], b => (addO_zero _).symm
  | x :: r, b => by
    show addO (f x) (sumS f (r ++ b)) = addO (addO (f x) (sumS f r)) (sumS f b)
    rw [sumS_app f r b, addO_assoc]
theorem foldr_attach (f : PyData → Option Nat) : ∀ (ds : List PyData), ds.attach.foldr (fun c r => match f c.1, r with
    | some a, some b => some (a + b)
    | _, _ => none) (some 0) = sumS f ds := fun ds => by
  have e : (fun (c : {x // x ∈ ds}) (r : Option Nat) => match f c.1, r with
    | some a, some b => some (a + b)
    | _, _ => none) = fun c r => addO (f c.1) r := by
    funext c r
    cases f c.1 <;> cases r <;> rfl
  rw [e]
  have q := List.foldr_map (f := fun (c : {x // x ∈ ds}) => c.1) (g := fun c r => addO (f c) r) (l := ds.attach) (init := some 0)
  rw [List.attach_map_subtype_val] at q
  exact q.symm
theorem stars_eq (ns : List Str) (d : PyData) : starsD ns d = if isGroupD d = true then sumS (starsD ns) (kidsD d) else if isStar d = true then some 1 else if inD ns d = true then some 0 else none := by
  rw [starsD]
  split
  · exact foldr_attach (starsD ns) (kidsD d)
  · rfl
def formD (ns : List Str) (d : PyData) : Bool := match starsD ns d with
  | some n => decide (n ≤ 1)
  | none => false
end K1

namespace K1
open PySem PySem.Spec PyProof.Rows L2 Own
def spForm (C : Addr) (K : PySem.W.Frag) : Sp := fun vs H Q _ => ∃ x v ls ls' T d, vs = [.ref x, v] ∧ KIn C H x ls ls' T ∧ Dp K H v d ∧ Fit d ∧ ndD d ≤ 10000000 ∧ ∀ H', Same H H' → Q (.bl (formD (nms ls) d)) H'
theorem addO_some (s : Nat) (a b : Option Nat) : addO (some s) (addO a b) = addO (addO (some s) b) a := by
  cases a with
  | none =>
    rw [addO_none]
    rfl
  | some a =>
    cases b with
    | none => rfl
    | some b =>
      show some (s + (a + b)) = some (s + b + a)
      rw [Nat.add_comm a b, Nat.add_assoc]
theorem fit_star : Fit (.str "*") := ⟨by decide +kernel, by decide⟩
section
variable {P : Program} {w : World} {K : PySem.W.Frag} {mg : Str → Option Value} {base : Heap}
theorem scIsForm : FnScope ["kinds", "thing", "pending", "stars", "node"] ["kinds", "thing"] (defScope sIsForm) := ⟨rfl, rfl, rfl, by decide +kernel, rfl, by decide +kernel, by decide +kernel⟩
theorem ok_isForm {C f fG fI : Addr} {fd dG dI : FuncData} (F : Fun K "is_form" "is_form" sIsForm f fd) (GG : FnOk P w K mg base CX0 2 fG dG ["thing"] (spD1 K isGroupD)) (kG : PySem.W.keepIn K (.ref fG) = true) (bG : Binds K dG ["thing"] []) (mG : mg "is_group" = some (.ref fG))
    (cI : Spc K C "__contains__" fI) (GI : FnOk P w K mg base CX0 1 fI dI ["self", "x"] (spIn C K)) (bI : Binds K dI ["self", "x"] []) : FnOk P w K mg base CX0 3 f fd ["kinds", "thing"] (spForm C K) := by
  refine F.ok scIsForm (fun vs H Q E h => ?_) (fun cdv A outer s H vs Q E hr h => ?_)
  · obtain ⟨x, v, ls, ls', T, d, rfl, _⟩ := h
    rfl
  · obtain ⟨x, v, ls, ls', T, d0, rfl, kin, hd, fit, big, k⟩ := h
    refine ⟨_, pss_cons (ps_set (i := 2) scIsForm.nd rfl (Or.inl rfl) (pe_lst (pa_cons (pv 1) pa_nil)))
      (pss_cons (ps_set (i := 3) scIsForm.nd rfl (Or.inl rfl) pe_int)
      (pss_cons (ps_while PassesOwn.never (pt_truth (pv 2) (by intro _; rfl))
        (pss_cons (ps_set (i := 4) scIsForm.nd rfl (Or.inl rfl) (pe_bm0 PySem.F.plainAttrs_list PySem.F.slot_list_pop PySem.F.type_list_pop mt_pop (pv 2)))
        (pss_one (ps_if (pt_val (pe_call GG hr (by rfl) mG kG bG .nil pass0 (pa_cons (pv 4) pa_nil)))
          (pss_one (ps_expr (pe_bm PySem.F.plainAttrs_list PySem.F.slot_list_extend PySem.F.type_list_extend mt_extT (pv 2) (pa_cons (pe_ix ix_tup (pv 4) pe_int (fun _ _ => rfl)) pa_nil))))
          (pss_one (ps_if (pt_cmpR (op_eqD hr.units) (pv 4) pe_str (nomark _)) (pss_one (ps_aug (i := 3) scIsForm.nd rfl (Or.inl rfl) pe_int ip_add))
            (pss_one (ps_if (pt_cmpR (op_notInO cI GI (hr.mono (by decide)) bI) (pv 4) (pv 0) (by rfl)) (pss_one (ps_ret pe_bl)) pss_nil))))))))
      (pss_one (ps_ret (pe_cmpR op_le (pv 3) pe_int (nomark _)))))), ?_⟩
    refine ⟨_, rfl, (by show 1 ≤ sizeLine; decide), fun p np => ?_⟩
    have kids_fit : ∀ {e c : PyData}, Fit e → c ∈ kidsD e → Fit c := fun {e c} fe hc => by
      match e, fe, hc with
      | .tuple [m, .tuple cs], fe, hc => exact (fe.kid (List.mem_cons_of_mem _ (List.mem_cons_self ..))).kid hc
    have sum1 : ∀ (st : Nat) (es : List PyData) (e : PyData), addO (some st) (sumS (starsD (nms ls)) (es ++ [e])) = addO (addO (some st) (starsD (nms ls) e)) (sumS (starsD (nms ls)) es) := fun st es e => by
      have q : sumS (starsD (nms ls)) [e] = starsD (nms ls) e := by
        show addO (starsD (nms ls) e) (some 0) = _
        cases starsD (nms ls) e <;> rfl
      rw [sumS_app, addO_some, q]
    refine ⟨fun m σ H' => ∃ v4 vs ds st, σ = [some (.ref x), some v, some (.ref p), some (.int ((st : Nat) : Int)), v4] ∧ Same H H' ∧ H' p = some (.lst vs) ∧ DpAll K H vs ds ∧ (∀ d ∈ ds, Fit d) ∧ ndAll ds = m ∧ m ≤ 10000000 ∧ addO (some st) (sumS (starsD (nms ls)) ds) = starsD (nms ls) d0,
      ⟨ndD d0 + 0, none, [v], [d0], 0, rfl, same_upd np, upd_same, .cons hd .nil, fun d hm => by rw [List.mem_singleton.mp hm]; exact fit, rfl, big, by
        show addO (some 0) (addO (starsD (nms ls) d0) (some 0)) = _
        rw [addO_zero]
        cases starsD (nms ls) d0 <;> rfl⟩, ?_⟩
    rintro m σ H' ⟨v4, vs, ds, st, rfl, sm, hp, ha, fits, em, mb, ea⟩
    have lv := dpAll_len ha
    refine ⟨_, rfl, !vs.isEmpty, .inl ⟨vs, SqL.of hp, rfl⟩, ?_⟩
    by_cases ev : vs = []
    · subst ev
      have ed : ds = [] := List.length_eq_zero_iff.mp lv.symm
      subst ed
      refine iteF ⟨_, rfl, _, _, rfl, rfl, ?_⟩
      have e : formD (nms ls) d0 = decide (((st : Nat) : Int) ≤ 1) := by
        unfold formD
        rw [← ea]
        show decide (st ≤ 1) = _
        rw [decide_eq_decide]
        omega
      rw [e] at k
      exact k _ sm
    · rw [show (!vs.isEmpty) = true from by cases vs with | nil => exact absurd rfl ev | cons _ _ => rfl]
      refine iteT ?_
      obtain ⟨ws, y, es, e, rfl, rfl, ha2, he⟩ := dpAll_snoc ha ev
      have fe : Fit e := fits e (List.mem_append_right _ (List.mem_cons_self ..))
      have fes : ∀ d ∈ es, Fit d := fun d hm => fits d (List.mem_append_left _ hm)
      have cnt : ndAll es + ndD e = m := by
        rw [ndAll_app] at em
        exact em
      have le := ndAll_len es
      have lw := dpAll_len ha2
      rw [sum1] at ea
      refine ⟨fun σ' H2 => ∃ m', m' < m ∧ ∃ v4 vs ds st, σ' = [some (.ref x), some v, some (.ref p), some (.int ((st : Nat) : Int)), v4] ∧ Same H H2 ∧ H2 p = some (.lst vs) ∧ DpAll K H vs ds ∧ (∀ d ∈ ds, Fit d) ∧ ndAll ds = m' ∧ m' ≤ 10000000 ∧ addO (some st) (sumS (starsD (nms ls)) ds) = starsD (nms ls) d0, fun σ' H2 q => q, ?_⟩
      refine ⟨_, rfl, .inl ⟨rfl, _, SqL.of hp⟩, p, _, y, rfl, rfl, hp, ?_, ?_⟩
      · rw [List.length_append, List.length_singleton, Nat.add_sub_cancel, List.getElem?_append_right (Nat.le_refl _), Nat.sub_self]
        rfl
      have s3 : Same H (upd H' p (.lst (ws ++ [y]).dropLast)) := same_past np sm
      have hp3 := upd_same (H := H') (a := p) (o := .lst (ws ++ [y]).dropLast)
      rw [List.dropLast_concat] at s3 hp3 ⊢
      generalize upd H' p (.lst ws) = H3 at s3 hp3 ⊢
      refine ⟨_, rfl, y, e, rfl, dp_same s3 he, fe, fun H4 s4 => ?_⟩
      have s34 := s3.trans s4
      have hp4 := s4 _ _ hp3
      have te := stars_eq (nms ls) e
      have p1 := nd_pos e
      cases eg : isGroupD e with
      | true =>
        rw [eg, if_pos rfl] at te
        obtain ⟨mm, c, r, rfl⟩ := group_of eg
        obtain ⟨a, vm, vi, rfl, hs, hm, hi⟩ := dp_pair he
        have kn' : ndAll (c :: r) < ndD (.tuple [mm, .tuple (c :: r)]) := kids_nd (.tuple [mm, .tuple (c :: r)])
        cases hi with
        | tup hs2 ha3 =>
          have l3 := dpAll_len ha3
          have l4 := ndAll_len (c :: r)
          refine ⟨_, rfl, iteT ⟨_, rfl, .inl ⟨rfl, _, SqL.of hp4⟩, _, rfl, a, _, 1, _, rfl, rfl, Same.tup s34 hs, atI_nat (j := 1) rfl, p, _, _, _, rfl, rfl, hp4, Same.tup s34 hs2, (by rw [sizeLine_eq]; omega), ?_⟩⟩
          refine ⟨ndAll es + ndAll (c :: r), (by omega), _, _, es ++ (c :: r), st, rfl, same_past np s34, upd_same, dpAll_app ha2 ha3, fun d hm => ?_, ndAll_app _ _, (by omega), ?_⟩
          · rcases List.mem_append.mp hm with q | q
            · exact fes d q
            · exact kids_fit fe (c := d) q
          · rw [← ea, te, sumS_app, addO_some]
            rfl
      | false =>
        rw [eg, if_neg Bool.false_ne_true] at te
        refine ⟨_, rfl, iteF ⟨_, rfl, e, .str "*", dp_same s34 he, .str "*", fe.shaped, fit_star.shaped, _, rfl, ?_⟩⟩
        cases es_ : isStar e with
        | true =>
          have es2 : PyData.eqv e (.str "*") = true := es_
          rw [es2]
          rw [es_, if_pos rfl] at te
          rw [te] at ea
          exact iteT ⟨_, rfl, _, _, rfl, rfl, ndAll es, by omega, _, _, es, st + 1, rfl, s34, hp4, ha2, fes, rfl, by omega, ea⟩
        | false =>
          have es2 : PyData.eqv e (.str "*") = false := es_
          rw [es2]
          rw [es_, if_neg Bool.false_ne_true] at te
          have kin4 := kin.same s34
          obtain ⟨dx, fs, hx⟩ : ∃ dx fs, H4 x = some (.ins C dx fs) := by
            obtain ⟨dx, r, dd, _, _, hx, _⟩ := kin4.ex
            exact ⟨dx, _, hx⟩
          refine iteF ⟨_, rfl, _, rfl, x, dx, fs, rfl, hx, in_dp (dp_same s34 he) kin4 ?_⟩
          cases en : inD (nms ls) e with
          | true =>
            rw [en, if_pos rfl] at te
            rw [te] at ea
            exact ⟨_, rfl, iteF ⟨ndAll es, by omega, _, _, es, st, rfl, s34, hp4, ha2, fes, rfl, by omega, ea⟩⟩
          | false =>
            rw [en, if_neg Bool.false_ne_true] at te
            rw [te] at ea
            have z : formD (nms ls) d0 = false := by
              unfold formD
              rw [← ea]
              rfl
            rw [z] at k
            exact ⟨_, rfl, iteT (k _ s34)⟩
end
end K1

namespace K1
open PySem PySem.Spec PyProof.Rows L2 Own
theorem name_ok {z : Str} (h : NameOk z) : okD (.str z) = true := by
  show (PyData.strOk z && decide (z.length ≤ 1000)) = true
  rw [show PyData.strOk z = true from name_low h, decide_eq_true (by have := h.2.1; omega)]
  rfl
theorem okAll_of : ∀ {ds : List PyData}, (∀ d ∈ ds, okD d = true) → okAll ds = true
  | [], _ => rfl
  | d :: r, h => by
    show (okD d && okAll r) = true
    rw [h d (List.mem_cons_self ..), okAll_of fun x hx => h x (List.mem_cons_of_mem _ hx)]
    rfl
theorem depAll_le : ∀ {ds : List PyData} {n : Nat}, (∀ d ∈ ds, d.depth ≤ n) → PyData.depthAll ds ≤ n
  | [], _, _ => Nat.zero_le _
  | d :: r, n, h => Nat.max_le.mpr ⟨h d (List.mem_cons_self ..), depAll_le fun x hx => h x (List.mem_cons_of_mem _ hx)⟩
theorem ndAll_le : ∀ {ds : List PyData} {n : Nat}, (∀ d ∈ ds, ndD d ≤ n) → ndAll ds ≤ ds.length * n
  | [], _, _ => Nat.zero_le _
  | d :: r, n, h => by
    have a := h d (List.mem_cons_self ..)
    have b := ndAll_le (ds := r) (n := n) fun x hx => h x (List.mem_cons_of_mem _ hx)
    show ndD d + ndAll r ≤ (r.length + 1) * n
    rw [Nat.add_mul, Nat.one_mul]
    omega
/-- all but what stands at s and at r stays -/
def Keep2 (s r : Addr) (H H' : Hp) : Prop := ∀ b o, b ≠ s → b ≠ r → H b = some o → H' b = some o
theorem Keep2.refl (s r : Addr) (H : Hp) : Keep2 s r H H := fun _ _ _ _ e => e
theorem Keep2.trans {s r : Addr} {H H1 H2 : Hp} (a : Keep2 s r H H1) (b : Keep2 s r H1 H2) : Keep2 s r H H2 := fun c o n m e => b c o n m (a c o n m e)
theorem Keep2.of {s r : Addr} {H H' : Hp} (h : Keep s H H') : Keep2 s r H H' := fun b o n _ e => h b o n e
theorem Keep2.ofS {s r : Addr} {H H' : Hp} (h : Same H H') : Keep2 s r H H' := fun b o _ _ e => h b o e
/-- only lists change -/
def Stay (H H' : Hp) : Prop := ∀ a o, (∀ xs, o ≠ HO.lst xs) → H a = some o → H' a = some o
theorem Stay.refl (H : Hp) : Stay H H := fun _ _ _ e => e
theorem Stay.trans {H H1 H2 : Hp} (a : Stay H H1) (b : Stay H1 H2) : Stay H H2 := fun c o n e => b c o n (a c o n e)
theorem Stay.of {H H' : Hp} (h : Same H H') : Stay H H' := fun b o _ e => h b o e
theorem Keep.stay {s : Addr} {H H' : Hp} (k : Keep s H H') (q : Src H s) : Stay H H' := fun a o n e => by
  obtain ⟨u, v, z, _⟩ := q
  exact k a o (fun h => by
    subst h
    rw [z] at e
    exact n _ (Option.some.inj e).symm) e
theorem Keep2.stay {s r : Addr} {H H' : Hp} {xs : List V} (k : Keep2 s r H H') (q : Src H s) (hr : H r = some (.lst xs)) : Stay H H' := fun a o n e => by
  obtain ⟨u, v, z, _⟩ := q
  exact k a o (fun h => by
    subst h
    rw [z] at e
    exact n _ (Option.some.inj e).symm) (fun h => by
    subst h
    rw [hr] at e
    exact n _ (Option.some.inj e).symm) e
mutual
/-- no list stands in it -/
def noList : PyData → Bool
  | .list _ => false
  | .tuple ds => noListAll ds
  | _ => true
def noListAll : List PyData → Bool
  | [] => true
  | d :: r => noList d && noListAll r
end
theorem noListAll_of : ∀ {ds : List PyData}, (∀ d ∈ ds, noList d = true) → noListAll ds = true
  | [], _ => rfl
  | d :: r, h => by
    show (noList d && noListAll r) = true
    rw [h d (List.mem_cons_self ..), noListAll_of fun x hx => h x (List.mem_cons_of_mem _ hx)]
    rfl
theorem sqT_stay {K : PySem.W.Frag} {H H' : Hp} (s : Stay H H') {a : Addr} {xs : List V} (h : SqT K H a xs) : SqT K H' a xs := by
  rcases h with (e | ⟨o, e⟩) | h
  · exact .inl (.inl (s _ _ (fun _ z => nomatch z) e))
  · exact .inl (.inr ⟨o, s _ _ (fun _ z => nomatch z) e⟩)
  · exact .inr h
section
variable {K : PySem.W.Frag} {H H' : Hp}
mutual
theorem dp_stay (s : Stay H H') : ∀ {v : V} {d : PyData}, Dp K H v d → noList d = true → Dp K H' v d
  | _, _, .non, _ => .non
  | _, _, .bl b, _ => .bl b
  | _, _, .int i, _ => .int i
  | _, _, .str z, _ => .str z
  | _, _, .lst _ _, n => absurd n (fun z => nomatch z)
  | _, _, .tup h a, n => .tup (sqT_stay s h) (dpAll_stay s a n)
theorem dpAll_stay (s : Stay H H') : ∀ {vs : List V} {ds : List PyData}, DpAll K H vs ds → noListAll ds = true → DpAll K H' vs ds
  | _, _, .nil, _ => .nil
  | _, _, .cons a r, n => .cons (dp_stay s a (Bool.and_eq_true_iff.mp n).1) (dpAll_stay s r (Bool.and_eq_true_iff.mp n).2)
end
end
theorem q_ifR {c : TT} {t u : TS} {D : Ends} {σ : L2.St} {H : Hp} (R : Hp → Prop) (yes : ∀ H2, R H2 → t D σ H2) (h : ∀ Z : Hp → Prop, (∀ H2, R H2 → Z H2) → c σ H (fun b H1 => if b = true then Z H1 else u D σ H1)) : tIfS c t u D σ H := h _ yes
theorem stay_upd {H : Hp} {c : Addr} {xs : List V} {o : HO} (h : H c = some (.lst xs)) : Stay H (upd H c o) := fun a u n e => by
  rw [upd_ne (fun z => by
    subst z
    rw [h] at e
    exact n _ (Option.some.inj e).symm)]
  exact e
theorem str_at {ns : List Str} {d : Int} (h0 : 0 ≤ d) (h : d < (ns.length : Int)) : ∃ x, x ∈ ns ∧ atI (ns.map V.str) d = some (.str x) := by
  obtain ⟨k, rfl⟩ : ∃ k : Nat, d = (k : Int) := ⟨d.toNat, by omega⟩
  have hk : k < ns.length := by omega
  exact ⟨ns[k], List.getElem_mem hk, atI_nat (by rw [List.getElem?_map, List.getElem?_eq_getElem hk]; rfl)⟩
theorem fit_list {ds : List PyData} (h : ∀ d ∈ ds, Fit d) (n : ds.length ≤ 1000) (dp : ∀ d ∈ ds, d.depth ≤ 50) : Fit (.list ds) := by
  refine ⟨?_, ?_⟩
  · show (decide (ds.length ≤ 1000) && okAll ds) = true
    rw [decide_eq_true n, okAll_of fun d hd => (h d hd).ok]
    rfl
  · have q := depAll_le dp
    show PyData.depthAll ds + 1 ≤ 60
    omega
end K1

namespace K1
open PySem PySem.Spec PyProof.Rows L2 Own
/-- what is new in H' -/
def fr (H H' : Hp) : Hp := fun a => match H a with
  | none => H' a
  | some _ => none
theorem fr_at {H H' : Hp} {a : Addr} {o : HO} (h : fr H H' a = some o) : H a = none ∧ H' a = some o := by
  unfold fr at h
  cases e : H a with
  | none =>
    rw [e] at h
    exact ⟨rfl, h⟩
  | some u =>
    rw [e] at h
    cases h
theorem fr_of {H H' : Hp} {a : Addr} {o : HO} (n : H a = none) (h : H' a = some o) : fr H H' a = some o := by
  unfold fr
  rw [n]
  exact h
/-! ### the law's table of kinds -/
theorem LinsAt.rows' {H : Hp} {a : Addr} {ls : List Ln} (h : LinsAt H a ls) : RowsAt H a ls := h.rows
def spSetup (C : Addr) : Sp := fun vs H Q _ => ∃ s, vs = [.ref s] ∧ Src H s ∧ ∀ H' p L O x ns ls ls' T T2 B, Keep s H H' → Src H' s → H' p = some (.tup [.ref L, .ref O, .ref x]) → H' L = some (.lst (ns.map V.str)) → 1 ≤ ns.length → ns.length ≤ 7 → Drawn ns → nms ls = ns → LnsOk ls → DictAt All1 H' O T → Tab Any1 ls T → Same B H' → (∀ a o, B a = some o → a ≠ s) → KIn C B x ls ls' T2 → Q (.ref p) H'
section
variable {P : Program} {w : World} {K : PySem.W.Frag} {mg : Str → Option Value} {base : Heap}
theorem scSetup : FnScope ["source", "labels", "lines"] ["source"] (defScope sLawSetup) := ⟨rfl, rfl, rfl, by decide +kernel, rfl, by decide +kernel, by decide +kernel⟩
theorem ok_setup {C f fD fN fL fV fO p : Addr} {mc : Value} {fd dD dN dL dV dO : FuncData} (F : Fun K "_law_setup" "_law_setup" sLawSetup f fd) (T : KTxt K mg C)
    (GD : FnOk P w K mg base CX0 1 fD dD ["source", "many"] spDraw) (kD : PySem.W.keepIn K (.ref fD) = true) (bD : Binds K dD ["source", "many"] []) (mD : mg "_law_draw" = some (.ref fD))
    (GN : FnOk P w K mg base CX0 2 fN dN ["source", "many"] spNames) (kN : PySem.W.keepIn K (.ref fN) = true) (bN : Binds K dN ["source", "many"] []) (mN : mg "_law_random_names" = some (.ref fN))
    (GL : FnOk P w K mg base CX0 2 fL dL ["source", "labels"] spLines) (kL : PySem.W.keepIn K (.ref fL) = true) (bL : Binds K dL ["source", "labels"] []) (mL : mg "_law_random_lines" = some (.ref fL))
    (GV : FnOk P w K mg base CX0 1 fV dV ["lines"] spOver) (kV : PySem.W.keepIn K (.ref fV) = true) (bV : Binds K dV ["lines"] []) (mV : mg "_law_over" = some (.ref fV))
    (cr : ClX.CRead K C mc) (cm : ClX.CMet K C mc "of" p fO) (GO : FnOk P w K mg base CX0 6 fO dO ["cls", "rows"] (spOf C)) (bO : Binds K dO ["cls", "rows"] []) : FnOk P w K mg base CX0 7 f fd ["source"] (spSetup C) := by
  refine F.ok scSetup (fun vs H Q E h => ?_) (fun cdv A outer s_ H vs Q E hr h => ?_)
  · obtain ⟨s, rfl, _⟩ := h
    rfl
  · obtain ⟨s, rfl, src, k⟩ := h
    have hr1 : Room 1 _ := hr.mono (by decide)
    have hr2 : Room 2 _ := hr.mono (by decide)
    have GOR := GO.raw bO (dvs := []) .nil
    refine ⟨_, pss_cons (ps_set (i := 1) scSetup.nd rfl (Or.inl rfl) (pe_call GN hr2 (by rfl) mN kN bN .nil pass0 (pa_cons (pv 0) (pa_cons (pe_op op_add pe_int (pe_call GD hr1 (by rfl) mD kD bD .nil pass0 (pa_cons (pv 0) (pa_cons pe_int pa_nil)))) pa_nil))))
      (pss_cons (ps_set (i := 2) scSetup.nd rfl (Or.inl rfl) (pe_call GL hr2 (by rfl) mL kL bL .nil pass0 (pa_cons (pv 0) (pa_cons (pv 1) pa_nil))))
      (pss_one (ps_ret (pe_tup (pa_cons (pv 1) (pa_cons (pe_call GV hr1 (by rfl) mV kV bV .nil pass0 (pa_cons (pv 2) pa_nil)) (pa_cons (ClX.pe_cmeth (pe_glob (v := .ref C) (by rfl) T.mgC rfl) cr cm GOR hr pass0 (pa_cons (pv 2) pa_nil)) pa_nil))))))), ?_⟩
    refine ⟨_, rfl, _, rfl, s, 7, rfl, src, (by decide), (by decide), fun d H1 d0 d1 sr1 k1 => ?_⟩
    obtain ⟨m, rfl⟩ : ∃ m : Nat, d = (m : Int) := ⟨d.toNat, by omega⟩
    refine ⟨_, _, rfl, rfl, s, 1 + m, ?_, sr1, (by omega), fun H2 L ns k2 sr2 nL hL lL dr => ?_⟩
    · show [V.ref s, V.int (1 + (m : Int))] = [V.ref s, V.int ((1 + m : Nat) : Int)]
      rw [show (1 + (m : Int)) = ((1 + m : Nat) : Int) from by omega]
    refine ⟨_, rfl, _, rfl, s, L, ns, rfl, sr2, hL, (by omega), dr, fun H3 a ls k3 sr3 lat en ok => ?_⟩
    have Ls : L ≠ s := sr2.ne hL
    have hL3 := k3 L _ Ls hL
    refine ⟨_, rfl, _, rfl, a, ls, rfl, lat, ok, fun H4 O T1 s4 dT tab => ?_⟩
    refine ⟨rfl, _, rfl, a, ls, rfl, (lat.same s4).rows, ok, fun H5 x s5 ka => ?_⟩
    have toB : ∀ a o, H4 a = none → H5 a = some o → fr H4 H5 a = some o := fun a o z e => fr_of z e
    obtain ⟨ls', T2, kin⟩ := (ka.same toB).kin
    refine ⟨(by show 3 ≤ sizeLine; decide), fun p np => ?_⟩
    have s6 := same_upd (o := .tup [.ref L, .ref O, .ref x]) np
    have s46 := (s4.trans s5).trans s6
    exact k _ p L O x ns ls ls' T1 T2 (fr H4 H5) (((k1.trans k2).trans k3).trans (Keep.of s46)) (sr3.same s46) upd_same (s46 _ _ hL3) (by omega) (by omega) dr en ok (dT.same (s5.trans s6)) tab (fun a o e => s6 _ _ (fr_at e).2) (fun a o e z => by
      obtain ⟨u, w, y, _⟩ := sr3.same s4
      have q := (fr_at e).1
      rw [z, y] at q
      cases q) kin
end
end K1

namespace K1
open PySem PySem.Spec PyProof.Rows L2 Own
/-! ### data written out -/
theorem q_asg {te : TE} {g : TG} {D : Ends} {σ : L2.St} {H : Hp} (h : te σ H fun x H1 => g x σ H1 D.nx) : tAsg te g D σ H := h
mutual
def tD : PyData → TE
  | .none => tC .non
  | .bool b => tC (.bl b)
  | .int i => tC (.int i)
  | .str z => tC (.str z)
  | .list ds => tLst (tDs ds)
  | .tuple ds => tTup (tDs ds)
  | .dict _ => fun _ _ _ => False
def tDs : List PyData → TA
  | [] => tNil
  | d :: r => tCons (tD d) (tDs r)
end
theorem fr_more {H H1 H2 : Hp} (s : Same H1 H2) : Same (fr H H1) (fr H H2) := fun a o h => fr_of (fr_at h).1 (s _ _ (fr_at h).2)
theorem fr_less {H H1 H2 : Hp} (s : Same H H1) : Same (fr H1 H2) (fr H H2) := fun a o h => fr_of (s.free (fr_at h).1) (fr_at h).2
theorem fr_same {H H' : Hp} : Same (fr H H') H' := fun a o h => (fr_at h).2
/-- all but what may change -/
noncomputable def hid (N : Addr → Prop) (H : Hp) : Hp := fun a => by
  classical exact if N a then none else H a
theorem hid_at {N : Addr → Prop} {a : Addr} {H : Hp} {o : HO} (n : ¬ N a) (h : H a = some o) : hid N H a = some o := by
  unfold hid
  rw [if_neg n]
  exact h
theorem hid_of {N : Addr → Prop} {a : Addr} {H : Hp} {o : HO} (h : hid N H a = some o) : ¬ N a ∧ H a = some o := by
  unfold hid at h
  by_cases e : N a
  · rw [if_pos e] at h
    cases h
  · rw [if_neg e] at h
    exact ⟨e, h⟩
theorem hid_same {N : Addr → Prop} {H : Hp} : Same (hid N H) H := fun a o h => (hid_of h).2
/-- the source and other lists may change -/
structure NOk (N : Addr → Prop) (s : Addr) (H : Hp) : Prop where
  ns : N s
  ls : ∀ a, N a → ∃ xs, H a = some (.lst xs)
theorem NOk.keep {N : Addr → Prop} {s : Addr} {H H' : Hp} (n : NOk N s H) (k : Keep s H H') (q : Src H' s) : NOk N s H' := ⟨n.ns, fun a h => by
  by_cases e : a = s
  · obtain ⟨u, w, z, _⟩ := q
    exact ⟨_, by rw [e]; exact z⟩
  · obtain ⟨xs, hx⟩ := n.ls a h
    exact ⟨xs, k _ _ e hx⟩⟩
theorem hid_keep {N : Addr → Prop} {s : Addr} {H H' : Hp} (k : Keep s H H') (n : N s) : Same (hid N H) (hid N H') := fun a o h => hid_at (hid_of h).1 (k _ _ (fun e => (hid_of h).1 (e ▸ n)) (hid_of h).2)
theorem NOk.new {N : Addr → Prop} {s a : Addr} {H : Hp} (n : NOk N s H) (h : H a = none) : ¬ N a := fun e => by
  obtain ⟨xs, hx⟩ := n.ls a e
  rw [h] at hx
  cases hx
theorem fr_hid {N : Addr → Prop} {s : Addr} {H H' : Hp} (n : NOk N s H) : Same (fr H H') (hid N H') := fun a o h => hid_at (n.new (fr_at h).1) (fr_at h).2
theorem stay_hid {N : Addr → Prop} {s : Addr} {H : Hp} (n : NOk N s H) : Stay H (hid N H) := fun a o z h => hid_at (fun e => by
  obtain ⟨xs, hx⟩ := n.ls a e
  rw [hx] at h
  exact z _ (Option.some.inj h).symm) h
theorem fr_new {H H' : Hp} {p : Addr} {o : HO} (s : Same H H') (n : H' p = none) : fr H (upd H' p o) p = some o := fr_of (s.free n) upd_same
mutual
theorem q_D {K : PySem.W.Frag} : ∀ (d : PyData) (ok : okD d = true) {σ : L2.St} {H : Hp} {Q : VK}, (∀ H' v, Same H H' → Dp K (fr H H') v d → Q v H') → tD d σ H Q
  | .none, _, σ, H, Q, h => by
    rw [tD]
    exact h H _ (Same.refl H) .non
  | .bool b, _, σ, H, Q, h => by
    rw [tD]
    exact h H _ (Same.refl H) (.bl b)
  | .int i, _, σ, H, Q, h => by
    rw [tD]
    exact h H _ (Same.refl H) (.int i)
  | .str z, _, σ, H, Q, h => by
    rw [tD]
    exact h H _ (Same.refl H) (.str z)
  | .list ds, ok, σ, H, Q, h => by
    obtain ⟨o1, o2⟩ := Bool.and_eq_true_iff.mp (show (decide (ds.length ≤ 1000) && okAll ds) = true from ok)
    have o3 := of_decide_eq_true o1
    rw [tD]
    refine q_Ds (K := K) ds o2 fun H' vs s a => ⟨by rw [dpAll_len a, sizeLine_eq]; omega, fun p np => ?_⟩
    exact h _ _ (s.trans (same_upd np)) (.lst (SqL.of (fr_new s np)) (dpAll_same (fr_more (same_upd np)) a))
  | .tuple ds, ok, σ, H, Q, h => by
    obtain ⟨o1, o2⟩ := Bool.and_eq_true_iff.mp (show (decide (ds.length ≤ 1000) && okAll ds) = true from ok)
    have o3 := of_decide_eq_true o1
    rw [tD]
    refine q_Ds (K := K) ds o2 fun H' vs s a => ⟨by rw [dpAll_len a, sizeLine_eq]; omega, fun p np => ?_⟩
    exact h _ _ (s.trans (same_upd np)) (.tup (SqT.of (fr_new s np)) (dpAll_same (fr_more (same_upd np)) a))
  | .dict _, ok, _, _, _, _ => nomatch ok
theorem q_Ds {K : PySem.W.Frag} : ∀ (ds : List PyData) (ok : okAll ds = true) {σ : L2.St} {H : Hp} {Q : List V → Hp → Prop}, (∀ H' vs, Same H H' → DpAll K (fr H H') vs ds → Q vs H') → tDs ds σ H Q
  | [], _, σ, H, Q, h => by
    rw [tDs]
    exact h H [] (Same.refl H) .nil
  | d :: r, ok, σ, H, Q, h => by
    obtain ⟨o1, o2⟩ := Bool.and_eq_true_iff.mp (show (okD d && okAll r) = true from ok)
    rw [tDs]
    refine q_D (K := K) d o1 fun H1 v s1 hv => q_Ds (K := K) r o2 fun H2 vs s2 hvs => ?_
    exact h H2 _ (s1.trans s2) (.cons (dp_same (fr_more s2) hv) (dpAll_same (fr_less s1) hvs))
end
theorem q_LD {K : PySem.W.Frag} (ds : List PyData) (ok : okAll ds = true) (few : ds.length ≤ 1000) {σ : L2.St} {H : Hp} {Q : VK} (h : ∀ H' p vs, Same H H' → H p = none → H' p = some (.lst vs) → DpAll K (fr H H') vs ds → Q (.ref p) H') : tLst (tDs ds) σ H Q := by
  refine q_Ds (K := K) ds ok fun H' vs s a => ⟨by rw [dpAll_len a, sizeLine_eq]; omega, fun p np => ?_⟩
  exact h _ p vs (s.trans (same_upd np)) (s.free np) upd_same (dpAll_same (fr_more (same_upd np)) a)
theorem q_eq {t t' : TE} (e : t' = t) {σ : L2.St} {H : Hp} {Q : VK} (h : t' σ H Q) : t σ H Q := e ▸ h
theorem q_eqA {t t' : TA} (e : t' = t) {σ : L2.St} {H : Hp} {Q : List V → Hp → Prop} (h : t' σ H Q) : t σ H Q := e ▸ h
theorem pe_imp {X : Cx} {e : Expr} {t t' : TE} (h : PE X e t) (i : ∀ σ H Q, t' σ H Q → t σ H Q) : PE X e t' := ⟨fun pins s σ H Q I q => h.run pins s σ H Q I (i σ H Q q)⟩
def anyA : List PyData := [.none, .bool true, .int 0, .str "", .str "*", .str "drop", .str "back", .str "keep", .str "raise", .str "pass", .str "a", .tuple [], .list [], .tuple [.tuple []], .tuple [.str "drop"]]
def anyC : PyData := .tuple [.str "keep", .tuple []]
def anyB : List PyData := [.tuple [.str "raise", .tuple [.str "", .tuple [.str "*", .str "*"]]], .tuple [.str "pass", .tuple []], .tuple [.str "pass", .none], .tuple [.str "raise", .str "*"], .tuple [.str "Drop", .str "*"], .tuple [.str "raise"]]
theorem any_ok : okAll anyA = true ∧ okAll anyB = true ∧ okD anyC = true := ⟨by decide +kernel, by decide +kernel, by decide +kernel⟩
def spAny (K : PySem.W.Frag) : Sp := fun vs H Q _ => ∃ s N, vs = [.ref s] ∧ Src H s ∧ NOk N s H ∧ ∀ H' v d, Keep s H H' → Src H' s → Dp K (hid N H') v d → d ∈ anyA ++ [anyC] ++ anyB → Q v H'
section
variable {P : Program} {w : World} {K : PySem.W.Frag} {mg : Str → Option Value} {base : Heap}
theorem scAny : FnScope ["source", "some"] ["source"] (defScope sLawAny) := ⟨rfl, rfl, rfl, by decide +kernel, rfl, by decide +kernel, by decide +kernel⟩
theorem ok_any {f fD : Addr} {fd dD : FuncData} (F : Fun K "_law_any" "_law_any" sLawAny f fd) (GD : FnOk P w K mg base CX0 1 fD dD ["source", "many"] spDraw) (kD : PySem.W.keepIn K (.ref fD) = true) (bD : Binds K dD ["source", "many"] []) (mD : mg "_law_draw" = some (.ref fD)) : FnOk P w K mg base CX0 2 f fd ["source"] (spAny K) := by
  refine F.ok scAny (fun vs H Q E h => ?_) (fun cdv A outer s_ H vs Q E hr h => ?_)
  · obtain ⟨s, N, rfl, _⟩ := h
    rfl
  · obtain ⟨s, N, rfl, src, nok, k⟩ := h
    refine ⟨_, pss_cons (ps_set (i := 1) scAny.nd rfl (Or.inl rfl) (pe_lst (pa_cons pe_non (pa_cons pe_bl (pa_cons pe_int (pa_cons pe_str (pa_cons pe_str (pa_cons pe_str (pa_cons pe_str (pa_cons pe_str (pa_cons pe_str (pa_cons pe_str (pa_cons pe_str (pa_cons (pe_tup pa_nil) (pa_cons (pe_lst pa_nil) (pa_cons (pe_tup (pa_cons (pe_tup pa_nil) pa_nil)) (pa_cons (pe_tup (pa_cons pe_str pa_nil)) pa_nil)))))))))))))))))
      (pss_cons (ps_expr (pe_bm PySem.F.plainAttrs_list PySem.F.slot_list_append PySem.F.type_list_append mt_append (pv 1) (pa_cons (pe_tup (pa_cons pe_str (pa_cons (pe_tup pa_nil) pa_nil))) pa_nil)))
      (pss_cons (ps_set (i := 1) scAny.nd rfl (Or.inl rfl) (pe_op op_cat (pv 1) (pe_lst (pa_cons (pe_tup (pa_cons pe_str (pa_cons (pe_tup (pa_cons pe_str (pa_cons (pe_tup (pa_cons pe_str (pa_cons pe_str pa_nil))) pa_nil))) pa_nil))) (pa_cons (pe_tup (pa_cons pe_str (pa_cons (pe_tup pa_nil) pa_nil))) (pa_cons (pe_tup (pa_cons pe_str (pa_cons pe_non pa_nil))) (pa_cons (pe_tup (pa_cons pe_str (pa_cons pe_str pa_nil))) (pa_cons (pe_tup (pa_cons pe_str (pa_cons pe_str pa_nil))) (pa_cons (pe_tup (pa_cons pe_str pa_nil)) pa_nil)))))))))
      (pss_one (ps_ret (pe_ix ix_list (pv 1) (pe_call GD hr (by rfl) mD kD bD .nil pass0 (pa_cons (pv 0) (pa_cons pe_int pa_nil))) (fun _ _ => rfl)))))), ?_⟩
    refine q_seq (q_asg ?_)
    refine q_eq (t' := tLst (tDs anyA)) (by simp only [anyA, tD, tDs]) ?_
    refine q_Ds (K := K) anyA any_ok.1 fun H1 vs1 s1 a1 => ⟨by rw [dpAll_len a1]; decide, fun p1 n1 => ?_⟩
    have p1s : p1 ≠ s := fun h => by
      obtain ⟨u, w, z, _⟩ := src.same s1
      rw [h, z] at n1
      cases n1
    have h1 := upd_same (H := H1) (a := p1) (o := .lst vs1)
    have t1 := same_upd (o := .lst vs1) n1
    generalize upd H1 p1 (.lst vs1) = H2 at h1 t1 ⊢
    refine ⟨_, rfl, .inl ⟨rfl, _, SqL.of h1⟩, ?_⟩
    refine q_eqA (t' := tCons (tD anyC) tNil) (by simp only [anyC, tD, tDs]) (q_D (K := K) anyC any_ok.2.2 fun H3 vc s3 ac => ?_)
    refine ⟨p1, vs1, vc, rfl, rfl, s3 _ _ h1, (by rw [dpAll_len a1]; decide), ?_⟩
    have h4 := upd_same (H := H3) (a := p1) (o := .lst (vs1 ++ [vc]))
    -- what is new stays, but the list
    have b1 : Same (fr H H1) (upd H3 p1 (.lst (vs1 ++ [vc]))) := fun b o e => by
      have q := (fr_at e).2
      rw [upd_ne (fun z => by rw [z, n1] at q; cases q)]
      exact s3 _ _ (t1 _ _ q)
    have b2 : Same (fr H2 H3) (upd H3 p1 (.lst (vs1 ++ [vc]))) := fun b o e => by
      have q := fr_at e
      rw [upd_ne (fun z => by rw [z, h1] at q; cases q.1)]
      exact q.2
    have kH : Keep s H (upd H3 p1 (.lst (vs1 ++ [vc]))) := fun b o n e => by
      have q := s1 _ _ e
      rw [upd_ne (fun z => by rw [z, n1] at q; cases q)]
      exact s3 _ _ (t1 _ _ q)
    have src4 : Src (upd H3 p1 (.lst (vs1 ++ [vc]))) s := (((src.same s1).same t1).same s3).put p1s
    have nN : ∀ b, H b = none → ¬ N b := fun b e => nok.new e
    have c1 : Same (fr H H1) (hid N (upd H3 p1 (.lst (vs1 ++ [vc])))) := fun b o e => hid_at (nN b (fr_at e).1) (b1 _ _ e)
    have c2 : Same (fr H2 H3) (hid N (upd H3 p1 (.lst (vs1 ++ [vc])))) := fun b o e => hid_at (nN b ((s1.trans t1).free (fr_at e).1)) (b2 _ _ e)
    have all4 : DpAll K (hid N (upd H3 p1 (.lst (vs1 ++ [vc])))) (vs1 ++ [vc]) (anyA ++ [anyC]) := dpAll_app (dpAll_same c1 a1) (.cons (dp_same c2 ac) .nil)
    have nok4 := nok.keep kH src4
    generalize upd H3 p1 (.lst (vs1 ++ [vc])) = H4 at h4 kH src4 all4 nok4 ⊢
    refine ⟨_, rfl, ?_⟩
    refine q_eq (t' := tLst (tDs anyB)) (by simp only [anyB, tD, tDs]) (q_LD (K := K) anyB any_ok.2.1 (by decide) fun H5 p2 vs2 s5 n5 h5 a5 => ?_)
    have l1 := dpAll_len all4
    have l2 := dpAll_len a5
    have e1 : (anyA ++ [anyC]).length = 16 := rfl
    have e2 : anyB.length = 6 := rfl
    refine ⟨p1, p2, _, vs2, rfl, rfl, s5 _ _ h4, h5, (by rw [sizeLine_eq]; omega), fun p3 n3 => ?_⟩
    have s6 := same_upd (o := .lst ((vs1 ++ [vc]) ++ vs2)) n3
    have s46 := s5.trans s6
    have all6 := dpAll_app (dpAll_same (hid_keep (Keep.of s46) nok.ns) all4) (dpAll_same ((fr_more s6).trans (fr_hid nok4)) a5)
    refine ⟨_, rfl, _, rfl, s, 22, rfl, src4.same s46, (by decide), (by decide), fun d H7 d0 d1 sr7 k7 => ?_⟩
    obtain ⟨i, rfl⟩ : ∃ i : Nat, d = (i : Int) := ⟨d.toNat, by omega⟩
    have hi : i < (anyA ++ [anyC] ++ anyB).length := by
      rw [List.length_append, e1, e2]
      omega
    obtain ⟨v, hv, hd⟩ := dpAll_at' all6 (List.getElem?_eq_getElem hi)
    have p3s : p3 ≠ s := fun h => by
      obtain ⟨u, w, z, _⟩ := src4.same s5
      rw [h, z] at n3
      cases n3
    refine ⟨p3, _, (i : Int), v, rfl, rfl, SqL.of (k7 p3 _ p3s upd_same), atI_nat hv, ?_⟩
    exact k H7 v _ ((kH.trans (Keep.of s46)).trans k7) sr7 (dp_same (hid_keep k7 nok.ns) hd) (List.getElem_mem hi)
end
end K1

namespace K1
open PySem PySem.Spec PyProof.Rows L2 Own
/-! ### how long data is when shown -/
mutual
def wtD : PyData → Nat
  | .none => 4
  | .bool _ => 5
  | .int _ => 1921
  | .str z => 10 * z.length + 2
  | .list ds => wtAll ds + 3
  | .tuple ds => wtAll ds + 3
  | .dict _ => 0
def wtAll : List PyData → Nat
  | [] => 0
  | d :: r => wtD d + 2 + wtAll r
end
theorem textFrom_le : ∀ (ts : List Str) (k : Nat) (acc : Str), (textFrom k acc ts).length ≤ acc.length + piled ts
  | [], k, acc => by
    show acc.length ≤ acc.length + 0
    omega
  | t :: r, k, acc => by
    have ih := textFrom_le r (k + 1) (acc ++ (if k > 0 then ", " else "" : String) ++ t)
    rw [Str.length_append, Str.length_append] at ih
    have e : ((if k > 0 then ", " else "" : String) : Str).length ≤ 2 := by split <;> decide
    rw [piled_cons]
    show (textFrom (k + 1) (acc ++ (if k > 0 then ", " else "" : String) ++ t) r).length ≤ _
    omega
theorem listText_le (ts : List Str) : (listText ts).length ≤ piled ts + 2 := by
  unfold listText
  rw [Str.length_append]
  have a := textFrom_le ts 0 "["
  have b : ("[" : Str).length = 1 := rfl
  have c : ("]" : Str).length = 1 := rfl
  omega
theorem tupleText_le (ts : List Str) : (tupleText ts).length ≤ piled ts + 3 := by
  unfold tupleText
  rw [Str.length_append, Str.length_append]
  have b : ("(" : Str).length = 1 := rfl
  have c : ((if ts.length == 1 then ",)" else ")" : String) : Str).length ≤ 2 := by split <;> decide
  by_cases h : ts = []
  · subst h
    have d : (Str.join ", " ([] : List Str)).length = 0 := rfl
    rw [d, piled_nil]
    omega
  · have d := join_length_add ts h
    omega
theorem low_16 {z : Str} (h : PyData.strOk z = true) : ∀ c ∈ z.cps.toList, c < 16 ^ 8 := fun c hc => by
  have q : z.cps.all (· < 0x110000) = true := h
  rw [← Array.all_toList, List.all_eq_true] at q
  have r := of_decide_eq_true (q c hc)
  have e : (16 : Nat) ^ 8 = 4294967296 := by decide
  omega
mutual
theorem shown_le : ∀ d : PyData, okD d = true → d.showable = true → d.shown.length ≤ wtD d
  | .none, _, _ => by decide
  | .bool b, _, _ => by cases b <;> decide
  | .int i, _, h => int_text_len_1921 (of_decide_eq_true h)
  | .str z, h, _ => StrLaws.reprText_len z (low_16 (Bool.and_eq_true_iff.mp h).1)
  | .list ds, h, g => by
    have a := shownAll_le ds (Bool.and_eq_true_iff.mp h).2 g
    have b := listText_le (PyData.shownAll ds)
    show (listText (PyData.shownAll ds)).length ≤ wtAll ds + 3
    omega
  | .tuple ds, h, g => by
    have a := shownAll_le ds (Bool.and_eq_true_iff.mp h).2 g
    have b := tupleText_le (PyData.shownAll ds)
    show (tupleText (PyData.shownAll ds)).length ≤ wtAll ds + 3
    omega
  | .dict _, h, _ => nomatch h
theorem shownAll_le : ∀ ds : List PyData, okAll ds = true → PyData.showableAll ds = true → piled (PyData.shownAll ds) ≤ wtAll ds
  | [], _, _ => Nat.le_refl _
  | d :: r, h, g => by
    obtain ⟨h1, h2⟩ := Bool.and_eq_true_iff.mp (show (okD d && okAll r) = true from h)
    obtain ⟨g1, g2⟩ := Bool.and_eq_true_iff.mp (show (d.showable && PyData.showableAll r) = true from g)
    have a := shown_le d h1 g1
    have b := shownAll_le r h2 g2
    show piled (d.shown :: PyData.shownAll r) ≤ wtD d + 2 + wtAll r
    rw [piled_cons]
    omega
end
mutual
theorem nd_wt : ∀ d : PyData, okD d = true → ndD d ≤ wtD d
  | .none, _ => by decide
  | .bool _, _ => by
    show 1 ≤ 5
    decide
  | .int _, _ => by
    show 1 ≤ 1921
    decide
  | .str z, _ => by
    show 1 ≤ 10 * z.length + 2
    omega
  | .list ds, h => by
    have a := ndAll_wt ds (Bool.and_eq_true_iff.mp h).2
    show ndAll ds + 1 ≤ wtAll ds + 3
    omega
  | .tuple ds, h => by
    have a := ndAll_wt ds (Bool.and_eq_true_iff.mp h).2
    show ndAll ds + 1 ≤ wtAll ds + 3
    omega
  | .dict _, h => nomatch h
theorem ndAll_wt : ∀ ds : List PyData, okAll ds = true → ndAll ds ≤ wtAll ds
  | [], _ => Nat.le_refl _
  | d :: r, h => by
    obtain ⟨h1, h2⟩ := Bool.and_eq_true_iff.mp (show (okD d && okAll r) = true from h)
    have a := nd_wt d h1
    have b := ndAll_wt r h2
    show ndD d + ndAll r ≤ wtD d + 2 + wtAll r
    omega
end
theorem wtAll_app : ∀ a b : List PyData, wtAll (a ++ b) = wtAll a + wtAll b
  | [], b => (Nat.zero_add _).symm
  | d :: r, b => by
    show wtD d + 2 + wtAll (r ++ b) = wtD d + 2 + wtAll r + wtAll b
    rw [wtAll_app r b]
    omega
theorem wtAll_take (ds : List PyData) (n : Nat) : wtAll (ds.take n) ≤ wtAll ds := by
  have q := wtAll_app (ds.take n) (ds.drop n)
  rw [List.take_append_drop] at q
  omega
theorem wtAll_drop (ds : List PyData) (n : Nat) : wtAll (ds.drop n) ≤ wtAll ds := by
  have q := wtAll_app (ds.take n) (ds.drop n)
  rw [List.take_append_drop] at q
  omega
theorem wtAll_rev : ∀ ds : List PyData, wtAll ds.reverse = wtAll ds
  | [] => rfl
  | d :: r => by
    rw [List.reverse_cons, wtAll_app, wtAll_rev r]
    show wtAll r + (wtD d + 2 + 0) = wtD d + 2 + wtAll r
    omega
theorem showAll_of : ∀ {ds : List PyData}, (∀ d ∈ ds, d.showable = true) → PyData.showableAll ds = true
  | [], _ => rfl
  | d :: r, h => by
    show (d.showable && PyData.showableAll r) = true
    rw [h d (List.mem_cons_self ..), showAll_of fun x hx => h x (List.mem_cons_of_mem _ hx)]
    rfl
theorem showAll_mem : ∀ {ds : List PyData}, PyData.showableAll ds = true → ∀ d ∈ ds, d.showable = true
  | [], _, d, h => nomatch h
  | x :: r, e, d, h => by
    obtain ⟨e1, e2⟩ := Bool.and_eq_true_iff.mp (show (x.showable && PyData.showableAll r) = true from e)
    rcases List.mem_cons.mp h with q | q
    · rw [q]
      exact e1
    · exact showAll_mem e2 d q
/-- what comes out of the law's helpers: at most m long, at most k deep -/
structure Out (m k : Nat) (d : PyData) : Prop where
  ok : okD d = true
  sh : d.showable = true
  wt : wtD d ≤ m
  dp : d.depth ≤ k
theorem Out.mono {m m' k k' : Nat} {d : PyData} (h : Out m k d) (a : m ≤ m') (b : k ≤ k') : Out m' k' d := ⟨h.ok, h.sh, Nat.le_trans h.wt a, Nat.le_trans h.dp b⟩
theorem Out.fit {m k : Nat} {d : PyData} (h : Out m k d) (b : k ≤ 60) : Fit d := ⟨h.ok, Nat.le_trans h.dp b⟩
theorem out_tup {ds : List PyData} {m k : Nat} (n : ds.length ≤ 1000) (h : ∀ d ∈ ds, okD d = true ∧ d.showable = true ∧ d.depth ≤ k) (w : wtAll ds + 3 ≤ m) : Out m (k + 1) (.tuple ds) ∧ Out m (k + 1) (.list ds) := by
  have a := okAll_of fun d hd => (h d hd).1
  have b := showAll_of fun d hd => (h d hd).2.1
  have c := depAll_le fun d hd => (h d hd).2.2
  have o : (decide (ds.length ≤ 1000) && okAll ds) = true := by
    rw [decide_eq_true n, a]
    rfl
  exact ⟨⟨o, b, w, Nat.succ_le_succ c⟩, ⟨o, b, w, Nat.succ_le_succ c⟩⟩
theorem any_out : ∀ d ∈ anyA ++ [anyC] ++ anyB, Out 4000 4 d := by
  have a : ∀ d ∈ anyA ++ [anyC] ++ anyB, okD d = true ∧ d.showable = true ∧ wtD d ≤ 4000 ∧ d.depth ≤ 4 := by decide +kernel
  exact fun d hd => ⟨(a d hd).1, (a d hd).2.1, (a d hd).2.2.1, (a d hd).2.2.2⟩
/-- signs that stand in what is drawn -/
def Sgn (c : Nat) : Prop := c = 42 ∨ (97 ≤ c ∧ c ≤ 122)
/-- parts of what is drawn -/
def PlD : Nat → PyData → Prop
  | _, .str z => (∀ c ∈ z.cps.toList, Sgn c) ∧ z.length ≤ 8
  | n + 1, .tuple ds => ds.length ≤ 4 ∧ ∀ d ∈ ds, PlD n d
  | _, _ => False
end K1

namespace K1
open PySem PySem.Spec PyProof.Rows L2 Own
/-! ### tuples cut and joined -/
def rCatW (K : PySem.W.Frag) : R2 := fun x y H Q => ∃ a b xs ys, x = .ref a ∧ y = .ref b ∧ SqT K H a xs ∧ SqT K H b ys ∧ xs.length + ys.length ≤ 1000 ∧ ∀ p H', Same H H' → SqT K H' p (xs ++ ys) → Q (.ref p) H'
def rSlW (K : PySem.W.Frag) : V → Option Int → Option Int → Hp → VK → Prop := fun x lo hi H Q => ∃ a xs, x = .ref a ∧ SqT K H a xs ∧ ∀ p H', Same H H' → SqT K H' p (cutV xs lo hi) → Q (.ref p) H'
section
variable {X : Cx}
theorem op_catW : OpR X (binaryOp .Add) (rCatW X.K) := by
  intro pins s σ H x y v u Q I rx ry h
  obtain ⟨a, b, xs, ys, ex, ey, ha, hb, hz, q⟩ := h
  refine op_catA pins s σ H x y v u Q I rx ry ⟨a, b, xs, ys, ex, ey, ha, hb, by rw [sizeLine_eq]; omega, fun e => ?_, fun _ e => ?_, fun _ _ p np => q p _ (same_upd np) (SqT.of upd_same)⟩
  · subst e
    exact q b H (Same.refl H) hb
  · subst e
    exact q a H (Same.refl H) (by rw [List.append_nil]; exact ha)
theorem sl_tupW : SlR X (rSlW X.K) := by
  intro pins s σ H x v vl vu lo hi sl Q I rx hs pl pu h
  obtain ⟨a, xs, ex, ha, q⟩ := h
  refine sl_tupA pins s σ H x v vl vu lo hi sl Q I rx hs pl pu ⟨a, xs, ex, ha, fun e => ?_, fun _ p np => q p _ (same_upd np) (SqT.of upd_same)⟩
  refine q a H (Same.refl H) ?_
  have c : cutV xs lo hi = xs := by
    unfold cutV
    rw [e.1, e.2, List.drop_zero, Nat.sub_zero, List.take_length]
  rw [c]
  exact ha
end
theorem cut_to (xs : List V) (k : Nat) (h : k ≤ xs.length) : cutV xs none (some ((k : Nat) : Int)) = xs.take k := cutV_lo xs k h
theorem cut_from (xs : List V) (k : Nat) (h : k ≤ xs.length) : cutV xs (some ((k : Nat) : Int)) none = xs.drop k := by
  unfold cutV
  rw [HT.sIx_none, HT.sIx_nat, Nat.min_eq_left h, List.take_of_length_le]
  rw [List.length_drop]
  exact Nat.le_refl _
theorem q_ifB {c : TT} {t u : TS} {D : Ends} {σ : L2.St} {H : Hp} (R S : Hp → Prop) (yes : ∀ H2, R H2 → t D σ H2) (no : ∀ H2, S H2 → u D σ H2) (h : ∀ Y N : Hp → Prop, (∀ H2, R H2 → Y H2) → (∀ H2, S H2 → N H2) → c σ H (fun b H1 => if b = true then Y H1 else N H1)) : tIfS c t u D σ H := h _ _ yes no
theorem five {a b c d e : V} {i : Int} (h0 : 0 ≤ i) (h1 : i < 5) : ∃ v, atI [a, b, c, d, e] i = some v ∧ (v = a ∨ v = b ∨ v = c ∨ v = d ∨ v = e) := by
  have q : i = 0 ∨ i = 1 ∨ i = 2 ∨ i = 3 ∨ i = 4 := by omega
  rcases q with e | e | e | e | e
  · subst e
    exact ⟨a, rfl, .inl rfl⟩
  · subst e
    exact ⟨b, rfl, .inr (.inl rfl)⟩
  · subst e
    exact ⟨c, rfl, .inr (.inr (.inl rfl))⟩
  · subst e
    exact ⟨d, rfl, .inr (.inr (.inr (.inl rfl)))⟩
  · subst e
    exact ⟨_, rfl, .inr (.inr (.inr (.inr rfl)))⟩
theorem four4 {a b c d : V} {i : Int} (h0 : 0 ≤ i) (h1 : i < 4) : ∃ v, atI [a, b, c, d] i = some v ∧ (v = a ∨ v = b ∨ v = c ∨ v = d) := by
  have q : i = 0 ∨ i = 1 ∨ i = 2 ∨ i = 3 := by omega
  rcases q with e | e | e | e
  · subst e
    exact ⟨a, rfl, .inl rfl⟩
  · subst e
    exact ⟨b, rfl, .inr (.inl rfl)⟩
  · subst e
    exact ⟨c, rfl, .inr (.inr (.inl rfl))⟩
  · subst e
    exact ⟨d, rfl, .inr (.inr (.inr rfl))⟩
theorem low_str {z : Str} (h : ∀ c ∈ z.cps.toList, Sgn c) : PyData.strOk z = true := by
  show z.cps.all (· < 0x110000) = true
  rw [← Array.all_toList, List.all_eq_true]
  intro c hc
  have := h c hc
  unfold Sgn at this
  exact decide_eq_true (by omega)
theorem pl_out : ∀ (n : Nat) (d : PyData), PlD n d → okD d = true ∧ d.showable = true ∧ d.depth ≤ n
  | n, .str z, h => by
    have h' : (∀ c ∈ z.cps.toList, Sgn c) ∧ z.length ≤ 8 := by
      cases n <;> exact h
    refine ⟨?_, rfl, Nat.zero_le _⟩
    show (PyData.strOk z && decide (z.length ≤ 1000)) = true
    rw [low_str h'.1, decide_eq_true (by omega)]
    rfl
  | n + 1, .tuple ds, h => by
    have h' : ds.length ≤ 4 ∧ ∀ d ∈ ds, PlD n d := h
    have ih := fun d hd => pl_out n d (h'.2 d hd)
    refine ⟨?_, showAll_of fun d hd => (ih d hd).2.1, Nat.succ_le_succ (depAll_le fun d hd => (ih d hd).2.2)⟩
    show (decide (ds.length ≤ 1000) && okAll ds) = true
    rw [decide_eq_true (by omega), okAll_of fun d hd => (ih d hd).1]
    rfl
  | 0, .tuple _, h => h.elim
  | 0, .int _, h => h.elim
  | 0, .none, h => h.elim
  | 0, .bool _, h => h.elim
  | 0, .list _, h => h.elim
  | 0, .dict _, h => h.elim
  | _ + 1, .int _, h => h.elim
  | _ + 1, .none, h => h.elim
  | _ + 1, .bool _, h => h.elim
  | _ + 1, .list _, h => h.elim
  | _ + 1, .dict _, h => h.elim
theorem up_abc : ∀ c : Fin 26, Unicode.upperOf (97 + c.val) = [65 + c.val] := by decide +kernel
theorem up_star : Unicode.upperOf 42 = [42] := by decide +kernel
theorem upper_ok {z : Str} (h : ∀ c ∈ z.cps.toList, Sgn c) (l : z.length ≤ 8) : okD (.str (Txt.upper z)) = true := by
  have n := len_upper z
  show (PyData.strOk (Txt.upper z) && decide ((Txt.upper z).length ≤ 1000)) = true
  rw [decide_eq_true (by omega), Bool.and_true]
  show (Txt.upper z).cps.all (· < 0x110000) = true
  rw [← Array.all_toList, List.all_eq_true]
  intro c hc
  have hc' : c ∈ ((z.cps.mapIdx fun i c => (Unicode.upperOf c).toArray).flatten).toList := hc
  rw [Array.mem_toList_iff, Array.mem_flatten] at hc'
  obtain ⟨l, hl, hcl⟩ := hc'
  obtain ⟨i, hi, e⟩ := Array.mem_mapIdx.mp hl
  have m := h z.cps[i] (Array.mem_toList_iff.mpr (Array.getElem_mem hi))
  rcases m with m | m
  · rw [← e, m, up_star] at hcl
    have e3 : c = 42 := by simpa using hcl
    exact decide_eq_true (by omega)
  have u := up_abc ⟨z.cps[i] - 97, by omega⟩
  have e2 : 97 + (z.cps[i] - 97) = z.cps[i] := by omega
  rw [e2] at u
  rw [← e, u] at hcl
  have e3 : c = 65 + (z.cps[i] - 97) := by simpa using hcl
  exact decide_eq_true (by omega)
end K1

namespace K1
open PySem PySem.Spec PyProof.Rows L2 Own
/-! ### a value bent -/
def spBent (K : PySem.W.Frag) (m : Nat) : Sp := fun vs H Q _ => ∃ s N v n d, vs = [.ref s, v] ∧ n < m ∧ n ≤ 20 ∧ Src H s ∧ NOk N s H ∧ PlD n d ∧ Dp K (hid N H) v d ∧ ∀ H' v' d', Keep s H H' → Src H' s → Dp K (hid N H') v' d' → Out (2 * wtD d + 5000) (n + 4) d' → Q v' H'
/-- among the values that are handed out -/
def Is (K : PySem.W.Frag) (N : Addr → Prop) (H : Hp) (m k : Nat) (v : V) : Prop := ∃ d, Dp K (hid N H) v d ∧ Out m k d
theorem Is.keep {K : PySem.W.Frag} {N : Addr → Prop} {s : Addr} {H H' : Hp} {m k : Nat} {v : V} (h : Is K N H m k v) (q : Keep s H H') (ns : N s) : Is K N H' m k v := by
  obtain ⟨d, a, b⟩ := h
  exact ⟨d, dp_same (hid_keep q ns) a, b⟩
theorem mem_wt {ds : List PyData} {d : PyData} (h : d ∈ ds) : wtD d + 2 ≤ wtAll ds := by
  induction ds with
  | nil => nomatch h
  | cons x r ih =>
    show wtD d + 2 ≤ wtD x + 2 + wtAll r
    rcases List.mem_cons.mp h with q | q
    · rw [q]
      omega
    · have := ih q
      omega
theorem cut_from' (xs : List V) (k : Nat) : cutV xs (some ((k : Nat) : Int)) none = xs.drop k := by
  by_cases h : k ≤ xs.length
  · exact cut_from xs k h
  · unfold cutV
    rw [HT.sIx_none, HT.sIx_nat, Nat.min_eq_right (by omega), List.drop_length, List.drop_eq_nil_of_le (by omega), List.take_nil]
theorem cut_to' (xs : List V) (k : Nat) : cutV xs none (some ((k : Nat) : Int)) = xs.take k := by
  by_cases h : k ≤ xs.length
  · exact cut_to xs k h
  · unfold cutV
    rw [HT.sIx_none, HT.sIx_nat, Nat.min_eq_right (by omega), List.drop_zero, Nat.sub_zero, List.take_length, List.take_of_length_le (by omega)]
theorem sqT_keep {K : PySem.W.Frag} {s : Addr} {H H' : Hp} {a : Addr} {xs : List V} (k : Keep s H H') (q : Src H s) (h : SqT K H a xs) : SqT K H' a xs := sqT_stay (k.stay q) h
theorem digits_ok : ∀ i : Fin 9, okD (.str (toString ((i.val : Nat) : Int) : String)) = true ∧ (((toString ((i.val : Nat) : Int) : String) : Str)).length ≤ 2 := by decide +kernel
theorem small_show {i : Int} (h : i.natAbs < 16) : PyData.showable (.int i) = true := by
  refine decide_eq_true ?_
  by_cases z : i.natAbs = 0
  · rw [z]
    decide
  · have q := (Nat.log2_lt z).mpr (show i.natAbs < 2 ^ 4 from h)
    omega
section
variable {P : Program} {w : World} {K : PySem.W.Frag} {mg : Str → Option Value} {base : Heap}
abbrev nB : List Str := ["source", "value", "at", "other", "choice", "some"]
theorem scBent : FnScope nB ["source", "value"] (defScope sLawBent) := ⟨rfl, rfl, rfl, by decide +kernel, rfl, by decide +kernel, by decide +kernel⟩
theorem bent_none {f : Addr} {fd : FuncData} : FnOk P w K mg base CX0 2 f fd ["source", "value"] (spBent K 0) := by
  have no : ∀ vs H Q E, ¬ spBent K 0 vs H Q E := fun vs H Q E ⟨_, _, _, _, _, _, h, _⟩ => Nat.not_lt_zero _ h
  exact ⟨fun vs H Q E h => absurd h (no vs H Q E), fun A out s H args us vs Q E _ _ _ _ h => absurd h (no vs H Q E)⟩
theorem bent_step {f g a_ : Addr} {fd gd ad : FuncData} {m : Nat} (F : Fun K "_law_bent" "_law_bent" sLawBent f fd) (IH : FnOk P w K mg base CX0 (m + 2) f fd ["source", "value"] (spBent K m)) (bT : Binds K fd ["source", "value"] []) (mT : mg "_law_bent" = some (.ref f))
    (GD : FnOk P w K mg base CX0 1 g gd ["source", "many"] spDraw) (kD : PySem.W.keepIn K (.ref g) = true) (bD : Binds K gd ["source", "many"] []) (mD : mg "_law_draw" = some (.ref g))
    (GA : FnOk P w K mg base CX0 2 a_ ad ["source"] (spAny K)) (kA : PySem.W.keepIn K (.ref a_) = true) (bA : Binds K ad ["source"] []) (mA : mg "_law_any" = some (.ref a_))
    (ml : mg "len" = none) (mt : mg "tuple" = none) (mi : mg "isinstance" = none) (mli : mg "list" = none) :
    FnOk P w K mg base CX0 (m + 3) f fd ["source", "value"] (spBent K (m + 1)) := by
  refine F.ok scBent (fun vs H Q E h => ?_) (fun cdv A outer s_ H vs Q E hr h => ?_)
  · obtain ⟨s, N, v, n, d, rfl, _⟩ := h
    rfl
  · obtain ⟨s, N, v, n, d, rfl, hnm, n20, src, nok, pl, hd, k⟩ := h
    have hr1 : Room 1 _ := hr.mono (by omega)
    have hr2 : Room 2 _ := hr.mono (by omega)
    refine ⟨_, pss_cons (ps_if (PW.pt (pw_and (pt_val (pe_callB call_isi (by rfl) mi (by decide +kernel) (pa_cons (pv 1) (pa_cons (pe_bltn (v := .ty "tuple") (u := .type "tuple") (by rfl) mt (by decide +kernel) rfl) pa_nil))))
          (pw_and (pt_cmpR (op_neD hr.units) (pv 1) (pe_tup pa_nil) (nomark _)) (pw_and1 (pt_cmpR op_gt (pe_call GD hr1 (by rfl) mD kD bD .nil pass0 (pa_cons (pv 0) (pa_cons pe_int pa_nil))) pe_int (nomark _))))))
        (pss_cons (ps_set (i := 2) scBent.nd rfl (Or.inl rfl) (pe_call GD hr1 (by rfl) mD kD bD .nil pass0 (pa_cons (pv 0) (pa_cons (pe_callB call_len_seq (by rfl) ml PySem.boot_len (pa_cons (pv 1) pa_nil)) pa_nil))))
        (pss_one (ps_ret (pe_op op_catW (pe_op op_catW (pe_slice sl_tupW (pv 1) po_none (po_some (pv 2))) (pe_tup (pa_cons (pe_call IH hr (by rfl) mT F.kp bT .nil pass0 (pa_cons (pv 0) (pa_cons (pe_ix ix_tup (pv 1) (pv 2) (fun _ _ => rfl)) pa_nil))) pa_nil)))
          (pe_slice sl_tupW (pv 1) (po_some (pe_op op_add (pv 2) pe_int)) po_none))))) pss_nil)
      (pss_cons (ps_par (i := 3) (j := 4) rfl scBent.nd rfl rfl (by decide) rfl rfl (pa_cons (pe_call GA hr2 (by rfl) mA kA bA .nil pass0 (pa_cons (pv 0) pa_nil)) (pa_cons (pe_call GD hr1 (by rfl) mD kD bD .nil pass0 (pa_cons (pv 0) (pa_cons pe_int pa_nil))) pa_nil)) (by rfl))
      (pss_cons (ps_if (PW.pt (pw_and (pt_val (pe_callB call_isi (by rfl) mi (by decide +kernel) (pa_cons (pv 1) (pa_cons (pe_bltn (v := .ty "tuple") (u := .type "tuple") (by rfl) mt (by decide +kernel) rfl) pa_nil)))) (pw_and1 (pt_cmpR op_lt (pv 4) pe_int (nomark _)))))
        (pss_cons (ps_set (i := 2) scBent.nd rfl (Or.inl rfl) (pe_call GD hr1 (by rfl) mD kD bD .nil pass0 (pa_cons (pv 0) (pa_cons (pe_op op_add (pe_callB call_len_seq (by rfl) ml PySem.boot_len (pa_cons (pv 1) pa_nil)) pe_int) pa_nil))))
        (pss_cons (ps_set (i := 5) scBent.nd rfl (Or.inl rfl) (pe_lst (pa_cons (pe_callTy call_list_of (by rfl) mli (by decide +kernel) (pa_cons (pv 1) pa_nil))
          (pa_cons (pe_op op_catW (pe_slice sl_tupW (pv 1) po_none (po_some (pv 2))) (pe_slice sl_tupW (pv 1) (po_some (pe_op op_add (pv 2) pe_int)) po_none))
          (pa_cons (pe_op op_catW (pe_op op_catW (pe_slice sl_tupW (pv 1) po_none (po_some (pv 2))) (pe_tup (pa_cons (pv 3) pa_nil))) (pe_slice sl_tupW (pv 1) (po_some (pv 2)) po_none))
          (pa_cons (pe_revT (pv 1)) pa_nil))))))
        (pss_one (ps_ret (pe_ix ix_list (pe_op op_cat (pv 5) (pe_lst (pa_cons (pe_op op_catW (pe_slice sl_tupW (pv 1) po_none (po_some (pe_op op_add (pv 2) pe_int))) (pe_slice sl_tupW (pv 1) (po_some (pv 2)) po_none)) pa_nil))) (pv 4) (fun _ _ => rfl)))))) pss_nil)
      (pss_one (ps_ret (pv 3))))), ?_⟩
    obtain ⟨pok, psh, pdp⟩ := pl_out n d pl
    have pfit : Fit d := ⟨pok, by omega⟩
    refine q_ifB (fun H2 => Keep s H H2 ∧ Src H2 s ∧ ∃ ds, d = .tuple ds ∧ ds ≠ []) (fun H2 => Keep s H H2 ∧ Src H2 s) (fun H2 ⟨k2, sr2, ds, ed, ne⟩ => ?_) (fun H2 ⟨k2, sr2⟩ => ?_) (fun Y N hY hN => ?_)
    · subst ed
      obtain ⟨n', rfl⟩ : ∃ n', n = n' + 1 := by
        cases n with
        | zero => exact pl.elim
        | succ n' => exact ⟨n', rfl⟩
      obtain ⟨four, kidsP⟩ : ds.length ≤ 4 ∧ ∀ d ∈ ds, PlD n' d := pl
      have hd2 := dp_same (hid_keep k2 nok.ns) hd
      cases hd2 with
      | tup hs ha =>
        rename_i a xs
        have lx := dpAll_len ha
        have hs2 := Same.tup hid_same hs
        have pos : 0 < ds.length := List.length_pos_iff.mpr ne
        refine ⟨_, rfl, _, rfl, a, _, rfl, .inr hs2, s, _, rfl, sr2, (by omega), (by omega), fun i H3 i0 i1 sr3 k3 => ?_⟩
        obtain ⟨j, rfl⟩ : ∃ j : Nat, i = (j : Int) := ⟨i.toNat, by omega⟩
        have jl : j < ds.length := by omega
        have hs3 := sqT_keep k3 sr2 hs2
        refine ⟨_, rfl, _, rfl, (j : Int), rfl, a, xs, rfl, hs3, fun p1 H4 s4 h4 => ?_⟩
        have hs4 := Same.tup s4 hs3
        have k24 := k3.trans (Keep.of s4)
        have ha4 := dpAll_same (hid_keep k24 nok.ns) ha
        obtain ⟨y, hy, hdy⟩ := dpAll_at' ha4 (List.getElem?_eq_getElem jl)
        have cm : ds[j] ∈ ds := List.getElem_mem jl
        have sr4 := sr3.same s4
        refine ⟨_, rfl, _, rfl, _, rfl, a, xs, (j : Int), y, rfl, rfl, hs4, atI_nat hy, s, N, y, n', ds[j], rfl, (by omega), (by omega), sr4, ((nok.keep k2 sr2).keep k24 sr4), kidsP _ cm, hdy, fun H5 v5 d5 k5 sr5 hv5 o5 => ?_⟩
        refine ⟨(by show 1 ≤ sizeLine; decide), fun p2 n2 => ?_⟩
        have s6 := same_upd (o := .tup [v5]) n2
        have k46 := k5.trans (Keep.of s6)
        have h46 := sqT_keep k46 sr4 h4
        have cl : (cutV xs none (some (j : Int))).length ≤ 4 := by
          have := cutV_length xs none (some (j : Int))
          omega
        refine ⟨p1, p2, _, _, rfl, rfl, h46, SqT.of upd_same, (by show _ + 1 ≤ 1000; omega), fun p3 H7 s7 h7 => ?_⟩
        have k47 := k46.trans (Keep.of s7)
        have hs7 := sqT_keep k47 sr4 hs4
        have sr7 := (sr5.same s6).same s7
        refine ⟨_, rfl, _, rfl, _, _, rfl, rfl, ((j : Int) + 1), rfl, a, xs, rfl, hs7, fun p4 H8 s8 h8 => ?_⟩
        have cl2 : (cutV xs (some ((j : Int) + 1)) none).length ≤ 4 := by
          have := cutV_length xs (some ((j : Int) + 1)) none
          omega
        refine ⟨p3, p4, _, _, rfl, rfl, Same.tup s8 h7, h8, (by rw [List.length_append]; show _ + 1 + _ ≤ 1000; omega), fun p5 H9 s9 h9 => ?_⟩
        have s79 := s8.trans s9
        have k29 := (k24.trans k47).trans (Keep.of s79)
        have sr9 := sr7.same s79
        have e1 : cutV xs none (some (j : Int)) = xs.take j := cut_to xs j (by omega)
        have e2 : cutV xs (some ((j : Int) + 1)) none = xs.drop (j + 1) := cut_from xs (j + 1) (by omega)
        rw [e1, e2] at h9
        have ha9 := dpAll_same (hid_keep k29 nok.ns) ha
        have hv9 := dp_same (hid_keep (Keep.of ((s6.trans s7).trans s79)) nok.ns) hv5
        have all9 := dpAll_app (dpAll_app (dpAll_take j ha9) (.cons hv9 .nil)) (dpAll_drop (j + 1) ha9)
        refine k H9 (.ref p5) (.tuple (ds.take j ++ [d5] ++ ds.drop (j + 1))) (k2.trans k29) sr9 (.tup (sqT_stay (stay_hid ((nok.keep k2 sr2).keep k29 sr9)) h9) all9) ?_
        have split : ds = ds.take j ++ [ds[j]] ++ ds.drop (j + 1) := by
          rw [List.append_assoc, List.singleton_append, ← List.drop_eq_getElem_cons jl, List.take_append_drop]
        have w1 : wtAll ds = wtAll (ds.take j) + (wtD ds[j] + 2 + 0) + wtAll (ds.drop (j + 1)) := by
          conv => lhs; rw [split]
          rw [wtAll_app, wtAll_app]
          rfl
        have w2 : wtAll (ds.take j ++ [d5] ++ ds.drop (j + 1)) = wtAll (ds.take j) + (wtD d5 + 2 + 0) + wtAll (ds.drop (j + 1)) := by
          rw [wtAll_app, wtAll_app]
          rfl
        have w3 := o5.wt
        have w4 : wtD (.tuple ds) = wtAll ds + 3 := rfl
        have o := out_tup (m := 2 * wtD (.tuple ds) + 5000) (k := n' + 4) (ds := ds.take j ++ [d5] ++ ds.drop (j + 1)) (by rw [List.length_append, List.length_append, List.length_take, List.length_drop]; show _ + 1 + _ ≤ 1000; omega) (fun e he => ?_) (by rw [w2, w4]; omega)
        · exact o.1
        · rcases List.mem_append.mp he with q | q
          · rcases List.mem_append.mp q with q | q
            · obtain ⟨a1, a2, a3⟩ := pl_out n' e (kidsP e (List.mem_of_mem_take q))
              exact ⟨a1, a2, by omega⟩
            · rw [List.mem_singleton.mp q]
              exact ⟨o5.ok, o5.sh, o5.dp⟩
          · obtain ⟨a1, a2, a3⟩ := pl_out n' e (kidsP e (List.mem_of_mem_drop q))
            exact ⟨a1, a2, by omega⟩
    · refine ⟨_, rfl, s, N, rfl, sr2, nok.keep k2 sr2, fun H3 vo dO k3 sr3 ho hmem => ⟨_, rfl, s, 7, rfl, sr3, (by decide), (by decide), fun c H4 c0 c7 sr4 k4 => ⟨_, _, rfl, ?_⟩⟩⟩
      have kc := (k2.trans k3).trans k4
      have hd4 := dp_same (hid_keep kc nok.ns) hd
      have isO : Is K N H4 4000 4 vo := ⟨dO, dp_same (hid_keep k4 nok.ns) ho, any_out dO hmem⟩
      have done : ∀ H5 u, Same H4 H5 → Is K N H5 (2 * wtD d + 5000) (n + 4) u → Q u H5 := fun H5 u s5 ⟨d5, h5, o5⟩ => k H5 u d5 (kc.trans (Keep.of s5)) (sr4.same s5) h5 o5
      have other : Q vo H4 := done H4 vo (Same.refl H4) (by
        obtain ⟨d5, h5, o5⟩ := isO
        exact ⟨d5, h5, o5.mono (by omega) (by omega)⟩)
      have ty := dp_ty (dp_same hid_same hd4)
      cases d with
      | str z => exact ⟨_, rfl, _, .ty "tuple", _, _, false, rfl, .ty "tuple", ty, kit_ty (kt_tuple _), false, rfl, iteF (iteF ⟨_, rfl, other⟩)⟩
      | tuple ds =>
        refine ⟨_, rfl, _, .ty "tuple", _, _, true, rfl, .ty "tuple", ty, kit_ty (kt_tuple _), true, rfl, iteT ⟨_, rfl, _, _, rfl, rfl, _, rfl, ite2 (fun e => ?_) (fun e => ?_)⟩⟩
        · have c5 : c < 5 := of_decide_eq_true e
          obtain ⟨n', rfl⟩ : ∃ n', n = n' + 1 := by
            cases n with
            | zero => exact pl.elim
            | succ n' => exact ⟨n', rfl⟩
          obtain ⟨four, kidsP⟩ : ds.length ≤ 4 ∧ ∀ d ∈ ds, PlD n' d := pl
          obtain ⟨dx, hox, oox⟩ := isO
          cases hd4 with
          | tup hs ha =>
            rename_i a xs
            have lx := dpAll_len ha
            have hs4 := Same.tup hid_same hs
            refine ⟨_, rfl, _, rfl, a, _, rfl, .inr hs4, _, _, rfl, rfl, s, _, rfl, sr4, (by omega), (by omega), fun i H5 i0 i1 sr5 k5 => ?_⟩
            obtain ⟨j, rfl⟩ : ∃ j : Nat, i = (j : Int) := ⟨i.toNat, by omega⟩
            have hs5 := sqT_keep k5 sr4 hs4
            refine ⟨_, rfl, a, _, rfl, .inr hs5, fun l0 nl0 => ?_⟩
            have s6 := same_upd (o := .lst xs) nl0
            have hl0 := upd_same (H := H5) (a := l0) (o := .lst xs)
            generalize upd H5 l0 (.lst xs) = H6 at s6 hl0 ⊢
            have t1 : ∀ k : Int, (cutV xs none (some k)).length ≤ 4 := fun k => by
              have := cutV_length xs none (some k)
              omega
            have t2 : ∀ k : Int, (cutV xs (some k) none).length ≤ 4 := fun k => by
              have := cutV_length xs (some k) none
              omega
            refine ⟨_, rfl, _, rfl, (j : Int), rfl, a, xs, rfl, Same.tup s6 hs5, fun p1 H7 s7 h7 => ?_⟩
            have s57 := s6.trans s7
            refine ⟨_, rfl, _, rfl, _, _, rfl, rfl, ((j : Int) + 1), rfl, a, xs, rfl, Same.tup s57 hs5, fun p2 H8 s8 h8 => ?_⟩
            have s58 := s57.trans s8
            refine ⟨p1, p2, _, _, rfl, rfl, Same.tup s8 h7, h8, (by have := t1 j; have := t2 (j + 1); omega), fun w1 H9 s9 h9 => ?_⟩
            have s59 := s58.trans s9
            refine ⟨_, rfl, _, rfl, (j : Int), rfl, a, xs, rfl, Same.tup s59 hs5, fun p3 H10 s10 h10 => ?_⟩
            have s5a := s59.trans s10
            refine ⟨_, rfl, (by show 1 ≤ sizeLine; decide), fun p4 n4 => ?_⟩
            have s11 := same_upd (o := .tup [vo]) n4
            have h11 := upd_same (H := H10) (a := p4) (o := .tup [vo])
            generalize upd H10 p4 (.tup [vo]) = H11 at s11 h11 ⊢
            have s5b := s5a.trans s11
            refine ⟨p3, p4, _, _, rfl, rfl, Same.tup s11 h10, SqT.of h11, (by have := t1 j; show _ + 1 ≤ 1000; omega), fun p5 H12 s12 h12 => ?_⟩
            have s5c := s5b.trans s12
            refine ⟨_, rfl, _, rfl, (j : Int), rfl, a, xs, rfl, Same.tup s5c hs5, fun p6 H13 s13 h13 => ?_⟩
            have s5d := s5c.trans s13
            refine ⟨p5, p6, _, _, rfl, rfl, Same.tup s13 h12, h13, (by have := t1 j; have := t2 j; rw [List.length_append]; show _ + 1 + _ ≤ 1000; omega), fun w2 H14 s14 h14 => ?_⟩
            have s5e := s5d.trans s14
            refine ⟨_, rfl, a, xs, rfl, Same.tup s5e hs5, fun w3 n3 => ?_⟩
            have s15 := same_upd (o := .tup xs.reverse) n3
            have h15 := upd_same (H := H14) (a := w3) (o := .tup xs.reverse)
            generalize upd H14 w3 (.tup xs.reverse) = H15 at s15 h15 ⊢
            have s5f := s5e.trans s15
            refine ⟨(by show 4 ≤ sizeLine; decide), fun L nL => ?_⟩
            have s16 := same_upd (o := .lst [.ref l0, .ref w1, .ref w2, .ref w3]) nL
            have h16 := upd_same (H := H15) (a := L) (o := .lst [.ref l0, .ref w1, .ref w2, .ref w3])
            generalize upd H15 L (.lst [.ref l0, .ref w1, .ref w2, .ref w3]) = H16 at s16 h16 ⊢
            have s5g := s5f.trans s16
            refine ⟨_, rfl, _, rfl, _, rfl, _, _, rfl, rfl, ((j : Int) + 1), rfl, a, xs, rfl, Same.tup s5g hs5, fun p7 H17 s17 h17 => ?_⟩
            have s5h := s5g.trans s17
            refine ⟨_, rfl, _, rfl, (j : Int), rfl, a, xs, rfl, Same.tup s5h hs5, fun p8 H18 s18 h18 => ?_⟩
            have s5i := s5h.trans s18
            refine ⟨p7, p8, _, _, rfl, rfl, Same.tup s18 h17, h18, (by have := t1 (j + 1); have := t2 j; omega), fun w4 H19 s19 h19 => ?_⟩
            refine ⟨(by show 1 ≤ sizeLine; decide), fun M nM => ?_⟩
            have s20 := same_upd (o := .lst [.ref w4]) nM
            have h20 := upd_same (H := H19) (a := M) (o := .lst [.ref w4])
            generalize upd H19 M (.lst [.ref w4]) = H20 at s20 h20 ⊢
            have sG0 : Same H16 H20 := ((s17.trans s18).trans s19).trans s20
            refine ⟨L, M, _, _, rfl, rfl, sG0 _ _ h16, h20, (by show 4 + 1 ≤ sizeLine; decide), fun Nq nN => ?_⟩
            have s21 := same_upd (o := .lst ([.ref l0, .ref w1, .ref w2, .ref w3] ++ [.ref w4])) nN
            have h21 := upd_same (H := H20) (a := Nq) (o := .lst ([.ref l0, .ref w1, .ref w2, .ref w3] ++ [.ref w4]))
            generalize upd H20 Nq (.lst ([.ref l0, .ref w1, .ref w2, .ref w3] ++ [.ref w4])) = G at s21 h21 ⊢
            have s16G := sG0.trans s21
            have s15G := s16.trans s16G
            have s14G := s15.trans s15G
            have s9G := ((((((s10.trans s11).trans s12).trans s13).trans s14).trans s15).trans s16).trans s16G
            have s5G := s5g.trans s16G
            have s6G : Same H6 G := ((s7.trans s8).trans s9).trans s9G
            have srG := sr5.same s5G
            obtain ⟨u, hu, uc⟩ := five (a := .ref l0) (b := .ref w1) (c := .ref w2) (d := .ref w3) (e := .ref w4) c0 c5
            refine ⟨_, rfl, Nq, _, c, u, rfl, rfl, SqL.of h21, hu, ?_⟩
            have k4G := k5.trans (Keep.of s5G)
            have haG := dpAll_same (hid_keep k4G nok.ns) ha
            have hoG := dp_same (hid_keep k4G nok.ns) hox
            have fin : Is K N G (2 * wtD (.tuple ds) + 5000) (n' + 1 + 4) u := by
              have wt : wtD (.tuple ds) = wtAll ds + 3 := rfl
              have wo := oox.wt
              have kid : ∀ e ∈ ds, okD e = true ∧ e.showable = true ∧ e.depth ≤ n' + 4 := fun e he => by
                obtain ⟨a1, a2, a3⟩ := pl_out n' e (kidsP e he)
                exact ⟨a1, a2, by omega⟩
              have ko : okD dx = true ∧ dx.showable = true ∧ dx.depth ≤ n' + 4 := ⟨oox.ok, oox.sh, by have := oox.dp; omega⟩
              have e1 := cut_to' xs j
              have e2 := cut_from' xs (j + 1)
              have e3 := cut_from' xs j
              have e4 := cut_to' xs (j + 1)
              have c1 : (((j + 1 : Nat) : Nat) : Int) = (j : Int) + 1 := by omega
              rw [c1] at e2 e4
              have tupIs : ∀ p zs es, SqT K G p zs → DpAll K (hid N G) zs es → es.length ≤ 1000 → (∀ e ∈ es, okD e = true ∧ e.showable = true ∧ e.depth ≤ n' + 4) → wtAll es + 3 ≤ 2 * wtD (.tuple ds) + 5000 → Is K N G (2 * wtD (.tuple ds) + 5000) (n' + 1 + 4) (.ref p) := fun p zs es hp hz l q w =>
                ⟨.tuple es, .tup (sqT_stay (stay_hid (nok.keep (kc.trans k4G) srG)) hp) hz, (out_tup l q w).1⟩
              have wt1 := wtAll_take ds j
              have wt2 := wtAll_drop ds (j + 1)
              have wt3 := wtAll_drop ds j
              have wt4 := wtAll_take ds (j + 1)
              rcases uc with e | e | e | e | e
              · subst e
                have l0s : ¬ N l0 := ((nok.keep kc sr4).keep k5 sr5).new nl0
                exact ⟨.list ds, .lst (SqL.of (hid_at l0s (s6G _ _ hl0))) haG, (out_tup (by omega) kid (by omega)).2⟩
              · subst e
                rw [e1, e2] at h9
                refine tupIs _ _ _ (Same.tup s9G h9) (dpAll_app (dpAll_take j haG) (dpAll_drop (j + 1) haG)) (by rw [List.length_append, List.length_take, List.length_drop]; omega) (fun e he => ?_) (by rw [wtAll_app]; omega)
                rcases List.mem_append.mp he with q | q
                · exact kid e (List.mem_of_mem_take q)
                · exact kid e (List.mem_of_mem_drop q)
              · subst e
                rw [e1, e3] at h14
                refine tupIs _ _ _ (Same.tup s14G h14) (dpAll_app (dpAll_app (dpAll_take j haG) (.cons hoG .nil)) (dpAll_drop j haG)) (by rw [List.length_append, List.length_append, List.length_take, List.length_drop]; show _ + 1 + _ ≤ 1000; omega) (fun e he => ?_) ?_
                · rcases List.mem_append.mp he with q | q
                  · rcases List.mem_append.mp q with q | q
                    · exact kid e (List.mem_of_mem_take q)
                    · rw [List.mem_singleton.mp q]
                      exact ko
                  · exact kid e (List.mem_of_mem_drop q)
                · rw [wtAll_app, wtAll_app]
                  show wtAll (ds.take j) + (wtD dx + 2 + 0) + wtAll (ds.drop j) + 3 ≤ _
                  omega
              · subst e
                refine tupIs _ _ _ (Same.tup s15G (SqT.of h15)) (dpAll_rev haG) (by rw [List.length_reverse]; omega) (fun e he => kid e (List.mem_reverse.mp he)) (by rw [wtAll_rev]; omega)
              · subst e
                rw [e4, e3] at h19
                refine tupIs _ _ _ (Same.tup (s20.trans s21) h19) (dpAll_app (dpAll_take (j + 1) haG) (dpAll_drop j haG)) (by rw [List.length_append, List.length_take, List.length_drop]; omega) (fun e he => ?_) (by rw [wtAll_app]; omega)
                rcases List.mem_append.mp he with q | q
                · exact kid e (List.mem_of_mem_take q)
                · exact kid e (List.mem_of_mem_drop q)
            obtain ⟨dz, hz, oz⟩ := fin
            exact k G u dz (kc.trans k4G) srG hz oz
        · exact ⟨_, rfl, other⟩
      | none => cases n <;> exact pl.elim
      | int i => cases n <;> exact pl.elim
      | bool b => cases n <;> exact pl.elim
      | list ds => cases n <;> exact pl.elim
      | dict ds => cases n <;> exact pl.elim
    · have ty := dp_ty (dp_same hid_same hd)
      cases d with
      | tuple ds =>
        refine ⟨_, rfl, _, .ty "tuple", _, _, true, rfl, .ty "tuple", ty, kit_ty (kt_tuple _), true, rfl, iteT ?_⟩
        refine ⟨_, rfl, (by show 0 ≤ sizeLine; decide), fun p np => ?_⟩
        have s1 := same_upd (o := .tup []) np
        refine ⟨.tuple ds, .tuple [], dp_same s1 (dp_same hid_same hd), .tup (SqT.of upd_same) .nil, pfit.shaped, by decide, _, rfl, ?_⟩
        cases ds with
        | nil => exact iteF (iteF (hN _ ⟨Keep.of s1, src.same s1⟩))
        | cons c r =>
          refine iteT ⟨_, rfl, s, 7, rfl, src.same s1, (by decide), (by decide), fun e H3 e0 e1 sr3 k3 => ⟨_, _, rfl, rfl, _, rfl, ?_⟩⟩
          have k13 := (Keep.of s1).trans k3
          exact ite2 (fun _ => hY _ ⟨k13, sr3, _, rfl, fun h => nomatch h⟩) (fun _ => hN _ ⟨k13, sr3⟩)
      | _ => exact ⟨_, rfl, _, .ty "tuple", _, _, false, rfl, .ty "tuple", ty, kit_ty (kt_tuple _), false, rfl, iteF (iteF (hN _ ⟨Keep.refl s H, src⟩))⟩
end
end K1

namespace K1
open PySem PySem.Spec PyProof.Rows L2 Own
/-! ### forms drawn -/
def fmsgs : List Str := ["", "note", "x"]
def FormN (ns : List Str) : Bool → Nat → PyData → Prop
  | p, 0, d => if p = true then d = .str "*" else ∃ z, z ∈ ns ∧ d = .str z
  | p, n + 1, d => (if p = true then d = .str "*" else ∃ z, z ∈ ns ∧ d = .str z) ∨ ∃ m cs at_, d = .tuple [.str m, .tuple cs] ∧ m ∈ fmsgs ∧ 1 ≤ cs.length ∧ cs.length ≤ 3 ∧ at_ < cs.length ∧ ∀ i c, cs[i]? = some c → FormN ns (p && decide (i = at_)) n c
def BaseN (ns : List Str) (p : Bool) (d : PyData) : Prop := if p = true then d = .str "*" else ∃ z, z ∈ ns ∧ d = .str z
theorem FormN.base {ns : List Str} {p : Bool} {d : PyData} (h : BaseN ns p d) : ∀ n, FormN ns p n d
  | 0 => h
  | _ + 1 => .inl h
theorem base_str {ns : List Str} {p : Bool} {d : PyData} (h : BaseN ns p d) : ∃ z, d = .str z ∧ (z = "*" ∨ z ∈ ns) := by
  unfold BaseN at h
  cases p with
  | true =>
    rw [if_pos rfl] at h
    exact ⟨_, h, .inl rfl⟩
  | false =>
    rw [if_neg Bool.false_ne_true] at h
    obtain ⟨z, hz, e⟩ := h
    exact ⟨z, e, .inr hz⟩
theorem form_flat {ns : List Str} : ∀ (n : Nat) (p : Bool) (d : PyData), FormN ns p n d → noList d = true
  | 0, p, d, h => by
    obtain ⟨z, rfl, _⟩ := base_str h
    rfl
  | n + 1, p, d, h => by
    rcases h with h | ⟨m, cs, at_, rfl, hm, l1, l3, la, hc⟩
    · obtain ⟨z, rfl, _⟩ := base_str h
      rfl
    · show (true && (noListAll cs && true)) = true
      rw [noListAll_of fun c hcm => by
        obtain ⟨i, hi, e⟩ := List.getElem_of_mem hcm
        exact form_flat n _ c (hc i c (by rw [List.getElem?_eq_getElem hi, e]))]
      rfl
theorem pl_sg (k : Nat) {z : Str} (h : (∀ c ∈ z.cps.toList, Sgn c) ∧ z.length ≤ 8) : PlD k (.str z) := by cases k <;> exact h
theorem fmsgs_low : ∀ m ∈ fmsgs, (∀ c ∈ m.cps.toList, 97 ≤ c ∧ c ≤ 122) ∧ m.length ≤ 8 := by decide +kernel
theorem name_sg {z : Str} (h : NameOk z) : (∀ c ∈ z.cps.toList, Sgn c) ∧ z.length ≤ 8 := ⟨fun c hc => .inr (h.2.2 c hc), h.2.1⟩
theorem star_sg : (∀ c ∈ ("*" : Str).cps.toList, Sgn c) ∧ ("*" : Str).length ≤ 8 := ⟨fun c hc => .inl (by
  have e : ∀ c ∈ ("*" : Str).cps.toList, c = 42 := by decide +kernel
  exact e c hc), by decide⟩
def wF : Nat → Nat
  | 0 => 100
  | n + 1 => 3 * (wF n + 2) + 200
theorem wF_pos : ∀ n, 100 ≤ wF n
  | 0 => Nat.le_refl _
  | n + 1 => by
    have := wF_pos n
    show 100 ≤ 3 * (wF n + 2) + 200
    omega
theorem wtAll_le {m : Nat} : ∀ {ds : List PyData}, (∀ d ∈ ds, wtD d ≤ m) → wtAll ds ≤ ds.length * (m + 2)
  | [], _ => Nat.zero_le _
  | d :: r, h => by
    have a := h d (List.mem_cons_self ..)
    have b := wtAll_le (m := m) (ds := r) fun x hx => h x (List.mem_cons_of_mem _ hx)
    show wtD d + 2 + wtAll r ≤ (r.length + 1) * (m + 2)
    rw [Nat.add_mul, Nat.one_mul]
    omega
theorem base_pl {ns : List Str} (nok : ∀ z ∈ ns, NameOk z) {p : Bool} {d : PyData} (h : BaseN ns p d) (k : Nat) : PlD k d ∧ wtD d ≤ 100 := by
  obtain ⟨z, rfl, hz⟩ := base_str h
  have q : (∀ c ∈ z.cps.toList, Sgn c) ∧ z.length ≤ 8 := by
    rcases hz with rfl | hz
    · exact star_sg
    · exact name_sg (nok z hz)
  refine ⟨pl_sg k q, ?_⟩
  show 10 * z.length + 2 ≤ 100
  omega
theorem form_pl {ns : List Str} (nok : ∀ z ∈ ns, NameOk z) : ∀ (n : Nat) (p : Bool) (d : PyData), FormN ns p n d → PlD (2 * n) d ∧ wtD d ≤ wF n
  | 0, p, d, h => base_pl nok (p := p) h 0
  | n + 1, p, d, h => by
    rcases h with h | ⟨m, cs, at_, rfl, hm, l1, l3, la, hc⟩
    · obtain ⟨a, b⟩ := base_pl nok (p := p) h (2 * (n + 1))
      exact ⟨a, Nat.le_trans b (wF_pos _)⟩
    · have ih : ∀ c ∈ cs, PlD (2 * n) c ∧ wtD c ≤ wF n := fun c hcm => by
        obtain ⟨i, hi, e⟩ := List.getElem_of_mem hcm
        exact form_pl nok n _ c (hc i c (by rw [List.getElem?_eq_getElem hi, e]))
      have ml := fmsgs_low m hm
      refine ⟨⟨by show 2 ≤ 4; decide, fun e he => ?_⟩, ?_⟩
      · rcases List.mem_cons.mp he with e1 | he
        · rw [e1]
          exact pl_sg _ ⟨fun c hc => .inr (ml.1 c hc), ml.2⟩
        · rw [List.mem_singleton.mp he]
          exact ⟨by omega, fun c hcm => (ih c hcm).1⟩
      · have q := wtAll_le fun c hcm => (ih c hcm).2
        have r : cs.length * (wF n + 2) ≤ 3 * (wF n + 2) := Nat.mul_le_mul_right _ l3
        show (10 * m.length + 2 + 2 + ((wtAll cs + 3) + 2 + 0)) + 3 ≤ 3 * (wF n + 2) + 200
        have := ml.2
        omega
theorem three {d : Int} (h0 : 0 ≤ d) (h1 : d < 3) : ∃ m, atI [V.str "", V.str "note", V.str "x"] d = some (V.str m) ∧ m ∈ fmsgs := by
  have c : d = 0 ∨ d = 1 ∨ d = 2 := by omega
  rcases c with e | e | e
  · subst e
    exact ⟨_, rfl, by decide +kernel⟩
  · subst e
    exact ⟨_, rfl, by decide +kernel⟩
  · subst e
    exact ⟨_, rfl, by decide +kernel⟩
theorem wide3 {n : Nat} (h0 : 1 ≤ n) (h1 : n ≤ 2) : ∃ u : Nat, atI [V.int 3, V.int 3, V.int 2] ((n : Nat) : Int) = some (V.int (u : Int)) ∧ 1 ≤ u ∧ u ≤ 3 := by
  have c : n = 1 ∨ n = 2 := by omega
  rcases c with e | e
  · subst e
    exact ⟨3, rfl, by decide, by decide⟩
  · subst e
    exact ⟨2, rfl, by decide, by decide⟩
def spRF (K : PySem.W.Frag) (m : Nat) : Sp := fun vs H Q _ => ∃ (s a : Addr) (ns : List Str) (p : Bool) (n : Nat), vs = [.ref s, .ref a, .bl p, .int (n : Nat)] ∧ n < m ∧ n ≤ 2 ∧ Src H s ∧ H a = some (.lst (ns.map V.str)) ∧ 1 ≤ ns.length ∧ ns.length ≤ 8 ∧ (∀ x ∈ ns, NameOk x) ∧
  ∀ H' v d, Keep s H H' → Src H' s → Dp K H' v d → FormN ns p n d → Q v H'
section
variable {P : Program} {w : World} {K : PySem.W.Frag} {mg : Str → Option Value} {base : Heap}
abbrev nF : List Str := ["source", "labels", "has_part", "depth", "many", "at", "some", "k"]
theorem scRF : FnScope nF ["source", "labels", "has_part", "depth"] (defScope sLawRandomForm) := ⟨rfl, rfl, rfl, by decide +kernel, rfl, by decide +kernel, by decide +kernel⟩
theorem form_none {f : Addr} {fd : FuncData} : FnOk P w K mg base CX0 1 f fd ["source", "labels", "has_part", "depth"] (spRF K 0) := by
  have no : ∀ vs H Q E, ¬ spRF K 0 vs H Q E := fun vs H Q E ⟨_, _, _, _, _, _, h, _⟩ => Nat.not_lt_zero _ h
  exact ⟨fun vs H Q E h => absurd h (no vs H Q E), fun A out s H args us vs Q E _ _ _ _ h => absurd h (no vs H Q E)⟩
theorem form_step {f g : Addr} {fd gd : FuncData} {m : Nat} (F : Fun K "_law_random_form" "_law_random_form" sLawRandomForm f fd) (IH : FnOk P w K mg base CX0 (m + 1) f fd ["source", "labels", "has_part", "depth"] (spRF K m)) (bT : Binds K fd ["source", "labels", "has_part", "depth"] []) (mT : mg "_law_random_form" = some (.ref f))
    (GD : FnOk P w K mg base CX0 1 g gd ["source", "many"] spDraw) (kD : PySem.W.keepIn K (.ref g) = true) (bD : Binds K gd ["source", "many"] []) (mD : mg "_law_draw" = some (.ref g)) (mr : mg "range" = none) (ml : mg "len" = none) (mt : mg "tuple" = none) :
    FnOk P w K mg base CX0 (m + 2) f fd ["source", "labels", "has_part", "depth"] (spRF K (m + 1)) := by
  refine F.ok scRF (fun vs H Q E h => ?_) (fun cdv A outer s_ H vs Q E hr h => ?_)
  · obtain ⟨s, a, ns, p, n, rfl, _⟩ := h
    rfl
  · obtain ⟨s, a, ns, p, n, rfl, hnm, n2, src, ha, l1, l8, nok, k⟩ := h
    have hr1 : Room 1 _ := hr.mono (by omega)
    refine ⟨_, pss_cons (ps_if (PW.pt (pw_or (pt_cmpR op_eq (pv 3) pe_int (nomark _)) (pw_or1 (pt_cmpR op_eq (pe_call GD hr1 (by rfl) mD kD bD .nil pass0 (pa_cons (pv 0) (pa_cons pe_int pa_nil))) pe_int (nomark _)))))
        (pss_one (ps_ret (pe_ifExp (pt_val (pv 2)) pe_str (pe_ix ix_list (pv 1) (pe_call GD hr1 (by rfl) mD kD bD .nil pass0 (pa_cons (pv 0) (pa_cons (pe_callB call_len_seq (by rfl) ml PySem.boot_len (pa_cons (pv 1) pa_nil)) pa_nil))) (fun _ _ => rfl)))))
        pss_nil)
      (pss_cons (ps_set (i := 4) scRF.nd rfl (Or.inl rfl) (pe_op op_add pe_int (pe_call GD hr1 (by rfl) mD kD bD .nil pass0 (pa_cons (pv 0) (pa_cons (pe_ix ix_list (pe_lst (pa_cons pe_int (pa_cons pe_int (pa_cons pe_int pa_nil)))) (pv 3) (fun _ _ => rfl)) pa_nil)))))
      (pss_cons (ps_set (i := 5) scRF.nd rfl (Or.inr rfl) (pe_call GD hr1 (by rfl) mD kD bD .nil pass0 (pa_cons (pv 0) (pa_cons (pv 4) pa_nil))))
      (pss_cons (ps_setLc (i := 6) (own := [("k", 7)]) (g := gName 7) (tt := tYes) (te := tCall (spRF K m) [] E0 (tCons (tVar 0) (tCons (tVar 1) (tCons (tAndV (tVar 2) (tOp rEq (tVar 7) (tVar 5))) (tCons (tOp (rI0 fun i j => .int (i - j)) (tVar 3) (tC (.int 1))) tNil))))) rfl scRF.nd rfl rfl (by rfl) (pi_range1 (by rfl) mr (pa_cons (pv 4) pa_nil)) (blkOk_by (N := nF) (sc := defScope sLawRandomForm) (by decide +kernel)) (fun _ _ _ _ _ => pg_name (i := 7) scRF.nd rfl (Or.inl rfl)) (fun _ _ _ _ _ => pts_nil) (fun _ _ _ _ _ => (pe_call IH hr (by rfl) mT F.kp bT .nil pass0 (pa_cons (pv 0) (pa_cons (pv 1) (pa_cons (pe_and (pv 2) (pe_one (pe_cmpR op_eq (pv 7) (pv 5) (nomark _)))) (pa_cons (pe_op op_sub (pv 3) pe_int) pa_nil)))))))
      (pss_one (ps_ret (pe_tup (pa_cons (pe_ix ix_list (pe_lst (pa_cons pe_str (pa_cons pe_str (pa_cons pe_str pa_nil)))) (pe_call GD hr1 (by rfl) mD kD bD .nil pass0 (pa_cons (pv 0) (pa_cons pe_int pa_nil))) (fun _ _ => rfl)) (pa_cons (pe_callTy call_tuple_of (by rfl) mt (by decide +kernel) (pa_cons (pv 6) pa_nil)) pa_nil)))))))), ?_⟩
    have lsl : (ns.map V.str).length = ns.length := List.length_map _
    have as : a ≠ s := src.ne ha
    refine q_ifR (R := fun H2 => Keep s H H2 ∧ Src H2 s) (fun H2 ⟨kp, sr⟩ => ?_) (fun Z hZ => ?_)
    · refine ⟨_, rfl, p, rfl, ?_⟩
      cases p with
      | true => exact iteT (k H2 _ (.str "*") kp sr (.str _) (FormN.base (p := true) rfl n))
      | false =>
        refine iteF ⟨_, rfl, _, rfl, _, rfl, a, _, rfl, .inl (SqL.of (kp a _ as ha)), s, _, rfl, sr, (by rw [lsl]; omega), (by rw [lsl]; omega), fun d H4 d0 d1 sr4 k4 => ?_⟩
        rw [lsl] at d1
        obtain ⟨x, hx, hat⟩ := str_at d0 d1
        exact ⟨a, _, d, _, rfl, rfl, SqL.of (k4 a _ as (kp a _ as ha)), hat, k H4 _ (.str x) (kp.trans k4) sr4 (.str _) (FormN.base (p := false) ⟨x, hx, rfl⟩ n)⟩
    refine ⟨_, rfl, rfl, _, rfl, ite2 (fun _ => iteT (hZ _ ⟨Keep.refl s H, src⟩)) (fun en => ?_)⟩
    refine ⟨_, rfl, s, 3, rfl, src, (by decide), (by decide), fun d H1 d0 d1 sr1 k1 => ⟨rfl, _, rfl, ite2 (fun _ => hZ _ ⟨k1, sr1⟩) (fun _ => ?_)⟩⟩
    have nz : n ≠ 0 := fun h => by
      subst h
      exact en (decide_eq_true rfl)
    obtain ⟨n', rfl⟩ : ∃ n', n = n' + 1 := ⟨n - 1, by omega⟩
    obtain ⟨u, hu, u1, u3⟩ := wide3 (n := n' + 1) (by omega) n2
    refine ⟨_, rfl, (by show 3 ≤ sizeLine; decide), fun q nq => ?_⟩
    have s2 := same_upd (o := .lst [.int 3, .int 3, .int 2]) nq
    refine ⟨_, rfl, q, _, _, _, rfl, rfl, SqL.of upd_same, hu, s, _, rfl, sr1.same s2, (by omega), (by omega), fun d2 H3 e0 e1 sr3 k3 => ?_⟩
    obtain ⟨many, rfl⟩ : ∃ many : Nat, d2 = (many : Int) := ⟨d2.toNat, by omega⟩
    have k13 := (k1.trans (Keep.of s2)).trans k3
    refine ⟨_, _, rfl, rfl, _, rfl, _, rfl, s, _, rfl, sr3, (by omega), (by omega), fun at_ H4 a0 a1 sr4 k4 => ?_⟩
    have k14 := k13.trans k4
    obtain ⟨w_, rfl⟩ : ∃ w_ : Nat, at_ = (w_ : Int) := ⟨at_.toNat, by omega⟩
    refine ⟨_, rfl, _, rfl, (by omega), (by omega), fun D nD => ?_⟩
    have nDH : H D = none := k14.free sr4 nD
    refine lc_range (lo := 0) (n := _) (fun i H' => Keep s H H' ∧ Src H' s ∧ ∃ vs cs, H' D = some (.lst vs) ∧ DpAll K H' vs cs ∧ cs.length = i ∧ ∀ j c, cs[j]? = some c → FormN ns (p && decide (j = w_)) n' c) ⟨k14.new nD, sr4.new nD, [], [], upd_same, .nil, rfl, fun j c h => by cases h⟩ ?_ ?_
    · rintro i H' hi ⟨kp, sr, vs, cs, hD, ha_, cl, fm⟩
      have Ds : D ≠ s := fun e => by
        obtain ⟨x, y, z, _⟩ := sr4
        rw [e, z] at nD
        cases nD
      have lv := dpAll_len ha_
      have flat : noListAll cs = true := noListAll_of fun x hx => by
        obtain ⟨j, hj, e⟩ := List.getElem_of_mem hx
        exact form_flat n' _ x (fm j x (by rw [List.getElem?_eq_getElem hj, e]))
      have i3 : i < 3 := by omega
      refine ⟨rfl, _, rfl, _, rfl, _, rfl, p, rfl, ?_⟩
      have nx : ∀ (b : Bool), b = (p && decide (i = w_)) → ∀ H'' v d, Keep s H' H'' → Src H'' s → Dp K H'' v d → FormN ns b n' d → ∃ acc, H'' D = some (HO.lst acc) ∧ acc.length < sizeLine ∧ Keep s H (upd H'' D (HO.lst (acc ++ [v]))) ∧ Src (upd H'' D (HO.lst (acc ++ [v]))) s ∧ ∃ vs cs, upd H'' D (HO.lst (acc ++ [v])) D = some (HO.lst vs) ∧ DpAll K (upd H'' D (HO.lst (acc ++ [v]))) vs cs ∧ cs.length = i + 1 ∧ ∀ (j : Nat) (c : PyData), cs[j]? = some c → FormN ns (p && decide (j = w_)) n' c := fun b eb H'' v d k2 sr2 hd fd => by
        have hD2 := k2 D _ Ds hD
        have st : Stay H' H'' := k2.stay sr
        have stc := stay_upd (o := .lst (vs ++ [v])) hD2
        refine ⟨vs, hD2, small1000 (by omega), (kp.trans k2).put nDH, sr2.put Ds, vs ++ [v], cs ++ [d], upd_same, dpAll_app (dpAll_stay (st.trans stc) ha_ flat) (.cons (dp_stay stc hd (form_flat n' _ d fd)) .nil), ?_, fun j c hj => ?_⟩
        · rw [List.length_append, cl]
          rfl
        · by_cases hl : j < cs.length
          · rw [List.getElem?_append_left hl] at hj
            exact fm j c hj
          · rw [List.getElem?_append_right (by omega)] at hj
            have j0 : j - cs.length = 0 := by
              by_cases z : j - cs.length = 0
              · exact z
              · obtain ⟨q, e⟩ : ∃ q, j - cs.length = q + 1 := ⟨j - cs.length - 1, by omega⟩
                rw [e] at hj
                cases hj
            rw [j0] at hj
            have ji : j = i := by omega
            rw [ji, ← eb, ← Option.some.inj hj]
            exact fd
      have eb : decide (V.int (0 + (i : Int)) = V.int (w_ : Int)) = decide (i = w_) := by
        rw [decide_eq_decide]
        constructor
        · intro h
          have := V.int.inj h
          omega
        · intro h
          rw [h, Int.zero_add]
      have args : ∀ b : Bool, [V.ref s, V.ref a, V.bl b, V.int (((n' + 1 : Nat) : Int) - 1)] = [V.ref s, V.ref a, V.bl b, V.int (n' : Int)] := fun b => by
        rw [show (((n' + 1 : Nat) : Int) - 1) = (n' : Int) from by omega]
      cases p with
      | true =>
        exact iteT ⟨_, rfl, _, rfl, rfl, _, rfl, _, _, rfl, rfl, s, a, ns, _, n', args _, by omega, by omega, sr, kp a _ as ha, l1, l8, nok, fun H'' v d k2 sr2 hd fd => nx _ (by rw [eb, Bool.true_and]) H'' v d k2 sr2 hd fd⟩
      | false =>
        exact iteF ⟨_, rfl, _, _, rfl, rfl, s, a, ns, _, n', args _, by omega, by omega, sr, kp a _ as ha, l1, l8, nok, fun H'' v d k2 sr2 hd fd => nx _ (by rw [Bool.false_and]) H'' v d k2 sr2 hd fd⟩
    · rintro H' ⟨kp, sr, vs, cs, hD, ha_, cl, fm⟩
      have un : (1 + (many : Int)).toNat = many + 1 := by omega
      rw [un] at cl
      have Ds : D ≠ s := fun e => by
        obtain ⟨x, y, z, _⟩ := sr4
        rw [e, z] at nD
        cases nD
      have flat : noListAll cs = true := noListAll_of fun x hx => by
        obtain ⟨j, hj, e⟩ := List.getElem_of_mem hx
        exact form_flat n' _ x (fm j x (by rw [List.getElem?_eq_getElem hj, e]))
      have lv := dpAll_len ha_
      refine ⟨(by show 3 ≤ sizeLine; decide), fun q nq => ?_⟩
      have s5 := same_upd (o := .lst [.str "", .str "note", .str "x"]) nq
      have hq5 := upd_same (H := H') (a := q) (o := .lst [.str "", .str "note", .str "x"])
      generalize upd H' q (.lst [.str "", .str "note", .str "x"]) = G2 at s5 hq5 ⊢
      have srG := sr.same s5
      refine ⟨_, rfl, s, 3, rfl, srG, (by decide), (by decide), fun d3 H5 f0 f1 sr5 k5 => ?_⟩
      obtain ⟨mm, hat, hmm⟩ := three f0 f1
      have qs : q ≠ s := fun e => by
        obtain ⟨x, y, z, _⟩ := sr
        rw [e, z] at nq
        cases nq
      have hc3 := k5 D _ Ds (s5 _ _ hD)
      refine ⟨q, _, d3, _, rfl, rfl, SqL.of (k5 q _ qs hq5), hat, _, rfl, D, _, rfl, .inl ⟨SqL.of hc3, fun t nt => ⟨(by show 2 ≤ sizeLine; decide), fun p_ np => ?_⟩⟩⟩
      have s6 := same_upd (o := .tup vs) nt
      have s7 := same_upd (o := .tup [.str mm, .ref t]) np
      have s67 := s6.trans s7
      have st : Stay H' H5 := (Stay.of s5).trans (k5.stay srG)
      refine k _ _ (.tuple [.str mm, .tuple cs]) ((kp.trans (Keep.of s5)).trans (k5.trans (Keep.of s67))) (sr5.same s67) (.tup (SqT.of upd_same) (.cons (.str mm) (.cons (.tup (SqT.of (s7 _ _ upd_same)) (dpAll_same s67 (dpAll_stay st ha_ flat))) .nil))) (.inr ⟨mm, cs, w_, rfl, hmm, by omega, by omega, by omega, fm⟩)
end
end K1

namespace K1
open PySem PySem.Spec PyProof.Rows L2 Own
/-! ### the law's own answer -/
def msgB (z : Str) : Bool := decide (z.length ≤ 8) && z.cps.toList.all fun c => decide (c ∈ abc.cps.toList)
theorem empty_len {z : Str} (h : z.length = 0) : z = "" := by
  refine Own.str_ext ?_
  have q : z.cps.toList.length = 0 := by rw [← len_list, h]
  rw [List.length_eq_zero_iff.mp q]
  rfl
theorem msg_eq (z : Str) : msgD (.str z) = msgB z := by
  show ((z == ("" : Str)) || nameB z) = msgB z
  by_cases h : z = ""
  · subst h
    decide +kernel
  · have l : 1 ≤ z.length := by
      have q : z.length ≠ 0 := fun e => h (empty_len e)
      omega
    rw [beq_eq_false_iff_ne.mpr h, Bool.false_or]
    unfold nameB msgB
    rw [decide_eq_true l, Bool.true_and]
theorem msg_no {d : PyData} (h : isStrD d = false) : msgD d = false := by
  cases d with
  | str z => cases h
  | _ => rfl
def spMsg (K : PySem.W.Frag) : Sp := fun vs H Q _ => ∃ v d, vs = [v] ∧ Dp K H v d ∧ Fit d ∧ ∀ H', Same H H' → Q (.bl (msgD d)) H'
/-- a number or nothing -/
def optV : Option Nat → V
  | none => .non
  | some n => .int (n : Int)
def spLT (K : PySem.W.Frag) (m : Nat) : Sp := fun vs H Q _ => ∃ L ns v d, vs = [.ref L, v] ∧ H L = some (.lst (ns.map V.str)) ∧ Dp K H v d ∧ Fit d ∧ d.depth < m ∧ ∀ H', Same H H' → Q (optV (starsD ns d)) H'
theorem opt_flat : ∀ o, flatV (optV o) = true
  | none => rfl
  | some _ => rfl
theorem all_flat (f : PyData → Option Nat) : ∀ cs : List PyData, (cs.map fun c => optV (f c)).all flatV = true
  | [] => rfl
  | c :: r => by
    show (flatV (optV (f c)) && (r.map fun c => optV (f c)).all flatV) = true
    rw [opt_flat, all_flat f r]
    rfl
theorem sum_none (f : PyData → Option Nat) : ∀ cs : List PyData, inV .non (cs.map fun c => optV (f c)) = (sumS f cs).isNone
  | [] => rfl
  | c :: r => by
    have ih := sum_none f r
    show (eqV (optV (f c)) .non || inV .non (r.map fun c => optV (f c))) = (addO (f c) (sumS f r)).isNone
    rw [ih]
    cases f c with
    | none => rfl
    | some a =>
      cases sumS f r with
      | none => rfl
      | some b => rfl
theorem sum_some (f : PyData → Option Nat) : ∀ (cs : List PyData) (n : Nat), sumS f cs = some n → ∃ is : List Int, (cs.map fun c => optV (f c)) = is.map V.int ∧ is.sum = (n : Int)
  | [], n, h => ⟨[], rfl, by
    have := Option.some.inj (show some 0 = some n from h)
    subst this
    rfl⟩
  | c :: r, n, h => by
    have h' : addO (f c) (sumS f r) = some n := h
    cases e1 : f c with
    | none =>
      rw [e1] at h'
      cases h'
    | some a =>
      cases e2 : sumS f r with
      | none =>
        rw [e1, e2] at h'
        cases h'
      | some b =>
        rw [e1, e2] at h'
        have q := Option.some.inj (show some (a + b) = some n from h')
        obtain ⟨is, e, s⟩ := sum_some f r b e2
        refine ⟨(a : Int) :: is, ?_, ?_⟩
        · show optV (f c) :: (r.map fun c => optV (f c)) = V.int (a : Int) :: is.map V.int
          rw [e1, e]
          rfl
        · rw [List.sum_cons, s]
          omega
theorem stars_no {ns : List Str} {d : PyData} (hg : isGroupD d = false) (hs : isStrD d = false) : starsD ns d = none := by
  rw [stars_eq, hg, if_neg Bool.false_ne_true]
  have e1 : isStar d = false := by
    cases d with
    | str z => cases hs
    | _ => rfl
  have e2 : inD ns d = false := by
    cases d with
    | str z => cases hs
    | _ => rfl
  rw [e1, if_neg Bool.false_ne_true, e2, if_neg Bool.false_ne_true]
theorem stars_str (ns : List Str) (z : Str) : starsD ns (.str z) = if z = "*" then some 1 else if z ∈ ns then some 0 else none := by
  rw [stars_eq]
  show (if isStar (.str z) = true then some 1 else if inD ns (.str z) = true then some 0 else none) = _
  have e : (isStar (.str z) = true) = (z = "*") := by
    show ((z == ("*" : Str)) = true) = (z = "*")
    rw [beq_iff_eq]
  have e2 : (inD ns (.str z) = true) = (z ∈ ns) := by
    show (decide (z ∈ ns) = true) = _
    rw [decide_eq_true_eq]
  simp only [e, e2]
section
variable {P : Program} {w : World} {K : PySem.W.Frag} {mg : Str → Option Value} {base : Heap}
theorem scMsg : FnScope ["value", "sign"] ["value"] (defScope sLawIsMessage) := ⟨rfl, rfl, rfl, by decide +kernel, rfl, by decide +kernel, by decide +kernel⟩
theorem ok_msg {f : Addr} {fd : FuncData} (F : Fun K "_law_is_message" "_law_is_message" sLawIsMessage f fd) (ml : mg "len" = none) (mi : mg "isinstance" = none) (ms : mg "str" = none) (ma : mg "all" = none) : FnOk P w K mg base CX0 1 f fd ["value"] (spMsg K) := by
  refine F.ok scMsg (fun vs H Q E h => ?_) (fun cdv A outer s H vs Q E hr h => ?_)
  · obtain ⟨v, d, rfl, _⟩ := h
    rfl
  · obtain ⟨v, d, rfl, hd, fit, k⟩ := h
    refine ⟨_, pss_cons (ps_if (PW.pt (pw_or (pt_not (pt_val (pe_callB call_isi (by rfl) mi (by decide +kernel) (pa_cons (pv 0) (pa_cons (pe_bltn (v := .ty "str") (u := .type "str") (by rfl) ms (by decide +kernel) rfl) pa_nil)))))
        (pw_or1 (pt_cmpR op_gt (pe_callB call_len_str (by rfl) ml PySem.boot_len (pa_cons (pv 0) pa_nil)) pe_int (nomark _))))) (pss_one (ps_ret pe_bl)) pss_nil)
      (pss_one (ps_ret (pe_callB (cr_all rfl) (by rfl) ma (by decide +kernel) (pa_cons (pe_lc (own := [("sign", 1)]) (g := gName 1) (tt := tYes) rfl scMsg.nd (pi_str (pv 0)) (blkOk_by (N := ["value", "sign"]) (sc := defScope sLawIsMessage) (by decide +kernel))
        (fun _ _ _ _ _ => pg_name (i := 1) scMsg.nd rfl (Or.inl rfl)) (fun _ _ _ _ _ => pts_nil) (fun _ _ _ _ _ => pe_cmpR op_in_sign (pv 1) pe_str rfl)) pa_nil)))), ?_⟩
    refine ⟨_, rfl, _, _, _, _, isStrD d, rfl, .ty "str", dp_ty hd, kit_ty (kt_str d), _, rfl, ?_⟩
    cases es : isStrD d with
    | false =>
      rw [msg_no es] at k
      exact iteT (iteT (k _ (Same.refl _)))
    | true =>
      refine iteF ?_
      cases d with
      | str z =>
        cases hd
        rw [msg_eq] at k
        have zz := fit.str z rfl
        refine ⟨_, rfl, z, rfl, zz, _, _, rfl, rfl, _, rfl, ?_⟩
        by_cases h8 : z.length ≤ 8
        · rw [show decide ((8 : Int) < (z.length : Int)) = false from decide_eq_false (by omega)]
          refine iteF ⟨_, rfl, z, rfl, fun D nD => lc_it walk_str (fun i H' => Same H H' ∧ H' D = some (.lst (((z.cps.toList.take i).map fun c => decide (c ∈ abc.cps.toList)).map V.bl))) ⟨same_upd nD, upd_same⟩ (fun _ _ _ _ => trivial) ?_ ?_⟩
          · rintro i x H1 H' hi ⟨sm, hD⟩ ⟨rfl, c, hc, rfl⟩
            have hz : z.cps.toList.length ≤ 8 := by
              rw [← len_list]
              exact h8
            refine ⟨rfl, _, rfl, c, abc, rfl, rfl, _, hD, ?_, same_past nD sm, ?_⟩
            · rw [List.length_map, List.length_map, List.length_take]
              exact small1000 (by omega)
            · rw [upd_same, rep_map z i c _ hc, List.map_append]
              rfl
          · rintro H' ⟨sm, hD⟩
            have hl : z.cps.size = z.cps.toList.length := (Array.length_toList).symm
            rw [hl, List.take_of_length_le (Nat.le_refl _)] at hD
            refine ⟨D, _, rfl, SqL.of hD, ?_⟩
            have e : ((z.cps.toList.map fun c => decide (c ∈ abc.cps.toList)).all id) = msgB z := by
              unfold msgB
              rw [decide_eq_true h8, List.all_map]
              rfl
            rw [e]
            exact k _ sm
        · rw [show decide ((8 : Int) < (z.length : Int)) = true from decide_eq_true (by omega)]
          refine iteT ?_
          have e : msgB z = false := by
            unfold msgB
            rw [decide_eq_false h8]
            rfl
          rw [e] at k
          exact k _ (Same.refl _)
      | _ => cases es
theorem scLT : FnScope ["labels", "value", "found", "one"] ["labels", "value"] (defScope sLawStars) := ⟨rfl, rfl, rfl, by decide +kernel, rfl, by decide +kernel, by decide +kernel⟩
theorem lt_none {f : Addr} {fd : FuncData} : FnOk P w K mg base CX0 1 f fd ["labels", "value"] (spLT K 0) := by
  have no : ∀ vs H Q E, ¬ spLT K 0 vs H Q E := fun vs H Q E ⟨_, _, _, _, _, _, _, _, h, _⟩ => Nat.not_lt_zero _ h
  exact ⟨fun vs H Q E h => absurd h (no vs H Q E), fun A out s H args us vs Q E _ _ _ _ h => absurd h (no vs H Q E)⟩
theorem lt_step {f g : Addr} {fd gd : FuncData} {m : Nat} (F : Fun K "_law_stars" "_law_stars" sLawStars f fd) (IH : FnOk P w K mg base CX0 (m + 1) f fd ["labels", "value"] (spLT K m)) (bT : Binds K fd ["labels", "value"] []) (mT : mg "_law_stars" = some (.ref f))
    (GM : FnOk P w K mg base CX0 1 g gd ["value"] (spMsg K)) (kM : PySem.W.keepIn K (.ref g) = true) (bM : Binds K gd ["value"] []) (mM : mg "_law_is_message" = some (.ref g))
    (ml : mg "len" = none) (mi : mg "isinstance" = none) (mt : mg "tuple" = none) (ms : mg "str" = none) (mn : mg "int" = none) (msu : mg "sum" = none) : FnOk P w K mg base CX0 (m + 2) f fd ["labels", "value"] (spLT K (m + 1)) := by
  refine F.ok scLT (fun vs H Q E h => ?_) (fun cdv A outer s H vs Q E hr h => ?_)
  · obtain ⟨L, ns, v, d, rfl, _⟩ := h
    rfl
  · obtain ⟨L, ns, v, d, rfl, hL, hd, fit, dep, k⟩ := h
    have hr1 : Room 1 _ := hr.mono (by omega)
    refine ⟨_, pss_cons (ps_if (pt_val (pe_callB call_isi (by rfl) mi (by decide +kernel) (pa_cons (pv 1) (pa_cons (pe_bltn (v := .ty "str") (u := .type "str") (by rfl) ms (by decide +kernel) rfl) pa_nil))))
        (pss_one (ps_ret (pe_ifExp (pt_cmpR op_eq (pv 1) pe_str (nomark _)) pe_int (pe_ix ix_list (pe_lst (pa_cons pe_non (pa_cons pe_int pa_nil))) (pe_callTy call_int1 (by rfl) mn (by decide +kernel) (pa_cons (pe_cmpR op_in_seq (pv 1) (pv 0) (by rfl)) pa_nil)) (fun _ _ => rfl)))))
        pss_nil)
      (pss_cons (ps_if (PW.pt (pw_or (pt_not (pt_val (pe_callB call_isi (by rfl) mi (by decide +kernel) (pa_cons (pv 1) (pa_cons (pe_bltn (v := .ty "tuple") (u := .type "tuple") (by rfl) mt (by decide +kernel) rfl) pa_nil))))) (pw_or (pt_cmpR op_ne (pe_callB call_len_seq (by rfl) ml PySem.boot_len (pa_cons (pv 1) pa_nil)) pe_int (nomark _)) (pw_or1 (pt_not (pt_val (pe_call GM hr1 (by rfl) mM kM bM .nil pass0 (pa_cons (pe_ix ix_tup (pv 1) pe_int (fun _ _ => rfl)) pa_nil))))))))
        (pss_one (ps_ret pe_non))
        pss_nil)
      (pss_cons (ps_if (PW.pt (pw_or (pt_not (pt_val (pe_callB call_isi (by rfl) mi (by decide +kernel) (pa_cons (pe_ix ix_tup (pv 1) pe_int (fun _ _ => rfl)) (pa_cons (pe_bltn (v := .ty "tuple") (u := .type "tuple") (by rfl) mt (by decide +kernel) rfl) pa_nil))))) (pw_or1 (pt_cmpR (op_eqD hr.units) (pe_ix ix_tup (pv 1) pe_int (fun _ _ => rfl)) (pe_tup pa_nil) (nomark _)))))
        (pss_one (ps_ret pe_non))
        pss_nil)
      (pss_cons (ps_setLc (i := 2) (own := [("one", 3)]) (g := gName 3) (tt := tYes) (te := tCall (spLT K m) [] E0 (tCons (tVar 0) (tCons (tVar 3) tNil))) rfl scLT.nd rfl rfl (by rfl) (pi_tup (pe_ix ix_tup (pv 1) pe_int (fun _ _ => rfl))) (blkOk_by (N := ["labels", "value", "found", "one"]) (sc := defScope sLawStars) (by decide +kernel)) (fun _ _ _ _ _ => pg_name (i := 3) scLT.nd rfl (Or.inl rfl)) (fun _ _ _ _ _ => pts_nil) (fun _ _ _ _ _ => (pe_call IH hr (by rfl) mT F.kp bT .nil pass0 (pa_cons (pv 0) (pa_cons (pv 3) pa_nil)))))
      (pss_one (ps_ret (pe_ifExp (pt_cmpR op_in_seq pe_non (pv 2) (by rfl)) pe_non (pe_callB (cr_sum rfl) (by rfl) msu (by decide +kernel) (pa_cons (pv 2) pa_nil)))))))), ?_⟩
    have k0 := k H (Same.refl H)
    have ty := dp_ty hd
    have hd0 := hd
    cases d with
    | str z =>
      cases hd
      refine ⟨_, rfl, _, .ty "str", _, _, true, rfl, .ty "str", ty, kit_ty (kt_str _), true, rfl, iteT ?_⟩
      rw [stars_str] at k
      refine ⟨_, rfl, rfl, _, rfl, ite2 (fun e => ?_) (fun e => ?_)⟩
      · have ez : z = "*" := V.str.inj (of_decide_eq_true e)
        rw [if_pos ez] at k
        exact k _ (Same.refl _)
      · have ez : ¬ z = "*" := fun h => e (decide_eq_true (by rw [h]))
        rw [if_neg ez] at k
        refine ⟨(by show 2 ≤ sizeLine; decide), fun p np => ?_⟩
        have s1 := same_upd (o := .lst [.non, .int 0]) np
        refine ⟨_, rfl, _, rfl, L, _, rfl, .inl (SqL.of (s1 _ _ hL)), rfl, flat_strs _, ?_⟩
        rw [show (if false = true then !inV (V.str z) (ns.map V.str) else inV (V.str z) (ns.map V.str)) = decide (z ∈ ns) from by
                  rw [if_neg Bool.false_ne_true, inV_str]]
        refine .inr ⟨_, rfl, ?_⟩
        by_cases hz : z ∈ ns
        · rw [if_pos hz] at k
          rw [decide_eq_true hz]
          exact ⟨p, _, 1, _, rfl, rfl, SqL.of upd_same, atI_nat (j := 1) rfl, k _ s1⟩
        · rw [if_neg hz] at k
          rw [decide_eq_false hz]
          exact ⟨p, _, 0, _, rfl, rfl, SqL.of upd_same, atI_nat (j := 0) rfl, k _ s1⟩
    | tuple ds =>
      cases hd with
      | tup hs ha =>
        rename_i a xs
        have lx := dpAll_len ha
        refine ⟨_, rfl, _, .ty "str", _, _, false, rfl, .ty "str", ty, kit_ty (kt_str _), false, rfl, iteF ?_⟩
        refine ⟨_, rfl, _, .ty "tuple", _, _, true, rfl, .ty "tuple", ty, kit_ty (kt_tuple _), true, rfl, iteF ?_⟩
        refine ⟨_, rfl, a, _, rfl, .inr hs, rfl, ?_⟩
        by_cases h2 : ds.length = 2
        · have e2 : (!decide (V.int ((xs.length : Nat) : Int) = V.int 2)) = false := by
            rw [lx, h2]
            rfl
          rw [e2]
          refine ⟨_, rfl, iteF ?_⟩
          obtain ⟨m', i', ed⟩ := pair_of (show isPairD (.tuple ds) = true from decide_eq_true h2)
          cases ed
          obtain ⟨a', x, y, ea, hs', hm, hi⟩ := dp_pair hd0
          cases ea
          have fm : Fit m' := fit.kid (List.mem_cons_self ..)
          have fi : Fit i' := fit.kid (List.mem_cons_of_mem _ (List.mem_cons_self ..))
          refine ⟨_, rfl, a, _, 0, _, rfl, rfl, hs', atI_nat (j := 0) rfl, x, m', rfl, hm, fm, fun H1 s1 => ?_⟩
          have k1 := k H1 s1
          cases em : msgD m' with
          | false =>
            have hg : isGroupD (.tuple [m', i']) = false := by
              cases i' with
              | tuple cs =>
                cases cs with
                | nil => rfl
                | cons c r => exact em
              | _ => rfl
            rw [stars_no hg rfl] at k1
            exact ⟨_, rfl, iteT k1⟩
          | true =>
            refine ⟨_, rfl, iteF ?_⟩
            have hi1 := dp_same s1 hi
            have hs1 := Same.tup s1 hs'
            refine ⟨_, rfl, a, _, 1, _, rfl, rfl, hs1, atI_nat (j := 1) rfl, y, .ty "tuple", _, _, isTupD i', rfl, .ty "tuple", dp_ty hi1, kit_ty (kt_tuple i'), _, rfl, ?_⟩
            cases i' with
            | tuple cs =>
              cases hi with
              | tup hs2 ha2 =>
                rename_i b ys
                refine iteF ⟨_, rfl, a, _, 1, _, rfl, rfl, hs1, atI_nat (j := 1) rfl, (by show 0 ≤ sizeLine; decide), fun p np => ?_⟩
                have s2 := same_upd (o := .tup []) np
                have s12 := s1.trans s2
                refine ⟨.tuple cs, .tuple [], dp_same s2 hi1, .tup (SqT.of upd_same) .nil, fi.shaped, by decide, _, rfl, ?_⟩
                cases cs with
                | nil =>
                  have q := k _ s12
                  rw [stars_no rfl rfl] at q
                  exact iteT q
                | cons c r =>
                  have hg : isGroupD (.tuple [m', .tuple (c :: r)]) = true := em
                  have te := stars_eq ns (.tuple [m', .tuple (c :: r)])
                  rw [hg, if_pos rfl] at te
                  have ly := dpAll_len ha2
                  have fewc := fi.few
                  refine iteF ⟨_, rfl, a, _, 1, _, rfl, rfl, Same.tup s12 hs', atI_nat (j := 1) rfl, b, rfl, ⟨_, Same.tup s12 hs2⟩, fun D nD => ?_⟩
                  refine lc_tup (K := K) (a := b) (xs := ys) (fun j H' => Same (upd H1 p (.tup [])) H' ∧ H' D = some (.lst (((c :: r).take j).map fun c => optV (starsD ns c)))) ⟨same_upd nD, upd_same⟩ (fun j H' hj q => Same.tup (s12.trans q.1) hs2) ?_ ?_
                  · rintro j u H' hu ⟨sm, hD⟩
                    obtain ⟨e, he, hde⟩ := dpAll_at (dpAll_same (s12.trans sm) ha2) hu
                    have me : e ∈ c :: r := List.mem_of_getElem? he
                    have hj : j < (c :: r).length := (List.getElem?_eq_some_iff.mp he).1
                    have d1 : PyData.depthAll [m', .tuple (c :: r)] + 1 < m + 1 := dep
                    have d2 : (PyData.tuple (c :: r)).depth ≤ PyData.depthAll [m', .tuple (c :: r)] := dep_mem (List.mem_cons_of_mem _ (List.mem_cons_self ..))
                    have d3 : PyData.depthAll (c :: r) + 1 ≤ PyData.depthAll [m', .tuple (c :: r)] := d2
                    have d4 := dep_mem me
                    refine ⟨rfl, _, rfl, _, rfl, L, ns, u, e, rfl, (s12.trans sm) _ _ hL, hde, fi.kid me, (by omega), fun H5 s5 => ⟨_, s5 _ _ hD, ?_, same_past nD (sm.trans s5), ?_⟩⟩
                    · rw [List.length_map, List.length_take]
                      exact Nat.lt_of_le_of_lt (show _ ≤ 1000 by omega) (by decide)
                    · rw [upd_same, List.take_add_one, he, List.map_append]
                      rfl
                  · rintro H' ⟨sm, hD⟩
                    rw [ly, List.take_of_length_le (Nat.le_refl _)] at hD
                    have q := k _ (s12.trans sm)
                    rw [te] at q
                    refine ⟨_, rfl, D, _, rfl, .inl (SqL.of hD), rfl, all_flat _ _, ?_⟩
                    rw [if_neg Bool.false_ne_true, sum_none]
                    refine ⟨_, rfl, ?_⟩
                    have q2 : Q (optV (sumS (starsD ns) (c :: r))) H' := q
                    cases es : sumS (starsD ns) (c :: r) with
                    | none =>
                      rw [es] at q2
                      exact iteT q2
                    | some n =>
                      rw [es] at q2
                      obtain ⟨is, e1, e2⟩ := sum_some _ _ _ es
                      rw [e1] at hD
                      refine iteF ⟨_, rfl, D, is, rfl, SqL.of hD, ?_⟩
                      rw [e2]
                      exact q2
            | _ =>
              rw [stars_no rfl rfl] at k1
              exact iteT (iteT k1)
        · have e2 : (!decide (V.int ((xs.length : Nat) : Int) = V.int 2)) = true := by
            rw [decide_eq_false (fun z => h2 (by have := V.int.inj z; omega))]
            rfl
          rw [e2]
          have q : starsD ns (.tuple ds) = none := stars_no (group_no (decide_eq_false h2)) rfl
          rw [q] at k0
          exact ⟨_, rfl, iteT (iteT k0)⟩
    | _ =>
      rw [stars_no rfl rfl] at k0
      exact ⟨_, rfl, _, .ty "str", _, _, false, rfl, .ty "str", ty, kit_ty (kt_str _), false, rfl, iteF ⟨_, rfl, _, .ty "tuple", _, _, false, rfl, .ty "tuple", ty, kit_ty (kt_tuple _), false, rfl, iteT (iteT k0)⟩⟩
end
end K1

namespace K1
open PySem PySem.Spec PyProof.Rows L2 Own
/-! ### values written out beside a source: each is data of at most m signs and at most k deep -/
theorem mem_wtD {ds : List PyData} {d : PyData} (h : d ∈ ds) : wtD d ≤ wtAll ds := by
  have := mem_wt h
  omega
def MkO (K : PySem.W.Frag) (s : Addr) (N : Addr → Prop) (G : Hp) (σ : L2.St) (te : TE) (m k : Nat) : Prop := ∀ (H : Hp) (Q : VK), Keep s G H → Src H s → NOk N s H → (∀ H' v d, Keep s H H' → Src H' s → Dp K (hid N H') v d → Out m k d → Q v H') → te σ H Q
def MkA (K : PySem.W.Frag) (s : Addr) (N : Addr → Prop) (G : Hp) (σ : L2.St) (ta : TA) (m k n : Nat) : Prop := ∀ (H : Hp) (Q : List V → Hp → Prop), Keep s G H → Src H s → NOk N s H → (∀ H' vs ds, Keep s H H' → Src H' s → DpAll K (hid N H') vs ds → ds.length = n → (∀ d ∈ ds, okD d = true ∧ d.showable = true ∧ d.depth ≤ k) → wtAll ds ≤ m → Q vs H') → ta σ H Q
section
variable {K : PySem.W.Frag} {s : Addr} {N : Addr → Prop} {G : Hp} {σ : L2.St}
theorem MkO.mono {te : TE} {m m' k k' : Nat} (h : MkO K s N G σ te m k) (a : m ≤ m') (b : k ≤ k') : MkO K s N G σ te m' k' := fun H Q kp sr nok q => h H Q kp sr nok fun H' v d k2 sr2 hd o => q H' v d k2 sr2 hd (o.mono a b)
theorem mk_nil {k : Nat} : MkA K s N G σ tNil 0 k 0 := fun H Q kp sr nok q => q H [] [] (Keep.refl s H) sr .nil rfl (fun _ h => nomatch h) (Nat.le_refl _)
theorem mk_cons {te : TE} {ta : TA} {m M k n : Nat} (h : MkO K s N G σ te m k) (r : MkA K s N G σ ta M k n) : MkA K s N G σ (tCons te ta) (m + 2 + M) k (n + 1) := fun H Q kp sr nok q => by
  refine h H _ kp sr nok fun H1 v d k1 sr1 hd o => r H1 _ (kp.trans k1) sr1 (nok.keep k1 sr1) fun H2 vs ds k2 sr2 hds len all wt => ?_
  refine q H2 (v :: vs) (d :: ds) (k1.trans k2) sr2 (.cons (dp_same (hid_keep k2 nok.ns) hd) hds) (by rw [List.length_cons, len]) (fun e he => ?_) ?_
  · rcases List.mem_cons.mp he with z | z
    · rw [z]
      exact ⟨o.ok, o.sh, o.dp⟩
    · exact all e z
  · have := o.wt
    show wtD d + 2 + wtAll ds ≤ _
    omega
theorem mk_tup {ta : TA} {m k n : Nat} (h : MkA K s N G σ ta m k n) (few : n ≤ 1000) : MkO K s N G σ (tTup ta) (m + 3) (k + 1) := fun H Q kp sr nok q => by
  refine h H _ kp sr nok fun H1 vs ds k1 sr1 hds len all wt => ⟨by rw [dpAll_len hds, sizeLine_eq]; omega, fun p np => ?_⟩
  have s2 := same_upd (o := .tup vs) np
  have nok1 := nok.keep k1 sr1
  exact q _ (.ref p) (.tuple ds) (k1.trans (Keep.of s2)) (sr1.same s2) (.tup (SqT.of (hid_at (nok1.new np) upd_same)) (dpAll_same (hid_keep (Keep.of s2) nok.ns) hds)) (out_tup (by omega) all (by omega)).1
theorem mk_lst {ta : TA} {m k n : Nat} (h : MkA K s N G σ ta m k n) (few : n ≤ 1000) : MkO K s N G σ (tLst ta) (m + 3) (k + 1) := fun H Q kp sr nok q => by
  refine h H _ kp sr nok fun H1 vs ds k1 sr1 hds len all wt => ⟨by rw [dpAll_len hds, sizeLine_eq]; omega, fun p np => ?_⟩
  have s2 := same_upd (o := .lst vs) np
  have nok1 := nok.keep k1 sr1
  exact q _ (.ref p) (.list ds) (k1.trans (Keep.of s2)) (sr1.same s2) (.lst (SqL.of (hid_at (nok1.new np) upd_same)) (dpAll_same (hid_keep (Keep.of s2) nok.ns) hds)) (out_tup (by omega) all (by omega)).2
theorem mk_var {i : Nat} {v : V} {d : PyData} {m k : Nat} (e : σ[i]? = some (some v)) (ns : N s) (hd : Dp K (hid N G) v d) (o : Out m k d) : MkO K s N G σ (tVar i) m k := fun H Q kp sr nok q => ⟨v, e, q H v d (Keep.refl s H) sr (dp_same (hid_keep kp ns) hd) o⟩
theorem mk_str {z : Str} {m : Nat} (o : okD (.str z) = true) (l : 10 * z.length + 2 ≤ m) {k : Nat} : MkO K s N G σ (tC (.str z)) m k := fun H Q kp sr nok q => q H _ (.str z) (Keep.refl s H) sr (.str z) ⟨o, rfl, l, Nat.zero_le _⟩
theorem mk_int {i : Int} (h : i.natAbs < 16) {k : Nat} : MkO K s N G σ (tC (.int i)) 1921 k := fun H Q kp sr nok q => q H _ (.int i) (Keep.refl s H) sr (.int i) ⟨rfl, small_show h, Nat.le_refl _, Nat.zero_le _⟩
theorem mk_non {k : Nat} : MkO K s N G σ (tC .non) 4 k := fun H Q kp sr nok q => q H _ .none (Keep.refl s H) sr .non ⟨rfl, rfl, Nat.le_refl _, Nat.zero_le _⟩
theorem mk_ix {i : Nat} {L : Addr} {ns : List Str} {j : Nat} {z : Str} (e : σ[i]? = some (some (.ref L))) (hL : G L = some (.lst (ns.map V.str))) (Ls : L ≠ s) (hz : ns[j]? = some z) (nok : NameOk z) {k : Nat} : MkO K s N G σ (tOp (rIxL K) (tVar i) (tC (.int ((j : Nat) : Int)))) 100 k := fun H Q kp sr nok' q => by
  refine ⟨_, e, L, _, _, _, rfl, rfl, SqL.of (kp L _ Ls hL), atI_nat (j := j) (by rw [List.getElem?_map, hz]; rfl), q H _ (.str z) (Keep.refl s H) sr (.str z) ⟨name_ok nok, rfl, ?_, Nat.zero_le _⟩⟩
  have := nok.2.1
  show 10 * z.length + 2 ≤ 100
  omega
theorem mk_any {i : Nat} (e : σ[i]? = some (some (.ref s))) : MkO K s N G σ (tCall (spAny K) [] E0 (tCons (tVar i) tNil)) 4000 4 := fun H Q kp sr nok q => ⟨_, e, s, N, rfl, sr, nok, fun H' v d k2 sr2 hd mem => q H' v d k2 sr2 hd (any_out d mem)⟩
end
end K1

namespace Own
open PySem PySem.Spec PyProof.Rows L2
/-! ### x in (..): data among data -/
section
variable {X : Cx}
def rInTD (K : PySem.W.Frag) : R2 := fun x y H Q => ∃ d ds, Dp K H x d ∧ Dp K H y (.tuple ds) ∧ d.canLay0 = true ∧ PyData.canLayAll0 ds = true ∧ min (PyData.depthAll ds) d.depth ≤ 60 ∧ Q (.bl (ds.any fun z => PyData.eqv z d)) H
def rNotInTD (K : PySem.W.Frag) : R2 := fun x y H Q => ∃ d ds, Dp K H x d ∧ Dp K H y (.tuple ds) ∧ d.canLay0 = true ∧ PyData.canLayAll0 ds = true ∧ min (PyData.depthAll ds) d.depth ≤ 60 ∧ Q (.bl (!ds.any fun z => PyData.eqv z d)) H
theorem op_inTD (hu : X.A.units + 64 < cLine) : OpR X (compareOp .In) (rInTD X.K) := by
  intro pins s σ H x y v u Q I rx ry h
  obtain ⟨d, ds, hd, he, sd, se, dep, q⟩ := h
  obtain ⟨as, r1⟩ := Dp.reads I d x v hd rx
  obtain ⟨bs, r2⟩ := Dp.reads I (.tuple ds) y u he ry
  exact SeqAt.in_tuple_reads r2 r1 se sd (by omega) ⟨.bl _, H, I, rfl, q⟩
theorem op_notInTD (hu : X.A.units + 64 < cLine) : OpR X (compareOp .NotIn) (rNotInTD X.K) := by
  intro pins s σ H x y v u Q I rx ry h
  obtain ⟨d, ds, hd, he, sd, se, dep, q⟩ := h
  obtain ⟨as, r1⟩ := Dp.reads I d x v hd rx
  obtain ⟨bs, r2⟩ := Dp.reads I (.tuple ds) y u he ry
  exact SeqAt.notIn_tuple_reads r2 r1 se sd (by omega) ⟨.bl _, H, I, rfl, q⟩
end
end Own

namespace K1
open PySem PySem.Spec PyProof.Rows L2 Own
/-! ### stacks as data -/
def itemsD : PyData → List PyData
  | .tuple ds => ds
  | _ => []
def fstD : PyData → PyData
  | .tuple (d :: _) => d
  | _ => .none
def sndD : PyData → PyData
  | .tuple (_ :: d :: _) => d
  | _ => .none
def areKD (ns : List Str) : PyData → Bool
  | .tuple ds => decide (0 < ds.length) && ds.all (inD ns)
  | _ => false
def passB (d : PyData) : Bool := isPairD (sndD d) && PyData.eqv (fstD (sndD d)) (.str "pass")
def plainD (ns : List Str) (d : PyData) : Bool :=
  if isPairD d = true then (if PyData.eqv (fstD d) (.str "keep") = true then areKD ns (sndD d) else PyData.eqv (fstD d) (.str "raise") && formD ns (sndD d))
  else [PyData.str "drop", .str "back"].any fun z => PyData.eqv z d
def headD (ns : List Str) (d : PyData) : Bool := isPairD d && areKD ns (fstD d)
theorem nd_items (d : PyData) : ndAll (itemsD d) < ndD d := by
  cases d with
  | tuple ds => exact Nat.lt_succ_self _
  | _ => exact nd_pos _
theorem nd_snd (d : PyData) : ndD (sndD d) ≤ ndD d := by
  match d with
  | .tuple (a :: b :: r) =>
    show ndD b ≤ ndD a + (ndD b + ndAll r) + 1
    omega
  | .tuple [] => exact Nat.succ_le_succ (Nat.zero_le _)
  | .tuple [a] =>
    show 1 ≤ ndD a + 0 + 1
    omega
  | .none => exact Nat.le_refl _
  | .bool _ => exact Nat.le_refl _
  | .int _ => exact Nat.le_refl _
  | .str _ => exact Nat.le_refl _
  | .list ds =>
    show 1 ≤ ndAll ds + 1
    omega
  | .dict _ => exact nd_pos _
def guardD (ns : List Str) (d : PyData) : Bool := isTupD d && (itemsD d).attach.all fun c => headD ns c.1 && (if passB c.1 = true then guardD ns (sndD (sndD c.1)) else plainD ns (sndD c.1))
termination_by ndD d
decreasing_by
  have a := nd_items d
  have b := nd_mem c.2
  have e := nd_snd c.1
  have e2 := nd_snd (sndD c.1)
  omega
def clauseD (ns : List Str) (c : PyData) : Bool := headD ns c && (if passB c = true then guardD ns (sndD (sndD c)) else plainD ns (sndD c))
theorem all_attach (f : PyData → Bool) (ds : List PyData) : (ds.attach.all fun c => f c.1) = ds.all f := by
  rw [Bool.eq_iff_iff, List.all_eq_true, List.all_eq_true]
  exact ⟨fun h x hx => h ⟨x, hx⟩ (List.mem_attach ..), fun h x _ => h x.1 x.2⟩
theorem guard_eq (ns : List Str) (d : PyData) : guardD ns d = (isTupD d && (itemsD d).all (clauseD ns)) := by
  rw [guardD]
  exact congrArg _ (all_attach (clauseD ns) (itemsD d))
def stackD (ns : List Str) (d : PyData) : Bool := isTupD d && (itemsD d).all (guardD ns)
theorem pair_fs {d : PyData} (h : isPairD d = true) : d = .tuple [fstD d, sndD d] := by
  obtain ⟨m, i, rfl⟩ := pair_of h
  rfl
section
variable {P : Program} {w : World} {K : PySem.W.Frag} {mg : Str → Option Value} {base : Heap}
/-! ### _are_kinds, _passes, _is_plain_action -/
def spAreK (C : Addr) (K : PySem.W.Frag) : Sp := fun vs H Q _ => ∃ x v ls ls' T d, vs = [.ref x, v] ∧ KIn C H x ls ls' T ∧ Dp K H v d ∧ Fit d ∧ ∀ H', Same H H' → Q (.bl (areKD (nms ls) d)) H'
theorem scAreK : FnScope ["kinds", "thing", "name"] ["kinds", "thing"] (defScope sAreKinds) := ⟨rfl, rfl, rfl, by decide +kernel, rfl, by decide +kernel, by decide +kernel⟩
theorem ok_areKinds {C f fI : Addr} {fd dI : FuncData} (F : Fun K "_are_kinds" "_are_kinds" sAreKinds f fd) (cI : Spc K C "__contains__" fI) (GI : FnOk P w K mg base CX0 1 fI dI ["self", "x"] (spIn C K)) (bI : Binds K dI ["self", "x"] [])
    (ml : mg "len" = none) (mi : mg "isinstance" = none) (mt : mg "tuple" = none) (ma : mg "all" = none) : FnOk P w K mg base CX0 2 f fd ["kinds", "thing"] (spAreK C K) := by
  refine F.ok scAreK (fun vs H Q E h => ?_) (fun cdv A outer s H vs Q E hr h => ?_)
  · obtain ⟨x, v, ls, ls', T, d, rfl, _⟩ := h
    rfl
  · obtain ⟨x, v, ls, ls', T, d, rfl, kin, hd, fit, k⟩ := h
    have hr1 : Room 1 _ := hr.mono (by decide)
    refine ⟨_, pss_one (ps_ret (pe_and (pe_callB call_isi (by rfl) mi (by decide +kernel) (pa_cons (pv 1) (pa_cons (pe_bltn (v := .ty "tuple") (u := .type "tuple") (by rfl) mt (by decide +kernel) rfl) pa_nil))) (pe_and (pe_cmpR op_gt (pe_callB call_len_seq (by rfl) ml PySem.boot_len (pa_cons (pv 1) pa_nil)) pe_int (nomark _)) (pe_one (pe_callB (cr_all rfl) (by rfl) ma (by decide +kernel) (pa_cons (pe_lc (own := [("name", 2)]) (g := gName 2) (tt := tYes) rfl scAreK.nd (pi_tup (pv 1)) (blkOk_by (N := ["kinds", "thing", "name"]) (sc := defScope sAreKinds) (by decide +kernel)) (fun _ _ _ _ _ => pg_name (i := 2) scAreK.nd rfl (Or.inl rfl)) (fun _ _ _ _ _ => pts_nil) (fun _ _ _ _ _ => (pe_cmpR (op_inO cI GI hr1 bI) (pv 2) (pv 0) (by rfl)))) pa_nil)))))), ?_⟩
    have ty := dp_ty hd
    cases d with
    | tuple ds =>
      cases hd with
      | tup hs ha =>
        rename_i a xs
        have lx := dpAll_len ha
        have few := fit.few
        refine ⟨_, rfl, _, .ty "tuple", _, _, true, rfl, .ty "tuple", ty, kit_ty (kt_tuple _), true, rfl, iteT ?_⟩
        refine ⟨_, rfl, a, _, rfl, .inr hs, _, _, rfl, rfl, _, rfl, ?_⟩
        have e0 : decide ((0 : Int) < ((xs.length : Nat) : Int)) = decide (0 < ds.length) := by
          rw [decide_eq_decide, lx]
          omega
        show (if decide ((0 : Int) < ((xs.length : Nat) : Int)) = true then _ else _)
        rw [e0]
        have k0 := fun H' s => show Q (.bl (decide (0 < ds.length) && ds.all (inD (nms ls)))) H' from k H' s
        cases eb : decide (0 < ds.length) with
        | false =>
          rw [eb] at k0
          exact iteF (k0 _ (Same.refl _))
        | true =>
          rw [eb] at k0
          refine iteT ⟨_, rfl, a, rfl, ⟨_, hs⟩, fun D nD => ?_⟩
          refine lc_tup (K := K) (a := a) (xs := xs) (fun j H' => Same H H' ∧ H' D = some (.lst (((ds.take j).map (inD (nms ls))).map V.bl))) ⟨same_upd nD, upd_same⟩ (fun j H' hj q => Same.tup q.1 hs) ?_ ?_
          · rintro j u H' hu ⟨sm, hD⟩
            obtain ⟨e, he, hde⟩ := dpAll_at (dpAll_same sm ha) hu
            have me : e ∈ ds := List.mem_of_getElem? he
            have hj : j < ds.length := (List.getElem?_eq_some_iff.mp he).1
            have kin4 := kin.same sm
            obtain ⟨dx, fs, hx⟩ : ∃ dx fs, H' x = some (.ins C dx fs) := by
              obtain ⟨dx, r, dd, _, _, hx, _⟩ := kin4.ex
              exact ⟨dx, _, hx⟩
            refine ⟨rfl, _, rfl, _, rfl, x, dx, fs, rfl, hx, in_dp (R := fun b H1 => _) hde kin4 ?_⟩
            refine ⟨_, hD, ?_, same_past nD sm, ?_⟩
            · rw [List.length_map, List.length_map, List.length_take]
              exact Nat.lt_of_le_of_lt (show _ ≤ 1000 by omega) (by decide)
            · rw [upd_same, List.take_add_one, he, List.map_append, List.map_append]
              rfl
          · rintro H' ⟨sm, hD⟩
            rw [lx, List.take_of_length_le (Nat.le_refl _)] at hD
            refine ⟨D, _, rfl, SqL.of hD, ?_⟩
            have e : ((ds.map (inD (nms ls))).all id) = ds.all (inD (nms ls)) := by
              rw [List.all_map]
              rfl
            rw [e]
            exact k0 _ sm
    | _ => exact ⟨_, rfl, _, .ty "tuple", _, _, false, rfl, .ty "tuple", ty, kit_ty (kt_tuple _), false, rfl, iteF (k _ (Same.refl _))⟩
theorem fit_fst {d : PyData} (h : isPairD d = true) (f : Fit d) : Fit (fstD d) := by
  obtain ⟨m, i, rfl⟩ := pair_of h
  exact f.kid (List.mem_cons_self ..)
theorem fit_snd {d : PyData} (h : isPairD d = true) (f : Fit d) : Fit (sndD d) := by
  obtain ⟨m, i, rfl⟩ := pair_of h
  exact f.kid (List.mem_cons_of_mem _ (List.mem_cons_self ..))
theorem dp_fs {H : Hp} {v : V} {d : PyData} (h : isPairD d = true) (hd : Dp K H v d) : ∃ a x y, v = .ref a ∧ SqT K H a [x, y] ∧ Dp K H x (fstD d) ∧ Dp K H y (sndD d) := by
  obtain ⟨m, i, rfl⟩ := pair_of h
  exact dp_pair hd
/-- the clause is a pair -/
def spPass (K : PySem.W.Frag) : Sp := fun vs H Q _ => ∃ v d, vs = [v] ∧ Dp K H v d ∧ Fit d ∧ isPairD d = true ∧ ∀ H', Same H H' → Q (.bl (passB d)) H'
theorem low_word (z : Str) (h : okD (.str z) = true) : Fit (.str z) := ⟨h, Nat.zero_le _⟩
theorem scPass : FnScope ["clause"] ["clause"] (defScope sPasses) := ⟨rfl, rfl, rfl, by decide +kernel, rfl, by decide +kernel, by decide +kernel⟩
theorem ok_passes {f fP : Addr} {fd dP : FuncData} (F : Fun K "_passes" "_passes" sPasses f fd) (GP : FnOk P w K mg base CX0 1 fP dP ["thing"] (spD1 K isPairD)) (kP : PySem.W.keepIn K (.ref fP) = true) (bP : Binds K dP ["thing"] []) (mP : mg "is_pair" = some (.ref fP)) : FnOk P w K mg base CX0 2 f fd ["clause"] (spPass K) := by
  refine F.ok scPass (fun vs H Q E h => ?_) (fun cdv A outer s H vs Q E hr h => ?_)
  · obtain ⟨v, d, rfl, _⟩ := h
    rfl
  · obtain ⟨v, d, rfl, hd, fit, pr, k⟩ := h
    have hr1 : Room 1 _ := hr.mono (by decide)
    refine ⟨_, pss_one (ps_ret (pe_and (pe_call GP hr1 (by rfl) mP kP bP .nil pass0 (pa_cons (pe_ix ix_tup (pv 0) pe_int (fun _ _ => rfl)) pa_nil)) (pe_one (pe_cmpR (op_eqD hr.units) (pe_ix ix_tup (pe_ix ix_tup (pv 0) pe_int (fun _ _ => rfl)) pe_int (fun _ _ => rfl)) pe_str (nomark _))))), ?_⟩
    obtain ⟨a, x, y, rfl, hs, hx, hy⟩ := dp_fs pr hd
    have fy := fit_snd pr fit
    refine ⟨_, rfl, a, _, 1, _, rfl, rfl, hs, atI_nat (j := 1) rfl, y, _, rfl, hy, fy, fun H1 s1 => ?_⟩
    have k1 := fun H2 s2 => show Q (.bl (isPairD (sndD d) && PyData.eqv (fstD (sndD d)) (.str "pass"))) H2 from k H2 s2
    cases ep : isPairD (sndD d) with
    | false =>
      rw [ep] at k1
      exact ⟨_, rfl, iteF (k1 _ s1)⟩
    | true =>
      rw [ep] at k1
      obtain ⟨b, x2, y2, rfl, hs2, hx2, hy2⟩ := dp_fs ep hy
      refine ⟨_, rfl, iteT ⟨_, rfl, a, _, 1, _, rfl, rfl, Same.tup s1 hs, atI_nat (j := 1) rfl, b, _, 0, _, rfl, rfl, Same.tup s1 hs2, atI_nat (j := 0) rfl, fstD (sndD d), .str "pass", dp_same s1 hx2, .str _, (fit_fst ep fy).shaped, by decide +kernel, ?_⟩⟩
      exact k1 _ s1
def spPlain (C : Addr) (K : PySem.W.Frag) : Sp := fun vs H Q _ => ∃ x v ls ls' T d, vs = [.ref x, v] ∧ KIn C H x ls ls' T ∧ Dp K H v d ∧ Fit d ∧ ndD d ≤ 10000000 ∧ ∀ H', Same H H' → Q (.bl (plainD (nms ls) d)) H'
theorem scPlain : FnScope ["kinds", "thing", "word", "what"] ["kinds", "thing"] (defScope sIsPlain) := ⟨rfl, rfl, rfl, by decide +kernel, rfl, by decide +kernel, by decide +kernel⟩
theorem ok_isPlain {C f fP fA fF : Addr} {fd dP dA dF : FuncData} (F : Fun K "_is_plain_action" "_is_plain_action" sIsPlain f fd) (GP : FnOk P w K mg base CX0 1 fP dP ["thing"] (spD1 K isPairD)) (kP : PySem.W.keepIn K (.ref fP) = true) (bP : Binds K dP ["thing"] []) (mP : mg "is_pair" = some (.ref fP))
    (GK : FnOk P w K mg base CX0 2 fA dA ["kinds", "thing"] (spAreK C K)) (kK : PySem.W.keepIn K (.ref fA) = true) (bK : Binds K dA ["kinds", "thing"] []) (mK : mg "_are_kinds" = some (.ref fA))
    (GF : FnOk P w K mg base CX0 3 fF dF ["kinds", "thing"] (spForm C K)) (kF : PySem.W.keepIn K (.ref fF) = true) (bF : Binds K dF ["kinds", "thing"] []) (mF : mg "is_form" = some (.ref fF)) : FnOk P w K mg base CX0 4 f fd ["kinds", "thing"] (spPlain C K) := by
  refine F.ok scPlain (fun vs H Q E h => ?_) (fun cdv A outer s H vs Q E hr h => ?_)
  · obtain ⟨x, v, ls, ls', T, d, rfl, _⟩ := h
    rfl
  · obtain ⟨x, v, ls, ls', T, d, rfl, kin, hd, fit, big, k⟩ := h
    have hr1 : Room 1 _ := hr.mono (by decide)
    have hr2 : Room 2 _ := hr.mono (by decide)
    refine ⟨_, pss_cons (ps_if (pt_not (pt_val (pe_call GP hr1 (by rfl) mP kP bP .nil pass0 (pa_cons (pv 1) pa_nil))))
        (pss_one (ps_ret (pe_cmpR (op_inTD hr.units) (pv 1) (pe_tup (pa_cons pe_str (pa_cons pe_str pa_nil))) (by rfl))))
        pss_nil)
      (pss_cons (ps_asg (pv 1) (pg_tup rfl (pgs_cons (pg_name (i := 2) scPlain.nd rfl (Or.inl rfl)) (pgs_cons (pg_name (i := 3) scPlain.nd rfl (Or.inl rfl)) pgs_nil))))
      (pss_cons (ps_if (pt_cmpR (op_eqD hr.units) (pv 2) pe_str (nomark _))
        (pss_one (ps_ret (pe_call GK hr2 (by rfl) mK kK bK .nil pass0 (pa_cons (pv 0) (pa_cons (pv 3) pa_nil)))))
        pss_nil)
      (pss_one (ps_ret (pe_and (pe_cmpR (op_eqD hr.units) (pv 2) pe_str (nomark _)) (pe_one (pe_call GF (hr.mono (by decide)) (by rfl) mF kF bF .nil pass0 (pa_cons (pv 0) (pa_cons (pv 3) pa_nil))))))))), ?_⟩
    refine ⟨_, rfl, v, d, rfl, hd, fit, fun H1 s1 => ?_⟩
    unfold plainD at k
    cases ep : isPairD d with
    | false =>
      rw [ep, if_neg Bool.false_ne_true] at k
      refine ⟨_, rfl, iteT ⟨_, rfl, (by show 2 ≤ sizeLine; decide), fun p np => ?_⟩⟩
      have s2 := same_upd (o := .tup [.str "drop", .str "back"]) np
      exact ⟨d, [.str "drop", .str "back"], dp_same (s1.trans s2) hd, .tup (SqT.of upd_same) (.cons (.str _) (.cons (.str _) .nil)), fit.lay, by decide +kernel, Nat.le_trans (Nat.min_le_left _ _) (by decide), k _ (s1.trans s2)⟩
    | true =>
      rw [ep, if_pos rfl] at k
      obtain ⟨a, x1, y1, rfl, hs, hx, hy⟩ := dp_fs ep (dp_same s1 hd)
      have f1 := fit_fst ep fit
      have f2 := fit_snd ep fit
      have nd2 : ndD (sndD d) ≤ 10000000 := Nat.le_trans (nd_snd d) big
      refine ⟨_, rfl, iteF ⟨_, rfl, a, _, rfl, hs, rfl, _, _, rfl, _, _, rfl, rfl, ?_⟩⟩
      refine ⟨_, rfl, fstD d, .str "keep", hx, .str _, f1.shaped, by decide +kernel, _, rfl, ?_⟩
      cases ek : PyData.eqv (fstD d) (.str "keep") with
      | true =>
        rw [ek, if_pos rfl] at k
        exact iteT ⟨_, rfl, _, rfl, x, y1, ls, ls', T, sndD d, rfl, kin.same s1, hy, f2, fun H2 s2 => k _ (s1.trans s2)⟩
      | false =>
        rw [ek, if_neg Bool.false_ne_true] at k
        refine iteF ⟨_, rfl, fstD d, .str "raise", hx, .str _, f1.shaped, by decide +kernel, _, rfl, ?_⟩
        cases er : PyData.eqv (fstD d) (.str "raise") with
        | false =>
          rw [er] at k
          exact iteF (k _ s1)
        | true =>
          rw [er] at k
          exact iteT ⟨_, rfl, _, rfl, x, y1, ls, ls', T, sndD d, rfl, kin.same s1, hy, f2, nd2, fun H2 s2 => k _ (s1.trans s2)⟩
end
end K1

namespace K1
open PySem PySem.Spec PyProof.Rows L2 Own
/-! ### is_stack over any data -/
def spStack (C : Addr) (K : PySem.W.Frag) : Sp := fun vs H Q _ => ∃ x v ls ls' T d, vs = [.ref x, v] ∧ KIn C H x ls ls' T ∧ Dp K H v d ∧ Fit d ∧ ndD d ≤ 10000000 ∧ ∀ H', Same H H' → Q (.bl (stackD (nms ls) d)) H'
theorem nd_mem_all {ds : List PyData} {d : PyData} (h : d ∈ ds) : ndD d ≤ ndAll ds := nd_mem h
theorem ndAll_app' (a b : List PyData) : ndAll (a ++ b) = ndAll a + ndAll b := ndAll_app a b
section
variable {P : Program} {w : World} {K : PySem.W.Frag} {mg : Str → Option Value} {base : Heap}
theorem scStack : FnScope ["kinds", "thing", "pending", "guard", "clause"] ["kinds", "thing"] (defScope sIsStack) := ⟨rfl, rfl, rfl, by decide +kernel, rfl, by decide +kernel, by decide +kernel⟩
theorem ok_isStack {C f fP fK fS fA : Addr} {fd dP dK dS dA : FuncData} (F : Fun K "is_stack" "is_stack" sIsStack f fd) (GP : FnOk P w K mg base CX0 1 fP dP ["thing"] (spD1 K isPairD)) (kP : PySem.W.keepIn K (.ref fP) = true) (bP : Binds K dP ["thing"] []) (mP : mg "is_pair" = some (.ref fP))
    (GK : FnOk P w K mg base CX0 2 fK dK ["kinds", "thing"] (spAreK C K)) (kK : PySem.W.keepIn K (.ref fK) = true) (bK : Binds K dK ["kinds", "thing"] []) (mK : mg "_are_kinds" = some (.ref fK))
    (GS : FnOk P w K mg base CX0 2 fS dS ["clause"] (spPass K)) (kS : PySem.W.keepIn K (.ref fS) = true) (bS : Binds K dS ["clause"] []) (mS : mg "_passes" = some (.ref fS))
    (GA : FnOk P w K mg base CX0 4 fA dA ["kinds", "thing"] (spPlain C K)) (kA : PySem.W.keepIn K (.ref fA) = true) (bA : Binds K dA ["kinds", "thing"] []) (mA : mg "_is_plain_action" = some (.ref fA))
    (mi : mg "isinstance" = none) (mt : mg "tuple" = none) (mli : mg "list" = none) : FnOk P w K mg base CX0 5 f fd ["kinds", "thing"] (spStack C K) := by
  refine F.ok scStack (fun vs H Q E h => ?_) (fun cdv A outer s H vs Q E hr h => ?_)
  · obtain ⟨x, v, ls, ls', T, d, rfl, _⟩ := h
    rfl
  · obtain ⟨x, v, ls, ls', T, d0, rfl, kin, hd, fit, big, k⟩ := h
    have hr1 : Room 1 _ := hr.mono (by decide)
    have hr2 : Room 2 _ := hr.mono (by decide)
    refine ⟨_, pss_cons (ps_if (pt_not (pt_val (pe_callB call_isi (by rfl) mi (by decide +kernel) (pa_cons (pv 1) (pa_cons (pe_bltn (v := .ty "tuple") (u := .type "tuple") (by rfl) mt (by decide +kernel) rfl) pa_nil)))))
        (pss_one (ps_ret pe_bl))
        pss_nil)
      (pss_cons (ps_set (i := 2) scStack.nd rfl (Or.inl rfl) (pe_callTy call_list_of (by rfl) mli (by decide +kernel) (pa_cons (pv 1) pa_nil)))
      (pss_cons (ps_while PassesOwn.never (pt_truth (pv 2) (by intro _; rfl))
        (pss_cons (ps_set (i := 3) scStack.nd rfl (Or.inl rfl) (pe_bm0 PySem.F.plainAttrs_list PySem.F.slot_list_pop PySem.F.type_list_pop mt_pop (pv 2)))
        (pss_cons (ps_if (pt_not (pt_val (pe_callB call_isi (by rfl) mi (by decide +kernel) (pa_cons (pv 3) (pa_cons (pe_bltn (v := .ty "tuple") (u := .type "tuple") (by rfl) mt (by decide +kernel) rfl) pa_nil)))))
          (pss_one (ps_ret pe_bl))
          pss_nil)
        (pss_one (ps_for PassesOwn.never rfl (pi_tup (pv 3)) (pg_name (i := 4) scStack.nd rfl (Or.inl rfl))
          (pss_cons (ps_if (PW.pt (pw_or (pt_not (pt_val (pe_call GP hr1 (by rfl) mP kP bP .nil pass0 (pa_cons (pv 4) pa_nil)))) (pw_or1 (pt_not (pt_val (pe_call GK hr2 (by rfl) mK kK bK .nil pass0 (pa_cons (pv 0) (pa_cons (pe_ix ix_tup (pv 4) pe_int (fun _ _ => rfl)) pa_nil))))))))
            (pss_one (ps_ret pe_bl))
            pss_nil)
          (pss_one (ps_if (pt_val (pe_call GS hr2 (by rfl) mS kS bS .nil pass0 (pa_cons (pv 4) pa_nil)))
            (pss_one (ps_expr (pe_bm PySem.F.plainAttrs_list PySem.F.slot_list_append PySem.F.type_list_append mt_append (pv 2) (pa_cons (pe_ix ix_tup (pe_ix ix_tup (pv 4) pe_int (fun _ _ => rfl)) pe_int (fun _ _ => rfl)) pa_nil))))
            (pss_one (ps_if (pt_not (pt_val (pe_call GA hr (by rfl) mA kA bA .nil pass0 (pa_cons (pv 0) (pa_cons (pe_ix ix_tup (pv 4) pe_int (fun _ _ => rfl)) pa_nil)))))
              (pss_one (ps_ret pe_bl))
              pss_nil))))))))))
      (pss_one (ps_ret pe_bl)))), ?_⟩
    have ty := dp_ty hd
    cases d0 with
    | tuple ds0 =>
      cases hd with
      | tup hs ha =>
        rename_i a xs
        refine ⟨_, rfl, _, .ty "tuple", _, _, true, rfl, .ty "tuple", ty, kit_ty (kt_tuple _), true, rfl, iteF ?_⟩
        refine ⟨_, rfl, a, _, rfl, .inr hs, fun p np => ?_⟩
        have nd0 : ndAll ds0 ≤ 10000000 := by
          have : ndD (.tuple ds0) = ndAll ds0 + 1 := rfl
          omega
        have st0 : stackD (nms ls) (.tuple ds0) = ds0.all (guardD (nms ls)) := rfl
        refine ⟨fun m σ H' => ∃ v3 v4 vs ds, σ = [some (.ref x), some (.ref a), some (.ref p), v3, v4] ∧ Same H H' ∧ H' p = some (.lst vs) ∧ DpAll K H vs ds ∧ (∀ d ∈ ds, Fit d) ∧ ndAll ds = m ∧ m ≤ 10000000 ∧ ds.all (guardD (nms ls)) = stackD (nms ls) (.tuple ds0),
          ⟨ndAll ds0, none, none, xs, ds0, rfl, same_upd np, upd_same, ha, fun d hm => fit.kid hm, rfl, nd0, rfl⟩, ?_⟩
        rintro m σ H' ⟨v3, v4, vs, ds, rfl, sm, hp, ha, fits, em, mb, ea⟩
        have lv := dpAll_len ha
        refine ⟨_, rfl, !vs.isEmpty, .inl ⟨vs, SqL.of hp, rfl⟩, ?_⟩
        by_cases ev : vs = []
        · subst ev
          have ed : ds = [] := List.length_eq_zero_iff.mp lv.symm
          subst ed
          have k' := k H' sm
          rw [← ea] at k'
          exact iteF k'
        · rw [show (!vs.isEmpty) = true from by cases vs with | nil => exact absurd rfl ev | cons _ _ => rfl]
          refine iteT ?_
          obtain ⟨ws, y, es, e, rfl, rfl, ha2, he⟩ := dpAll_snoc ha ev
          have fe : Fit e := fits e (List.mem_append_right _ (List.mem_cons_self ..))
          have fes : ∀ d ∈ es, Fit d := fun d hm => fits d (List.mem_append_left _ hm)
          have cnt : ndAll es + ndD e = m := by
            rw [ndAll_app] at em
            exact em
          have le := ndAll_len es
          have lw := dpAll_len ha2
          have ea1 : (es.all (guardD (nms ls)) && guardD (nms ls) e) = stackD (nms ls) (.tuple ds0) := by
            rw [← ea, List.all_append]
            show _ = (es.all (guardD (nms ls)) && (guardD (nms ls) e && true))
            rw [Bool.and_true]
          refine ⟨fun σ' H2 => ∃ m', m' < m ∧ ∃ v3 v4 vs ds, σ' = [some (.ref x), some (.ref a), some (.ref p), v3, v4] ∧ Same H H2 ∧ H2 p = some (.lst vs) ∧ DpAll K H vs ds ∧ (∀ d ∈ ds, Fit d) ∧ ndAll ds = m' ∧ m' ≤ 10000000 ∧ ds.all (guardD (nms ls)) = stackD (nms ls) (.tuple ds0), fun σ' H2 q => q, ?_⟩
          refine ⟨_, rfl, .inl ⟨rfl, _, SqL.of hp⟩, p, _, y, rfl, rfl, hp, ?_, ?_⟩
          · rw [List.length_append, List.length_singleton, Nat.add_sub_cancel, List.getElem?_append_right (Nat.le_refl _), Nat.sub_self]
            rfl
          have s3 : Same H (upd H' p (.lst (ws ++ [y]).dropLast)) := same_past np sm
          have hp3 := upd_same (H := H') (a := p) (o := .lst (ws ++ [y]).dropLast)
          rw [List.dropLast_concat] at s3 hp3 ⊢
          generalize upd H' p (.lst ws) = H3 at s3 hp3 ⊢
          have ty2 := dp_ty (dp_same s3 he)
          rw [guard_eq] at ea1
          cases e with
          | tuple cs =>
            refine ⟨_, rfl, _, .ty "tuple", _, _, true, rfl, .ty "tuple", ty2, kit_ty (kt_tuple _), true, rfl, iteF ?_⟩
            have ea2 : (es.all (guardD (nms ls)) && cs.all (clauseD (nms ls))) = stackD (nms ls) (.tuple ds0) := ea1
            have ncs : ndD (.tuple cs) = ndAll cs + 1 := rfl
            cases he with
            | tup hs2 ha3 =>
              rename_i b ys
              have ly := dpAll_len ha3
              refine ⟨_, rfl, b, rfl, ⟨_, Same.tup s3 hs2⟩, ?_⟩
              refine for_tup (K := K) (a := b) (xs := ys) (fun j σ H' => ∃ v4 us gs, σ = [some (.ref x), some (.ref a), some (.ref p), some (.ref b), v4] ∧ Same H H' ∧ H' p = some (.lst us) ∧ DpAll K H us gs ∧ (∀ d ∈ gs, Fit d) ∧ ndAll gs + ndAll (cs.drop j) + 1 ≤ m ∧ (gs.all (guardD (nms ls)) && (cs.drop j).all (clauseD (nms ls))) = stackD (nms ls) (.tuple ds0))
                ⟨_, ws, es, rfl, s3, hp3, ha2, fes, by rw [List.drop_zero]; omega, by rw [List.drop_zero]; exact ea2⟩ (fun j σ H' hj ⟨_, _, _, _, sm, _⟩ => Same.tup sm hs2) ?_ ?_
              · rintro j u σ H4 hu ⟨v4', us, gs, rfl, s4, hp4, hg, fgs, cntj, eaj⟩
                obtain ⟨c, hc, hdc0⟩ := dpAll_at ha3 hu
                have hdc := dp_same s4 hdc0
                have mc : c ∈ cs := List.mem_of_getElem? hc
                have fc : Fit c := fe.kid mc
                have hj : j < cs.length := (List.getElem?_eq_some_iff.mp hc).1
                have dj : cs.drop j = c :: cs.drop (j + 1) := by
                  rw [List.drop_eq_getElem_cons hj]
                  have := (List.getElem?_eq_some_iff.mp hc).2
                  rw [this]
                rw [dj] at cntj eaj
                have cnt2 : ndAll gs + (ndD c + ndAll (cs.drop (j + 1))) + 1 ≤ m := cntj
                have eaj2 : (gs.all (guardD (nms ls)) && (clauseD (nms ls) c && (cs.drop (j + 1)).all (clauseD (nms ls)))) = stackD (nms ls) (.tuple ds0) := eaj
                have no : clauseD (nms ls) c = false → ∀ H', Same H H' → Q (.bl false) H' := fun e H' s => by
                  rw [e, Bool.false_and, Bool.and_false] at eaj2
                  have q := k H' s
                  rw [← eaj2] at q
                  exact q
                refine ⟨_, rfl, u, c, rfl, hdc, fc, fun H5 s5 => ?_⟩
                cases ep : isPairD c with
                | false =>
                  refine ⟨_, rfl, iteT (iteT (no ?_ _ (s4.trans s5)))⟩
                  unfold clauseD headD
                  rw [ep]
                  rfl
                | true =>
                  obtain ⟨ca, x1, y1, rfl, hsc, hx1, hy1⟩ := dp_fs ep hdc0
                  have f1 := fit_fst ep fc
                  have f2 := fit_snd ep fc
                  have s45 := s4.trans s5
                  refine ⟨_, rfl, iteF ⟨_, rfl, _, rfl, ca, _, 0, _, rfl, rfl, Same.tup s45 hsc, atI_nat (j := 0) rfl, x, x1, ls, ls', T, fstD c, rfl, kin.same s45, dp_same s45 hx1, f1, fun H6 s6 => ?_⟩⟩
                  have s46 := s45.trans s6
                  cases ek : areKD (nms ls) (fstD c) with
                  | false =>
                    refine ⟨_, rfl, iteT (no ?_ _ s46)⟩
                    unfold clauseD headD
                    rw [ek, Bool.and_false]
                    rfl
                  | true =>
                    refine ⟨_, rfl, iteF ⟨_, rfl, _, c, rfl, dp_same s46 hdc0, fc, ep, fun H7 s7 => ?_⟩⟩
                    have cl : clauseD (nms ls) c = (if passB c = true then guardD (nms ls) (sndD (sndD c)) else plainD (nms ls) (sndD c)) := by
                      unfold clauseD headD
                      rw [ep, ek]
                      rfl
                    have s47 := s46.trans s7
                    have hp7 := (s5.trans (s6.trans s7)) _ _ hp4
                    have ndc := nd_snd c
                    have n2 := nd_snd (sndD c)
                    cases eps : passB c with
                    | true =>
                      rw [eps, if_pos rfl] at cl
                      have ep2 : isPairD (sndD c) = true := (Bool.and_eq_true_iff.mp eps).1
                      obtain ⟨ca2, x2, y2, rfl, hsc2, hx2, hy2⟩ := dp_fs ep2 hy1
                      have lus := dpAll_len hg
                      have lg := ndAll_len gs
                      refine ⟨_, rfl, iteT ⟨_, rfl, .inl ⟨rfl, _, SqL.of hp7⟩, _, rfl, ca, _, 1, _, rfl, rfl, Same.tup s47 hsc, atI_nat (j := 1) rfl, ca2, _, 1, _, rfl, rfl, Same.tup s47 hsc2, atI_nat (j := 1) rfl, p, _, _, rfl, rfl, hp7, (by rw [sizeLine_eq]; omega), ?_⟩⟩
                      have ndp : ndD (sndD (sndD c)) < ndD (sndD c) := by
                        rw [show sndD c = .tuple [fstD (sndD c), sndD (sndD c)] from pair_fs ep2]
                        show ndD (sndD (sndD c)) < ndD (fstD (sndD c)) + (ndD (sndD (sndD c)) + 0) + 1
                        omega
                      refine ⟨_, us ++ [y2], gs ++ [sndD (sndD c)], rfl, same_past np s47, upd_same, dpAll_app hg (.cons hy2 .nil), fun d hm => ?_, ?_, ?_⟩
                      · rcases List.mem_append.mp hm with q | q
                        · exact fgs d q
                        · rw [List.mem_singleton.mp q]
                          exact fit_snd ep2 f2
                      · rw [ndAll_app]
                        show ndAll gs + (ndD (sndD (sndD c)) + 0) + ndAll (cs.drop (j + 1)) + 1 ≤ m
                        omega
                      · rw [← eaj2, cl, List.all_append]
                        show (gs.all _ && (guardD (nms ls) (sndD (sndD c)) && true) && _) = _
                        rw [Bool.and_true, Bool.and_assoc]
                    | false =>
                      rw [eps, if_neg Bool.false_ne_true] at cl
                      refine ⟨_, rfl, iteF ⟨_, rfl, _, rfl, ca, _, 1, _, rfl, rfl, Same.tup s47 hsc, atI_nat (j := 1) rfl, x, y1, ls, ls', T, sndD c, rfl, kin.same s47, dp_same s47 hy1, f2, (by omega), fun H8 s8 => ?_⟩⟩
                      have s48 := s47.trans s8
                      cases epl : plainD (nms ls) (sndD c) with
                      | false =>
                        refine ⟨_, rfl, iteT (no ?_ _ s48)⟩
                        rw [cl, epl]
                      | true =>
                        refine ⟨_, rfl, iteF ?_⟩
                        refine ⟨_, us, gs, rfl, s48, s8 _ _ hp7, hg, fgs, (by omega), ?_⟩
                        rw [← eaj2, cl, epl, Bool.true_and]
              · rintro σ H4 ⟨v4', us, gs, rfl, s4, hp4, hg, fgs, cntj, eaj⟩
                rw [ly, List.drop_length] at cntj eaj
                refine ⟨ndAll gs, ?_, _, _, us, gs, rfl, s4, hp4, hg, fgs, rfl, ?_, ?_⟩
                · have : ndAll gs + 0 + 1 ≤ m := cntj
                  omega
                · have : ndAll gs + 0 + 1 ≤ m := cntj
                  omega
                · have q : (gs.all (guardD (nms ls)) && true) = stackD (nms ls) (.tuple ds0) := eaj
                  rw [Bool.and_true] at q
                  exact q
          | _ =>
            have ea2 : (es.all (guardD (nms ls)) && false) = stackD (nms ls) (.tuple ds0) := ea1
            rw [Bool.and_false] at ea2
            have q := k _ s3
            rw [← ea2] at q
            exact ⟨_, rfl, _, .ty "tuple", _, _, false, rfl, .ty "tuple", ty2, kit_ty (kt_tuple _), false, rfl, iteT q⟩
    | _ => exact ⟨_, rfl, _, .ty "tuple", _, _, false, rfl, .ty "tuple", ty, kit_ty (kt_tuple _), false, rfl, iteT (k _ (Same.refl _))⟩
end
end K1

namespace K1
open PySem PySem.Spec PyProof.Rows L2 Own
/-! ### layers drawn -/
theorem q_join {t : TS} {D : Ends} {σ : L2.St} {H : Hp} (R : L2.St → Hp → Prop) (done : ∀ σ' H', R σ' H' → D.nx σ' H') (h : ∀ N : L2.St → Hp → Prop, (∀ σ' H', R σ' H' → N σ' H') → t { D with nx := N } σ H) : t D σ H := h D.nx done
theorem flat_all {R : PyData → Prop} (fl : ∀ d, R d → noList d = true) {ds : List PyData} (h : ∀ d ∈ ds, R d) : noListAll ds = true := noListAll_of fun d hd => fl d (h d hd)
/-- [call(..) for k in range(..)]: data, each R -/
theorem lc_data {K : PySem.W.Frag} {s : Addr} {G : Hp} {R : PyData → Prop} (fl : ∀ d, R d → noList d = true) {lo : Int} {n j : Nat} {te : TE} {vs : List Nat} {σ : L2.St} {H1 : Hp} {D : Addr} {Qd : Hp → Prop} (hG : Keep s G H1) (src : Src H1 s) (nD : H1 D = none) (few : n ≤ 1000) (hw : ∀ x, wipe ((wipe σ vs).set j (some x)) vs = wipe σ vs)
    (step : ∀ i H (Q : VK), i < n → Keep s G H → Src H s → (∀ H' v d, Keep s H H' → Src H' s → Dp K H' v d → R d → Q v H') → te ((wipe σ vs).set j (some (.int (lo + i)))) H Q)
    (done : ∀ H us ds, Keep s G H → Src H s → H D = some (.lst us) → DpAll K H us ds → ds.length = n → (∀ d ∈ ds, R d) → Qd H) :
    ∃ W : Nat → Nat → Hp → Prop, (∃ m, W 0 m (upd H1 D (.lst []))) ∧ ∀ i m H, W i m H →
      ((Itr lo n).stop i H ∧ Qd H) ∨ ((Itr lo n).go i H ∧ ∃ Nx : Hp → Prop, (∀ H', Nx H' → ∃ m', m' < m ∧ W (i + 1) m' H') ∧ ∀ x H', (Itr lo n).yld i H x H' → gName j x (wipe σ vs) H' fun σ2 H2 => wipe σ2 vs = wipe σ vs ∧ tYes σ2 H2 fun b H3 =>
        if b = true then te σ2 H3 fun y H4 => ∃ acc, H4 D = some (.lst acc) ∧ acc.length < sizeLine ∧ Nx (upd H4 D (.lst (acc ++ [y]))) else Nx H3) := by
  have Ds : D ≠ s := fun e => by
    obtain ⟨x, y, z, _⟩ := src
    rw [e, z] at nD
    cases nD
  have nDG : G D = none := hG.free src nD
  refine lc_range (lo := lo) (n := n) (fun i H' => Keep s G H' ∧ Src H' s ∧ ∃ us ds, H' D = some (.lst us) ∧ DpAll K H' us ds ∧ ds.length = i ∧ ∀ d ∈ ds, R d) ⟨hG.new nD, src.new nD, [], [], upd_same, .nil, rfl, fun _ h => nomatch h⟩ ?_ ?_
  · rintro i H' hi ⟨kp, sr, us, ds, hD, ha, dl, each⟩
    have flat := flat_all fl each
    have lu := dpAll_len ha
    refine ⟨hw _, step i H' _ hi kp sr fun H'' v d k2 sr2 hd rd => ?_⟩
    have hD2 := k2 D _ Ds hD
    have st : Stay H' H'' := k2.stay sr
    have stc := stay_upd (o := .lst (us ++ [v])) hD2
    refine ⟨us, hD2, small1000 (by omega), (kp.trans k2).put nDG, sr2.put Ds, us ++ [v], ds ++ [d], upd_same, dpAll_app (dpAll_stay (st.trans stc) ha flat) (.cons (dp_stay stc hd (fl d rd)) .nil), ?_, fun e he => ?_⟩
    · rw [List.length_append, dl]
      rfl
    · rcases List.mem_append.mp he with q | q
      · exact each e q
      · rw [List.mem_singleton.mp q]
        exact rd
  · rintro H' ⟨kp, sr, us, ds, hD, ha, dl, each⟩
    exact done H' us ds kp sr hD ha dl each
def LabsN (ns : List Str) (d : PyData) : Prop := ∃ zs : List Str, d = .tuple (zs.map .str) ∧ 1 ≤ zs.length ∧ zs.length ≤ 2 ∧ ∀ z ∈ zs, z ∈ ns
def ActN (ns : List Str) (R : PyData → Prop) (d : PyData) : Prop := d = .str "drop" ∨ d = .str "back" ∨ (∃ l, LabsN ns l ∧ d = .tuple [.str "keep", l]) ∨ (∃ p f, FormN ns p 2 f ∧ d = .tuple [.str "raise", f]) ∨ ∃ g, R g ∧ d = .tuple [.str "pass", g]
def ClauseN (ns : List Str) (R : PyData → Prop) (d : PyData) : Prop := ∃ l a, LabsN ns l ∧ ActN ns R a ∧ d = .tuple [l, a]
def LayerN (ns : List Str) : Nat → PyData → Prop
  | 0, d => ∃ cs, d = .tuple cs ∧ cs.length ≤ 4 ∧ ∀ c ∈ cs, ClauseN ns (fun _ => False) c
  | n + 1, d => ∃ cs, d = .tuple cs ∧ cs.length ≤ 4 ∧ ∀ c ∈ cs, ClauseN ns (LayerN ns n) c
def LayersN (ns : List Str) (M : Nat) (d : PyData) : Prop := ∃ gs, d = .tuple gs ∧ gs.length ≤ M ∧ ∀ g ∈ gs, LayerN ns 2 g
def innerR (ns : List Str) : Nat → PyData → Prop
  | 0 => fun _ => False
  | n + 1 => LayerN ns n
theorem layer_of {ns : List Str} (n : Nat) (d : PyData) : LayerN ns n d = ∃ cs, d = .tuple cs ∧ cs.length ≤ 4 ∧ ∀ c ∈ cs, ClauseN ns (innerR ns n) c := by cases n <;> rfl
theorem labs_flat {ns : List Str} {d : PyData} (h : LabsN ns d) : noList d = true := by
  obtain ⟨zs, rfl, _⟩ := h
  exact noListAll_of fun d hd => by
    obtain ⟨z, _, rfl⟩ := List.mem_map.mp hd
    rfl
theorem act_flat {ns : List Str} {R : PyData → Prop} (fl : ∀ d, R d → noList d = true) {d : PyData} (h : ActN ns R d) : noList d = true := by
  rcases h with rfl | rfl | ⟨l, hl, rfl⟩ | ⟨p, f, hf, rfl⟩ | ⟨g, hg, rfl⟩
  · rfl
  · rfl
  · show (true && (noList l && true)) = true
    rw [labs_flat hl]
    rfl
  · show (true && (noList f && true)) = true
    rw [form_flat 2 p f hf]
    rfl
  · show (true && (noList g && true)) = true
    rw [fl g hg]
    rfl
theorem clause_flat {ns : List Str} {R : PyData → Prop} (fl : ∀ d, R d → noList d = true) {d : PyData} (h : ClauseN ns R d) : noList d = true := by
  obtain ⟨l, a, hl, ha, rfl⟩ := h
  show (noList l && (noList a && true)) = true
  rw [labs_flat hl, act_flat fl ha]
  rfl
theorem layer_flat {ns : List Str} : ∀ (n : Nat) (d : PyData), LayerN ns n d → noList d = true
  | 0, d, h => by
    obtain ⟨cs, rfl, _, hc⟩ := h
    exact noListAll_of fun c hcm => clause_flat (fun _ z => z.elim) (hc c hcm)
  | n + 1, d, h => by
    obtain ⟨cs, rfl, _, hc⟩ := h
    exact noListAll_of fun c hcm => clause_flat (layer_flat n) (hc c hcm)
theorem inner_flat {ns : List Str} : ∀ (n : Nat) (d : PyData), innerR ns n d → noList d = true
  | 0, _, h => h.elim
  | n + 1, d, h => layer_flat n d h
def spLabs (K : PySem.W.Frag) : Sp := fun vs H Q _ => ∃ (s a : Addr) (ns : List Str), vs = [.ref s, .ref a] ∧ Src H s ∧ H a = some (.lst (ns.map V.str)) ∧ 1 ≤ ns.length ∧ ns.length ≤ 8 ∧ ∀ H' v d, Keep s H H' → Src H' s → Dp K H' v d → LabsN ns d → Q v H'
section
variable {P : Program} {w : World} {K : PySem.W.Frag} {mg : Str → Option Value} {base : Heap}
theorem scLabs : FnScope ["source", "labels", "k"] ["source", "labels"] (defScope sLawSomeLabels) := ⟨rfl, rfl, rfl, by decide +kernel, rfl, by decide +kernel, by decide +kernel⟩
theorem ok_labs {f g : Addr} {fd gd : FuncData} (F : Fun K "_law_some_labels" "_law_some_labels" sLawSomeLabels f fd)
    (GD : FnOk P w K mg base CX0 1 g gd ["source", "many"] spDraw) (kD : PySem.W.keepIn K (.ref g) = true) (bD : Binds K gd ["source", "many"] []) (mD : mg "_law_draw" = some (.ref g)) (mr : mg "range" = none) (ml : mg "len" = none) (mt : mg "tuple" = none) :
    FnOk P w K mg base CX0 2 f fd ["source", "labels"] (spLabs K) := by
  refine F.ok scLabs (fun vs H Q E h => ?_) (fun cdv A outer s_ H vs Q E hr h => ?_)
  · obtain ⟨s, a, ns, rfl, _⟩ := h
    rfl
  · obtain ⟨s, a, ns, rfl, src, ha, l1, l8, k⟩ := h
    have hr1 : Room 1 _ := hr.mono (by omega)
    refine ⟨_, pss_one (ps_ret (pe_callTy call_tuple_of (by rfl) mt (by decide +kernel) (pa_cons (pe_lc (own := [("k", 2)]) (g := gName 2) (tt := tYes) (te := tOp (rIxL K) (tVar 1) (tCall spDraw [] E0 (tCons (tVar 0) (tCons (tCB (fun xs H Q => ∃ p ys, xs = [V.ref p] ∧ (SqL K H p ys ∨ SqT K H p ys) ∧ Q (V.int ys.length) H) (tCons (tVar 1) tNil)) tNil)))) rfl scLabs.nd (pi_range1 (by rfl) mr (pa_cons (pe_op op_add pe_int (pe_call GD hr1 (by rfl) mD kD bD .nil pass0 (pa_cons (pv 0) (pa_cons pe_int pa_nil)))) pa_nil)) (blkOk_by (N := ["source", "labels", "k"]) (sc := defScope sLawSomeLabels) (by decide +kernel)) (fun _ _ _ _ _ => pg_name (i := 2) scLabs.nd rfl (Or.inl rfl)) (fun _ _ _ _ _ => pts_nil) (fun _ _ _ _ _ => (pe_ix ix_list (pv 1) (pe_call GD hr1 (by rfl) mD kD bD .nil pass0 (pa_cons (pv 0) (pa_cons (pe_callB call_len_seq (by rfl) ml PySem.boot_len (pa_cons (pv 1) pa_nil)) pa_nil))) (fun _ _ => rfl)))) pa_nil))), ?_⟩
    have lsl : (ns.map V.str).length = ns.length := List.length_map _
    have as : a ≠ s := src.ne ha
    refine ⟨_, rfl, s, 2, rfl, src, (by decide), (by decide), fun d H1 d0 d1 sr1 k1 => ⟨_, _, rfl, rfl, _, rfl, (by omega), (by omega), fun D nD => ?_⟩⟩
    refine lc_data (K := K) (s := s) (G := H) (R := fun d => ∃ z, z ∈ ns ∧ d = .str z) (fun d ⟨z, _, e⟩ => by rw [e]; rfl) k1 sr1 nD (by omega) (fun _ => rfl) (fun i H2 Q' hi kp sr q => ?_) (fun H2 us ds kp sr hD ha2 dl each => ?_)
    · refine ⟨_, rfl, _, rfl, _, rfl, a, _, rfl, .inl (SqL.of (kp a _ as ha)), s, _, rfl, sr, (by rw [lsl]; omega), (by rw [lsl]; omega), fun d2 H4 e0 e1 sr4 k4 => ?_⟩
      rw [lsl] at e1
      obtain ⟨x, hx, hat⟩ := str_at e0 e1
      exact ⟨a, _, d2, _, rfl, rfl, SqL.of (k4 a _ as (kp a _ as ha)), hat, q H4 _ (.str x) k4 sr4 (.str x) ⟨x, hx, rfl⟩⟩
    · refine ⟨D, _, rfl, .inl ⟨SqL.of hD, fun t nt => ?_⟩⟩
      have s2 := same_upd (o := .tup us) nt
      have zs : ∃ zs : List Str, ds = zs.map PyData.str ∧ ∀ z ∈ zs, z ∈ ns := by
        clear ha2 dl
        induction ds with
        | nil => exact ⟨[], rfl, fun _ h => nomatch h⟩
        | cons d r ih =>
          obtain ⟨z, hz, rfl⟩ := each d (List.mem_cons_self ..)
          obtain ⟨zs, rfl, hzs⟩ := ih fun e he => each e (List.mem_cons_of_mem _ he)
          exact ⟨z :: zs, rfl, fun y hy => by
            rcases List.mem_cons.mp hy with q | q
            · rw [q]
              exact hz
            · exact hzs y q⟩
      obtain ⟨zs, rfl, hzs⟩ := zs
      rw [List.length_map] at dl
      exact k _ _ (.tuple (zs.map PyData.str)) (kp.trans (Keep.of s2)) (sr.same s2) (.tup (SqT.of upd_same) (dpAll_same s2 ha2)) ⟨zs, rfl, by omega, by omega, hzs⟩
end
end K1

namespace K1
open PySem PySem.Spec PyProof.Rows L2 Own
theorem q_nxs {t u : TS} {D : Ends} {r b c} {σ : L2.St} {H : Hp} (h : t { D with nx := u D } σ H) : Ends.nx ⟨tSeq t u D, r, b, c⟩ σ H := h
def spRL (K : PySem.W.Frag) (m : Nat) : Sp := fun vs H Q _ => ∃ (s a : Addr) (ns : List Str) (n : Nat), vs = [.ref s, .ref a, .int (n : Nat)] ∧ n < m ∧ n ≤ 2 ∧ Src H s ∧ H a = some (.lst (ns.map V.str)) ∧ 1 ≤ ns.length ∧ ns.length ≤ 8 ∧ (∀ x ∈ ns, NameOk x) ∧ ∀ H' v d, Keep s H H' → Src H' s → Dp K H' v d → LayerN ns n d → Q v H'
def spRLs (K : PySem.W.Frag) : Sp := fun vs H Q _ => ∃ (s a : Addr) (ns : List Str) (M : Nat), vs = [.ref s, .ref a, .int (M : Nat)] ∧ M ≤ 10 ∧ Src H s ∧ H a = some (.lst (ns.map V.str)) ∧ 1 ≤ ns.length ∧ ns.length ≤ 8 ∧ (∀ x ∈ ns, NameOk x) ∧ ∀ H' v d, Keep s H H' → Src H' s → Dp K H' v d → LayersN ns M d → Q v H'
section
variable {P : Program} {w : World} {K : PySem.W.Frag} {mg : Str → Option Value} {base : Heap}
theorem scRL : FnScope ["source", "labels", "depth", "found", "k", "choice", "action"] ["source", "labels", "depth"] (defScope sLawRandomLayer) := ⟨rfl, rfl, rfl, by decide +kernel, rfl, by decide +kernel, by decide +kernel⟩
theorem rl_none {f : Addr} {fd : FuncData} : FnOk P w K mg base CX0 5 f fd ["source", "labels", "depth"] (spRL K 0) := by
  have no : ∀ vs H Q E, ¬ spRL K 0 vs H Q E := fun vs H Q E ⟨_, _, _, _, _, h, _⟩ => Nat.not_lt_zero _ h
  exact ⟨fun vs H Q E h => absurd h (no vs H Q E), fun A out s H args us vs Q E _ _ _ _ h => absurd h (no vs H Q E)⟩
theorem rl_step {f fD fL fF : Addr} {fd dD dL dF : FuncData} {m : Nat} (F : Fun K "_law_random_layer" "_law_random_layer" sLawRandomLayer f fd) (IH : FnOk P w K mg base CX0 (m + 5) f fd ["source", "labels", "depth"] (spRL K m)) (bT : Binds K fd ["source", "labels", "depth"] []) (mT : mg "_law_random_layer" = some (.ref f))
    (GD : FnOk P w K mg base CX0 1 fD dD ["source", "many"] spDraw) (kD : PySem.W.keepIn K (.ref fD) = true) (bD : Binds K dD ["source", "many"] []) (mD : mg "_law_draw" = some (.ref fD))
    (GL : FnOk P w K mg base CX0 2 fL dL ["source", "labels"] (spLabs K)) (kL : PySem.W.keepIn K (.ref fL) = true) (bL : Binds K dL ["source", "labels"] []) (mL : mg "_law_some_labels" = some (.ref fL))
    (GF : FnOk P w K mg base CX0 4 fF dF ["source", "labels", "has_part", "depth"] (spRF K 3)) (kF : PySem.W.keepIn K (.ref fF) = true) (bF : Binds K dF ["source", "labels", "has_part", "depth"] []) (mF : mg "_law_random_form" = some (.ref fF))
    (mr : mg "range" = none) (mt : mg "tuple" = none) :
    FnOk P w K mg base CX0 (m + 6) f fd ["source", "labels", "depth"] (spRL K (m + 1)) := by
  refine F.ok scRL (fun vs H Q E h => ?_) (fun cdv A outer s_ H vs Q E hr h => ?_)
  · obtain ⟨s, a, ns, n, rfl, _⟩ := h
    rfl
  · obtain ⟨s, a, ns, n, rfl, hnm, n2, src, ha, l1, l8, nok, k⟩ := h
    have hr1 : Room 1 _ := hr.mono (by omega)
    have hr2 : Room 2 _ := hr.mono (by omega)
    have hr4 : Room 4 _ := hr.mono (by omega)
    refine ⟨_, pss_cons (ps_set (i := 3) scRL.nd rfl (Or.inl rfl) (pe_lst pa_nil))
      (pss_cons (ps_for PassesOwn.never rfl (pi_range1 (by rfl) mr (pa_cons (pe_call GD hr1 (by rfl) mD kD bD .nil pass0 (pa_cons (pv 0) (pa_cons pe_int pa_nil))) pa_nil)) (pg_name (i := 4) scRL.nd rfl (Or.inl rfl))
        (pss_cons (ps_par (i := 5) (j := 6) rfl scRL.nd rfl rfl (by decide) rfl rfl (pa_cons (pe_call GD hr1 (by rfl) mD kD bD .nil pass0 (pa_cons (pv 0) (pa_cons pe_int pa_nil))) (pa_cons pe_str pa_nil)) (by rfl))
        (pss_cons (ps_if (pt_cmpR op_lt (pv 5) pe_int (nomark _))
          (pss_one (ps_set (i := 6) scRL.nd rfl (Or.inl rfl) pe_str))
          (pss_one (ps_if (pt_cmpR op_eq (pv 5) pe_int (nomark _))
            (pss_one (ps_set (i := 6) scRL.nd rfl (Or.inl rfl) (pe_tup (pa_cons pe_str (pa_cons (pe_call GL hr2 (by rfl) mL kL bL .nil pass0 (pa_cons (pv 0) (pa_cons (pv 1) pa_nil))) pa_nil)))))
            (pss_one (ps_if (pt_cmpR op_lt (pv 5) pe_int (nomark _))
              (pss_one (ps_set (i := 6) scRL.nd rfl (Or.inl rfl) (pe_tup (pa_cons pe_str (pa_cons (pe_call GF hr4 (by rfl) mF kF bF .nil pass0 (pa_cons (pv 0) (pa_cons (pv 1) (pa_cons (pe_cmpR op_gt (pe_call GD hr1 (by rfl) mD kD bD .nil pass0 (pa_cons (pv 0) (pa_cons pe_int pa_nil))) pe_int (nomark _)) (pa_cons pe_int pa_nil))))) pa_nil)))))
              (pss_one (ps_if (PW.pt (pw_and (pt_cmpR op_eq (pv 5) pe_int (nomark _)) (pw_and1 (pt_cmpR op_gt (pv 2) pe_int (nomark _)))))
                (pss_one (ps_set (i := 6) scRL.nd rfl (Or.inl rfl) (pe_tup (pa_cons pe_str (pa_cons (pe_call IH hr (by rfl) mT F.kp bT .nil pass0 (pa_cons (pv 0) (pa_cons (pv 1) (pa_cons (pe_op op_sub (pv 2) pe_int) pa_nil)))) pa_nil)))))
                pss_nil)))))))
        (pss_one (ps_expr (pe_bm PySem.F.plainAttrs_list PySem.F.slot_list_append PySem.F.type_list_append mt_append (pv 3) (pa_cons (pe_tup (pa_cons (pe_call GL hr2 (by rfl) mL kL bL .nil pass0 (pa_cons (pv 0) (pa_cons (pv 1) pa_nil))) (pa_cons (pv 6) pa_nil))) pa_nil)))))))
      (pss_one (ps_ret (pe_callTy call_tuple_of (by rfl) mt (by decide +kernel) (pa_cons (pv 3) pa_nil))))), ?_⟩
    have as : a ≠ s := src.ne ha
    refine ⟨Nat.zero_le _, fun c nc => ?_⟩
    have s1 := same_upd (o := .lst []) nc
    have cs_ : c ≠ s := fun e => by
      obtain ⟨x, y, z, _⟩ := src
      rw [e, z] at nc
      cases nc
    have hc1 := upd_same (H := H) (a := c) (o := .lst [])
    refine ⟨_, rfl, s, 5, rfl, src.same s1, (by decide), (by decide), fun d2 H2 e0 e1 sr2 k2 => ?_⟩
    obtain ⟨u, rfl⟩ : ∃ u : Nat, d2 = (u : Int) := ⟨d2.toNat, by omega⟩
    refine ⟨_, rfl, (by omega), (by omega), ?_⟩
    have k12 : Keep s H H2 := (Keep.of s1).trans k2
    refine for_range (lo := 0) (fun i σ H' => ∃ v4 v5 v6 vs cs, σ = [some (.ref s), some (.ref a), some (.int (n : Int)), some (.ref c), v4, v5, v6] ∧ Keep s H H' ∧ Src H' s ∧ H' c = some (.lst vs) ∧ DpAll K H' vs cs ∧ cs.length = i ∧ ∀ x ∈ cs, ClauseN ns (innerR ns n) x)
      ⟨none, none, none, [], [], rfl, k12, sr2, k2 c _ cs_ hc1, .nil, rfl, fun _ h => nomatch h⟩ ?_ ?_
    · rintro i σ H' hi ⟨v4, v5, v6, vs, cs, rfl, kp, sr, hc, hcs, cl, each⟩
      have lv := dpAll_len hcs
      have flat := flat_all (fun d h => clause_flat (inner_flat n) h) each
      refine ⟨_, rfl, s, 8, rfl, sr, (by decide), (by decide), fun ch H3 c0 c1 sr3 k3 => ⟨_, _, rfl, ?_⟩⟩
      refine q_nxs ?_
      refine q_join (R := fun σ' H'' => ∃ av ad, σ' = [some (.ref s), some (.ref a), some (.int (n : Int)), some (.ref c), some (.int (0 + (i : Int))), some (.int ch), some av] ∧ Keep s H' H'' ∧ Src H'' s ∧ Dp K H'' av ad ∧ ActN ns (innerR ns n) ad) ?_ ?_
      · rintro σ' H4 ⟨av, ad, rfl, k4, sr4, hav, act⟩
        have kp4 := kp.trans k4
        have hc4 := k4 c _ cs_ hc
        refine ⟨_, rfl, .inl ⟨rfl, _, SqL.of hc4⟩, _, rfl, _, rfl, s, a, ns, rfl, sr4, kp4 a _ as ha, l1, l8, fun H5 lv_ ld k5 sr5 hld labs => ?_⟩
        refine ⟨_, rfl, (by show 2 ≤ sizeLine; decide), fun q nq => ?_⟩
        have s6 := same_upd (o := .tup [lv_, av]) nq
        have hq := upd_same (H := H5) (a := q) (o := .tup [lv_, av])
        generalize upd H5 q (.tup [lv_, av]) = H6 at s6 hq ⊢
        have k46 := k5.trans (Keep.of s6)
        have hc6 := k46 c _ cs_ hc4
        refine ⟨c, _, _, rfl, rfl, hc6, small1000 (by omega), ?_⟩
        have stc := stay_upd (o := .lst (vs ++ [.ref q])) hc6
        have k6 := k4.trans k46
        have nca : ∀ b o, H b = some o → b ≠ c := fun b o e z => by
          rw [z, nc] at e
          cases e
        have sr6 := sr5.same s6
        have st6 : Stay H5 H6 := Stay.of s6
        have fa := act_flat (inner_flat n) act
        have hcl : Dp K (upd H6 c (.lst (vs ++ [.ref q]))) (.ref q) (.tuple [ld, ad]) := .tup (sqT_stay stc (SqT.of hq)) (.cons (dp_stay (st6.trans stc) hld (labs_flat labs)) (.cons (dp_stay ((k5.stay sr4).trans (st6.trans stc)) hav fa) .nil))
        refine ⟨_, _, _, vs ++ [.ref q], cs ++ [.tuple [ld, ad]], rfl, fun b o nb e => ?_, sr6.put cs_, upd_same, dpAll_app (dpAll_stay ((k6.stay sr).trans stc) hcs flat) (.cons hcl .nil), ?_, fun x hx => ?_⟩
        · rw [upd_ne (nca b o e)]
          exact k6 b o nb (kp b o nb e)
        · rw [List.length_append, cl]
          rfl
        · rcases List.mem_append.mp hx with q | q
          · exact each x q
          · rw [List.mem_singleton.mp q]
            exact ⟨ld, ad, labs, act, rfl⟩
      · intro N hN
        have mk2 : ∀ {H4 : Hp} {av : V} {z : Str} {d : PyData}, Keep s H' H4 → Src H4 s → Dp K H4 av d → ActN ns (innerR ns n) (.tuple [.str z, d]) → (2 ≤ sizeLine ∧ ∀ p, H4 p = none → N [some (.ref s), some (.ref a), some (.int (n : Int)), some (.ref c), some (.int (0 + (i : Int))), some (.int ch), some (.ref p)] (upd H4 p (.tup [.str z, av]))) := fun {H4 av z d} k4 sr4 hd act => ⟨by decide, fun p np => by
          have s5 := same_upd (o := .tup [.str z, av]) np
          exact hN _ _ ⟨_, .tuple [.str z, d], rfl, k4.trans (Keep.of s5), sr4.same s5, .tup (SqT.of upd_same) (.cons (.str z) (.cons (dp_same s5 hd) .nil)), act⟩⟩
        have ha3 := (kp.trans k3) a _ as ha
        refine ⟨_, rfl, _, _, rfl, rfl, _, rfl, ite2 (fun _ => ?_) (fun _ => ?_)⟩
        · exact hN _ _ ⟨_, .str "drop", rfl, k3, sr3, .str _, .inl rfl⟩
        refine ⟨_, rfl, rfl, _, rfl, ite2 (fun _ => ?_) (fun _ => ?_)⟩
        · refine ⟨_, rfl, _, rfl, s, a, ns, rfl, sr3, ha3, l1, l8, fun H5 lv_ ld k5 sr5 hld labs => ?_⟩
          exact mk2 (k3.trans k5) sr5 hld (.inr (.inr (.inl ⟨ld, labs, rfl⟩)))
        refine ⟨_, rfl, _, _, rfl, rfl, _, rfl, ite2 (fun _ => ?_) (fun _ => ?_)⟩
        · refine ⟨_, rfl, _, rfl, _, rfl, s, 3, rfl, sr3, (by decide), (by decide), fun h H5 h0 h1 sr5 k5 => ⟨_, _, rfl, rfl, s, a, ns, _, 2, rfl, (by decide), (by decide), sr5, k5 a _ as ha3, l1, l8, nok, fun H6 fv fd_ k6 sr6 hfd fm => ?_⟩⟩
          exact mk2 (k3.trans (k5.trans k6)) sr6 hfd (.inr (.inr (.inr (.inl ⟨_, fd_, fm, rfl⟩))))
        have back : N [some (.ref s), some (.ref a), some (.int (n : Int)), some (.ref c), some (.int (0 + (i : Int))), some (.int ch), some (.str "back")] H3 := hN _ _ ⟨_, .str "back", rfl, k3, sr3, .str _, .inr (.inl rfl)⟩
        refine ⟨_, rfl, rfl, _, rfl, ite2 (fun _ => ?_) (fun _ => iteF back)⟩
        refine ⟨_, rfl, _, _, rfl, rfl, _, rfl, ite2 (fun e => ?_) (fun _ => back)⟩
        have npos : 0 < n := by
          have := of_decide_eq_true e
          omega
        obtain ⟨n', rfl⟩ : ∃ n', n = n' + 1 := ⟨n - 1, by omega⟩
        refine ⟨_, rfl, _, rfl, _, rfl, _, _, rfl, rfl, s, a, ns, n', ?_, by omega, by omega, sr3, ha3, l1, l8, nok, fun H5 gv gd k5 sr5 hgd lay => ?_⟩
        · show [V.ref s, V.ref a, V.int (((n' + 1 : Nat) : Int) - 1)] = _
          rw [show (((n' + 1 : Nat) : Int) - 1) = (n' : Int) from by omega]
        · exact mk2 (k3.trans k5) sr5 hgd (.inr (.inr (.inr (.inr ⟨gd, lay, rfl⟩))))
    · rintro σ H' ⟨v4, v5, v6, vs, cs, rfl, kp, sr, hc, hcs, cl, each⟩
      refine ⟨_, rfl, c, _, rfl, .inl ⟨SqL.of hc, fun t nt => ?_⟩⟩
      have s4 := same_upd (o := .tup vs) nt
      exact k _ _ (.tuple cs) (kp.trans (Keep.of s4)) (sr.same s4) (.tup (SqT.of upd_same) (dpAll_same s4 hcs)) (by rw [layer_of]; exact ⟨cs, rfl, by omega, each⟩)
theorem scRLs : FnScope ["source", "labels", "most", "k"] ["source", "labels", "most"] (defScope sLawRandomLayers) := ⟨rfl, rfl, rfl, by decide +kernel, rfl, by decide +kernel, by decide +kernel⟩
theorem ok_layers {f fD fR : Addr} {fd dD dR : FuncData} (F : Fun K "_law_random_layers" "_law_random_layers" sLawRandomLayers f fd)
    (GD : FnOk P w K mg base CX0 1 fD dD ["source", "many"] spDraw) (kD : PySem.W.keepIn K (.ref fD) = true) (bD : Binds K dD ["source", "many"] []) (mD : mg "_law_draw" = some (.ref fD))
    (GR : FnOk P w K mg base CX0 8 fR dR ["source", "labels", "depth"] (spRL K 3)) (kR : PySem.W.keepIn K (.ref fR) = true) (bR : Binds K dR ["source", "labels", "depth"] []) (mR : mg "_law_random_layer" = some (.ref fR))
    (mr : mg "range" = none) (mt : mg "tuple" = none) : FnOk P w K mg base CX0 9 f fd ["source", "labels", "most"] (spRLs K) := by
  refine F.ok scRLs (fun vs H Q E h => ?_) (fun cdv A outer s_ H vs Q E hr h => ?_)
  · obtain ⟨s, a, ns, M, rfl, _⟩ := h
    rfl
  · obtain ⟨s, a, ns, M, rfl, M10, src, ha, l1, l8, nok, k⟩ := h
    have hr1 : Room 1 _ := hr.mono (by omega)
    refine ⟨_, pss_one (ps_ret (pe_callTy call_tuple_of (by rfl) mt (by decide +kernel) (pa_cons (pe_lc (own := [("k", 3)]) (g := gName 3) (tt := tYes) (te := tCall (spRL K 3) [] E0 (tCons (tVar 0) (tCons (tVar 1) (tCons (tC (.int 2)) tNil)))) rfl scRLs.nd (pi_range1 (by rfl) mr (pa_cons (pe_call GD hr1 (by rfl) mD kD bD .nil pass0 (pa_cons (pv 0) (pa_cons (pe_op op_add (pv 2) pe_int) pa_nil))) pa_nil)) (blkOk_by (N := ["source", "labels", "most", "k"]) (sc := defScope sLawRandomLayers) (by decide +kernel)) (fun _ _ _ _ _ => pg_name (i := 3) scRLs.nd rfl (Or.inl rfl)) (fun _ _ _ _ _ => pts_nil) (fun _ _ _ _ _ => (pe_call GR hr (by rfl) mR kR bR .nil pass0 (pa_cons (pv 0) (pa_cons (pv 1) (pa_cons pe_int pa_nil)))))) pa_nil))), ?_⟩
    have as : a ≠ s := src.ne ha
    refine ⟨_, rfl, _, rfl, _, _, rfl, rfl, s, _, rfl, src, (by omega), (by omega), fun d H1 d0 d1 sr1 k1 => ⟨_, rfl, (by omega), (by omega), fun D nD => ?_⟩⟩
    refine lc_data (K := K) (s := s) (G := H) (R := LayerN ns 2) (layer_flat 2) k1 sr1 nD (by omega) (fun _ => rfl) (fun i H2 Q' hi kp sr q => ?_) (fun H2 us ds kp sr hD ha2 dl each => ?_)
    · exact ⟨_, rfl, _, rfl, s, a, ns, 2, rfl, (by decide), (by decide), sr, kp a _ as ha, l1, l8, nok, fun H5 gv gd k5 sr5 hgd lay => q H5 gv gd k5 sr5 hgd lay⟩
    · refine ⟨D, _, rfl, .inl ⟨SqL.of hD, fun t nt => ?_⟩⟩
      have s2 := same_upd (o := .tup us) nt
      exact k _ _ (.tuple ds) (kp.trans (Keep.of s2)) (sr.same s2) (.tup (SqT.of upd_same) (dpAll_same s2 ha2)) ⟨ds, rfl, by omega, each⟩
end
end K1

namespace K1
open PySem PySem.Spec PyProof.Rows L2 Own
/-! ### which data is shown as a word in quotes -/
def bodyR (q : Nat) : List Nat → List Nat
  | [] => []
  | c :: r => Builtin.Str.reprChar q c ++ bodyR q r
theorem body_fold (q : Nat) : ∀ (l : List Nat) (acc : Array Nat), (l.foldl (fun out c => out ++ (Builtin.Str.reprChar q c).toArray) acc).toList = acc.toList ++ bodyR q l
  | [], acc => (List.append_nil _).symm
  | c :: r, acc => by
    rw [List.foldl_cons, body_fold q r, Array.toList_append, List.append_assoc]
    rfl
theorem repr_list (z : Str) : (PySem.reprText z).cps.toList = PySem.reprQuote z :: (bodyR (PySem.reprQuote z) z.cps.toList ++ [PySem.reprQuote z]) := by
  unfold PySem.reprText
  show ((z.cps.foldl (fun out c => out ++ (Builtin.Str.reprChar (PySem.reprQuote z) c).toArray) #[PySem.reprQuote z]).push (PySem.reprQuote z)).toList = _
  rw [Array.toList_push, ← Array.foldl_toList, body_fold]
  rfl
theorem char_one (q c : Nat) : (∃ r, Builtin.Str.reprChar q c = 92 :: r) ∨ Builtin.Str.reprChar q c = [c] := by
  unfold Builtin.Str.reprChar
  dsimp only
  repeat' split
  all_goals first | exact .inl ⟨_, rfl⟩ | exact .inr rfl
theorem body_plain {q : Nat} : ∀ {zs ws : List Nat}, (∀ c ∈ ws, 97 ≤ c) → bodyR q zs = ws → zs = ws
  | [], ws, _, h => h
  | c :: r, ws, hw, h => by
    have h' : Builtin.Str.reprChar q c ++ bodyR q r = ws := h
    rcases char_one q c with ⟨t, e⟩ | e
    · rw [e] at h'
      have := hw 92 (by rw [← h']; exact List.mem_cons_self ..)
      omega
    · rw [e] at h'
      have h2 : c :: bodyR q r = ws := h'
      cases ws with
      | nil => cases h2
      | cons x xs =>
        have e1 := (List.cons.inj h2).1
        have e2 := (List.cons.inj h2).2
        rw [e1, body_plain (fun y hy => hw y (List.mem_cons_of_mem _ hy)) e2]
structure Quoted (z t : Str) : Prop where
  ls : t.cps.toList = 39 :: (z.cps.toList ++ [39])
  low : ∀ c ∈ z.cps.toList, 97 ≤ c
  sh : (PyData.str z).shown = t
theorem Quoted.has {z t : Str} (h : Quoted z t) : 39 ∈ t.cps.toList := by
  rw [h.ls]
  exact List.mem_cons_self ..
theorem text_head : ∀ (ts : List Str) (k : Nat) (acc : Str) (c : Nat) (r : List Nat), acc.cps.toList = c :: r → ∃ r', (textFrom k acc ts).cps.toList = c :: r'
  | [], k, acc, c, r, h => ⟨r, h⟩
  | t :: ts, k, acc, c, r, h => by
    refine text_head ts (k + 1) (acc ++ (if k > 0 then ", " else "" : String) ++ t) c (r ++ ((if k > 0 then ", " else "" : String) : Str).cps.toList ++ t.cps.toList) ?_
    rw [cps_toList_append, cps_toList_append, h]
    rfl
theorem list_head (ts : List Str) : ∃ r, (listText ts).cps.toList = 91 :: r := by
  obtain ⟨r, e⟩ := text_head ts 0 "[" 91 [] (by decide)
  refine ⟨r ++ ("]" : Str).cps.toList, ?_⟩
  unfold listText
  rw [cps_toList_append, e]
  rfl
theorem tuple_head (ts : List Str) : ∃ r, (tupleText ts).cps.toList = 40 :: r := by
  unfold tupleText
  rw [cps_toList_append, cps_toList_append]
  exact ⟨_, rfl⟩
theorem shown_word {z t : Str} (h : Quoted z t) : ∀ d : PyData, okD d = true → decide (d.shown = t) = PyData.eqv d (.str z)
  | .none, _ => by
    have n : ¬ (PyData.none.shown = t) := fun e => shown_none_free (k := 39) (.inl (by decide)) (by rw [e]; exact h.has)
    rw [decide_eq_false n]
    rfl
  | .bool b, _ => by
    have n : ¬ ((PyData.bool b).shown = t) := fun e => shown_bool_free (k := 39) (.inl (by decide)) b (by rw [e]; exact h.has)
    rw [decide_eq_false n]
    rfl
  | .int i, _ => by
    have n : ¬ ((PyData.int i).shown = t) := fun e => shown_int_free (k := 39) (.inl (by decide)) i (by rw [e]; exact h.has)
    rw [decide_eq_false n]
    rfl
  | .list ds, _ => by
    have n : ¬ ((PyData.list ds).shown = t) := fun e => by
      obtain ⟨r, q⟩ := list_head (PyData.shownAll ds)
      have e' : listText (PyData.shownAll ds) = t := e
      rw [e', h.ls] at q
      have := (List.cons.inj q).1
      omega
    rw [decide_eq_false n]
    rfl
  | .tuple ds, _ => by
    have n : ¬ ((PyData.tuple ds).shown = t) := fun e => by
      obtain ⟨r, q⟩ := tuple_head (PyData.shownAll ds)
      have e' : tupleText (PyData.shownAll ds) = t := e
      rw [e', h.ls] at q
      have := (List.cons.inj q).1
      omega
    rw [decide_eq_false n]
    rfl
  | .dict _, o => nomatch o
  | .str y, _ => by
    show decide ((PyData.str y).shown = t) = (y == z)
    rw [Bool.eq_iff_iff, decide_eq_true_eq, beq_iff_eq]
    constructor
    · intro e
      have e' : PySem.reprText y = t := e
      have q := repr_list y
      rw [e', h.ls] at q
      have q0 := (List.cons.inj q).1
      have q1 := (List.cons.inj q).2
      rw [← q0] at q1
      have q2 := List.append_cancel_right q1
      have q3 := body_plain h.low q2.symm
      exact Own.str_ext q3
    · intro e
      rw [e]
      exact h.sh
theorem quoted_keep : Quoted "keep" "'keep'" := ⟨by decide +kernel, by decide +kernel, by decide +kernel⟩
theorem quoted_raise : Quoted "raise" "'raise'" := ⟨by decide +kernel, by decide +kernel, by decide +kernel⟩
theorem quoted_pass : Quoted "pass" "'pass'" := ⟨by decide +kernel, by decide +kernel, by decide +kernel⟩
theorem quoted_drop : Quoted "drop" "'drop'" := ⟨by decide +kernel, by decide +kernel, by decide +kernel⟩
theorem quoted_back : Quoted "back" "'back'" := ⟨by decide +kernel, by decide +kernel, by decide +kernel⟩
end K1

namespace K1
open PySem PySem.Spec PyProof.Rows L2 Own
/-! ### the law's own is_layer -/
def spAL (K : PySem.W.Frag) : Sp := fun vs H Q _ => ∃ L ns v d, vs = [.ref L, v] ∧ H L = some (.lst (ns.map V.str)) ∧ Dp K H v d ∧ Fit d ∧ ∀ H', Same H H' → Q (.bl (areKD ns d)) H'
def spIL (K : PySem.W.Frag) (m : Nat) : Sp := fun vs H Q _ => ∃ L ns v d, vs = [.ref L, v] ∧ H L = some (.lst (ns.map V.str)) ∧ Dp K H v d ∧ Out 2000000 20 d ∧ d.depth < m ∧ ∀ H', Same H H' → Q (.bl (guardD ns d)) H'
theorem Out.kid {m k : Nat} {ds : List PyData} (o : Out m k (.tuple ds)) {d : PyData} (h : d ∈ ds) : Out m k d ∧ d.depth < (PyData.tuple ds).depth := by
  have q := dep_mem h
  have e : (PyData.tuple ds).depth = PyData.depthAll ds + 1 := rfl
  refine ⟨⟨okAll_mem (Bool.and_eq_true_iff.mp o.ok).2 d h, showAll_mem o.sh d h, ?_, ?_⟩, by omega⟩
  · have a := mem_wt h
    have b : wtAll ds + 3 ≤ m := o.wt
    omega
  · have := o.dp
    omega
theorem Out.fst {m k : Nat} {d : PyData} (o : Out m k d) (h : isPairD d = true) : Out m k (fstD d) ∧ (fstD d).depth < d.depth := by
  obtain ⟨a, b, rfl⟩ := pair_of h
  exact o.kid (List.mem_cons_self ..)
theorem Out.snd {m k : Nat} {d : PyData} (o : Out m k d) (h : isPairD d = true) : Out m k (sndD d) ∧ (sndD d).depth < d.depth := by
  obtain ⟨a, b, rfl⟩ := pair_of h
  exact o.kid (List.mem_cons_of_mem _ (List.mem_cons_self ..))
theorem in_words {t : Str} : ∀ zs : List Str, inV (.str t) (zs.map V.str) = zs.any fun z => decide (t = z)
  | [] => rfl
  | z :: r => by
    have ih := in_words (t := t) r
    show ((z == t) || inV (.str t) (r.map V.str)) = (decide (t = z) || r.any fun z => decide (t = z))
    rw [ih]
    congr 1
    rw [Bool.eq_iff_iff, beq_iff_eq, decide_eq_true_eq]
    exact eq_comm
theorem form_in (o : Option Nat) : inV (optV o) [.int 0, .int 1] = (match o with | some n => decide (n ≤ 1) | none => false) := by
  cases o with
  | none => rfl
  | some n =>
    show (((0 : Int) == (n : Int)) || (((1 : Int) == (n : Int)) || false)) = decide (n ≤ 1)
    rcases n with _ | _ | n
    · rfl
    · rfl
    · have a : ((0 : Int) == ((n + 1 + 1 : Nat) : Int)) = false := beq_eq_false_iff_ne.mpr (by omega)
      have b : ((1 : Int) == ((n + 1 + 1 : Nat) : Int)) = false := beq_eq_false_iff_ne.mpr (by omega)
      rw [a, b]
      exact (decide_eq_false (by omega)).symm
theorem eqv_comm (z : Str) (d : PyData) : PyData.eqv (.str z) d = PyData.eqv d (.str z) := by
  cases d with
  | str y =>
    show (z == y) = (y == z)
    rw [Bool.eq_iff_iff, beq_iff_eq, beq_iff_eq]
    exact eq_comm
  | _ => rfl
theorem eqv_str {d : PyData} {z : Str} (h : PyData.eqv d (.str z) = true) : d = .str z := by
  cases d with
  | str y =>
    have q : (y == z) = true := h
    rw [beq_iff_eq.mp q]
  | _ => cases h
section
variable {P : Program} {w : World} {K : PySem.W.Frag} {mg : Str → Option Value} {base : Heap}
theorem scAL : FnScope ["labels", "value", "one"] ["labels", "value"] (defScope sLawAreLabels) := ⟨rfl, rfl, rfl, by decide +kernel, rfl, by decide +kernel, by decide +kernel⟩
theorem ok_areL {f : Addr} {fd : FuncData} (F : Fun K "_law_are_labels" "_law_are_labels" sLawAreLabels f fd) (mi : mg "isinstance" = none) (mt : mg "tuple" = none) (ms : mg "str" = none) (ma : mg "all" = none) : FnOk P w K mg base CX0 1 f fd ["labels", "value"] (spAL K) := by
  refine F.ok scAL (fun vs H Q E h => ?_) (fun cdv A outer s H vs Q E hr h => ?_)
  · obtain ⟨L, ns, v, d, rfl, _⟩ := h
    rfl
  · obtain ⟨L, ns, v, d, rfl, hL, hd, fit, k⟩ := h
    refine ⟨_, pss_cons (ps_if (PW.pt (pw_or (pt_not (pt_val (pe_callB call_isi (by rfl) mi (by decide +kernel) (pa_cons (pv 1) (pa_cons (pe_bltn (v := .ty "tuple") (u := .type "tuple") (by rfl) mt (by decide +kernel) rfl) pa_nil))))) (pw_or1 (pt_cmpR (op_eqD hr.units) (pv 1) (pe_tup pa_nil) (nomark _)))))
        (pss_one (ps_ret pe_bl))
        pss_nil)
      (pss_one (ps_ret (pe_callB (cr_all rfl) (by rfl) ma (by decide +kernel) (pa_cons (pe_lc (own := [("one", 2)]) (g := gName 2) (tt := tYes) (te := tAndV (tCB (rIsi K) (tCons (tVar 2) (tCons (tC (.ty "str")) tNil))) (tOp (rIn K false) (tVar 2) (tVar 0))) rfl scAL.nd (pi_tup (pv 1)) (blkOk_by (N := ["labels", "value", "one"]) (sc := defScope sLawAreLabels) (by decide +kernel)) (fun _ _ _ _ _ => pg_name (i := 2) scAL.nd rfl (Or.inl rfl)) (fun _ _ _ _ _ => pts_nil) (fun _ _ _ _ _ => (pe_and (pe_callB call_isi (by rfl) mi (by decide +kernel) (pa_cons (pv 2) (pa_cons (pe_bltn (v := .ty "str") (u := .type "str") (by rfl) ms (by decide +kernel) rfl) pa_nil))) (pe_one (pe_cmpR op_in_seq (pv 2) (pv 0) (by rfl)))))) pa_nil)))), ?_⟩
    have ty := dp_ty hd
    have k0 := k H (Same.refl H)
    cases d with
    | tuple ds =>
      have hd0 := hd
      cases hd with
      | tup hs ha =>
        rename_i a xs
        have lx := dpAll_len ha
        have few := fit.few
        refine ⟨_, rfl, _, .ty "tuple", _, _, true, rfl, .ty "tuple", ty, kit_ty (kt_tuple _), true, rfl, iteF ?_⟩
        refine ⟨_, rfl, (by show 0 ≤ sizeLine; decide), fun p np => ?_⟩
        have s1 := same_upd (o := .tup []) np
        refine ⟨.tuple ds, .tuple [], dp_same s1 hd0, .tup (SqT.of upd_same) .nil, fit.shaped, by decide, _, rfl, ?_⟩
        cases ds with
        | nil => exact iteT (k _ s1)
        | cons c r =>
          refine iteF ⟨_, rfl, a, rfl, ⟨_, Same.tup s1 hs⟩, fun D nD => ?_⟩
          refine lc_tup (K := K) (a := a) (xs := xs) (fun j H' => Same (upd H p (.tup [])) H' ∧ H' D = some (.lst ((((c :: r).take j).map (inD ns)).map V.bl))) ⟨same_upd nD, upd_same⟩ (fun j H' hj q => Same.tup (s1.trans q.1) hs) ?_ ?_
          · rintro j u H' hu ⟨sm, hD⟩
            obtain ⟨e, he, hde⟩ := dpAll_at (dpAll_same (s1.trans sm) ha) hu
            have me : e ∈ c :: r := List.mem_of_getElem? he
            have hj : j < (c :: r).length := (List.getElem?_eq_some_iff.mp he).1
            have fin : ∃ acc, H' D = some (HO.lst acc) ∧ acc.length < sizeLine ∧ Same (upd H p (.tup [])) (upd H' D (.lst (acc ++ [V.bl (inD ns e)]))) ∧ upd H' D (.lst (acc ++ [V.bl (inD ns e)])) D = some (.lst ((((c :: r).take (j + 1)).map (inD ns)).map V.bl)) := by
              refine ⟨_, hD, ?_, same_past nD sm, ?_⟩
              · rw [List.length_map, List.length_map, List.length_take]
                exact Nat.lt_of_le_of_lt (show _ ≤ 1000 by omega) (by decide)
              · rw [upd_same, List.take_add_one, he, List.map_append, List.map_append]
                rfl
            refine ⟨rfl, _, rfl, _, .ty "str", _, _, isStrD e, rfl, .ty "str", dp_ty hde, kit_ty (kt_str e), _, rfl, ?_⟩
            cases e with
            | str z =>
              cases hde
              refine iteT ⟨_, rfl, _, rfl, L, _, rfl, .inl (SqL.of ((s1.trans sm) _ _ hL)), rfl, flat_strs _, ?_⟩
              rw [show (if false = true then !inV (V.str z) (ns.map V.str) else inV (V.str z) (ns.map V.str)) = inD ns (.str z) from by
                  rw [if_neg Bool.false_ne_true, inV_str]
                  rfl]
              exact fin
            | _ => exact iteF fin
          · rintro H' ⟨sm, hD⟩
            rw [lx, List.take_of_length_le (Nat.le_refl _)] at hD
            refine ⟨D, _, rfl, SqL.of hD, ?_⟩
            have e : (((c :: r).map (inD ns)).all id) = areKD ns (.tuple (c :: r)) := by
              rw [List.all_map]
              rfl
            rw [e]
            exact k _ (s1.trans sm)
    | _ => exact ⟨_, rfl, _, .ty "tuple", _, _, false, rfl, .ty "tuple", ty, kit_ty (kt_tuple _), false, rfl, iteT (iteT k0)⟩
theorem scIL : FnScope ["labels", "value", "one", "action"] ["labels", "value"] (defScope sLawIsLayer) := ⟨rfl, rfl, rfl, by decide +kernel, rfl, by decide +kernel, by decide +kernel⟩
theorem il_none {f : Addr} {fd : FuncData} : FnG P w K mg base 22 f fd ["labels", "value"] (spIL K 0) := by
  have no : ∀ vs H Q E, ¬ spIL K 0 vs H Q E := fun vs H Q E ⟨_, _, _, _, _, _, _, _, h, _⟩ => Nat.not_lt_zero _ h
  exact fnG_ok ⟨fun vs H Q E h => absurd h (no vs H Q E), fun A out s H args us vs Q E _ _ _ _ h => absurd h (no vs H Q E)⟩
theorem il_step {f fA fS : Addr} {fd dA dS : FuncData} {m : Nat} (F : Fun K "_law_is_layer" "_law_is_layer" sLawIsLayer f fd) (IH : FnG P w K mg base (m + 22) f fd ["labels", "value"] (spIL K m)) (bT : Binds K fd ["labels", "value"] []) (mT : mg "_law_is_layer" = some (.ref f))
    (GA : FnOk P w K mg base CX0 1 fA dA ["labels", "value"] (spAL K)) (kA : PySem.W.keepIn K (.ref fA) = true) (bA : Binds K dA ["labels", "value"] []) (mA : mg "_law_are_labels" = some (.ref fA))
    (GS : FnOk P w K mg base CX0 22 fS dS ["labels", "value"] (spLT K 21)) (kS : PySem.W.keepIn K (.ref fS) = true) (bS : Binds K dS ["labels", "value"] []) (mS : mg "_law_stars" = some (.ref fS))
    (ml : mg "len" = none) (mi : mg "isinstance" = none) (mt : mg "tuple" = none) (mrp : mg "repr" = none) : FnG P w K mg base (m + 23) f fd ["labels", "value"] (spIL K (m + 1)) := by
  refine okG F scIL (fun vs H Q E h => ?_) (fun cdv A outer s H vs Q E hc hr h => ?_)
  · obtain ⟨L, ns, v, d, rfl, _⟩ := h
    rfl
  · obtain ⟨L, ns, v, d, rfl, hL, hd, out, dep, k⟩ := h
    have hr1 : Room 1 _ := hr.mono (by omega)
    have hr22 : Room 22 _ := hr.mono (by omega)
    refine ⟨_, pss_cons (ps_if (pt_not (pt_val (pe_callB call_isi (by rfl) mi (by decide +kernel) (pa_cons (pv 1) (pa_cons (pe_bltn (v := .ty "tuple") (u := .type "tuple") (by rfl) mt (by decide +kernel) rfl) pa_nil)))))
        (pss_one (ps_ret pe_bl))
        pss_nil)
      (pss_cons (ps_for PassesOwn.never rfl (pi_tup (pv 1)) (pg_name (i := 2) scIL.nd rfl (Or.inl rfl))
        (pss_cons (ps_if (PW.pt (pw_or (pt_not (pt_val (pe_callB call_isi (by rfl) mi (by decide +kernel) (pa_cons (pv 2) (pa_cons (pe_bltn (v := .ty "tuple") (u := .type "tuple") (by rfl) mt (by decide +kernel) rfl) pa_nil))))) (pw_or (pt_cmpR op_ne (pe_callB call_len_seq (by rfl) ml PySem.boot_len (pa_cons (pv 2) pa_nil)) pe_int (nomark _)) (pw_or1 (pt_not (pt_val (pe_call GA hr1 (by rfl) mA kA bA .nil pass0 (pa_cons (pv 0) (pa_cons (pe_ix ix_tup (pv 2) pe_int (fun _ _ => rfl)) pa_nil)))))))))
          (pss_one (ps_ret pe_bl))
          pss_nil)
        (pss_cons (ps_set (i := 3) scIL.nd rfl (Or.inl rfl) (pe_ix ix_tup (pv 2) pe_int (fun _ _ => rfl)))
        (pss_one (ps_if (pt_val (pe_callB call_isi (by rfl) mi (by decide +kernel) (pa_cons (pv 3) (pa_cons (pe_bltn (v := .ty "tuple") (u := .type "tuple") (by rfl) mt (by decide +kernel) rfl) pa_nil))))
          (pss_cons (ps_if (PW.pt (pw_or (pt_cmpR op_ne (pe_callB call_len_seq (by rfl) ml PySem.boot_len (pa_cons (pv 3) pa_nil)) pe_int (nomark _)) (pw_or1 (pt_cmpR op_notIn_seq (pe_callB (call_reprD hc hr1) (by rfl) mrp (by decide +kernel) (pa_cons (pe_ix ix_tup (pv 3) pe_int (fun _ _ => rfl)) pa_nil)) (pe_tup (pa_cons pe_str (pa_cons pe_str (pa_cons pe_str pa_nil)))) (by rfl)))))
            (pss_one (ps_ret pe_bl))
            pss_nil)
          (pss_cons (ps_if (PW.pt (pw_and (pt_cmpR (op_eqD hr.units) (pe_ix ix_tup (pv 3) pe_int (fun _ _ => rfl)) pe_str (nomark _)) (pw_and1 (pt_not (pt_val (pe_call GA hr1 (by rfl) mA kA bA .nil pass0 (pa_cons (pv 0) (pa_cons (pe_ix ix_tup (pv 3) pe_int (fun _ _ => rfl)) pa_nil))))))))
            (pss_one (ps_ret pe_bl))
            pss_nil)
          (pss_cons (ps_if (PW.pt (pw_and (pt_cmpR (op_eqD hr.units) (pe_ix ix_tup (pv 3) pe_int (fun _ _ => rfl)) pe_str (nomark _)) (pw_and1 (pt_cmpR op_notIn_seq (pe_call GS hr22 (by rfl) mS kS bS .nil pass0 (pa_cons (pv 0) (pa_cons (pe_ix ix_tup (pv 3) pe_int (fun _ _ => rfl)) pa_nil))) (pe_tup (pa_cons pe_int (pa_cons pe_int pa_nil))) (by rfl)))))
            (pss_one (ps_ret pe_bl))
            pss_nil)
          (pss_one (ps_if (PW.pt (pw_and (pt_cmpR (op_eqD hr.units) (pe_ix ix_tup (pv 3) pe_int (fun _ _ => rfl)) pe_str (nomark _)) (pw_and1 (pt_not (pt_val (pe_callG (E := E0) IH hc hr (by rfl) mT F.kp bT (pa_cons (pv 0) (pa_cons (pe_ix ix_tup (pv 3) pe_int (fun _ _ => rfl)) pa_nil))))))))
            (pss_one (ps_ret pe_bl))
            pss_nil)))))
          (pss_one (ps_if (pt_cmpR op_notIn_seq (pe_callB (call_reprD hc hr1) (by rfl) mrp (by decide +kernel) (pa_cons (pv 3) pa_nil)) (pe_tup (pa_cons pe_str (pa_cons pe_str pa_nil))) (by rfl))
            (pss_one (ps_ret pe_bl))
            pss_nil)))))))
      (pss_one (ps_ret pe_bl))), ?_⟩
    have ty := dp_ty hd
    rw [guard_eq] at k
    cases d with
    | tuple cs =>
      cases hd with
      | tup hs ha =>
        rename_i a xs
        have lx := dpAll_len ha
        have k0 : ∀ H', Same H H' → Q (.bl (cs.all (clauseD ns))) H' := k
        refine ⟨_, rfl, _, .ty "tuple", _, _, true, rfl, .ty "tuple", ty, kit_ty (kt_tuple _), true, rfl, iteF ?_⟩
        refine ⟨_, rfl, a, rfl, ⟨_, hs⟩, ?_⟩
        refine for_tup (K := K) (a := a) (xs := xs) (fun j σ H' => ∃ v2 v3, σ = [some (.ref L), some (.ref a), v2, v3] ∧ Same H H' ∧ (cs.drop j).all (clauseD ns) = cs.all (clauseD ns)) ⟨_, _, rfl, Same.refl H, by rw [List.drop_zero]⟩ (fun j σ H' hj ⟨_, _, _, sm, _⟩ => Same.tup sm hs) ?_ ?_
        · rintro j u σ H1 hu ⟨v2, v3, rfl, s1, ej⟩
          obtain ⟨c, hcj, hdc0⟩ := dpAll_at ha hu
          have hdc := dp_same s1 hdc0
          have mc : c ∈ cs := List.mem_of_getElem? hcj
          obtain ⟨oc, dc⟩ := out.kid mc
          have fc : Fit c := oc.fit (by decide)
          have hj : j < cs.length := (List.getElem?_eq_some_iff.mp hcj).1
          have dj : cs.drop j = c :: cs.drop (j + 1) := by
            rw [List.drop_eq_getElem_cons hj]
            have := (List.getElem?_eq_some_iff.mp hcj).2
            rw [this]
          rw [dj] at ej
          have ej2 : (clauseD ns c && (cs.drop (j + 1)).all (clauseD ns)) = cs.all (clauseD ns) := ej
          have no : clauseD ns c = false → ∀ H', Same H H' → Q (.bl false) H' := fun e H' s => by
            rw [e, Bool.false_and] at ej2
            have q := k0 H' s
            rw [← ej2] at q
            exact q
          have yes : clauseD ns c = true → (cs.drop (j + 1)).all (clauseD ns) = cs.all (clauseD ns) := fun e => by
            rw [e, Bool.true_and] at ej2
            exact ej2
          have tyc := dp_ty hdc
          cases c with
          | tuple es =>
            have hdc1 := hdc
            cases hdc with
            | tup hsc hac =>
              rename_i ca ys
              have ly := dpAll_len hac
              refine ⟨_, rfl, _, .ty "tuple", _, _, true, rfl, .ty "tuple", tyc, kit_ty (kt_tuple _), true, rfl, iteF ?_⟩
              refine ⟨_, rfl, ca, _, rfl, .inr hsc, rfl, ?_⟩
              by_cases h2 : es.length = 2
              · have e2 : (!decide (V.int ((ys.length : Nat) : Int) = V.int 2)) = false := by
                  rw [ly, h2]
                  rfl
                rw [e2]
                refine ⟨_, rfl, iteF ?_⟩
                have ep : isPairD (.tuple es) = true := decide_eq_true h2
                obtain ⟨ca', x1, y1, ea, hsp, hx1, hy1⟩ := dp_fs ep hdc1
                cases ea
                obtain ⟨o1, _⟩ := oc.fst ep
                obtain ⟨o2, d2⟩ := oc.snd ep
                have f1 : Fit (fstD (.tuple es)) := o1.fit (by decide)
                have f2 : Fit (sndD (.tuple es)) := o2.fit (by decide)
                generalize hact : sndD (.tuple es) = act at o2 d2 f2 hy1
                have cl : clauseD ns (.tuple es) = (areKD ns (fstD (.tuple es)) && (if (isPairD act && PyData.eqv (fstD act) (.str "pass")) = true then guardD ns (sndD act) else plainD ns act)) := by
                  unfold clauseD headD passB
                  rw [ep, hact]
                  rfl
                refine ⟨_, rfl, _, rfl, ca, _, 0, _, rfl, rfl, hsp, atI_nat (j := 0) rfl, L, ns, x1, _, rfl, s1 _ _ hL, hx1, f1, fun H2 s2 => ?_⟩
                have s12 := s1.trans s2
                cases eA : areKD ns (fstD (.tuple es)) with
                | false =>
                  refine ⟨_, rfl, iteT (no ?_ _ s12)⟩
                  rw [cl, eA]
                  rfl
                | true =>
                  rw [eA, Bool.true_and] at cl
                  refine ⟨_, rfl, iteF ⟨_, rfl, ca, _, 1, _, rfl, rfl, Same.tup s2 hsp, atI_nat (j := 1) rfl, ?_⟩⟩
                  have hya := dp_same s2 hy1
                  have tya := dp_ty hya
                  have sh2 := shown_le act o2.ok o2.sh
                  have shl : act.shown.length ≤ sizeLine := by
                    have := o2.wt
                    rw [sizeLine_eq]
                    omega
                  have dp2 := o2.dp
                  refine ⟨_, rfl, _, .ty "tuple", _, _, isTupD act, rfl, .ty "tuple", tya, kit_ty (kt_tuple act), _, rfl, ?_⟩
                  have word2 : isPairD act = false → isTupD act = false → ∀ p, H2 p = none → tTest (tOp (rIn K true) (tC (.str act.shown)) (tC (.ref p))) [] (upd H2 p (.tup [.str "'drop'", .str "'back'"])) (fun b H' => b = !clauseD ns (.tuple es) ∧ H' = upd H2 p (.tup [.str "'drop'", .str "'back'"])) := fun np _ p hp => by
                    refine ⟨p, _, rfl, .inr (SqT.of upd_same), rfl, rfl, _, rfl, ?_, rfl⟩
                    rw [if_pos rfl]
                    have q := in_words (t := act.shown) ["'drop'", "'back'"]
                    have q2 : inV (.str act.shown) [.str "'drop'", .str "'back'"] = clauseD ns (.tuple es) := by
                      rw [cl, np]
                      show inV (.str act.shown) ((["'drop'", "'back'"] : List Str).map V.str) = plainD ns act
                      rw [q]
                      unfold plainD
                      rw [np, if_neg Bool.false_ne_true]
                      show (decide (act.shown = "'drop'") || (decide (act.shown = "'back'") || false)) = (PyData.eqv (.str "drop") act || (PyData.eqv (.str "back") act || false))
                      rw [shown_word quoted_drop act o2.ok, shown_word quoted_back act o2.ok, eqv_comm, eqv_comm]
                    rw [q2]
                  cases act with
                  | tuple as_ =>
                    have hya1 := hya
                    cases hya with
                    | tup hsa haa =>
                      rename_i aa zs
                      have lz := dpAll_len haa
                      refine iteT ⟨_, rfl, aa, _, rfl, .inr hsa, rfl, ?_⟩
                      by_cases h3 : as_.length = 2
                      · have e3 : (!decide (V.int ((zs.length : Nat) : Int) = V.int 2)) = false := by
                          rw [lz, h3]
                          rfl
                        rw [e3]
                        refine ⟨_, rfl, iteF ?_⟩
                        have ep2 : isPairD (.tuple as_) = true := decide_eq_true h3
                        obtain ⟨aa', x2, y2, ea2, hsp2, hx2, hy2⟩ := dp_fs ep2 hya1
                        cases ea2
                        obtain ⟨ow, _⟩ := o2.fst ep2
                        obtain ⟨ox, dx⟩ := o2.snd ep2
                        rw [ep2, Bool.true_and] at cl
                        unfold plainD at cl
                        rw [ep2, if_pos rfl] at cl
                        generalize fstD (.tuple as_) = wd at hx2 ow cl
                        generalize sndD (.tuple as_) = xd at hy2 ox dx cl
                        have fw : Fit wd := ow.fit (by decide)
                        have fx : Fit xd := ox.fit (by decide)
                        have shw := shown_le wd ow.ok ow.sh
                        have owt := ow.wt
                        have oxd := ox.dp
                        refine ⟨_, rfl, aa, _, 0, _, rfl, rfl, hsp2, atI_nat (j := 0) rfl, x2, wd, rfl, hx2, ow.sh, fw.lay, (by have := ow.dp; omega), (by rw [sizeLine_eq]; omega), (by show 3 ≤ sizeLine; decide), fun p np => ?_⟩
                        have s3 := same_upd (o := .tup [.str "'keep'", .str "'raise'", .str "'pass'"]) np
                        refine ⟨p, _, rfl, .inr (SqT.of upd_same), rfl, rfl, ?_⟩
                        generalize upd H2 p (.tup [.str "'keep'", .str "'raise'", .str "'pass'"]) = H3 at s3 ⊢
                        have s13 := s12.trans s3
                        have hs3 := Same.tup s3 hsp2
                        have hx3 := dp_same s3 hx2
                        have hy3 := dp_same s3 hy2
                        rw [if_pos rfl]
                        have ew : inV (.str wd.shown) [.str "'keep'", .str "'raise'", .str "'pass'"] = (PyData.eqv wd (.str "keep") || (PyData.eqv wd (.str "raise") || (PyData.eqv wd (.str "pass") || false))) := by
                          have q := in_words (t := wd.shown) ["'keep'", "'raise'", "'pass'"]
                          rw [← shown_word quoted_keep wd ow.ok, ← shown_word quoted_raise wd ow.ok, ← shown_word quoted_pass wd ow.ok]
                          exact q
                        rw [ew]
                        cases bk : PyData.eqv wd (.str "keep") with
                        | true =>
                          have ez := eqv_str bk
                          subst ez
                          have b2 : PyData.eqv (.str "keep") (.str "raise") = false := by decide +kernel
                          have b3 : PyData.eqv (.str "keep") (.str "pass") = false := by decide +kernel
                          rw [b3, if_neg Bool.false_ne_true, bk, if_pos rfl] at cl
                          refine ⟨_, rfl, iteF ?_⟩
                          refine ⟨_, rfl, aa, _, 0, _, rfl, rfl, hs3, atI_nat (j := 0) rfl, _, _, hx3, .str "keep", fw.shaped, by decide +kernel, true, congrArg V.bl bk, iteT ?_⟩
                          refine ⟨_, rfl, _, rfl, aa, _, 1, _, rfl, rfl, hs3, atI_nat (j := 1) rfl, L, ns, y2, xd, rfl, s13 _ _ hL, hy3, fx, fun H4 s4 => ?_⟩
                          have s14 := s13.trans s4
                          have hs4 := Same.tup s4 hs3
                          have hx4 := dp_same s4 hx3
                          cases eK : areKD ns xd with
                          | false => exact ⟨_, rfl, iteT (no (cl.trans eK) _ s14)⟩
                          | true =>
                            refine ⟨_, rfl, iteF ?_⟩
                            refine ⟨_, rfl, aa, _, 0, _, rfl, rfl, hs4, atI_nat (j := 0) rfl, _, _, hx4, .str "raise", fw.shaped, by decide +kernel, false, congrArg V.bl b2, iteF (iteF ?_)⟩
                            refine ⟨_, rfl, aa, _, 0, _, rfl, rfl, hs4, atI_nat (j := 0) rfl, _, _, hx4, .str "pass", fw.shaped, by decide +kernel, false, congrArg V.bl b3, iteF (iteF ?_)⟩
                            exact ⟨_, _, rfl, s14, yes (cl.trans eK)⟩
                        | false =>
                          rw [bk, if_neg Bool.false_ne_true] at cl
                          cases br : PyData.eqv wd (.str "raise") with
                          | true =>
                            have ez := eqv_str br
                            subst ez
                            have b3 : PyData.eqv (.str "raise") (.str "pass") = false := by decide +kernel
                            rw [b3, if_neg Bool.false_ne_true, br, Bool.true_and] at cl
                            refine ⟨_, rfl, iteF ?_⟩
                            refine ⟨_, rfl, aa, _, 0, _, rfl, rfl, hs3, atI_nat (j := 0) rfl, _, _, hx3, .str "keep", fw.shaped, by decide +kernel, false, congrArg V.bl bk, iteF (iteF ?_)⟩
                            refine ⟨_, rfl, aa, _, 0, _, rfl, rfl, hs3, atI_nat (j := 0) rfl, _, _, hx3, .str "raise", fw.shaped, by decide +kernel, true, congrArg V.bl br, iteT ?_⟩
                            refine ⟨_, rfl, _, rfl, aa, _, 1, _, rfl, rfl, hs3, atI_nat (j := 1) rfl, L, ns, y2, xd, rfl, s13 _ _ hL, hy3, fx, by omega, fun H4 s4 => ⟨(by show 2 ≤ sizeLine; decide), fun p5 np5 => ?_⟩⟩
                            have s5 := same_upd (o := .tup [.int 0, .int 1]) np5
                            refine ⟨p5, _, rfl, .inr (SqT.of upd_same), opt_flat _, rfl, ?_⟩
                            rw [if_pos rfl, form_in]
                            have s15 := (s13.trans s4).trans s5
                            have hs5 := Same.tup (s4.trans s5) hs3
                            have hx5 := dp_same (s4.trans s5) hx3
                            have ef : (match starsD ns xd with | some n => decide (n ≤ 1) | none => false) = formD ns xd := rfl
                            rw [ef]
                            cases eK : formD ns xd with
                            | false => exact ⟨_, rfl, iteT (no (cl.trans eK) _ s15)⟩
                            | true =>
                              refine ⟨_, rfl, iteF ?_⟩
                              refine ⟨_, rfl, aa, _, 0, _, rfl, rfl, hs5, atI_nat (j := 0) rfl, _, _, hx5, .str "pass", fw.shaped, by decide +kernel, false, congrArg V.bl b3, iteF (iteF ?_)⟩
                              exact ⟨_, _, rfl, s15, yes (cl.trans eK)⟩
                          | false =>
                            rw [br, Bool.false_and] at cl
                            cases bp : PyData.eqv wd (.str "pass") with
                            | true =>
                              have ez := eqv_str bp
                              subst ez
                              rw [bp, if_pos rfl] at cl
                              refine ⟨_, rfl, iteF ?_⟩
                              refine ⟨_, rfl, aa, _, 0, _, rfl, rfl, hs3, atI_nat (j := 0) rfl, _, _, hx3, .str "keep", fw.shaped, by decide +kernel, false, congrArg V.bl bk, iteF (iteF ?_)⟩
                              refine ⟨_, rfl, aa, _, 0, _, rfl, rfl, hs3, atI_nat (j := 0) rfl, _, _, hx3, .str "raise", fw.shaped, by decide +kernel, false, congrArg V.bl br, iteF (iteF ?_)⟩
                              refine ⟨_, rfl, aa, _, 0, _, rfl, rfl, hs3, atI_nat (j := 0) rfl, _, _, hx3, .str "pass", fw.shaped, by decide +kernel, true, congrArg V.bl bp, iteT ?_⟩
                              refine ⟨_, rfl, _, rfl, aa, _, 1, _, rfl, rfl, hs3, atI_nat (j := 1) rfl, L, ns, y2, xd, rfl, s13 _ _ hL, hy3, ox, by omega, fun H4 s4 => ?_⟩
                              have s14 := s13.trans s4
                              cases eK : guardD ns xd with
                              | false => exact ⟨_, rfl, iteT (no (cl.trans eK) _ s14)⟩
                              | true =>
                                refine ⟨_, rfl, iteF ?_⟩
                                exact ⟨_, _, rfl, s14, yes (cl.trans eK)⟩
                            | false =>
                              rw [bp, if_neg Bool.false_ne_true] at cl
                              exact ⟨_, rfl, iteT (no cl _ s13)⟩
                      · have e3 : (!decide (V.int ((zs.length : Nat) : Int) = V.int 2)) = true := by
                          rw [decide_eq_false (fun z => h3 (by have := V.int.inj z; omega))]
                          rfl
                        rw [e3]
                        refine ⟨_, rfl, iteT (iteT (no ?_ _ s12))⟩
                        rw [cl, show isPairD (.tuple as_) = false from decide_eq_false h3]
                        show plainD ns (.tuple as_) = false
                        unfold plainD
                        rw [show isPairD (.tuple as_) = false from decide_eq_false h3]
                        rfl
                  | _ =>
                    refine iteF ⟨_, rfl, y1, _, rfl, hya, o2.sh, f2.lay, (by omega), shl, (by show 2 ≤ sizeLine; decide), fun p np => ?_⟩
                    obtain ⟨p', xs', ep', hq', fl1, fl2, b', eb', ec', _⟩ := word2 rfl rfl p np
                    have s3 := same_upd (o := .tup [.str "'drop'", .str "'back'"]) np
                    have s13 := s12.trans s3
                    refine ⟨p', xs', ep', hq', fl1, fl2, b', eb', ?_⟩
                    rw [ec']
                    cases ecl : clauseD ns (.tuple es) with
                    | false => exact iteT (no ecl _ s13)
                    | true => exact iteF ⟨_, _, rfl, s13, yes ecl⟩
              · have e2 : (!decide (V.int ((ys.length : Nat) : Int) = V.int 2)) = true := by
                  rw [decide_eq_false (fun z => h2 (by have := V.int.inj z; omega))]
                  rfl
                rw [e2]
                refine ⟨_, rfl, iteT (iteT (no ?_ _ s1))⟩
                unfold clauseD headD
                rw [show isPairD (.tuple es) = false from decide_eq_false h2]
                rfl
          | _ => exact ⟨_, rfl, _, .ty "tuple", _, _, false, rfl, .ty "tuple", tyc, kit_ty (kt_tuple _), false, rfl, iteT (iteT (no rfl _ s1))⟩
        · rintro σ H1 ⟨v2, v3, rfl, s1, ej⟩
          rw [lx, List.drop_length] at ej
          have q := k0 H1 s1
          rw [← ej] at q
          exact q
    | _ => exact ⟨_, rfl, _, .ty "tuple", _, _, false, rfl, .ty "tuple", ty, kit_ty (kt_tuple _), false, rfl, iteT (k _ (Same.refl _))⟩
end
end K1

namespace K1
open PySem PySem.Spec PyProof.Rows L2 Own
/-! ### tuples written out, repeated, joined -/
def MkT (K : PySem.W.Frag) (s : Addr) (N : Addr → Prop) (G : Hp) (σ : L2.St) (te : TE) (m k n : Nat) : Prop := ∀ (H : Hp) (Q : VK), Keep s G H → Src H s → NOk N s H → (∀ H' p vs ds, Keep s H H' → Src H' s → SqT K (hid N H') p vs → DpAll K (hid N H') vs ds → ds.length = n → (∀ d ∈ ds, okD d = true ∧ d.showable = true ∧ d.depth ≤ k) → wtAll ds ≤ m → Q (.ref p) H') → te σ H Q
theorem wt_rep (ds : List PyData) : ∀ c : Nat, wtAll (List.replicate c ds).flatten = c * wtAll ds
  | 0 => (Nat.zero_mul _).symm
  | c + 1 => by
    rw [List.replicate_succ, List.flatten_cons, wtAll_app, wt_rep ds c, Nat.add_mul, Nat.one_mul, Nat.add_comm]
theorem len_rep {α : Type} (ds : List α) : ∀ c : Nat, (List.replicate c ds).flatten.length = c * ds.length
  | 0 => (Nat.zero_mul _).symm
  | c + 1 => by
    rw [List.replicate_succ, List.flatten_cons, List.length_append, len_rep ds c, Nat.add_mul, Nat.one_mul, Nat.add_comm]
theorem mem_rep {α : Type} {ds : List α} {d : α} : ∀ {c : Nat}, d ∈ (List.replicate c ds).flatten → d ∈ ds
  | 0, h => nomatch h
  | c + 1, h => by
    rw [List.replicate_succ, List.flatten_cons] at h
    rcases List.mem_append.mp h with q | q
    · exact q
    · exact mem_rep q
section
variable {K : PySem.W.Frag}
theorem dpAll_rep {H : Hp} {vs : List V} {ds : List PyData} (h : DpAll K H vs ds) : ∀ c : Nat, DpAll K H (List.replicate c vs).flatten (List.replicate c ds).flatten
  | 0 => .nil
  | c + 1 => by
    rw [List.replicate_succ, List.flatten_cons, List.replicate_succ, List.flatten_cons]
    exact dpAll_app h (dpAll_rep h c)
variable {s : Addr} {N : Addr → Prop} {G : Hp} {σ : L2.St}
theorem MkT.out {te : TE} {m k n : Nat} (h : MkT K s N G σ te m k n) (few : n ≤ 1000) : MkO K s N G σ te (m + 3) (k + 1) := fun H Q kp sr nok q => by
  refine h H Q kp sr nok fun H1 p vs ds k1 sr1 hp hds len all wt => ?_
  exact q H1 (.ref p) (.tuple ds) k1 sr1 (.tup hp hds) (out_tup (by omega) all (by omega)).1
theorem mkT_tup {ta : TA} {m k n : Nat} (h : MkA K s N G σ ta m k n) (few : n ≤ 1000) : MkT K s N G σ (tTup ta) m k n := fun H Q kp sr nok q => by
  refine h H _ kp sr nok fun H1 vs ds k1 sr1 hds len all wt => ⟨by rw [dpAll_len hds, sizeLine_eq]; omega, fun p np => ?_⟩
  have s2 := same_upd (o := .tup vs) np
  have nok1 := nok.keep k1 sr1
  exact q _ p vs ds (k1.trans (Keep.of s2)) (sr1.same s2) (SqT.of (hid_at (nok1.new np) upd_same)) (dpAll_same (hid_keep (Keep.of s2) nok.ns) hds) len all wt
theorem mkT_rep {te tk : TE} {m k n c : Nat} (h : MkT K s N G σ te m k n) (hk : ∀ H Q, Q (.int (c : Int)) H → tk σ H Q) (c2 : 2 ≤ c) (c1 : c ≤ 1000) (n1 : 1 ≤ n) (few : n ≤ 1000) : MkT K s N G σ (tOp (rRepT K) te tk) (c * m) k (c * n) := fun H Q kp sr nok q => by
  refine h H _ kp sr nok fun H1 p vs ds k1 sr1 hp hds len all wt => hk _ _ ?_
  have lv := dpAll_len hds
  refine ⟨p, (c : Int), vs, rfl, rfl, Same.tup hid_same hp, (fun e => by rw [e] at lv; have : 0 = ds.length := lv; omega), (by omega), (by omega), (by omega), fun p2 n2 => ?_⟩
  have s2 := same_upd (o := .tup (List.replicate (c : Int).toNat vs).flatten) n2
  have nok1 := nok.keep k1 sr1
  refine q _ p2 (List.replicate c vs).flatten (List.replicate c ds).flatten (k1.trans (Keep.of s2)) (sr1.same s2) (SqT.of (hid_at (nok1.new n2) upd_same)) (dpAll_rep (dpAll_same (hid_keep (Keep.of s2) nok.ns) hds) c) (by rw [len_rep, len]) (fun d hd => all d (mem_rep hd)) ?_
  rw [wt_rep]
  exact Nat.mul_le_mul_left _ wt
theorem mkT_cat {t u : TE} {m1 m2 k n1 n2 : Nat} (h : MkT K s N G σ t m1 k n1) (h2 : MkT K s N G σ u m2 k n2) (few : n1 + n2 ≤ 1000) : MkT K s N G σ (tOp (rCatW K) t u) (m1 + m2) k (n1 + n2) := fun H Q kp sr nok q => by
  refine h H _ kp sr nok fun H1 p vs ds k1 sr1 hp hds len all wt => ?_
  have nok1 := nok.keep k1 sr1
  refine h2 H1 _ (kp.trans k1) sr1 nok1 fun H2 p2 vs2 ds2 k2 sr2 hp2 hds2 len2 all2 wt2 => ?_
  have lv := dpAll_len hds
  have lv2 := dpAll_len hds2
  refine ⟨p, p2, vs, vs2, rfl, rfl, Same.tup hid_same (Same.tup (hid_keep k2 nok.ns) hp), Same.tup hid_same hp2, by omega, fun p3 H3 s3 hp3 => ?_⟩
  have nok2 := nok1.keep k2 sr2
  have nok3 := nok2.keep (Keep.of s3) (sr2.same s3)
  refine q H3 p3 (vs ++ vs2) (ds ++ ds2) ((k1.trans k2).trans (Keep.of s3)) (sr2.same s3) (sqT_stay (stay_hid nok3) hp3) (dpAll_app (dpAll_same (hid_keep (k2.trans (Keep.of s3)) nok.ns) hds) (dpAll_same (hid_keep (Keep.of s3) nok.ns) hds2)) (by rw [List.length_append, len, len2]) (fun d hd => ?_) (by rw [wtAll_app]; omega)
  rcases List.mem_append.mp hd with q | q
  · exact all d q
  · exact all2 d q
end
end K1

namespace K1
open PySem PySem.Spec PyProof.Rows L2 Own
/-! ### how large the layers are -/
theorem pl_mono : ∀ {n m : Nat} {d : PyData}, PlD n d → n ≤ m → PlD m d
  | 0, 0, d, h, _ => h
  | 0, m + 1, d, h, _ => by
    cases d with
    | str z => exact h
    | tuple ds => exact h.elim
    | none => exact h.elim
    | bool _ => exact h.elim
    | int _ => exact h.elim
    | list _ => exact h.elim
    | dict _ => exact h.elim
  | n + 1, 0, d, h, e => absurd e (Nat.not_succ_le_zero n)
  | n + 1, m + 1, d, h, e => by
    cases d with
    | str z => exact h
    | tuple ds =>
      obtain ⟨a, b⟩ := (show ds.length ≤ 4 ∧ ∀ d ∈ ds, PlD n d from h)
      exact ⟨a, fun d hd => pl_mono (b d hd) (by omega)⟩
    | none => exact h.elim
    | bool _ => exact h.elim
    | int _ => exact h.elim
    | list _ => exact h.elim
    | dict _ => exact h.elim
theorem pl_pair {n : Nat} {a b : PyData} (ha : PlD n a) (hb : PlD n b) : PlD (n + 1) (.tuple [a, b]) := by
  refine ⟨by show 2 ≤ 4; decide, fun e he => ?_⟩
  rcases List.mem_cons.mp he with q | q
  · rw [q]
    exact ha
  · rw [List.mem_singleton.mp q]
    exact hb
theorem wt_pair (a b : PyData) : wtD (.tuple [a, b]) = wtD a + wtD b + 7 := by
  show wtD a + 2 + (wtD b + 2 + 0) + 3 = _
  omega
theorem labs_pl {ns : List Str} (nok : ∀ z ∈ ns, NameOk z) {d : PyData} (h : LabsN ns d) : PlD 1 d ∧ wtD d ≤ 200 := by
  obtain ⟨zs, rfl, l1, l2, hz⟩ := h
  have each : ∀ e ∈ zs.map PyData.str, PlD 0 e ∧ wtD e ≤ 82 := fun e he => by
    obtain ⟨z, hm, rfl⟩ := List.mem_map.mp he
    have q := nok z (hz z hm)
    refine ⟨pl_sg 0 (name_sg q), ?_⟩
    have := q.2.1
    show 10 * z.length + 2 ≤ 82
    omega
  have lz : (zs.map PyData.str).length = zs.length := List.length_map _
  refine ⟨⟨by rw [lz]; omega, fun e he => (each e he).1⟩, ?_⟩
  have q := wtAll_le fun e he => (each e he).2
  have r : (zs.map PyData.str).length * (82 + 2) ≤ 2 * (82 + 2) := Nat.mul_le_mul_right _ (by omega)
  show wtAll (zs.map PyData.str) + 3 ≤ 200
  omega
theorem word_pl {z : Str} (h : (∀ c ∈ z.cps.toList, 97 ≤ c ∧ c ≤ 122) ∧ z.length ≤ 8) (n : Nat) : PlD n (.str z) ∧ wtD (.str z) ≤ 82 := by
  refine ⟨pl_sg n ⟨fun c hc => .inr (h.1 c hc), h.2⟩, ?_⟩
  show 10 * z.length + 2 ≤ 82
  have := h.2
  omega
theorem words_low : ∀ z ∈ (["drop", "back", "keep", "raise", "pass"] : List Str), (∀ c ∈ z.cps.toList, 97 ≤ c ∧ c ≤ 122) ∧ z.length ≤ 8 := by decide +kernel
theorem act_pl {ns : List Str} (nok : ∀ z ∈ ns, NameOk z) {R : PyData → Prop} {n W : Nat} (n4 : 4 ≤ n) (hR : ∀ d, R d → PlD n d ∧ wtD d ≤ W) {d : PyData} (h : ActN ns R d) : PlD (n + 1) d ∧ wtD d ≤ 2200 + W := by
  have wl := words_low
  rcases h with rfl | rfl | ⟨l, hl, rfl⟩ | ⟨p, f, hf, rfl⟩ | ⟨g, hg, rfl⟩
  · have q := word_pl (wl "drop" (by decide)) (n + 1)
    exact ⟨q.1, by omega⟩
  · have q := word_pl (wl "back" (by decide)) (n + 1)
    exact ⟨q.1, by omega⟩
  · have q := word_pl (wl "keep" (by decide)) n
    have r := labs_pl nok hl
    refine ⟨pl_pair q.1 (pl_mono r.1 (by omega)), ?_⟩
    rw [wt_pair]
    omega
  · have q := word_pl (wl "raise" (by decide)) n
    have r := form_pl nok 2 p f hf
    have w2 : wF 2 ≤ 2000 := by decide
    refine ⟨pl_pair q.1 (pl_mono r.1 (by omega)), ?_⟩
    rw [wt_pair]
    omega
  · have q := word_pl (wl "pass" (by decide)) n
    have r := hR g hg
    refine ⟨pl_pair q.1 r.1, ?_⟩
    rw [wt_pair]
    omega
theorem clauses_pl {ns : List Str} (nok : ∀ z ∈ ns, NameOk z) {R : PyData → Prop} {n W : Nat} (n4 : 4 ≤ n) (hR : ∀ d, R d → PlD n d ∧ wtD d ≤ W) {cs : List PyData} (l4 : cs.length ≤ 4) (h : ∀ c ∈ cs, ClauseN ns R c) : PlD (n + 3) (.tuple cs) ∧ wtD (.tuple cs) ≤ 4 * W + 10000 := by
  have each : ∀ c ∈ cs, PlD (n + 2) c ∧ wtD c ≤ 2407 + W := fun c hc => by
    obtain ⟨l, a, hl, ha, rfl⟩ := h c hc
    have q := labs_pl nok hl
    have r := act_pl nok n4 hR ha
    refine ⟨pl_pair (pl_mono q.1 (by omega)) r.1, ?_⟩
    rw [wt_pair]
    omega
  refine ⟨⟨l4, fun e he => (each e he).1⟩, ?_⟩
  have q := wtAll_le fun e he => (each e he).2
  have r : cs.length * (2407 + W + 2) ≤ 4 * (2407 + W + 2) := Nat.mul_le_mul_right _ l4
  show wtAll cs + 3 ≤ _
  omega
def wL : Nat → Nat
  | 0 => 10000
  | n + 1 => 4 * wL n + 10000
theorem layer_pl {ns : List Str} (nok : ∀ z ∈ ns, NameOk z) : ∀ (n : Nat) (d : PyData), LayerN ns n d → PlD (3 * n + 7) d ∧ wtD d ≤ wL n
  | 0, d, h => by
    obtain ⟨cs, rfl, l4, hc⟩ := h
    exact clauses_pl nok (n := 4) (W := 0) (by decide) (fun _ z => z.elim) l4 hc
  | n + 1, d, h => by
    obtain ⟨cs, rfl, l4, hc⟩ := h
    have q := clauses_pl nok (n := 3 * n + 7) (W := wL n) (by omega) (layer_pl nok n) l4 hc
    exact ⟨pl_mono q.1 (by omega), q.2⟩
theorem layers_pl {ns : List Str} (nok : ∀ z ∈ ns, NameOk z) {M : Nat} {d : PyData} (h : LayersN ns M d) (M4 : M ≤ 4) : PlD 14 d ∧ wtD d ≤ 900000 := by
  obtain ⟨gs, rfl, l, hg⟩ := h
  have each := fun g hm => layer_pl nok 2 g (hg g hm)
  refine ⟨⟨by omega, fun e he => (each e he).1⟩, ?_⟩
  have q := wtAll_le fun e he => (each e he).2
  have w2 : wL 2 = 210000 := rfl
  have r : gs.length * (wL 2 + 2) ≤ 4 * (wL 2 + 2) := Nat.mul_le_mul_right _ (by omega)
  show wtAll gs + 3 ≤ 900000
  omega
theorem layers_flat {ns : List Str} {M : Nat} {d : PyData} (h : LayersN ns M d) : noList d = true := by
  obtain ⟨gs, rfl, l, hg⟩ := h
  exact noListAll_of fun g hm => layer_flat 2 g (hg g hm)
end K1

namespace K1
open PySem PySem.Spec PyProof.Rows L2 Own
/-! ### a list of data that grows beside a source -/
def rListOf (K : PySem.W.Frag) : List V → Hp → VK → Prop := fun xs H Q => ∃ p ys, xs = [.ref p] ∧ (SqL K H p ys ∨ SqT K H p ys) ∧ ∀ l, H l = none → Q (.ref l) (upd H l (.lst ys))
/-- a list at S of c values, each data -/
structure SomeAt (K : PySem.W.Frag) (s : Addr) (M k : Nat) (H : Hp) (S : Addr) (ws : List V) : Prop where
  at_ : H S = some (.lst ws)
  ne : S ≠ s
  each : ∀ v ∈ ws, Is K (fun b => b = s) H M k v
section
variable {K : PySem.W.Frag} {s : Addr} {G : Hp} {σ : L2.St}
theorem nok_src {H : Hp} (sr : Src H s) : NOk (fun b => b = s) s H := ⟨rfl, fun b e => by
  obtain ⟨u, w, z, _⟩ := sr
  exact ⟨_, by rw [e]; exact z⟩⟩
theorem SomeAt.keep {M k : Nat} {H H' : Hp} {S : Addr} {ws : List V} (h : SomeAt K s M k H S ws) (q : Keep s H H') : SomeAt K s M k H' S ws := ⟨q _ _ h.ne h.at_, h.ne, fun v hv => (h.each v hv).keep q rfl⟩
theorem is_of {N : Addr → Prop} {H : Hp} {vs : List V} {ds : List PyData} {m M k k' : Nat} (hds : DpAll K (hid N H) vs ds) (all : ∀ d ∈ ds, okD d = true ∧ d.showable = true ∧ d.depth ≤ k) (wt : wtAll ds ≤ m) (mM : m ≤ M) (kk : k ≤ k') : ∀ v ∈ vs, Is K N H M k' v := fun v hv => by
  obtain ⟨i, hi, e⟩ := List.getElem_of_mem hv
  obtain ⟨d, h1, h2⟩ := dpAll_at hds (List.getElem?_eq_getElem hi)
  have hm := List.mem_of_getElem? h1
  obtain ⟨o1, o2, o3⟩ := all d hm
  rw [e] at h2
  exact ⟨d, h2, o1, o2, Nat.le_trans (mem_wtD hm) (Nat.le_trans wt mM), Nat.le_trans o3 kk⟩
theorem mk_listOf {N : Addr → Prop} {i : Nat} {p : Addr} {xs : List V} {ds : List PyData} {m k : Nat} (ns : N s) (e : σ[i]? = some (some (.ref p))) (hp : SqT K (hid N G) p xs) (hx : DpAll K (hid N G) xs ds) (o : Out m k (.tuple ds)) : MkO K s N G σ (tCB (rListOf K) (tCons (tVar i) tNil)) m k := fun H Q kp sr nok q => by
  have hp2 := Same.tup hid_same (Same.tup (hid_keep kp ns) hp)
  refine ⟨_, e, p, xs, rfl, .inr hp2, fun l nl => ?_⟩
  have s2 := same_upd (o := .lst xs) nl
  exact q _ (.ref l) (.list ds) (Keep.of s2) (sr.same s2) (.lst (SqL.of (hid_at (nok.new nl) upd_same)) (dpAll_same (hid_keep (kp.trans (Keep.of s2)) ns) hx)) ⟨o.ok, o.sh, o.wt, o.dp⟩
theorem some_new {ta : TA} {m k n M k' : Nat} (A : MkA K s (fun b => b = s) G σ ta m k n) (sr : Src G s) (few : n ≤ 1000) (mM : m ≤ M) (kk : k ≤ k') {Q : VK} (done : ∀ H' S ws, Keep s G H' → Src H' s → SomeAt K s M k' H' S ws → ws.length = n → Q (.ref S) H') : tLst ta σ G Q := by
  refine A G _ (Keep.refl s G) sr (nok_src sr) fun H1 vs ds k1 sr1 hds len all wt => ?_
  have lv := dpAll_len hds
  refine ⟨by rw [lv, len, sizeLine_eq]; omega, fun S nS => ?_⟩
  have s2 := same_upd (o := .lst vs) nS
  refine done _ S vs (k1.trans (Keep.of s2)) (sr1.same s2) ⟨upd_same, (nok_src sr1).new nS, is_of (dpAll_same (hid_keep (N := fun b => b = s) (Keep.of s2) rfl) hds) all wt mM kk⟩ (by rw [lv, len])
theorem some_cat {ta : TA} {m k n M k' i : Nat} {S : Addr} {ws : List V} (A : MkA K s (fun b => b = s) G σ ta m k n) (e : σ[i]? = some (some (.ref S))) (h : SomeAt K s M k' G S ws) (sr : Src G s) (few : n ≤ 1000) (few2 : ws.length ≤ 1000) (mM : m ≤ M) (kk : k ≤ k') {Q : VK} (done : ∀ H' S' ws', Keep s G H' → Src H' s → SomeAt K s M k' H' S' ws' → ws'.length = ws.length + n → Q (.ref S') H') : tOp rCat (tVar i) (tLst ta) σ G Q := by
  refine ⟨_, e, some_new (M := M) (k' := k') A sr few mM kk fun H1 S2 ws2 k1 sr1 h2 l2 => ?_⟩
  have h1 := h.keep k1
  refine ⟨S, S2, ws, ws2, rfl, rfl, h1.at_, h2.at_, by rw [sizeLine_eq]; omega, fun S3 n3 => ?_⟩
  have s3 := same_upd (o := .lst (ws ++ ws2)) n3
  refine done _ S3 (ws ++ ws2) (k1.trans (Keep.of s3)) (sr1.same s3) ⟨upd_same, (nok_src sr1).new n3, fun v hv => ?_⟩ (by rw [List.length_append, l2])
  rcases List.mem_append.mp hv with q | q
  · exact (h1.each v q).keep (Keep.of s3) rfl
  · exact (h2.each v q).keep (Keep.of s3) rfl
/-- [_law_bent(source, item) for more in range(n)] -/
theorem some_bent {B : Nat} {M k' nd n i j jv : Nat} {S : Addr} {ws : List V} {v : V} {d : PyData} {own : List Nat} (e : σ[i]? = some (some (.ref S))) (h : SomeAt K s M k' G S ws) (sr : Src G s) (hd : Dp K (hid (fun b => b = s) G) v d) (pl : PlD nd d) (ndB : nd < B) (nd20 : nd ≤ 20) (few : n ≤ 1000) (few2 : ws.length ≤ 1000) (mM : 2 * wtD d + 5000 ≤ M) (kk : nd + 4 ≤ k')
    (hw : ∀ x, wipe ((wipe σ own).set j (some x)) own = wipe σ own) (hs : ∀ x, ((wipe σ own).set j (some x))[2]? = some (some (.ref s))) (hv : ∀ x, ((wipe σ own).set j (some x))[jv]? = some (some v)) {Q : VK} (done : ∀ H' S' ws', Keep s G H' → Src H' s → H' S' = some (.lst ws') → (∀ v ∈ ws', ∃ d, Dp K H' v d ∧ Out M k' d) → ws'.length = ws.length + n → Q (.ref S') H') (D : Addr) (nD : G D = none) :
    ∃ W : Nat → Nat → Hp → Prop, (∃ m, W 0 m (upd G D (.lst []))) ∧ ∀ i m H, W i m H →
      ((Itr 0 n).stop i H ∧ rCat (.ref S) (.ref D) H Q) ∨ ((Itr 0 n).go i H ∧ ∃ Nx : Hp → Prop, (∀ H', Nx H' → ∃ m', m' < m ∧ W (i + 1) m' H') ∧ ∀ x H', (Itr 0 n).yld i H x H' → gName j x (wipe σ own) H' fun σ2 H2 => wipe σ2 own = wipe σ own ∧ tYes σ2 H2 fun b H3 =>
        if b = true then tCall (spBent K B) [] E0 (tCons (tVar 2) (tCons (tVar jv) tNil)) σ2 H3 fun y H4 => ∃ acc, H4 D = some (.lst acc) ∧ acc.length < sizeLine ∧ Nx (upd H4 D (.lst (acc ++ [y]))) else Nx H3) := by
  have noG := nok_src sr
  have Ds : D ≠ s := noG.new nD
  refine lc_range (lo := 0) (n := n) (fun i H' => Keep s G H' ∧ Src H' s ∧ ∃ us, H' D = some (.lst us) ∧ us.length = i ∧ ∀ v ∈ us, Is K (fun b => b = s ∨ b = D) H' M k' v) ⟨.of (same_upd nD), sr.new nD, [], upd_same, rfl, fun _ h => nomatch h⟩ ?_ ?_
  · rintro i H' hi ⟨kq, sq, us, hD, lu, each⟩
    have no2 : NOk (fun b => b = s ∨ b = D) s H' := ⟨.inl rfl, fun b e => by
      rcases e with e | e
      · obtain ⟨u, w, z, _⟩ := sq
        exact ⟨_, by rw [e]; exact z⟩
      · exact ⟨_, by rw [e]; exact hD⟩⟩
    have hdi2 : Dp K (hid (fun b => b = s ∨ b = D) H') v d := dp_same (fun b o e => by
      obtain ⟨e1, e2⟩ := hid_of e
      refine hid_at (fun z => ?_) (kq b o e1 e2)
      rcases z with z | z
      · exact e1 z
      · rw [z, nD] at e2
        cases e2) hd
    refine ⟨hw _, _, hs _, _, hv _, s, _, v, nd, d, rfl, ndB, nd20, sq, no2, pl, hdi2, fun H'' v' d' k2 sr2' hv' out => ⟨us, k2 D _ Ds hD, ?_, (kq.trans k2).put nD, sr2'.put Ds, us ++ [v'], upd_same, ?_, fun v hv => ?_⟩⟩
    · rw [lu]
      exact small1000 (by omega)
    · rw [List.length_append, lu]
      rfl
    · have same2 : Same (hid (fun b => b = s ∨ b = D) H'') (hid (fun b => b = s ∨ b = D) (upd H'' D (.lst (us ++ [v'])))) := fun b o e => by
        obtain ⟨e1, e2⟩ := hid_of e
        refine hid_at e1 ?_
        rw [upd_ne (fun z => e1 (.inr z))]
        exact e2
      rcases List.mem_append.mp hv with q | q
      · obtain ⟨e, h1, h2⟩ := (each v q).keep k2 no2.ns
        exact ⟨e, dp_same same2 h1, h2⟩
      · rw [List.mem_singleton.mp q]
        exact ⟨d', dp_same same2 hv', out.mono mM kk⟩
  rintro G2 ⟨kq, sq, us, hD, lu, each⟩
  have h2 := h.keep kq
  refine ⟨S, D, ws, us, rfl, rfl, h2.at_, hD, by rw [sizeLine_eq]; omega, fun E9 nE => ?_⟩
  have sE := same_upd (o := .lst (ws ++ us)) nE
  refine done _ E9 (ws ++ us) (kq.trans (Keep.of sE)) (sq.same sE) upd_same (fun v hv => ?_) (by rw [List.length_append, lu])
  rcases List.mem_append.mp hv with q | q
  · obtain ⟨e, h1, h3⟩ := h2.each v q
    exact ⟨e, dp_same sE (dp_same hid_same h1), h3⟩
  · obtain ⟨e, h1, h3⟩ := each v q
    exact ⟨e, dp_same sE (dp_same hid_same h1), h3⟩
end
end K1

namespace K1
open PySem PySem.Spec PyProof.Rows L2 Own
/-! ### the law -/
def spLaw (K : PySem.W.Frag) : Sp := fun vs H Q _ => ∃ (a : Addr) (ns : List Int), vs = [.ref a] ∧ SqL K H a (ns.map V.int) ∧ ns.length ≤ 63 ∧ ∀ H', Q (.bl true) H'
abbrev nL : List Str := ["script", "k", "source", "turn", "labels", "over", "sorts", "layers", "some", "many", "one", "value", "expected", "found", "shown", "more"]
theorem two_bl (b : Bool) : (PyData.list [.bool b, .bool b]).showable = true ∧ (PyData.list [.bool b, .bool b]).canLay0 = true ∧ (PyData.list [.bool b, .bool b]).depth ≤ 100 ∧ (PyData.list [.bool b, .bool b]).shown.length ≤ sizeLine := by
  cases b
  · exact ⟨rfl, rfl, by decide, Nat.le_trans (shown_le _ rfl rfl) (by decide)⟩
  · exact ⟨rfl, rfl, by decide, Nat.le_trans (shown_le _ rfl rfl) (by decide)⟩
theorem q_gs {i : Nat} {x : V} {σ : L2.St} {H : Hp} {t u : TS} {D : Ends} {r b c} (h : t { D with nx := u D } (σ.set i (some x)) H) : gName i x σ H (Ends.nx ⟨tSeq t u D, r, b, c⟩) := h
theorem q_gt {i : Nat} {x : V} {σ : L2.St} {H : Hp} {t u : TS} {D : Ends} (h : t { D with nx := u D } (σ.set i (some x)) H) : gName i x σ H (fun σ2 H2 => tSeq t u D σ2 H2) := h
theorem q_expr {te : TE} {σ : L2.St} {H : Hp} {Q : VK} (R : V → Hp → Prop) (done : ∀ v H', R v H' → Q v H') (h : ∀ Z : VK, (∀ v H', R v H' → Z v H') → te σ H Z) : te σ H Q := h Q done
section
variable {P : Program} {w : World} {K : PySem.W.Frag} {mg : Str → Option Value} {base : Heap}
theorem scLaw : FnScope nL ["script"] (defScope sLaw) := ⟨rfl, rfl, rfl, by decide +kernel, rfl, by decide +kernel, by decide +kernel⟩
theorem ok_law {C f fS fU fD fT fA fB fI fL fX : Addr} {fd dS dU dD dT dA dB dI dL : FuncData} {g : List Value → List Value → List Value} (F : Fun K "law" "law" sLaw f fd) (T : KTxt K mg C)
    (GS : FnOk P w K mg base CX0 1 fS dS ["script", "at"] (spSource K)) (kS : PySem.W.keepIn K (.ref fS) = true) (bS : Binds K dS ["script", "at"] []) (mS : mg "_law_source" = some (.ref fS))
    (GU : FnOk P w K mg base CX0 7 fU dU ["source"] (spSetup C)) (kU : PySem.W.keepIn K (.ref fU) = true) (bU : Binds K dU ["source"] []) (mU : mg "_law_setup" = some (.ref fU))
    (GD : FnOk P w K mg base CX0 1 fD dD ["source", "many"] spDraw) (kD : PySem.W.keepIn K (.ref fD) = true) (bD : Binds K dD ["source", "many"] []) (mD : mg "_law_draw" = some (.ref fD))
    (GT : FnOk P w K mg base CX0 9 fT dT ["source", "labels", "most"] (spRLs K)) (kT : PySem.W.keepIn K (.ref fT) = true) (bT : Binds K dT ["source", "labels", "most"] []) (mT : mg "_law_random_layers" = some (.ref fT))
    (GA : FnOk P w K mg base CX0 2 fA dA ["source"] (spAny K)) (kA : PySem.W.keepIn K (.ref fA) = true) (bA : Binds K dA ["source"] []) (mA : mg "_law_any" = some (.ref fA))
    (GB : FnOk P w K mg base CX0 17 fB dB ["source", "value"] (spBent K 15)) (kB : PySem.W.keepIn K (.ref fB) = true) (bB : Binds K dB ["source", "value"] []) (mB : mg "_law_bent" = some (.ref fB))
    (GI : FnOk P w K mg base CX0 5 fI dI ["kinds", "thing"] (spStack C K)) (kI : PySem.W.keepIn K (.ref fI) = true) (bI : Binds K dI ["kinds", "thing"] []) (mI : mg "is_stack" = some (.ref fI)) (nI : KBn K dI ["kinds", "thing"] 0 ["thing", "kinds"] g fun _ zs => zs.reverse)
    (GL : FnG P w K mg base 43 fL dL ["labels", "value"] (spIL K 21)) (kL : PySem.W.keepIn K (.ref fL) = true) (bL : Binds K dL ["labels", "value"] []) (mL : mg "_law_is_layer" = some (.ref fL))
    (M : Mk K C fX) (GX : FnKw P w K mg base 4 fX (spInit C))
    (mr : mg "range" = none) (mmax : mg "max" = none) (mmin : mg "min" = none) (mrp : mg "repr" = none) (mi : mg "isinstance" = none) (mt : mg "tuple" = none) (ma : mg "all" = none) : FnG P w K mg base 44 f fd ["script"] (spLaw K) := by
  refine okG F scLaw (fun vs H Q E h => ?_) (fun cdv A outer s_ H vs Q E hc hr h => ?_)
  · obtain ⟨a, ns, rfl, _⟩ := h
    rfl
  · obtain ⟨a, ns, rfl, hS, h63, k⟩ := h
    have ml := T.len
    have mli := T.list
    have hr1 : Room 1 _ := hr.mono (by decide)
    have hr2 : Room 2 _ := hr.mono (by decide)
    have hr5 : Room 5 _ := hr.mono (by decide)
    have hr7 : Room 7 _ := hr.mono (by decide)
    have hr9 : Room 9 _ := hr.mono (by decide)
    have hr17 : Room 17 _ := hr.mono (by decide)
    refine ⟨_, pss_cons (ps_for PassesOwn.never rfl (pi_range1 (by rfl) mr (pa_cons (pe_callB (call_max2 rfl) (by rfl) mmax (by decide +kernel) (pa_cons pe_int (pa_cons (pe_callB (call_min2 rfl) (by rfl) mmin (by decide +kernel) (pa_cons pe_int (pa_cons (pe_callB call_len_seq (by rfl) ml PySem.boot_len (pa_cons (pv 0) pa_nil)) pa_nil))) pa_nil))) pa_nil)) (pg_name (i := 1) scLaw.nd rfl (Or.inl rfl))
        (pss_cons (ps_set (i := 2) scLaw.nd rfl (Or.inr rfl) (pe_call GS hr1 (by rfl) mS kS bS .nil pass0 (pa_cons (pv 0) (pa_cons (pv 1) pa_nil))))
        (pss_one (ps_for PassesOwn.never rfl (pi_range1 (by rfl) mr (pa_cons pe_int pa_nil)) (pg_name (i := 3) scLaw.nd rfl (Or.inl rfl))
          (pss_cons (ps_asg (pe_call GU hr7 (by rfl) mU kU bU .nil pass0 (pa_cons (pv 2) pa_nil)) (pg_tup rfl (pgs_cons (pg_name (i := 4) scLaw.nd rfl (Or.inr rfl)) (pgs_cons (pg_name (i := 5) scLaw.nd rfl (Or.inl rfl)) (pgs_cons (pg_name (i := 6) scLaw.nd rfl (Or.inl rfl)) pgs_nil)))))
          (pss_cons (ps_set (i := 7) scLaw.nd rfl (Or.inr rfl) (pe_call GT hr9 (by rfl) mT kT bT .nil pass0 (pa_cons (pv 2) (pa_cons (pv 4) (pa_cons pe_int pa_nil)))))
          (pss_cons (ps_set (i := 8) scLaw.nd rfl (Or.inl rfl) (pe_lst (pa_cons (pv 7) (pa_cons (pe_callTy call_list_of (by rfl) mli (by decide +kernel) (pa_cons (pv 7) pa_nil)) (pa_cons (pe_call GA hr2 (by rfl) mA kA bA .nil pass0 (pa_cons (pv 2) pa_nil)) (pa_cons (pe_tup (pa_cons (pe_tup (pa_cons (pe_tup (pa_cons (pe_tup (pa_cons (pe_ix ix_list (pv 4) pe_int (fun _ _ => rfl)) pa_nil)) (pa_cons pe_str pa_nil))) pa_nil)) pa_nil)) (pa_cons (pe_tup (pa_cons (pe_tup (pa_cons (pe_ix ix_list (pv 4) pe_int (fun _ _ => rfl)) (pa_cons pe_str pa_nil))) pa_nil)) pa_nil)))))))
          (pss_cons (ps_set (i := 8) scLaw.nd rfl (Or.inl rfl) (pe_op op_cat (pv 8) (pe_lst (pa_cons (pe_tup (pa_cons (pe_tup (pa_cons (pe_tup (pa_cons (pe_tup pa_nil) (pa_cons pe_str pa_nil))) pa_nil)) pa_nil)) (pa_cons (pe_tup (pa_cons (pe_tup (pa_cons (pe_tup (pa_cons (pe_tup (pa_cons pe_str pa_nil)) (pa_cons pe_str pa_nil))) pa_nil)) pa_nil)) (pa_cons (pe_tup (pa_cons (pe_tup pa_nil) (pa_cons (pe_tup pa_nil) pa_nil))) (pa_cons (pe_tup (pa_cons (pe_tup (pa_cons (pe_tup (pa_cons (pe_tup (pa_cons (pe_ix ix_list (pv 4) pe_int (fun _ _ => rfl)) pa_nil)) (pa_cons pe_str (pa_cons pe_int pa_nil)))) pa_nil)) pa_nil)) pa_nil)))))))
          (pss_cons (ps_set (i := 9) scLaw.nd rfl (Or.inl rfl) (pe_op op_add pe_int (pe_call GD hr1 (by rfl) mD kD bD .nil pass0 (pa_cons (pv 2) (pa_cons pe_int pa_nil)))))
          (pss_cons (ps_set (i := 10) scLaw.nd rfl (Or.inl rfl) (pe_tup (pa_cons (pe_tup (pa_cons (pe_ix ix_list (pv 4) pe_int (fun _ _ => rfl)) pa_nil)) (pa_cons pe_str pa_nil))))
          (pss_cons (ps_set (i := 8) scLaw.nd rfl (Or.inl rfl) (pe_op op_cat (pv 8) (pe_lst (pa_cons (pe_op op_repT (pe_tup (pa_cons (pe_tup (pa_cons (pv 10) pa_nil)) pa_nil)) (pv 9)) (pa_cons (pe_tup (pa_cons (pe_op op_repT (pe_tup (pa_cons (pv 10) pa_nil)) (pe_op op_add (pv 9) pe_int)) pa_nil)) (pa_cons (pe_op op_repT (pe_tup (pa_cons (pe_tup pa_nil) pa_nil)) (pv 9)) (pa_cons (pe_tup (pa_cons (pe_op op_catW (pe_op op_repT (pe_tup (pa_cons (pv 10) pa_nil)) (pv 9)) (pe_tup (pa_cons (pe_slice sl_tupW (pv 10) po_none (po_some pe_int)) pa_nil))) pa_nil)) pa_nil)))))))
          (pss_one (ps_for PassesOwn.never rfl (pi_list (pe_op op_cat (pv 8) (pe_lc (own := [("more", 15)]) (g := gName 15) (tt := tYes) (te := tCall (spBent K 15) [] E0 (tCons (tVar 2) (tCons (tVar 7) tNil))) rfl scLaw.nd (pi_range1 (by rfl) mr (pa_cons pe_int pa_nil)) (blkOk_by (N := nL) (sc := defScope sLaw) (by decide +kernel)) (fun _ _ _ _ _ => pg_name (i := 15) scLaw.nd rfl (Or.inl rfl)) (fun _ _ _ _ _ => pts_nil) (fun _ _ _ _ _ => (pe_call GB hr17 (by rfl) mB kB bB .nil pass0 (pa_cons (pv 2) (pa_cons (pv 7) pa_nil))))))) (pg_name (i := 11) scLaw.nd rfl (Or.inl rfl))
            (pss_cons (ps_set (i := 12) scLaw.nd rfl (Or.inl rfl) (pe_and (pe_callB call_isi (by rfl) mi (by decide +kernel) (pa_cons (pv 11) (pa_cons (pe_bltn (v := .ty "tuple") (u := .type "tuple") (by rfl) mt (by decide +kernel) rfl) pa_nil))) (pe_one (pe_callB (cr_all rfl) (by rfl) ma (by decide +kernel) (pa_cons (pe_lc (own := [("one", 10)]) (g := gName 10) (tt := tYes) (te := tCall (spIL K 21) [] E0 (tCons (tVar 4) (tCons (tVar 10) tNil))) rfl scLaw.nd (pi_tup (pv 11)) (blkOk_by (N := nL) (sc := defScope sLaw) (by decide +kernel)) (fun _ _ _ _ _ => pg_name (i := 10) scLaw.nd rfl (Or.inl rfl)) (fun _ _ _ _ _ => pts_nil) (fun _ _ _ _ _ => (pe_callG GL hc hr (by rfl) mL kL bL (pa_cons (pv 4) (pa_cons (pv 10) pa_nil))))) pa_nil)))))
            (pss_cons (ps_set (i := 13) scLaw.nd rfl (Or.inl rfl) (pe_lst (pa_cons (pe_call GI hr5 (by rfl) mI kI bI .nil pass0 (pa_cons (pv 6) (pa_cons (pv 11) pa_nil))) (pa_cons (pe_callK (E := E0) GI hr5 (by rfl) mI kI nI (pk_cons (pv 11) (pk_cons (pv 6) pk_nil))) pa_nil))))
            (pss_cons (ps_set (i := 14) scLaw.nd rfl (Or.inl rfl) (pe_callB (call_reprD hc hr1) (by rfl) mrp (by decide +kernel) (pa_cons (pv 11) pa_nil)))
            (pss_one (ps_if (PW.pt (pw_or (pt_cmpR op_ne (pe_callB (call_reprD hc hr1) (by rfl) mrp (by decide +kernel) (pa_cons (pv 13) pa_nil)) (pe_callB (call_reprD hc hr1) (by rfl) mrp (by decide +kernel) (pa_cons (pe_lst (pa_cons (pv 12) (pa_cons (pv 12) pa_nil))) pa_nil)) (nomark _)) (pw_or1 (pt_cmpR op_ne (pe_callB (call_reprD hc hr1) (by rfl) mrp (by decide +kernel) (pa_cons (pv 11) pa_nil)) (pv 14) (nomark _)))))
              (pss_one (ps_ret pe_bl))
              pss_nil))))))))))))))))))
      (pss_one (ps_ret (pe_and (pe_cmpR op_isBl (pe_call GI hr5 (by rfl) mI kI bI .nil pass0 (pa_cons (pe_makeKw (ks := []) M GX hr5 (by rfl) T.mgC pk_nil) (pa_cons (pe_tup pa_nil) pa_nil))) pe_bl (nomark _)) (pe_one (pe_cmpR op_isBl (pe_call GI hr5 (by rfl) mI kI bI .nil pass0 (pa_cons (pe_makeKw (ks := []) M GX hr5 (by rfl) T.mgC pk_nil) (pa_cons (pe_tup (pa_cons (pe_tup pa_nil) pa_nil)) pa_nil))) pe_bl (nomark _)))))), ?_⟩
    have hl : (ns.map V.int).length = ns.length := List.length_map _
    have cm_ : ∀ z : Nat, z ≤ 63 → (1 : Int) ≤ (if (if ((z : Nat) : Int) < 4 then ((z : Nat) : Int) else 4) > 1 then (if ((z : Nat) : Int) < 4 then ((z : Nat) : Int) else 4) else 1) ∧ (if (if ((z : Nat) : Int) < 4 then ((z : Nat) : Int) else 4) > 1 then (if ((z : Nat) : Int) < 4 then ((z : Nat) : Int) else 4) else 1) ≤ 4 := fun z hz => by
      split <;> split at * <;> omega
    have cb := cm_ (ns.map V.int).length (by omega)
    refine ⟨_, rfl, a, _, rfl, .inl hS, _, _, rfl, _, _, rfl, _, rfl, (by omega), (by omega), ?_⟩
    generalize (if (if (((ns.map V.int).length : Nat) : Int) < 4 then (((ns.map V.int).length : Nat) : Int) else 4) > 1 then (if (((ns.map V.int).length : Nat) : Int) < 4 then (((ns.map V.int).length : Nat) : Int) else 4) else 1) = many at cb ⊢
    refine for_range (lo := 0) (fun i σ H' => ∃ v1 v2 v3 v4 v5 v6 v7 v8 v9 v10 v11 v12 v13 v14 v15, σ = [some (.ref a), v1, v2, v3, v4, v5, v6, v7, v8, v9, v10, v11, v12, v13, v14, v15] ∧ Same H H') ⟨_, _, _, _, _, _, _, _, _, _, _, _, _, _, _, rfl, Same.refl H⟩ ?_ ?_
    · rintro i σ H0 hi ⟨v1, v2, v3, v4, v5, v6, v7, v8, v9, v10, v11, v12, v13, v14, v15, rfl, sm⟩
      refine ⟨_, rfl, _, rfl, a, ns, (0 + (i : Int)), rfl, sm.seq hS, h63, (by omega), fun s H1 s1 nS sr1 => ?_⟩
      have nSH : H s = none := sm.free nS
      refine ⟨4, rfl, (by decide), (by decide), ?_⟩
      refine for_range (lo := 0) (fun t σ H' => ∃ v3 v4 v5 v6 v7 v8 v9 v10 v11 v12 v13 v14 v15, σ = [some (.ref a), some (.int (0 + (i : Int))), some (.ref s), v3, v4, v5, v6, v7, v8, v9, v10, v11, v12, v13, v14, v15] ∧ Keep s H1 H' ∧ Src H' s) ⟨_, _, _, _, _, _, _, _, _, _, _, _, _, rfl, Keep.refl s H1, sr1⟩ ?_ ?_
      · rintro t σ H2 ht ⟨v3, v4, v5, v6, v7, v8, v9, v10, v11, v12, v13, v14, v15, rfl, kp, sr2⟩
        refine ⟨_, rfl, s, rfl, sr2, fun H3 p L O x ns4 ls ls' T1 T2 B k3 sr3 hp hL l1 l7 dr en lok dO tab sB nB kin => ?_⟩
        refine ⟨p, _, rfl, SqT.of hp, rfl, _, _, rfl, _, _, rfl, _, _, rfl, rfl, ?_⟩
        have nok4 : ∀ z ∈ ns4, NameOk z := fun z hz => (dr.2 z hz).1
        have Ls : L ≠ s := sr3.ne hL
        refine ⟨_, rfl, _, rfl, s, L, ns4, 4, rfl, (by decide), sr3, hL, l1, (by omega), nok4, fun H5 vi di k35 sr5 hdi lay => ?_⟩
        have flat := layers_flat lay
        obtain ⟨pl, wi⟩ := layers_pl nok4 lay (by decide)
        obtain ⟨ok7, sh7, dp7⟩ := pl_out 14 di pl
        have no1 := nok_src sr5
        have hi5 := dp_stay (stay_hid no1) hdi flat
        have oi : Out 900000 14 di := ⟨ok7, sh7, wi, dp7⟩
        obtain ⟨gs, eg, lg, hgs⟩ := lay
        subst eg
        obtain ⟨gp, gv, egv, hgp, hgv⟩ : ∃ gp gv, vi = .ref gp ∧ SqT K (hid (fun b => b = s) H5) gp gv ∧ DpAll K (hid (fun b => b = s) H5) gv gs := by
          cases hi5 with
          | tup h1 h2 => exact ⟨_, _, rfl, h1, h2⟩
        subst egv
        have hL5 := k35 L _ Ls hL
        obtain ⟨z0, hz0⟩ : ∃ z0, ns4[0]? = some z0 := ⟨ns4[0], List.getElem?_eq_getElem (by omega)⟩
        have nz0 : NameOk z0 := nok4 z0 (List.mem_of_getElem? hz0)
        have ws_ : okD (.str "drop") = true ∧ okD (.str "back") = true ∧ okD (.str "zzzz") = true := by decide +kernel
        have lab : ∀ {G : Hp} {σ : L2.St} {k : Nat}, Keep s H5 G → σ[4]? = some (some (.ref L)) → MkO K s (fun b => b = s) G σ (tOp (rIxL K) (tVar 4) (tC (.int 0))) 100 k := fun kG e => mk_ix e (kG L _ Ls hL5) Ls hz0 nz0
        have word : ∀ {G : Hp} {σ : L2.St} {k : Nat} {z : Str}, okD (.str z) = true → 10 * z.length + 2 ≤ 100 → MkO K s (fun b => b = s) G σ (tC (.str z)) 100 k := fun o l => mk_str o l
        have v7 : ∀ {σ : L2.St}, σ[7]? = some (some (.ref gp)) → MkO K s (fun b => b = s) H5 σ (tVar 7) 900000 20 := fun e => mk_var e rfl (.tup hgp hgv) (oi.mono (Nat.le_refl _) (by decide))
        have l7 : ∀ {σ : L2.St}, σ[7]? = some (some (.ref gp)) → MkO K s (fun b => b = s) H5 σ (tCB (rListOf K) (tCons (tVar 7) tNil)) 900000 20 := fun e => mk_listOf rfl e hgp hgv (oi.mono (Nat.le_refl _) (by decide))
        refine q_gs (q_asg ?_)
        have A1 := fun (σ : L2.St) (e2 : σ[2]? = some (some (.ref s))) (e4 : σ[4]? = some (some (.ref L))) (e7 : σ[7]? = some (some (.ref gp))) =>
          mk_cons (K := K) (k := 20) (v7 e7) (mk_cons (l7 e7) (mk_cons ((mk_any e2).mono (Nat.le_refl _) (by decide))
            (mk_cons (mk_tup (k := 19) (mk_cons (mk_tup (k := 18) (mk_cons (mk_tup (k := 17) (mk_cons (mk_tup (k := 16) (mk_cons (lab (Keep.refl s H5) e4) mk_nil) (by decide)) (mk_cons (word ws_.1 (by decide)) mk_nil)) (by decide)) mk_nil) (by decide)) mk_nil) (by decide))
            (mk_cons (mk_tup (k := 19) (mk_cons (mk_tup (k := 18) (mk_cons (lab (Keep.refl s H5) e4) (mk_cons (word ws_.1 (by decide)) mk_nil)) (by decide)) mk_nil) (by decide)) (mk_nil (N := fun b => b = s) (s := s) (G := H5) (σ := σ))))))
        refine some_new (M := 2000000) (k' := 20) (A1 _ rfl rfl rfl) sr5 (by decide) (by decide) (by decide) fun H6 S1 ws1 k6 sr6 some1 len1 => ?_
        refine q_gs (q_asg ?_)
        have A2 := fun (σ : L2.St) (e4 : σ[4]? = some (some (.ref L))) =>
          mk_cons (K := K) (k := 20) (mk_tup (k := 19) (mk_cons (mk_tup (k := 18) (mk_cons (mk_tup (k := 17) (mk_cons (mk_tup (k := 16) mk_nil (by decide)) (mk_cons (word ws_.1 (by decide)) mk_nil)) (by decide)) mk_nil) (by decide)) mk_nil) (by decide))
            (mk_cons (mk_tup (k := 19) (mk_cons (mk_tup (k := 18) (mk_cons (mk_tup (k := 17) (mk_cons (mk_tup (k := 16) (mk_cons (word ws_.2.2 (by decide)) mk_nil) (by decide)) (mk_cons (word ws_.1 (by decide)) mk_nil)) (by decide)) mk_nil) (by decide)) mk_nil) (by decide))
            (mk_cons (mk_tup (k := 19) (mk_cons (mk_tup (k := 18) mk_nil (by decide)) (mk_cons (mk_tup (k := 18) mk_nil (by decide)) mk_nil)) (by decide))
            (mk_cons (mk_tup (k := 19) (mk_cons (mk_tup (k := 18) (mk_cons (mk_tup (k := 17) (mk_cons (mk_tup (k := 16) (mk_cons (lab k6 e4) mk_nil) (by decide)) (mk_cons (word ws_.2.1 (by decide)) (mk_cons (mk_int (i := 1) (by decide)) mk_nil))) (by decide)) mk_nil) (by decide)) mk_nil) (by decide)) (mk_nil (N := fun b => b = s) (s := s) (G := H6) (σ := σ)))))
        refine some_cat (i := 8) (A2 _ rfl) rfl some1 sr6 (by decide) (by omega) (by decide) (by decide) fun H7 S2 ws2 k7 sr7 some2 len2 => ?_
        have k57 := k6.trans k7
        refine q_gs (q_asg ?_)
        refine ⟨_, rfl, s, 40, rfl, sr7, (by decide), (by decide), fun d9 H8 d9a d9b sr8 k8 => ⟨_, _, rfl, rfl, ?_⟩⟩
        obtain ⟨c, rfl⟩ : ∃ c : Nat, d9 = (c : Int) := ⟨d9.toNat, by omega⟩
        have k58 := k57.trans k8
        refine q_gs (q_asg ?_)
        have A4 := fun (σ : L2.St) (e4 : σ[4]? = some (some (.ref L))) =>
          mkT_tup (mk_cons (K := K) (k := 2) (mk_tup (k := 1) (mk_cons (lab k58 e4) mk_nil) (by decide)) (mk_cons (word ws_.2.1 (by decide)) (mk_nil (N := fun b => b = s) (s := s) (G := H8) (σ := σ)))) (by decide)
        refine A4 _ rfl H8 _ (Keep.refl s H8) sr8 (nok_src sr8) fun H9 op ovs ods k9 sr9 hop hods olen oall owt => ?_
        have k59 := k58.trans k9
        have some9 := (some2.keep k8).keep k9
        have oo : Out 400 3 (.tuple ods) := (out_tup (by omega) oall (by omega)).1
        obtain ⟨o1, o2, od1, od2, rfl, rfl, ho1, ho2⟩ : ∃ o1 o2 od1 od2, ovs = [o1, o2] ∧ ods = [od1, od2] ∧ Dp K (hid (fun b => b = s) H9) o1 od1 ∧ Dp K (hid (fun b => b = s) H9) o2 od2 := by
          cases hods with
          | nil => cases olen
          | cons a1 r1 =>
            cases r1 with
            | nil => cases olen
            | cons a2 r2 =>
              cases r2 with
              | nil => exact ⟨_, _, _, _, rfl, rfl, a1, a2⟩
              | cons a3 r3 =>
                simp at olen
        refine q_gs (q_asg ?_)
        have many : (7 + (c : Int)) = ((7 + c : Nat) : Int) := by omega
        have ov : ∀ {σ : L2.St} {k : Nat}, σ[10]? = some (some (.ref op)) → 3 ≤ k → MkO K s (fun b => b = s) H9 σ (tVar 10) 400 k := fun e hk => mk_var e rfl (.tup hop hods) (oo.mono (Nat.le_refl _) hk)
        have mv : ∀ {σ : L2.St}, σ[9]? = some (some (.int (7 + (c : Int)))) → ∀ H Q, Q (.int ((7 + c : Nat) : Int)) H → tVar 9 σ H Q := fun e H Q q => ⟨_, e, by rw [many]; exact q⟩
        have mv6 : ∀ {σ : L2.St}, σ[9]? = some (some (.int (7 + (c : Int)))) → ∀ H Q, Q (.int ((7 + c + 6 : Nat) : Int)) H → tOp (rI0 fun i j => .int (i + j)) (tVar 9) (tC (.int 6)) σ H Q := fun e H Q q => ⟨_, e, _, _, rfl, rfl, by
          show Q (.int (7 + (c : Int) + 6)) H
          rw [show (7 + (c : Int) + 6) = ((7 + c + 6 : Nat) : Int) from by omega]
          exact q⟩
        have cutV1 : cutV [o1, o2] none (some ((1 : Nat) : Int)) = [o1] := cut_to _ 1 (by show 1 ≤ 2; decide)
        have cut1 : ∀ {σ : L2.St}, σ[10]? = some (some (.ref op)) → MkO K s (fun b => b = s) H9 σ (tSl (rSlW K) (tVar 10) tNoPart (tPart (tC (.int 1)))) 403 4 := fun e H Q kp sr nok q => by
          refine ⟨_, e, 1, rfl, op, [o1, o2], rfl, Same.tup hid_same (Same.tup (hid_keep (N := fun b => b = s) kp rfl) hop), fun pc Hc sc hpc => ?_⟩
          have hpc' : SqT K Hc pc [o1] := by
            rw [← cutV1]
            exact hpc
          have nokc := nok.keep (Keep.of sc) (sr.same sc)
          refine q Hc (.ref pc) (.tuple [od1]) (Keep.of sc) (sr.same sc) (.tup (sqT_stay (stay_hid nokc) hpc') (.cons (dp_same (hid_keep (N := fun b => b = s) (kp.trans (Keep.of sc)) rfl) ho1) .nil)) ?_
          obtain ⟨a1, a2, a3⟩ := oall od1 (List.mem_cons_self ..)
          refine (out_tup (k := 3) (by show 1 ≤ 1000; decide) (fun e he => ?_) ?_).1
          · rw [List.mem_singleton.mp he]
            exact ⟨a1, a2, by omega⟩
          · have : wtAll [od1, od2] ≤ _ := owt
            show wtD od1 + 2 + 0 + 3 ≤ 403
            have h2 : wtAll [od1, od2] = wtD od1 + 2 + (wtD od2 + 2 + 0) := rfl
            omega
        have A5 := fun (σ : L2.St) (e9 : σ[9]? = some (some (.int (7 + (c : Int))))) (e10 : σ[10]? = some (some (.ref op))) =>
          mk_cons (K := K) (k := 20) (MkT.out (mkT_rep (c := 7 + c) (mkT_tup (k := 19) (mk_cons (mk_tup (k := 18) (mk_cons (ov e10 (by decide)) mk_nil) (by decide)) mk_nil) (by decide)) (mv e9) (by omega) (by omega) (by decide) (by decide)) (by omega))
            (mk_cons (mk_tup (k := 19) (mk_cons (MkT.out (mkT_rep (c := 7 + c + 6) (mkT_tup (k := 18) (mk_cons (ov e10 (by decide)) mk_nil) (by decide)) (mv6 e9) (by omega) (by omega) (by decide) (by decide)) (by omega)) mk_nil) (by decide))
            (mk_cons (MkT.out (mkT_rep (c := 7 + c) (mkT_tup (k := 19) (mk_cons (mk_tup (k := 18) mk_nil (by decide)) mk_nil) (by decide)) (mv e9) (by omega) (by omega) (by decide) (by decide)) (by omega))
            (mk_cons (mk_tup (k := 19) (mk_cons (MkT.out (mkT_cat (mkT_rep (c := 7 + c) (mkT_tup (k := 18) (mk_cons (ov e10 (by decide)) mk_nil) (by decide)) (mv e9) (by omega) (by omega) (by decide) (by decide)) (mkT_tup (k := 18) (mk_cons ((cut1 e10).mono (Nat.le_refl _) (by decide)) mk_nil) (by decide)) (by omega)) (by omega)) mk_nil) (by decide)) (mk_nil (N := fun b => b = s) (s := s) (G := H9) (σ := σ)))))
        refine some_cat (i := 8) (A5 _ rfl rfl) rfl some9 sr9 (by decide) (by omega) (by omega) (by decide) fun H10 S3 ws3 k10 sr10 some3 len3 => ?_
        have k510 := k59.trans k10
        have hdi10 : Dp K (hid (fun b => b = s) H10) (.ref gp) (.tuple gs) := dp_same (hid_keep (N := fun b => b = s) k510 rfl) (.tup hgp hgv)
        have go := fun (σ : L2.St) (e8 : σ[8]? = some (some (.ref S3))) (own : List Nat) (hw) (hs) (hv) (Q' : VK) (done) (D : Addr) (nD : H10 D = none) => some_bent (K := K) (σ := σ) (i := 8) (j := 15) (jv := 7) (B := 15) (n := 10) (nd := 14) (M := 2000000) (k' := 20) (own := own) e8 some3 sr10 hdi10 pl (by decide) (by decide) (by decide) (by omega) (by omega) (by decide) hw hs hv (Q := Q') done D nD
        refine ⟨_, rfl, 10, rfl, (by decide), (by decide), fun D nD => ?_⟩
        refine go _ rfl _ (fun _ => rfl) (fun _ => rfl) (fun _ => rfl) _ (fun H11 E9 ws4 k11 sr11 hE vals len4 => ?_) D nD
        have k3E := k35.trans (k510.trans k11)
        have hL3 := k3E L _ Ls hL
        have kin3 : KIn C H11 x ls ls' T2 := kin.same fun b o e => k3E b o (nB b o e) (sB b o e)
        refine ⟨E9, rfl, ⟨_, SqL.of hE⟩, ?_⟩
        refine for_list (K := K) (a := E9) (xs := ws4) (fun j σ H' => ∃ w11 w12 w13 w14, σ = [some (.ref a), some (.int (0 + (i : Int))), some (.ref s), some (.int (0 + (t : Int))), some (.ref L), some (.ref O), some (.ref x), some (.ref gp), some (.ref S3), some (.int (7 + (c : Int))), some (.ref op), w11, w12, w13, w14, v15] ∧ Same H11 H') ⟨_, _, _, _, rfl, Same.refl H11⟩ (fun j σ H' hj ⟨_, _, _, _, _, e⟩ => SqL.of (e _ _ hE)) ?_ ?_
        · rintro j v σ H' hv ⟨w11, w12, w13, w14, rfl, sm'⟩
          obtain ⟨d, hd0, out⟩ := vals v (List.mem_of_getElem? hv)
          have hd := dp_same sm' hd0
          have fit := out.fit (by decide)
          have shw := shown_le d out.ok out.sh
          have shl : d.shown.length ≤ sizeLine := by
            have := out.wt
            rw [sizeLine_eq]
            omega
          have dep := out.dp
          have nd := nd_wt d out.ok
          have wt := out.wt
          refine q_gt (q_asg ?_)
          refine q_expr (R := fun y J => y = .bl (stackD ns4 d) ∧ Same H' J) ?_ ?_
          · rintro y J1 ⟨rfl, j01⟩
            have m1a := sm'.trans j01
            refine ⟨(_), rfl, _, rfl, x, v, ls, ls', T2, d, rfl, kin3.same m1a, dp_same j01 hd, fit, (by omega), fun J2 j2 => ?_⟩
            have m2 := m1a.trans j2
            refine ⟨_, rfl, _, rfl, rfl, x, v, ls, ls', T2, d, rfl, kin3.same m2, dp_same (j01.trans j2) hd, fit, (by omega), fun J3 j3 => ?_⟩
            have m3 := m2.trans j3
            rw [en]
            obtain ⟨t1, t2, t3, t4⟩ := two_bl (stackD ns4 d)
            refine ⟨(by show 2 ≤ sizeLine; decide), fun p1 np1 => ?_⟩
            have j4 := same_upd (o := .lst [.bl (stackD ns4 d), .bl (stackD ns4 d)]) np1
            have h4 := upd_same (H := J3) (a := p1) (o := .lst [.bl (stackD ns4 d), .bl (stackD ns4 d)])
            generalize upd J3 p1 (.lst [.bl (stackD ns4 d), .bl (stackD ns4 d)]) = J4 at j4 h4 ⊢
            have m4 := m3.trans j4
            refine ⟨_, rfl, v, d, rfl, dp_same m4 hd0, out.sh, fit.lay, (by omega), shl, ?_⟩
            refine ⟨_, rfl, .ref p1, .list [.bool (stackD ns4 d), .bool (stackD ns4 d)], rfl, .lst (SqL.of h4) (.cons (.bl _) (.cons (.bl _) .nil)), t1, t2, t3, t4, ?_⟩
            refine ⟨_, rfl, _, rfl, (by show 2 ≤ sizeLine; decide), fun p2 np2 => ?_⟩
            have j5 := same_upd (o := .lst [.bl (stackD ns4 d), .bl (stackD ns4 d)]) np2
            refine ⟨.ref p2, .list [.bool (stackD ns4 d), .bool (stackD ns4 d)], rfl, .lst (SqL.of upd_same) (.cons (.bl _) (.cons (.bl _) .nil)), t1, t2, t3, t4, rfl, false, congrArg V.bl (congrArg (fun b => !b) (decide_eq_true rfl)), iteF ?_⟩
            have m5 := m4.trans j5
            refine ⟨_, rfl, v, d, rfl, dp_same m5 hd0, out.sh, fit.lay, (by omega), shl, _, rfl, rfl, false, congrArg V.bl (congrArg (fun b => !b) (decide_eq_true rfl)), iteF ?_⟩
            exact ⟨_, _, _, _, rfl, m5⟩
          · intro Z hZ
            refine ⟨_, rfl, v, .ty "tuple", _, _, isTupD d, rfl, .ty "tuple", dp_ty hd, kit_ty (kt_tuple d), _, rfl, ?_⟩
            cases d with
            | tuple ds =>
              cases hd with
              | tup hs ha2 =>
                rename_i ap xs
                have lx := dpAll_len ha2
                have few := fit.few
                refine iteT ⟨_, rfl, ap, rfl, ⟨_, hs⟩, fun D2 nD2 => ?_⟩
                refine lc_tup (K := K) (a := ap) (xs := xs) (fun j J => Same H' J ∧ J D2 = some (.lst (((ds.take j).map (guardD ns4)).map V.bl))) ⟨same_upd nD2, upd_same⟩ (fun j J hj q => Same.tup q.1 hs) ?_ ?_
                · rintro j u J hu ⟨sj, hD2⟩
                  obtain ⟨e, he, hde⟩ := dpAll_at (dpAll_same sj ha2) hu
                  have me : e ∈ ds := List.mem_of_getElem? he
                  have hj : j < ds.length := (List.getElem?_eq_some_iff.mp he).1
                  obtain ⟨oe, de⟩ := out.kid me
                  refine ⟨rfl, _, rfl, _, rfl, L, ns4, u, e, rfl, (sm'.trans sj) _ _ hL3, hde, oe, by omega, fun J5 s5 => ⟨_, s5 _ _ hD2, ?_, same_past nD2 (sj.trans s5), ?_⟩⟩
                  · rw [List.length_map, List.length_map, List.length_take]
                    exact Nat.lt_of_le_of_lt (show _ ≤ 1000 by omega) (by decide)
                  · rw [upd_same, List.take_add_one, he, List.map_append, List.map_append]
                    rfl
                · rintro J ⟨sj, hD2⟩
                  rw [lx, List.take_of_length_le (Nat.le_refl _)] at hD2
                  refine ⟨D2, _, rfl, SqL.of hD2, ?_⟩
                  have e : ((ds.map (guardD ns4)).all id) = stackD ns4 (.tuple ds) := by
                    rw [List.all_map]
                    rfl
                  rw [e]
                  exact hZ _ _ ⟨rfl, sj⟩
            | _ => exact iteF (hZ _ _ ⟨rfl, Same.refl _⟩)
        · rintro σ H' ⟨w11, w12, w13, w14, rfl, sm'⟩
          exact ⟨_, _, _, _, _, _, _, _, _, _, _, _, _, rfl, (kp.trans k3).trans (k3E.trans (Keep.of sm')), sr11.same sm'⟩
      · rintro σ H2 ⟨v3, v4, v5, v6, v7, v8, v9, v10, v11, v12, v13, v14, v15, rfl, kp, sr2⟩
        exact ⟨_, _, _, _, _, _, _, _, _, _, _, _, _, _, _, rfl, fun b o e => kp b o (ne_of_none e nSH) (s1 _ _ (sm _ _ e))⟩
    · rintro σ H0 ⟨v1, v2, v3, v4, v5, v6, v7, v8, v9, v10, v11, v12, v13, v14, v15, rfl, sm⟩
      refine ⟨rfl, fun x dx nx ndx ne => ?_⟩
      refine ⟨dx, [], upd_same, rfl, .nil, lnsOk_nil, .inl rfl, fun H3 s3 ko => ⟨rfl, ?_⟩⟩
      have kb : KAt (fun _ => True) C H3 x [] := ⟨trivial, dx, ko.mono fun _ _ => trivial⟩
      obtain ⟨l', T', kin⟩ := kb.kin
      refine ⟨(by show 0 ≤ sizeLine; decide), fun p np => ?_⟩
      have s4 := same_upd (o := .tup []) np
      refine ⟨x, .ref p, [], l', T', .tuple [], rfl, kin.same s4, .tup (SqT.of upd_same) .nil, ⟨by decide +kernel, by decide⟩, by decide, fun H5 s5 => ?_⟩
      have e1 : stackD (nms []) (.tuple []) = true := rfl
      rw [e1]
      refine ⟨_, _, rfl, rfl, true, rfl, iteT ?_⟩
      refine ⟨rfl, fun x2 dx2 nx2 ndx2 ne2 => ?_⟩
      refine ⟨dx2, [], upd_same, rfl, .nil, lnsOk_nil, .inl rfl, fun H6 s6 ko2 => ⟨rfl, ?_⟩⟩
      have kb2 : KAt (fun _ => True) C H6 x2 [] := ⟨trivial, dx2, ko2.mono fun _ _ => trivial⟩
      obtain ⟨l2, T2', kin2⟩ := kb2.kin
      refine ⟨(by show 0 ≤ sizeLine; decide), fun p2 np2 => ⟨(by show 1 ≤ sizeLine; decide), fun p3 np3 => ?_⟩⟩
      have s7 := same_upd (o := .tup []) np2
      have s8 := same_upd (o := .tup [.ref p2]) np3
      refine ⟨x2, .ref p3, [], l2, T2', .tuple [.tuple []], rfl, kin2.same (s7.trans s8), .tup (SqT.of upd_same) (.cons (.tup (SqT.of (s8 _ _ upd_same)) .nil) .nil), ⟨by decide +kernel, by decide⟩, by decide, fun H7 s9 => ?_⟩
      have e2 : stackD (nms []) (.tuple [.tuple []]) = true := by
        show (true && (guardD (nms []) (.tuple []) && true)) = true
        rw [guard_eq]
        rfl
      rw [e2]
      exact ⟨_, _, rfl, rfl, k _⟩
end
end K1

namespace K1
open PySem PySem.Spec PyProof.Rows L2 Own
/-! ### what the top has written -/
theorem kbn_stack {K : PySem.W.Frag} {f : Addr} {fd : FuncData} (F : Fun K "is_stack" "is_stack" sIsStack f fd) : KBn K fd ["kinds", "thing"] 0 ["thing", "kinds"] (fun _ ws => ws.reverse) (fun _ zs => zs.reverse) := by
  obtain ⟨oc, od, kV, doc, pm, an, cdv, ct, osl, rfl, lk, hcd⟩ := F.ex
  refine ⟨fun s us ws _ l1 l2 => ?_, fun _ r => r.reverse⟩
  match us, ws, l1, l2 with
  | [], [x, y], _, _ => exact .of_eq rfl
theorem all_forms {P : Program} {w : World} {K : PySem.W.Frag} {mg : Str → Option Value} {base : Heap} {f g : Addr} {fd gd : FuncData} (F : Fun K "_law_random_form" "_law_random_form" sLawRandomForm f fd) (bT : Binds K fd ["source", "labels", "has_part", "depth"] []) (mT : mg "_law_random_form" = some (.ref f))
    (GD : FnOk P w K mg base CX0 1 g gd ["source", "many"] spDraw) (kD : PySem.W.keepIn K (.ref g) = true) (bD : Binds K gd ["source", "many"] []) (mD : mg "_law_draw" = some (.ref g)) (mr : mg "range" = none) (ml : mg "len" = none) (mt : mg "tuple" = none) :
    ∀ m, FnOk P w K mg base CX0 (m + 1) f fd ["source", "labels", "has_part", "depth"] (spRF K m)
  | 0 => form_none
  | m + 1 => form_step F (all_forms F bT mT GD kD bD mD mr ml mt m) bT mT GD kD bD mD mr ml mt
theorem all_bent {P : Program} {w : World} {K : PySem.W.Frag} {mg : Str → Option Value} {base : Heap} {f g a_ : Addr} {fd gd ad : FuncData} (F : Fun K "_law_bent" "_law_bent" sLawBent f fd) (bT : Binds K fd ["source", "value"] []) (mT : mg "_law_bent" = some (.ref f))
    (GD : FnOk P w K mg base CX0 1 g gd ["source", "many"] spDraw) (kD : PySem.W.keepIn K (.ref g) = true) (bD : Binds K gd ["source", "many"] []) (mD : mg "_law_draw" = some (.ref g))
    (GA : FnOk P w K mg base CX0 2 a_ ad ["source"] (spAny K)) (kA : PySem.W.keepIn K (.ref a_) = true) (bA : Binds K ad ["source"] []) (mA : mg "_law_any" = some (.ref a_))
    (ml : mg "len" = none) (mt : mg "tuple" = none) (mi : mg "isinstance" = none) (mli : mg "list" = none) :
    ∀ m, FnOk P w K mg base CX0 (m + 2) f fd ["source", "value"] (spBent K m)
  | 0 => bent_none
  | m + 1 => bent_step F (all_bent F bT mT GD kD bD mD GA kA bA mA ml mt mi mli m) bT mT GD kD bD mD GA kA bA mA ml mt mi mli
theorem all_lt {P : Program} {w : World} {K : PySem.W.Frag} {mg : Str → Option Value} {base : Heap} {f g : Addr} {fd gd : FuncData} (F : Fun K "_law_stars" "_law_stars" sLawStars f fd) (bT : Binds K fd ["labels", "value"] []) (mT : mg "_law_stars" = some (.ref f))
    (GM : FnOk P w K mg base CX0 1 g gd ["value"] (spMsg K)) (kM : PySem.W.keepIn K (.ref g) = true) (bM : Binds K gd ["value"] []) (mM : mg "_law_is_message" = some (.ref g))
    (ml : mg "len" = none) (mi : mg "isinstance" = none) (mt : mg "tuple" = none) (ms : mg "str" = none) (mn : mg "int" = none) (msu : mg "sum" = none) :
    ∀ m, FnOk P w K mg base CX0 (m + 1) f fd ["labels", "value"] (spLT K m)
  | 0 => lt_none
  | m + 1 => lt_step F (all_lt F bT mT GM kM bM mM ml mi mt ms mn msu m) bT mT GM kM bM mM ml mi mt ms mn msu
theorem all_layers {P : Program} {w : World} {K : PySem.W.Frag} {mg : Str → Option Value} {base : Heap} {f fD fL fF : Addr} {fd dD dL dF : FuncData} (F : Fun K "_law_random_layer" "_law_random_layer" sLawRandomLayer f fd) (bT : Binds K fd ["source", "labels", "depth"] []) (mT : mg "_law_random_layer" = some (.ref f))
    (GD : FnOk P w K mg base CX0 1 fD dD ["source", "many"] spDraw) (kD : PySem.W.keepIn K (.ref fD) = true) (bD : Binds K dD ["source", "many"] []) (mD : mg "_law_draw" = some (.ref fD))
    (GL : FnOk P w K mg base CX0 2 fL dL ["source", "labels"] (spLabs K)) (kL : PySem.W.keepIn K (.ref fL) = true) (bL : Binds K dL ["source", "labels"] []) (mL : mg "_law_some_labels" = some (.ref fL))
    (GF : FnOk P w K mg base CX0 4 fF dF ["source", "labels", "has_part", "depth"] (spRF K 3)) (kF : PySem.W.keepIn K (.ref fF) = true) (bF : Binds K dF ["source", "labels", "has_part", "depth"] []) (mF : mg "_law_random_form" = some (.ref fF))
    (mr : mg "range" = none) (mt : mg "tuple" = none) : ∀ m, FnOk P w K mg base CX0 (m + 5) f fd ["source", "labels", "depth"] (spRL K m)
  | 0 => rl_none
  | m + 1 => rl_step F (all_layers F bT mT GD kD bD mD GL kL bL mL GF kF bF mF mr mt m) bT mT GD kD bD mD GL kL bL mL GF kF bF mF mr mt
theorem all_il {P : Program} {w : World} {K : PySem.W.Frag} {mg : Str → Option Value} {base : Heap} {f fA fS : Addr} {fd dA dS : FuncData} (F : Fun K "_law_is_layer" "_law_is_layer" sLawIsLayer f fd) (bT : Binds K fd ["labels", "value"] []) (mT : mg "_law_is_layer" = some (.ref f))
    (GA : FnOk P w K mg base CX0 1 fA dA ["labels", "value"] (spAL K)) (kA : PySem.W.keepIn K (.ref fA) = true) (bA : Binds K dA ["labels", "value"] []) (mA : mg "_law_are_labels" = some (.ref fA))
    (GS : FnOk P w K mg base CX0 22 fS dS ["labels", "value"] (spLT K 21)) (kS : PySem.W.keepIn K (.ref fS) = true) (bS : Binds K dS ["labels", "value"] []) (mS : mg "_law_stars" = some (.ref fS))
    (ml : mg "len" = none) (mi : mg "isinstance" = none) (mt : mg "tuple" = none) (mrp : mg "repr" = none) : ∀ m, FnG P w K mg base (m + 22) f fd ["labels", "value"] (spIL K m)
  | 0 => il_none
  | m + 1 => il_step F (all_il F bT mT GA kA bA mA GS kS bS mS ml mi mt mrp m) bT mT GA kA bA mA GS kS bS mS ml mi mt mrp
theorem all_mk {l : PySem.W.OpenLaw} {w : World} {K : PySem.W.Frag} {h : Heap} {mg : Str → Option Value} {fa C pF f1 f2 f3 f4 f5 f6 f7 f8 f9 f10 f11 f12 f13 f14 f15 f16 f17 f18 f19 f20 f21 f22 f23 f24 f25 f26 f27 f28 f29 f30 f31 f32 f33 f34 : Addr} (X : K.In h) (G : h.Ns mainGlobals mg) (hfa : mg "law" = some (.ref fa))
    {restF : List Value} {tM tL tA : Tok} {od1 an1 od2 an2 od3 an3 od4 an4 od5 an5 od6 an6 od7 an7 od8 an8 od9 an9 od10 an10 od11 an11 od12 an12 od13 an13 od14 an14 od15 an15 od16 an16 od17 an17 od18 an18 od19 an19 od20 an20 od21 an21 od22 an22 od23 an23 od24 an24 od25 an25 od26 an26 od27 an27 od28 an28 od29 an29 od30 an30 od31 an31 od32 an32 od33 an33 od34 an34 : Option Addr} {sl1 sl2 sl3 sl4 sl5 sl6 sl7 sl8 sl9 sl10 sl11 sl12 sl13 sl14 sl15 sl16 sl17 sl18 sl19 sl20 sl21 sl22 sl23 sl24 sl25 sl26 sl27 sl28 sl29 sl30 sl31 sl32 sl33 sl34 : Array (Option Value)}
    {oc1 kV1 dc1 pm1 cd1 ct1 oc2 kV2 dc2 pm2 cd2 ct2 oc3 kV3 dc3 pm3 cd3 ct3 oc4 kV4 dc4 pm4 cd4 ct4 oc5 kV5 dc5 pm5 cd5 ct5 oc6 kV6 dc6 pm6 cd6 ct6 oc7 kV7 dc7 pm7 cd7 ct7 oc8 kV8 dc8 pm8 cd8 ct8 oc9 kV9 dc9 pm9 cd9 ct9 oc10 kV10 dc10 pm10 cd10 ct10 oc11 kV11 dc11 pm11 cd11 ct11 oc12 kV12 dc12 pm12 cd12 ct12 oc13 kV13 dc13 pm13 cd13 ct13 oc14 kV14 dc14 pm14 cd14 ct14 oc15 kV15 dc15 pm15 cd15 ct15 oc16 kV16 dc16 pm16 cd16 ct16 oc17 kV17 dc17 pm17 cd17 ct17 oc18 kV18 dc18 pm18 cd18 ct18 oc19 kV19 dc19 pm19 cd19 ct19 oc20 kV20 dc20 pm20 cd20 ct20 oc21 kV21 dc21 pm21 cd21 ct21 oc22 kV22 dc22 pm22 cd22 ct22 oc23 kV23 dc23 pm23 cd23 ct23 oc24 kV24 dc24 pm24 cd24 ct24 oc25 kV25 dc25 pm25 cd25 ct25 oc26 kV26 dc26 pm26 cd26 ct26 oc27 kV27 dc27 pm27 cd27 ct27 oc28 kV28 dc28 pm28 cd28 ct28 oc29 kV29 dc29 pm29 cd29 ct29 oc30 kV30 dc30 pm30 cd30 ct30 oc31 kV31 dc31 pm31 cd31 ct31 oc32 kV32 dc32 pm32 cd32 ct32 oc33 kV33 dc33 pm33 cd33 ct33 oc34 kV34 dc34 pm34 cd34 ct34 : Value}
    (aC : PySem.W.nsIn K mainGlobals "Kinds" = some (some (.ref C)))
    (a1 : PySem.W.nsIn K mainGlobals "is_name" = some (some (.ref f1)))
    (l1 : K.lookup f1 = some ⟨oc1, od1, .func (PySem.W.fnOf "is_name" "is_name" (defArgs sIsName) (defBody sIsName) (defScope sIsName) .none kV1 dc1 pm1 an1 cd1 ct1), sl1⟩)
    (c1 : PySem.W.codeIn K cd1 "is_name" = true)
    (k1 : PySem.W.keepIn K (.ref f1) = true)
    (a2 : PySem.W.nsIn K mainGlobals "is_pair" = some (some (.ref f2)))
    (l2 : K.lookup f2 = some ⟨oc2, od2, .func (PySem.W.fnOf "is_pair" "is_pair" (defArgs sIsPair) (defBody sIsPair) (defScope sIsPair) .none kV2 dc2 pm2 an2 cd2 ct2), sl2⟩)
    (c2 : PySem.W.codeIn K cd2 "is_pair" = true)
    (k2 : PySem.W.keepIn K (.ref f2) = true)
    (a3 : PySem.W.nsIn K mainGlobals "is_group" = some (some (.ref f3)))
    (l3 : K.lookup f3 = some ⟨oc3, od3, .func (PySem.W.fnOf "is_group" "is_group" (defArgs sIsGroup) (defBody sIsGroup) (defScope sIsGroup) .none kV3 dc3 pm3 an3 cd3 ct3), sl3⟩)
    (c3 : PySem.W.codeIn K cd3 "is_group" = true)
    (k3 : PySem.W.keepIn K (.ref f3) = true)
    (a4 : PySem.W.nsIn K mainGlobals "is_form" = some (some (.ref f4)))
    (l4 : K.lookup f4 = some ⟨oc4, od4, .func (PySem.W.fnOf "is_form" "is_form" (defArgs sIsForm) (defBody sIsForm) (defScope sIsForm) .none kV4 dc4 pm4 an4 cd4 ct4), sl4⟩)
    (c4 : PySem.W.codeIn K cd4 "is_form" = true)
    (k4 : PySem.W.keepIn K (.ref f4) = true)
    (a5 : PySem.W.nsIn K mainGlobals "is_stack" = some (some (.ref f5)))
    (l5 : K.lookup f5 = some ⟨oc5, od5, .func (PySem.W.fnOf "is_stack" "is_stack" (defArgs sIsStack) (defBody sIsStack) (defScope sIsStack) .none kV5 dc5 pm5 an5 cd5 ct5), sl5⟩)
    (c5 : PySem.W.codeIn K cd5 "is_stack" = true)
    (k5 : PySem.W.keepIn K (.ref f5) = true)
    (a6 : PySem.W.nsIn K mainGlobals "_are_kinds" = some (some (.ref f6)))
    (l6 : K.lookup f6 = some ⟨oc6, od6, .func (PySem.W.fnOf "_are_kinds" "_are_kinds" (defArgs sAreKinds) (defBody sAreKinds) (defScope sAreKinds) .none kV6 dc6 pm6 an6 cd6 ct6), sl6⟩)
    (c6 : PySem.W.codeIn K cd6 "_are_kinds" = true)
    (k6 : PySem.W.keepIn K (.ref f6) = true)
    (a7 : PySem.W.nsIn K mainGlobals "_passes" = some (some (.ref f7)))
    (l7 : K.lookup f7 = some ⟨oc7, od7, .func (PySem.W.fnOf "_passes" "_passes" (defArgs sPasses) (defBody sPasses) (defScope sPasses) .none kV7 dc7 pm7 an7 cd7 ct7), sl7⟩)
    (c7 : PySem.W.codeIn K cd7 "_passes" = true)
    (k7 : PySem.W.keepIn K (.ref f7) = true)
    (a8 : PySem.W.nsIn K mainGlobals "_is_plain_action" = some (some (.ref f8)))
    (l8 : K.lookup f8 = some ⟨oc8, od8, .func (PySem.W.fnOf "_is_plain_action" "_is_plain_action" (defArgs sIsPlain) (defBody sIsPlain) (defScope sIsPlain) .none kV8 dc8 pm8 an8 cd8 ct8), sl8⟩)
    (c8 : PySem.W.codeIn K cd8 "_is_plain_action" = true)
    (k8 : PySem.W.keepIn K (.ref f8) = true)
    (a9 : PySem.W.nsIn K mainGlobals "_are_rows" = some (some (.ref f9)))
    (l9 : K.lookup f9 = some ⟨oc9, od9, .func (PySem.W.fnOf "_are_rows" "_are_rows" (defArgs sAreRows) (defBody sAreRows) (defScope sAreRows) .none kV9 dc9 pm9 an9 cd9 ct9), sl9⟩)
    (c9 : PySem.W.codeIn K cd9 "_are_rows" = true)
    (k9 : PySem.W.keepIn K (.ref f9) = true)
    (a10 : PySem.W.nsIn K mainGlobals "_check_names" = some (some (.ref f10)))
    (l10 : K.lookup f10 = some ⟨oc10, od10, .func (PySem.W.fnOf "_check_names" "_check_names" (defArgs sCkNames) (defBody sCkNames) (defScope sCkNames) .none kV10 dc10 pm10 an10 cd10 ct10), sl10⟩)
    (c10 : PySem.W.codeIn K cd10 "_check_names" = true)
    (k10 : PySem.W.keepIn K (.ref f10) = true)
    (a11 : PySem.W.nsIn K mainGlobals "_check_bases" = some (some (.ref f11)))
    (l11 : K.lookup f11 = some ⟨oc11, od11, .func (PySem.W.fnOf "_check_bases" "_check_bases" (defArgs sCkBases) (defBody sCkBases) (defScope sCkBases) .none kV11 dc11 pm11 an11 cd11 ct11), sl11⟩)
    (c11 : PySem.W.codeIn K cd11 "_check_bases" = true)
    (k11 : PySem.W.keepIn K (.ref f11) = true)
    (a12 : PySem.W.nsIn K mainGlobals "_are_bases" = some (some (.ref f12)))
    (l12 : K.lookup f12 = some ⟨oc12, od12, .func (PySem.W.fnOf "_are_bases" "_are_bases" (defArgs sAreBases) (defBody sAreBases) (defScope sAreBases) .none kV12 dc12 pm12 an12 cd12 ct12), sl12⟩)
    (c12 : PySem.W.codeIn K cd12 "_are_bases" = true)
    (k12 : PySem.W.keepIn K (.ref f12) = true)
    (a13 : PySem.W.nsIn K mainGlobals "_all_above" = some (some (.ref f13)))
    (l13 : K.lookup f13 = some ⟨oc13, od13, .func (PySem.W.fnOf "_all_above" "_all_above" (defArgs sAllAbove) (defBody sAllAbove) (defScope sAllAbove) .none kV13 dc13 pm13 an13 cd13 ct13), sl13⟩)
    (c13 : PySem.W.codeIn K cd13 "_all_above" = true)
    (k13 : PySem.W.keepIn K (.ref f13) = true)
    (a14 : PySem.W.nsIn K mainGlobals "_law_source" = some (some (.ref f14)))
    (l14 : K.lookup f14 = some ⟨oc14, od14, .func (PySem.W.fnOf "_law_source" "_law_source" (defArgs sSource) (defBody sSource) (defScope sSource) .none kV14 dc14 pm14 an14 cd14 ct14), sl14⟩)
    (c14 : PySem.W.codeIn K cd14 "_law_source" = true)
    (k14 : PySem.W.keepIn K (.ref f14) = true)
    (a15 : PySem.W.nsIn K mainGlobals "_law_draw" = some (some (.ref f15)))
    (l15 : K.lookup f15 = some ⟨oc15, od15, .func (PySem.W.fnOf "_law_draw" "_law_draw" (defArgs sDraw) (defBody sDraw) (defScope sDraw) .none kV15 dc15 pm15 an15 cd15 ct15), sl15⟩)
    (c15 : PySem.W.codeIn K cd15 "_law_draw" = true)
    (k15 : PySem.W.keepIn K (.ref f15) = true)
    (a16 : PySem.W.nsIn K mainGlobals "_law_random_names" = some (some (.ref f16)))
    (l16 : K.lookup f16 = some ⟨oc16, od16, .func (PySem.W.fnOf "_law_random_names" "_law_random_names" (defArgs sNames) (defBody sNames) (defScope sNames) .none kV16 dc16 pm16 an16 cd16 ct16), sl16⟩)
    (c16 : PySem.W.codeIn K cd16 "_law_random_names" = true)
    (k16 : PySem.W.keepIn K (.ref f16) = true)
    (a17 : PySem.W.nsIn K mainGlobals "_law_random_lines" = some (some (.ref f17)))
    (l17 : K.lookup f17 = some ⟨oc17, od17, .func (PySem.W.fnOf "_law_random_lines" "_law_random_lines" (defArgs sLines) (defBody sLines) (defScope sLines) .none kV17 dc17 pm17 an17 cd17 ct17), sl17⟩)
    (c17 : PySem.W.codeIn K cd17 "_law_random_lines" = true)
    (k17 : PySem.W.keepIn K (.ref f17) = true)
    (a18 : PySem.W.nsIn K mainGlobals "_law_over" = some (some (.ref f18)))
    (l18 : K.lookup f18 = some ⟨oc18, od18, .func (PySem.W.fnOf "_law_over" "_law_over" (defArgs sOver) (defBody sOver) (defScope sOver) .none kV18 dc18 pm18 an18 cd18 ct18), sl18⟩)
    (c18 : PySem.W.codeIn K cd18 "_law_over" = true)
    (k18 : PySem.W.keepIn K (.ref f18) = true)
    (a19 : PySem.W.nsIn K mainGlobals "_law_random_form" = some (some (.ref f19)))
    (l19 : K.lookup f19 = some ⟨oc19, od19, .func (PySem.W.fnOf "_law_random_form" "_law_random_form" (defArgs sLawRandomForm) (defBody sLawRandomForm) (defScope sLawRandomForm) .none kV19 dc19 pm19 an19 cd19 ct19), sl19⟩)
    (c19 : PySem.W.codeIn K cd19 "_law_random_form" = true)
    (k19 : PySem.W.keepIn K (.ref f19) = true)
    (a20 : PySem.W.nsIn K mainGlobals "_law_some_labels" = some (some (.ref f20)))
    (l20 : K.lookup f20 = some ⟨oc20, od20, .func (PySem.W.fnOf "_law_some_labels" "_law_some_labels" (defArgs sLawSomeLabels) (defBody sLawSomeLabels) (defScope sLawSomeLabels) .none kV20 dc20 pm20 an20 cd20 ct20), sl20⟩)
    (c20 : PySem.W.codeIn K cd20 "_law_some_labels" = true)
    (k20 : PySem.W.keepIn K (.ref f20) = true)
    (a21 : PySem.W.nsIn K mainGlobals "_law_random_layer" = some (some (.ref f21)))
    (l21 : K.lookup f21 = some ⟨oc21, od21, .func (PySem.W.fnOf "_law_random_layer" "_law_random_layer" (defArgs sLawRandomLayer) (defBody sLawRandomLayer) (defScope sLawRandomLayer) .none kV21 dc21 pm21 an21 cd21 ct21), sl21⟩)
    (c21 : PySem.W.codeIn K cd21 "_law_random_layer" = true)
    (k21 : PySem.W.keepIn K (.ref f21) = true)
    (a22 : PySem.W.nsIn K mainGlobals "_law_random_layers" = some (some (.ref f22)))
    (l22 : K.lookup f22 = some ⟨oc22, od22, .func (PySem.W.fnOf "_law_random_layers" "_law_random_layers" (defArgs sLawRandomLayers) (defBody sLawRandomLayers) (defScope sLawRandomLayers) .none kV22 dc22 pm22 an22 cd22 ct22), sl22⟩)
    (c22 : PySem.W.codeIn K cd22 "_law_random_layers" = true)
    (k22 : PySem.W.keepIn K (.ref f22) = true)
    (a23 : PySem.W.nsIn K mainGlobals "_law_setup" = some (some (.ref f23)))
    (l23 : K.lookup f23 = some ⟨oc23, od23, .func (PySem.W.fnOf "_law_setup" "_law_setup" (defArgs sLawSetup) (defBody sLawSetup) (defScope sLawSetup) .none kV23 dc23 pm23 an23 cd23 ct23), sl23⟩)
    (c23 : PySem.W.codeIn K cd23 "_law_setup" = true)
    (k23 : PySem.W.keepIn K (.ref f23) = true)
    (a24 : PySem.W.nsIn K mainGlobals "_law_any" = some (some (.ref f24)))
    (l24 : K.lookup f24 = some ⟨oc24, od24, .func (PySem.W.fnOf "_law_any" "_law_any" (defArgs sLawAny) (defBody sLawAny) (defScope sLawAny) .none kV24 dc24 pm24 an24 cd24 ct24), sl24⟩)
    (c24 : PySem.W.codeIn K cd24 "_law_any" = true)
    (k24 : PySem.W.keepIn K (.ref f24) = true)
    (a25 : PySem.W.nsIn K mainGlobals "_law_bent" = some (some (.ref f25)))
    (l25 : K.lookup f25 = some ⟨oc25, od25, .func (PySem.W.fnOf "_law_bent" "_law_bent" (defArgs sLawBent) (defBody sLawBent) (defScope sLawBent) .none kV25 dc25 pm25 an25 cd25 ct25), sl25⟩)
    (c25 : PySem.W.codeIn K cd25 "_law_bent" = true)
    (k25 : PySem.W.keepIn K (.ref f25) = true)
    (a26 : PySem.W.nsIn K mainGlobals "_law_is_message" = some (some (.ref f26)))
    (l26 : K.lookup f26 = some ⟨oc26, od26, .func (PySem.W.fnOf "_law_is_message" "_law_is_message" (defArgs sLawIsMessage) (defBody sLawIsMessage) (defScope sLawIsMessage) .none kV26 dc26 pm26 an26 cd26 ct26), sl26⟩)
    (c26 : PySem.W.codeIn K cd26 "_law_is_message" = true)
    (k26 : PySem.W.keepIn K (.ref f26) = true)
    (a27 : PySem.W.nsIn K mainGlobals "_law_stars" = some (some (.ref f27)))
    (l27 : K.lookup f27 = some ⟨oc27, od27, .func (PySem.W.fnOf "_law_stars" "_law_stars" (defArgs sLawStars) (defBody sLawStars) (defScope sLawStars) .none kV27 dc27 pm27 an27 cd27 ct27), sl27⟩)
    (c27 : PySem.W.codeIn K cd27 "_law_stars" = true)
    (k27 : PySem.W.keepIn K (.ref f27) = true)
    (a28 : PySem.W.nsIn K mainGlobals "_law_are_labels" = some (some (.ref f28)))
    (l28 : K.lookup f28 = some ⟨oc28, od28, .func (PySem.W.fnOf "_law_are_labels" "_law_are_labels" (defArgs sLawAreLabels) (defBody sLawAreLabels) (defScope sLawAreLabels) .none kV28 dc28 pm28 an28 cd28 ct28), sl28⟩)
    (c28 : PySem.W.codeIn K cd28 "_law_are_labels" = true)
    (k28 : PySem.W.keepIn K (.ref f28) = true)
    (a29 : PySem.W.nsIn K mainGlobals "_law_is_layer" = some (some (.ref f29)))
    (l29 : K.lookup f29 = some ⟨oc29, od29, .func (PySem.W.fnOf "_law_is_layer" "_law_is_layer" (defArgs sLawIsLayer) (defBody sLawIsLayer) (defScope sLawIsLayer) .none kV29 dc29 pm29 an29 cd29 ct29), sl29⟩)
    (c29 : PySem.W.codeIn K cd29 "_law_is_layer" = true)
    (k29 : PySem.W.keepIn K (.ref f29) = true)
    (a30 : PySem.W.nsIn K mainGlobals "law" = some (some (.ref f30)))
    (l30 : K.lookup f30 = some ⟨oc30, od30, .func (PySem.W.fnOf "law" "law" (defArgs sLaw) (defBody sLaw) (defScope sLaw) .none kV30 dc30 pm30 an30 cd30 ct30), sl30⟩)
    (c30 : PySem.W.codeIn K cd30 "law" = true)
    (k30 : PySem.W.keepIn K (.ref f30) = true)
    (a31 : PySem.W.findIn K (.ref C) "__init__" = some (some (.ref f31)))
    (i31 : PySem.W.isFn K (.ref f31) = true)
    (l31 : K.lookup f31 = some ⟨oc31, od31, .func (PySem.W.fnOf "__init__" "Kinds.__init__" (defArgs sInit) (defBody sInit) (defScope sInit) .none kV31 dc31 pm31 an31 cd31 ct31), sl31⟩)
    (c31 : PySem.W.codeIn K cd31 "Kinds.__init__" = true)
    (k31 : PySem.W.keepIn K (.ref f31) = true)
    (a32 : PySem.W.findIn K (.ref C) "_take" = some (some (.ref f32)))
    (i32 : PySem.W.isFn K (.ref f32) = true)
    (l32 : K.lookup f32 = some ⟨oc32, od32, .func (PySem.W.fnOf "_take" "Kinds._take" (defArgs sTake) (defBody sTake) (defScope sTake) .none kV32 dc32 pm32 an32 cd32 ct32), sl32⟩)
    (c32 : PySem.W.codeIn K cd32 "Kinds._take" = true)
    (k32 : PySem.W.keepIn K (.ref f32) = true)
    (a33 : PySem.W.findIn K (.ref C) "__contains__" = some (some (.ref f33)))
    (i33 : PySem.W.isFn K (.ref f33) = true)
    (l33 : K.lookup f33 = some ⟨oc33, od33, .func (PySem.W.fnOf "__contains__" "Kinds.__contains__" (defArgs sIn) (defBody sIn) (defScope sIn) .none kV33 dc33 pm33 an33 cd33 ct33), sl33⟩)
    (c33 : PySem.W.codeIn K cd33 "Kinds.__contains__" = true)
    (k33 : PySem.W.keepIn K (.ref f33) = true)
    (rd : PySem.W.readsIn K C (.type "type") = true)
    (ga : PySem.W.specialIn K (.ref C) "__getattribute__" = some (some (.builtin "type.__getattribute__")))
    (a34 : PySem.W.findCls K (.ref C) (.type "type") "of" = some (.get (.builtin "classmethod.__get__") (.ref pF) .none (.ref C)))
    (r34 : PySem.W.recIn K pF "classmethod" = some (.ref f34 :: restF))
    (i34 : PySem.W.fnIn K f34 = true)
    (l34 : K.lookup f34 = some ⟨oc34, od34, .func (PySem.W.fnOf "of" "Kinds.of" (defArgs sOf) (defBody sOf) (defScope sOf) .none kV34 dc34 pm34 an34 cd34 ct34), sl34⟩)
    (c34 : PySem.W.codeIn K cd34 "Kinds.of" = true)
    (k34 : PySem.W.keepIn K (.ref f34) = true)
    (pg : PySem.W.plainGet K C Str.empty = true)
    (hd : PySem.W.hasDictIn K C = true)
    (po : PySem.W.plainOver K C = true)
    (sa : PySem.W.findIn K (.ref C) "__setattr__" = some (some (.builtin "object.__setattr__")))
    (mk : PySem.W.makesIn K C = true)
    (kc : PySem.W.keepIn K (.ref C) = true)
    (nR : PySem.W.findIn K (.ref C) "_rows" = some none)
    (nA : PySem.W.findIn K (.ref C) "_above" = some none)
    (lm : PySem.W.findIn K (.ref C) "LIMIT" = some (some (.int 7 tM)))
    (lg : PySem.W.specialIn K (.int 7 tM) "__get__" = some none)
    (vL : PySem.W.nsIn K mainGlobals "LONGEST_NAME" = some (some (.int 8 tL)))
    (vA : PySem.W.nsIn K mainGlobals "LETTERS" = some (some (.str abc tA)))
    (z_len : PySem.W.nsIn K mainGlobals "len" = some none)
    (z_isinstance : PySem.W.nsIn K mainGlobals "isinstance" = some none)
    (z_str : PySem.W.nsIn K mainGlobals "str" = some none)
    (z_all : PySem.W.nsIn K mainGlobals "all" = some none)
    (z_tuple : PySem.W.nsIn K mainGlobals "tuple" = some none)
    (z_list : PySem.W.nsIn K mainGlobals "list" = some none)
    (z_sorted : PySem.W.nsIn K mainGlobals "sorted" = some none)
    (z_abs : PySem.W.nsIn K mainGlobals "abs" = some none)
    (z_range : PySem.W.nsIn K mainGlobals "range" = some none)
    (z_min : PySem.W.nsIn K mainGlobals "min" = some none)
    (z_max : PySem.W.nsIn K mainGlobals "max" = some none)
    (z_repr : PySem.W.nsIn K mainGlobals "repr" = some none)
    (z_int : PySem.W.nsIn K mainGlobals "int" = some none)
    (z_sum : PySem.W.nsIn K mainGlobals "sum" = some none) :
    ∃ fd : FuncData, (∀ (s : Shared) (v : Value), BindsTo s fd ⟨[v], []⟩ [("script", v)]) ∧ ∀ base : Heap, K.In base → base.Ns mainGlobals mg → FnG l.prog w K mg base 44 fa fd ["script"] (spLaw K) := by
  have e := hfa.symm.trans (PySem.W.mg_of X G a30)
  cases e
  have F1 := fun_mk (st := sIsName) l1 c1 k1
  have b1 := F1.binds (ps := ["thing"]) fun _ _ _ _ _ _ us hl => match us, hl with | [_], _ => rfl
  have F2 := fun_mk (st := sIsPair) l2 c2 k2
  have b2 := F2.binds (ps := ["thing"]) fun _ _ _ _ _ _ us hl => match us, hl with | [_], _ => rfl
  have F3 := fun_mk (st := sIsGroup) l3 c3 k3
  have b3 := F3.binds (ps := ["thing"]) fun _ _ _ _ _ _ us hl => match us, hl with | [_], _ => rfl
  have F4 := fun_mk (st := sIsForm) l4 c4 k4
  have b4 := F4.binds (ps := ["kinds", "thing"]) fun _ _ _ _ _ _ us hl => match us, hl with | [_, _], _ => rfl
  have F5 := fun_mk (st := sIsStack) l5 c5 k5
  have b5 := F5.binds (ps := ["kinds", "thing"]) fun _ _ _ _ _ _ us hl => match us, hl with | [_, _], _ => rfl
  have F6 := fun_mk (st := sAreKinds) l6 c6 k6
  have b6 := F6.binds (ps := ["kinds", "thing"]) fun _ _ _ _ _ _ us hl => match us, hl with | [_, _], _ => rfl
  have F7 := fun_mk (st := sPasses) l7 c7 k7
  have b7 := F7.binds (ps := ["clause"]) fun _ _ _ _ _ _ us hl => match us, hl with | [_], _ => rfl
  have F8 := fun_mk (st := sIsPlain) l8 c8 k8
  have b8 := F8.binds (ps := ["kinds", "thing"]) fun _ _ _ _ _ _ us hl => match us, hl with | [_, _], _ => rfl
  have F9 := fun_mk (st := sAreRows) l9 c9 k9
  have b9 := F9.binds (ps := ["thing"]) fun _ _ _ _ _ _ us hl => match us, hl with | [_], _ => rfl
  have F10 := fun_mk (st := sCkNames) l10 c10 k10
  have b10 := F10.binds (ps := ["rows"]) fun _ _ _ _ _ _ us hl => match us, hl with | [_], _ => rfl
  have F11 := fun_mk (st := sCkBases) l11 c11 k11
  have b11 := F11.binds (ps := ["rows"]) fun _ _ _ _ _ _ us hl => match us, hl with | [_], _ => rfl
  have F12 := fun_mk (st := sAreBases) l12 c12 k12
  have b12 := F12.binds (ps := ["thing", "before"]) fun _ _ _ _ _ _ us hl => match us, hl with | [_, _], _ => rfl
  have F13 := fun_mk (st := sAllAbove) l13 c13 k13
  have b13 := F13.binds (ps := ["rows"]) fun _ _ _ _ _ _ us hl => match us, hl with | [_], _ => rfl
  have F14 := fun_mk (st := sSource) l14 c14 k14
  have b14 := F14.binds (ps := ["script", "at"]) fun _ _ _ _ _ _ us hl => match us, hl with | [_, _], _ => rfl
  have F15 := fun_mk (st := sDraw) l15 c15 k15
  have b15 := F15.binds (ps := ["source", "many"]) fun _ _ _ _ _ _ us hl => match us, hl with | [_, _], _ => rfl
  have F16 := fun_mk (st := sNames) l16 c16 k16
  have b16 := F16.binds (ps := ["source", "many"]) fun _ _ _ _ _ _ us hl => match us, hl with | [_, _], _ => rfl
  have F17 := fun_mk (st := sLines) l17 c17 k17
  have b17 := F17.binds (ps := ["source", "labels"]) fun _ _ _ _ _ _ us hl => match us, hl with | [_, _], _ => rfl
  have F18 := fun_mk (st := sOver) l18 c18 k18
  have b18 := F18.binds (ps := ["lines"]) fun _ _ _ _ _ _ us hl => match us, hl with | [_], _ => rfl
  have F19 := fun_mk (st := sLawRandomForm) l19 c19 k19
  have b19 := F19.binds (ps := ["source", "labels", "has_part", "depth"]) fun _ _ _ _ _ _ us hl => match us, hl with | [_, _, _, _], _ => rfl
  have F20 := fun_mk (st := sLawSomeLabels) l20 c20 k20
  have b20 := F20.binds (ps := ["source", "labels"]) fun _ _ _ _ _ _ us hl => match us, hl with | [_, _], _ => rfl
  have F21 := fun_mk (st := sLawRandomLayer) l21 c21 k21
  have b21 := F21.binds (ps := ["source", "labels", "depth"]) fun _ _ _ _ _ _ us hl => match us, hl with | [_, _, _], _ => rfl
  have F22 := fun_mk (st := sLawRandomLayers) l22 c22 k22
  have b22 := F22.binds (ps := ["source", "labels", "most"]) fun _ _ _ _ _ _ us hl => match us, hl with | [_, _, _], _ => rfl
  have F23 := fun_mk (st := sLawSetup) l23 c23 k23
  have b23 := F23.binds (ps := ["source"]) fun _ _ _ _ _ _ us hl => match us, hl with | [_], _ => rfl
  have F24 := fun_mk (st := sLawAny) l24 c24 k24
  have b24 := F24.binds (ps := ["source"]) fun _ _ _ _ _ _ us hl => match us, hl with | [_], _ => rfl
  have F25 := fun_mk (st := sLawBent) l25 c25 k25
  have b25 := F25.binds (ps := ["source", "value"]) fun _ _ _ _ _ _ us hl => match us, hl with | [_, _], _ => rfl
  have F26 := fun_mk (st := sLawIsMessage) l26 c26 k26
  have b26 := F26.binds (ps := ["value"]) fun _ _ _ _ _ _ us hl => match us, hl with | [_], _ => rfl
  have F27 := fun_mk (st := sLawStars) l27 c27 k27
  have b27 := F27.binds (ps := ["labels", "value"]) fun _ _ _ _ _ _ us hl => match us, hl with | [_, _], _ => rfl
  have F28 := fun_mk (st := sLawAreLabels) l28 c28 k28
  have b28 := F28.binds (ps := ["labels", "value"]) fun _ _ _ _ _ _ us hl => match us, hl with | [_, _], _ => rfl
  have F29 := fun_mk (st := sLawIsLayer) l29 c29 k29
  have b29 := F29.binds (ps := ["labels", "value"]) fun _ _ _ _ _ _ us hl => match us, hl with | [_, _], _ => rfl
  have F30 := fun_mk (st := sLaw) l30 c30 k30
  have F31 := fun_mk (st := sInit) l31 c31 k31
  have F32 := fun_mk (st := sTake) l32 c32 k32
  have b32 := F32.binds (ps := ["self", "rows"]) fun _ _ _ _ _ _ us hl => match us, hl with | [_, _], _ => rfl
  have F33 := fun_mk (st := sIn) l33 c33 k33
  have b33 := F33.binds (ps := ["self", "x"]) fun _ _ _ _ _ _ us hl => match us, hl with | [_, _], _ => rfl
  have F34 := fun_mk (st := sOf) l34 c34 k34
  have b34 := F34.binds (ps := ["cls", "rows"]) fun _ _ _ _ _ _ us hl => match us, hl with | [_, _], _ => rfl
  have m1 := PySem.W.mg_of X G a1
  have m2 := PySem.W.mg_of X G a2
  have m3 := PySem.W.mg_of X G a3
  have m4 := PySem.W.mg_of X G a4
  have m5 := PySem.W.mg_of X G a5
  have m6 := PySem.W.mg_of X G a6
  have m7 := PySem.W.mg_of X G a7
  have m8 := PySem.W.mg_of X G a8
  have m9 := PySem.W.mg_of X G a9
  have m10 := PySem.W.mg_of X G a10
  have m11 := PySem.W.mg_of X G a11
  have m12 := PySem.W.mg_of X G a12
  have m13 := PySem.W.mg_of X G a13
  have m14 := PySem.W.mg_of X G a14
  have m15 := PySem.W.mg_of X G a15
  have m16 := PySem.W.mg_of X G a16
  have m17 := PySem.W.mg_of X G a17
  have m18 := PySem.W.mg_of X G a18
  have m19 := PySem.W.mg_of X G a19
  have m20 := PySem.W.mg_of X G a20
  have m21 := PySem.W.mg_of X G a21
  have m22 := PySem.W.mg_of X G a22
  have m23 := PySem.W.mg_of X G a23
  have m24 := PySem.W.mg_of X G a24
  have m25 := PySem.W.mg_of X G a25
  have m26 := PySem.W.mg_of X G a26
  have m27 := PySem.W.mg_of X G a27
  have m28 := PySem.W.mg_of X G a28
  have m29 := PySem.W.mg_of X G a29
  have y_len := PySem.W.mg_none_of X G z_len
  have y_isinstance := PySem.W.mg_none_of X G z_isinstance
  have y_str := PySem.W.mg_none_of X G z_str
  have y_all := PySem.W.mg_none_of X G z_all
  have y_tuple := PySem.W.mg_none_of X G z_tuple
  have y_list := PySem.W.mg_none_of X G z_list
  have y_sorted := PySem.W.mg_none_of X G z_sorted
  have y_abs := PySem.W.mg_none_of X G z_abs
  have y_range := PySem.W.mg_none_of X G z_range
  have y_min := PySem.W.mg_none_of X G z_min
  have y_max := PySem.W.mg_none_of X G z_max
  have y_repr := PySem.W.mg_none_of X G z_repr
  have y_int := PySem.W.mg_none_of X G z_int
  have y_sum := PySem.W.mg_none_of X G z_sum
  have T : KTxt K mg C := ⟨⟨pg, hd, po, sa⟩, nR, nA, ⟨_, lm, ⟨_, rfl⟩, lg, rfl⟩, PySem.W.mg_of X G aC, y_len, y_sorted, y_list⟩
  have M : Mk K C f31 := ⟨mk, a31, i31, kc⟩
  have mT : Meth K C "_take" f32 := ⟨a32, i32, k32⟩
  have cI : Spc K C "__contains__" f33 := ⟨a33, i33⟩
  have cr : ClX.CRead K C (.type "type") := ⟨rd, ga⟩
  have cm : ClX.CMet K C (.type "type") "of" pF f34 := ⟨a34, ⟨_, r34⟩, i34⟩
  refine ⟨PySem.W.fnOf "law" "law" (defArgs sLaw) (defBody sLaw) (defScope sLaw) .none kV30 dc30 pm30 an30 cd30 ct30, fun s v => .of_eq rfl, fun base _ _ => ?_⟩
  have GisName := ok_isName (P := l.prog) (w := w) (mg := mg) (base := base) F1 y_len y_isinstance y_str y_all (PySem.W.mg_of X G vL) (PySem.W.mg_of X G vA)
  have GisNameD := ok_isNameD (P := l.prog) (w := w) (mg := mg) (base := base) F1 y_len y_isinstance y_str y_all (PySem.W.mg_of X G vL) (PySem.W.mg_of X G vA)
  have GisPair := ok_isPair (P := l.prog) (w := w) (mg := mg) (base := base) F2 y_len y_isinstance y_tuple
  have GisPairD := ok_isPairD (P := l.prog) (w := w) (mg := mg) (base := base) F2 y_len y_isinstance y_tuple
  have GisGroup := ok_isGroup (P := l.prog) (w := w) (mg := mg) (base := base) F3 GisPairD k2 b2 m2 GisNameD k1 b1 m1 y_len y_isinstance y_tuple
  have Gin := ok_in (P := l.prog) (w := w) (mg := mg) (base := base) F33 T y_isinstance y_str
  have GisForm := ok_isForm (P := l.prog) (w := w) (mg := mg) (base := base) F4 GisGroup k3 b3 m3 cI Gin b33
  have GareK := ok_areKinds (P := l.prog) (w := w) (mg := mg) (base := base) F6 cI Gin b33 y_len y_isinstance y_tuple y_all
  have Gpass := ok_passes (P := l.prog) (w := w) (mg := mg) (base := base) F7 GisPairD k2 b2 m2
  have Gplain := ok_isPlain (P := l.prog) (w := w) (mg := mg) (base := base) F8 GisPairD k2 b2 m2 GareK k6 b6 m6 GisForm k4 b4 m4
  have GisStack := ok_isStack (P := l.prog) (w := w) (mg := mg) (base := base) F5 GisPairD k2 b2 m2 GareK k6 b6 m6 Gpass k7 b7 m7 Gplain k8 b8 m8 y_isinstance y_tuple y_list
  have GareRows := ok_areRows (P := l.prog) (w := w) (mg := mg) (base := base) F9 GisPair k2 b2 m2 y_isinstance y_all y_list y_tuple
  have GckNames := ok_ckNames (P := l.prog) (w := w) (mg := mg) (base := base) F10 GisName k1 b1 m1
  have GareBases := ok_areBases (P := l.prog) (w := w) (mg := mg) (base := base) F12 y_isinstance y_list y_tuple
  have GckBases := ok_ckBases (P := l.prog) (w := w) (mg := mg) (base := base) F11 GareBases k12 b12 m12
  have GallAbove := ok_allAbove (P := l.prog) (w := w) (mg := mg) (base := base) F13 y_sorted
  have Gtake := ok_take (P := l.prog) (w := w) (mg := mg) (base := base) F32 T GckNames k10 b10 m10 GckBases k11 b11 m11 GallAbove k13 b13 m13
  have Ginit := ok_init (P := l.prog) (w := w) (mg := mg) (base := base) F31 T Gtake mT b32
  have Gof := ok_of (P := l.prog) (w := w) (mg := mg) (base := base) F34 T M Ginit Gtake mT b32 GareRows k9 b9 m9
  have Gsource := ok_source (P := l.prog) (w := w) (mg := mg) (base := base) F14 y_len y_abs y_range y_min
  have Gdraw := ok_draw (P := l.prog) (w := w) (mg := mg) (base := base) F15
  have Gnames := ok_names (P := l.prog) (w := w) (mg := mg) (base := base) F16 Gdraw k15 b15 m15 y_range y_len
  have Glines := ok_lines (P := l.prog) (w := w) (mg := mg) (base := base) F17 Gdraw k15 b15 m15 y_range y_len y_list y_tuple
  have Gover := ok_over (P := l.prog) (w := w) (mg := mg) (base := base) F18
  have Gsetup := ok_setup (P := l.prog) (w := w) (mg := mg) (base := base) F23 T Gdraw k15 b15 m15 Gnames k16 b16 m16 Glines k17 b17 m17 Gover k18 b18 m18 cr cm Gof b34
  have Gform := all_forms (P := l.prog) (w := w) (mg := mg) (base := base) F19 b19 m19 Gdraw k15 b15 m15 y_range y_len y_tuple 3
  have Glabs := ok_labs (P := l.prog) (w := w) (mg := mg) (base := base) F20 Gdraw k15 b15 m15 y_range y_len y_tuple
  have Glayer := all_layers (P := l.prog) (w := w) (mg := mg) (base := base) F21 b21 m21 Gdraw k15 b15 m15 Glabs k20 b20 m20 Gform k19 b19 m19 y_range y_tuple 3
  have Glayers := ok_layers (P := l.prog) (w := w) (mg := mg) (base := base) F22 Gdraw k15 b15 m15 Glayer k21 b21 m21 y_range y_tuple
  have Gany := ok_any (P := l.prog) (w := w) (mg := mg) (base := base) F24 Gdraw k15 b15 m15
  have Gbent := all_bent (P := l.prog) (w := w) (mg := mg) (base := base) F25 b25 m25 Gdraw k15 b15 m15 Gany k24 b24 m24 y_len y_tuple y_isinstance y_list 15
  have Gmsg := ok_msg (P := l.prog) (w := w) (mg := mg) (base := base) F26 y_len y_isinstance y_str y_all
  have Glt := all_lt (P := l.prog) (w := w) (mg := mg) (base := base) F27 b27 m27 Gmsg k26 b26 m26 y_len y_isinstance y_tuple y_str y_int y_sum 21
  have GareL := ok_areL (P := l.prog) (w := w) (mg := mg) (base := base) F28 y_isinstance y_tuple y_str y_all
  have Gil := all_il (P := l.prog) (w := w) (mg := mg) (base := base) F29 b29 m29 GareL k28 b28 m28 Glt k27 b27 m27 y_len y_isinstance y_tuple y_repr 21
  exact ok_law (P := l.prog) (w := w) (mg := mg) (base := base) F30 T Gsource k14 b14 m14 Gsetup k23 b23 m23 Gdraw k15 b15 m15 Glayers k22 b22 m22 Gany k24 b24 m24 Gbent k25 b25 m25 GisStack k5 b5 m5 (kbn_stack F5) Gil k29 b29 m29 M Ginit y_range y_max y_min y_repr y_isinstance y_tuple y_all
theorem walk {l : PySem.W.OpenLaw} {q : Program} {loose : List Str} {XP : (Str → Option Value) → Heap → Prop} {YP : World → Heap → Prop} {d : DefRec} {K : Params → PySem.W.Frag} (hn : l.most = some 63) (hdf : d.params.defaults = [])
    (hY : ∀ (w : World) (h : Heap), YP w h → (K w.params).In h)
    (F : ∀ (w : World) (mg : Str → Option Value) (fa : Addr) (h : Heap), (K w.params).In h → h.Ns mainGlobals mg → mg d.name = some (.ref fa) →
      ∃ fd : FuncData, (∀ (s : Shared) (u : Value), BindsTo s fd ⟨[u], []⟩ [("script", u)]) ∧ ∀ base : Heap, (K w.params).In base → base.Ns mainGlobals mg → FnG l.prog w (K w.params) mg base 44 fa fd ["script"] (spLaw (K w.params))) :
    PySem.W.WalkO q loose XP YP l.row.toRowW d [] (fun f vs => PySem.call f vs) :=
  walk_ofG (n := 63) (k := 44) (x := "script") (sp := fun w => spLaw (K w.params)) hn (by decide) hdf ⟨rfl, by decide, by decide⟩ hY F (fun _ _ a ns hl hS => ⟨a, ns, rfl, hS, hl, fun _ => rfl⟩)
end K1

open PySem PySem.W PyProof.Rows in
set_option maxRecDepth 100000 in
set_option maxHeartbeats 0 in
theorem PySem.Challenge.cw_errorplaces_k11_is_stack_holds : PySem.Challenge.rw_errorplaces_k11_is_stack.Holds := by
  w_on; o_law; k_head; (case hw => w_witness2)
  k_fill
  refine K1.walk (l := PySem.Challenge.rw_errorplaces_k11_is_stack) rfl rfl (fun w h Y => PySem.W.kIn_of Y) ?F
  case F =>
    intro w mg fa h KX G hmg
    refine' K1.all_mk KX G hmg ?aC ?a1 ?l1 ?c1 ?k1 ?a2 ?l2 ?c2 ?k2 ?a3 ?l3 ?c3 ?k3 ?a4 ?l4 ?c4 ?k4 ?a5 ?l5 ?c5 ?k5 ?a6 ?l6 ?c6 ?k6 ?a7 ?l7 ?c7 ?k7 ?a8 ?l8 ?c8 ?k8 ?a9 ?l9 ?c9 ?k9 ?a10 ?l10 ?c10 ?k10 ?a11 ?l11 ?c11 ?k11 ?a12 ?l12 ?c12 ?k12 ?a13 ?l13 ?c13 ?k13 ?a14 ?l14 ?c14 ?k14 ?a15 ?l15 ?c15 ?k15 ?a16 ?l16 ?c16 ?k16 ?a17 ?l17 ?c17 ?k17 ?a18 ?l18 ?c18 ?k18 ?a19 ?l19 ?c19 ?k19 ?a20 ?l20 ?c20 ?k20 ?a21 ?l21 ?c21 ?k21 ?a22 ?l22 ?c22 ?k22 ?a23 ?l23 ?c23 ?k23 ?a24 ?l24 ?c24 ?k24 ?a25 ?l25 ?c25 ?k25 ?a26 ?l26 ?c26 ?k26 ?a27 ?l27 ?c27 ?k27 ?a28 ?l28 ?c28 ?k28 ?a29 ?l29 ?c29 ?k29 ?a30 ?l30 ?c30 ?k30 ?a31 ?i31 ?l31 ?c31 ?k31 ?a32 ?i32 ?l32 ?c32 ?k32 ?a33 ?i33 ?l33 ?c33 ?k33 ?rd ?ga ?a34 ?r34 ?i34 ?l34 ?c34 ?k34 ?pg ?hd ?po ?sa ?mk ?kc ?nR ?nA ?lm ?lg ?vL ?vA ?z_len ?z_isinstance ?z_str ?z_all ?z_tuple ?z_list ?z_sorted ?z_abs ?z_range ?z_min ?z_max ?z_repr ?z_int ?z_sum
    (case aC => k_is)
    (case a1 => k_is)
    (case l1 => k_is)
    (case c1 => k_is)
    (case k1 => k_is)
    (case a2 => k_is)
    (case l2 => k_is)
    (case c2 => k_is)
    (case k2 => k_is)
    (case a3 => k_is)
    (case l3 => k_is)
    (case c3 => k_is)
    (case k3 => k_is)
    (case a4 => k_is)
    (case l4 => k_is)
    (case c4 => k_is)
    (case k4 => k_is)
    (case a5 => k_is)
    (case l5 => k_is)
    (case c5 => k_is)
    (case k5 => k_is)
    (case a6 => k_is)
    (case l6 => k_is)
    (case c6 => k_is)
    (case k6 => k_is)
    (case a7 => k_is)
    (case l7 => k_is)
    (case c7 => k_is)
    (case k7 => k_is)
    (case a8 => k_is)
    (case l8 => k_is)
    (case c8 => k_is)
    (case k8 => k_is)
    (case a9 => k_is)
    (case l9 => k_is)
    (case c9 => k_is)
    (case k9 => k_is)
    (case a10 => k_is)
    (case l10 => k_is)
    (case c10 => k_is)
    (case k10 => k_is)
    (case a11 => k_is)
    (case l11 => k_is)
    (case c11 => k_is)
    (case k11 => k_is)
    (case a12 => k_is)
    (case l12 => k_is)
    (case c12 => k_is)
    (case k12 => k_is)
    (case a13 => k_is)
    (case l13 => k_is)
    (case c13 => k_is)
    (case k13 => k_is)
    (case a14 => k_is)
    (case l14 => k_is)
    (case c14 => k_is)
    (case k14 => k_is)
    (case a15 => k_is)
    (case l15 => k_is)
    (case c15 => k_is)
    (case k15 => k_is)
    (case a16 => k_is)
    (case l16 => k_is)
    (case c16 => k_is)
    (case k16 => k_is)
    (case a17 => k_is)
    (case l17 => k_is)
    (case c17 => k_is)
    (case k17 => k_is)
    (case a18 => k_is)
    (case l18 => k_is)
    (case c18 => k_is)
    (case k18 => k_is)
    (case a19 => k_is)
    (case l19 => k_is)
    (case c19 => k_is)
    (case k19 => k_is)
    (case a20 => k_is)
    (case l20 => k_is)
    (case c20 => k_is)
    (case k20 => k_is)
    (case a21 => k_is)
    (case l21 => k_is)
    (case c21 => k_is)
    (case k21 => k_is)
    (case a22 => k_is)
    (case l22 => k_is)
    (case c22 => k_is)
    (case k22 => k_is)
    (case a23 => k_is)
    (case l23 => k_is)
    (case c23 => k_is)
    (case k23 => k_is)
    (case a24 => k_is)
    (case l24 => k_is)
    (case c24 => k_is)
    (case k24 => k_is)
    (case a25 => k_is)
    (case l25 => k_is)
    (case c25 => k_is)
    (case k25 => k_is)
    (case a26 => k_is)
    (case l26 => k_is)
    (case c26 => k_is)
    (case k26 => k_is)
    (case a27 => k_is)
    (case l27 => k_is)
    (case c27 => k_is)
    (case k27 => k_is)
    (case a28 => k_is)
    (case l28 => k_is)
    (case c28 => k_is)
    (case k28 => k_is)
    (case a29 => k_is)
    (case l29 => k_is)
    (case c29 => k_is)
    (case k29 => k_is)
    (case a30 => k_is)
    (case l30 => k_is)
    (case c30 => k_is)
    (case k30 => k_is)
    (case a31 => k_is)
    (case i31 => k_is)
    (case l31 => k_is)
    (case c31 => k_is)
    (case k31 => k_is)
    (case a32 => k_is)
    (case i32 => k_is)
    (case l32 => k_is)
    (case c32 => k_is)
    (case k32 => k_is)
    (case a33 => k_is)
    (case i33 => k_is)
    (case l33 => k_is)
    (case c33 => k_is)
    (case k33 => k_is)
    (case rd => k_is)
    (case ga => k_is)
    (case a34 => k_is)
    (case r34 => k_is)
    (case i34 => k_is)
    (case l34 => k_is)
    (case c34 => k_is)
    (case k34 => k_is)
    (case pg => k_is)
    (case hd => k_is)
    (case po => k_is)
    (case sa => k_is)
    (case mk => k_is)
    (case kc => k_is)
    (case nR => k_is)
    (case nA => k_is)
    (case lm => k_is)
    (case lg => k_is)
    (case vL => k_is)
    (case vA => k_is)
    (case z_len => k_is)
    (case z_isinstance => k_is)
    (case z_str => k_is)
    (case z_all => k_is)
    (case z_tuple => k_is)
    (case z_list => k_is)
    (case z_sorted => k_is)
    (case z_abs => k_is)
    (case z_range => k_is)
    (case z_min => k_is)
    (case z_max => k_is)
    (case z_repr => k_is)
    (case z_int => k_is)
    (case z_sum => k_is)
