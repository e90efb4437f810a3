import PyProof.Rows.All
import Wide.All
import OpenK.AllK
import Wide.FinOn
import HandS.ForMost
import PyProof.InstNe
import HandS.OwnEq
import HandS.Star
import HandS.ClsMeth
import HandS.Property
import HandS.FStr
import HandS.ListItems
import HandS.IsInst
import HandS.Wide
import HandS.Sort
import HandS.More
import HandS.CallLocal
import KE.KParD
import HandS.Codes
import HandS.Walk
import HandS.TupLen
import HandS.List
import HandS.Text
import HandS.Ends
import PyProof.ReprRoads
import PyProof.AutoSeq1
import HandS.Style
import KE.KRevSl
import HandS.Defaults
import HandS.Deep
import HandS.RevRange
import HandS.Lambda
import HandS.ForExc
import HandS.MakeKwOnly
import HandS.GenList
import HandS.TupAny
import HandS.Flow
import HandS.EndTab
import PySem.Challenge.RW_errorplaces_k85_whole_wrappers_counted
set_option Elab.async false
set_option linter.all false
set_option maxRecDepth 100000
set_option maxHeartbeats 8000000
namespace Own
open PySem PySem.Spec PyProof.Rows L2
section
variable {X : Cx} {k : Nat} {f g C : Addr} {fd : FuncData} {ps : List Str} {sp : Sp} {E : XK} {pins : List (Addr × Obj)} {σ : L2.St} {H : Hp} {s : Shared}
/-- a def that raises nothing, called somewhere below the body -/
theorem run_sub {Q : VK} {us : List Value} {vs : List V} {E' : Value → Shared → Prop} {A : Around} (hA : A.frames = X.A.frames) (F : FnOk X.prog X.w X.K X.mg X.base CX0 k f fd ps sp) (hr : Room k A) (hb : Binds X.K fd ps []) (I : Inv X pins σ H s) (r : Vals vs us) (h : sp vs H Q E) :
    wpAny (model X.prog X.w) A (call (.ref f) us) (EP X pins σ Q) E' s := by
  have hl : (us ++ []).length = ps.length := by rw [List.append_nil, ← r.length]; exact F.len _ _ _ _ h
  have e := I.env0
  have e0 : Env0 X.prog X.w X.K X.mg X.base A X.stack s H := ⟨by rw [hA]; exact e.frames, e.mod, e.bs, e.bsz, e.funs, e.frf, e.hok, e.bare⟩
  have hb' : BindsTo s fd ⟨us, []⟩ (ps.zip us) := by
    have q := hb s us I.kIn hl
    rw [List.append_nil] at q
    exact q
  refine wpAny_call (codeAny_mono (F.run A X.stack s H ⟨us, []⟩ us vs Q E hr e0 hb' r h) fun r s' hq => ?_)
  cases r with
  | error e => exact False.elim hq
  | ok fl =>
    cases fl with
    | ret u => exact I.after hq
    | next => exact False.elim hq
    | brk => exact False.elim hq
    | cont => exact False.elim hq
theorem inst_of {C dx a : Addr} {fs : List (Str × V)} (I : Inv X pins σ H s) (e : H a = some (.ins C dx fs)) : ∃ od, PySem.W.InstAt s.heap a (PySem.W.instObj C dx) C (some od) := by
  obtain ⟨mA, J, _⟩ := ins_get I.hok e
  obtain ⟨od, J, _⟩ := J.look
  exact ⟨od, J⟩
/-- the class's own special method -/
structure Spc (K : PySem.W.Frag) (C : Addr) (m : Str) (f : Addr) : Prop where
  at_ : PySem.W.findIn K (.ref C) m = some (some (.ref f))
  fn : PySem.W.isFn K (.ref f) = true

/-- len(o) -/
theorem call_lenO (c : Spc X.K C "__len__" f) (F : FnOk X.prog X.w X.K X.mg X.base CX0 k f fd ["self"] sp) (hr : Room (k + 1) X.A) (hb : Binds X.K fd ["self"] []) :
    CallR X (.builtin "len") (fun xs H Q => ∃ a dx fs, xs = [.ref a] ∧ H a = some (.ins C dx fs) ∧ sp [.ref a] H (fun v H1 => ∃ n : Int, v = .int n ∧ 0 ≤ n ∧ n < 2 ^ 63 ∧ Q (.int n) H1) E0) := by
  intro pins s σ H xs us Q I r h
  obtain ⟨a, dx, fs, rfl, ha, q⟩ := h
  obtain rfl := Vals.ref1 r
  obtain ⟨od, J⟩ := inst_of I ha
  obtain ⟨m, hF⟩ := I.fr
  refine PySem.W.len_K hF I.ok.mod.kin J c.at_ c.fn (thn (run_sub (A := X.A.in1) rfl F hr.in1 hb I r q) fun u s1 ⟨v, H1, I1, rv, n, ev, h0, h1, q1⟩ => ?_)
  subst ev
  obtain ⟨t, rfl⟩ := rv
  exact ⟨⟨h0, h1⟩, .int n, H1, I1.tok _, ⟨_, rfl⟩, q1⟩
/-- repr(o) -/
theorem call_reprO (c : Spc X.K C "__repr__" f) (F : FnOk X.prog X.w X.K X.mg X.base CX0 k f fd ["self"] sp) (hr : Room (k + 1) X.A) (hb : Binds X.K fd ["self"] []) :
    CallR X (.builtin "repr") (fun xs H Q => ∃ a dx fs, xs = [.ref a] ∧ H a = some (.ins C dx fs) ∧ sp [.ref a] H (fun v H1 => ∃ z : Str, v = .str z ∧ Q (.str z) H1) E0) := by
  intro pins s σ H xs us Q I r h
  obtain ⟨a, dx, fs, rfl, ha, q⟩ := h
  obtain rfl := Vals.ref1 r
  obtain ⟨od, J⟩ := inst_of I ha
  obtain ⟨m, hF⟩ := I.fr
  refine PySem.W.repr_K hr.in1.units0 hF I.ok.mod.kin J c.at_ c.fn (thn (run_sub (A := X.A.in1) rfl F hr.in1 hb I r q) fun u s1 ⟨v, H1, I1, rv, z, ev, q1⟩ => ?_)
  subst ev
  obtain ⟨t, rfl⟩ := rv
  exact ⟨.str z, H1, I1, ⟨_, rfl⟩, q1⟩
/-- x in o, x not in o -/
theorem op_inO (c : Spc X.K C "__contains__" f) (F : FnOk X.prog X.w X.K X.mg X.base CX0 k f fd ["self", "x"] sp) (hr : Room k X.A) (hb : Binds X.K fd ["self", "x"] []) :
    OpR X (compareOp .In) (fun x y H Q => ∃ a dx fs, y = .ref a ∧ H a = some (.ins C dx fs) ∧ sp [.ref a, x] H (fun v H1 => ∃ b, v = .bl b ∧ Q (.bl b) H1) E0) := by
  intro pins s σ H x y v u Q I rx ry h
  obtain ⟨a, dx, fs, rfl, ha, q⟩ := h
  cases ry
  obtain ⟨od, J⟩ := inst_of I ha
  obtain ⟨m, hF⟩ := I.fr
  refine PySem.W.in_K hF I.ok.mod.kin J c.at_ c.fn (thn (run_sub (vs := [.ref a, x]) rfl F hr hb I (.cons rfl (.cons rx .nil)) q) fun u s1 ⟨v, H1, I1, rv, b, ev, q1⟩ => ?_)
  subst ev
  cases rv
  exact wpAny_truthy_bool ⟨.bl b, H1, I1, rfl, q1⟩
theorem op_notInO (c : Spc X.K C "__contains__" f) (F : FnOk X.prog X.w X.K X.mg X.base CX0 k f fd ["self", "x"] sp) (hr : Room k X.A) (hb : Binds X.K fd ["self", "x"] []) :
    OpR X (compareOp .NotIn) (fun x y H Q => ∃ a dx fs, y = .ref a ∧ H a = some (.ins C dx fs) ∧ sp [.ref a, x] H (fun v H1 => ∃ b, v = .bl b ∧ Q (.bl (!b)) H1) E0) := by
  intro pins s σ H x y v u Q I rx ry h
  obtain ⟨a, dx, fs, rfl, ha, q⟩ := h
  cases ry
  obtain ⟨od, J⟩ := inst_of I ha
  obtain ⟨m, hF⟩ := I.fr
  refine PySem.W.notIn_K hF I.ok.mod.kin J c.at_ c.fn (thn (run_sub (vs := [.ref a, x]) rfl F hr hb I (.cons rfl (.cons rx .nil)) q) fun u s1 ⟨v, H1, I1, rv, b, ev, q1⟩ => ?_)
  subst ev
  cases rv
  exact wpAny_truthy_bool ⟨.bl (!b), H1, I1, rfl, q1⟩
/-- len(o) asked below a built-in's body -/
theorem len_body (c : Spc X.K C "__len__" f) (F : FnOk X.prog X.w X.K X.mg X.base CX0 k f fd ["self"] sp) {A : Around} (hA : A.frames = X.A.frames) (hr : Room k A) (hb : Binds X.K fd ["self"] []) {Q : Int → Shared → Prop} {E' : Value → Shared → Prop} {R : Int → Hp → Prop}
    {a dx : Addr} {fs : List (Str × V)} (I : Inv X pins σ H s) (ha : H a = some (.ins C dx fs)) (q : sp [.ref a] H (fun v H1 => ∃ n : Int, v = .int n ∧ 0 ≤ n ∧ n < 2 ^ 63 ∧ R n H1) E0) (hR : ∀ n H1 s', Inv X pins σ H1 s' → R n H1 → Q n s') :
    wpAny (model X.prog X.w) A (Builtin.«len» ⟨[.ref a], []⟩) (fun z s' => ∃ n t, z = Fin.done (.ret (.int n t)) ∧ Q n s') E' s := by
  obtain ⟨od, J⟩ := inst_of I ha
  have KX := I.kIn
  unfold Builtin.«len»
  refine wpAny_bind (m := oneArg "len" _) (wpAny_pure ?_)
  refine wpAny_bind (m := callSpecial? (.ref a) (Str.ofString "__len__")) (PySem.W.special_fn KX J c.at_ (beq_iff_eq.mp c.fn) ?_)
  refine thn (run_sub (vs := [.ref a]) hA F hr hb I (.cons rfl .nil) q) fun u s1 ⟨v, H1, I1, rv, n, ev, h0, h1, q1⟩ => ?_
  subst ev
  obtain ⟨t, rfl⟩ := rv
  refine wpAny_bind (wpAny_holding (wpAny_pure (wpAny_bind (wpAny_letGo ?_))))
  show wpAny _ _ (if n < 0 then _ else _) _ _ _
  rw [if_neg (by omega)]
  show wpAny _ _ (if n ≥ 2 ^ 63 then _ else _) _ _ _
  rw [if_neg (by omega)]
  exact wpAny_bind (wpAny_mkInt (wpAny_pure ⟨n, _, rfl, hR n H1 _ (I1.tok _) q1⟩))
/-- truth by __len__ -/
theorem truthy_len (hn : PySem.W.findIn X.K (.ref C) "__bool__" = some none) (c : Spc X.K C "__len__" f) (F : FnOk X.prog X.w X.K X.mg X.base CX0 k f fd ["self"] sp) {A : Around} (hA : A.frames = X.A.frames) (hr : Room (k + 1) A) (hb : Binds X.K fd ["self"] []) {Q : Bool → Shared → Prop} {E' : Value → Shared → Prop} {R : Int → Hp → Prop}
    {a dx : Addr} {fs : List (Str × V)} (I : Inv X pins σ H s) (ha : H a = some (.ins C dx fs)) (q : sp [.ref a] H (fun v H1 => ∃ n : Int, v = .int n ∧ 0 ≤ n ∧ n < 2 ^ 63 ∧ R n H1) E0) (hR : ∀ n H1 s', Inv X pins σ H1 s' → R n H1 → Q (n != 0) s') :
    wpAny (model X.prog X.w) A (truthy (.ref a)) Q E' s := by
  obtain ⟨od, J⟩ := inst_of I ha
  have KX := I.kIn
  unfold truthy
  refine wpAny_bind (m := callSpecial? (.ref a) (Str.ofString "__bool__")) (wpAny_bind (wpAny_bind (J.type.here ((PySem.W.looks_findIn KX hn).here (wpAny_pure ?_)))))
  refine wpAny_bind (wpAny_bind (J.type.here ((PySem.W.looks_findIn KX c.at_).here ?_)))
  have key : wpAny (model X.prog X.w) A (runValue (.builtin "len" ⟨[.ref a], []⟩)) (fun r s' => ∃ n t, r = .int n t ∧ Q (n != 0) s') E' s := by
    refine wpAny_runValue (codeAny_builtin entry_len ?_)
    rw [Around.under_plainId plain_len _]
    refine wpAny_mono (len_body (Q := fun n s' => Q (n != 0) s') (A := A.in1) c F hA hr.in1 hb I ha q hR) (fun z s' hz => ?_) fun _ _ e => e
    obtain ⟨n, t, rfl, hq⟩ := hz
    exact ⟨n, t, rfl, hq⟩
  refine wpAny_bind (wpAny_mono key (fun r s' hv => ?_) fun _ _ e => e)
  obtain ⟨n, t, rfl, hq⟩ := hv
  exact wpAny_pure hq
end
end Own

namespace Own
open PySem PySem.Spec PyProof.Rows L2
/-! bool(o): the constructor of a built-in type whose own code is known in this model alone -/
section
variable {prog : Program} {w : World} {A : Around} {E : Value → Shared → Prop} {s : Shared}
theorem typeMade_in {T nid iid : String} {Bn Bi : Builtin} {as : List Value} {S : PySem.Spec} {Q Q1 : Value → Shared → Prop} (tc : TypeCalled T nid iid) (c1 : checkTypeCall T ⟨as, []⟩ = pure ()) (c2 : checkBuiltinCall nid ⟨.type T :: as, []⟩ = pure ())
    (e1 : entryFor table nid = some Bn) (e2 : entryFor table iid = some Bi) (g1 : MeetsIn prog w (Bn ⟨.type T :: as, []⟩) S) (h1 : S A.in1 (wants Q1 E) s)
    (h2 : ∀ o s1, Q1 o s1 → s1.TypeIs o T ∧ argsOk iid ⟨o :: as, []⟩ ∧ ∃ S2, Meets (Bi ⟨o :: as, []⟩) S2 ∧ S2 A.in1 (wants (fun r s2 => r = .none ∧ Q o s2) E) s1) : wpAny (model prog w) A (call (.type T) as) Q E s := by
  obtain ⟨mc, ml, mr⟩ := tc.mro
  have m1 := tc.made
  have m2 := tc.sub
  refine wpAny_call (codeAny_of_tree ?_)
  show wpAny _ _ (callAny (.type T) _) _ _ _
  refine wpAny_pure ⟨Code.quiet_builtin _ (by decide +kernel), codeAny_builtin PySem.F.entry_type_call ?_⟩
  rw [Around.under_plain (weight_type_call_type T as []) (units_type_call_type T as [])]
  have m3 := tc.notType
  have m4 := tc.canCreate
  repeat (any_goals (first | assumption | wp_step))
  refine codeAny_mono (codeAny_call_builtin tc.plain e1 (wpAny_of_eq c2 (g1 A.in1 _ s h1))) fun z s1 hz => ?_
  cases z with
  | error _ => exact hz
  | ok fl =>
    cases fl with
    | next => exact hz.elim
    | brk => exact hz.elim
    | cont => exact hz.elim
    | ret o =>
      obtain ⟨hT, hok, S2, g2, q2⟩ := h2 _ _ hz
      have l1 := tc.init.lookup
      have l2 := tc.init.bind o
      repeat (any_goals (first | assumption | wp_step))
      refine codeAny_mono (codeAny_call_builtin tc.init.plain e2 (tc.init.check _ _ _ _ _ _ _ _ hT hok (g2 prog w A.in1 _ s1 q2))) fun z2 s2 hz2 => ?_
      cases z2 with
      | error _ => exact hz2
      | ok fl2 =>
        cases fl2 with
        | next => exact hz2.elim
        | brk => exact hz2.elim
        | cont => exact hz2.elim
        | ret r =>
          obtain ⟨rfl, hq⟩ := hz2
          repeat (any_goals (first | assumption | wp_step))
end
section
variable {X : Cx} {k : Nat} {f g C : Addr} {fd : FuncData} {sp : Sp}
theorem call_boolO (hn : PySem.W.findIn X.K (.ref C) "__bool__" = some none) (c : Spc X.K C "__len__" f) (F : FnOk X.prog X.w X.K X.mg X.base CX0 k f fd ["self"] sp) (hr : Room (k + 4) X.A) (hb : Binds X.K fd ["self"] []) :
    CallR X (.type "bool") (fun xs H Q => ∃ a dx fs, xs = [.ref a] ∧ H a = some (.ins C dx fs) ∧ sp [.ref a] H (fun v H1 => ∃ n : Int, v = .int n ∧ 0 ≤ n ∧ n < 2 ^ 63 ∧ Q (.bl (n != 0)) H1) E0) := by
  intro pins s σ H xs us Q I r h
  obtain ⟨a, dx, fs, rfl, ha, q⟩ := h
  obtain rfl := Vals.ref1 r
  have g1 : MeetsIn X.prog X.w (Builtin.«bool.__new__» ⟨[.type "bool", .ref a], []⟩) (fun A' R s0 => A' = X.A.in1 ∧ s0 = s ∧ ∀ (b : Bool) (s' : Shared), EP X pins σ Q (.bool b) s' → R (.ok (.ret (.bool b))) s') := by
    rintro A' R s0 ⟨rfl, rfl, hR⟩
    have f1 := PySem.F.conv_sub_bool
    obtain ⟨hp, gg, d, tk, os⟩ := s0
    have tr : wpAny (model X.prog X.w) X.A.in1.in1 (truthy (.ref a)) (fun b s' => EP X pins σ Q (.bool b) s') (fun e s' => R (.error e) s') ⟨hp, gg, d, tk, os⟩ := by
      exact truthy_len (A := X.A.in1.in1) hn c F rfl (hr.mono (by omega : k + 1 + 1 + 1 ≤ k + 4)).in1.in1 hb I ha q fun n H1 s' I1 q1 => ⟨.bl (n != 0), H1, I1, rfl, q1⟩
    repeat (any_goals (first | assumption | (with_reducible refine thn tr fun b s' hb => ?_) | wp_step))
    exact hR _ _ (by assumption)
  exact typeMade_in (Q1 := fun o s1 => s1.TypeIs o "bool" ∧ EP X pins σ Q o s1) PySem.F.called_bool (PySem.F.typeCall_bool_1 _) (PySem.F.newCall_bool_1 _) PySem.F.entry_bool_new PySem.F.entry_object_init g1 ⟨rfl, rfl, fun b s' hb => ⟨PySem.typeIs_bool _ _, hb⟩⟩ fun o s1 hq => ⟨hq.1, PySem.F.args_object_init_2 _ _, _, object_init_meets PySem.F.called_bool.init.lookup PySem.F.called_bool.made PySem.F.newNe_bool, hq.1, rfl, hq.2⟩
end
end Own

namespace Own
open PySem PySem.Spec PyProof.Rows L2
/-! a != b by the own __eq__ (the class has no __ne__ of its own) -/
section
variable {X : Cx} {k : Nat} {f C : Addr} {fd : FuncData} {sp : Sp} {pins : List (Addr × Obj)} {σ : L2.St} {H : Hp} {s : Shared}
theorem ne_bind (self : Value) : bindSpecial (.builtin "object.__ne__") self = pure (.builtin "object.__ne__", [self]) := PySem.F.slot_tuple_iterator_ne.bind self
theorem cmp_eqO (c : Spc X.K C "__eq__" f) (F : FnOk X.prog X.w X.K X.mg X.base CX0 k f fd ["self", "other"] sp) (hr : Room k X.A) (hb : Binds X.K fd ["self", "other"] []) :
    OpR X (compareOp .Eq) (fun x y H Q => ∃ a b dx fs dy gs, x = .ref a ∧ y = .ref b ∧ H a = some (.ins C dx fs) ∧ H b = some (.ins C dy gs) ∧ sp [.ref a, .ref b] H (fun v H1 => ∃ z, v = .bl z ∧ Q (.bl z) H1) E0) := by
  intro pins s σ H x y v u Q I rx ry h
  obtain ⟨a, b, dx, fs, dy, gs, rfl, rfl, ha, hb', q⟩ := h
  cases rx
  cases ry
  obtain ⟨od, J⟩ := inst_of I ha
  obtain ⟨od', J'⟩ := inst_of I hb'
  obtain ⟨m, hF⟩ := I.fr
  refine PySem.W.cmp_ofEq (PySem.W.cmp_K (op := .Eq) (tb := .ref C) hr.units0 hF I.ok.mod.kin J J'.type (by simp [PySem.W.notFirst]) c.at_ c.fn ?_)
  refine thn (run_sub (vs := [.ref a, .ref b]) rfl F hr hb I (.cons rfl (.cons rfl .nil)) q) fun u s1 ⟨v, H1, I1, rv, z, ev, q1⟩ => ?_
  subst ev
  cases rv
  exact ⟨.bl z, H1, I1, rfl, q1⟩
/-- the class takes != from object -/
structure NeO (K : PySem.W.Frag) (C : Addr) : Prop where
  at_ : PySem.W.findIn K (.ref C) "__ne__" = some (some (.builtin "object.__ne__"))
  ob : PySem.W.mroIn K C (.type "object") = some true
theorem cmp_neO (n : NeO X.K C) (c : Spc X.K C "__eq__" f) (F : FnOk X.prog X.w X.K X.mg X.base CX0 k f fd ["self", "other"] sp) (hr : Room (k + 4) X.A) (hb : Binds X.K fd ["self", "other"] []) :
    OpR X (compareOp .NotEq) (fun x y H Q => ∃ a b dx fs dy gs, x = .ref a ∧ y = .ref b ∧ H a = some (.ins C dx fs) ∧ H b = some (.ins C dy gs) ∧ sp [.ref a, .ref b] H (fun v H1 => ∃ z, v = .bl z ∧ Q (.bl (!z)) H1) E0) := by
  intro pins s σ H x y v u Q I rx ry h
  obtain ⟨a, b, dx, fs, dy, gs, rfl, rfl, ha, hb', q⟩ := h
  cases rx
  cases ry
  obtain ⟨od, J⟩ := inst_of I ha
  obtain ⟨od', J'⟩ := inst_of I hb'
  have KX := I.kIn
  have inner : wpAny (model X.prog X.w) X.A.in1 (Builtin.«object.__ne__» ⟨[.ref a, .ref b], []⟩) (fun z s' => ∃ t, z = Fin.done (.ret (.bool t)) ∧ EP X pins σ Q (.bool t) s') X.xe s := by
    unfold Builtin.«object.__ne__»
    refine wpAny_bind (m := slotArgs "__ne__" 1 _) (wpAny_pure ?_)
    refine wpAny_bind (wpAny_cRoomFor (hr.mono (by omega : k + 3 + 1 ≤ k + 4)).in1.units0 ?_)
    refine wpAny_bind (m := callSpecialIfBound? (.ref a) (Str.ofString "__eq__") [.ref b]) (PySem.W.ifBound_K KX J c.at_ c.fn ?_)
    refine thn (run_sub (A := X.A.in1) (vs := [.ref a, .ref b]) rfl F (hr.mono (by omega : k + 1 ≤ k + 4)).in1 hb I (.cons rfl (.cons rfl .nil)) q) fun u s1 ⟨v, H1, I1, rv, z, ev, q1⟩ => ?_
    subst ev
    cases rv
    refine wpAny_bind (wpAny_truthy_bool (wpAny_pure ⟨_, rfl, .bl (!z), H1, I1, rfl, q1⟩))
  have one : wpAny (model X.prog X.w) X.A (tryCompare (.ref a) "__ne__" (.ref b)) (fun r s' => ∃ t, r = some (.bool t) ∧ EP X pins σ Q (.bool t) s') X.xe s := by
    have cl : wpAny (model X.prog X.w) X.A (call (.builtin "object.__ne__") [.ref a, .ref b]) (fun r s' => ∃ t, r = .bool t ∧ EP X pins σ Q (.bool t) s') X.xe s := by
      refine wpAny_call (codeAny_call_builtin PySem.F.slot_tuple_iterator_ne.plain PySem.F.cmpEntry_ne ?_)
      refine @PySem.W.check_slot (model X.prog X.w) _ _ s "object.__ne__" "object" "__ne__" (.ref a) [.ref b] [] _ PySem.F.cmpKind_ne PySem.F.cmpSplit_ne (J.type.andThen (PySem.W.looks_mroIn KX n.ob)) (PySem.F.cmpArgs_ne _ _) ?_
      refine wpAny_mono inner (fun z s' hz => ?_) fun _ _ e => e
      obtain ⟨t, rfl, hq⟩ := hz
      exact ⟨t, rfl, hq⟩
    simp only [tryCompare, callSpecialIfBound?, bindSpecialIfBound?]
    refine wpAny_bind (wpAny_holding (wpAny_bind (wpAny_bind (wpAny_bind (J.type.here ((PySem.W.looks_findIn KX n.at_).here ?_))))))
    refine wpAny_bind (wpAny_askSetting (wpAny_ite ?_))
    have fin : wpAny (model X.prog X.w) X.A (call (.builtin "object.__ne__") ([.ref a] ++ [.ref b]) >>= fun v => pure (some v)) (fun r s' => ∃ t, r = some (.bool t) ∧ EP X pins σ Q (.bool t) s') X.xe s :=
      wpAny_bind (wpAny_mono cl (fun v s' ⟨t, e, hq⟩ => wpAny_pure ⟨t, by rw [e], hq⟩) fun _ _ e => e)
    have fin2 : wpAny (model X.prog X.w) X.A (call (.builtin "object.__ne__") ([.ref a] ++ [.ref b]) >>= fun v => pure (some v)) (fun r s' => wpAny (model X.prog X.w) X.A (match r with | some .notImplemented | none => pure none | some v => pure (some v)) (fun r s' => ∃ t, r = some (.bool t) ∧ EP X pins σ Q (.bool t) s') X.xe s') X.xe s :=
      wpAny_mono fin (fun r s' ⟨t, e, hq⟩ => by subst e; exact wpAny_pure ⟨t, rfl, hq⟩) fun _ _ e => e
    split
    · exact wpAny_bind ((PySem.W.Looks.of_pure (ne_bind _)).here (wpAny_pure (by exact fin2)))
    · exact wpAny_tryCatch (wpAny_bind ((PySem.W.Looks.of_pure (ne_bind _)).here (wpAny_pure (by exact fin2))))
  show wpAny _ _ (richCompare .NotEq (.ref a) (.ref b)) _ _ _
  unfold richCompare
  simp only [oneThing_ref]
  refine wpAny_holding (wpAny_bind (wpAny_cRoomFor hr.units0 ?_))
  refine wpAny_bind (J.type.here (wpAny_bind (J'.type.here ?_)))
  rw [show (Value.ref C != Value.ref C) = false from by simp]
  simp only [Bool.false_eq_true, if_false]
  refine wpAny_bind (wpAny_pure ?_)
  simp only [Bool.false_eq_true, if_false]
  refine wpAny_bind (wpAny_mono one (fun r s' ⟨t, e, hq⟩ => ?_) fun _ _ e => e)
  subst e
  exact wpAny_pure hq
end
end Own

namespace Own
open PySem PySem.Spec PyProof.Rows L2
/-! a def that takes all keywords: f(self, **bases) -/
section
variable {prog : Program} {w : World} {A : Around} {E : Value → Shared → Prop} {d : Addr}
theorem put_one {s : Shared} {es : List DictEntry} {n : Nat} {k : Str} {v : Value} {Q : Unit → Shared → Prop} (D : s.heap.get? d = some (PySem.W.dictOf es n)) (hs : ∀ e ∈ es, e.key.isStr k = false) (hr : ∀ e ∈ es, e.refKey = false)
    (h : ∀ h', h'.get? d = some (PySem.W.dictOf (es ++ [⟨PyData.keyHash w.params k, .str k s.toks, v⟩]) (n + 1)) → (∀ b o, b ≠ d → s.heap.get? b = some o → h'.get? b = some o) → Q () { s with heap := h', toks := s.toks + 1 }) :
    wpAny (model prog w) A (nsSet d k v) Q E s := by
  have a1 : es.any (·.key.isStr k) = false := List.any_eq_false.mpr fun e he => by rw [hs e he]; decide
  have a2 : es.any (·.refKey) = false := List.any_eq_false.mpr fun e he => by rw [hr e he]; decide
  have a3 : Obj.putName k (PyData.keyHash w.params k) (.str k s.toks) v (PySem.W.dictOf es n) = PySem.W.dictOf (es ++ [⟨PyData.keyHash w.params k, .str k s.toks, v⟩]) (n + 1) := by
    rw [PySem.W.putName_dict, PySem.W.putL_new hs]
    show PySem.W.dictOf _ (if es.any (·.key.isStr k) then n else n + 1) = _
    rw [a1, if_neg Bool.false_ne_true]
  have a4 : aRefKeyMayBeTheName k es.toArray = false := by
    rw [aRefKeyMayBeTheName_at, ← Array.any_toList, ← Array.any_toList]
    show (!es.any (·.key.isStr k) && es.any (·.refKey)) = false
    rw [a2, Bool.and_false]
  unfold nsSet
  refine wpAny_bind (wpAny_bind (wpAny_askSetting (wpAny_pure (wpAny_bind (wpAny_mkText (wpAny_bind (wpAny_loadPart D ?_)))))))
  dsimp only
  rw [a4]
  refine wpAny_updatePart D (h _ ?_ fun b o hb e => ?_)
  · rw [← a3]
    exact Heap.get?_update_self _ D ((congrArg Obj.isFreed a3).trans rfl)
  · exact (Heap.get?_update_ne _ b d _ hb).trans e
def putAll (d : Addr) (l : List (Str × Value)) : Sem PUnit := forIn l PUnit.unit fun x _ => (nsSet d x.1 x.2 >>= fun _ => pure (ForInStep.yield PUnit.unit))
theorem put_all {Q : PUnit → Shared → Prop} : ∀ (l : List (Str × Value)) (s : Shared) (es : List DictEntry) (n : Nat), s.heap.get? d = some (PySem.W.dictOf es n) → (∀ e ∈ es, ∀ x ∈ l, e.key.isStr x.1 = false) → (∀ e ∈ es, e.refKey = false) → (l.map (·.1)).Nodup →
    (∀ h', h'.get? d = some (PySem.W.dictOf (es ++ PySem.W.kwEs w.params s.toks l) (n + l.length)) → (∀ b o, b ≠ d → s.heap.get? b = some o → h'.get? b = some o) → Q ⟨⟩ { s with heap := h', toks := s.toks + l.length }) → wpAny (model prog w) A (putAll d l) Q E s
  | [], s, es, n, D, _, _, _, h => by
    unfold putAll
    rw [List.forIn_nil]
    refine wpAny_pure (h s.heap ?_ fun _ _ _ e => e)
    show s.heap.get? d = some (PySem.W.dictOf (es ++ []) n)
    rw [List.append_nil]
    exact D
  | x :: r, s, es, n, D, hs, hr, hn, h => by
    obtain ⟨n1, n2⟩ := List.nodup_cons.mp (show (x.1 :: r.map (·.1)).Nodup from hn)
    unfold putAll
    rw [List.forIn_cons]
    refine wpAny_bind (wpAny_bind (put_one D (fun e he => hs e he x (.head _)) hr fun h' D' k' => wpAny_pure ?_))
    refine put_all r { s with heap := h', toks := s.toks + 1 } _ _ D' (fun e he y hy => ?_) (fun e he => ?_) n2 fun h2 D2 k2 => ?_
    · rcases List.mem_append.mp he with z | z
      · exact hs e z y (.tail _ hy)
      · obtain rfl := List.mem_singleton.mp z
        exact beq_eq_false_iff_ne.mpr fun q => n1 (by rw [q]; exact List.mem_map_of_mem hy)
    · rcases List.mem_append.mp he with z | z
      · exact hr e z
      · obtain rfl := List.mem_singleton.mp z
        rfl
    · have t1 : s.toks + 1 + r.length = s.toks + (r.length + 1) := by omega
      have t2 : n + 1 + r.length = n + (r.length + 1) := by omega
      show Q ⟨⟩ { s with heap := h2, toks := s.toks + 1 + r.length }
      rw [t1]
      refine h h2 ?_ fun b o hb e => k2 b o hb (k' b o hb e)
      rw [t2, List.append_assoc] at D2
      exact D2
/-- the keys are texts -/
def keyed {α : Type} (l : List (Str × α)) : List (Key × α) := l.map fun p => (.inr p.1, p.2)
theorem keyed_pairs : ∀ (l : List (Str × Value)) (t : Tok), Pairs (mixKind prog w) (PySem.W.kwEs w.params t l) (keyed l)
  | [], _ => Pairs.nil
  | x :: r, t => Pairs.cons (mixKind_str prog w x.1 t) rfl (keyed_pairs r (t + 1))
theorem keyed_keys {α : Type} (l : List (Str × α)) : (keyed l).map (·.1) = (l.map (·.1)).map Sum.inr := by
  unfold keyed
  rw [List.map_map, List.map_map]
  rfl
theorem keyed_nodup {α : Type} {l : List (Str × α)} (h : (l.map (·.1)).Nodup) : ((keyed l).map (·.1)).Nodup := by
  rw [keyed_keys]
  exact List.Pairwise.map _ (fun a b n e => n (Sum.inr.inj e)) h
theorem put_dict {h : Heap} {l : List (Str × Value)} {t : Tok} {n : Nat} (D : h.get? d = some (PySem.W.dictOf (PySem.W.kwEs w.params t l) n)) (hn : (l.map (·.1)).Nodup) : h.DictOf (mixKind prog w) d (keyed l) := by
  refine ⟨_, (PySem.W.kwEs w.params t l).toArray, n, D, ⟨rfl, rfl, rfl⟩, rfl, fun e he => ?_, keyed_pairs l t, keyed_nodup hn⟩
  obtain ⟨k, u, hk, hh⟩ := PySem.W.kwEs_key l t e (List.mem_toArray.mp he)
  exact ⟨.inr k, by rw [hk]; exact mixKind_str prog w k u, hh.trans rfl⟩
theorem keyed_kv : ∀ {ks : List Str} {vs : List V} {ws : List Value}, Vals vs ws → KV (keyed (ks.zip vs)) (keyed (ks.zip ws))
  | [], _, _, _ => by
    rw [List.zip_nil_left, List.zip_nil_left]
    exact .nil
  | _ :: _, _, _, .nil => .nil
  | k :: ks, _, _, .cons r t => .cons ⟨rfl, r⟩ (keyed_kv t)
end
end Own

namespace Own
open PySem PySem.Spec PyProof.Rows L2
section
variable {P : Program} {w : World} {K : PySem.W.Frag} {mg : Str → Option Value} {base : Heap} {A : Around} {outer : List Env} {s : Shared} {H : Hp}
theorem env0_grown {h' : Heap} {d : Addr} {u : HO} {t : Nat} (e0 : Env0 P w K mg base A outer s H) (kp : ∀ b x, s.heap.get? b = some x → h'.get? b = some x) (hd : s.heap.objs.size ≤ d) (sz : s.heap.objs.size ≤ h'.objs.size) (new : ObjOk P w (upd H d u) h' d u) :
    Env0 P w K mg base A outer { s with heap := h', toks := t } (upd H d u) := by
  refine ⟨e0.frames, e0.mod, fun b x e => ⟨kp b x (e0.bs b x e).1, ?_⟩, Nat.le_trans e0.bsz sz, Heap.FunFrames.of_keeps (fun b x e _ => ⟨x, kp b x e, rfl⟩) e0.funs, fun b hb => ?_, e0.hok.laid kp hd new, e0.bare⟩
  · rw [upd_ne (Nat.ne_of_lt (Nat.lt_of_lt_of_le (Heap.lt_size (e0.bs b x e).1) hd))]
    exact (e0.bs b x e).2
  · obtain ⟨_, x, hx, _⟩ := e0.funs.mem hb
    rw [upd_ne (Nat.ne_of_lt (Nat.lt_of_lt_of_le (Heap.lt_size hx) hd))]
    exact e0.frf b hb
/-- a promise of a def f(self, **bases): the object, the names, their values -/
abbrev SpK := Addr → List Str → List V → Hp → VK → Prop
def FnKw (P : Program) (w : World) (K : PySem.W.Frag) (mg : Str → Option Value) (base : Heap) (k : Nat) (f : Addr) (sp : SpK) : Prop :=
  ∀ (A : Around) (outer : List Env) (s : Shared) (H : Hp) (x : Addr) (ks : List Str) (ws : List Value) (vs : List V) (Q : VK) (E : XK), Room k A → Env0 P w K mg base A outer s H → Vals vs ws → vs.length = ks.length → sp x ks vs H Q →
    codeAny (model P w) A (.call (.ref f) ⟨[.ref x], ks.zip ws⟩) (CR CX0 outer P w H s Q E) s
theorem fn_kw {k : Nat} {f : Addr} {name qual : Str} {params : Arguments} {body : List Stmt} {scope : Scope} {dV kV doc pm cdv ct oc : Value} {an od : Option Addr} {osl : Array (Option Value)} {N : List Str} {sp : SpK} {p1 p2 : Str}
    (lk : K.lookup f = some ⟨oc, od, .func (PySem.W.fnOf name qual params body scope dV kV doc pm an cdv ct), osl⟩) (hcd : PySem.W.codeIn K cdv qual = true) (S : FnScope N [p1, p2] scope)
    (nd : ∀ x ks vs H Q, sp x ks vs H Q → ks.Nodup ∧ ks.length ≤ 1000)
    (hb : ∀ x ks vs H Q (ws : List Value), sp x ks vs H Q → ws.length = ks.length → bindArgs (PySem.W.fnOf name qual params body scope dV kV doc pm an cdv ct) ⟨[.ref x], ks.zip ws⟩ =
      (alloc ({ cls := .type "dict", data := .dict #[] } : Obj) >>= fun d => putAll d (ks.zip ws) >>= fun _ => pure [(p1, Value.ref x), (p2, Value.ref d)]))
    (hbody : ∀ (A : Around) (outer : List Env) (s : Shared) (H : Hp) (x d : Addr) (ks : List Str) (vs : List V) (Q : VK) (E : XK), Room k (A.deeper (envOfC qual scope s.heap.objs.size f cdv)) → sp x ks vs H Q → H d = none →
      ∃ t, PSs (cxOf CX0 P w K mg base N qual scope f cdv A outer s (upd H d (.dK (keyed (ks.zip vs)))) E).nox body t ∧ t { nx := fun _ H' => Q .non H', rt := Q } (start N [.ref x, .ref d]) (upd H d (.dK (keyed (ks.zip vs))))) :
    FnKw P w K mg base (k + 1) f sp := by
  intro A outer s H x ks ws vs Q E hr e0 r hl hsp
  have hlw : ws.length = ks.length := r.length.symm.trans hl
  have hn : H s.heap.objs.size = Option.none := e0.hok.fresh (Nat.le_refl _)
  obtain ⟨nd1, nd2⟩ := nd _ _ _ _ _ hsp
  have keysE : ((ks.zip ws).map (·.1)) = ks := by
    rw [List.map_fst_zip]
    omega
  refine StX.run_bnd (ps := [p1, p2]) lk hcd S hr e0 (G := fun xs H2 => ∃ d, H d = Option.none ∧ xs = [V.ref x, V.ref d] ∧ H2 = upd H d (.dK (keyed (ks.zip vs)))) (fun A' Ex Q' h => ?_) fun s2 H2 xs ⟨d, hd, ex, eH⟩ hr' => ?_
  · rw [hb x ks vs H Q ws hsp hlw]
    refine wpAny_bind (wpAny_alloc (wpAny_bind ?_))
    refine put_all (ks.zip ws) { s with heap := s.heap.push ({ cls := .type "dict", data := .dict #[] } : Obj) } [] 0 (Heap.get?_push_size _ rfl) (fun _ z => nomatch z) (fun _ z => nomatch z) (by rw [keysE]; exact nd1) fun h' D' kp' => wpAny_pure ?_
    have kp : ∀ b o, s.heap.get? b = some o → h'.get? b = some o := fun b o e => kp' b o (Nat.ne_of_lt (Heap.lt_size e)) (Heap.get?_push_of_some _ e)
    have dct : h'.DictOf (mixKind P w) s.heap.objs.size (keyed (ks.zip ws)) := put_dict (t := s.toks) (n := 0 + (ks.zip ws).length) (by simpa using D') (by rw [keysE]; exact nd1)
    have kv : KV (keyed (ks.zip vs)) (keyed (ks.zip ws)) := keyed_kv r
    have z : (keyed (ks.zip vs)).length ≤ sizeLine := by
      unfold keyed
      rw [List.length_map, List.length_zip]
      exact Nat.le_of_lt (small1000 (by omega))
    have big := StX.env0_big e0
    have new : ObjOk P w (upd H s.heap.objs.size (.dK (keyed (ks.zip vs)))) h' s.heap.objs.size (.dK (keyed (ks.zip vs))) := ⟨z, beq_eq_false_iff_ne.mpr (Ne.symm (Nat.ne_of_lt big)), _, kv, dct⟩
    have un : Un (frs outer) [] H (upd H s.heap.objs.size (.dK (keyed (ks.zip vs)))) s.heap h' := Un.laid kp (Nat.le_refl _) hn
    exact h { s with heap := h', toks := s.toks + (ks.zip ws).length } _ [V.ref x, V.ref s.heap.objs.size] [Value.ref x, Value.ref s.heap.objs.size] (env0_grown e0 kp (Nat.le_refl _) (Nat.le_of_lt (by
      obtain ⟨o, es, ep, ho, _⟩ := dct
      exact Heap.lt_size ho)) new) un rfl (fun e s' hh => hh) (.cons rfl (.cons rfl .nil)) rfl ⟨_, hn, rfl, rfl⟩
  · subst ex eH
    obtain ⟨t, ht, q⟩ := hbody A outer s2 H x d ks vs Q E hr' hsp hd
    exact ⟨t, ht.nox, q⟩
end
/-- C(k = v, ..), no positional argument -/
def tMakeKw (C : Addr) (ks : List Str) (sp : SpK) (tk : TA) : TE := fun σ H Q => tk σ H fun zs H2 => zs.length = ks.length ∧
  ∀ x dx, H2 x = none → H2 dx = none → dx ≠ x → sp x ks zs (upd (upd H2 dx (.own x)) x (.ins C dx [])) (fun v H3 => v = .non ∧ Q (.ref x) H3)
section
variable {X : Cx} {k i : Nat} {f C : Addr} {ks : List Str} {sp : SpK} {x : Str} {p pos : Pos} {kws : List Keyword} {tk : TA}
theorem run_makeKw {pins : List (Addr × Obj)} {σ : L2.St} {H : Hp} {s : Shared} {Q : VK} {ws : List Value} {zs : List V} (M : Mk X.K C f) (F : FnKw X.prog X.w X.K X.mg X.base k f sp) (hr : Room (k + 1) X.A) (I : Inv X pins σ H s) (rz : Vals zs ws) (l : zs.length = ks.length)
    (h : ∀ x dx, H x = none → H dx = none → dx ≠ x → sp x ks zs (upd (upd H dx (.own x)) x (.ins C dx [])) (fun v H3 => v = .non ∧ Q (.ref x) H3)) :
    wpAny (model X.prog X.w) X.A (call (.ref C) [] (ks.zip ws)) (EP X pins σ Q) X.xe s := by
  have hq := h (s.heap.objs.size + 1) s.heap.objs.size (I.hok.fresh (Nat.le_succ _)) (I.hok.fresh (Nat.le_refl _)) (Nat.ne_of_lt (Nat.lt_succ_self _))
  have I2 := Inv.made (C := C) I
  refine wpAny_call (make_map (f := f) I.kIn M.makes M.init (beq_iff_eq.mp M.fn) (codeAny_mono (F _ X.stack _ _ (s.heap.objs.size + 1) ks ws zs _ E0 (hr.make C [] (ks.zip ws)) (I2.env0.make C [] (ks.zip ws)) rz l hq) fun r s' z => ?_))
  cases r with
  | error e => exact False.elim z
  | ok fl =>
    cases fl with
    | next => exact False.elim z
    | brk => exact False.elim z
    | cont => exact False.elim z
    | ret u =>
      obtain ⟨v, H3, I3, rv, ev, q3⟩ := I2.after z
      subst ev
      exact ⟨rv, V.ref (s.heap.objs.size + 1), H3, I3, rfl, q3⟩
theorem pe_makeKw (M : Mk X.K C f) (F : FnKw X.prog X.w X.K X.mg X.base k f sp) (hr : Room (k + 1) X.A) (hg : Gl X x) (hm : X.mg x = some (.ref C)) (hkw : PK X kws tk)
    (hall : (backToKw pos (keywordEach kws X.env)).all (·.1.isSome) = true := by rfl) (hks : (backToKw pos (keywordEach kws X.env)).filterMap (·.1) = ks := by rfl) (hdb : (x == ("__debug__" : Str)) = false := by decide)
    (hpl : ((backTo pos (starEach [] X.env)).any (·.1) || (backToKw pos (keywordEach kws X.env)).any (·.1.isNone)) = false := by rfl) : PE X (.Call (.Name x p) [] kws pos) (tMakeKw C ks sp tk) := by
  refine ⟨fun pins s σ H Q I h => ?_⟩
  refine wpAny_Call_Name_kw (ld_glob I hg hm ?_ hdb)
  refine PySem.W.callWith_KW0 (h₀ := X.base) (first := []) I.ok.mod.kin M.kp hall (thn (hkw.run pos pins s σ H _ I h) fun ws s2 ⟨zs, H2, I2, rz, l, q⟩ => ⟨I2.kIn, ?_⟩) hpl
  rw [hks]
  exact run_makeKw M F hr I2 rz l q
/-- x(), x a local name that holds the class -/
def tMakeL (i : Nat) (C : Addr) (sp : SpK) : TE := fun σ H Q => σ[i]? = some (some (.ref C)) ∧ ∀ x dx, H x = none → H dx = none → dx ≠ x → sp x [] [] (upd (upd H dx (.own x)) x (.ins C dx [])) (fun v H3 => v = .non ∧ Q (.ref x) H3)
theorem pe_makeL (M : Mk X.K C f) (F : FnKw X.prog X.w X.K X.mg X.base k f sp) (hr : Room (k + 1) X.A) (hN : X.N[i]? = some x) (hv : Vis X.env.scope x) (hdb : (x == ("__debug__" : Str)) = false := by decide) (hcd : (x == ("__classdict__" : Str)) = false := by decide) :
    PE X (.Call (.Name x p) [] [] pos) (tMakeL i C sp) := by
  refine ⟨fun pins s σ H Q I h => ?_⟩
  obtain ⟨hs, h⟩ := h
  refine wpAny_Call_Name_kw (thn ((pe_var (pos := p) hN hv hdb hcd).run pins s σ H (fun v H1 => v = .ref C ∧ H1 = H) I ⟨.ref C, hs, rfl, rfl⟩) fun u s1 ⟨v, H1, I1, r1, q1⟩ => ?_)
  obtain ⟨rfl, rfl⟩ := q1
  cases r1
  exact PySem.W.callWith_K0 I1.kIn M.kp (run_makeKw (ks := []) M F hr I1 .nil rfl h)
end
end Own

namespace Own
open PySem PySem.Spec PyProof.Rows L2
/-- one value by place, one by its name -/
structure BK1 (fd : FuncData) (ps : List Str) (kw : Str) : Prop where
  to : ∀ (s : Shared) (u w : Value), BindsTo s fd ⟨[u], [(kw, w)]⟩ (ps.zip [u, w])
theorem bk1_of {K : PySem.W.Frag} {x qual : Str} {st : Stmt} {f : Addr} {fd : FuncData} {ps : List Str} {kw : Str} (F : Fun K x qual st f fd)
    (h : ∀ (kV doc pm : Value) (an : Option Addr) (cdv ct u w : Value), bindArgs (PySem.W.fnOf x qual (defArgs st) (defBody st) (defScope st) .none kV doc pm an cdv ct) ⟨[u], [(kw, w)]⟩ = pure (ps.zip [u, w])) : BK1 fd ps kw := by
  obtain ⟨oc, od, kV, doc, pm, an, cdv, ct, osl, rfl, lk, hcd⟩ := F.ex
  exact ⟨fun s u w => .of_eq (h kV doc pm an cdv ct u w)⟩
section
variable {X : Cx} {k : Nat} {f g C p : Addr} {fd : FuncData} {ps : List Str} {sp : Sp} {E : XK} {m kw : Str} {o e : Expr} {kpos pos apos : Pos} {ta te : TE} {mc : Value} {pl : Sem Bool}
theorem code_k1 {pins : List (Addr × Obj)} {σ : L2.St} {H : Hp} {s : Shared} {Q : VK} {u w : Value} {x y : V} (F : FnOk X.prog X.w X.K X.mg X.base CX0 k f fd ps sp) (hr : Room k X.A) (hb : BK1 fd ps kw) (I : Inv X pins σ H s) (rx : RelV x u) (ry : RelV y w) (h : sp [x, y] H Q E)
    {E' : Value → Shared → Prop} : codeAny (model X.prog X.w) X.A (.call (.ref f) ⟨[u], [(kw, w)]⟩) (wants (EP X pins σ Q) E') s := by
  refine codeAny_mono (F.run X.A X.stack s H ⟨[u], [(kw, w)]⟩ [u, w] [x, y] Q E hr I.env0 (hb.to s u w) (.cons rx (.cons ry .nil)) h) fun r s' hq => ?_
  cases r with
  | error e => exact False.elim hq
  | ok fl =>
    cases fl with
    | next => exact False.elim hq
    | brk => exact False.elim hq
    | cont => exact False.elim hq
    | ret u => exact I.after hq
/-- o.m(k = e) -/
def tMethK (C : Addr) (m : Str) (sp : Sp) (E : XK) (ta te : TE) : TE := fun σ H Q => ta σ H fun x H1 => ∃ a dx fs, x = .ref a ∧ H1 a = some (.ins C dx fs) ∧ fs.lookup m = none ∧ te σ H1 fun y H2 => sp [.ref a, y] H2 Q E
theorem pe_methK (he : PE X o ta) (c : Cls X.K C) (hm : Meth X.K C m f) (F : FnOk X.prog X.w X.K X.mg X.base CX0 k f fd ps sp) (hr : Room k X.A) (hb : BK1 fd ps kw) (hv : PE X e te)
    (hall : (backToKw pos (keywordEach [⟨some kw, e, kpos⟩] X.env)).all (·.1.isSome) = true := by rfl) (hks : (backToKw pos (keywordEach [⟨some kw, e, kpos⟩] X.env)).filterMap (·.1) = [kw] := by rfl)
    (hpl : ((backTo pos (starEach [] X.env)).any (·.1) || (backToKw pos (keywordEach [⟨some kw, e, kpos⟩] X.env)).any (·.1.isNone)) = false := by rfl)
    (ht : eval (.Call (.Attribute o m apos) [] [⟨some kw, e, kpos⟩] pos) X.env = (do
      let ov ← eval o X.env
      standAt apos.atName
      let (f, first) ← holding [ov] (getMethod ov m pl)
      callWith pos f first (backTo pos (starEach [] X.env)) (backToKw pos (keywordEach [⟨some kw, e, kpos⟩] X.env))) := by rfl) :
    PE X (.Call (.Attribute o m apos) [] [⟨some kw, e, kpos⟩] pos) (tMethK C m sp E ta te) := by
  refine ⟨fun pins s σ H Q I h => ?_⟩
  refine PySem.W.methodCall_KW (pl := pl) (thn (he.run pins s σ H _ I h) fun u s1 ⟨x, H1, I1, rx, a, dx, fs, ex, ea, l, q⟩ => ?_) ht
  subst ex
  obtain rfl : u = Value.ref a := rx
  refine getmeth_ok I1 ea c hm l ?_
  have pk : PK X [⟨some kw, e, kpos⟩] (tCons te tNil) := pk_cons hv pk_nil
  refine PySem.W.callWith_KW0 (first := [.ref a]) (h₀ := X.base) I.ok.mod.kin hm.kp hall (thn (pk.run pos pins s1 σ H1 (fun zs H2 => ∃ y, zs = [y] ∧ sp [.ref a, y] H2 Q E) I1 (show te σ H1 (fun y H2 => ∃ z, [y] = [z] ∧ sp [.ref a, z] H2 Q E) from ?_)) fun ws s2 ⟨zs, H2, I2, rz, y, ez, q2⟩ => ⟨I2.kIn, ?_⟩) hpl
  · have e2 : (fun (y : V) (H2 : Hp) => ∃ z, [y] = [z] ∧ sp [.ref a, z] H2 Q E) = fun y H2 => sp [.ref a, y] H2 Q E := by
      funext y H2
      exact propext ⟨fun ⟨z, ez, q⟩ => by cases ez; exact q, fun q => ⟨y, rfl, q⟩⟩
    rw [e2]
    exact q
  · subst ez
    obtain ⟨w, rfl, rw'⟩ := vals1 rz
    rw [hks]
    exact wpAny_call (code_k1 (x := V.ref a) F hr hb I2 rfl rw' q2)
/-- C.m(k = e), a classmethod -/
def tCMethK (C : Addr) (sp : Sp) (E : XK) (ta te : TE) : TE := fun σ H Q => ta σ H fun x H1 => x = .ref C ∧ te σ H1 fun y H2 => sp [.ref C, y] H2 Q E
theorem pe_cmethK (he : PE X o ta) (r : ClX.CRead X.K C mc) (c : ClX.CMet X.K C mc m p g) (F : FnOk X.prog X.w X.K X.mg X.base CX0 k g fd ps sp) (hr : Room k X.A) (hb : BK1 fd ps kw) (hv : PE X e te)
    (hall : (backToKw pos (keywordEach [⟨some kw, e, kpos⟩] X.env)).all (·.1.isSome) = true := by rfl) (hks : (backToKw pos (keywordEach [⟨some kw, e, kpos⟩] X.env)).filterMap (·.1) = [kw] := by rfl)
    (hpl : ((backTo pos (starEach [] X.env)).any (·.1) || (backToKw pos (keywordEach [⟨some kw, e, kpos⟩] X.env)).any (·.1.isNone)) = false := by rfl)
    (ht : eval (.Call (.Attribute o m apos) [] [⟨some kw, e, kpos⟩] pos) X.env = (do
      let ov ← eval o X.env
      standAt apos.atName
      let (f, first) ← holding [ov] (getMethod ov m pl)
      callWith pos f first (backTo pos (starEach [] X.env)) (backToKw pos (keywordEach [⟨some kw, e, kpos⟩] X.env))) := by rfl) :
    PE X (.Call (.Attribute o m apos) [] [⟨some kw, e, kpos⟩] pos) (tCMethK C sp E ta te) := by
  refine ⟨fun pins s σ H Q I h => ?_⟩
  refine PySem.W.methodCall_KW (pl := pl) (thn (he.run pins s σ H _ I h) fun u s1 ⟨x, H1, I1, rx, ex, q⟩ => ?_) ht
  subst ex
  obtain rfl : u = Value.ref C := rx
  refine ClX.getmethcm_ok I1 r c fun s2 I2 => ?_
  have pk : PK X [⟨some kw, e, kpos⟩] (tCons te tNil) := pk_cons hv pk_nil
  refine PySem.W.callWith_of hpl (PySem.W.keeps_M c.fi) (PyProof.Rows.evalArgs_kw2_nil hall (thn (pk.run pos _ s2 σ H1 (fun zs H2 => ∃ y, zs = [y] ∧ sp [.ref C, y] H2 Q E) I2 (show te σ H1 (fun y H2 => ∃ z, [y] = [z] ∧ sp [.ref C, z] H2 Q E) from ?_)) fun ws s3 ⟨zs, H2, I3, rz, y, ez, q2⟩ => ⟨⟨ClX.pin_at I3, I3.kIn⟩, ?_⟩))
  · have e2 : (fun (y : V) (H2 : Hp) => ∃ z, [y] = [z] ∧ sp [.ref C, z] H2 Q E) = fun y H2 => sp [.ref C, y] H2 Q E := by
      funext y H2
      exact propext ⟨fun ⟨z, ez, q⟩ => by cases ez; exact q, fun q => ⟨y, rfl, q⟩⟩
    rw [e2]
    exact q
  · subst ez
    obtain ⟨w, rfl, rw'⟩ := vals1 rz
    rw [hks]
    have z : wpAny (model X.prog X.w) X.A (call (.ref s1.heap.objs.size) [] [(kw, w)]) (EP X _ σ Q) X.xe s3 := wpAny_call (PySem.W.method_call (ClX.pin_at I3) (code_k1 (x := V.ref C) F hr hb I3 rfl rw' q2))
    exact thn z fun _ _ y => ClX.unpinE y
end
end Own

namespace K1
open PySem PySem.Spec PyProof.Rows L2
def top (i : Nat) : Stmt := PySem.Challenge.pw_errorplaces_k85_whole_wrappers_counted.main.body.getD i (.Pass ⟨0, 0, 0, 0⟩)
abbrev sIsName : Stmt := top 3
abbrev sIsNumber : Stmt := top 4
abbrev sIsPair : Stmt := top 5
abbrev sIsGroup : Stmt := top 6
abbrev sSpread : Stmt := top 7
abbrev sCopied : Stmt := top 8
abbrev sTakenApart : Stmt := top 9
abbrev sPutTogether : Stmt := top 10
abbrev sInside : Stmt := top 11
abbrev sNoName_init : Stmt := inClass (top 13) 0
abbrev sNoBases_init : Stmt := inClass (top 14) 0
abbrev sNoRows_init : Stmt := inClass (top 15) 0
abbrev sNoKind_init : Stmt := inClass (top 16) 0
abbrev sNoTree_init : Stmt := inClass (top 17) 0
abbrev sNoStack_init : Stmt := inClass (top 18) 0
abbrev sNoNumber_init : Stmt := inClass (top 19) 0
abbrev sTooMany_init : Stmt := inClass (top 20) 0
abbrev sIsForm : Stmt := top 22
abbrev sIsStack : Stmt := top 23
abbrev sAreKinds : Stmt := top 24
abbrev sPasses : Stmt := top 25
abbrev sIsPlain : Stmt := top 26
abbrev sIsTree : Stmt := top 28
abbrev sIsLeaf : Stmt := top 29
abbrev sTmLeaf : Stmt := top 31
abbrev sIsHole : Stmt := top 32
abbrev sPieces : Stmt := top 33
abbrev sRebuilt : Stmt := top 34
abbrev sKindsIn : Stmt := top 35
abbrev sTmCut : Stmt := top 36
abbrev sHasChildren : Stmt := top 37
abbrev sEnded : Stmt := top 38
abbrev sCutPiece : Stmt := top 39
abbrev sNumbers_init : Stmt := inClass (top 41) 0
abbrev sNumbers_leaf : Stmt := inClass (top 41) 1
abbrev sHandled : Stmt := top 42
abbrev sPassage : Stmt := top 43
abbrev sRunStack : Stmt := top 44
abbrev sCheck : Stmt := top 45
abbrev sRunGuard : Stmt := top 46
abbrev sGuardOutcome : Stmt := top 47
abbrev sFiring : Stmt := top 48
abbrev sIsUnder : Stmt := top 49
abbrev sAct : Stmt := top 50
abbrev sBuilt : Stmt := top 51
abbrev sInit : Stmt := inClass (top 53) 1
abbrev sOf : Stmt := inClass (top 53) 2
abbrev sTake : Stmt := inClass (top 53) 3
abbrev sEq : Stmt := inClass (top 53) 4
abbrev sLen : Stmt := inClass (top 53) 5
abbrev sRepr : Stmt := inClass (top 53) 6
abbrev sIn : Stmt := inClass (top 53) 7
abbrev sOrder : Stmt := inClass (top 53) 8
abbrev sBelow : Stmt := inClass (top 53) 9
abbrev sAbove : Stmt := inClass (top 53) 10
abbrev sAreRows : Stmt := top 54
abbrev sCkNames : Stmt := top 55
abbrev sCkBases : Stmt := top 56
abbrev sAreBases : Stmt := top 57
abbrev sAllAbove : Stmt := top 58
abbrev sSource : Stmt := top 60
abbrev sDraw : Stmt := top 61
abbrev sNames : Stmt := top 62
abbrev sLawWrapped : Stmt := top 63
abbrev sLaw : Stmt := top 64
end K1

namespace Own
open PySem PySem.Spec PyProof.Rows L2
/-! sorted lists of texts -/
def notAbove (a b : List Nat) : Prop := ltCps b a = false
theorem na_trans : ∀ {a b c : List Nat}, notAbove a b → notAbove b c → notAbove a c
  | [], _, [], _, _ => rfl
  | [], _, _ :: _, _, _ => rfl
  | x :: r, [], _, h, _ => by simp [notAbove, ltCps] at h
  | x :: r, y :: t, [], _, h => by simp [notAbove, ltCps] at h
  | x :: r, y :: t, z :: u, h1, h2 => by
    simp only [notAbove, ltCps, Bool.or_eq_false_iff, Bool.and_eq_false_iff, decide_eq_false_iff_not, beq_eq_false_iff_ne] at h1 h2 ⊢
    refine ⟨by omega, ?_⟩
    by_cases e : z = x
    · refine .inr ?_
      have e1 : y = x := by omega
      have q1 : ltCps t r = false := h1.2.elim (fun n => absurd e1 n) id
      have q2 : ltCps u t = false := h2.2.elim (fun n => absurd (by omega) n) id
      exact na_trans (show notAbove r t from q1) (show notAbove t u from q2)
    · exact .inl e
theorem na_antisymm : ∀ {a b : List Nat}, notAbove a b → notAbove b a → a = b
  | [], [], _, _ => rfl
  | [], y :: t, _, h => by simp [notAbove, ltCps] at h
  | x :: r, [], h, _ => by simp [notAbove, ltCps] at h
  | x :: r, y :: t, h1, h2 => by
    simp only [notAbove, ltCps, Bool.or_eq_false_iff, Bool.and_eq_false_iff, decide_eq_false_iff_not, beq_eq_false_iff_ne] at h1 h2
    have e : x = y := by omega
    subst e
    have q1 : ltCps t r = false := h1.2.elim (fun n => absurd rfl n) id
    have q2 : ltCps r t = false := h2.2.elim (fun n => absurd rfl n) id
    rw [na_antisymm (show notAbove r t from q1) (show notAbove t r from q2)]
theorem str_ext {a b : Str} (h : a.cps.toList = b.cps.toList) : a = b := by
  cases a with
  | mk x =>
    cases b with
    | mk y =>
      have e : x = y := Array.toList_inj.mp h
      rw [e]
theorem rising_all : ∀ (p : Str) (l : List Str), risingS p l = true → (∀ x ∈ l, notAbove p.cps.toList x.cps.toList) ∧ l.Pairwise fun a b => notAbove a.cps.toList b.cps.toList
  | _, [], _ => ⟨(fun _ h => nomatch h), List.Pairwise.nil⟩
  | p, x :: r, h => by
    obtain ⟨h1, h2⟩ := Bool.and_eq_true_iff.mp (show (!ltCps x.cps.toList p.cps.toList && risingS x r) = true from h)
    obtain ⟨i1, i2⟩ := rising_all x r h2
    have n1 : notAbove p.cps.toList x.cps.toList := by
      unfold notAbove
      simpa using h1
    refine ⟨fun y hy => ?_, List.pairwise_cons.mpr ⟨i1, i2⟩⟩
    rcases List.mem_cons.mp hy with e | e
    · rw [e]
      exact n1
    · exact na_trans n1 (i1 y e)
theorem sorted_pw {l : List Str} (h : sortedS l = true) : l.Pairwise fun a b => notAbove a.cps.toList b.cps.toList := by
  cases l with
  | nil => exact .nil
  | cons x r =>
    obtain ⟨a, b⟩ := rising_all x r h
    exact List.pairwise_cons.mpr ⟨a, b⟩
theorem sorted_one {xs ys : List Str} (p : xs.Perm ys) (hx : sortedS xs = true) (hy : sortedS ys = true) : xs = ys :=
  List.Perm.eq_of_pairwise (le := fun a b => notAbove a.cps.toList b.cps.toList) (fun a b _ _ h1 h2 => str_ext (na_antisymm h1 h2)) (sorted_pw hx) (sorted_pw hy) p

/-! a list or a tuple -/
def SeqOf (H : Hp) (a : Addr) (xs : List V) : Prop := H a = some (.lst xs) ∨ H a = some (.tup xs)
theorem SeqOf.same {H H' : Hp} {a : Addr} {xs : List V} (h : SeqOf H a xs) (k : Same H H') : SeqOf H' a xs := h.elim (fun e => .inl (k _ _ e)) fun e => .inr (k _ _ e)
theorem SeqOf.lt {K : PySem.W.Frag} {H : Hp} {a : Addr} {xs : List V} (h : SeqOf H a xs) : SqL K H a xs ∨ SqT K H a xs := h.elim (fun e => .inl (SqL.of e)) fun e => .inr (SqT.of e)
def iSeq (K : PySem.W.Frag) (i : Nat) : TI := fun σ H R => ∃ a, σ[i]? = some (some (.ref a)) ∧ (((∃ xs, H a = some (.lst xs)) ∧ R (Itl K a) H) ∨ ((∃ xs, H a = some (.tup xs)) ∧ R (Itt K a) H))
section
variable {X : Cx} {tg : Expr}
theorem pi_seq (i : Nat) {x : Str} {pos : Pos} (hN : X.N[i]? = some x := by rfl) (hv : Vis X.env.scope x := by first | exact Or.inl rfl | exact Or.inr (Or.inl rfl) | exact Or.inr (Or.inr rfl)) (hd : (x == ("__debug__" : Str)) = false := by decide)
    (hcd : (x == ("__classdict__" : Str)) = false := by decide) : PI X tg (.Name x pos) (iSeq X.K i) := by
  refine ⟨fun pins s σ H R I h => ?_⟩
  obtain ⟨a, e, h⟩ := h
  rcases h with ⟨⟨xs, hs⟩, q⟩ | ⟨⟨xs, hs⟩, q⟩
  · exact (pi_list (pe_var hN hv hd hcd)).run pins s σ H R I ⟨_, e, a, rfl, ⟨xs, SqL.of hs⟩, q⟩
  · exact (pi_tup (pe_var hN hv hd hcd)).run pins s σ H R I ⟨_, e, a, rfl, ⟨xs, SqT.of hs⟩, q⟩
end
theorem for_seq {K : PySem.W.Frag} {i : Nat} {a : Addr} {xs : List V} {g : TG} {tb : TS} {D : Ends} {σ : L2.St} {H : Hp} (e : σ[i]? = some (some (.ref a))) (hs : SeqOf H a xs) (Pv : Nat → L2.St → Hp → Prop) (h0 : Pv 0 σ H) (hk : ∀ i σ H', i ≤ xs.length → Pv i σ H' → ∀ o, H a = some o → H' a = some o)
    (turn : ∀ i x σ H, xs[i]? = some x → Pv i σ H → g x σ H fun σ2 H2 => tb { D with nx := Pv (i + 1), ct := Pv (i + 1), bk := D.nx } σ2 H2) (hd : ∀ σ H, Pv xs.length σ H → D.nx σ H) : tFor (iSeq K i) g tb D σ H := by
  refine ⟨a, e, ?_⟩
  rcases hs with h | h
  · exact .inl ⟨⟨xs, h⟩, for_list Pv h0 (fun j σ' H' hj p => SqL.of (hk j σ' H' hj p _ h)) turn hd⟩
  · exact .inr ⟨⟨xs, h⟩, for_tup Pv h0 (fun j σ' H' hj p => SqT.of (hk j σ' H' hj p _ h)) turn hd⟩
theorem lc_seq {K : PySem.W.Frag} {j : Nat} {a : Addr} {xs : List V} {g : TG} {tt : TT} {te : TE} {vs : List Nat} {σ : L2.St} {H : Hp} {Q : VK} (e : σ[j]? = some (some (.ref a))) (hs : SeqOf H a xs) (Pv : Addr → Nat → Hp → Prop) (h0 : ∀ D, H D = none → Pv D 0 (upd H D (.lst [])))
    (hk : ∀ D i H', H D = none → i ≤ xs.length → Pv D i H' → ∀ o, H a = some o → H' a = some o)
    (turn : ∀ D i x H', H D = none → xs[i]? = some x → Pv D i H' → g x (wipe σ vs) H' fun σ2 H2 => wipe σ2 vs = wipe σ vs ∧ tt σ2 H2 fun b H3 =>
      if b = true then te σ2 H3 fun y H4 => ∃ acc, H4 D = some (.lst acc) ∧ acc.length < sizeLine ∧ Pv D (i + 1) (upd H4 D (.lst (acc ++ [y]))) else Pv D (i + 1) H3) (hd : ∀ D H', H D = none → Pv D xs.length H' → Q (.ref D) H') : tLc (iSeq K j) g tt te vs σ H Q := by
  refine ⟨a, e, ?_⟩
  rcases hs with h | h
  · exact .inl ⟨⟨xs, h⟩, fun D nD => lc_list (Pv D) (h0 D nD) (fun i H' hi p => SqL.of (hk D i H' nD hi p _ h)) (fun i x H' hx p => turn D i x H' nD hx p) fun H' p => hd D H' nD p⟩
  · exact .inr ⟨⟨xs, h⟩, fun D nD => lc_tup (Pv D) (h0 D nD) (fun i H' hi p => SqT.of (hk D i H' nD hi p _ h)) (fun i x H' hx p => turn D i x H' nD hx p) fun H' p => hd D H' nD p⟩
/-! sorted of a tuple, of a list or tuple -/
section
variable {X : Cx}
theorem cr_sortedT : CallR X (.builtin "sorted") (fun vs H Q => ∃ (a : Addr) (xs : List Str), vs = [V.ref a] ∧ H a = some (.tup (xs.map V.str)) ∧ xs.length < 64 ∧ ∀ (ys : List Str) (p : Addr), ys.Perm xs → sortedS ys = true → H p = none → Q (.ref p) (upd H p (.lst (ys.map V.str)))) := by
  intro pins s σ H vs us Q I r h
  obtain ⟨a, xs, rfl, ha, h64, q⟩ := h
  obtain rfl := Vals.ref1 r
  obtain ⟨z0, its, rv, o, ho, hc, n, hd⟩ := (show ObjOk X.prog X.w H s.heap a (.tup (xs.map V.str)) from I.hok a _ ha)
  have hS := rv.strs
  have hal : its.length = xs.length := by
    have z := rv.length
    rw [List.length_map] at z
    exact z.symm
  have hsz : its.length ≤ sizeLine := by rw [hal, sizeLine_eq]; omega
  refine Calls.call_function_entry PyProof.Rows.kind_sorted PyProof.Rows.plain_sorted PyProof.Rows.entry_sorted (PyProof.Rows.args_sorted1 _) ?_
  unfold Builtin.«sorted»
  refine wpAny_bind (m := checkCount "sorted" 1 1 _) (wpAny_pure ?_)
  refine wpAny_bind (wpAny_collect_seq a (.inr rfl) ho hc hd (fun h' hk => ?_) (by rw [List.size_toArray]; exact hsz))
  rw [show its.toArray.toList = its from by simp]
  have I1 : Inv X pins σ H { s with heap := h' } := I.kept (t' := s.toks) hk
  refine wpAny_bind (wpAny_newList ?_ hsz)
  have hoL : (h'.push (seqObj "list" its.toArray 0)).get? h'.objs.size = some (seqObj "list" its.toArray 0) := Heap.get?_push_size _ rfl
  show wpAny _ _ _ _ _ { s with heap := h'.push (seqObj "list" its.toArray 0) }
  refine wpAny_bind (wpAny_holding (wpAny_call_entry PyProof.Rows.slot_list_sort ⟨_, hoL, rfl⟩ PyProof.Rows.entry_list_sort
    (list_sort_treeK strKind_oneLt (s := { s with heap := h'.push (seqObj "list" its.toArray 0) }) hoL hS.keysOf (fun v₁ v₂ rest e => keyKind_strs (by rw [← e]; exact hS)) (by rw [hal]; exact h64) fun st' hp hs => ⟨_, rfl, ?_⟩)
    (PyProof.Rows.args_list_sort _)))
  obtain ⟨ys, g1, g2, g3⟩ := sorted_out_str hS hp hs
  obtain ⟨e', he'⟩ := PyProof.Rows.sortedHeap_at (vs := its) (out := (arrOf st').map (·.2)) hoL
  have hlen : (ys.map V.str).length ≤ sizeLine := by
    rw [List.length_map, g2.length_eq, sizeLine_eq]
    omega
  refine wpAny_pure ⟨_, rfl, .ref h'.objs.size, upd H h'.objs.size (.lst (ys.map V.str)), I1.laid (t' := s.toks) (fun b u e => ?_) (Nat.le_refl _)
    (show ObjOk X.prog X.w _ _ _ (.lst (ys.map V.str)) from ⟨hlen, ((arrOf st').map (·.2)).toList, e', vals_of_strs g1, by rw [Array.toArray_toList]; exact he'⟩), rfl, q ys _ g2 g3 (I1.hok.fresh (Nat.le_refl _))⟩
  have hb : b < h'.objs.size := Heap.lt_size e
  rw [PyProof.Rows.sortedHeap_old (Nat.ne_of_lt hb) (by rw [size_push']; exact Nat.lt_succ_of_lt hb)]
  exact Heap.get?_push_of_some _ e
/-- sorted of a list or a tuple of texts -/
def rSortedQ : List V → Hp → VK → Prop := fun vs H Q => ∃ (a : Addr) (xs : List Str), vs = [V.ref a] ∧ SeqOf H a (xs.map V.str) ∧ xs.length < 64 ∧ ∀ (ys : List Str) (p : Addr), ys.Perm xs → sortedS ys = true → H p = none → Q (.ref p) (upd H p (.lst (ys.map V.str)))
theorem cr_sortedQ : CallR X (.builtin "sorted") rSortedQ := by
  intro pins s σ H vs us Q I r h
  obtain ⟨a, xs, ev, ha, h64, q⟩ := h
  rcases ha with ha | ha
  · exact cr_sortedS pins s σ H vs us Q I r ⟨a, xs, ev, SqL.of ha, h64, q⟩
  · exact cr_sortedT pins s σ H vs us Q I r ⟨a, xs, ev, ha, h64, q⟩
end
end Own

namespace K1
open PySem PySem.Spec PyProof.Rows L2
/-! ### a source of draws -/
theorem same_upd {H : Hp} {p : Addr} {o : HO} (h : H p = none) : Same H (upd H p o) := fun b x e => by
  rw [upd_ne (ne_of_none e h)]
  exact e
/-- all but what stands at s stays -/
def Keep (s : Addr) (H H' : Hp) : Prop := ∀ b o, b ≠ s → H b = some o → H' b = some o
theorem Keep.of {s : Addr} {H H' : Hp} (h : Same H H') : Keep s H H' := fun b o _ e => h b o e
theorem Keep.trans {s : Addr} {H H1 H2 : Hp} (a : Keep s H H1) (b : Keep s H1 H2) : Keep s H H2 := fun c o n e => b c o n (a c o n e)
theorem Keep.refl (s : Addr) (H : Hp) : Keep s H H := fun _ _ _ e => e
theorem Keep.upd {s : Addr} {H : Hp} {o : HO} : Keep s H (upd H s o) := fun b x n e => by
  rw [upd_ne n]
  exact e
theorem Keep.new {s p : Addr} {H H' : Hp} {o : HO} (a : Keep s H H') (h : H' p = none) : Keep s H (L2.upd H' p o) := a.trans (.of (same_upd h))
def SrcOk (a b : Int) : Prop := (b = 0 ∧ 0 ≤ a) ∨ (1 ≤ b ∧ 0 ≤ a ∧ a < 2147483647)
def Src (H : Hp) (s : Addr) : Prop := ∃ a b : Int, H s = some (.lst [.int a, .int b]) ∧ SrcOk a b
/-- where s is a source, a place that is free later was free before -/
theorem Keep.free {s p : Addr} {H H' : Hp} (k : Keep s H H') (q : Src H' s) (h : H' p = none) : H p = none := by
  by_cases e : p = s
  · subst e
    obtain ⟨a, b, z, _⟩ := q
    rw [z] at h
    cases h
  · cases z : H p with
    | none => rfl
    | some o =>
      rw [k p o e z] at h
      cases h
theorem Src.new {s p : Addr} {H : Hp} {o : HO} (q : Src H s) (h : H p = none) : Src (upd H p o) s := by
  obtain ⟨a, b, z, ok⟩ := q
  exact ⟨a, b, by rw [upd_ne (ne_of_none z h)]; exact z, ok⟩
theorem Src.same {s : Addr} {H H' : Hp} (q : Src H s) (h : Same H H') : Src H' s := by
  obtain ⟨a, b, z, ok⟩ := q
  exact ⟨a, b, h _ _ z, ok⟩
theorem mod_lt {a m : Int} (h : 0 < m) : 0 ≤ a % m ∧ a % m < m := ⟨Int.emod_nonneg _ (by omega), Int.emod_lt_of_pos _ h⟩
theorem fmod_pos {a m : Int} (h : 0 < m) : 0 ≤ a.fmod m ∧ a.fmod m < m := by
  rw [Int.fmod_eq_emod_of_nonneg _ (by omega)]
  exact mod_lt h
/-- draw: a number below many -/
def spDraw : Sp := fun vs H Q _ => ∃ (s : Addr) (m : Int), vs = [.ref s, .int m] ∧ Src H s ∧ 0 < m ∧ m < 1073741824 ∧ ∀ (d : Int) (H' : Hp), 0 ≤ d → d < m → Src H' s → Keep s H H' → Q (.int d) H'
section
variable {P : Program} {w : World} {K : PySem.W.Frag} {mg : Str → Option Value} {base : Heap}
theorem scDraw : FnScope ["source", "many", "digit"] ["source", "many"] (defScope sDraw) := ⟨rfl, rfl, rfl, by decide +kernel, rfl, by decide +kernel, by decide +kernel⟩
theorem ok_draw {f : Addr} {fd : FuncData} (F : Fun K "_law_draw" "_law_draw" sDraw f fd) : FnOk P w K mg base CX0 1 f fd ["source", "many"] spDraw := by
  refine F.ok scDraw (fun vs H Q E h => ?_) (fun cdv A outer s H vs Q E hr h => ?_)
  · obtain ⟨a, m, rfl, _⟩ := h
    rfl
  · obtain ⟨s, m, rfl, ⟨a, b, hs, ok⟩, m0, m1, k⟩ := h
    refine ⟨_, pss_cons (ps_if (pt_cmpR op_eq (pe_ix ix_list (pv 0) pe_int (fun _ _ => rfl)) pe_int (nomark _))
        (pss_cons (ps_set (i := 2) scDraw.nd rfl (Or.inl rfl) (pe_op op_modN (pe_ix ix_list (pv 0) pe_int (fun _ _ => rfl)) (pv 1)))
          (pss_cons (ps_asg (pe_op op_fdivN (pe_ix ix_list (pv 0) pe_int (fun _ _ => rfl)) (pv 1)) (pg_sub (pv 0) pe_int set_list))
            (pss_one (ps_ret (pv 2))))) pss_nil)
      (pss_cons (ps_asg (pe_op op_mod (pe_op op_add (pe_op op_add (pe_op op_pow (pe_ix ix_list (pv 0) pe_int (fun _ _ => rfl)) pe_int) (pe_op op_mul pe_int (pe_ix ix_list (pv 0) pe_int (fun _ _ => rfl)))) pe_int) pe_int) (pg_sub (pv 0) pe_int set_list))
      (pss_cons (ps_asg (pe_op op_add (pe_ix ix_list (pv 0) pe_int (fun _ _ => rfl)) pe_int) (pg_sub (pv 0) pe_int set_list))
      (pss_one (ps_ret (pe_op op_modN (pe_op op_fdiv (pe_op op_mod (pe_op op_mul (pe_ix ix_list (pv 0) pe_int (fun _ _ => rfl)) pe_int) pe_int) pe_int) (pv 1)))))), ?_⟩
    refine ⟨_, rfl, s, _, 1, _, rfl, rfl, SqL.of hs, atI_nat (j := 1) rfl, rfl, _, rfl, ite2 (fun e => ?_) (fun e => ?_)⟩
    · have b0 : b = 0 := V.int.inj (of_decide_eq_true e)
      subst b0
      have a0 : 0 ≤ a := by
        rcases ok with z | z
        · exact z.2
        · omega
      refine ⟨_, rfl, s, _, 0, _, rfl, rfl, SqL.of hs, atI_nat (j := 0) rfl, _, rfl, _, _, rfl, rfl, (by omega), ?_⟩
      refine ⟨_, rfl, s, _, 0, _, rfl, rfl, SqL.of hs, atI_nat (j := 0) rfl, _, rfl, _, _, rfl, rfl, ⟨by omega, by omega⟩, ?_⟩
      refine ⟨_, rfl, s, _, 0, 0, rfl, rfl, hs, rfl, ?_⟩
      refine ⟨_, rfl, ?_⟩
      have q := fmod_pos (a := a) m0
      refine k _ _ q.1 q.2 ⟨_, _, upd_same, .inl ⟨rfl, ?_⟩⟩ Keep.upd
      rw [Int.fdiv_eq_ediv_of_nonneg _ (by omega)]
      exact Int.ediv_nonneg a0 (by omega)
    · have b0 : ¬ b = 0 := fun z => e (by rw [z]; exact decide_eq_true rfl)
      obtain ⟨b1, a0, a1⟩ : 1 ≤ b ∧ 0 ≤ a ∧ a < 2147483647 := by
        rcases ok with z | z
        · exact absurd z.1 b0
        · exact z
      refine ⟨_, rfl, s, _, 0, _, rfl, rfl, SqL.of hs, atI_nat (j := 0) rfl, _, _, rfl, rfl, ⟨by decide, by decide, by omega⟩, ?_⟩
      refine ⟨_, rfl, s, _, 1, _, rfl, rfl, SqL.of hs, atI_nat (j := 1) rfl, _, _, rfl, rfl, .inl ⟨by decide, by decide⟩, _, _, rfl, rfl, _, _, rfl, rfl, _, _, rfl, rfl, (by decide : (0 : Int) < 2147483647), ?_⟩
      refine ⟨_, rfl, s, _, 0, 0, rfl, rfl, hs, rfl, ?_⟩
      have q := mod_lt (a := a ^ (5 : Int).toNat + 48271 * b + 11) (m := 2147483647) (by decide)
      refine ⟨_, rfl, s, _, 1, _, rfl, rfl, SqL.of upd_same, atI_nat (j := 1) rfl, _, _, rfl, rfl, ?_⟩
      refine ⟨_, rfl, s, _, 1, 1, rfl, rfl, upd_same, rfl, ?_⟩
      rw [upd_upd]
      refine ⟨_, rfl, s, _, 0, _, rfl, rfl, SqL.of upd_same, atI_nat (j := 0) rfl, _, _, rfl, rfl, .inr ⟨by decide, by decide⟩, _, _, rfl, rfl, (by decide : (0 : Int) < 2147483629), _, _, rfl, rfl, ⟨by decide, by decide⟩, _, rfl, _, _, rfl, rfl, (by omega), ?_⟩
      exact k _ _ (fmod_pos m0).1 (fmod_pos m0).2 ⟨_, _, upd_same, .inr ⟨by omega, q.1, q.2⟩⟩ Keep.upd
end
end K1

namespace K1
open PySem PySem.Spec PyProof.Rows L2 Own
theorem iteTD {p A B : Prop} [Decidable p] (hp : p) (h : A) : if decide p = true then A else B := by
  rw [if_pos (decide_eq_true hp)]
  exact h
theorem iteFD {p A B : Prop} [Decidable p] (hp : ¬ p) (h : B) : if decide p = true then A else B := by
  rw [if_neg (by rw [decide_eq_false hp]; decide)]
  exact h
theorem iteNF {p A B : Prop} [Decidable p] (hp : ¬ p) (h : A) : if (!decide p) = true then A else B := by
  rw [decide_eq_false hp]
  exact iteT h
/-! ### names -/
def NameOk (z : Str) : Prop := 1 ≤ z.length ∧ z.length ≤ 8 ∧ ∀ c ∈ z.cps.toList, 97 ≤ c ∧ c ≤ 122
def abc : Str := "abcdefghijklmnopqrstuvwxyz"
theorem in_abc {c : Nat} (h0 : 97 ≤ c) (h1 : c ≤ 122) : c ∈ abc.cps.toList := by
  have h : ∀ d : Fin 26, (97 + d.val) ∈ abc.cps.toList := by decide +kernel
  have q := h ⟨c - 97, by omega⟩
  have e : 97 + (c - 97) = c := by omega
  simpa [e] using q
def spIsName : Sp := fun vs H Q _ => ∃ z, vs = [.str z] ∧ NameOk z ∧ ∀ H', Same H H' → Q (.bl true) H'
def spIsPair : Sp := fun vs H Q _ => ∃ t x y, vs = [.ref t] ∧ H t = some (.tup [x, y]) ∧ Q (.bl true) H
section
variable {P : Program} {w : World} {K : PySem.W.Frag} {mg : Str → Option Value} {base : Heap}
theorem scIsName : FnScope ["thing", "letter"] ["thing"] (defScope sIsName) := ⟨rfl, rfl, rfl, by decide +kernel, rfl, by decide +kernel, by decide +kernel⟩
theorem ok_isName {f : Addr} {fd : FuncData} {tL : Tok} {tA : Tok} (F : Fun K "is_name" "is_name" sIsName f fd) (ml : mg "len" = none) (mi : mg "isinstance" = none) (ms : mg "str" = none) (ma : mg "all" = none) (mL : mg "LONGEST_NAME" = some (.int 8 tL)) (mA : mg "LETTERS" = some (.str abc tA)) :
    FnOk P w K mg base CX0 1 f fd ["thing"] spIsName := by
  refine F.ok scIsName (fun vs H Q E h => ?_) (fun cdv A outer s H vs Q E hr h => ?_)
  · obtain ⟨z, rfl, _⟩ := h
    rfl
  · obtain ⟨z, rfl, ⟨z1, z2, z3⟩, k⟩ := h
    refine ⟨_, pss_cons (ps_if (PW.pt (pw_or (pt_not (pt_val (pe_callB call_isi (by rfl) mi (by decide +kernel) (pa_cons (pv 0) (pa_cons (pe_bltn (v := .ty "str") (u := .type "str") (by rfl) ms (by decide +kernel) rfl) pa_nil)))))
        (pw_or1 (pt_not (pt_chain op_le op_le pe_int (pe_callB call_len_str (by rfl) ml PySem.boot_len (pa_cons (pv 0) pa_nil)) (pe_glob (v := .int 8) (by rfl) mL ⟨_, rfl⟩)))))) (pss_one (ps_ret pe_bl)) pss_nil)
      (pss_one (ps_ret (pe_callB (cr_all rfl) (by rfl) ma (by decide +kernel) (pa_cons (pe_lc (own := [("letter", 1)]) (g := gName 1) (tt := tYes) rfl scIsName.nd (pi_str (pv 0)) (blkOk_by (N := ["thing", "letter"]) (sc := defScope sIsName) (by decide +kernel))
        (fun _ _ _ _ _ => pg_name (i := 1) scIsName.nd rfl (Or.inl rfl)) (fun _ _ _ _ _ => pts_nil) (fun _ _ _ _ _ => pe_cmpR op_in_sign (pv 1) (pe_glob (v := .str abc) (by rfl) mA ⟨_, rfl⟩) rfl)) pa_nil)))), ?_⟩
    have zs : z.length ≤ sizeLine := by rw [sizeLine_eq]; omega
    refine ⟨_, rfl, _, _, _, _, true, rfl, .ty "str", .base (.str z), kit_ty (by decide +kernel), true, rfl, ?_⟩
    refine ⟨_, rfl, _, rfl, zs, _, _, rfl, rfl, _, rfl, ?_⟩
    refine iteTD (by omega) ⟨_, _, rfl, rfl, _, rfl, iteNS (by omega) ?_⟩
    refine ⟨_, rfl, z, rfl, fun D nD => lc_it walk_str (fun i H' => Same H H' ∧ H' D = some (.lst (List.replicate i (V.bl true)))) ⟨same_upd nD, upd_same⟩ (fun _ _ _ _ => trivial) ?_ ?_⟩
    · rintro i x H1 H' hi ⟨sm, hD⟩ ⟨rfl, c, hc, rfl⟩
      have cm : c ∈ z.cps.toList := by
        have q := Array.mem_of_getElem? hc
        exact Array.mem_toList_iff.mpr q
      have cb := z3 c cm
      have ca : decide (c ∈ abc.cps.toList) = true := decide_eq_true (in_abc cb.1 cb.2)
      have hz : z.cps.size ≤ 8 := z2
      refine ⟨rfl, _, rfl, c, abc, rfl, rfl, _, hD, ?_, ?_, ?_⟩
      · rw [List.length_replicate]
        exact small1000 (by omega)
      · intro b o e
        rw [upd_ne (ne_of_none e nD)]
        exact sm _ _ e
      · show upd H' D _ D = _
        rw [upd_same, ca, ← List.replicate_succ']
    · rintro H' ⟨sm, hD⟩
      refine ⟨D, List.replicate z.cps.size true, rfl, SqL.of (by rw [List.map_replicate]; exact hD), ?_⟩
      have e : (List.replicate z.cps.size true).all id = true := by simp
      rw [e]
      exact k _ sm
theorem scIsPair : FnScope ["thing"] ["thing"] (defScope sIsPair) := ⟨rfl, rfl, rfl, by decide +kernel, rfl, by decide +kernel, by decide +kernel⟩
theorem ok_isPair {f : Addr} {fd : FuncData} (F : Fun K "is_pair" "is_pair" sIsPair f fd) (ml : mg "len" = none) (mi : mg "isinstance" = none) (mt : mg "tuple" = none) : FnOk P w K mg base CX0 1 f fd ["thing"] spIsPair := by
  refine F.ok scIsPair (fun vs H Q E h => ?_) (fun cdv A outer s H vs Q E hr h => ?_)
  · obtain ⟨t, x, y, rfl, _⟩ := h
    rfl
  · obtain ⟨t, x, y, rfl, ht, k⟩ := h
    refine ⟨_, pss_one (ps_ret (pe_and (pe_callB call_isi (by rfl) mi (by decide +kernel) (pa_cons (pv 0) (pa_cons (pe_bltn (v := .ty "tuple") (u := .type "tuple") (by rfl) mt (by decide +kernel) rfl) pa_nil)))
      (pe_one (pe_cmpR op_eq (pe_callB call_len_seq (by rfl) ml PySem.boot_len (pa_cons (pv 0) pa_nil)) pe_int (nomark _))))), ?_⟩
    refine ⟨_, rfl, _, _, _, _, true, rfl, .ty "tuple", .base (.tup ht), kit_ty (by decide +kernel), true, rfl, iteT ?_⟩
    exact ⟨_, rfl, t, _, rfl, .inr (SqT.of ht), rfl, k⟩
end
end K1

namespace K1
open PySem PySem.Spec PyProof.Rows L2 Own
/-! ### rows -/
abbrev Ln := Str × List Str
abbrev nms (ls : List Ln) : List Str := ls.map (·.1)
def RowAt (H : Hp) (v : V) (l : Ln) : Prop := ∃ t b, v = .ref t ∧ H t = some (.tup [.str l.1, .ref b]) ∧ SeqOf H b (l.2.map V.str)
def RowsAt (H : Hp) (a : Addr) (ls : List Ln) : Prop := ∃ vs, SeqOf H a vs ∧ Paired (RowAt H) vs ls
theorem RowAt.same {H H' : Hp} {v : V} {l : Ln} (k : Same H H') (h : RowAt H v l) : RowAt H' v l := by
  obtain ⟨t, b, e, ht, hb⟩ := h
  exact ⟨t, b, e, k _ _ ht, hb.same k⟩
theorem paired_imp {α β : Type} {F G : α → β → Prop} (h : ∀ a b, F a b → G a b) : ∀ {xs : List α} {ys : List β}, Paired F xs ys → Paired G xs ys
  | _, _, .nil => .nil
  | _, _, .cons a r => .cons (h _ _ a) (paired_imp h r)
theorem RowsAt.same {H H' : Hp} {a : Addr} {ls : List Ln} (k : Same H H') (h : RowsAt H a ls) : RowsAt H' a ls := by
  obtain ⟨vs, hs, p⟩ := h
  exact ⟨vs, hs.same k, paired_imp (fun _ _ => RowAt.same k) p⟩
theorem paired_at {α β : Type} {F : α → β → Prop} : ∀ {xs : List α} {ys : List β}, Paired F xs ys → ∀ {i : Nat} {x : α}, xs[i]? = some x → ∃ y, ys[i]? = some y ∧ F x y
  | _, _, .nil, _, _, h => by simp at h
  | _, _, .cons a r, 0, x, h => by
    have e := Option.some.inj h
    subst e
    exact ⟨_, rfl, a⟩
  | _, _, .cons a r, i + 1, x, h => by
    obtain ⟨y, e, q⟩ := paired_at r (i := i) (x := x) (by simpa using h)
    exact ⟨y, by simpa using e, q⟩
theorem paired_at' {α β : Type} {F : α → β → Prop} : ∀ {xs : List α} {ys : List β}, Paired F xs ys → ∀ {i : Nat} {y : β}, ys[i]? = some y → ∃ x, xs[i]? = some x ∧ F x y
  | _, _, .nil, _, _, h => by simp at h
  | _, _, .cons a r, 0, x, h => by
    have e := Option.some.inj h
    subst e
    exact ⟨_, rfl, a⟩
  | _, _, .cons a r, i + 1, x, h => by
    obtain ⟨y, e, q⟩ := paired_at' r (i := i) (y := x) (by simpa using h)
    exact ⟨y, by simpa using e, q⟩
theorem paired_len {α β : Type} {F : α → β → Prop} : ∀ {xs : List α} {ys : List β}, Paired F xs ys → xs.length = ys.length
  | _, _, .nil => rfl
  | _, _, .cons _ r => by rw [List.length_cons, List.length_cons, paired_len r]
structure LnsOk (ls : List Ln) : Prop where
  names : ∀ l ∈ ls, NameOk l.1
  nd : (nms ls).Nodup
  few : ls.length ≤ 7
  base : ∀ (i : Nat) l, ls[i]? = some l → l.2.Nodup ∧ (∀ b ∈ l.2, b ∈ nms (ls.take i)) ∧ l.2.length ≤ 7
theorem inV_str (x : Str) (ss : List Str) : inV (.str x) (ss.map V.str) = decide (x ∈ ss) := by
  unfold inV
  rw [List.any_map]
  rw [Bool.eq_iff_iff, List.any_eq_true]
  simp only [Function.comp, eqV, decide_eq_true_eq]
  exact ⟨fun ⟨y, hy, e⟩ => by rw [← beq_iff_eq.mp e]; exact hy, fun h => ⟨x, h, beq_self_eq_true x⟩⟩
theorem flat_strs (ss : List Str) : (ss.map V.str).all flatV = true := by
  rw [List.all_map, List.all_eq_true]
  intro x _
  rfl
theorem take_succ_map {α β : Type} {f : α → β} {l : List α} {i : Nat} {x : α} (h : l[i]? = some x) : (l.take (i + 1)).map f = (l.take i).map f ++ [f x] := by
  rw [List.take_add_one, h, List.map_append]
  rfl
theorem not_before {ls : List Ln} {i : Nat} {l : Ln} (nd : (nms ls).Nodup) (h : ls[i]? = some l) : l.1 ∉ nms (ls.take i) := by
  intro hm
  obtain ⟨x, hx, e⟩ := List.mem_map.mp hm
  obtain ⟨j, hj⟩ := List.mem_iff_getElem?.mp hx
  rw [List.getElem?_take] at hj
  split at hj
  · rename_i hji
    have h1 : (nms ls)[j]? = some l.1 := by rw [List.getElem?_map, hj]; simp [e]
    have h2 : (nms ls)[i]? = some l.1 := by rw [List.getElem?_map, h]; rfl
    have := nd_ix nd h1 h2
    omega
  · cases hj
theorem isi_lt {K : PySem.W.Frag} {H : Hp} {a : Addr} {xs : List V} (h : SeqOf H a xs) : ∃ t, TyX K H (.ref a) t ∧ PySem.W.kitAny K t [.type "list", .type "tuple"] = some true := by
  rcases h with h | h
  · exact ⟨_, .base (.lst h), kitAny_cons (b := true) (kit_ty (by decide +kernel)) (fun z => nomatch z) fun _ => rfl⟩
  · exact ⟨_, .base (.tup h), kitAny_cons (b := false) (kit_ty (by decide +kernel)) (fun _ => kitAny_cons (b := true) (kit_ty (by decide +kernel)) (fun z => nomatch z) fun _ => rfl) fun z => nomatch z⟩
theorem q_cb1 {r : List V → Hp → VK → Prop} {te : TE} {σ : L2.St} {H : Hp} {Q : VK} (h : te σ H fun x H1 => r [x] H1 Q) : tCB r (tCons te tNil) σ H Q := h
def spAreRows : Sp := fun vs H Q _ => ∃ a ls, vs = [.ref a] ∧ RowsAt H a ls ∧ ls.length ≤ 1000 ∧ ∀ H', Same H H' → Q (.bl true) H'
def spCkNames : Sp := fun vs H Q _ => ∃ a ls, vs = [.ref a] ∧ RowsAt H a ls ∧ LnsOk ls ∧ ∀ H', Same H H' → Q .non H'
section
variable {P : Program} {w : World} {K : PySem.W.Frag} {mg : Str → Option Value} {base : Heap}
theorem scAreRows : FnScope ["thing", "row"] ["thing"] (defScope sAreRows) := ⟨rfl, rfl, rfl, by decide +kernel, rfl, by decide +kernel, by decide +kernel⟩
theorem ok_areRows {f g : Addr} {fd gd : FuncData} (F : Fun K "_are_rows" "_are_rows" sAreRows f fd) (G : FnOk P w K mg base CX0 1 g gd ["thing"] spIsPair) (kG : PySem.W.keepIn K (.ref g) = true) (bG : Binds K gd ["thing"] []) (mG : mg "is_pair" = some (.ref g))
    (mi : mg "isinstance" = none) (ma : mg "all" = none) (ml : mg "list" = none) (mt : mg "tuple" = none) : FnOk P w K mg base CX0 2 f fd ["thing"] spAreRows := by
  refine F.ok scAreRows (fun vs H Q E h => ?_) (fun cdv A outer s H vs Q E hr h => ?_)
  · obtain ⟨a, ls, rfl, _⟩ := h
    rfl
  · obtain ⟨a, ls, rfl, ⟨rs, hs, pr⟩, h1000, k⟩ := h
    refine ⟨_, pss_one (ps_ret (pe_and (pe_callB call_isiT (by rfl) mi (by decide +kernel) (pa_cons (pv 0) (pa_cons (pe_tup (pa_cons (pe_bltn (v := .ty "list") (u := .type "list") (by rfl) ml (by decide +kernel) rfl) (pa_cons (pe_bltn (v := .ty "tuple") (u := .type "tuple") (by rfl) mt (by decide +kernel) rfl) pa_nil))) pa_nil)))
      (pe_one (pe_callB (cr_all rfl) (by rfl) ma (by decide +kernel) (pa_cons (pe_lc (own := [("row", 1)]) (g := gName 1) (tt := tYes) rfl scAreRows.nd (pi_seq 0) (blkOk_by (N := ["thing", "row"]) (sc := defScope sAreRows) (by decide +kernel))
        (fun _ _ _ _ _ => pg_name (i := 1) scAreRows.nd rfl (Or.inl rfl)) (fun _ _ _ _ _ => pts_nil) (fun _ _ _ _ _ => pe_call G hr (by rfl) mG kG bG .nil pass0 (pa_cons (pv 1) pa_nil))) pa_nil))))), ?_⟩
    refine ⟨_, rfl, (by show 2 ≤ sizeLine; decide), fun tp ntp => ?_⟩
    have s1 : Same H (upd H tp (.tup [.ty "list", .ty "tuple"])) := same_upd ntp
    obtain ⟨t, ty, kt⟩ := isi_lt (K := K) (hs.same s1)
    refine ⟨_, tp, _, t, _, true, rfl, upd_same, .cons (.ty "list") (.cons (.ty "tuple") .nil), ty, kt, true, rfl, iteT ?_⟩
    have hl := paired_len pr
    generalize upd H tp (.tup [.ty "list", .ty "tuple"]) = H0 at s1
    refine q_cb1 ?_
    refine lc_seq (a := a) (xs := rs) (by rfl) (hs.same s1) (fun D i H' => Same H0 H' ∧ H' D = some (.lst (List.replicate i (V.bl true)))) (fun D nD => ⟨same_upd nD, upd_same⟩) (fun D i H' nD hi p => p.1 _) ?_ ?_
    · rintro D i x H' nD hx ⟨sm, hD⟩
      obtain ⟨l, hl2, t, b, rfl, ht, _⟩ := paired_at pr hx
      have hi : i < ls.length := (List.getElem?_eq_some_iff.mp hl2).1
      refine ⟨rfl, _, rfl, t, _, _, rfl, sm _ _ (s1 _ _ ht), _, hD, ?_, ?_, ?_⟩
      · rw [List.length_replicate]
        exact small1000 (by omega)
      · intro c o e
        rw [upd_ne (ne_of_none e nD)]
        exact sm _ _ e
      · show upd H' D _ D = _
        rw [upd_same, ← List.replicate_succ']
    · rintro D H' nD ⟨sm, hD⟩
      refine ⟨D, List.replicate rs.length true, rfl, SqL.of (by rw [List.map_replicate]; exact hD), ?_⟩
      have e : (List.replicate rs.length true).all id = true := by simp
      rw [e]
      exact k _ (s1.trans sm)
theorem scCkNames : FnScope ["rows", "before", "name", "_"] ["rows"] (defScope sCkNames) := ⟨rfl, rfl, rfl, by decide +kernel, rfl, by decide +kernel, by decide +kernel⟩
theorem ok_ckNames {f g : Addr} {fd gd : FuncData} (F : Fun K "_check_names" "_check_names" sCkNames f fd) (G : FnOk P w K mg base CX0 1 g gd ["thing"] spIsName) (kG : PySem.W.keepIn K (.ref g) = true) (bG : Binds K gd ["thing"] []) (mG : mg "is_name" = some (.ref g)) :
    FnOk P w K mg base CX0 2 f fd ["rows"] spCkNames := by
  refine F.ok scCkNames (fun vs H Q E h => ?_) (fun cdv A outer s H vs Q E hr h => ?_)
  · obtain ⟨a, ls, rfl, _⟩ := h
    rfl
  · obtain ⟨a, ls, rfl, ⟨rs, hs, pr⟩, ok, k⟩ := h
    refine ⟨_, pss_cons (ps_set (i := 1) scCkNames.nd rfl (Or.inl rfl) (pe_lst pa_nil))
      (pss_one (ps_for PassesOwn.never rfl (pi_seq 0) (pg_tup rfl (pgs_cons (pg_name (i := 2) scCkNames.nd rfl (Or.inl rfl)) (pgs_cons (pg_name (i := 3) scCkNames.nd rfl (Or.inl rfl)) pgs_nil)))
        (pss_cons (ps_if (PW.pt (pw_or (pt_not (pt_val (pe_call G hr (by rfl) mG kG bG .nil pass0 (pa_cons (pv 2) pa_nil)))) (pw_or1 (pt_cmpR op_in_seq (pv 2) (pv 1) (by rfl))))) (pss_one ps_never) pss_nil)
          (pss_one (ps_expr (pe_bm PySem.F.plainAttrs_list PySem.F.slot_list_append PySem.F.type_list_append mt_append (pv 1) (pa_cons (pv 2) pa_nil))))))), ?_⟩
    refine ⟨Nat.zero_le _, fun p np => ?_⟩
    have s1 : Same H (upd H p (.lst [])) := same_upd np
    have hl := paired_len pr
    refine for_seq (a := a) (xs := rs) (by rfl) (hs.same s1) (fun i σ H' => ∃ v2 v3, σ = [some (.ref a), some (.ref p), v2, v3] ∧ Same H H' ∧ H' p = some (.lst ((nms (ls.take i)).map V.str))) ⟨none, none, rfl, s1, upd_same⟩ ?_ ?_ ?_
    · rintro i σ H' hi ⟨v2, v3, rfl, sm, _⟩ o e
      rcases hs with e' | e'
      · rw [s1 _ _ e'] at e
        rw [← e]
        exact sm _ _ e'
      · rw [s1 _ _ e'] at e
        rw [← e]
        exact sm _ _ e'
    · rintro i x σ H' hx ⟨v2, v3, rfl, sm, hp⟩
      obtain ⟨l, hl2, t, b, rfl, ht, _⟩ := paired_at pr hx
      have hi : i < ls.length := (List.getElem?_eq_some_iff.mp hl2).1
      have few := ok.few
      refine ⟨t, _, rfl, SqT.of (sm _ _ ht), rfl, _, _, rfl, _, _, rfl, rfl, ?_⟩
      refine ⟨_, rfl, l.1, rfl, ok.names l (List.mem_of_getElem? hl2), fun H2 s2 => ⟨true, rfl, ?_⟩⟩
      have hp2 := s2 _ _ hp
      refine ⟨_, rfl, _, rfl, p, _, rfl, .inl (SqL.of hp2), rfl, flat_strs _, _, rfl, ?_⟩
      rw [show (if false = true then !inV (V.str l.1) ((nms (ls.take i)).map V.str) else inV (V.str l.1) ((nms (ls.take i)).map V.str)) = false from by
        rw [if_neg Bool.false_ne_true, inV_str]
        exact decide_eq_false (not_before ok.nd hl2)]
      refine ⟨_, rfl, .inl ⟨rfl, _, SqL.of hp2⟩, _, rfl, p, _, _, rfl, rfl, hp2, ?_, ?_⟩
      · rw [List.length_map, List.length_map, List.length_take]
        exact small1000 (by omega)
      · refine ⟨_, _, rfl, fun c o e => ?_, ?_⟩
        · rw [upd_ne (ne_of_none e np)]
          exact s2 _ _ (sm _ _ e)
        · rw [upd_same, show nms (ls.take (i + 1)) = nms (ls.take i) ++ [l.1] from take_succ_map hl2, List.map_append]
          rfl
    · rintro σ H' ⟨v2, v3, rfl, sm, _⟩
      exact k _ sm
end
end K1

namespace K1
open PySem PySem.Spec PyProof.Rows L2 Own
/-! ### what is above a kind -/
def grow (o : List Str) (x : Str) : List Str := if x ∈ o then o else o ++ [x]
theorem grow_mem {o : List Str} {x y : Str} : y ∈ grow o x ↔ y ∈ o ∨ y = x := by
  unfold grow
  split
  · rename_i h
    exact ⟨.inl, fun q => q.elim id fun e => by rw [e]; exact h⟩
  · simp
theorem grow_nd {o : List Str} {x : Str} (h : o.Nodup) : (grow o x).Nodup := by
  unfold grow
  split
  · exact h
  · rename_i n
    exact List.nodup_append.mpr ⟨h, List.nodup_cons.mpr ⟨List.not_mem_nil, List.nodup_nil⟩, fun a ha b hb => by
      rw [List.mem_singleton.mp hb]
      exact fun e => n (e ▸ ha)⟩
theorem grow_len (o : List Str) (x : Str) : (grow o x).length ≤ o.length + 1 := by
  unfold grow
  split
  · omega
  · rw [List.length_append, List.length_singleton]
    omega
abbrev Tb := List (Str × List Str)
def look (T : Tb) (n : Str) : List Str := (T.lookup n).getD []
theorem look_at : ∀ {T : Tb} {j : Nat} {n : Str} {y : List Str}, (T.map (·.1)).Nodup → T[j]? = some (n, y) → look T n = y
  | [], _, _, _, _, h => by simp at h
  | (m, z) :: r, 0, n, y, _, h => by
    have e := Option.some.inj h
    cases e
    unfold look
    rw [List.lookup_cons, beq_self_eq_true]
    rfl
  | (m, z) :: r, j + 1, n, y, nd, h => by
    have h' : r[j]? = some (n, y) := by simpa using h
    obtain ⟨n1, n2⟩ := List.nodup_cons.mp (show (m :: r.map (·.1)).Nodup from nd)
    have ne : ¬ n = m := fun e => n1 (by
      rw [← e]
      exact List.mem_map.mpr ⟨(n, y), List.mem_of_getElem? h', rfl⟩)
    have ih := look_at n2 h'
    unfold look at ih ⊢
    rw [List.lookup_cons, beq_eq_false_iff_ne.mpr ne]
    exact ih
/-- y is what is above the kind of this row, given what is above its bases -/
def UpsIs (F : Str → List Str) (l : Ln) (y : List Str) : Prop := y.Nodup ∧ ∀ x, x ∈ y ↔ x = l.1 ∨ ∃ b ∈ l.2, x ∈ F b
structure Tab (S : List Str → Prop) (ls : List Ln) (T : Tb) : Prop where
  len : T.length = ls.length
  row : ∀ (i : Nat) l, ls[i]? = some l → ∃ y, T[i]? = some (l.1, y) ∧ S y ∧ UpsIs (look (T.take i)) l y
theorem Tab.nms {S : List Str → Prop} {ls : List Ln} {T : Tb} (h : Tab S ls T) : T.map (·.1) = nms ls := by
  refine List.ext_getElem? fun i => ?_
  rw [List.getElem?_map, List.getElem?_map]
  cases e : ls[i]? with
  | none =>
    have q := List.getElem?_eq_none_iff.mp e
    rw [List.getElem?_eq_none_iff.mpr (by rw [h.len]; exact q)] <;> rfl
  | some l =>
    obtain ⟨y, hy, _⟩ := h.row i l e
    rw [hy]
    rfl
theorem Tab.nil {S : List Str → Prop} : Tab S [] [] := ⟨rfl, fun i l h => by simp at h⟩
theorem Tab.snoc {S : List Str → Prop} {ls : List Ln} {T : Tb} {l : Ln} {y : List Str} (h : Tab S ls T) (u : UpsIs (look T) l y) (s : S y) : Tab S (ls ++ [l]) (T ++ [(l.1, y)]) := by
  refine ⟨by rw [List.length_append, List.length_append, h.len]; rfl, fun i k hk => ?_⟩
  by_cases hi : i < ls.length
  · rw [List.getElem?_append_left hi] at hk
    obtain ⟨z, h1, h2, h3⟩ := h.row i k hk
    have hT : i < T.length := by rw [h.len]; exact hi
    refine ⟨z, by rw [List.getElem?_append_left hT]; exact h1, h2, ?_⟩
    rw [List.take_append_of_le_length (Nat.le_of_lt hT)]
    exact h3
  · have e : i = ls.length := by
      have q := (List.getElem?_eq_some_iff.mp hk).1
      rw [List.length_append, List.length_singleton] at q
      omega
    subst e
    rw [List.getElem?_append_right (Nat.le_refl _), Nat.sub_self] at hk
    have ek : l = k := Option.some.inj hk
    subst ek
    refine ⟨y, ?_, s, ?_⟩
    · rw [← h.len, List.getElem?_append_right (Nat.le_refl _), Nat.sub_self]
      rfl
    · rw [← h.len, List.take_append_of_le_length (Nat.le_refl _), List.take_length]
      exact u
theorem take_nodup {α : Type} {l : List α} (h : l.Nodup) (i : Nat) : (l.take i).Nodup := h.sublist (List.take_sublist _ _)
theorem mem_take {ls : List Ln} {i : Nat} {b : Str} (h : b ∈ nms (ls.take i)) : ∃ j l, j < i ∧ ls[j]? = some l ∧ l.1 = b := by
  obtain ⟨l, hl, e⟩ := List.mem_map.mp h
  obtain ⟨j, hj⟩ := List.mem_iff_getElem?.mp hl
  rw [List.getElem?_take] at hj
  split at hj
  · exact ⟨j, l, by assumption, hj, e⟩
  · cases hj
/-- the same names, the same bases in some order -/
def Alike (ls ls' : List Ln) : Prop := Paired (fun (l l' : Ln) => l.1 = l'.1 ∧ ∀ b, b ∈ l.2 ↔ b ∈ l'.2) ls ls'
theorem Alike.nms : ∀ {ls ls' : List Ln}, Alike ls ls' → nms ls = nms ls'
  | _, _, .nil => rfl
  | x :: xs, y :: ys, .cons a r => by
    have e : K1.nms xs = K1.nms ys := Alike.nms r
    show x.1 :: K1.nms xs = y.1 :: K1.nms ys
    rw [a.1, e]
theorem tab_alike {S S' : List Str → Prop} {ls ls' : List Ln} {T T' : Tb} (ok : LnsOk ls) (a : Alike ls ls') (h : Tab S ls T) (h' : Tab S' ls' T') :
    ∀ (i : Nat) (n n' : Str) (y y' : List Str), T[i]? = some (n, y) → T'[i]? = some (n', y') → n = n' ∧ ∀ x, x ∈ y ↔ x ∈ y' := by
  have ndT : (T.map (·.1)).Nodup := by rw [h.nms]; exact ok.nd
  have ndT' : (T'.map (·.1)).Nodup := by rw [h'.nms, ← a.nms]; exact ok.nd
  intro i
  induction i using Nat.strongRecOn with
  | ind i ih =>
    intro n n' y y' hy hy'
    have hi : i < ls.length := by
      rw [← h.len]
      exact (List.getElem?_eq_some_iff.mp hy).1
    obtain ⟨l', hl', e1, e2⟩ := paired_at a (List.getElem?_eq_getElem hi)
    obtain ⟨z, hz, _, _, uz⟩ := h.row i _ (List.getElem?_eq_getElem hi)
    obtain ⟨z', hz', _, _, uz'⟩ := h'.row i _ hl'
    rw [hy] at hz
    rw [hy'] at hz'
    cases hz
    cases hz'
    refine ⟨e1, fun x => ?_⟩
    have each : ∀ b ∈ (ls[i]).2, ∀ x, x ∈ look (T.take i) b ↔ x ∈ look (T'.take i) b := fun b hb x => by
      obtain ⟨j, k, hj, hk, ek⟩ := mem_take ((ok.base i _ (List.getElem?_eq_getElem hi)).2.1 b hb)
      subst ek
      obtain ⟨k', hk', f1, f2⟩ := paired_at a hk
      obtain ⟨u, hu, _, _⟩ := h.row j k hk
      obtain ⟨u', hu', _, _⟩ := h'.row j k' hk'
      have q := (ih j hj _ _ _ _ hu hu').2 x
      have g : (T.take i)[j]? = some (k.1, u) := by rw [List.getElem?_take_of_lt hj]; exact hu
      have g' : (T'.take i)[j]? = some (k.1, u') := by rw [List.getElem?_take_of_lt hj, f1]; exact hu'
      rw [look_at (by rw [List.map_take]; exact take_nodup ndT i) g, look_at (by rw [List.map_take]; exact take_nodup ndT' i) g']
      exact q
    rw [uz x, uz' x, e1]
    constructor
    · rintro (q | ⟨b, hb, q⟩)
      · exact .inl q
      · exact .inr ⟨b, (e2 b).mp hb, (each b hb x).mp q⟩
    · rintro (q | ⟨b, hb, q⟩)
      · exact .inl q
      · have hb' := (e2 b).mpr hb
        exact .inr ⟨b, hb', (each b hb' x).mpr q⟩
end K1

namespace K1
open PySem PySem.Spec PyProof.Rows L2 Own
def spAreBases : Sp := fun vs H Q _ => ∃ (b p : Addr) (bs ns : List Str), vs = [.ref b, .ref p] ∧ SeqOf H b (bs.map V.str) ∧ H p = some (.lst (ns.map V.str)) ∧ bs.Nodup ∧ (∀ x ∈ bs, x ∈ ns) ∧ bs.length ≤ 7 ∧ ∀ H', Same H H' → Q (.bl true) H'
theorem seq_keep {H H' : Hp} {a : Addr} {xs : List V} (h : SeqOf H a xs) (s : Same H H') : ∀ o, H a = some o → H' a = some o := fun o e => s _ _ e
theorem nd_not {ss : List Str} {i : Nat} {x : Str} (nd : ss.Nodup) (h : ss[i]? = some x) : x ∉ ss.take i := by
  intro hm
  obtain ⟨j, hj⟩ := List.mem_iff_getElem?.mp hm
  rw [List.getElem?_take] at hj
  split at hj
  · have := nd_ix nd hj h
    omega
  · cases hj
theorem same_past {H H' : Hp} {p : Addr} {o : HO} (np : H p = none) (s : Same H H') : Same H (upd H' p o) := fun b x e => by
  rw [upd_ne (ne_of_none e np)]
  exact s _ _ e
section
variable {P : Program} {w : World} {K : PySem.W.Frag} {mg : Str → Option Value} {base : Heap}
theorem scAreBases : FnScope ["thing", "before", "found", "base"] ["thing", "before"] (defScope sAreBases) := ⟨rfl, rfl, rfl, by decide +kernel, rfl, by decide +kernel, by decide +kernel⟩
theorem ok_areBases {f : Addr} {fd : FuncData} (F : Fun K "_are_bases" "_are_bases" sAreBases f fd) (mi : mg "isinstance" = none) (ml : mg "list" = none) (mt : mg "tuple" = none) : FnOk P w K mg base CX0 1 f fd ["thing", "before"] spAreBases := by
  refine F.ok scAreBases (fun vs H Q E h => ?_) (fun cdv A outer s H vs Q E hr h => ?_)
  · obtain ⟨b, p, bs, ns, rfl, _⟩ := h
    rfl
  · obtain ⟨b, p, bs, ns, rfl, hb, hp, nd, sub, few, k⟩ := h
    refine ⟨_, pss_cons (ps_if (pt_not (pt_val (pe_callB call_isiT (by rfl) mi (by decide +kernel) (pa_cons (pv 0) (pa_cons (pe_tup (pa_cons (pe_bltn (v := .ty "list") (u := .type "list") (by rfl) ml (by decide +kernel) rfl) (pa_cons (pe_bltn (v := .ty "tuple") (u := .type "tuple") (by rfl) mt (by decide +kernel) rfl) pa_nil))) pa_nil)))))
        (pss_one (ps_ret pe_bl)) pss_nil)
      (pss_cons (ps_set (i := 2) scAreBases.nd rfl (Or.inl rfl) (pe_lst pa_nil))
      (pss_cons (ps_for PassesOwn.never rfl (pi_seq 0) (pg_name (i := 3) scAreBases.nd rfl (Or.inl rfl))
        (pss_cons (ps_if (PW.pt (pw_or (pt_cmpR op_notIn_seq (pv 3) (pv 1) (by rfl)) (pw_or1 (pt_cmpR op_in_seq (pv 3) (pv 2) (by rfl))))) (pss_one (ps_ret pe_bl)) pss_nil)
          (pss_one (ps_expr (pe_bm PySem.F.plainAttrs_list PySem.F.slot_list_append PySem.F.type_list_append mt_append (pv 2) (pa_cons (pv 3) pa_nil))))))
      (pss_one (ps_ret pe_bl)))), ?_⟩
    refine ⟨_, rfl, (by show 2 ≤ sizeLine; decide), fun tp ntp => ?_⟩
    have s1 : Same H (upd H tp (.tup [.ty "list", .ty "tuple"])) := same_upd ntp
    obtain ⟨t, ty, kt⟩ := isi_lt (K := K) (hb.same s1)
    refine ⟨_, tp, _, t, _, true, rfl, upd_same, .cons (.ty "list") (.cons (.ty "tuple") .nil), ty, kt, true, rfl, iteF ?_⟩
    generalize upd H tp (.tup [.ty "list", .ty "tuple"]) = H0 at s1
    refine ⟨Nat.zero_le _, fun q nq => ?_⟩
    have s2 : Same H0 (upd H0 q (.lst [])) := same_upd nq
    refine for_seq (a := b) (xs := bs.map V.str) (by rfl) ((hb.same s1).same s2) (fun i σ H' => ∃ v3, σ = [some (.ref b), some (.ref p), some (.ref q), v3] ∧ Same H0 H' ∧ H' q = some (.lst ((bs.take i).map V.str))) ⟨none, rfl, s2, upd_same⟩ ?_ ?_ ?_
    · rintro i σ H' hi ⟨v3, rfl, sm, _⟩ o e
      have hb0 := hb.same s1
      rcases hb0 with e' | e'
      · rw [s2 _ _ e'] at e
        rw [← e]
        exact sm _ _ e'
      · rw [s2 _ _ e'] at e
        rw [← e]
        exact sm _ _ e'
    · rintro i x σ H' hx ⟨v3, rfl, sm, hq⟩
      rw [List.getElem?_map] at hx
      obtain ⟨y, hy, rfl⟩ := Option.map_eq_some_iff.mp hx
      have hi : i < bs.length := (List.getElem?_eq_some_iff.mp hy).1
      refine ⟨_, rfl, _, rfl, p, _, rfl, .inl (SqL.of (sm _ _ (s1 _ _ hp))), rfl, flat_strs _, _, rfl, ?_⟩
      rw [show (if true = true then !inV (V.str y) (ns.map V.str) else inV (V.str y) (ns.map V.str)) = false from by
        rw [if_pos rfl, inV_str, decide_eq_true (sub y (List.mem_of_getElem? hy))]
        rfl]
      refine iteF ⟨_, rfl, _, rfl, q, _, rfl, .inl (SqL.of hq), rfl, flat_strs _, _, rfl, ?_⟩
      rw [show (if false = true then !inV (V.str y) ((bs.take i).map V.str) else inV (V.str y) ((bs.take i).map V.str)) = false from by
        rw [if_neg Bool.false_ne_true, inV_str]
        exact decide_eq_false (nd_not nd hy)]
      refine iteF ⟨_, rfl, .inl ⟨rfl, _, SqL.of hq⟩, _, rfl, q, _, _, rfl, rfl, hq, ?_, ?_⟩
      · rw [List.length_map, List.length_take]
        exact small1000 (by omega)
      · refine ⟨_, rfl, same_past nq sm, ?_⟩
        rw [upd_same, List.take_add_one, hy, List.map_append]
        rfl
    · rintro σ H' ⟨v3, rfl, sm, _⟩
      exact k _ (s1.trans sm)
theorem scCkBases : FnScope ["rows", "before", "name", "bases"] ["rows"] (defScope sCkBases) := ⟨rfl, rfl, rfl, by decide +kernel, rfl, by decide +kernel, by decide +kernel⟩
theorem ok_ckBases {f g : Addr} {fd gd : FuncData} (F : Fun K "_check_bases" "_check_bases" sCkBases f fd) (G : FnOk P w K mg base CX0 1 g gd ["thing", "before"] spAreBases) (kG : PySem.W.keepIn K (.ref g) = true) (bG : Binds K gd ["thing", "before"] []) (mG : mg "_are_bases" = some (.ref g)) :
    FnOk P w K mg base CX0 2 f fd ["rows"] spCkNames := by
  refine F.ok scCkBases (fun vs H Q E h => ?_) (fun cdv A outer s H vs Q E hr h => ?_)
  · obtain ⟨a, ls, rfl, _⟩ := h
    rfl
  · obtain ⟨a, ls, rfl, ⟨rs, hs, pr⟩, ok, k⟩ := h
    refine ⟨_, pss_cons (ps_set (i := 1) scCkBases.nd rfl (Or.inl rfl) (pe_lst pa_nil))
      (pss_one (ps_for PassesOwn.never rfl (pi_seq 0) (pg_tup rfl (pgs_cons (pg_name (i := 2) scCkBases.nd rfl (Or.inl rfl)) (pgs_cons (pg_name (i := 3) scCkBases.nd rfl (Or.inl rfl)) pgs_nil)))
        (pss_cons (ps_if (pt_not (pt_val (pe_call G hr (by rfl) mG kG bG .nil pass0 (pa_cons (pv 3) (pa_cons (pv 1) pa_nil))))) (pss_one ps_never) pss_nil)
          (pss_one (ps_expr (pe_bm PySem.F.plainAttrs_list PySem.F.slot_list_append PySem.F.type_list_append mt_append (pv 1) (pa_cons (pv 2) pa_nil))))))), ?_⟩
    refine ⟨Nat.zero_le _, fun p np => ?_⟩
    have s1 : Same H (upd H p (.lst [])) := same_upd np
    refine for_seq (a := a) (xs := rs) (by rfl) (hs.same s1) (fun i σ H' => ∃ v2 v3, σ = [some (.ref a), some (.ref p), v2, v3] ∧ Same H H' ∧ H' p = some (.lst ((nms (ls.take i)).map V.str))) ⟨none, none, rfl, s1, upd_same⟩ ?_ ?_ ?_
    · rintro i σ H' hi ⟨v2, v3, rfl, sm, _⟩ o e
      rcases hs with e' | e'
      · rw [s1 _ _ e'] at e
        rw [← e]
        exact sm _ _ e'
      · rw [s1 _ _ e'] at e
        rw [← e]
        exact sm _ _ e'
    · rintro i x σ H' hx ⟨v2, v3, rfl, sm, hp⟩
      obtain ⟨l, hl2, t, b, rfl, ht, hb⟩ := paired_at pr hx
      have hi : i < ls.length := (List.getElem?_eq_some_iff.mp hl2).1
      have few := ok.few
      obtain ⟨b1, b2, b3⟩ := ok.base i l hl2
      refine ⟨t, _, rfl, SqT.of (sm _ _ ht), rfl, _, _, rfl, _, _, rfl, rfl, ?_⟩
      refine ⟨_, rfl, _, rfl, b, p, l.2, nms (ls.take i), rfl, hb.same sm, hp, b1, b2, b3, fun H2 s2 => ⟨true, rfl, iteF ?_⟩⟩
      have hp2 := s2 _ _ hp
      refine ⟨_, rfl, .inl ⟨rfl, _, SqL.of hp2⟩, _, rfl, p, _, _, rfl, rfl, hp2, ?_, ?_⟩
      · rw [List.length_map, List.length_map, List.length_take]
        exact small1000 (by omega)
      · refine ⟨_, _, rfl, same_past np (sm.trans s2), ?_⟩
        rw [upd_same, show nms (ls.take (i + 1)) = nms (ls.take i) ++ [l.1] from take_succ_map hl2, List.map_append]
        rfl
    · rintro σ H' ⟨v2, v3, rfl, sm, _⟩
      exact k _ sm
end
end K1

namespace K1
open PySem PySem.Spec PyProof.Rows L2 Own
/-! ### a dict of lists of names -/
def EntAt (N : Addr → Prop) (H : Hp) (kv : Key × V) (t : Str × List Str) : Prop := kv.1 = Sum.inr t.1 ∧ ∃ p, N p ∧ kv.2 = .ref p ∧ H p = some (.lst (t.2.map V.str))
def DictAt (N : Addr → Prop) (H : Hp) (d : Addr) (T : Tb) : Prop := N d ∧ ∃ kvs, H d = some (.dK kvs) ∧ Paired (EntAt N H) kvs T
theorem DictAt.same {N : Addr → Prop} {H H' : Hp} {d : Addr} {T : Tb} (s : Same H H') (h : DictAt N H d T) : DictAt N H' d T := by
  obtain ⟨n, kvs, e, p⟩ := h
  exact ⟨n, kvs, s _ _ e, paired_imp (fun _ _ ⟨a, q, b, c, z⟩ => ⟨a, q, b, c, s _ _ z⟩) p⟩
theorem ent_get {N : Addr → Prop} {H : Hp} {n : Str} {y : List Str} : ∀ {kvs : List (Key × V)} {T : Tb}, Paired (EntAt N H) kvs T → T.lookup n = some y → ∃ q, N q ∧ valV kvs (Sum.inr n) = some (.ref q) ∧ H q = some (.lst (y.map V.str))
  | _, _, .nil, h => by simp at h
  | kv :: kvs, t :: T, .cons a r, h => by
    obtain ⟨e, q, nq, ev, hq⟩ := a
    rw [show t = (t.1, t.2) from rfl, List.lookup_cons] at h
    by_cases c : n = t.1
    · rw [beq_iff_eq.mpr c] at h
      have h' : t.2 = y := Option.some.inj h
      exact ⟨q, nq, by rw [valV_pos (by rw [e, c]), ev], by rw [← h']; exact hq⟩
    · rw [beq_eq_false_iff_ne.mpr c] at h
      obtain ⟨q', n', e', h'⟩ := ent_get r h
      exact ⟨q', n', by rw [valV_neg (by rw [e]; exact fun z => c (Sum.inr.inj z).symm), e'], h'⟩
theorem ent_none {N : Addr → Prop} {H : Hp} {n : Str} : ∀ {kvs : List (Key × V)} {T : Tb}, Paired (EntAt N H) kvs T → n ∉ T.map (·.1) → valV kvs (Sum.inr n) = none
  | _, _, .nil, h => rfl
  | kv :: kvs, t :: T, .cons a r, h => by
    obtain ⟨e, _⟩ := a
    have h1 : ¬ n = t.1 ∧ n ∉ T.map (·.1) := by simpa using h
    rw [valV_neg (by rw [e]; exact fun z => h1.1 (Sum.inr.inj z).symm)]
    exact ent_none r h1.2
theorem look_in : ∀ {T : Tb} {n : Str}, n ∈ T.map (·.1) → T.lookup n = some (look T n)
  | [], _, h => by simp at h
  | (m, z) :: r, n, h => by
    unfold look
    rw [List.lookup_cons]
    by_cases c : n = m
    · rw [beq_iff_eq.mpr c]
      rfl
    · rw [beq_eq_false_iff_ne.mpr c]
      have h' : n ∈ r.map (·.1) := by
        rcases List.mem_cons.mp (show n ∈ m :: r.map (·.1) from h) with e | e
        · exact absurd e c
        · exact e
      have ih := look_in h'
      show r.lookup n = some ((r.lookup n).getD [])
      rw [ih]
      rfl
/-- the keys of a dict of Trues -/
def keysOf (o : List Str) : List (Key × V) := o.map fun x => (Sum.inr x, V.bl true)
theorem keysOf_keys (o : List Str) : (keysOf o).map (·.1) = o.map Sum.inr := by
  unfold keysOf
  rw [List.map_map]
  rfl
theorem keysOf_any (o : List Str) (x : Str) : ((keysOf o).any fun kv => decide (kv.1 = Sum.inr x)) = decide (x ∈ o) := by
  unfold keysOf
  rw [List.any_map, Bool.eq_iff_iff, List.any_eq_true]
  simp only [Function.comp, decide_eq_true_eq]
  exact ⟨fun ⟨y, hy, e⟩ => by rw [← Sum.inr.inj e]; exact hy, fun h => ⟨x, h, rfl⟩⟩
theorem put_keys (o : List Str) (x : Str) : putK (keysOf o) (Sum.inr x) (.bl true) = keysOf (grow o x) := by
  unfold putK grow
  rw [keysOf_any]
  by_cases h : x ∈ o
  · rw [if_pos (decide_eq_true h), if_pos h]
    unfold keysOf
    rw [List.map_map]
    refine List.map_congr_left fun y _ => ?_
    simp only [Function.comp]
    split <;> rfl
  · rw [if_neg (by rw [decide_eq_false h]; decide), if_neg h]
    unfold keysOf
    rw [List.map_append]
    rfl
theorem grows_mem : ∀ {ys o : List Str} {x : Str}, x ∈ ys.foldl grow o ↔ x ∈ o ∨ x ∈ ys
  | [], o, x => by simp
  | y :: r, o, x => by
    rw [List.foldl_cons, grows_mem, grow_mem, List.mem_cons]
    exact ⟨fun h => h.elim (fun h => h.elim .inl fun e => .inr (.inl e)) fun h => .inr (.inr h), fun h => h.elim (fun h => .inl (.inl h)) fun h => h.elim (fun e => .inl (.inr e)) .inr⟩
theorem grows_nd : ∀ {ys o : List Str}, o.Nodup → (ys.foldl grow o).Nodup
  | [], _, h => h
  | _ :: r, _, h => grows_nd (ys := r) (grow_nd h)
theorem nd_len : ∀ {xs ys : List Str}, xs.Nodup → (∀ x ∈ xs, x ∈ ys) → xs.length ≤ ys.length
  | [], _, _, _ => Nat.zero_le _
  | x :: r, ys, nd, h => by
    obtain ⟨n1, n2⟩ := List.nodup_cons.mp nd
    have hx := h x (List.mem_cons_self ..)
    have q := nd_len (xs := r) (ys := ys.erase x) n2 fun z hz => (List.mem_erase_of_ne (fun (e : z = x) => n1 (by rw [← e]; exact hz))).mpr (h z (List.mem_cons_of_mem _ hz))
    have l := List.length_erase_of_mem hx
    have l0 : 0 < ys.length := List.length_pos_of_mem hx
    rw [List.length_cons]
    omega
theorem take_sub {ls : List Ln} {i j : Nat} (h : i ≤ j) {x : Str} (hx : x ∈ nms (ls.take i)) : x ∈ nms (ls.take j) := by
  obtain ⟨k, l, hk, hl, e⟩ := mem_take hx
  subst e
  have g : (ls.take j)[k]? = some l := by rw [List.getElem?_take_of_lt (by omega)]; exact hl
  exact List.mem_map.mpr ⟨l, List.mem_of_getElem? g, rfl⟩
theorem tab_sub {S : List Str → Prop} {ls : List Ln} {T : Tb} (ok : LnsOk ls) (h : Tab S ls T) : ∀ (i : Nat) (n : Str) (y : List Str), T[i]? = some (n, y) → ∀ x ∈ y, x ∈ nms (ls.take (i + 1)) := by
  have ndT : (T.map (·.1)).Nodup := by rw [h.nms]; exact ok.nd
  intro i
  induction i using Nat.strongRecOn with
  | ind i ih =>
    intro n y hy x hx
    have hi : i < ls.length := by
      rw [← h.len]
      exact (List.getElem?_eq_some_iff.mp hy).1
    obtain ⟨z, hz, _, _, uz⟩ := h.row i _ (List.getElem?_eq_getElem hi)
    rw [hy] at hz
    cases hz
    rcases (uz x).mp hx with e | ⟨b, hb, q⟩
    · have g : (ls.take (i + 1))[i]? = some ls[i] := by rw [List.getElem?_take_of_lt (Nat.lt_succ_self _)]; exact List.getElem?_eq_getElem hi
      exact List.mem_map.mpr ⟨_, List.mem_of_getElem? g, e.symm⟩
    · obtain ⟨j, k, hj, hk, ek⟩ := mem_take ((ok.base i _ (List.getElem?_eq_getElem hi)).2.1 b hb)
      subst ek
      obtain ⟨u, hu, _, _⟩ := h.row j k hk
      have g : (T.take i)[j]? = some (k.1, u) := by rw [List.getElem?_take_of_lt hj]; exact hu
      rw [look_at (by rw [List.map_take]; exact take_nodup ndT i) g] at q
      exact take_sub (by omega) (ih j hj _ _ hu x q)
theorem look_sub {S : List Str → Prop} {ls : List Ln} {T : Tb} (ok : LnsOk ls) (h : Tab S ls T) {n x : Str} (hx : x ∈ look T n) : x ∈ nms ls := by
  by_cases c : n ∈ T.map (·.1)
  · have e := look_in c
    generalize look T n = y at e hx
    obtain ⟨l1, l2, e2, _⟩ := List.lookup_eq_some_iff.mp e
    have g : T[l1.length]? = some (n, y) := by rw [e2, List.getElem?_append_right (Nat.le_refl _), Nat.sub_self]; rfl
    have q := tab_sub ok h _ _ _ g x hx
    exact take_sub (ls := ls) (j := ls.length + (l1.length + 1)) (by omega) q |> fun z => by rwa [List.take_of_length_le (by omega)] at z
  · have e : T.lookup n = none := by
      cases e : T.lookup n with
      | none => rfl
      | some y =>
        obtain ⟨l1, l2, e2, _⟩ := List.lookup_eq_some_iff.mp e
        exact absurd (by rw [e2]; simp) c
    unfold look at hx
    rw [e] at hx
    exact nomatch hx
theorem look_nd {S : List Str → Prop} {ls : List Ln} {T : Tb} (h : Tab S ls T) (n : Str) : (look T n).Nodup := by
  cases e : T.lookup n with
  | none =>
    unfold look
    rw [e]
    exact List.nodup_nil
  | some y =>
    obtain ⟨l1, l2, e2, _⟩ := List.lookup_eq_some_iff.mp e
    have g : T[l1.length]? = some (n, y) := by rw [e2, List.getElem?_append_right (Nat.le_refl _), Nat.sub_self]; rfl
    have hi : l1.length < ls.length := by
      rw [← h.len]
      exact (List.getElem?_eq_some_iff.mp g).1
    obtain ⟨z, hz, _, u, _⟩ := h.row _ _ (List.getElem?_eq_getElem hi)
    rw [g] at hz
    cases hz
    unfold look
    rw [e]
    exact u
theorem look_len {S : List Str → Prop} {ls : List Ln} {T : Tb} (ok : LnsOk ls) (h : Tab S ls T) (n : Str) : (look T n).length ≤ 7 := by
  have q := nd_len (look_nd h n) fun x hx => look_sub ok h hx
  rw [List.length_map] at q
  have := ok.few
  omega
theorem grows_len : ∀ (ys o : List Str), (ys.foldl grow o).length ≤ o.length + ys.length
  | [], o => Nat.le_refl _
  | y :: r, o => by
    have a := grows_len r (grow o y)
    have b := grow_len o y
    rw [List.foldl_cons, List.length_cons]
    omega
theorem LnsOk.take {ls : List Ln} (ok : LnsOk ls) (i : Nat) : LnsOk (ls.take i) := by
  refine ⟨fun l hl => ok.names l (List.mem_of_mem_take hl), ?_, ?_, fun j l hl => ?_⟩
  · have e : nms (ls.take i) = (nms ls).take i := List.map_take ..
    rw [e]
    exact take_nodup ok.nd i
  · have := ok.few
    rw [List.length_take]
    omega
  · rw [List.getElem?_take] at hl
    split at hl
    · obtain ⟨a, b, c⟩ := ok.base j l hl
      refine ⟨a, fun x hx => ?_, c⟩
      rw [List.take_take, Nat.min_eq_left (Nat.le_of_lt (by assumption))]
      exact b x hx
    · cases hl
end K1

namespace K1
open PySem PySem.Spec PyProof.Rows L2 Own
abbrev Srt (y : List Str) : Prop := sortedS y = true
def spAllAbove : Sp := fun vs H Q _ => ∃ r ls, vs = [.ref r] ∧ RowsAt H r ls ∧ LnsOk ls ∧ ∀ H' d T, Same H H' → DictAt (fun p => H p = none) H' d T → Tab Srt ls T → Q (.ref d) H'
theorem seqs_keep {H H' : Hp} {a : Addr} {xs : List V} (h : SeqOf H a xs) {H0 : Hp} (s0 : Same H H0) (s : Same H H') : ∀ o, H0 a = some o → H' a = some o := fun o e => by
  rcases h with e' | e'
  · rw [s0 _ _ e'] at e
    rw [← e]
    exact s _ _ e'
  · rw [s0 _ _ e'] at e
    rw [← e]
    exact s _ _ e'
theorem merge_one (n : Str) (v : V) : mergeK [] [((Sum.inr n : Key), v)] = [((Sum.inr n : Key), v)] := rfl
theorem small_of {S : List Str → Prop} {ls : List Ln} {i : Nat} {l : Ln} {T : Tb} {o : List Str} (ok : LnsOk ls) (hl : ls[i]? = some l) (tab : Tab S (ls.take i) T) (no : o.Nodup) (h : ∀ x ∈ o, x = l.1 ∨ ∃ c, x ∈ look T c) : o.length ≤ 7 := by
  have q := nd_len (ys := nms ls) no fun x hx => by
    rcases h x hx with e | ⟨c, hc⟩
    · exact List.mem_map.mpr ⟨l, List.mem_of_getElem? hl, e.symm⟩
    · have z := look_sub (ok.take i) tab hc
      obtain ⟨m, hm, e⟩ := List.mem_map.mp z
      exact List.mem_map.mpr ⟨m, List.mem_of_mem_take hm, e⟩
  rw [List.length_map] at q
  have := ok.few
  omega
section
variable {P : Program} {w : World} {K : PySem.W.Frag} {mg : Str → Option Value} {base : Heap}
theorem scAllAbove : FnScope ["rows", "above", "name", "bases", "over", "base", "far"] ["rows"] (defScope sAllAbove) := ⟨rfl, rfl, rfl, by decide +kernel, rfl, by decide +kernel, by decide +kernel⟩
theorem ok_allAbove {f : Addr} {fd : FuncData} (F : Fun K "_all_above" "_all_above" sAllAbove f fd) (ms : mg "sorted" = none) : FnOk P w K mg base CX0 1 f fd ["rows"] spAllAbove := by
  refine F.ok scAllAbove (fun vs H Q E h => ?_) (fun cdv A outer s H vs Q E hr h => ?_)
  · obtain ⟨r, ls, rfl, _⟩ := h
    rfl
  · obtain ⟨r, ls, rfl, ⟨rs, hs, pr⟩, ok, k⟩ := h
    have hu := hu_of hr
    refine ⟨_, pss_cons (ps_set (i := 1) scAllAbove.nd rfl (Or.inl rfl) pe_dnewK)
      (pss_cons (ps_for PassesOwn.never rfl (pi_seq 0) (pg_tup rfl (pgs_cons (pg_name (i := 2) scAllAbove.nd rfl (Or.inl rfl)) (pgs_cons (pg_name (i := 3) scAllAbove.nd rfl (Or.inl rfl)) pgs_nil)))
        (pss_cons (ps_set (i := 4) scAllAbove.nd rfl (Or.inl rfl) (pe_disp (pps_cons (pv 2) pe_bl pps_nil) (by rfl) (by rfl) (fun z => by cases z) (by decide)))
        (pss_cons (ps_for PassesOwn.never rfl (pi_seq 3) (pg_name (i := 5) scAllAbove.nd rfl (Or.inl rfl))
          (pss_one (ps_for PassesOwn.never rfl (pi_list (pe_dget hu (pv 1) (pv 5) (fun _ _ => rfl))) (pg_name (i := 6) scAllAbove.nd rfl (Or.inl rfl))
            (pss_one (ps_dput hu (pv 4) (pv 6) pe_bl rfl)))))
        (pss_one (ps_dput hu (pv 1) (pv 2) (pe_callB (call_sortedD rfl) (by rfl) ms (by decide +kernel) (pa_cons (pv 4) pa_nil)) rfl)))))
      (pss_one (ps_ret (pv 1)))), ?_⟩
    intro d nd
    have s1 : Same H (upd H d (.dK [])) := same_upd nd
    refine for_seq (a := r) (xs := rs) (by rfl) (hs.same s1) (fun i σ H' => ∃ v2 v3 v4 v5 v6 T, σ = [some (.ref r), some (.ref d), v2, v3, v4, v5, v6] ∧ Same H H' ∧ DictAt (fun p => H p = none) H' d T ∧ Tab Srt (ls.take i) T)
      ⟨none, none, none, none, none, [], rfl, s1, ⟨nd, [], upd_same, .nil⟩, Tab.nil⟩ (fun i σ H' hi ⟨_, _, _, _, _, _, _, sm, _⟩ => seqs_keep hs s1 sm) ?_ ?_
    · rintro i x σ H' hx ⟨v2, v3, v4, v5, v6, T, rfl, sm, dT, tab⟩
      obtain ⟨l, hl2, t, b, rfl, ht, hb⟩ := paired_at pr hx
      have hi : i < ls.length := (List.getElem?_eq_some_iff.mp hl2).1
      have few := ok.few
      obtain ⟨b1, b2, b3⟩ := ok.base i l hl2
      refine ⟨t, _, rfl, SqT.of (sm _ _ ht), rfl, _, _, rfl, _, _, rfl, rfl, ?_⟩
      intro p np
      refine ⟨_, rfl, upd_same, [(Sum.inr l.1, .bl true)], rfl, (by show 1 ≤ 15; decide), ?_⟩
      rw [merge_one, upd_upd]
      have s2 : Same H' (upd H' p (.dK [(Sum.inr l.1, .bl true)])) := same_upd np
      -- the bases
      refine for_seq (a := b) (xs := l.2.map V.str) (by rfl) ((hb.same sm).same s2) (fun j σ H2 => ∃ v5 v6 o, σ = [some (.ref r), some (.ref d), some (.str l.1), some (.ref b), some (.ref p), v5, v6] ∧ Same H' H2 ∧ H2 p = some (.dK (keysOf o)) ∧ o.Nodup ∧ ∀ x, x ∈ o ↔ x = l.1 ∨ ∃ c ∈ l.2.take j, x ∈ look T c)
        ⟨v5, v6, [l.1], rfl, s2, upd_same, by simp, fun x => by simp⟩ (fun j σ H2 hj ⟨_, _, _, _, sm2, _⟩ => seqs_keep (hb.same sm) s2 sm2) ?_ ?_
      · rintro j x σ H2 hx ⟨v5, v6, o, rfl, sm2, hp, no, mo⟩
        rw [List.getElem?_map] at hx
        obtain ⟨c, hc, rfl⟩ := Option.map_eq_some_iff.mp hx
        have cl : c ∈ l.2 := List.mem_of_getElem? hc
        have cT : c ∈ T.map (·.1) := by rw [tab.nms]; exact b2 c cl
        have dT2 := dT.same sm2
        obtain ⟨_, kvs, hd, pk⟩ := dT2
        obtain ⟨q, nq, eq, hq⟩ := ent_get pk (look_in cT)
        have npq : p ≠ q := ne_of hp hq (by intro z; cases z)
        have g : DGet H2 d (.str c) (some (.ref q)) := by
          rw [← eq]
          exact DGet.k (k := Sum.inr c) hd
        refine ⟨_, rfl, _, rfl, d, _, rfl, g, q, rfl, ⟨_, SqL.of hq⟩, ?_⟩
        have lk := look_len (ok.take i) tab c
        have ol := small_of ok hl2 tab no fun x hx => (mo x).mp hx |>.imp id fun ⟨c, h1, h2⟩ => ⟨c, h2⟩
        refine for_list (K := K) (a := q) (xs := (look T c).map V.str) (fun m σ H3 => ∃ v6, σ = [some (.ref r), some (.ref d), some (.str l.1), some (.ref b), some (.ref p), some (.str c), v6] ∧ (∀ a u, a ≠ p → H2 a = some u → H3 a = some u) ∧ H3 p = some (.dK (keysOf (((look T c).take m).foldl grow o))))
          ⟨v6, rfl, fun _ _ _ e => e, hp⟩ (fun m σ H3 hm ⟨_, _, e, _⟩ => SqL.of (e q _ npq.symm hq)) ?_ ?_
        · rintro m x σ H3 hx ⟨v6, rfl, kp, hp3⟩
          rw [List.getElem?_map] at hx
          obtain ⟨z, hz, rfl⟩ := Option.map_eq_some_iff.mp hx
          have put := DPut.k (k := Sum.inr z) (v := .bl true) hp3 (by
            unfold keysOf
            rw [List.length_map]
            have a := grows_len ((look T c).take m) o
            have b : ((look T c).take m).length ≤ (look T c).length := by rw [List.length_take]; omega
            exact small1000 (by omega))
          rw [put_keys] at put
          refine ⟨_, rfl, _, rfl, p, _, rfl, put, ?_⟩
          refine ⟨_, rfl, fun a u ne e => by rw [upd_ne ne]; exact kp a u ne e, ?_⟩
          rw [upd_same, List.take_add_one, hz, List.foldl_append]
          rfl
        · rintro σ H3 ⟨v6, rfl, kp, hp3⟩
          rw [List.length_map, List.take_of_length_le (Nat.le_refl _)] at hp3
          refine ⟨_, _, _, rfl, fun a u e => kp a u (ne_of_none e np) (sm2 a u e), hp3, grows_nd no, fun x => ?_⟩
          rw [grows_mem, mo x, List.take_add_one, hc]
          simp only [Option.toList, List.mem_append, List.mem_singleton]
          constructor
          · rintro ((e | ⟨c', h1, h2⟩) | h2)
            · exact .inl e
            · exact .inr ⟨c', .inl h1, h2⟩
            · exact .inr ⟨c, .inr rfl, h2⟩
          · rintro (e | ⟨c', h1 | h1, h2⟩)
            · exact .inl (.inl e)
            · exact .inl (.inr ⟨c', h1, h2⟩)
            · subst h1
              exact .inr h2
      · rintro σ H2 ⟨v5, v6, o, rfl, sm2, hp, no, mo⟩
        rw [List.length_map, List.take_of_length_le (Nat.le_refl _)] at mo
        have ol := small_of ok hl2 tab no fun x hx => (mo x).mp hx |>.imp id fun ⟨c, h1, h2⟩ => ⟨c, h2⟩
        obtain ⟨nD, kvs, hd, pk⟩ := dT.same sm2
        refine ⟨_, rfl, p, _, o, rfl, .inl hp, keysOf_keys o, (by omega), fun ys q pe so nq => ?_⟩
        have s3 : Same H2 (upd H2 q (.lst (ys.map V.str))) := same_upd nq
        have nlT : l.1 ∉ T.map (·.1) := by
          rw [tab.nms]
          exact not_before ok.nd hl2
        have kl : kvs.length = T.length := paired_len pk
        have Tl : T.length ≤ 7 := by
          rw [tab.len, List.length_take]
          omega
        have put := DPut.k (k := Sum.inr l.1) (v := .ref q) (s3 _ _ hd) (small1000 (by omega))
        rw [putK_new _ (ent_none pk nlT)] at put
        refine ⟨_, rfl, _, rfl, d, _, rfl, put, ?_⟩
        have qH : H q = none := (sm.trans sm2).free nq
        have dq : q ≠ d := (ne_of_none hd nq).symm
        have ups : UpsIs (look T) l ys := ⟨pe.nodup_iff.mpr no, fun x => by rw [pe.mem_iff]; exact mo x⟩
        have e4 : ∀ a u, a ≠ d → H2 a = some u → (upd (upd H2 q (.lst (ys.map V.str))) d (.dK (kvs ++ [(Sum.inr l.1, .ref q)]))) a = some u := fun a u ne e => by
          rw [upd_ne ne]
          exact s3 _ _ e
        refine ⟨_, _, _, _, _, T ++ [(l.1, ys)], rfl, fun a u e => e4 a u (ne_of_none e nd) (sm2 _ _ (sm _ _ e)), ⟨nd, _, upd_same, ?_⟩, ?_⟩
        · refine Paired.snoc (paired_imp (fun kv t => ?_) pk) ⟨rfl, q, qH, rfl, ?_⟩
          · rintro ⟨a1, a2, a3, a4, a5⟩
            exact ⟨a1, a2, a3, a4, e4 _ _ (ne_of a5 hd (by intro z; cases z)) a5⟩
          · rw [upd_ne dq, upd_same]
        · rw [List.take_add_one, hl2]
          exact tab.snoc ups so
    · rintro σ H' ⟨v2, v3, v4, v5, v6, T, rfl, sm, dT, tab⟩
      rw [paired_len pr, List.take_of_length_le (Nat.le_refl _)] at tab
      exact ⟨_, rfl, k _ d T sm dT tab⟩
end
end K1

namespace K1
open PySem PySem.Spec PyProof.Rows L2 Own
/-! ### a table of kinds -/
theorem ra : ¬ (("_rows" : Str) = "_above") := by decide +kernel
theorem ar : ¬ (("_above" : Str) = "_rows") := by decide +kernel
def kf (r d : Addr) : List (Str × V) := [(("_rows" : Str), V.ref r), (("_above" : Str), V.ref d)]
theorem kf_rows (r d : Addr) : (kf r d).lookup ("_rows" : Str) = some (.ref r) := by
  unfold kf
  rw [List.lookup_cons, beq_self_eq_true]
theorem kf_above (r d : Addr) : (kf r d).lookup ("_above" : Str) = some (.ref d) := by
  unfold kf
  rw [List.lookup_cons, beq_eq_false_iff_ne.mpr ar, List.lookup_cons, beq_self_eq_true]
theorem kf_no (r d : Addr) {m : Str} (h1 : ¬ m = "_rows") (h2 : ¬ m = "_above") : (kf r d).lookup m = none := by
  unfold kf
  rw [List.lookup_cons, beq_eq_false_iff_ne.mpr h1, List.lookup_cons, beq_eq_false_iff_ne.mpr h2]
  rfl
/-- the fields of an object ahead of _take: none, or those of a table -/
def FsOk (fs : List (Str × V)) : Prop := fs = [] ∨ ∃ r d, fs = kf r d
theorem put_rows {fs : List (Str × V)} (h : FsOk fs) (r : Addr) : (putF "_rows" (.ref r) fs).lookup ("_rows" : Str) = some (.ref r) ∧ (putF "_rows" (.ref r) fs).length < 1000 ∧ ∀ d, putF "_above" (.ref d) (putF "_rows" (.ref r) fs) = kf r d := by
  refine ⟨by rw [lookup_putF, if_pos rfl], ?_, fun d => ?_⟩
  · have q := length_putF ("_rows" : Str) (.ref r) fs
    rcases h with e | ⟨r0, d0, e⟩
    · rw [e] at q ⊢
      exact Nat.lt_of_le_of_lt q (by decide)
    · rw [e] at q ⊢
      exact Nat.lt_of_le_of_lt q (by show 3 < 1000; decide)
  · rcases h with e | ⟨r0, d0, e⟩
    · subst e
      show (if ("_rows" : Str) = "_above" then [(("_rows" : Str), V.ref d)] else (("_rows" : Str), V.ref r) :: putF "_above" (V.ref d) []) = _
      rw [if_neg ra]
      rfl
    · subst e
      have e1 : putF "_rows" (.ref r) (kf r0 d0) = kf r d0 := by
        show (if ("_rows" : Str) = "_rows" then (("_rows" : Str), V.ref r) :: [(("_above" : Str), V.ref d0)] else _) = _
        rw [if_pos rfl]
        rfl
      rw [e1]
      show (if ("_rows" : Str) = "_above" then _ else (("_rows" : Str), V.ref r) :: (if ("_above" : Str) = "_above" then [(("_above" : Str), V.ref d)] else _)) = _
      rw [if_neg ra, if_pos rfl]
      rfl
theorem fs_limit {fs : List (Str × V)} (h : FsOk fs) : fs.lookup ("LIMIT" : Str) = none ∧ fs.length < 1000 := by
  rcases h with e | ⟨r, d, e⟩
  · subst e
    exact ⟨rfl, by decide⟩
  · subst e
    exact ⟨kf_no _ _ (by decide +kernel) (by decide +kernel), by show 2 < 1000; decide⟩
def RowIn (N : Addr → Prop) (H : Hp) (v : V) (l : Ln) : Prop := ∃ t b, v = .ref t ∧ N t ∧ N b ∧ H t = some (.tup [.str l.1, .ref b]) ∧ H b = some (.lst (l.2.map V.str))
theorem RowIn.row {N : Addr → Prop} {H : Hp} {v : V} {l : Ln} (h : RowIn N H v l) : RowAt H v l := by
  obtain ⟨t, b, e, _, _, h1, h2⟩ := h
  exact ⟨t, b, e, h1, .inl h2⟩
/-- the same rows with their bases in order -/
def SrtRel (l l' : Ln) : Prop := l.1 = l'.1 ∧ l'.2.Perm l.2 ∧ sortedS l'.2 = true
def SrtOf (ls ls' : List Ln) : Prop := Paired SrtRel ls ls'
theorem SrtOf.alike {ls ls' : List Ln} (h : SrtOf ls ls') : Alike ls ls' := paired_imp (fun _ _ a => ⟨a.1, fun b => (a.2.1.mem_iff (a := b)).symm⟩) h
theorem SrtOf.ok {ls ls' : List Ln} (h : SrtOf ls ls') (ok : LnsOk ls) : LnsOk ls' := by
  have en := h.alike.nms
  refine ⟨fun l' hl' => ?_, by rw [← en]; exact ok.nd, by rw [← paired_len h]; exact ok.few, fun i l' hl' => ?_⟩
  · obtain ⟨i, hi⟩ := List.mem_iff_getElem?.mp hl'
    obtain ⟨l, hl, a⟩ := paired_at' h hi
    rw [← a.1]
    exact ok.names l (List.mem_of_getElem? hl)
  · obtain ⟨l, hl, a1, a2, a3⟩ := paired_at' h hl'
    obtain ⟨b1, b2, b3⟩ := ok.base i l hl
    refine ⟨a2.nodup_iff.mpr b1, fun b hb => ?_, by rw [a2.length_eq]; exact b3⟩
    have q := b2 b (a2.mem_iff.mp hb)
    rw [show nms (ls'.take i) = (nms ls').take i from List.map_take .., ← en, ← List.map_take]
    exact q
theorem SrtOf.one {ls l1 l2 : List Ln} (h1 : SrtOf ls l1) (h2 : SrtOf ls l2) : l1 = l2 := by
  refine List.ext_getElem? fun i => ?_
  cases e : l1[i]? with
  | none =>
    have q := List.getElem?_eq_none_iff.mp e
    rw [List.getElem?_eq_none_iff.mpr (by rw [← paired_len h2, paired_len h1]; exact q)]
  | some a =>
    obtain ⟨l, hl, a1, a2, a3⟩ := paired_at' h1 e
    obtain ⟨b, hb, b1, b2, b3⟩ := paired_at h2 hl
    have e2 : a.2 = b.2 := sorted_one (a2.trans b2.symm) a3 b3
    have e3 : a = b := by
      cases a
      cases b
      simp only at e2 a1 b1
      rw [e2, ← a1, ← b1]
    rw [hb, e3]
def KObj (N : Addr → Prop) (C : Addr) (H : Hp) (x dx : Addr) (ls : List Ln) : Prop :=
  ∃ r d ls' T rs, H x = some (.ins C dx (kf r d)) ∧ N r ∧ H r = some (.lst rs) ∧ Paired (RowIn N H) rs ls' ∧ SrtOf ls ls' ∧ DictAt N H d T ∧ Tab Srt ls' T
theorem KObj.keep {N : Addr → Prop} {C : Addr} {H H' : Hp} {x dx : Addr} {ls : List Ln} (h : KObj N C H x dx ls) (k : ∀ a o, N a ∨ a = x → H a = some o → H' a = some o) : KObj N C H' x dx ls := by
  obtain ⟨r, d, ls', T, rs, hx, nr, hr, pr, so, ⟨nd, kvs, hd, pk⟩, tab⟩ := h
  refine ⟨r, d, ls', T, rs, k _ _ (.inr rfl) hx, nr, k _ _ (.inl nr) hr, paired_imp (fun _ _ ⟨t, b, e, nt, nb, h1, h2⟩ => ⟨t, b, e, nt, nb, k _ _ (.inl nt) h1, k _ _ (.inl nb) h2⟩) pr, so, ⟨nd, kvs, k _ _ (.inl nd) hd, ?_⟩, tab⟩
  exact paired_imp (fun _ _ ⟨a, q, nq, c, z⟩ => ⟨a, q, nq, c, k _ _ (.inl nq) z⟩) pk
theorem KObj.mono {N N' : Addr → Prop} {C : Addr} {H : Hp} {x dx : Addr} {ls : List Ln} (h : KObj N C H x dx ls) (k : ∀ a, N a → N' a) : KObj N' C H x dx ls := by
  obtain ⟨r, d, ls', T, rs, hx, nr, hr, pr, so, ⟨nd, kvs, hd, pk⟩, tab⟩ := h
  exact ⟨r, d, ls', T, rs, hx, k _ nr, hr, paired_imp (fun _ _ ⟨t, b, e, nt, nb, h1, h2⟩ => ⟨t, b, e, k _ nt, k _ nb, h1, h2⟩) pr, so, ⟨k _ nd, kvs, hd, paired_imp (fun _ _ ⟨a, q, nq, c, z⟩ => ⟨a, q, k _ nq, c, z⟩) pk⟩, tab⟩
/-- a table at x, its parts among N -/
def KAt (N : Addr → Prop) (C : Addr) (H : Hp) (x : Addr) (ls : List Ln) : Prop := N x ∧ ∃ dx, KObj N C H x dx ls
theorem KAt.same {N : Addr → Prop} {C : Addr} {H H' : Hp} {x : Addr} {ls : List Ln} (h : KAt N C H x ls) (k : ∀ a o, N a → H a = some o → H' a = some o) : KAt N C H' x ls := by
  obtain ⟨nx, dx, o⟩ := h
  exact ⟨nx, dx, o.keep fun a u e => k a u (e.elim id fun z => z ▸ nx)⟩
theorem q_seq {t u : TS} {D : Ends} {σ : L2.St} {H : Hp} (h : t { D with nx := u D } σ H) : tSeq t u D σ H := h
theorem q_fld {K : PySem.W.Frag} {ta tv : TE} {f : Str} {D : Ends} {σ : L2.St} {H : Hp} (h : tv σ H fun y H1 => ta σ H1 fun x H2 => ∃ a C dx fs, x = .ref a ∧ H2 a = some (.ins C dx fs) ∧ Cls K C ∧ NoAttr K C f ∧ fs.length < 1000 ∧ D.nx σ (upd H2 a (.ins C dx (putF f y fs)))) : sFld K ta tv f D σ H := h
structure KTxt (K : PySem.W.Frag) (mg : Str → Option Value) (C : Addr) : Prop where
  cl : Cls K C
  nR : NoAttr K C "_rows"
  nA : NoAttr K C "_above"
  lim : ∃ u, Con K C "LIMIT" (.int 7) u
  mgC : mg "Kinds" = some (.ref C)
  len : mg "len" = none
  sorted : mg "sorted" = none
  list : mg "list" = none
def spTake (C : Addr) : Sp := fun vs H Q _ => ∃ x a dx fs ls, vs = [.ref x, .ref a] ∧ H x = some (.ins C dx fs) ∧ FsOk fs ∧ RowsAt H a ls ∧ LnsOk ls ∧ ∀ H', (∀ b o, b ≠ x → H b = some o → H' b = some o) → KObj (fun p => H p = none) C H' x dx ls → Q .non H'
section
variable {P : Program} {w : World} {K : PySem.W.Frag} {mg : Str → Option Value} {base : Heap}
theorem scTake : FnScope ["self", "rows", "name", "bases"] ["self", "rows"] (defScope sTake) := ⟨rfl, rfl, rfl, by decide +kernel, rfl, by decide +kernel, by decide +kernel⟩
theorem ok_take {C f fN fB fA : Addr} {fd dN dB dA : FuncData} (F : Fun K "_take" "Kinds._take" sTake f fd) (T : KTxt K mg C)
    (GN : FnOk P w K mg base CX0 2 fN dN ["rows"] spCkNames) (kN : PySem.W.keepIn K (.ref fN) = true) (bN : Binds K dN ["rows"] []) (mN : mg "_check_names" = some (.ref fN))
    (GB : FnOk P w K mg base CX0 2 fB dB ["rows"] spCkNames) (kB : PySem.W.keepIn K (.ref fB) = true) (bB : Binds K dB ["rows"] []) (mB : mg "_check_bases" = some (.ref fB))
    (GA : FnOk P w K mg base CX0 1 fA dA ["rows"] spAllAbove) (kA : PySem.W.keepIn K (.ref fA) = true) (bA : Binds K dA ["rows"] []) (mA : mg "_all_above" = some (.ref fA)) : FnOk P w K mg base CX0 3 f fd ["self", "rows"] (spTake C) := by
  refine F.ok scTake (fun vs H Q E h => ?_) (fun cdv A outer s H vs Q E hr h => ?_)
  · obtain ⟨x, a, dx, fs, ls, rfl, _⟩ := h
    rfl
  · obtain ⟨x, a, dx, fs, ls, rfl, hx, fo, ⟨rs, hs, pr⟩, ok, k⟩ := h
    have hr1 : Room 1 _ := hr.mono (by decide)
    obtain ⟨uL, cL⟩ := T.lim
    refine ⟨_, pss_cons (ps_if (pt_cmpR op_gt (pe_callB call_len_seq (by rfl) T.len PySem.boot_len (pa_cons (pv 1) pa_nil)) (pe_con (pv 0) rfl) (nomark _)) (pss_one ps_never) pss_nil)
      (pss_cons (ps_expr (pe_call GN hr (by rfl) mN kN bN .nil pass0 (pa_cons (pv 1) pa_nil)))
      (pss_cons (ps_expr (pe_call GB hr (by rfl) mB kB bB .nil pass0 (pa_cons (pv 1) pa_nil)))
      (pss_cons (ps_fld (pv 0) (pe_lc (own := [("name", 2), ("bases", 3)]) (g := gTup K 2 (gCons (gName 2) (gCons (gName 3) gNil))) (tt := tYes) rfl scTake.nd (pi_seq 1) (blkOk_by (N := ["self", "rows", "name", "bases"]) (sc := defScope sTake) (by decide +kernel))
          (fun _ _ _ _ _ => pg_tup rfl (pgs_cons (pg_name (i := 2) scTake.nd rfl (Or.inl rfl)) (pgs_cons (pg_name (i := 3) scTake.nd rfl (Or.inl rfl)) pgs_nil))) (fun _ _ _ _ _ => pts_nil)
          (fun _ _ _ _ _ => pe_tup (pa_cons (pv 2) (pa_cons (pe_callB cr_sortedQ (by rfl) T.sorted (by decide +kernel) (pa_cons (pv 3) pa_nil)) pa_nil)))) rfl)
      (pss_one (ps_fld (pv 0) (pe_call GA hr1 (by rfl) mA kA bA .nil pass0 (pa_cons (pe_fld (pv 0) rfl) pa_nil)) rfl))))), ?_⟩
    have few := ok.few
    have hl := paired_len pr
    refine ⟨_, rfl, a, rs, rfl, hs.lt, _, rfl, x, C, dx, fs, .int 7, uL, rfl, hx, T.cl, cL, (fs_limit fo).1, _, _, rfl, rfl, _, rfl, iteFD (by omega) ?_⟩
    refine ⟨_, rfl, a, ls, rfl, ⟨rs, hs, pr⟩, ok, fun H1 s1 => ?_⟩
    refine ⟨_, rfl, a, ls, rfl, RowsAt.same s1 ⟨rs, hs, pr⟩, ok, fun H2 s2 => ?_⟩
    have s12 := s1.trans s2
    have pr2 : Paired (RowAt H2) rs ls := paired_imp (fun _ _ => RowAt.same s12) pr
    dsimp only
    refine q_seq (q_fld ?_)
    refine lc_seq (a := a) (xs := rs) (by rfl) (hs.same s12) (fun D i H' => Same H2 H' ∧ ∃ vs' ls', H' D = some (.lst vs') ∧ Paired (RowIn (fun p => H p = none ∧ p ≠ D) H') vs' ls' ∧ SrtOf (ls.take i) ls') (fun D nD => ⟨same_upd nD, [], [], upd_same, .nil, .nil⟩) (fun D i H' nD hi p => p.1 _) ?_ ?_
    · rintro D i v H' nD hv ⟨sm, vs', ls', hD, pk, so⟩
      obtain ⟨l, hl2, t, b, rfl, ht, hb⟩ := paired_at pr2 hv
      have hi : i < ls.length := (List.getElem?_eq_some_iff.mp hl2).1
      obtain ⟨b1, b2, b3⟩ := ok.base i l hl2
      refine ⟨t, _, rfl, SqT.of (sm _ _ ht), rfl, _, _, rfl, _, _, rfl, rfl, rfl, ?_⟩
      refine ⟨_, rfl, _, rfl, b, l.2, rfl, hb.same sm, (by omega), fun ys q pe sy nq => ?_⟩
      refine ⟨(by show 2 ≤ sizeLine; decide), fun p np => ?_⟩
      have e1 : Same H' (upd H' q (.lst (ys.map V.str))) := same_upd nq
      have e2 : Same (upd H' q (.lst (ys.map V.str))) (upd (upd H' q (.lst (ys.map V.str))) p (.tup [.str l.1, .ref q])) := same_upd np
      have hD2 := e2 _ _ (e1 _ _ hD)
      have lv : vs'.length ≤ 7 := by
        rw [paired_len pk, ← paired_len so, List.length_take]
        omega
      have nqH : H q = none := (s12.trans sm).free nq
      have npH : H p = none := (s12.trans sm).free (e1.free np)
      have nDq : D ≠ q := ne_of_none hD nq
      have nDp : D ≠ p := ne_of_none (e1 _ _ hD) np
      have e3 : ∀ a u, a ≠ D → H' a = some u → (upd (upd (upd H' q (.lst (ys.map V.str))) p (.tup [.str l.1, .ref q])) D (.lst (vs' ++ [V.ref p]))) a = some u := fun a u ne e => by
        rw [upd_ne ne]
        exact e2 _ _ (e1 _ _ e)
      refine ⟨_, hD2, small1000 (by omega), fun a u e => e3 a u (ne_of_none e nD) (sm _ _ e), vs' ++ [V.ref p], ls' ++ [(l.1, ys)], upd_same, ?_, ?_⟩
      · refine Paired.snoc (paired_imp (fun v l ⟨t', b', e, nt, nb, g1, g2⟩ => ⟨t', b', e, nt, nb, e3 _ _ nt.2 g1, e3 _ _ nb.2 g2⟩) pk) ⟨p, q, rfl, ⟨npH, nDp.symm⟩, ⟨nqH, nDq.symm⟩, ?_, ?_⟩
        · rw [upd_ne nDp.symm, upd_same]
        · rw [upd_ne nDq.symm]
          exact e2 _ _ upd_same
      · rw [List.take_add_one, hl2]
        exact Paired.snoc so ⟨rfl, pe, sy⟩
    · rintro D H' nD ⟨sm, vs', ls', hD, pk, so⟩
      rw [hl, List.take_of_length_le (Nat.le_refl _)] at so
      have nDH : H D = none := s12.free nD
      have hx2 : H' x = some (.ins C dx fs) := sm _ _ (s12 _ _ hx)
      obtain ⟨p1, p2, p3⟩ := put_rows fo D
      refine ⟨_, rfl, x, C, dx, fs, rfl, hx2, T.cl, T.nR, (fs_limit fo).2, ?_⟩
      have e1 : ∀ a u, a ≠ x → H' a = some u → (upd H' x (.ins C dx (putF "_rows" (.ref D) fs))) a = some u := fun a u ne e => by
        rw [upd_ne ne]
        exact e
      have nxa : ∀ {a : Addr} {u : HO}, H' a = some u → u ≠ .ins C dx fs → a ≠ x := fun e d => ne_of e hx2 d
      have pk1 : Paired (RowIn (fun p => H p = none) (upd H' x (.ins C dx (putF "_rows" (.ref D) fs)))) vs' ls' :=
        paired_imp (fun v l ⟨t', b', e, nt, nb, g1, g2⟩ => ⟨t', b', e, nt.1, nb.1, e1 _ _ (nxa g1 (by intro z; cases z)) g1, e1 _ _ (nxa g2 (by intro z; cases z)) g2⟩) pk
      have hD1 := e1 _ _ (nxa hD (by intro z; cases z)) hD
      refine ⟨_, rfl, x, C, dx, _, _, rfl, upd_same, T.cl, T.nR, p1, D, ls', rfl, ⟨vs', .inl hD1, paired_imp (fun _ _ => RowIn.row) pk1⟩, so.ok ok, fun H3 d TT s3 dT tab => ?_⟩
      have hx3 := s3 _ _ (upd_same (H := H') (a := x) (o := .ins C dx (putF "_rows" (.ref D) fs)))
      refine ⟨_, rfl, x, C, dx, _, rfl, hx3, T.cl, T.nA, p2, ?_⟩
      rw [p3 d]
      have e2 : ∀ a u, a ≠ x → H3 a = some u → (upd H3 x (.ins C dx (kf D d))) a = some u := fun a u ne e => by
        rw [upd_ne ne]
        exact e
      have nxb : ∀ {a : Addr} {u : HO}, H3 a = some u → u ≠ .ins C dx (putF "_rows" (.ref D) fs) → a ≠ x := fun e d => ne_of e hx3 d
      have back : ∀ a, (upd H' x (.ins C dx (putF "_rows" (.ref D) fs))) a = none → H a = none := fun a e => by
        by_cases c : a = x
        · rw [c, upd_same] at e
          cases e
        · rw [upd_ne c] at e
          exact (s12.trans sm).free e
      refine k _ (fun a u ne e => e2 a u ne (s3 _ _ (e1 a u ne (sm _ _ (s12 _ _ e))))) ⟨D, d, ls', TT, vs', upd_same, nDH, e2 _ _ (nxb (s3 _ _ hD1) (by intro z; cases z)) (s3 _ _ hD1), ?_, so, ?_, tab⟩
      · exact paired_imp (fun v l ⟨t', b', e, nt, nb, g1, g2⟩ => ⟨t', b', e, nt, nb, e2 _ _ (nxb (s3 _ _ g1) (by intro z; cases z)) (s3 _ _ g1), e2 _ _ (nxb (s3 _ _ g2) (by intro z; cases z)) (s3 _ _ g2)⟩) pk1
      · obtain ⟨n1, kvs, n2, n3⟩ := dT
        exact ⟨back _ n1, kvs, e2 _ _ (nxb n2 (by intro z; cases z)) n2, paired_imp (fun kv t ⟨a1, a2, a3, a4, a5⟩ => ⟨a1, a2, back _ a3, a4, e2 _ _ (nxb a5 (by intro z; cases z)) a5⟩) n3⟩
end
end K1

namespace K1
open PySem PySem.Spec PyProof.Rows L2 Own
/-! ### making tables -/
def k4 : List Str := ["io", "net", "disk", "both"]
def k6 : List Str := ["rows", "kinds", "name", "names", "of", "tree"]
def k1a : List Str := ["a"]
def BasAt (H : Hp) (v : V) (l : Ln) : Prop := ∃ b, v = .ref b ∧ SeqOf H b (l.2.map V.str)
def spInit (C : Addr) : SpK := fun x ks vs H Q => ∃ dx ls, H x = some (.ins C dx []) ∧ nms ls = ks ∧ Paired (BasAt H) vs ls ∧ LnsOk ls ∧ (ks = [] ∨ ks = k4 ∨ ks = k6 ∨ ks = k1a) ∧ ∀ H', (∀ b o, b ≠ x → H b = some o → H' b = some o) → KObj (fun p => H p = none) C H' x dx ls → Q .non H'
theorem rows_of {H' : Hp} : ∀ {ts : List Addr} {vs : List V} {ls : List Ln}, Paired (fun (t : Addr) (q : Key × V) => H' t = some (.tup [kV q.1, q.2])) ts (keyed ((nms ls).zip vs)) → Paired (BasAt H') vs ls → Paired (RowAt H') (ts.map V.ref) ls
  | [], _, [], _, _ => .nil
  | [], _, _ :: _, p, .cons _ _ => nomatch p
  | _ :: _, _, [], p, .nil => nomatch p
  | t :: ts, v :: vs, l :: ls, .cons a r, .cons ⟨b, e, hb⟩ s => .cons ⟨t, b, rfl, by rw [← e]; exact a, hb⟩ (rows_of r s)
def spOf (C : Addr) : Sp := fun vs H Q _ => ∃ a ls, vs = [.ref C, .ref a] ∧ RowsAt H a ls ∧ LnsOk ls ∧ ∀ H' x, Same H H' → KAt (fun p => H p = none) C H' x ls → Q (.ref x) H'
theorem lnsOk_nil : LnsOk [] := ⟨fun _ h => (nomatch h), List.nodup_nil, Nat.zero_le _, fun i l h => by simp at h⟩
section
variable {P : Program} {w : World} {K : PySem.W.Frag} {mg : Str → Option Value} {base : Heap}
theorem scInit : FnScope ["self", "bases"] ["self", "bases"] (defScope sInit) := ⟨rfl, rfl, rfl, by decide +kernel, rfl, by decide +kernel, by decide +kernel⟩
theorem ok_init {C f fT : Addr} {fd dT : FuncData} (F : Fun K "__init__" "Kinds.__init__" sInit f fd) (T : KTxt K mg C) (GT : FnOk P w K mg base CX0 3 fT dT ["self", "rows"] (spTake C)) (mT : Meth K C "_take" fT) (bT : Binds K dT ["self", "rows"] []) : FnKw P w K mg base 4 f (spInit C) := by
  obtain ⟨oc, od, kV, doc, pm, an, cdv, ct, osl, rfl, lk, hcd⟩ := F.ex
  refine fn_kw lk hcd scInit (fun x ks vs H Q h => ?_) (fun x ks vs H Q ws h hl => ?_) (fun A outer s H x d ks vs Q E hr h hd => ?_)
  · obtain ⟨dx, ls, _, e, _, ok, _⟩ := h
    subst e
    have := ok.few
    exact ⟨ok.nd, by rw [List.length_map]; omega⟩
  · obtain ⟨dx, ls, _, e, _, ok, he, _⟩ := h
    rcases he with he | he | he | he
    · subst he
      match ws, hl with
      | [], _ => rfl
    · subst he
      match ws, hl with
      | [a, b, c, d], _ => rfl
    · subst he
      match ws, hl with
      | [a, b, c, d, e, f], _ => rfl
    · subst he
      match ws, hl with
      | [a], _ => rfl
  · obtain ⟨dx, ls, hx, e, pb, ok, he, k⟩ := h
    subst e
    refine ⟨_, pss_one (ps_expr (pe_meth (pv 0) T.cl mT GT hr bT .nil pass0 (pa_cons (LiI.pe_listItems rfl (pv 1) (by rfl) T.list (by decide +kernel)) pa_nil))), ?_⟩
    have s1 : Same H (upd H d (.dK (keyed ((nms ls).zip vs)))) := same_upd hd
    refine ⟨_, rfl, x, dx, [], rfl, s1 _ _ hx, rfl, _, rfl, d, _, rfl, upd_same, fun H' p ts s2 np nts pn hp pt => ?_⟩
    have pb2 : Paired (BasAt H') vs ls := paired_imp (fun _ _ ⟨b, e, hb⟩ => ⟨b, e, (hb.same s1).same s2⟩) pb
    refine ⟨x, p, dx, [], ls, rfl, s2 _ _ (s1 _ _ hx), .inl rfl, ⟨_, .inl hp, rows_of pt pb2⟩, ok, fun H3 s3 ko => ?_⟩
    exact k _ (fun b o ne e => s3 b o ne (s2 _ _ (s1 _ _ e))) (ko.mono fun a e => s1.free (Same.free s2 e))
theorem scOf : FnScope ["cls", "rows", "made"] ["cls", "rows"] (defScope sOf) := ⟨rfl, rfl, rfl, by decide +kernel, rfl, by decide +kernel, by decide +kernel⟩
theorem ok_of {C f fT fI fR : Addr} {fd dT dR : FuncData} (F : Fun K "of" "Kinds.of" sOf f fd) (T : KTxt K mg C) (M : Mk K C fI) (GI : FnKw P w K mg base 4 fI (spInit C)) (GT : FnOk P w K mg base CX0 3 fT dT ["self", "rows"] (spTake C)) (mT : Meth K C "_take" fT) (bT : Binds K dT ["self", "rows"] [])
    (GR : FnOk P w K mg base CX0 2 fR dR ["thing"] spAreRows) (kR : PySem.W.keepIn K (.ref fR) = true) (bR : Binds K dR ["thing"] []) (mR : mg "_are_rows" = some (.ref fR)) : FnOk P w K mg base CX0 6 f fd ["cls", "rows"] (spOf C) := by
  refine F.ok scOf (fun vs H Q E h => ?_) (fun cdv A outer s H vs Q E hr h => ?_)
  · obtain ⟨a, ls, rfl, _⟩ := h
    rfl
  · obtain ⟨a, ls, rfl, ra, ok, k⟩ := h
    refine ⟨_, pss_cons (ps_if (pt_not (pt_val (pe_call GR (hr.mono (by decide)) (by rfl) mR kR bR .nil pass0 (pa_cons (pv 1) pa_nil)))) (pss_one ps_never) pss_nil)
      (pss_cons (ps_set (i := 2) scOf.nd rfl (Or.inl rfl) (pe_makeL (i := 0) M GI hr rfl (Or.inl rfl)))
      (pss_cons (ps_expr (pe_meth (pv 2) T.cl mT GT (hr.mono (by decide)) bT .nil pass0 (pa_cons (pv 1) pa_nil)))
      (pss_one (ps_ret (pv 2))))), ?_⟩
    have few := ok.few
    refine ⟨_, rfl, a, ls, rfl, ra, (by omega), fun H1 s1 => ⟨true, rfl, iteF ?_⟩⟩
    refine ⟨rfl, fun x dx nx ndx ne => ?_⟩
    have s2 : Same H1 (upd (upd H1 dx (.own x)) x (.ins C dx [])) := fun b o e => by
      rw [upd_ne (ne_of_none e nx), upd_ne (ne_of_none e ndx)]
      exact e
    refine ⟨dx, [], upd_same, rfl, .nil, lnsOk_nil, .inl rfl, fun H3 s3 ko => ⟨rfl, ?_⟩⟩
    obtain ⟨r, d, ls', TT, rs, hx3, _⟩ := ko
    have s13 : Same H1 H3 := fun b o e => s3 b o (ne_of_none e nx) (s2 _ _ e)
    refine ⟨_, rfl, x, dx, _, rfl, hx3, kf_no _ _ (by decide +kernel) (by decide +kernel), _, rfl, x, a, dx, _, ls, rfl, hx3, .inr ⟨_, _, rfl⟩, (ra.same s1).same s13, ok, fun H4 s4 ko => ?_⟩
    have s14 : Same H1 H4 := fun b o e => s4 b o (ne_of_none e nx) (s13 _ _ e)
    refine ⟨_, rfl, k _ x (s1.trans s14) ⟨s1.free nx, dx, ko.mono fun p e => s1.free (s13.free e)⟩⟩
end
end K1

namespace K1
open PySem PySem.Spec PyProof.Rows L2 Own
/-! ### reading tables -/
def reprOf (ns : List Str) : Str := (("Kinds(" : Str) ++ Txt.join ", " ns) ++ (")" : Str)
/-- what stands in a table's object -/
structure KIn (C : Addr) (H : Hp) (x : Addr) (ls ls' : List Ln) (T : Tb) : Prop where
  ex : ∃ dx r d rs kvs, H x = some (.ins C dx (kf r d)) ∧ H r = some (.lst rs) ∧ Paired (RowIn (fun _ => True) H) rs ls' ∧ H d = some (.dK kvs) ∧ Paired (EntAt (fun _ => True) H) kvs T
  srt : SrtOf ls ls'
  tab : Tab Srt ls' T
theorem KAt.kin {N : Addr → Prop} {C : Addr} {H : Hp} {x : Addr} {ls : List Ln} (h : KAt N C H x ls) : ∃ ls' T, KIn C H x ls ls' T := by
  obtain ⟨_, dx, r, d, ls', T, rs, hx, _, hr, pr, so, ⟨_, kvs, hd, pk⟩, tab⟩ := h
  exact ⟨ls', T, ⟨dx, r, d, rs, kvs, hx, hr, paired_imp (fun _ _ ⟨t, b, e, _, _, h1, h2⟩ => ⟨t, b, e, trivial, trivial, h1, h2⟩) pr, hd, paired_imp (fun _ _ ⟨a, q, _, c, z⟩ => ⟨a, q, trivial, c, z⟩) pk⟩, so, tab⟩
theorem KIn.same {C : Addr} {H H' : Hp} {x : Addr} {ls ls' : List Ln} {T : Tb} (h : KIn C H x ls ls' T) (s : Same H H') : KIn C H' x ls ls' T := by
  obtain ⟨⟨dx, r, d, rs, kvs, hx, hr, pr, hd, pk⟩, so, tab⟩ := h
  exact ⟨⟨dx, r, d, rs, kvs, s _ _ hx, s _ _ hr, paired_imp (fun _ _ ⟨t, b, e, _, _, h1, h2⟩ => ⟨t, b, e, trivial, trivial, s _ _ h1, s _ _ h2⟩) pr, s _ _ hd, paired_imp (fun _ _ ⟨a, q, _, c, z⟩ => ⟨a, q, trivial, c, s _ _ z⟩) pk⟩, so, tab⟩
theorem srt_len {ls ls' : List Ln} (h : SrtOf ls ls') : ls.length = ls'.length := paired_len h
def spOrder (C : Addr) : Sp := fun vs H Q _ => ∃ x ls ls' T, vs = [.ref x] ∧ KIn C H x ls ls' T ∧ ls.length ≤ 1000 ∧ ∀ H' p, Same H H' → H p = none → H' p = some (.lst ((nms ls).map V.str)) → Q (.ref p) H'
def spLen (C : Addr) : Sp := fun vs H Q _ => ∃ x ls ls' T, vs = [.ref x] ∧ KIn C H x ls ls' T ∧ Q (.int ls.length) H
def spIn (C : Addr) (K : PySem.W.Frag) : Sp := fun vs H Q _ => ∃ x v ls ls' T, vs = [.ref x, v] ∧ KIn C H x ls ls' T ∧ ((∃ z, v = .str z ∧ Q (.bl (decide (z ∈ nms ls))) H) ∨ (∃ t, TyX K H v t ∧ PySem.W.kitOne K t (.type "str") = some false ∧ Q (.bl false) H))
theorem ent_has {N : Addr → Prop} {H : Hp} {n : Str} {kvs : List (Key × V)} {T : Tb} (p : Paired (EntAt N H) kvs T) : (valV kvs (Sum.inr n)).isSome = decide (n ∈ T.map (·.1)) := by
  by_cases h : n ∈ T.map (·.1)
  · obtain ⟨q, _, e, _⟩ := ent_get p (look_in h)
    rw [e, decide_eq_true h]
    rfl
  · rw [ent_none p h, decide_eq_false h]
    rfl
theorem KIn.names {C : Addr} {H : Hp} {x : Addr} {ls ls' : List Ln} {T : Tb} (h : KIn C H x ls ls' T) : T.map (·.1) = nms ls := by
  rw [h.tab.nms, ← h.srt.alike.nms]
section
variable {P : Program} {w : World} {K : PySem.W.Frag} {mg : Str → Option Value} {base : Heap}
theorem scOrder : FnScope ["self", "name", "_"] ["self"] (defScope sOrder) := ⟨rfl, rfl, rfl, by decide +kernel, rfl, by decide +kernel, by decide +kernel⟩
theorem ok_order {C f : Addr} {fd : FuncData} (F : Fun K "order" "Kinds.order" sOrder f fd) (T : KTxt K mg C) : FnOk P w K mg base CX0 1 f fd ["self"] (spOrder C) := by
  refine F.ok scOrder (fun vs H Q E h => ?_) (fun cdv A outer s H vs Q E hr h => ?_)
  · obtain ⟨x, ls, ls', TT, rfl, _⟩ := h
    rfl
  · obtain ⟨x, ls, ls', TT, rfl, ⟨⟨dx, r, d, rs, kvs, hx, hR, pr, hd, pk⟩, so, tab⟩, hl, k⟩ := h
    refine ⟨_, pss_one (ps_ret (pe_lc (own := [("name", 1), ("_", 2)]) (g := gTup K 2 (gCons (gName 1) (gCons (gName 2) gNil))) (tt := tYes) rfl scOrder.nd (pi_list (pe_fld (pv 0) rfl)) (blkOk_by (N := ["self", "name", "_"]) (sc := defScope sOrder) (by decide +kernel))
      (fun _ _ _ _ _ => pg_tup rfl (pgs_cons (pg_name (i := 1) scOrder.nd rfl (Or.inl rfl)) (pgs_cons (pg_name (i := 2) scOrder.nd rfl (Or.inl rfl)) pgs_nil))) (fun _ _ _ _ _ => pts_nil) (fun _ _ _ _ _ => pv 1))), ?_⟩
    have len := paired_len pr
    have len2 := srt_len so
    refine ⟨_, rfl, x, C, dx, _, _, rfl, hx, T.cl, T.nR, kf_rows _ _, r, rfl, ⟨_, SqL.of hR⟩, fun D nD => lc_list (K := K) (a := r) (xs := rs) (fun i H' => Same H H' ∧ H' D = some (.lst ((nms (ls'.take i)).map V.str))) ⟨same_upd nD, upd_same⟩ (fun i H' hi p => SqL.of (p.1 _ _ hR)) ?_ ?_⟩
    · rintro i v H' hv ⟨sm, hD⟩
      obtain ⟨l, hl2, t, b, rfl, _, _, ht, hb⟩ := paired_at pr hv
      have hi : i < ls'.length := (List.getElem?_eq_some_iff.mp hl2).1
      refine ⟨t, _, rfl, SqT.of (sm _ _ ht), rfl, _, _, rfl, _, _, rfl, rfl, rfl, _, rfl, _, hD, ?_, ?_, ?_⟩
      · rw [List.length_map, List.length_map, List.length_take]
        exact small1000 (by omega)
      · exact same_past nD sm
      · show upd H' D _ D = _
        rw [upd_same, show nms (ls'.take (i + 1)) = nms (ls'.take i) ++ [l.1] from take_succ_map hl2, List.map_append]
        rfl
    · rintro H' ⟨sm, hD⟩
      rw [len, List.take_of_length_le (Nat.le_refl _), ← so.alike.nms] at hD
      exact k _ D sm nD hD
theorem scLen : FnScope ["self"] ["self"] (defScope sLen) := ⟨rfl, rfl, rfl, by decide +kernel, rfl, by decide +kernel, by decide +kernel⟩
theorem ok_len {C f : Addr} {fd : FuncData} (F : Fun K "__len__" "Kinds.__len__" sLen f fd) (T : KTxt K mg C) : FnOk P w K mg base CX0 1 f fd ["self"] (spLen C) := by
  refine F.ok scLen (fun vs H Q E h => ?_) (fun cdv A outer s H vs Q E hr h => ?_)
  · obtain ⟨x, ls, ls', TT, rfl, _⟩ := h
    rfl
  · obtain ⟨x, ls, ls', TT, rfl, ⟨⟨dx, r, d, rs, kvs, hx, hR, pr, hd, pk⟩, so, tab⟩, k⟩ := h
    refine ⟨_, pss_one (ps_ret (pe_callB call_len_seq (by rfl) T.len PySem.boot_len (pa_cons (pe_fld (pv 0) rfl) pa_nil))), ?_⟩
    refine ⟨_, rfl, x, C, dx, _, _, rfl, hx, T.cl, T.nR, kf_rows _ _, r, _, rfl, .inl (SqL.of hR), ?_⟩
    rw [paired_len pr, ← srt_len so]
    exact k
theorem scIn : FnScope ["self", "x"] ["self", "x"] (defScope sIn) := ⟨rfl, rfl, rfl, by decide +kernel, rfl, by decide +kernel, by decide +kernel⟩
theorem ok_in {C f : Addr} {fd : FuncData} (F : Fun K "__contains__" "Kinds.__contains__" sIn f fd) (T : KTxt K mg C) (mi : mg "isinstance" = none) (ms : mg "str" = none) : FnOk P w K mg base CX0 1 f fd ["self", "x"] (spIn C K) := by
  refine F.ok scIn (fun vs H Q E h => ?_) (fun cdv A outer s H vs Q E hr h => ?_)
  · obtain ⟨x, v, ls, ls', TT, rfl, _⟩ := h
    rfl
  · obtain ⟨x, v, ls, ls', TT, rfl, kin, k⟩ := h
    have en := kin.names
    obtain ⟨⟨dx, r, d, rs, kvs, hx, hR, pr, hd, pk⟩, so, tab⟩ := kin
    have hu := hu_of hr
    refine ⟨_, pss_one (ps_ret (pe_and (pe_callB call_isi (by rfl) mi (by decide +kernel) (pa_cons (pv 1) (pa_cons (pe_bltn (v := .ty "str") (u := .type "str") (by rfl) ms (by decide +kernel) rfl) pa_nil)))
      (pe_one (pe_cmp (pc_din hu (pv 1) (pe_fld (pv 0) rfl)) rfl)))), ?_⟩
    rcases k with ⟨z, rfl, k⟩ | ⟨t, ty, kt, k⟩
    · refine ⟨_, rfl, _, _, _, _, true, rfl, .ty "str", .base (.str z), kit_ty (by decide +kernel), true, rfl, iteT ?_⟩
      refine ⟨_, rfl, _, rfl, x, C, dx, _, _, rfl, hx, T.cl, T.nA, kf_above _ _, d, _, rfl, DGet.k (k := Sum.inr z) hd, ?_⟩
      rw [ent_has pk, en]
      exact k
    · exact ⟨_, rfl, _, _, _, _, false, rfl, .ty "str", ty, kt, false, rfl, iteF k⟩
end
end K1

namespace K1
open PySem PySem.Spec PyProof.Rows L2 Own
def spBelow (C : Addr) : Sp := fun vs H Q _ => ∃ x n ls ls' T, vs = [.ref x, .str n] ∧ KIn C H x ls ls' T ∧ LnsOk ls ∧ n ∈ nms ls ∧ ∀ H' p ys, Same H H' → ys.Perm ((nms ls).filter fun m => decide (n ∈ look T m)) → Srt ys → H p = none → H' p = some (.lst (ys.map V.str)) → Q (.ref p) H'
def spAbove (C : Addr) : Sp := fun vs H Q _ => ∃ x n ls ls' T, vs = [.ref x, .str n] ∧ KIn C H x ls ls' T ∧ n ∈ nms ls ∧ ∀ H' p, Same H H' → H p = none → H' p = some (.lst ((look T n).map V.str)) → Q (.ref p) H'
def spEq (C : Addr) : Sp := fun vs H Q _ => ∃ x y l1 l2 l' T T', vs = [.ref x, .ref y] ∧ KIn C H x l1 l' T ∧ KIn C H y l2 l' T' ∧ LnsOk l1 ∧ Q (.bl true) H
structure Ord (K : PySem.W.Frag) (mg : Str → Option Value) (C : Addr) (p g : Addr) : Prop where
  of : PropOf K C "order" p g
theorem filter_len (f : Str → Bool) (xs : List Str) : (xs.filter f).length ≤ xs.length := List.length_filter_le f xs
section
variable {P : Program} {w : World} {K : PySem.W.Frag} {mg : Str → Option Value} {base : Heap}
theorem scBelow : FnScope ["self", "name", "kind"] ["self", "name"] (defScope sBelow) := ⟨rfl, rfl, rfl, by decide +kernel, rfl, by decide +kernel, by decide +kernel⟩
theorem ok_below {C f fI p fO : Addr} {fd dI dO : FuncData} (F : Fun K "below" "Kinds.below" sBelow f fd) (T : KTxt K mg C) (cI : Spc K C "__contains__" fI) (GI : FnOk P w K mg base CX0 1 fI dI ["self", "x"] (spIn C K)) (bI : Binds K dI ["self", "x"] [])
    (po : PropOf K C "order" p fO) (GO : FnOk P w K mg base CX0 1 fO dO ["self"] (spOrder C)) (bO : Binds K dO ["self"] []) : FnOk P w K mg base CX0 3 f fd ["self", "name"] (spBelow C) := by
  refine F.ok scBelow (fun vs H Q E h => ?_) (fun cdv A outer s H vs Q E hr h => ?_)
  · obtain ⟨x, n, ls, ls', TT, rfl, _⟩ := h
    rfl
  · obtain ⟨x, n, ls, ls', TT, rfl, kin, ok, hn, k⟩ := h
    have hu := hu_of hr
    have en := kin.names
    have few := ok.few
    obtain ⟨dx, r, d, rs, kvs, hx, hR, pr, hd, pk⟩ := kin.ex
    refine ⟨_, pss_cons (ps_if (pt_cmpR (op_notInO cI GI (hr.mono (by decide)) bI) (pv 1) (pv 0) (by rfl)) (pss_one ps_never) pss_nil)
      (pss_one (ps_ret (pe_callB cr_sortedQ (by rfl) T.sorted (by decide +kernel) (pa_cons (pe_lc (own := [("kind", 2)]) (g := gName 2) (tt := tTest (tOp (rIn K false) (tVar 1) (tDGet (tFld K (tVar 0) "_above") (tVar 2)))) rfl scBelow.nd (pi_list (pe_prop (pv 0) T.cl po GO hr bO .nil pass0 rfl)) (blkOk_by (N := ["self", "name", "kind"]) (sc := defScope sBelow) (by decide +kernel))
        (fun _ _ _ _ _ => pg_name (i := 2) scBelow.nd rfl (Or.inl rfl)) (fun _ _ _ _ _ => pts_one (pt_cmpR op_in_seq (pv 1) (pe_dget hu (pe_fld (pv 0) rfl) (pv 2) (fun _ _ => rfl)) (by rfl))) (fun _ _ _ _ _ => pv 2)) pa_nil)))), ?_⟩
    refine ⟨_, rfl, _, rfl, x, dx, _, rfl, hx, x, _, ls, ls', TT, rfl, kin, .inl ⟨n, rfl, _, rfl, _, rfl, iteNS hn ?_⟩⟩
    refine ⟨_, rfl, x, dx, _, rfl, hx, x, ls, ls', TT, rfl, kin, (by omega), fun H1 o s1 no ho => ⟨o, rfl, ⟨_, SqL.of ho⟩, fun D nD => ?_⟩⟩
    refine lc_list (K := K) (a := o) (xs := (nms ls).map V.str) (fun i H' => Same H1 H' ∧ H' D = some (.lst ((((nms ls).take i).filter fun m => decide (n ∈ look TT m)).map V.str))) ⟨same_upd nD, upd_same⟩ (fun i H' hi p => SqL.of (p.1 _ _ ho)) ?_ ?_
    · rintro i v H' hv ⟨sm, hD⟩
      rw [List.getElem?_map] at hv
      obtain ⟨m, hm, rfl⟩ := Option.map_eq_some_iff.mp hv
      have sH : Same H H' := s1.trans sm
      have mT : m ∈ TT.map (·.1) := by
        rw [en]
        exact List.mem_of_getElem? hm
      obtain ⟨q, _, eq, hq⟩ := ent_get pk (look_in mT)
      have g : DGet H' d (.str m) (some (.ref q)) := by
        rw [← eq]
        exact DGet.k (k := Sum.inr m) (sH _ _ hd)
      refine ⟨rfl, _, rfl, _, rfl, x, C, dx, _, _, rfl, sH _ _ hx, T.cl, T.nA, kf_above _ _, _, rfl, d, _, rfl, g, q, _, rfl, .inl (SqL.of (sH _ _ hq)), rfl, flat_strs _, _, rfl, ?_⟩
      rw [show (if false = true then !inV (V.str n) ((look TT m).map V.str) else inV (V.str n) ((look TT m).map V.str)) = decide (n ∈ look TT m) from by
        rw [if_neg Bool.false_ne_true, inV_str]]
      have tk : (((nms ls).take (i + 1)).filter fun m => decide (n ∈ look TT m)) = (((nms ls).take i).filter fun m => decide (n ∈ look TT m)) ++ [m].filter fun m => decide (n ∈ look TT m) := by
        rw [List.take_add_one, hm, List.filter_append]
        rfl
      refine ite2 (fun c => ?_) (fun c => ?_)
      · refine ⟨_, rfl, _, hD, ?_, same_past nD sm, ?_⟩
        · have a := filter_len (fun m => decide (n ∈ look TT m)) ((nms ls).take i)
          rw [List.length_take, List.length_map] at a
          rw [List.length_map]
          exact small1000 (by omega)
        · show upd H' D _ D = _
          rw [upd_same, tk, List.filter_cons, if_pos c, List.map_append]
          rfl
      · refine ⟨sm, ?_⟩
        rw [tk, List.filter_cons, if_neg c, List.filter_nil, List.append_nil]
        exact hD
    · rintro H' ⟨sm, hD⟩
      rw [List.length_map, List.take_of_length_le (Nat.le_refl _)] at hD
      have a := filter_len (fun m => decide (n ∈ look TT m)) (nms ls)
      rw [List.length_map] at a
      refine ⟨D, _, rfl, .inl hD, (by omega), fun ys p pe so np => ?_⟩
      exact k _ p ys ((s1.trans sm).trans (same_upd np)) pe so ((s1.trans sm).free np) upd_same
theorem scAbove : FnScope ["self", "name"] ["self", "name"] (defScope sAbove) := ⟨rfl, rfl, rfl, by decide +kernel, rfl, by decide +kernel, by decide +kernel⟩
theorem ok_above {C f fI : Addr} {fd dI : FuncData} (F : Fun K "above" "Kinds.above" sAbove f fd) (T : KTxt K mg C) (cI : Spc K C "__contains__" fI) (GI : FnOk P w K mg base CX0 1 fI dI ["self", "x"] (spIn C K)) (bI : Binds K dI ["self", "x"] []) : FnOk P w K mg base CX0 3 f fd ["self", "name"] (spAbove C) := by
  refine F.ok scAbove (fun vs H Q E h => ?_) (fun cdv A outer s H vs Q E hr h => ?_)
  · obtain ⟨x, n, ls, ls', TT, rfl, _⟩ := h
    rfl
  · obtain ⟨x, n, ls, ls', TT, rfl, kin, hn, k⟩ := h
    have hu := hu_of hr
    have en := kin.names
    obtain ⟨dx, r, d, rs, kvs, hx, hR, pr, hd, pk⟩ := kin.ex
    refine ⟨_, pss_cons (ps_if (pt_cmpR (op_notInO cI GI (hr.mono (by decide)) bI) (pv 1) (pv 0) (by rfl)) (pss_one ps_never) pss_nil)
      (pss_one (ps_ret (pe_callTy call_list_of (by rfl) T.list (by decide +kernel) (pa_cons (pe_dget hu (pe_fld (pv 0) rfl) (pv 1) (fun _ _ => rfl)) pa_nil)))), ?_⟩
    refine ⟨_, rfl, _, rfl, x, dx, _, rfl, hx, x, _, ls, ls', TT, rfl, kin, .inl ⟨n, rfl, _, rfl, _, rfl, iteNS hn ?_⟩⟩
    have nT : n ∈ TT.map (·.1) := by rw [en]; exact hn
    obtain ⟨q, _, eq, hq⟩ := ent_get pk (look_in nT)
    have g : DGet H d (.str n) (some (.ref q)) := by
      rw [← eq]
      exact DGet.k (k := Sum.inr n) hd
    refine ⟨_, rfl, x, C, dx, _, _, rfl, hx, T.cl, T.nA, kf_above _ _, _, rfl, d, _, rfl, g, q, _, rfl, .inl (SqL.of hq), fun l nl => ?_⟩
    exact k _ l (same_upd nl) nl upd_same
end
end K1

namespace K1
open PySem PySem.Spec PyProof.Rows L2 Own
theorem join_le (sep : Str) : ∀ ys : List Str, (Str.join sep ys).length ≤ (ys.map (·.length)).sum + ys.length * sep.length
  | [] => Nat.zero_le _
  | [y] => by
    show y.length ≤ (y.length + 0) + 1 * sep.length
    omega
  | y :: z :: r => by
    have ih := join_le sep (z :: r)
    show (y ++ sep ++ Str.join sep (z :: r)).length ≤ _
    rw [Str.length_append, Str.length_append, List.map_cons, List.sum_cons, List.length_cons, Nat.succ_mul]
    omega
theorem txt_join (sep : Str) (ys : List Str) : Txt.join sep ys = Str.join sep ys := PySem.StrLaws.glued_eq_join sep ys
theorem names_sum : ∀ ns : List Str, (∀ n ∈ ns, n.length ≤ 8) → (ns.map (·.length)).sum ≤ 8 * ns.length
  | [], _ => Nat.le_refl _
  | n :: r, h => by
    have ih := names_sum r fun m hm => h m (List.mem_cons_of_mem _ hm)
    have h0 := h n (List.mem_cons_self ..)
    rw [List.map_cons, List.sum_cons, List.length_cons]
    omega
theorem LnsOk.short {ls : List Ln} (ok : LnsOk ls) : ∀ n ∈ nms ls, n.length ≤ 8 := fun n hn => by
  obtain ⟨l, hl, e⟩ := List.mem_map.mp hn
  rw [← e]
  exact (ok.names l hl).2.1
theorem join_fits {ls : List Ln} (ok : LnsOk ls) : ((nms ls).map (·.length)).sum + (nms ls).length * (", " : Str).length ≤ 1000 ∧ (Txt.join ", " (nms ls)).length ≤ 1000 := by
  have a := names_sum (nms ls) ok.short
  have b := join_le ", " (nms ls)
  have c := ok.few
  have d : (nms ls).length = ls.length := List.length_map _
  have e : (", " : Str).length = 2 := by decide +kernel
  rw [txt_join]
  rw [e] at b ⊢
  omega
def spRepr (C : Addr) : Sp := fun vs H Q _ => ∃ x ls ls' T, vs = [.ref x] ∧ KIn C H x ls ls' T ∧ LnsOk ls ∧ ∀ H', Same H H' → Q (.str (reprOf (nms ls))) H'
/-- rows as data -/
def rowD (l : Ln) : PyData := .tuple [.str l.1, .list (l.2.map .str)]
def rowsD (ls : List Ln) : PyData := .list (ls.map rowD)
def strsD (ss : List Str) : PyData := .list (ss.map .str)
def Low (z : Str) : Prop := PyData.strOk z = true
theorem strs_lay : ∀ ss : List Str, (∀ s ∈ ss, Low s) → PyData.canLayAll0 (ss.map .str) = true ∧ PyData.depthAll (ss.map .str) = 0
  | [], _ => ⟨rfl, rfl⟩
  | s :: r, h => by
    obtain ⟨a, b⟩ := strs_lay r fun x hx => h x (List.mem_cons_of_mem _ hx)
    have h0 : PyData.strOk s = true := h s (List.mem_cons_self ..)
    constructor
    · show (PyData.canLay0 (.str s) && PyData.canLayAll0 (r.map .str)) = true
      rw [a]
      show (PyData.strOk s && true) = true
      rw [h0]
      rfl
    · show max (PyData.depth (.str s)) (PyData.depthAll (r.map .str)) = 0
      rw [b]
      rfl
theorem strs_shaped {ss : List Str} (h : ∀ s ∈ ss, Low s) : SeqAt.shaped (strsD ss) = true := by
  obtain ⟨a, b⟩ := strs_lay ss h
  show (PyData.canLayAll0 (ss.map .str) && decide (PyData.depthAll (ss.map .str) + 1 ≤ 64)) = true
  rw [a, b]
  rfl
theorem rows_lay : ∀ ls : List Ln, (∀ l ∈ ls, Low l.1 ∧ ∀ s ∈ l.2, Low s) → PyData.canLayAll0 (ls.map rowD) = true ∧ PyData.depthAll (ls.map rowD) ≤ 2
  | [], _ => ⟨rfl, Nat.zero_le _⟩
  | l :: r, h => by
    obtain ⟨a, b⟩ := rows_lay r fun x hx => h x (List.mem_cons_of_mem _ hx)
    obtain ⟨h1, h2⟩ := h l (List.mem_cons_self ..)
    obtain ⟨c, d⟩ := strs_lay l.2 h2
    constructor
    · show (PyData.canLay0 (rowD l) && PyData.canLayAll0 (r.map rowD)) = true
      rw [a]
      show ((PyData.strOk l.1 && (PyData.canLayAll0 (l.2.map .str) && true)) && true) = true
      rw [c, show PyData.strOk l.1 = true from h1]
      rfl
    · show max (max 0 (max (PyData.depthAll (l.2.map .str) + 1) 0) + 1) (PyData.depthAll (r.map rowD)) ≤ 2
      rw [d]
      omega
theorem rows_shaped {ls : List Ln} (h : ∀ l ∈ ls, Low l.1 ∧ ∀ s ∈ l.2, Low s) : SeqAt.shaped (rowsD ls) = true := by
  obtain ⟨a, b⟩ := rows_lay ls h
  show (PyData.canLayAll0 (ls.map rowD) && decide (PyData.depthAll (ls.map rowD) + 1 ≤ 64)) = true
  rw [a, decide_eq_true (by omega)]
  rfl
theorem name_low {z : Str} (h : NameOk z) : Low z := by
  show z.cps.all (· < 0x110000) = true
  rw [← Array.all_toList, List.all_eq_true]
  intro c hc
  have := h.2.2 c hc
  exact decide_eq_true (by omega)
theorem LnsOk.low {ls : List Ln} (ok : LnsOk ls) : ∀ n ∈ nms ls, Low n := fun n hn => by
  obtain ⟨l, hl, e⟩ := List.mem_map.mp hn
  rw [← e]
  exact name_low (ok.names l hl)
theorem LnsOk.lows {ls : List Ln} (ok : LnsOk ls) : ∀ l ∈ ls, Low l.1 ∧ ∀ s ∈ l.2, Low s := fun l hl => by
  refine ⟨name_low (ok.names l hl), fun s hs => ?_⟩
  obtain ⟨i, hi⟩ := List.mem_iff_getElem?.mp hl
  have q := (ok.base i l hi).2.1 s hs
  obtain ⟨k, hk, e⟩ := List.mem_map.mp q
  exact ok.low s (List.mem_map.mpr ⟨k, List.mem_of_mem_take hk, e⟩)
theorem strs_dp {K : PySem.W.Frag} {H : Hp} : ∀ ss : List Str, DpAll K H (ss.map V.str) (ss.map PyData.str)
  | [] => .nil
  | s :: r => .cons (.str s) (strs_dp r)
theorem rows_dp {K : PySem.W.Frag} {N : Addr → Prop} {H : Hp} : ∀ {rs : List V} {ls : List Ln}, Paired (RowIn N H) rs ls → DpAll K H rs (ls.map rowD)
  | _, _, .nil => .nil
  | _, l :: _, .cons ⟨t, b, e, _, _, h1, h2⟩ r => .cons (by rw [e]; exact .tup (SqT.of h1) (.cons (.str _) (.cons (.lst (SqL.of h2) (strs_dp _)) .nil))) (rows_dp r)
section
variable {P : Program} {w : World} {K : PySem.W.Frag} {mg : Str → Option Value} {base : Heap}
theorem scRepr : FnScope ["self"] ["self"] (defScope sRepr) := ⟨rfl, rfl, rfl, by decide +kernel, rfl, by decide +kernel, by decide +kernel⟩
theorem ok_repr {C f p fO : Addr} {fd dO : FuncData} (F : Fun K "__repr__" "Kinds.__repr__" sRepr f fd) (T : KTxt K mg C) (po : PropOf K C "order" p fO) (GO : FnOk P w K mg base CX0 1 fO dO ["self"] (spOrder C)) (bO : Binds K dO ["self"] []) : FnOk P w K mg base CX0 3 f fd ["self"] (spRepr C) := by
  refine F.ok scRepr (fun vs H Q E h => ?_) (fun cdv A outer s H vs Q E hr h => ?_)
  · obtain ⟨x, ls, ls', TT, rfl, _⟩ := h
    rfl
  · obtain ⟨x, ls, ls', TT, rfl, kin, ok, k⟩ := h
    obtain ⟨dx, r, d, rs, kvs, hx, hR, pr, hd, pk⟩ := kin.ex
    obtain ⟨f1, f2⟩ := join_fits ok
    have few := ok.few
    have l6 : ("Kinds(" : Str).length = 6 := by decide +kernel
    have l1 : (")" : Str).length = 1 := by decide +kernel
    refine ⟨_, pss_one (ps_ret (pe_joined (PJ.cons pe_str (PJ.cons (pe_fmt (pe_join pe_str (pe_prop (pv 0) T.cl po GO hr bO .nil pass0 rfl))) (PJ.cons pe_str PJ.nil))))), ?_⟩
    refine ⟨_, rfl, ?_, ⟨_, rfl⟩, _, rfl, x, dx, _, rfl, hx, x, ls, ls', TT, rfl, kin, (by omega), fun H1 o s1 no ho => ⟨_, o, nms ls, rfl, rfl, .inl (SqL.of ho), (by omega), ?_⟩⟩
    · rw [Str.empty_append, l6]
      decide
    · refine .inl ⟨_, rfl, small1000 f2 |> Nat.le_of_lt, _, rfl, ?_, _, rfl, ?_, ?_⟩
      · rw [Str.empty_append, Str.length_append, l6]
        exact Nat.le_of_lt (Nat.lt_of_le_of_lt (show _ ≤ 1006 by omega) (by decide))
      · rw [Str.empty_append, Str.length_append, Str.length_append, l6, l1]
        exact Nat.le_of_lt (Nat.lt_of_le_of_lt (show _ ≤ 1007 by omega) (by decide))
      · rw [Str.empty_append]
        exact k _ s1
theorem scEq : FnScope ["self", "other"] ["self", "other"] (defScope sEq) := ⟨rfl, rfl, rfl, by decide +kernel, rfl, by decide +kernel, by decide +kernel⟩
theorem ok_eq {C f : Addr} {fd : FuncData} (F : Fun K "__eq__" "Kinds.__eq__" sEq f fd) (T : KTxt K mg C) (ic : C8.InsC K C) (mi : mg "isinstance" = none) : FnOk P w K mg base CX0 1 f fd ["self", "other"] (spEq C) := by
  refine F.ok scEq (fun vs H Q E h => ?_) (fun cdv A outer s H vs Q E hr h => ?_)
  · obtain ⟨x, y, l1, l2, l', TT, T', rfl, _⟩ := h
    rfl
  · obtain ⟨x, y, l1, l2, l', TT, T', rfl, kx, ky, ok, k⟩ := h
    have ok' := kx.srt.ok ok
    obtain ⟨dx, r, d, rs, kvs, hx, hR, pr, hd, pk⟩ := kx.ex
    obtain ⟨dy, r2, d2, rs2, kvs2, hy, hR2, pr2, hd2, pk2⟩ := ky.ex
    refine ⟨_, pss_one (ps_ret (pe_and (pe_callB (C8.call_isC ic) (by rfl) mi (by decide +kernel) (pa_cons (pv 1) (pa_cons (pe_glob (v := .ref C) (by rfl) T.mgC rfl) pa_nil)))
      (pe_one (pe_cmpR (op_eqD hr.units) (pe_fld (pv 0) rfl) (pe_fld (pv 1) rfl) (nomark _))))), ?_⟩
    refine ⟨_, rfl, y, dy, _, rfl, hy, true, rfl, iteT ?_⟩
    refine ⟨_, rfl, x, C, dx, _, _, rfl, hx, T.cl, T.nR, kf_rows _ _, _, rfl, y, C, dy, _, _, rfl, hy, T.cl, T.nR, kf_rows _ _, rowsD l', rowsD l', .lst (SqL.of hR) (rows_dp pr), .lst (SqL.of hR2) (rows_dp pr2), rows_shaped ok'.lows, rows_shaped ok'.lows, ?_⟩
    rw [SeqAt.eqv_refl _ (SeqAt.canLay_of_shaped (rows_shaped ok'.lows))]
    exact k
end
end K1

namespace K1
open PySem PySem.Spec PyProof.Rows L2
/-- source: from the script and a place, a new source -/
def spSource (K : PySem.W.Frag) : Sp := fun vs H Q _ => ∃ (a : Addr) (ns : List Int) (k : Int), vs = [.ref a, .int k] ∧ SqL K H a (ns.map V.int) ∧ ns.length ≤ 63 ∧ 0 ≤ k ∧ ∀ (p : Addr) (H' : Hp), Same H H' → H p = none → Src H' p → Q (.ref p) H'
theorem big60 : ((10 : Int) ^ (60 : Int).toNat).natAbs < 2 ^ 200 := by decide
theorem big120 : ((10 : Int) ^ (60 : Int).toNat * (10 : Int) ^ (60 : Int).toNat).natAbs < 2 ^ 400 := by decide
theorem bigpos : (10 : Int) ^ (60 : Int).toNat * (10 : Int) ^ (60 : Int).toNat * (10 : Int) ^ (60 : Int).toNat ≠ 0 := by decide
theorem bigpos' : (0 : Int) < (10 : Int) ^ (60 : Int).toNat * (10 : Int) ^ (60 : Int).toNat * (10 : Int) ^ (60 : Int).toNat := by decide
theorem int_at {ns : List Int} {k : Int} (h0 : 0 ≤ k) (h : k < (ns.length : Int)) : ∃ v : Int, atI (ns.map V.int) k = some (.int v) := by
  have hk : k.toNat < ns.length := by omega
  have ek : k = ((k.toNat : Nat) : Int) := by omega
  have q : atI (ns.map V.int) ((k.toNat : Nat) : Int) = some (.int ns[k.toNat]) := atI_nat (by rw [List.getElem?_map, List.getElem?_eq_getElem hk] <;> rfl)
  rw [← ek] at q
  exact ⟨_, q⟩
section
variable {P : Program} {w : World} {K : PySem.W.Frag} {mg : Str → Option Value} {base : Heap}
theorem scSource : FnScope ["script", "at", "cell", "mix", "k"] ["script", "at"] (defScope sSource) := ⟨rfl, rfl, rfl, by decide +kernel, rfl, by decide +kernel, by decide +kernel⟩
theorem ok_source {f : Addr} {fd : FuncData} (F : Fun K "_law_source" "_law_source" sSource f fd) (ml : mg "len" = none) (ma : mg "abs" = none) (mr : mg "range" = none) (mm : mg "min" = none) : FnOk P w K mg base CX0 1 f fd ["script", "at"] (spSource K) := by
  refine F.ok scSource (fun vs H Q E h => ?_) (fun cdv A outer s H vs Q E hr h => ?_)
  · obtain ⟨a, ns, k, rfl, _⟩ := h
    rfl
  · obtain ⟨a, ns, k, rfl, hS, h63, k0, q⟩ := h
    have hl : (ns.map V.int).length = ns.length := List.length_map _
    refine ⟨_, pss_cons (ps_set (i := 2) scSource.nd rfl (Or.inl rfl) pe_int)
      (C8.pss_cut (ps_if (pt_cmpR op_lt (pv 1) (pe_callB call_len_seq (by rfl) ml PySem.boot_len (pa_cons (pv 0) pa_nil)) (nomark _))
        (pss_one (ps_set (i := 2) scSource.nd rfl (Or.inl rfl) (pe_op op_modN (pe_callB call_abs (by rfl) ma (by decide +kernel) (pa_cons (pe_ix ix_list (pv 0) (pv 1) (fun _ _ => rfl)) pa_nil))
          (pe_op op_mulW (pe_op op_mulW (pe_op op_pow pe_int pe_int) (pe_op op_pow pe_int pe_int)) (pe_op op_pow pe_int pe_int))))) pss_nil)
      (pss_cons (ps_if (pt_cmpR op_ge (pv 2) (pe_op op_pow pe_int pe_int) (nomark _)) (pss_one (ps_ret (pe_lst (pa_cons (pv 2) (pa_cons pe_int pa_nil))))) pss_nil)
      (pss_cons (ps_set (i := 3) scSource.nd rfl (Or.inl rfl) (pe_op op_mod (pe_op op_add (pe_op op_add (pv 2) (pe_op op_mul pe_int (pv 1))) pe_int) pe_int))
      (pss_cons (ps_for PassesOwn.never rfl (pi_range1 (by rfl) mr (pa_cons (pe_callB (call_min2 rfl) (by rfl) mm (by decide +kernel) (pa_cons (pe_callB call_len_seq (by rfl) ml PySem.boot_len (pa_cons (pv 0) pa_nil)) (pa_cons pe_int pa_nil))) pa_nil)) (pg_name (i := 4) scSource.nd rfl (Or.inl rfl))
        (pss_one (ps_set (i := 3) scSource.nd rfl (Or.inl rfl) (pe_op op_mod (pe_op op_add (pe_op op_add (pe_op op_pow (pv 3) pe_int) (pe_op op_mod (pe_ix ix_list (pv 0) (pv 4) (fun _ _ => rfl)) pe_int)) (pe_op op_mul pe_int (pv 4))) pe_int))))
      (pss_one (ps_ret (pe_lst (pa_cons (pv 3) (pa_cons pe_int pa_nil))))))))), ?_⟩
    refine ⟨fun σ H1 => H1 = H ∧ ∃ c : Int, 0 ≤ c ∧ σ = [some (.ref a), some (.int k), some (.int c), none, none], ?_, ?_⟩
    · refine ⟨_, rfl, _, rfl, a, _, rfl, .inl hS, _, _, rfl, rfl, _, rfl, ite2 (fun e => ?_) (fun e => ?_)⟩
      · have e1 : k < (((ns.map V.int).length : Nat) : Int) := of_decide_eq_true e
        rw [hl] at e1
        obtain ⟨v, hv⟩ := int_at (ns := ns) k0 e1
        refine ⟨_, rfl, _, rfl, a, _, _, _, rfl, rfl, hS, hv, _, rfl, _, _, rfl, rfl, ⟨by decide, by decide, by decide⟩, _, _, rfl, rfl, ⟨by decide, by decide, by decide⟩, _, _, rfl, rfl, wide_mul big60 big60 (by decide) (by decide) (by decide), ?_⟩
        refine ⟨_, _, rfl, rfl, ⟨by decide, by decide, by decide⟩, _, _, rfl, rfl, wide_mul big120 big60 (by decide) (by decide) (by decide), _, _, rfl, rfl, bigpos, ?_⟩
        exact ⟨rfl, _, (fmod_pos bigpos').1, rfl⟩
      · exact ⟨rfl, 0, by decide, rfl⟩
    rintro σ H1 ⟨rfl, c, c0, rfl⟩
    refine ⟨_, rfl, _, _, rfl, rfl, ⟨by decide, by decide, by decide⟩, _, _, rfl, rfl, _, rfl, ite2 (fun e => ?_) (fun e => ?_)⟩
    · refine ⟨_, rfl, (by show 2 ≤ sizeLine; decide), fun p np => ?_⟩
      exact q p _ (same_upd np) np ⟨c, 0, upd_same, .inl ⟨rfl, c0⟩⟩
    · refine ⟨_, rfl, _, rfl, _, _, rfl, rfl, .inl ⟨by decide, by decide⟩, _, _, rfl, rfl, _, _, rfl, rfl, _, _, rfl, rfl, (by decide : (0 : Int) < 2147483647), ?_⟩
      have z := mod_lt (a := c + 7919 * k + 29) (m := 2147483647) (by decide)
      have hz : (if (9 : Int) < (((ns.map V.int).length : Nat) : Int) then (9 : Int) else (((ns.map V.int).length : Nat) : Int)) ≤ (ns.length : Int) ∧ 0 ≤ (if (9 : Int) < (((ns.map V.int).length : Nat) : Int) then (9 : Int) else (((ns.map V.int).length : Nat) : Int)) := by
        rw [hl]
        split <;> omega
      refine ⟨_, rfl, a, _, rfl, .inl hS, _, _, rfl, _, rfl, (by omega), (by omega), for_range (lo := 0) (fun i σ H' => H' = H1 ∧ ∃ (mx : Int) (v : Option V), (0 ≤ mx ∧ mx < 2147483647) ∧ σ = [some (.ref a), some (.int k), some (.int c), some (.int mx), v]) ⟨rfl, _, _, z, rfl⟩ ?_ ?_⟩
      · rintro i σ H' hi ⟨rfl, mx, v, ⟨m0, m1⟩, rfl⟩
        have hi2 : (0 + (i : Int)) < (ns.length : Int) := by omega
        obtain ⟨y, hy⟩ := int_at (ns := ns) (k := 0 + (i : Int)) (by omega) hi2
        refine ⟨_, rfl, _, _, rfl, rfl, ⟨by decide, by decide, by omega⟩, _, rfl, _, rfl, a, _, _, _, rfl, rfl, hS, hy, _, _, rfl, rfl, (by decide : (0 : Int) < 2147483629), _, _, rfl, rfl, _, rfl, _, _, rfl, rfl, .inl ⟨by decide, by decide⟩, _, _, rfl, rfl, _, _, rfl, rfl, (by decide : (0 : Int) < 2147483647), ?_⟩
        exact ⟨rfl, _, _, mod_lt (by decide), rfl⟩
      · rintro σ H' ⟨rfl, mx, v, ⟨m0, m1⟩, rfl⟩
        refine ⟨_, rfl, (by show 2 ≤ sizeLine; decide), fun p np => ?_⟩
        exact q p _ (same_upd np) np ⟨mx, 1, upd_same, .inr ⟨by decide, m0, m1⟩⟩
end
end K1

namespace K1
open PySem PySem.Spec PyProof.Rows L2 Own
/-! ### names drawn -/
def sg (c : Nat) : Str := ⟨#[c]⟩
theorem sg_list (c : Nat) : (sg c).cps.toList = [c] := rfl
theorem abc_at {i : Int} (h0 : 0 ≤ i) (h1 : i < 26) : atI abc.cps.toList i = some (97 + i.toNat) := by
  have h : ∀ d : Fin 26, atI abc.cps.toList ((d.val : Nat) : Int) = some (97 + d.val) := by decide +kernel
  have e : i = ((i.toNat : Nat) : Int) := by omega
  have q := h ⟨i.toNat, by omega⟩
  rw [← e] at q
  exact q
theorem app_list (a b : Str) : (a ++ b).cps.toList = a.cps.toList ++ b.cps.toList := by
  show (a.cps ++ b.cps).toList = _
  rw [Array.toList_append]
theorem len_list (a : Str) : a.length = a.cps.toList.length := by
  show a.cps.size = _
  rw [Array.length_toList]
theorem join_list : ∀ cs : List Nat, (Str.join Str.empty (cs.map sg)).cps.toList = cs
  | [] => rfl
  | [c] => rfl
  | c :: d :: r => by
    have ih := join_list (d :: r)
    show (sg c ++ Str.empty ++ Str.join Str.empty ((d :: r).map sg)).cps.toList = _
    rw [app_list, app_list, ih]
    rfl
theorem cut_lo (z : Str) (a : Nat) (h : a ≤ z.length) : (cutS z none (some ((a : Nat) : Int))).cps.toList = z.cps.toList.take a := by
  unfold cutS
  rw [HT.sIx_none, HT.sIx_nat, List.drop_zero, Nat.sub_zero, Nat.min_eq_left h]
theorem cut_hi (z : Str) (a : Nat) (h : a ≤ z.length) : (cutS z (some ((a : Nat) : Int)) none).cps.toList = z.cps.toList.drop a := by
  unfold cutS
  rw [HT.sIx_none, HT.sIx_nat, Nat.min_eq_left h]
  show (z.cps.toList.drop a).take (z.length - a) = _
  rw [List.take_of_length_le]
  rw [List.length_drop, ← len_list]
  exact Nat.le_refl _
/-- the name that turn k makes -/
def nameK (z : Str) (a b k : Nat) : Str := cutS z none (some ((a : Nat) : Int)) ++ sg (97 + (b + 5 * k) % 26) ++ cutS z (some ((a : Nat) : Int)) none
theorem nameK_list (z : Str) (a b k : Nat) (h : a ≤ z.length) : (nameK z a b k).cps.toList = z.cps.toList.take a ++ (97 + (b + 5 * k) % 26) :: z.cps.toList.drop a := by
  unfold nameK
  rw [app_list, app_list, cut_lo z a h, cut_hi z a h, sg_list, List.append_assoc]
  rfl
theorem nameK_len (z : Str) (a b k : Nat) (h : a ≤ z.length) : (nameK z a b k).length = z.length + 1 := by
  rw [len_list, nameK_list z a b k h, len_list z] at *
  rw [List.length_append, List.length_cons, List.length_take, List.length_drop]
  omega
theorem nameK_one {z : Str} {a b j k : Nat} (h : a ≤ z.length) (hj : j < 8) (hk : k < 8) (e : nameK z a b j = nameK z a b k) : j = k := by
  have q : (nameK z a b j).cps.toList = (nameK z a b k).cps.toList := by rw [e]
  rw [nameK_list z a b j h, nameK_list z a b k h] at q
  have q2 := (List.cons.inj (List.append_cancel_left q)).1
  omega
theorem nameK_ok {z : Str} {a b k : Nat} (h : a ≤ z.length) (h7 : z.length ≤ 7) (hz : ∀ c ∈ z.cps.toList, 97 ≤ c ∧ c ≤ 122) : NameOk (nameK z a b k) := by
  refine ⟨by rw [nameK_len z a b k h]; omega, by rw [nameK_len z a b k h]; omega, fun c hc => ?_⟩
  rw [nameK_list z a b k h] at hc
  rcases List.mem_append.mp hc with q | q
  · exact hz c (List.mem_of_mem_take q)
  · rcases List.mem_cons.mp q with q | q
    · omega
    · exact hz c (List.mem_of_mem_drop q)
/-- drawn names -/
def Drawn (ns : List Str) : Prop := ns.Nodup ∧ ∀ n ∈ ns, NameOk n ∧ n.length ≠ 4
theorem drawn_of {z : Str} {a b : Nat} (m : Nat) (h : a ≤ z.length) (hm : m ≤ 8) (h7 : z.length ≤ 7) (h3 : z.length ≠ 3) (hz : ∀ c ∈ z.cps.toList, 97 ≤ c ∧ c ≤ 122) : Drawn ((List.range m).map (nameK z a b)) := by
  refine ⟨?_, fun n hn => ?_⟩
  · have r : (List.range m).Pairwise (fun j k => j ≠ k ∧ j < 8 ∧ k < 8) := by
      refine List.Pairwise.imp_of_mem (R := fun j k => j ≠ k) (fun ha hb q => ⟨q, ?_, ?_⟩) List.nodup_range
      · have := List.mem_range.mp ha
        omega
      · have := List.mem_range.mp hb
        omega
    exact List.Pairwise.map _ (fun j k q e => q.1 (nameK_one h q.2.1 q.2.2 e)) r
  · obtain ⟨k, hk, rfl⟩ := List.mem_map.mp hn
    exact ⟨nameK_ok h h7 hz, by rw [nameK_len z a b k h]; omega⟩
theorem four {d : Int} (h0 : 0 ≤ d) (h1 : d < 4) : ∃ n : Nat, atI [V.int 0, V.int 1, V.int 2, V.int 7] d = some (V.int (n : Int)) ∧ n ≤ 7 ∧ n ≠ 3 := by
  have c : d = 0 ∨ d = 1 ∨ d = 2 ∨ d = 3 := by omega
  rcases c with e | e | e | e
  · subst e
    exact ⟨0, rfl, by decide, by decide⟩
  · subst e
    exact ⟨1, rfl, by decide, by decide⟩
  · subst e
    exact ⟨2, rfl, by decide, by decide⟩
  · subst e
    exact ⟨7, rfl, by decide, by decide⟩
theorem Keep.put {s p : Addr} {H H' : Hp} {o : HO} (a : Keep s H H') (h : H p = none) : Keep s H (L2.upd H' p o) := fun b x n e => by
  rw [upd_ne (ne_of_none e h)]
  exact a b x n e
theorem Src.put {s p : Addr} {H : Hp} {o : HO} (q : Src H s) (h : p ≠ s) : Src (upd H p o) s := by
  obtain ⟨a, b, z, ok⟩ := q
  exact ⟨a, b, by rw [upd_ne h.symm]; exact z, ok⟩
theorem Src.ne {s p : Addr} {H : Hp} {ss : List Str} (q : Src H s) (h : H p = some (.lst (ss.map V.str))) : p ≠ s := fun e => by
  obtain ⟨a, b, z, _⟩ := q
  rw [e, z] at h
  have h' := HO.lst.inj (Option.some.inj h)
  cases ss with
  | nil => cases h'
  | cons x r => cases h'
def spNames : Sp := fun vs H Q _ => ∃ (s : Addr) (m : Nat), vs = [.ref s, .int (m : Nat)] ∧ Src H s ∧ m ≤ 8 ∧ ∀ H' p ns, Keep s H H' → Src H' s → H p = none → H' p = some (.lst (ns.map V.str)) → ns.length = m → Drawn ns → Q (.ref p) H'
section
variable {P : Program} {w : World} {K : PySem.W.Frag} {mg : Str → Option Value} {base : Heap}
theorem scNames : FnScope ["source", "many", "letters", "base", "at", "begin", "k"] ["source", "many"] (defScope sNames) := ⟨rfl, rfl, rfl, by decide +kernel, rfl, by decide +kernel, by decide +kernel⟩
theorem ok_names {f g : Addr} {fd gd : FuncData} (F : Fun K "_law_random_names" "_law_random_names" sNames f fd) (GD : FnOk P w K mg base CX0 1 g gd ["source", "many"] spDraw) (kD : PySem.W.keepIn K (.ref g) = true) (bD : Binds K gd ["source", "many"] []) (mD : mg "_law_draw" = some (.ref g))
    (mr : mg "range" = none) (ml : mg "len" = none) : FnOk P w K mg base CX0 2 f fd ["source", "many"] spNames := by
  refine F.ok scNames (fun vs H Q E h => ?_) (fun cdv A outer s H vs Q E hr h => ?_)
  · obtain ⟨s, m, rfl, _⟩ := h
    rfl
  · obtain ⟨s, m, rfl, src, m8, k⟩ := h
    refine ⟨_, pss_cons (ps_set (i := 2) scNames.nd rfl (Or.inr rfl) pe_str)
      (pss_cons (ps_set (i := 3) scNames.nd rfl (Or.inr rfl) (pe_join pe_str (pe_lc (own := [("k", 6)]) (g := gName 6) (tt := tYes) rfl scNames.nd
          (pi_range1 (by rfl) mr (pa_cons (pe_ix ix_list (pe_lst (pa_cons pe_int (pa_cons pe_int (pa_cons pe_int (pa_cons pe_int pa_nil))))) (pe_call GD hr (by rfl) mD kD bD .nil pass0 (pa_cons (pv 0) (pa_cons pe_int pa_nil))) (fun _ _ => rfl)) pa_nil))
          (blkOk_by (N := ["source", "many", "letters", "base", "at", "begin", "k"]) (sc := defScope sNames) (by decide +kernel))
          (fun _ _ _ _ _ => pg_name (i := 6) scNames.nd rfl (Or.inl rfl)) (fun _ _ _ _ _ => pts_nil) (fun _ _ _ _ _ => pe_ix ix_str (pv 2) (pe_call GD hr (by rfl) mD kD bD .nil pass0 (pa_cons (pv 0) (pa_cons pe_int pa_nil))) (fun _ _ => rfl)))))
      (pss_cons (ps_set (i := 4) scNames.nd rfl (Or.inr rfl) (pe_call GD hr (by rfl) mD kD bD .nil pass0 (pa_cons (pv 0) (pa_cons (pe_op op_add (pe_callB call_len_str (by rfl) ml PySem.boot_len (pa_cons (pv 3) pa_nil)) pe_int) pa_nil))))
      (pss_cons (ps_set (i := 5) scNames.nd rfl (Or.inr rfl) (pe_call GD hr (by rfl) mD kD bD .nil pass0 (pa_cons (pv 0) (pa_cons pe_int pa_nil))))
      (pss_one (ps_ret (pe_lc (own := [("k", 6)]) (g := gName 6) (tt := tYes) rfl scNames.nd (pi_range1 (by rfl) mr (pa_cons (pv 1) pa_nil))
          (blkOk_by (N := ["source", "many", "letters", "base", "at", "begin", "k"]) (sc := defScope sNames) (by decide +kernel))
          (fun _ _ _ _ _ => pg_name (i := 6) scNames.nd rfl (Or.inl rfl)) (fun _ _ _ _ _ => pts_nil)
          (fun _ _ _ _ _ => pe_op op_add_str (pe_op op_add_str (pe_slice sl_str (pv 3) po_none (po_some (pv 4))) (pe_ix ix_str (pv 2) (pe_op op_mod (pe_op op_add (pv 5) (pe_op op_mul pe_int (pv 6))) pe_int) (fun _ _ => rfl))) (pe_slice sl_str (pv 3) (po_some (pv 4)) po_none)))))))), ?_⟩
    refine ⟨⟨_, rfl⟩, (by show 4 ≤ sizeLine; decide), fun q nq => ?_⟩
    have s0 : Keep s H (upd H q (.lst [.int 0, .int 1, .int 2, .int 7])) := Keep.new (Keep.refl s H) nq
    have sr0 : Src (upd H q (.lst [.int 0, .int 1, .int 2, .int 7])) s := src.new nq
    refine ⟨_, rfl, s, 4, rfl, sr0, (by decide), (by decide), fun d H1 d0 d1 sr1 k1 => ?_⟩
    have kq := s0.trans k1
    have qs : q ≠ s := fun e => by
      obtain ⟨a, b, z, _⟩ := src
      rw [e, z] at nq
      cases nq
    obtain ⟨n, hn, n7, n3⟩ := four d0 d1
    refine ⟨q, _, d, _, rfl, rfl, SqL.of (k1 q _ qs upd_same), hn, _, rfl, (by omega), (by omega), fun D nD => ?_⟩
    have nDH : H D = none := kq.free sr1 nD
    refine lc_range (lo := 0) (n := n) (fun i H' => Keep s H H' ∧ Src H' s ∧ ∃ cs : List Nat, cs.length = i ∧ (∀ c ∈ cs, 97 ≤ c ∧ c ≤ 122) ∧ H' D = some (.lst ((cs.map sg).map V.str))) ⟨kq.new nD, sr1.new nD, [], rfl, (fun _ h => nomatch h), upd_same⟩ ?_ ?_
    · rintro i H' hi ⟨kp, sr, cs, cl, cok, hD⟩
      have Ds : D ≠ s := sr.ne hD
      refine ⟨rfl, _, rfl, _, rfl, s, 26, rfl, sr, (by decide), (by decide), fun c H2 c0 c1 sr2 k2 => ?_⟩
      have hD2 := k2 D _ Ds hD
      refine ⟨abc, c, _, rfl, rfl, (by decide), abc_at c0 c1, _, hD2, ?_, (kp.trans k2).put nDH, ?_, cs ++ [97 + c.toNat], ?_, ?_, ?_⟩
      · rw [List.length_map, List.length_map, cl]
        exact small1000 (by omega)
      · exact sr2.put Ds
      · rw [List.length_append, cl]
        rfl
      · intro e he
        rcases List.mem_append.mp he with h | h
        · exact cok e h
        · rw [List.mem_singleton.mp h]
          omega
      · rw [upd_same, List.map_append, List.map_append]
        rfl
    · rintro H' ⟨kp, sr, cs, cl, cok, hD⟩
      obtain ⟨z, ez⟩ : ∃ z, z = Str.join Str.empty (cs.map sg) := ⟨_, rfl⟩
      have zl : z.cps.toList = cs := by rw [ez, join_list]
      have zn : z.length = n := by rw [len_list, zl, cl]
      have sum1 : ∀ es : List Nat, ((es.map sg).map (·.length)).sum = es.length := fun es => by
        induction es with
        | nil => rfl
        | cons x r ih =>
          show 1 + ((r.map sg).map (·.length)).sum = r.length + 1
          rw [ih, Nat.add_comm]
      have el : ("" : Str).length = 0 := rfl
      refine ⟨_, D, cs.map sg, rfl, rfl, .inl (SqL.of hD), ?_, ?_⟩
      · rw [sum1, List.length_map, el]
        omega
      rw [txt_join, show Str.join ("" : Str) (cs.map sg) = z from ez.symm]
      refine ⟨_, rfl, _, rfl, z, rfl, (by rw [sizeLine_eq]; omega), _, _, rfl, rfl, s, _, rfl, sr, (by omega), (by omega), fun d2 H2 e0 e1 sr2 k2 => ?_⟩
      obtain ⟨at_, eat⟩ : ∃ a : Nat, d2 = (a : Int) := ⟨d2.toNat, by omega⟩
      subst eat
      refine ⟨_, rfl, s, _, rfl, sr2, (by decide), (by decide), fun d3 H3 b0 b1 sr3 k3 => ?_⟩
      obtain ⟨be, ebe⟩ : ∃ a : Nat, d3 = (a : Int) := ⟨d3.toNat, by omega⟩
      subst ebe
      have k13 := (kp.trans k2).trans k3
      have zz : z.length ≤ sizeLine := by rw [sizeLine_eq]; omega
      have z4 : z.length ≤ 7 := by omega
      refine ⟨_, rfl, (m : Int), rfl, (by omega), (by omega), fun D2 nD2 => ?_⟩
      have nD2H : H D2 = none := k13.free sr3 nD2
      have al : at_ ≤ z.length := by omega
      refine lc_range (lo := 0) (n := m) (fun i H' => Same H3 H' ∧ H' D2 = some (.lst (((List.range i).map (nameK z at_ be)).map V.str))) ⟨same_upd nD2, upd_same⟩ ?_ ?_
      · rintro i H4 hi ⟨sm, hD4⟩
        have ix : atI abc.cps.toList (((be : Int) + 5 * (0 + (i : Int))) % 26) = some (97 + (be + 5 * i) % 26) := by
          rw [abc_at (Int.emod_nonneg _ (by decide)) (Int.emod_lt_of_pos _ (by decide))]
          congr 1
          omega
        have c1 := cutS_length z none (some ((at_ : Nat) : Int))
        have c2 := cutS_length z (some ((at_ : Nat) : Int)) none
        have c3 : (sg (97 + (be + 5 * i) % 26)).length = 1 := rfl
        refine ⟨rfl, _, rfl, _, rfl, _, rfl, z, rfl, zz, _, rfl, _, rfl, _, rfl, _, _, rfl, rfl, .inl ⟨by decide, by decide⟩, _, _, rfl, rfl, _, _, rfl, rfl, (by decide : (0 : Int) < 26), abc, _, _, rfl, rfl, (by decide), ix, _, _, rfl, rfl, ?_, _, rfl, _, rfl, _, rfl, z, rfl, zz, _, _, rfl, rfl, ?_, _, hD4, ?_, ?_, ?_⟩
        · rw [sizeLine_eq]
          show (cutS z none (some ((at_ : Nat) : Int))).length + 1 ≤ _
          omega
        · rw [sizeLine_eq, Str.length_append]
          show (cutS z none (some ((at_ : Nat) : Int))).length + 1 + (cutS z (some ((at_ : Nat) : Int)) none).length ≤ _
          omega
        · rw [List.length_map, List.length_map, List.length_range]
          exact small1000 (by omega)
        · exact same_past nD2 sm
        · rw [upd_same, List.range_succ, List.map_append, List.map_append]
          rfl
      · rintro H4 ⟨sm, hD4⟩
        refine k H4 D2 _ (k13.trans (.of sm)) (sr3.same sm) nD2H hD4 ?_ ?_
        · rw [List.length_map, List.length_range]
        · exact drawn_of m al m8 z4 (by omega) (by rw [zl]; exact cok)
end
end K1

namespace K1
open PySem PySem.Spec PyProof.Rows L2 Own
/-! ### rows drawn -/
def LinAt (H : Hp) (v : V) (l : Ln) : Prop := ∃ t b, v = .ref t ∧ H t = some (.tup [.str l.1, .ref b]) ∧ H b = some (.tup (l.2.map V.str))
def LinsAt (H : Hp) (a : Addr) (ls : List Ln) : Prop := ∃ vs, H a = some (.lst vs) ∧ Paired (LinAt H) vs ls
theorem LinAt.same {H H' : Hp} {v : V} {l : Ln} (h : LinAt H v l) (k : ∀ a xs, H a = some (.tup xs) → H' a = some (.tup xs)) : LinAt H' v l := by
  obtain ⟨t, b, e, h1, h2⟩ := h
  exact ⟨t, b, e, k _ _ h1, k _ _ h2⟩
theorem LinsAt.keep {H H' : Hp} {a : Addr} {ls : List Ln} (h : LinsAt H a ls) (k : ∀ b xs, H b = some (.tup xs) → H' b = some (.tup xs)) (ka : ∀ xs, H a = some (.lst xs) → H' a = some (.lst xs)) : LinsAt H' a ls := by
  obtain ⟨vs, h1, h2⟩ := h
  exact ⟨vs, ka _ h1, paired_imp (fun _ _ q => q.same k) h2⟩
theorem LinsAt.same {H H' : Hp} {a : Addr} {ls : List Ln} (h : LinsAt H a ls) (s : Same H H') : LinsAt H' a ls := h.keep (fun _ _ e => s _ _ e) fun _ e => s _ _ e
theorem LinsAt.rows {H : Hp} {a : Addr} {ls : List Ln} (h : LinsAt H a ls) : RowsAt H a ls := by
  obtain ⟨vs, h1, h2⟩ := h
  exact ⟨vs, .inl h1, paired_imp (fun _ _ ⟨t, b, e, z1, z2⟩ => ⟨t, b, e, z1, .inr z2⟩) h2⟩
theorem Src.neL {s p : Addr} {H H0 : Hp} {rs : List V} {ls : List Ln} (q : Src H s) (h : H p = some (.lst rs)) (pl : Paired (LinAt H0) rs ls) : p ≠ s := fun e => by
  obtain ⟨a, b, z, _⟩ := q
  rw [e, z] at h
  have h' := HO.lst.inj (Option.some.inj h)
  subst h'
  cases pl with
  | cons c r =>
    obtain ⟨t, b, e, _⟩ := c
    cases e
theorem four2 {d : Int} (h0 : 0 ≤ d) (h1 : d < 4) : ∃ n : Nat, atI [V.int 0, V.int 1, V.int 1, V.int 2] d = some (V.int (n : Int)) ∧ n ≤ 2 := by
  have c : d = 0 ∨ d = 1 ∨ d = 2 ∨ d = 3 := by omega
  rcases c with e | e | e | e
  · subst e
    exact ⟨0, rfl, by decide⟩
  · subst e
    exact ⟨1, rfl, by decide⟩
  · subst e
    exact ⟨1, rfl, by decide⟩
  · subst e
    exact ⟨2, rfl, by decide⟩
theorem cutV_lo (xs : List V) (k : Nat) (h : k ≤ xs.length) : cutV xs none (some ((k : Nat) : Int)) = xs.take k := by
  unfold cutV
  rw [HT.sIx_none, HT.sIx_nat, Nat.min_eq_left h]
  rfl
theorem ne_nil_eq (xs : List Str) : (!PyData.eqv (strsD xs) (strsD [])) = !decide (xs = []) := by
  cases xs with
  | nil => rfl
  | cons x r => rfl
theorem erase_map : ∀ (xs : List Str) (u : Nat), (xs.map V.str).eraseIdx u = (xs.eraseIdx u).map V.str
  | [], _ => rfl
  | x :: r, 0 => rfl
  | x :: r, u + 1 => by
    show V.str x :: (r.map V.str).eraseIdx u = V.str x :: (r.eraseIdx u).map V.str
    rw [erase_map r u]
theorem erase_perm : ∀ (xs : List Str) (u : Nat) (h : u < xs.length), (xs[u] :: xs.eraseIdx u).Perm xs
  | x :: r, 0, _ => .refl _
  | x :: r, u + 1, h => by
    have ih := erase_perm r u (Nat.lt_of_succ_lt_succ h)
    show (r[u]'(Nat.lt_of_succ_lt_succ h) :: x :: r.eraseIdx u).Perm (x :: r)
    exact (List.Perm.swap ..).trans (List.Perm.cons x ih)
/-- the rows so far -/
structure Far (ns : List Str) (i : Nat) (ls : List Ln) : Prop where
  nms : nms ls = ns.take i
  base : ∀ (j : Nat) l, ls[j]? = some l → l.2.Nodup ∧ (∀ b ∈ l.2, b ∈ ns.take j) ∧ l.2.length ≤ 7
theorem Far.ok {ns : List Str} {ls : List Ln} (f : Far ns ns.length ls) (d : Drawn ns) (h7 : ns.length ≤ 7) : LnsOk ls := by
  have e : K1.nms ls = ns := by rw [f.nms, List.take_of_length_le (Nat.le_refl _)]
  refine ⟨fun l hl => ?_, by rw [e]; exact d.1, ?_, fun j l hl => ?_⟩
  · have q : l.1 ∈ ns := by
      rw [← e]
      exact List.mem_map.mpr ⟨l, hl, rfl⟩
    exact (d.2 _ q).1
  · have q : (K1.nms ls).length = ns.length := by rw [e]
    rw [List.length_map] at q
    omega
  · obtain ⟨a, b, c⟩ := f.base j l hl
    refine ⟨a, fun x hx => ?_, c⟩
    rw [show K1.nms (ls.take j) = (K1.nms ls).take j from List.map_take .., e]
    exact b x hx
def spLines : Sp := fun vs H Q _ => ∃ (s a : Addr) (ns : List Str), vs = [.ref s, .ref a] ∧ Src H s ∧ H a = some (.lst (ns.map V.str)) ∧ ns.length ≤ 7 ∧ Drawn ns ∧ ∀ H' p ls, Keep s H H' → Src H' s → LinsAt H' p ls → nms ls = ns → LnsOk ls → Q (.ref p) H'
section
variable {P : Program} {w : World} {K : PySem.W.Frag} {mg : Str → Option Value} {base : Heap}
end
end K1

namespace K1
open PySem PySem.Spec PyProof.Rows L2 Own
/-! ### what stands above, reckoned by the law -/
abbrev Any1 (y : List Str) : Prop := True
abbrev All1 (a : Addr) : Prop := True
def spOver : Sp := fun vs H Q _ => ∃ r ls, vs = [.ref r] ∧ LinsAt H r ls ∧ LnsOk ls ∧ ∀ H' d T, Same H H' → DictAt All1 H' d T → Tab Any1 ls T → Q (.ref d) H'
theorem more_nd {o y : List Str} (no : o.Nodup) (ny : y.Nodup) : (o ++ y.filter fun x => decide (x ∉ o)).Nodup := by
  refine List.nodup_append.mpr ⟨no, ny.sublist List.filter_sublist, fun a ha b hb e => ?_⟩
  have q := (List.mem_filter.mp hb).2
  exact of_decide_eq_true q (e ▸ ha)
theorem more_mem {o y : List Str} {x : Str} : x ∈ o ++ (y.filter fun x => decide (x ∉ o)) ↔ x ∈ o ∨ x ∈ y := by
  rw [List.mem_append, List.mem_filter]
  by_cases h : x ∈ o
  · exact ⟨fun _ => .inl h, fun _ => .inl h⟩
  · constructor
    · rintro (q | ⟨q, _⟩)
      · exact .inl q
      · exact .inr q
    · rintro (q | q)
      · exact .inl q
      · exact .inr ⟨q, decide_eq_true h⟩
section
variable {P : Program} {w : World} {K : PySem.W.Frag} {mg : Str → Option Value} {base : Heap}
end
end K1

namespace Own
open PySem PySem.Spec PyProof.Rows L2
/-! a def's promise where it is known that no repr is under way -/
def Calm (A : Around) : Prop := A.guards = some []
theorem Calm.deeper {A : Around} (h : Calm A) (env : Env) : Calm (A.deeper env) := h
theorem Calm.in1 {A : Around} (h : Calm A) : Calm A.in1 := h
structure FnG (P : Program) (w : World) (K : PySem.W.Frag) (mg : Str → Option Value) (base : Heap) (k : Nat) (f : Addr) (fd : FuncData) (ps : List Str) (sp : Sp) : Prop where
  len : ∀ vs H Q E, sp vs H Q E → vs.length = ps.length
  run : ∀ (A : Around) (out : List Env) (s : Shared) (H : Hp) (args : Args) (us : List Value) (vs : List V) (Q : VK) (E : XK), Calm A → Room k A → Env0 P w K mg base A out s H → BindsTo s fd args (ps.zip us) → Vals vs us → sp vs H Q E →
    codeAny (model P w) A (.call (.ref f) args) (CR CX0 out P w H s Q E) s
section
variable {P : Program} {w : World} {K : PySem.W.Frag} {mg : Str → Option Value} {base : Heap} {j k : Nat} {f : Addr} {fd : FuncData} {ps : List Str} {sp : Sp}
theorem fnG_ok (F : FnOk P w K mg base CX0 k f fd ps sp) : FnG P w K mg base k f fd ps sp :=
  ⟨F.len, fun A out s H args us vs Q E _ hr e0 hb r h => F.run A out s H args us vs Q E hr e0 hb r h⟩
theorem FnG.mono (F : FnG P w K mg base j f fd ps sp) (h : j ≤ k) : FnG P w K mg base k f fd ps sp :=
  ⟨F.len, fun A out s H args us vs Q E c hr => F.run A out s H args us vs Q E c (hr.mono h)⟩
end
section
variable {X : Cx} {k : Nat} {f : Addr} {fd : FuncData} {ps : List Str} {sp : Sp} {ds : List Value} {dvs : List V} {E : XK} {x : Str} {p pos : Pos} {e : Expr} {es : List Expr} {t : TA}
theorem run_g {pins : List (Addr × Obj)} {σ : L2.St} {H : Hp} {s : Shared} {Q : VK} {us : List Value} {vs : List V} (F : FnG X.prog X.w X.K X.mg X.base k f fd ps sp) (hc : Calm X.A) (hr : Room k X.A) (hb : Binds X.K fd ps []) (I : Inv X pins σ H s) (r : Vals vs us) (h : sp vs H Q E) :
    wpAny (model X.prog X.w) X.A (call (.ref f) us) (EP X pins σ Q) X.xe s := by
  have hl : us.length = ps.length := r.length.symm.trans (F.len _ _ _ _ h)
  have b := hb s us I.kIn (by rw [List.append_nil]; exact hl)
  rw [List.append_nil] at b
  refine wpAny_call (codeAny_mono (F.run X.A X.stack s H ⟨us, []⟩ us vs Q E hc hr I.env0 b r h) fun z s' hz => ?_)
  match z, hz with
  | .error _, hz => exact hz.elim
  | .ok (.ret _), hz => exact I.after hz
  | .ok .next, hz => exact hz.elim
  | .ok .brk, hz => exact hz.elim
  | .ok .cont, hz => exact hz.elim
theorem pe_callG (F : FnG X.prog X.w X.K X.mg X.base k f fd ps sp) (hc : Calm X.A) (hr : Room k X.A) (hg : Gl X x) (hm : X.mg x = some (.ref f)) (hk : PySem.W.keepIn X.K (.ref f) = true) (hb : Binds X.K fd ps []) (ha : PA X (e :: es) t)
    (hdb : (x == ("__debug__" : Str)) = false := by decide) (hst : starEach (e :: es) X.env = (false, eval e X.env) :: starEach es X.env := by rfl) (hno : (backTo pos (starEach es X.env)).any (·.1) = false := by rfl) :
    PE X (.Call (.Name x p) (e :: es) [] pos) (tCall sp [] E t) := by
  refine ⟨fun pins s σ H Q I q => wpAny_Call_Name_kw (ld_glob I hg hm (PySem.W.callWith_K (h₀ := X.base) I.ok.mod.kin hk (thn (ha.run pos pins s σ H _ I q) fun us s1 hq => ?_) hst hno) hdb)⟩
  obtain ⟨vs, H1, I1, r1, q1⟩ := hq
  rw [List.append_nil] at q1
  exact ⟨I1.kIn, run_g F hc hr hb I1 r1 q1⟩
end
theorem okG {P : Program} {w : World} {K : PySem.W.Frag} {mg : Str → Option Value} {base : Heap} {x qual : Str} {st : Stmt} {f : Addr} {fd : FuncData} {N ps : List Str} {k : Nat} {sp : Sp} (F : Fun K x qual st f fd) (S : FnScope N ps (defScope st)) (len : ∀ vs H Q E, sp vs H Q E → vs.length = ps.length)
    (hbody : ∀ (cdv : Value) (A : Around) (out : List Env) (s : Shared) (H : Hp) (vs : List V) (Q : VK) (E : XK), Calm (A.deeper (envOfC qual (defScope st) s.heap.objs.size f cdv)) → Room k (A.deeper (envOfC qual (defScope st) s.heap.objs.size f cdv)) → sp vs H Q E →
      ∃ t, PSs (cxOf CX0 P w K mg base N qual (defScope st) f cdv A out s H E).nox (defBody st) t ∧ t { nx := fun _ H' => Q .non H', rt := Q } (start N vs) H) : FnG P w K mg base (k + 1) f fd ps sp := by
  obtain ⟨oc, od, kV, doc, pm, an, cdv, ct, osl, rfl, lk, hcd⟩ := F.ex
  refine ⟨len, fun A out s H args us vs Q E hc hr e0 hb r h => ?_⟩
  have kin := e0.mod.kin.keeps fun b o q => (e0.bs b o q).1
  have nolim := e0.mod.nolimit.keeps fun b o q => (e0.bs b o q).1
  have names : ∀ y ∈ ps.zip us, (defScope st).names.lookup y.1 = some .local ∨ ((defScope st).names.lookup y.1 = some .cell ∧ ((cellsFrom (s.heap.objs.size + 1) (defScope st).names []).lookup y.1).isSome = true) := fun y hy =>
    (S.par y.1 (List.of_mem_zip (a := y.1) (b := y.2) hy).1).imp id fun q => ⟨q, PySem.W.cellsFrom_some _ _ _ (.inl q)⟩
  refine codeAny_call_function hr.depth (kin _ _ lk) rfl S.co S.gen rfl (PySem.W.codeRec_of kin hcd) (hb _ _ _ _ (wpAny_newFunctionEnv_cells S.kind names fun env he s1 c => ?_))
  subst he
  obtain ⟨t, ht, q⟩ := hbody cdv A out s H vs Q E (hc.deeper _) (hr.deeper _) h
  refine ⟨nolim.keeps c.toInCall.keep, codeAny_func (wpAny_mono (ht.nox.run [] s1 (start N vs) H _ (inv_start S hr.hd e0 (len _ _ _ _ h) r c) q) (fun fl s' z => ?_) fun _ _ z => z)⟩
  match fl, z with
  | .ret u, ⟨v, σ', H', J, rv, q⟩ => exact ⟨v, H', J.os, J.bare, J.base, J.hok, rv, q⟩
  | .next, ⟨σ', H', J, q⟩ => exact ⟨V.non, H', J.os, J.bare, J.base, J.hok, rfl, q⟩
  | .brk, ⟨_, _, _, q⟩ => exact q.elim
  | .cont, ⟨_, _, _, q⟩ => exact q.elim
end Own

namespace Own
open PySem PySem.Spec PyProof.Rows L2
/-! the end of a law whose promise asks that no repr is under way -/
section
variable {P : Program} {w : World} {K : PySem.W.Frag} {mg mb : Str → Option Value} {k : Nat} {fa a : Addr} {fd : FuncData} {x : Str} {sp : Sp} {s : Shared} {vs : List Value} {ns : List Int}
def scriptObj (vs : List Value) : Obj := { cls := .type "list", data := .seq vs.toArray }
/-- from a heap in which at most the script is tracked -/
theorem end_from {H : Hp} (kin : K.In s.heap) (hns : s.heap.Ns mainGlobals mg) (hb : s.heap.Ns builtinsNs mb) (hbb : ∀ x : Str, x ≠ "__name__" → mb x = bootBuiltins x) (nl : s.heap.NoLimit) (hg : s.gens = #[])
    (ha : s.heap.get? a = some (scriptObj vs)) (only : ∀ b, H b = none ∨ b = a ∧ H b = some (.frz (scriptObj vs) (.lst (ns.map V.int)))) (out : H a ≠ none → K.lookup a = none) (hok : HOk P w H s.heap) (hr : Room k callerA)
    (F : ∀ base : Heap, K.In base → base.Ns mainGlobals mg → FnG P w K mg base k fa fd [x] sp) (bind : ∀ (s : Shared) (u : Value), BindsTo s fd ⟨[u], []⟩ [(x, u)]) (q : sp [.ref a] H (fun v _ => v = .bl true) fun _ _ _ => False) :
    codeAny (model P w) callerA (.call (.ref fa) ⟨[.ref a], []⟩) (fun r z => r = .ok (.ret (.bool true)) ∧ OldK s.heap z.heap ∧ z.os = s.os ∧ AllBare z.gens) s := by
  have away : ∀ {b : Addr} {o : Obj}, s.heap.get? b = some o → (H b ≠ none → o ≠ scriptObj vs) → H b = none := fun {b o} e n => by
    rcases only b with z | ⟨z1, z2⟩
    · exact z
    · subst z1
      rw [ha] at e
      exact absurd (Option.some.inj e).symm (n (by rw [z2]; exact fun c => nomatch c))
  have put : ∀ {b : Addr} {m : Str → Option Value}, s.heap.Ns b m → (hidT s.heap H).Ns b m := fun ⟨o, es, ep, e, d, r⟩ => ⟨o, es, ep, hidT_get e (away e fun _ c => by
    rw [c] at d
    exact nomatch d), d, r⟩
  have kinB : K.In (hidT s.heap H) := fun b o e => hidT_get (kin b o e) (by
    cases c : H b with
    | none => rfl
    | some u =>
      rcases only b with z | ⟨z, _⟩
      · rw [z] at c
        cases c
      · subst z
        rw [out (by rw [c]; exact fun h => nomatch h)] at e
        cases e)
  obtain ⟨mc, n1, n2⟩ := nl
  have env : Env0 P w K mg (hidT s.heap H) callerA [] s H :=
    ⟨rfl, ⟨kinB, put hns, ⟨mb, put hb, hbb⟩, ⟨mc, put n1, n2⟩⟩, fun _ _ e => of_hidT e, Nat.le_of_eq (hidT_size _ _), trivial, (fun b h => nomatch (show b ∈ ([] : List Addr) from h)), hok, .of_eq hg⟩
  refine codeAny_mono ((F _ kinB (put hns)).run callerA [] s H ⟨[.ref a], []⟩ [.ref a] [.ref a] _ _ rfl hr env (bind s (.ref a)) (.cons rfl .nil) q) fun r z hz => ?_
  match r, hz with
  | .error _, hz => exact hz.elim
  | .ok .next, hz => exact hz.elim
  | .ok .brk, hz => exact hz.elim
  | .ok .cont, hz => exact hz.elim
  | .ok (.ret u), ⟨v, H', os, bare, un, hok', rv, qv⟩ =>
    have qv' : v = .bl true := qv
    subst qv'
    have ru : u = Value.bool true := rv
    subst ru
    refine ⟨rfl, OldK.of_keep fun b o e => ?_, os, bare⟩
    rcases only b with z1 | ⟨z1, z2⟩
    · exact un.keep b o e z1 (fun h => nomatch (show b ∈ ([] : List Addr) from h)) (fun h => nomatch h)
    · obtain ⟨e1, _⟩ := hok b _ z2
      obtain ⟨e2, _⟩ := hok' b _ (un.frzs b _ _ z2)
      have e3 := e1.symm.trans e
      cases e3
      exact e2
theorem end_call (kin : K.In s.heap) (hns : s.heap.Ns mainGlobals mg) (hb : s.heap.Ns builtinsNs mb) (hbb : ∀ x : Str, x ≠ "__name__" → mb x = bootBuiltins x) (nl : s.heap.NoLimit) (hg : s.gens = #[])
    (ha : s.heap.get? a = some (scriptObj vs)) (hi : IntsAre vs ns) (hl : ns.length ≤ sizeLine) (hr : Room k callerA)
    (F : ∀ base : Heap, K.In base → base.Ns mainGlobals mg → FnG P w K mg base k fa fd [x] sp) (bind : ∀ (s : Shared) (u : Value), BindsTo s fd ⟨[u], []⟩ [(x, u)]) (q : ∀ H : Hp, SqL K H a (ns.map V.int) → sp [.ref a] H (fun v _ => v = .bl true) fun _ _ _ => False) :
    codeAny (model P w) callerA (.call (.ref fa) ⟨[.ref a], []⟩) (fun r z => r = .ok (.ret (.bool true)) ∧ OldK s.heap z.heap ∧ z.os = s.os ∧ AllBare z.gens) s := by
  have rv := vals_ints hi
  have lv := hi.length
  by_cases c : K.lookup a = none
  · have at1 : ∀ b, (fun b => if b = a then some (HO.frz (scriptObj vs) (.lst (ns.map V.int))) else none) b = none ∨ b = a ∧ (fun b => if b = a then some (HO.frz (scriptObj vs) (.lst (ns.map V.int))) else none) b = some (.frz (scriptObj vs) (.lst (ns.map V.int))) := fun b => by
      by_cases e : b = a
      · exact .inr ⟨e, if_pos e⟩
      · exact .inl (if_neg e)
    refine end_from (H := fun b => if b = a then some (.frz (scriptObj vs) (.lst (ns.map V.int))) else none) kin hns hb hbb nl hg ha at1 (fun _ => c) (fun b u z => ?_) hr F bind (q _ (.inl (.inr ⟨scriptObj vs, if_pos rfl⟩)))
    rcases at1 b with e | ⟨e1, e2⟩
    · have z2 := e.symm.trans z
      cases z2
    · have z2 := e2.symm.trans z
      cases z2
      subst e1
      exact ⟨ha, by rw [List.length_map]; exact hl, vs, _, rv, ha⟩
  · obtain ⟨o, ho⟩ := Option.ne_none_iff_exists'.mp c
    have e := (kin a o ho).symm.trans ha
    cases e
    exact end_from (ns := ns) (H := fun _ => none) kin hns hb hbb nl hg ha (fun _ => .inl rfl) (fun z => absurd rfl z) (fun b u z => nomatch z) hr F bind (q _ (.inr ⟨_, vs.toArray, _, ho, rfl, rfl, rfl, by rw [List.size_toArray, lv]; exact hl, by simpa using rv⟩))
end
theorem walk_ofG {l : PySem.W.OpenLaw} {n k : Nat} {q : Program} {loose : List Str} {XP : (Str → Option Value) → Heap → Prop} {YP : World → Heap → Prop} {d : DefRec} {K : Params → PySem.W.Frag} {sp : World → Sp} {x : Str} (hn : l.most = some n) (hn2 : n ≤ sizeLine) (hdf : d.params.defaults = []) (hr : Room k callerA)
    (hY : ∀ (w : World) (h : Heap), YP w h → (K w.params).In h)
    (F : ∀ (w : World) (mg : Str → Option Value) (fa : Addr) (h : Heap), (K w.params).In h → h.Ns mainGlobals mg → mg d.name = some (.ref fa) → ∃ fd : FuncData, (∀ (s : Shared) (u : Value), BindsTo s fd ⟨[u], []⟩ [(x, u)]) ∧ ∀ base : Heap, (K w.params).In base → base.Ns mainGlobals mg → FnG l.prog w (K w.params) mg base k fa fd [x] (sp w))
    (hsp : ∀ (w : World) (H : Hp) (a : Addr) (ns : List Int), ns.length ≤ n → SqL (K w.params) H a (ns.map V.int) → sp w [.ref a] H (fun v _ => v = .bl true) fun _ _ _ => False) : PySem.W.WalkO q loose XP YP l.row.toRowW d [] (fun f vs => PySem.call f vs) := by
  refine Att.attach_call hn hdf fun w s0 s1 mg mb fa o pm cd doc a vs ns G Y ho hd hcd hmg hobj hints hlen hg => ?_
  have kin := hY w _ Y
  obtain ⟨fd, bind, hF⟩ := F w mg fa _ kin G.T.g hmg
  exact end_call kin G.T.g G.T.b G.T.builtins G.T.nolimit hg hobj hints (Nat.le_trans hlen hn2) hr hF bind fun H hS => hsp w H a ns hlen hS
end Own

namespace Own
open PySem PySem.Spec PyProof.Rows L2
/-! data: what a value reads as -/
theorem Same.rd {H H' : Hp} {a : Addr} {o : HO} (s : Same H H') (h : Rd H a o) : Rd H' a o := h.elim (fun e => .inl (s _ _ e)) fun ⟨b, e⟩ => .inr ⟨b, s _ _ e⟩
theorem Same.tup {K : PySem.W.Frag} {H H' : Hp} {a : Addr} {xs : List V} (s : Same H H') (h : SqT K H a xs) : SqT K H' a xs := h.elim (fun e => .inl (Same.rd s e)) .inr
section
variable {K : PySem.W.Frag} {H H' : Hp}
mutual
theorem dp_same (s : Same H H') : ∀ {v : V} {d : PyData}, Dp K H v d → Dp K H' v d
  | _, _, .non => .non
  | _, _, .bl b => .bl b
  | _, _, .int i => .int i
  | _, _, .str z => .str z
  | _, _, .lst h a => .lst (s.seq h) (dpAll_same s a)
  | _, _, .tup h a => .tup (Same.tup s h) (dpAll_same s a)
theorem dpAll_same (s : Same H H') : ∀ {vs : List V} {ds : List PyData}, DpAll K H vs ds → DpAll K H' vs ds
  | _, _, .nil => .nil
  | _, _, .cons a r => .cons (dp_same s a) (dpAll_same s r)
end
theorem dpAll_len : ∀ {vs : List V} {ds : List PyData}, DpAll K H vs ds → vs.length = ds.length
  | _, _, .nil => rfl
  | _, _, .cons _ r => by rw [List.length_cons, List.length_cons, dpAll_len r]
theorem dpAll_at : ∀ {vs : List V} {ds : List PyData}, DpAll K H vs ds → ∀ {i : Nat} {v : V}, vs[i]? = some v → ∃ d, ds[i]? = some d ∧ Dp K H v d
  | _, _, .nil, i, v, e => by simp at e
  | _, _, .cons a r, 0, v, e => ⟨_, rfl, by
    have z := Option.some.inj e
    rw [← z]
    exact a⟩
  | _, _, .cons a r, i + 1, v, e => dpAll_at r (i := i) (by simpa using e)
theorem dpAll_at' : ∀ {vs : List V} {ds : List PyData}, DpAll K H vs ds → ∀ {i : Nat} {d : PyData}, ds[i]? = some d → ∃ v, vs[i]? = some v ∧ Dp K H v d
  | _, _, .nil, i, v, e => by simp at e
  | _, _, .cons a r, 0, v, e => ⟨_, rfl, by
    have z := Option.some.inj e
    rw [← z]
    exact a⟩
  | _, _, .cons a r, i + 1, v, e => dpAll_at' r (i := i) (by simpa using e)
theorem dpAll_app : ∀ {vs ws : List V} {ds es : List PyData}, DpAll K H vs ds → DpAll K H ws es → DpAll K H (vs ++ ws) (ds ++ es)
  | _, _, _, _, .nil, b => b
  | _, _, _, _, .cons a r, b => .cons a (dpAll_app r b)
theorem dpAll_take : ∀ {vs : List V} {ds : List PyData} (n : Nat), DpAll K H vs ds → DpAll K H (vs.take n) (ds.take n)
  | _, _, 0, _ => by
    rw [List.take_zero, List.take_zero]
    exact .nil
  | _, _, n + 1, .nil => .nil
  | _, _, n + 1, .cons a r => .cons a (dpAll_take n r)
theorem dpAll_drop : ∀ {vs : List V} {ds : List PyData} (n : Nat), DpAll K H vs ds → DpAll K H (vs.drop n) (ds.drop n)
  | _, _, 0, a => a
  | _, _, n + 1, .nil => .nil
  | _, _, n + 1, .cons a r => dpAll_drop n r
theorem dpAll_rev {vs : List V} {ds : List PyData} (h : DpAll K H vs ds) : DpAll K H vs.reverse ds.reverse := by
  induction vs generalizing ds with
  | nil =>
    cases h
    exact .nil
  | cons v r ih =>
    cases h with
    | cons a b =>
      rw [List.reverse_cons, List.reverse_cons]
      exact dpAll_app (ih b) (.cons a .nil)
/-- the built-in type of data -/
def tyD : PyData → String
  | .none => "NoneType"
  | .bool _ => "bool"
  | .int _ => "int"
  | .str _ => "str"
  | .list _ => "list"
  | .tuple _ => "tuple"
  | .dict _ => "dict"
theorem dp_ty {v : V} {d : PyData} (h : Dp K H v d) : TyX K H v (.type (tyD d)) := by
  cases h with
  | non => exact .base .non
  | bl b => exact .base (.bl b)
  | int i => exact .base (.int i)
  | str z => exact .base (.str z)
  | lst h _ =>
    rcases h with (h | ⟨o, h⟩) | ⟨o, _, _, h, c, _⟩
    · exact .base (.lst h)
    · exact .base (.frz h)
    · exact .kList h c
  | tup h _ =>
    rcases h with (h | ⟨o, h⟩) | ⟨o, _, _, h, c, _⟩
    · exact .base (.tup h)
    · exact .fTuple h
    · exact .kTuple h c
end
section
variable {X : Cx}
/-- repr of data -/
theorem call_reprD (hc : Calm X.A) (hr : Room 1 X.A) : CallR X (.builtin "repr") (fun xs H Q => ∃ v d, xs = [v] ∧ Dp X.K H v d ∧ d.showable = true ∧ d.canLay0 = true ∧ d.depth ≤ 100 ∧ d.shown.length ≤ sizeLine ∧ Q (.str d.shown) H) := by
  intro pins s σ H xs us Q I r h
  obtain ⟨v, d, rfl, hd, hs, hl, hp, hz, q⟩ := h
  obtain ⟨u, rfl, ru⟩ := vals1 r
  obtain ⟨as, rd⟩ := Dp.reads I d v u hd ru
  have hu : X.A.units + (d.depth + 1) < cLine := by have := hr.un; omega
  have fin : ∀ h' t tk, (∀ b o, s.heap.get? b = some o → h'.get? b = some o) → EP X pins σ Q (.str d.shown t) { s with heap := h', toks := tk } := fun h' t tk k => ⟨.str d.shown, H, I.kept (t' := tk) k, ⟨_, rfl⟩, q⟩
  cases hd with
  | non =>
    cases ru
    exact PySem.P.repr_of_none (fin _ _ _ fun _ _ e => e)
  | bl b =>
    cases ru
    exact PySem.P.repr_of_bool (fin _ _ _ fun _ _ e => e)
  | int i =>
    obtain ⟨t, rfl⟩ := ru
    exact PySem.P.repr_of_int (of_decide_eq_true hs) (fin _ _ _ fun _ _ e => e)
  | str z =>
    obtain ⟨t, rfl⟩ := ru
    exact PySem.P.repr_of_str (fin _ _ _ fun _ _ e => e) hz
  | lst h a =>
    cases ru
    exact repr_of_reads' rd hs (PyData.noDict_hsm (PyData.hasDict_of_canLay _ hl)) hc hu (fun _ _ e => e) fin hz
  | tup h a =>
    cases ru
    exact repr_of_reads' rd hs (PyData.noDict_hsm (PyData.hasDict_of_canLay _ hl)) hc hu (fun _ _ e => e) fin hz
end
end Own

namespace Own
open PySem PySem.Spec PyProof.Rows L2
/-! xs.extend(t), t a tuple -/
theorem extend_tup (l : Addr) (its : Array Value) (n : Nat) (b : Addr) (ts : Array Value) (m : Nat) (od : Option Addr) (sl : Array (Option Value)) (h0 : ¬(!its.isEmpty && Builtin.List.listTooLong (its.size + ts.size)) = true) (h1 : its.size ≤ sizeLine) (h2 : its.size + ts.size ≤ sizeLine + 1) :
    Meets (Builtin.«list.extend» ⟨[.ref l, .ref b], []⟩) (fun _ R s => s.heap.get? l = some { cls := .type "list", dict := none, data := .seq its n, slots := #[] } ∧ s.heap.get? b = some { cls := .type "tuple", dict := od, data := .seq ts m, slots := sl } ∧
      R (.ok (.ret Value.none)) { s with heap := s.heap.update l (Obj.mapSeq fun x => x ++ ts), toks := s.toks }) := by
  refine .of_wp fun prog w A R s h => ?_
  obtain ⟨hp, g, d, tk, os⟩ := s
  obtain ⟨hl, hb, h⟩ := h
  have s1 := AutoSeq1.idx_int
  have s2 := AutoSeq1.sub_tuple_tuple
  have s3 := AutoSeq1.sub_list_list
  have s4 := AutoSeq1.sub_tuple_list
  have s5 := AutoSeq1.sub_list_tuple
  have hz : (its ++ ts).size ≤ sizeLine + 1 := by
    rw [Array.size_append]
    exact h2
  wp_walk using (wpAny_updateSeq hl rfl (hz := h1) (_hz' := hz)), AutoSeq1.wpAny_loadPart' hl, AutoSeq1.wpAny_loadPart' hb
  exact ⟨_, rfl, h⟩
section
variable {X : Cx}
def rExtT (K : PySem.W.Frag) : V → List V → Hp → VK → Prop := fun x vs H Q => ∃ l b xs zs, x = .ref l ∧ vs = [.ref b] ∧ H l = some (.lst xs) ∧ SqT K H b zs ∧ xs.length + zs.length ≤ sizeLine ∧ Q .non (upd H l (.lst (xs ++ zs)))
theorem mt_extT : MtM X "list.extend" (rExtT X.K) := by
  intro pins s σ H x vs v us Q I rx rv h
  obtain ⟨l, b, xs, zs, rfl, rfl, hH, hB, hz, q⟩ := h
  cases rx
  obtain ⟨u, rfl, ru⟩ := rv.one
  cases ru
  obtain ⟨z, its, n, r, hl, e⟩ := I.lstM hH
  obtain ⟨ts, r2, ⟨⟨oc, od, dt, sl⟩, e2, c2, m, d2⟩, z2⟩ := I.tuple hB
  have c2' : oc = Value.type "tuple" := c2
  have d2' : dt = Data.seq ts.toArray m := d2
  subst c2' d2'
  have l2 := r2.length
  have sz : its.toArray.size + ts.toArray.size ≤ sizeLine := by
    rw [List.size_toArray, List.size_toArray]
    omega
  have short : ¬(!its.toArray.isEmpty && Builtin.List.listTooLong (its.toArray.size + ts.toArray.size)) = true := by
    rw [notLongL sz, Bool.and_false]
    exact Bool.false_ne_true
  refine call_meets F.slot_list_extend ⟨_, e, rfl⟩ F.entry_list_extend (F.args_list_extend_2 _ _) (extend_tup l its.toArray n b ts.toArray m od sl short (by rw [List.size_toArray]; omega) (by omega)) ⟨e, e2, ?_⟩
  exact ⟨.non, _, I.lset (its' := its ++ ts) hH e (by simp) (r.append r2) (by rw [List.length_append]; omega), rfl, q⟩
end
end Own

namespace K1
open PySem PySem.Spec PyProof.Rows L2 Own
/-! ### data: names, numbers, pairs, groups -/
def nameB (z : Str) : Bool := decide (1 ≤ z.length) && (decide (z.length ≤ 8) && z.cps.toList.all fun c => decide (c ∈ abc.cps.toList))
def isNameD : PyData → Bool
  | .str z => nameB z
  | _ => false
def isNumD : PyData → Bool
  | .int i => decide (0 ≤ i)
  | _ => false
def isPairD : PyData → Bool
  | .tuple ds => decide (ds.length = 2)
  | _ => false
mutual
/-- data of a size that a rule takes -/
def okD : PyData → Bool
  | .none => true
  | .bool _ => true
  | .int _ => true
  | .str z => PyData.strOk z && decide (z.length ≤ 1000)
  | .list ds => decide (ds.length ≤ 1000) && okAll ds
  | .tuple ds => decide (ds.length ≤ 1000) && okAll ds
  | .dict _ => false
def okAll : List PyData → Bool
  | [] => true
  | d :: r => okD d && okAll r
end
theorem okAll_mem : ∀ {ds : List PyData}, okAll ds = true → ∀ d ∈ ds, okD d = true
  | [], _, d, h => nomatch h
  | x :: r, e, d, h => by
    obtain ⟨e1, e2⟩ := Bool.and_eq_true_iff.mp (show (okD x && okAll r) = true from e)
    rcases List.mem_cons.mp h with q | q
    · rw [q]
      exact e1
    · exact okAll_mem e2 d q
mutual
theorem ok_lay : ∀ d : PyData, okD d = true → d.canLay0 = true
  | .none, _ => rfl
  | .bool _, _ => rfl
  | .int _, _ => rfl
  | .str z, h => (Bool.and_eq_true_iff.mp h).1
  | .list ds, h => okAll_lay ds (Bool.and_eq_true_iff.mp h).2
  | .tuple ds, h => okAll_lay ds (Bool.and_eq_true_iff.mp h).2
  | .dict _, h => nomatch h
theorem okAll_lay : ∀ ds : List PyData, okAll ds = true → PyData.canLayAll0 ds = true
  | [], _ => rfl
  | d :: r, h => by
    obtain ⟨e1, e2⟩ := Bool.and_eq_true_iff.mp (show (okD d && okAll r) = true from h)
    show (d.canLay0 && PyData.canLayAll0 r) = true
    rw [ok_lay d e1, okAll_lay r e2]
    rfl
end
theorem dep_mem : ∀ {ds : List PyData} {d : PyData}, d ∈ ds → d.depth ≤ PyData.depthAll ds
  | [], _, h => nomatch h
  | x :: r, d, h => by
    show d.depth ≤ max x.depth (PyData.depthAll r)
    rcases List.mem_cons.mp h with q | q
    · rw [q]
      exact Nat.le_max_left _ _
    · exact Nat.le_trans (dep_mem q) (Nat.le_max_right _ _)
structure Fit (d : PyData) : Prop where
  ok : okD d = true
  dep : d.depth ≤ 60
theorem Fit.lay {d : PyData} (h : Fit d) : d.canLay0 = true := ok_lay d h.ok
theorem Fit.str {d : PyData} (h : Fit d) : ∀ z, d = .str z → z.length ≤ sizeLine := fun z e => by
  subst e
  have q := of_decide_eq_true (Bool.and_eq_true_iff.mp h.ok).2
  rw [sizeLine_eq]
  omega
theorem Fit.shaped {d : PyData} (h : Fit d) : SeqAt.shaped d = true := by
  show (d.canLay0 && decide (d.depth ≤ 64)) = true
  rw [h.lay, decide_eq_true (by have := h.dep; omega)]
  rfl
theorem Fit.kid {ds : List PyData} (h : Fit (.tuple ds)) {d : PyData} (m : d ∈ ds) : Fit d := by
  refine ⟨okAll_mem (Bool.and_eq_true_iff.mp h.ok).2 d m, ?_⟩
  have q : PyData.depthAll ds + 1 ≤ 60 := h.dep
  have r := dep_mem m
  omega
theorem Fit.kidL {ds : List PyData} (h : Fit (.list ds)) {d : PyData} (m : d ∈ ds) : Fit d := by
  refine ⟨okAll_mem (Bool.and_eq_true_iff.mp h.ok).2 d m, ?_⟩
  have q : PyData.depthAll ds + 1 ≤ 60 := h.dep
  have r := dep_mem m
  omega
theorem Fit.few {ds : List PyData} (h : Fit (.tuple ds)) : ds.length ≤ 1000 := of_decide_eq_true (Bool.and_eq_true_iff.mp h.ok).1
def spD1 (K : PySem.W.Frag) (f : PyData → Bool) : Sp := fun vs H Q _ => ∃ v d, vs = [v] ∧ Dp K H v d ∧ Fit d ∧ ∀ H', Same H H' → Q (.bl (f d)) H'
def isStrD : PyData → Bool
  | .str _ => true
  | _ => false
def isIntD : PyData → Bool
  | .int _ => true
  | .bool _ => true
  | _ => false
def isBoolD : PyData → Bool
  | .bool _ => true
  | _ => false
def isTupD : PyData → Bool
  | .tuple _ => true
  | _ => false
def isListD : PyData → Bool
  | .list _ => true
  | _ => false
theorem kt_str (d : PyData) : kitB (tyD d) "str" = some (isStrD d) := by
  cases d with
  | none => exact (by decide +kernel : kitB "NoneType" "str" = some false)
  | bool _ => exact (by decide +kernel : kitB "bool" "str" = some false)
  | int _ => exact (by decide +kernel : kitB "int" "str" = some false)
  | str _ => exact (by decide +kernel : kitB "str" "str" = some true)
  | list _ => exact (by decide +kernel : kitB "list" "str" = some false)
  | tuple _ => exact (by decide +kernel : kitB "tuple" "str" = some false)
  | dict _ => exact (by decide +kernel : kitB "dict" "str" = some false)
theorem kt_int (d : PyData) : kitB (tyD d) "int" = some (isIntD d) := by
  cases d with
  | none => exact (by decide +kernel : kitB "NoneType" "int" = some false)
  | bool _ => exact (by decide +kernel : kitB "bool" "int" = some true)
  | int _ => exact (by decide +kernel : kitB "int" "int" = some true)
  | str _ => exact (by decide +kernel : kitB "str" "int" = some false)
  | list _ => exact (by decide +kernel : kitB "list" "int" = some false)
  | tuple _ => exact (by decide +kernel : kitB "tuple" "int" = some false)
  | dict _ => exact (by decide +kernel : kitB "dict" "int" = some false)
theorem kt_bool (d : PyData) : kitB (tyD d) "bool" = some (isBoolD d) := by
  cases d with
  | none => exact (by decide +kernel : kitB "NoneType" "bool" = some false)
  | bool _ => exact (by decide +kernel : kitB "bool" "bool" = some true)
  | int _ => exact (by decide +kernel : kitB "int" "bool" = some false)
  | str _ => exact (by decide +kernel : kitB "str" "bool" = some false)
  | list _ => exact (by decide +kernel : kitB "list" "bool" = some false)
  | tuple _ => exact (by decide +kernel : kitB "tuple" "bool" = some false)
  | dict _ => exact (by decide +kernel : kitB "dict" "bool" = some false)
theorem kt_tuple (d : PyData) : kitB (tyD d) "tuple" = some (isTupD d) := by
  cases d with
  | none => exact (by decide +kernel : kitB "NoneType" "tuple" = some false)
  | bool _ => exact (by decide +kernel : kitB "bool" "tuple" = some false)
  | int _ => exact (by decide +kernel : kitB "int" "tuple" = some false)
  | str _ => exact (by decide +kernel : kitB "str" "tuple" = some false)
  | list _ => exact (by decide +kernel : kitB "list" "tuple" = some false)
  | tuple _ => exact (by decide +kernel : kitB "tuple" "tuple" = some true)
  | dict _ => exact (by decide +kernel : kitB "dict" "tuple" = some false)
theorem kt_list (d : PyData) : kitB (tyD d) "list" = some (isListD d) := by
  cases d with
  | none => exact (by decide +kernel : kitB "NoneType" "list" = some false)
  | bool _ => exact (by decide +kernel : kitB "bool" "list" = some false)
  | int _ => exact (by decide +kernel : kitB "int" "list" = some false)
  | str _ => exact (by decide +kernel : kitB "str" "list" = some false)
  | list _ => exact (by decide +kernel : kitB "list" "list" = some true)
  | tuple _ => exact (by decide +kernel : kitB "tuple" "list" = some false)
  | dict _ => exact (by decide +kernel : kitB "dict" "list" = some false)
theorem isi_d {K : PySem.W.Frag} {H : Hp} {v : V} {d : PyData} {T : String} {b : Bool} (h : Dp K H v d) (e : kitB (tyD d) T = some b) : ∃ t, TyX K H v t ∧ PySem.W.kitOne K t (.type T) = some b := ⟨_, dp_ty h, kit_ty e⟩
theorem rep_map (z : Str) (i : Nat) (c : Nat) (f : Nat → Bool) (h : z.cps[i]? = some c) : (z.cps.toList.take (i + 1)).map f = (z.cps.toList.take i).map f ++ [f c] := by
  rw [List.take_add_one, show z.cps.toList[i]? = some c from by rw [Array.getElem?_toList]; exact h, List.map_append]
  rfl
section
variable {P : Program} {w : World} {K : PySem.W.Frag} {mg : Str → Option Value} {base : Heap}
theorem ok_isNameD {f : Addr} {fd : FuncData} {tL : Tok} {tA : Tok} (F : Fun K "is_name" "is_name" sIsName f fd) (ml : mg "len" = none) (mi : mg "isinstance" = none) (ms : mg "str" = none) (ma : mg "all" = none) (mL : mg "LONGEST_NAME" = some (.int 8 tL)) (mA : mg "LETTERS" = some (.str abc tA)) :
    FnOk P w K mg base CX0 1 f fd ["thing"] (spD1 K isNameD) := by
  refine F.ok scIsName (fun vs H Q E h => ?_) (fun cdv A outer s H vs Q E hr h => ?_)
  · obtain ⟨v, d, rfl, _⟩ := h
    rfl
  · obtain ⟨v, d, rfl, hd, fit, k⟩ := h
    refine ⟨_, pss_cons (ps_if (PW.pt (pw_or (pt_not (pt_val (pe_callB call_isi (by rfl) mi (by decide +kernel) (pa_cons (pv 0) (pa_cons (pe_bltn (v := .ty "str") (u := .type "str") (by rfl) ms (by decide +kernel) rfl) pa_nil)))))
        (pw_or1 (pt_not (pt_chain op_le op_le pe_int (pe_callB call_len_str (by rfl) ml PySem.boot_len (pa_cons (pv 0) pa_nil)) (pe_glob (v := .int 8) (by rfl) mL ⟨_, rfl⟩)))))) (pss_one (ps_ret pe_bl)) pss_nil)
      (pss_one (ps_ret (pe_callB (cr_all rfl) (by rfl) ma (by decide +kernel) (pa_cons (pe_lc (own := [("letter", 1)]) (g := gName 1) (tt := tYes) rfl scIsName.nd (pi_str (pv 0)) (blkOk_by (N := ["thing", "letter"]) (sc := defScope sIsName) (by decide +kernel))
        (fun _ _ _ _ _ => pg_name (i := 1) scIsName.nd rfl (Or.inl rfl)) (fun _ _ _ _ _ => pts_nil) (fun _ _ _ _ _ => pe_cmpR op_in_sign (pv 1) (pe_glob (v := .str abc) (by rfl) mA ⟨_, rfl⟩) rfl)) pa_nil)))), ?_⟩
    have ty := dp_ty hd
    cases hd with
    | str z =>
      refine ⟨_, rfl, _, .ty "str", _, _, true, rfl, .ty "str", ty, kit_ty (kt_str _), true, rfl, iteF ?_⟩
      refine ⟨_, rfl, z, rfl, fit.str z rfl, _, _, rfl, rfl, _, rfl, ?_⟩
      by_cases h1 : 1 ≤ z.length
      · refine iteTD (by omega) ⟨_, _, rfl, rfl, _, rfl, ?_⟩
        by_cases h2 : z.length ≤ 8
        · rw [show decide ((z.length : Int) ≤ 8) = true from decide_eq_true (by omega)]
          refine iteF ⟨_, rfl, z, rfl, fun D nD => lc_it walk_str (fun i H' => Same H H' ∧ H' D = some (.lst (((z.cps.toList.take i).map fun c => decide (c ∈ abc.cps.toList)).map V.bl))) ⟨same_upd nD, upd_same⟩ (fun _ _ _ _ => trivial) ?_ ?_⟩
          · rintro i x H1 H' hi ⟨sm, hD⟩ ⟨rfl, c, hc, rfl⟩
            have hz : z.cps.toList.length ≤ 8 := by
              rw [← len_list]
              exact h2
            refine ⟨rfl, _, rfl, c, abc, rfl, rfl, _, hD, ?_, same_past nD sm, ?_⟩
            · rw [List.length_map, List.length_map, List.length_take]
              exact small1000 (by omega)
            · rw [upd_same, rep_map z i c _ hc, List.map_append]
              rfl
          · rintro H' ⟨sm, hD⟩
            have hl : z.cps.size = z.cps.toList.length := (Array.length_toList).symm
            rw [hl, List.take_of_length_le (Nat.le_refl _)] at hD
            refine ⟨D, _, rfl, SqL.of hD, ?_⟩
            have e : ((z.cps.toList.map fun c => decide (c ∈ abc.cps.toList)).all id) = nameB z := by
              unfold nameB
              rw [decide_eq_true h1, decide_eq_true h2, List.all_map]
              rfl
            rw [e]
            exact k _ sm
        · rw [show decide ((z.length : Int) ≤ 8) = false from decide_eq_false (by omega)]
          refine iteT ?_
          have e : isNameD (.str z) = false := by
            show nameB z = false
            unfold nameB
            rw [decide_eq_false h2, Bool.false_and, Bool.and_false]
          rw [e] at k
          exact k _ (Same.refl _)
      · refine iteFD (by omega) ⟨_, rfl, iteT ?_⟩
        have e : isNameD (.str z) = false := by
          show nameB z = false
          unfold nameB
          rw [decide_eq_false h1, Bool.false_and]
        rw [e] at k
        exact k _ (Same.refl _)
    | _ => exact ⟨_, rfl, _, .ty "str", _, _, false, rfl, .ty "str", ty, kit_ty (kt_str _), false, rfl, iteT (k _ (Same.refl _))⟩
end
end K1

namespace K1
open PySem PySem.Spec PyProof.Rows L2 Own
def msgD (d : PyData) : Bool := PyData.eqv d (.str "") || isNameD d
def isGroupD : PyData → Bool
  | .tuple [m, .tuple (_ :: _)] => msgD m
  | _ => false
section
variable {P : Program} {w : World} {K : PySem.W.Frag} {mg : Str → Option Value} {base : Heap}
theorem ok_isPairD {f : Addr} {fd : FuncData} (F : Fun K "is_pair" "is_pair" sIsPair f fd) (ml : mg "len" = none) (mi : mg "isinstance" = none) (mt : mg "tuple" = none) : FnOk P w K mg base CX0 1 f fd ["thing"] (spD1 K isPairD) := by
  refine F.ok scIsPair (fun vs H Q E h => ?_) (fun cdv A outer s H vs Q E hr h => ?_)
  · obtain ⟨v, d, rfl, _⟩ := h
    rfl
  · obtain ⟨v, d, rfl, hd, fit, k⟩ := h
    refine ⟨_, pss_one (ps_ret (pe_and (pe_callB call_isi (by rfl) mi (by decide +kernel) (pa_cons (pv 0) (pa_cons (pe_bltn (v := .ty "tuple") (u := .type "tuple") (by rfl) mt (by decide +kernel) rfl) pa_nil)))
      (pe_one (pe_cmpR op_eq (pe_callB call_len_seq (by rfl) ml PySem.boot_len (pa_cons (pv 0) pa_nil)) pe_int (nomark _))))), ?_⟩
    have ty := dp_ty hd
    have k0 := k H (Same.refl H)
    cases hd with
    | tup hs ha =>
      refine ⟨_, rfl, _, .ty "tuple", _, _, true, rfl, .ty "tuple", ty, kit_ty (kt_tuple _), true, rfl, iteT ?_⟩
      refine ⟨_, rfl, _, _, rfl, .inr hs, rfl, ?_⟩
      rw [dpAll_len ha]
      rename_i ds
      have e : decide (V.int (ds.length : Int) = V.int 2) = decide (ds.length = 2) := by
        rw [decide_eq_decide]
        exact ⟨fun h => by have := V.int.inj h; omega, fun h => by rw [h]; rfl⟩
      rw [e]
      exact k0
    | _ => exact ⟨_, rfl, _, .ty "tuple", _, _, false, rfl, .ty "tuple", ty, kit_ty (kt_tuple _), false, rfl, iteF k0⟩
theorem scIsNumber : FnScope ["thing"] ["thing"] (defScope sIsNumber) := ⟨rfl, rfl, rfl, by decide +kernel, rfl, by decide +kernel, by decide +kernel⟩
theorem ok_isNumD {f : Addr} {fd : FuncData} (F : Fun K "is_number" "is_number" sIsNumber f fd) (mi : mg "isinstance" = none) (mt : mg "int" = none) (mb : mg "bool" = none) : FnOk P w K mg base CX0 1 f fd ["thing"] (spD1 K isNumD) := by
  refine F.ok scIsNumber (fun vs H Q E h => ?_) (fun cdv A outer s H vs Q E hr h => ?_)
  · obtain ⟨v, d, rfl, _⟩ := h
    rfl
  · obtain ⟨v, d, rfl, hd, fit, k⟩ := h
    refine ⟨_, pss_one (ps_ret (pe_and (pe_callB call_isi (by rfl) mi (by decide +kernel) (pa_cons (pv 0) (pa_cons (pe_bltn (v := .ty "int") (u := .type "int") (by rfl) mt (by decide +kernel) rfl) pa_nil)))
      (pe_and (pe_not (pe_callB call_isi (by rfl) mi (by decide +kernel) (pa_cons (pv 0) (pa_cons (pe_bltn (v := .ty "bool") (u := .type "bool") (by rfl) mb (by decide +kernel) rfl) pa_nil))))
      (pe_one (pe_cmpR op_ge (pv 0) pe_int (nomark _)))))), ?_⟩
    have ty := dp_ty hd
    have k0 := k H (Same.refl H)
    cases hd with
    | int i =>
      refine ⟨_, rfl, _, .ty "int", _, _, true, rfl, .ty "int", ty, kit_ty (kt_int _), true, rfl, iteT ?_⟩
      refine ⟨_, rfl, _, .ty "bool", _, _, false, rfl, .ty "bool", ty, kit_ty (kt_bool _), false, rfl, true, rfl, iteT ?_⟩
      exact ⟨_, rfl, _, _, rfl, rfl, k0⟩
    | bl b =>
      refine ⟨_, rfl, _, .ty "int", _, _, true, rfl, .ty "int", ty, kit_ty (kt_int _), true, rfl, iteT ?_⟩
      exact ⟨_, rfl, _, .ty "bool", _, _, true, rfl, .ty "bool", ty, kit_ty (kt_bool _), true, rfl, false, rfl, iteF k0⟩
    | _ => exact ⟨_, rfl, _, .ty "int", _, _, false, rfl, .ty "int", ty, kit_ty (kt_int _), false, rfl, iteF k0⟩
end
end K1

namespace K1
open PySem PySem.Spec PyProof.Rows L2 Own
theorem pair_of : ∀ {d : PyData}, isPairD d = true → ∃ m i, d = .tuple [m, i]
  | .tuple [], h => nomatch h
  | .tuple [_], h => nomatch h
  | .tuple [m, i], _ => ⟨m, i, rfl⟩
  | .tuple (_ :: _ :: _ :: r), h => by
    have q := of_decide_eq_true (show decide (r.length + 3 = 2) = true from h)
    omega
  | .none, h => nomatch h
  | .bool _, h => nomatch h
  | .int _, h => nomatch h
  | .str _, h => nomatch h
  | .list _, h => nomatch h
  | .dict _, h => nomatch h
theorem group_pair : ∀ {d : PyData}, isGroupD d = true → isPairD d = true
  | .tuple [_, .tuple (_ :: _)], _ => rfl
theorem group_no {d : PyData} (h : isPairD d = false) : isGroupD d = false := by
  cases e : isGroupD d with
  | false => rfl
  | true =>
    rw [group_pair e] at h
    cases h
theorem fit_empty : Fit (.str "") := ⟨by decide +kernel, by decide⟩
/-- a pair's two values -/
theorem dp_pair {K : PySem.W.Frag} {H : Hp} {v : V} {m i : PyData} (h : Dp K H v (.tuple [m, i])) : ∃ a x y, v = .ref a ∧ SqT K H a [x, y] ∧ Dp K H x m ∧ Dp K H y i := by
  cases h with
  | tup hs ha =>
    cases ha with
    | cons hm r =>
      cases r with
      | cons hi n =>
        cases n
        exact ⟨_, _, _, rfl, hs, hm, hi⟩
section
variable {P : Program} {w : World} {K : PySem.W.Frag} {mg : Str → Option Value} {base : Heap}
theorem scIsGroup : FnScope ["thing", "message", "inner"] ["thing"] (defScope sIsGroup) := ⟨rfl, rfl, rfl, by decide +kernel, rfl, by decide +kernel, by decide +kernel⟩
theorem ok_isGroup {f fP fN : Addr} {fd dP dN : FuncData} (F : Fun K "is_group" "is_group" sIsGroup f fd) (GP : FnOk P w K mg base CX0 1 fP dP ["thing"] (spD1 K isPairD)) (kP : PySem.W.keepIn K (.ref fP) = true) (bP : Binds K dP ["thing"] []) (mP : mg "is_pair" = some (.ref fP))
    (GN : FnOk P w K mg base CX0 1 fN dN ["thing"] (spD1 K isNameD)) (kN : PySem.W.keepIn K (.ref fN) = true) (bN : Binds K dN ["thing"] []) (mN : mg "is_name" = some (.ref fN)) (ml : mg "len" = none) (mi : mg "isinstance" = none) (mt : mg "tuple" = none) : FnOk P w K mg base CX0 2 f fd ["thing"] (spD1 K isGroupD) := by
  refine F.ok scIsGroup (fun vs H Q E h => ?_) (fun cdv A outer s H vs Q E hr h => ?_)
  · obtain ⟨v, d, rfl, _⟩ := h
    rfl
  · obtain ⟨v, d, rfl, hd, fit, k⟩ := h
    refine ⟨_, pss_cons (ps_if (pt_not (pt_val (pe_call GP hr (by rfl) mP kP bP .nil pass0 (pa_cons (pv 0) pa_nil)))) (pss_one (ps_ret pe_bl)) pss_nil)
      (pss_cons (ps_asg (pv 0) (pg_tup rfl (pgs_cons (pg_name (i := 1) scIsGroup.nd rfl (Or.inl rfl)) (pgs_cons (pg_name (i := 2) scIsGroup.nd rfl (Or.inl rfl)) pgs_nil))))
      (pss_one (ps_ret (pe_and (pe_or (pe_cmpR (op_eqD hr.units) (pv 1) pe_str (nomark _)) (pe_one (pe_call GN hr (by rfl) mN kN bN .nil pass0 (pa_cons (pv 1) pa_nil))))
        (pe_and (pe_callB call_isi (by rfl) mi (by decide +kernel) (pa_cons (pv 2) (pa_cons (pe_bltn (v := .ty "tuple") (u := .type "tuple") (by rfl) mt (by decide +kernel) rfl) pa_nil)))
          (pe_one (pe_cmpR op_gt (pe_callB call_len_seq (by rfl) ml PySem.boot_len (pa_cons (pv 2) pa_nil)) pe_int (nomark _)))))))), ?_⟩
    refine ⟨_, rfl, v, d, rfl, hd, fit, fun H1 s1 => ?_⟩
    cases ep : isPairD d with
    | false =>
      rw [group_no ep] at k
      exact ⟨_, rfl, iteT (k _ s1)⟩
    | true =>
      obtain ⟨m, i, rfl⟩ := pair_of ep
      have fm : Fit m := fit.kid (List.mem_cons_self ..)
      have fi : Fit i := fit.kid (List.mem_cons_of_mem _ (List.mem_cons_self ..))
      obtain ⟨a, x, y, rfl, hs, hm, hi⟩ := dp_pair (dp_same s1 hd)
      refine ⟨_, rfl, iteF ⟨_, rfl, a, _, rfl, hs, rfl, _, _, rfl, _, _, rfl, rfl, ?_⟩⟩
      have tail : ∀ H2, Same H1 H2 → msgD m = true → tAndV (tCB (rIsi K) (tCons (tVar 2) (tCons (tC (.ty "tuple")) tNil))) (tOp (rI0 fun i j => .bl (decide (j < i))) (tCB (fun xs H Q => ∃ p ys, xs = [V.ref p] ∧ (SqL K H p ys ∨ SqT K H p ys) ∧ Q (V.int ys.length) H) (tCons (tVar 2) tNil)) (tC (.int 0))) [some (.ref a), some x, some y] H2 Q := fun H2 s2 em => by
        have k2 := k H2 (s1.trans s2)
        have hi2 := dp_same s2 hi
        have ty := dp_ty hi2
        cases hi2 with
        | tup hs2 ha2 =>
          refine ⟨_, rfl, _, .ty "tuple", _, _, true, rfl, .ty "tuple", ty, kit_ty (kt_tuple _), true, rfl, iteT ?_⟩
          refine ⟨_, rfl, _, _, rfl, .inr hs2, _, _, rfl, rfl, ?_⟩
          rw [dpAll_len ha2]
          rename_i ds
          cases ds with
          | nil => exact k2
          | cons c r =>
            have e : isGroupD (.tuple [m, .tuple (c :: r)]) = true := em
            rw [e] at k2
            show Q (.bl (decide ((0 : Int) < (((c :: r).length : Nat) : Int)))) H2
            rw [show decide ((0 : Int) < (((c :: r).length : Nat) : Int)) = true from decide_eq_true (by rw [List.length_cons]; omega)]
            exact k2
        | _ => exact ⟨_, rfl, _, .ty "tuple", _, _, false, rfl, .ty "tuple", ty, kit_ty (kt_tuple _), false, rfl, iteF k2⟩
      have none_ : ∀ H2, Same H1 H2 → msgD m = false → Q (.bl false) H2 := fun H2 s2 em => by
        have e : isGroupD (.tuple [m, i]) = false := by
          cases i with
          | tuple ds =>
            cases ds with
            | nil => rfl
            | cons c r => exact em
          | _ => rfl
        have k2 := k H2 (s1.trans s2)
        rw [e] at k2
        exact k2
      refine ⟨_, rfl, m, .str "", hm, .str "", fm.shaped, fit_empty.shaped, ?_⟩
      cases ee : PyData.eqv m (.str "") with
      | true => exact ⟨true, rfl, iteT ⟨true, rfl, iteT (tail H1 (Same.refl H1) (by unfold msgD; rw [ee]; rfl))⟩⟩
      | false =>
        refine ⟨false, rfl, iteF ⟨_, rfl, x, m, rfl, hm, fm, fun H2 s2 => ?_⟩⟩
        cases en : isNameD m with
        | true => exact ⟨true, rfl, iteT (tail H2 s2 (by unfold msgD; rw [ee, en]; rfl))⟩
        | false => exact ⟨false, rfl, iteF (none_ H2 s2 (by unfold msgD; rw [ee, en]; rfl))⟩
end
end K1

namespace K1
open PySem PySem.Spec PyProof.Rows L2 Own
/-! ### trees -/
def inD (ns : List Str) : PyData → Bool
  | .str z => decide (z ∈ ns)
  | _ => false
def isLeafD (ns : List Str) : PyData → Bool
  | .tuple [n, i] => inD ns n && isNumD i
  | _ => false
theorem leaf_no {ns : List Str} {d : PyData} (h : isPairD d = false) : isLeafD ns d = false := by
  cases e : isLeafD ns d with
  | false => rfl
  | true =>
    match d, e with
    | .tuple [_, _], _ => cases h
def spLeaf (C : Addr) (K : PySem.W.Frag) : Sp := fun vs H Q _ => ∃ x v ls ls' T d, vs = [.ref x, v] ∧ KIn C H x ls ls' T ∧ Dp K H v d ∧ Fit d ∧ ∀ H', Same H H' → Q (.bl (isLeafD (nms ls) d)) H'
section
variable {P : Program} {w : World} {K : PySem.W.Frag} {mg : Str → Option Value} {base : Heap}
/-- what a table says of data -/
theorem in_dp {C x : Addr} {H : Hp} {v : V} {d : PyData} {ls ls' : List Ln} {T : Tb} {R : Bool → Hp → Prop} (hd : Dp K H v d) (kin : KIn C H x ls ls' T) (k : R (inD (nms ls) d) H) : spIn C K [.ref x, v] H (fun v H1 => ∃ b, v = .bl b ∧ R b H1) E0 := by
  refine ⟨x, v, ls, ls', T, rfl, kin, ?_⟩
  cases hd with
  | str z => exact .inl ⟨z, rfl, _, rfl, k⟩
  | non => exact .inr ⟨_, .base .non, kit_ty (kt_str .none), _, rfl, k⟩
  | bl b => exact .inr ⟨_, .base (.bl b), kit_ty (kt_str (.bool b)), _, rfl, k⟩
  | int i => exact .inr ⟨_, .base (.int i), kit_ty (kt_str (.int i)), _, rfl, k⟩
  | lst hs ha => exact .inr ⟨_, dp_ty (.lst hs ha), kit_ty (kt_str (.list _)), _, rfl, k⟩
  | tup hs ha => exact .inr ⟨_, dp_ty (.tup hs ha), kit_ty (kt_str (.tuple _)), _, rfl, k⟩
theorem scIsLeaf : FnScope ["kinds", "thing"] ["kinds", "thing"] (defScope sIsLeaf) := ⟨rfl, rfl, rfl, by decide +kernel, rfl, by decide +kernel, by decide +kernel⟩
theorem ok_isLeaf {C f fP fN fI : Addr} {fd dP dN dI : FuncData} (F : Fun K "_is_leaf" "_is_leaf" sIsLeaf f fd) (GP : FnOk P w K mg base CX0 1 fP dP ["thing"] (spD1 K isPairD)) (kP : PySem.W.keepIn K (.ref fP) = true) (bP : Binds K dP ["thing"] []) (mP : mg "is_pair" = some (.ref fP))
    (GN : FnOk P w K mg base CX0 1 fN dN ["thing"] (spD1 K isNumD)) (kN : PySem.W.keepIn K (.ref fN) = true) (bN : Binds K dN ["thing"] []) (mN : mg "is_number" = some (.ref fN))
    (cI : Spc K C "__contains__" fI) (GI : FnOk P w K mg base CX0 1 fI dI ["self", "x"] (spIn C K)) (bI : Binds K dI ["self", "x"] []) : FnOk P w K mg base CX0 2 f fd ["kinds", "thing"] (spLeaf C K) := by
  refine F.ok scIsLeaf (fun vs H Q E h => ?_) (fun cdv A outer s H vs Q E hr h => ?_)
  · obtain ⟨x, v, ls, ls', T, d, rfl, _⟩ := h
    rfl
  · obtain ⟨x, v, ls, ls', T, d, rfl, kin, hd, fit, k⟩ := h
    refine ⟨_, pss_one (ps_ret (pe_and (pe_call GP hr (by rfl) mP kP bP .nil pass0 (pa_cons (pv 1) pa_nil))
      (pe_and (pe_cmpR (op_inO cI GI hr bI) (pe_ix ix_tup (pv 1) pe_int (fun _ _ => rfl)) (pv 0) (by rfl))
        (pe_one (pe_call GN hr (by rfl) mN kN bN .nil pass0 (pa_cons (pe_ix ix_tup (pv 1) pe_int (fun _ _ => rfl)) pa_nil)))))), ?_⟩
    refine ⟨_, rfl, v, d, rfl, hd, fit, fun H1 s1 => ?_⟩
    cases ep : isPairD d with
    | false =>
      rw [leaf_no ep] at k
      exact ⟨_, rfl, iteF (k _ s1)⟩
    | true =>
      obtain ⟨m, i, rfl⟩ := pair_of ep
      have fm : Fit m := fit.kid (List.mem_cons_self ..)
      have fi : Fit i := fit.kid (List.mem_cons_of_mem _ (List.mem_cons_self ..))
      obtain ⟨a, y, z, rfl, hs, hm, hi⟩ := dp_pair (dp_same s1 hd)
      have kin1 := kin.same s1
      obtain ⟨dx, fs, hx⟩ : ∃ dx fs, H1 x = some (.ins C dx fs) := by
        obtain ⟨dx, r, dd, _, _, hx, _⟩ := kin1.ex
        exact ⟨dx, _, hx⟩
      refine ⟨_, rfl, iteT ⟨_, rfl, a, _, 0, _, rfl, rfl, hs, atI_nat (j := 0) rfl, _, rfl, x, dx, fs, rfl, hx, in_dp hm kin1 ?_⟩⟩
      cases en : inD (nms ls) m with
      | false =>
        refine ⟨_, rfl, iteF ?_⟩
        have q := k _ s1
        rw [show isLeafD (nms ls) (.tuple [m, i]) = (inD (nms ls) m && isNumD i) from rfl, en] at q
        exact q
      | true =>
        refine ⟨_, rfl, iteT ⟨_, rfl, a, _, 1, _, rfl, rfl, hs, atI_nat (j := 1) rfl, z, i, rfl, hi, fi, fun H2 s2 => ?_⟩⟩
        have q := k _ (s1.trans s2)
        rw [show isLeafD (nms ls) (.tuple [m, i]) = (inD (nms ls) m && isNumD i) from rfl, en] at q
        exact q
end
end K1

namespace K1
open PySem PySem.Spec PyProof.Rows L2 Own
mutual
/-- how many values stand in data -/
def ndD : PyData → Nat
  | .list ds => ndAll ds + 1
  | .tuple ds => ndAll ds + 1
  | _ => 1
def ndAll : List PyData → Nat
  | [] => 0
  | d :: r => ndD d + ndAll r
end
theorem nd_pos : ∀ d : PyData, 1 ≤ ndD d
  | .none => Nat.le_refl _
  | .bool _ => Nat.le_refl _
  | .int _ => Nat.le_refl _
  | .str _ => Nat.le_refl _
  | .list _ => Nat.le_add_left _ _
  | .tuple _ => Nat.le_add_left _ _
  | .dict _ => Nat.le_refl _
theorem ndAll_app : ∀ (a b : List PyData), ndAll (a ++ b) = ndAll a + ndAll b
  | [], b => (Nat.zero_add _).symm
  | d :: r, b => by
    show ndD d + ndAll (r ++ b) = ndD d + ndAll r + ndAll b
    rw [ndAll_app r b, Nat.add_assoc]
theorem ndAll_len : ∀ ds : List PyData, ds.length ≤ ndAll ds
  | [] => Nat.le_refl _
  | d :: r => by
    have a := nd_pos d
    have b := ndAll_len r
    show r.length + 1 ≤ ndD d + ndAll r
    omega
theorem nd_mem : ∀ {ds : List PyData} {d : PyData}, d ∈ ds → ndD d ≤ ndAll ds
  | [], _, h => nomatch h
  | x :: r, d, h => by
    show ndD d ≤ ndD x + ndAll r
    rcases List.mem_cons.mp h with q | q
    · rw [q]
      omega
    · have := nd_mem q
      omega
def kidsD : PyData → List PyData
  | .tuple [_, .tuple cs] => cs
  | _ => []
theorem kids_nd (d : PyData) : ndAll (kidsD d) < ndD d := by
  unfold kidsD
  split
  · rename_i m cs
    show ndAll cs < (ndD m + ((ndAll cs + 1) + 0)) + 1
    omega
  · exact nd_pos _
def treeD (ns : List Str) (d : PyData) : Bool := if isGroupD d = true then (kidsD d).attach.all fun c => treeD ns c.1 else isLeafD ns d
termination_by ndD d
decreasing_by
  have a := kids_nd d
  have b := nd_mem c.2
  omega
theorem tree_eq (ns : List Str) (d : PyData) : treeD ns d = if isGroupD d = true then (kidsD d).all (treeD ns) else isLeafD ns d := by
  rw [treeD]
  split
  · rw [Bool.eq_iff_iff, List.all_eq_true, List.all_eq_true]
    exact ⟨fun h c hc => h ⟨c, hc⟩ (List.mem_attach _ _), fun h c _ => h c.1 c.2⟩
  · rfl
theorem dpAll_snoc {K : PySem.W.Frag} {H : Hp} : ∀ {vs : List V} {ds : List PyData}, DpAll K H vs ds → vs ≠ [] → ∃ ws y es e, vs = ws ++ [y] ∧ ds = es ++ [e] ∧ DpAll K H ws es ∧ Dp K H y e
  | _, _, .nil, n => absurd rfl n
  | v :: [], d :: _, .cons a .nil, _ => ⟨[], v, [], d, rfl, rfl, .nil, a⟩
  | v :: u :: r, d :: _, .cons a b, _ => by
    obtain ⟨ws, y, es, e, h1, h2, h3, h4⟩ := dpAll_snoc b (fun z => nomatch z)
    exact ⟨v :: ws, y, d :: es, e, by rw [h1]; rfl, by rw [h2]; rfl, .cons a h3, h4⟩
theorem group_of {d : PyData} (h : isGroupD d = true) : ∃ m c r, d = .tuple [m, .tuple (c :: r)] := by
  match d, h with
  | .tuple [m, .tuple (c :: r)], _ => exact ⟨m, c, r, rfl⟩
def spTree (C : Addr) (K : PySem.W.Frag) : Sp := fun vs H Q _ => ∃ x v ls ls' T d, vs = [.ref x, v] ∧ KIn C H x ls ls' T ∧ Dp K H v d ∧ Fit d ∧ ndD d ≤ 1000000 ∧ ∀ H', Same H H' → Q (.bl (treeD (nms ls) d)) H'
section
variable {P : Program} {w : World} {K : PySem.W.Frag} {mg : Str → Option Value} {base : Heap}
theorem scIsTree : FnScope ["kinds", "thing", "pending", "node"] ["kinds", "thing"] (defScope sIsTree) := ⟨rfl, rfl, rfl, by decide +kernel, rfl, by decide +kernel, by decide +kernel⟩
theorem ok_isTree {C f fG fL : Addr} {fd dG dL : FuncData} (F : Fun K "is_tree" "is_tree" sIsTree f fd) (GG : FnOk P w K mg base CX0 2 fG dG ["thing"] (spD1 K isGroupD)) (kG : PySem.W.keepIn K (.ref fG) = true) (bG : Binds K dG ["thing"] []) (mG : mg "is_group" = some (.ref fG))
    (GL : FnOk P w K mg base CX0 2 fL dL ["kinds", "thing"] (spLeaf C K)) (kL : PySem.W.keepIn K (.ref fL) = true) (bL : Binds K dL ["kinds", "thing"] []) (mL : mg "_is_leaf" = some (.ref fL)) : FnOk P w K mg base CX0 3 f fd ["kinds", "thing"] (spTree C K) := by
  refine F.ok scIsTree (fun vs H Q E h => ?_) (fun cdv A outer s H vs Q E hr h => ?_)
  · obtain ⟨x, v, ls, ls', T, d, rfl, _⟩ := h
    rfl
  · obtain ⟨x, v, ls, ls', T, d0, rfl, kin, hd, fit, big, k⟩ := h
    refine ⟨_, pss_cons (ps_set (i := 2) scIsTree.nd rfl (Or.inl rfl) (pe_lst (pa_cons (pv 1) pa_nil)))
      (pss_cons (ps_while PassesOwn.never (pt_truth (pv 2) (by intro _; rfl))
        (pss_cons (ps_set (i := 3) scIsTree.nd rfl (Or.inl rfl) (pe_bm0 PySem.F.plainAttrs_list PySem.F.slot_list_pop PySem.F.type_list_pop mt_pop (pv 2)))
        (pss_one (ps_if (pt_val (pe_call GG hr (by rfl) mG kG bG .nil pass0 (pa_cons (pv 3) pa_nil)))
          (pss_one (ps_expr (pe_bm PySem.F.plainAttrs_list PySem.F.slot_list_extend PySem.F.type_list_extend mt_extT (pv 2) (pa_cons (pe_ix ix_tup (pv 3) pe_int (fun _ _ => rfl)) pa_nil))))
          (pss_one (ps_if (pt_not (pt_val (pe_call GL hr (by rfl) mL kL bL .nil pass0 (pa_cons (pv 0) (pa_cons (pv 3) pa_nil))))) (pss_one (ps_ret pe_bl)) pss_nil))))))
      (pss_one (ps_ret pe_bl))), ?_⟩
    refine ⟨_, rfl, (by show 1 ≤ sizeLine; decide), fun p np => ?_⟩
    have kids_fit : ∀ {e c : PyData}, Fit e → c ∈ kidsD e → Fit c := fun {e c} fe hc => by
      match e, fe, hc with
      | .tuple [m, .tuple cs], fe, hc => exact (fe.kid (List.mem_cons_of_mem _ (List.mem_cons_self ..))).kid hc
    refine ⟨fun m σ H' => ∃ v3 vs ds, σ = [some (.ref x), some v, some (.ref p), v3] ∧ Same H H' ∧ H' p = some (.lst vs) ∧ DpAll K H vs ds ∧ (∀ d ∈ ds, Fit d) ∧ ndAll ds = m ∧ m ≤ 1000000 ∧ ds.all (treeD (nms ls)) = treeD (nms ls) d0,
      ⟨ndD d0 + 0, none, [v], [d0], rfl, same_upd np, upd_same, .cons hd .nil, fun d hm => by rw [List.mem_singleton.mp hm]; exact fit, rfl, big, by show (treeD (nms ls) d0 && true) = _; rw [Bool.and_true]⟩, ?_⟩
    rintro m σ H' ⟨v3, vs, ds, rfl, sm, hp, ha, fits, em, mb, ea⟩
    have lv := dpAll_len ha
    have ln := ndAll_len ds
    refine ⟨_, rfl, !vs.isEmpty, .inl ⟨vs, SqL.of hp, rfl⟩, ?_⟩
    by_cases ev : vs = []
    · subst ev
      have ed : ds = [] := List.length_eq_zero_iff.mp lv.symm
      subst ed
      refine iteF ?_
      rw [← ea] at k
      exact k _ sm
    · rw [show (!vs.isEmpty) = true from by cases vs with | nil => exact absurd rfl ev | cons _ _ => rfl]
      refine iteT ?_
      obtain ⟨ws, y, es, e, rfl, rfl, ha2, he⟩ := dpAll_snoc ha ev
      have fe : Fit e := fits e (List.mem_append_right _ (List.mem_cons_self ..))
      have fes : ∀ d ∈ es, Fit d := fun d hm => fits d (List.mem_append_left _ hm)
      have cnt : ndAll es + ndD e = m := by
        rw [ndAll_app] at em
        exact em
      have le := ndAll_len es
      have lw := dpAll_len ha2
      have all2 : (es.all (treeD (nms ls)) && treeD (nms ls) e) = treeD (nms ls) d0 := by
        rw [← ea, List.all_append]
        show _ = (es.all (treeD (nms ls)) && (treeD (nms ls) e && true))
        rw [Bool.and_true]
      refine ⟨fun σ' H2 => ∃ m', m' < m ∧ ∃ v3 vs ds, σ' = [some (.ref x), some v, some (.ref p), v3] ∧ Same H H2 ∧ H2 p = some (.lst vs) ∧ DpAll K H vs ds ∧ (∀ d ∈ ds, Fit d) ∧ ndAll ds = m' ∧ m' ≤ 1000000 ∧ ds.all (treeD (nms ls)) = treeD (nms ls) d0, fun σ' H2 q => q, ?_⟩
      refine ⟨_, rfl, .inl ⟨rfl, _, SqL.of hp⟩, p, _, y, rfl, rfl, hp, ?_, ?_⟩
      · rw [List.length_append, List.length_singleton, Nat.add_sub_cancel, List.getElem?_append_right (Nat.le_refl _), Nat.sub_self]
        rfl
      have s3 : Same H (upd H' p (.lst (ws ++ [y]).dropLast)) := same_past np sm
      have hp3 := upd_same (H := H') (a := p) (o := .lst (ws ++ [y]).dropLast)
      rw [List.dropLast_concat] at s3 hp3 ⊢
      generalize upd H' p (.lst ws) = H3 at s3 hp3 ⊢
      refine ⟨_, rfl, y, e, rfl, dp_same s3 he, fe, fun H4 s4 => ?_⟩
      have s34 := s3.trans s4
      have hp4 := s4 _ _ hp3
      have te := tree_eq (nms ls) e
      cases eg : isGroupD e with
      | true =>
        rw [eg, if_pos rfl] at te
        obtain ⟨mm, c, r, rfl⟩ := group_of eg
        obtain ⟨a, vm, vi, rfl, hs, hm, hi⟩ := dp_pair he
        have kn := kids_nd (.tuple [mm, .tuple (c :: r)])
        cases hi with
        | tup hs2 ha3 =>
          refine ⟨_, rfl, iteT ⟨_, rfl, .inl ⟨rfl, _, SqL.of hp4⟩, _, rfl, a, _, 1, _, rfl, rfl, Same.tup s34 hs, atI_nat (j := 1) rfl, p, _, _, _, rfl, rfl, hp4, Same.tup s34 hs2, ?_, ?_⟩⟩
          · have l3 := dpAll_len ha3
            have l4 := ndAll_len (c :: r)
            have kn' : ndAll (c :: r) < ndD (.tuple [mm, .tuple (c :: r)]) := kn
            rw [sizeLine_eq]
            omega
          · refine ⟨ndAll es + ndAll (c :: r), ?_, _, _, es ++ (c :: r), rfl, same_past np s34, upd_same, dpAll_app ha2 ha3, fun d hm => ?_, ndAll_app _ _, ?_, ?_⟩
            · have kn' : ndAll (c :: r) < ndD (.tuple [mm, .tuple (c :: r)]) := kn
              omega
            · rcases List.mem_append.mp hm with q | q
              · exact fes d q
              · exact kids_fit fe (c := d) q
            · have kn' : ndAll (c :: r) < ndD (.tuple [mm, .tuple (c :: r)]) := kn
              omega
            · rw [List.all_append, ← all2, te]
              rfl
      | false =>
        rw [eg, if_neg Bool.false_ne_true] at te
        refine ⟨_, rfl, iteF ⟨_, rfl, _, rfl, x, y, ls, ls', T, e, rfl, kin.same s34, dp_same s34 he, fe, fun H5 s5 => ?_⟩⟩
        have p1 := nd_pos e
        cases el : isLeafD (nms ls) e with
        | true =>
          refine ⟨_, rfl, iteF ⟨ndAll es, by omega, _, _, es, rfl, s34.trans s5, s5 _ _ hp4, ha2, fes, rfl, by omega, ?_⟩⟩
          rw [← all2, te, el, Bool.and_true]
        | false =>
          refine ⟨_, rfl, iteT ?_⟩
          rw [te, el, Bool.and_false] at all2
          rw [← all2] at k
          exact k _ (s34.trans s5)
end
end K1

namespace K1
open PySem PySem.Spec PyProof.Rows L2 Own
/-! ### trees drawn -/
def msgs : List Str := ["", "all", "sub", "m"]
def LeafN (ns : List Str) (d : PyData) : Prop := ∃ z i, d = .tuple [.str z, .int i] ∧ z ∈ ns ∧ 0 ≤ i ∧ i < 9
def TreeN (ns : List Str) : Nat → PyData → Prop
  | 0, d => LeafN ns d
  | n + 1, d => LeafN ns d ∨ ∃ m cs, d = .tuple [.str m, .tuple cs] ∧ m ∈ msgs ∧ 1 ≤ cs.length ∧ cs.length ≤ 4 ∧ ∀ c ∈ cs, TreeN ns n c
theorem TreeN.leaf {ns : List Str} {d : PyData} (h : LeafN ns d) : ∀ n, TreeN ns n d
  | 0 => h
  | _ + 1 => .inl h
theorem msgs_ok : ∀ m ∈ msgs, okD (.str m) = true := by decide +kernel
theorem name_ok {z : Str} (h : NameOk z) : okD (.str z) = true := by
  show (PyData.strOk z && decide (z.length ≤ 1000)) = true
  rw [show PyData.strOk z = true from name_low h, decide_eq_true (by have := h.2.1; omega)]
  rfl
theorem okAll_of : ∀ {ds : List PyData}, (∀ d ∈ ds, okD d = true) → okAll ds = true
  | [], _ => rfl
  | d :: r, h => by
    show (okD d && okAll r) = true
    rw [h d (List.mem_cons_self ..), okAll_of fun x hx => h x (List.mem_cons_of_mem _ hx)]
    rfl
theorem depAll_le : ∀ {ds : List PyData} {n : Nat}, (∀ d ∈ ds, d.depth ≤ n) → PyData.depthAll ds ≤ n
  | [], _, _ => Nat.zero_le _
  | d :: r, n, h => Nat.max_le.mpr ⟨h d (List.mem_cons_self ..), depAll_le fun x hx => h x (List.mem_cons_of_mem _ hx)⟩
theorem ndAll_le : ∀ {ds : List PyData} {n : Nat}, (∀ d ∈ ds, ndD d ≤ n) → ndAll ds ≤ ds.length * n
  | [], _, _ => Nat.zero_le _
  | d :: r, n, h => by
    have a := h d (List.mem_cons_self ..)
    have b := ndAll_le (ds := r) (n := n) fun x hx => h x (List.mem_cons_of_mem _ hx)
    show ndD d + ndAll r ≤ (r.length + 1) * n
    rw [Nat.add_mul, Nat.one_mul]
    omega
theorem leaf_ok {ns : List Str} (nok : ∀ z ∈ ns, NameOk z) {d : PyData} (h : LeafN ns d) : okD d = true ∧ d.depth ≤ 1 ∧ ndD d = 3 := by
  obtain ⟨z, i, rfl, hz, _⟩ := h
  refine ⟨?_, (by show max 0 (max 0 0) + 1 ≤ 1; decide), rfl⟩
  show (true && (okD (.str z) && (okD (.int i) && true))) = true
  rw [name_ok (nok z hz)]
  rfl
theorem tree_ok {ns : List Str} (nok : ∀ z ∈ ns, NameOk z) : ∀ (n : Nat) (d : PyData), TreeN ns n d → okD d = true ∧ d.depth ≤ 2 * n + 1 ∧ ndD d ≤ 3 * 5 ^ n
  | 0, d, h => by
    obtain ⟨a, b, c⟩ := leaf_ok nok h
    exact ⟨a, by omega, by rw [c]; decide⟩
  | n + 1, d, h => by
    have p5 : 1 ≤ 5 ^ n := Nat.one_le_pow _ _ (by decide)
    have e5 : 5 ^ (n + 1) = 5 ^ n * 5 := Nat.pow_succ ..
    rcases h with h | ⟨m, cs, rfl, hm, l1, l4, hc⟩
    · obtain ⟨a, b, c⟩ := leaf_ok nok h
      exact ⟨a, by omega, by rw [c, e5]; omega⟩
    · have ih := fun c hm => tree_ok nok n c (hc c hm)
      refine ⟨?_, ?_, ?_⟩
      · show (true && (okD (.str m) && ((decide (cs.length ≤ 1000) && okAll cs) && true))) = true
        rw [msgs_ok m hm, decide_eq_true (by omega), okAll_of fun c hc => (ih c hc).1]
        rfl
      · have q := depAll_le fun c hc => (ih c hc).2.1
        show max 0 (max (PyData.depthAll cs + 1) 0) + 1 ≤ _
        omega
      · have q := ndAll_le fun c hc => (ih c hc).2.2
        show (1 + ((ndAll cs + 1) + 0)) + 1 ≤ _
        have r : cs.length * (3 * 5 ^ n) ≤ 4 * (3 * 5 ^ n) := Nat.mul_le_mul_right _ l4
        rw [e5]
        omega
theorem tree_fit {ns : List Str} (nok : ∀ z ∈ ns, NameOk z) {n : Nat} (hn : n ≤ 8) {d : PyData} (h : TreeN ns n d) : Fit d := by
  obtain ⟨a, b, _⟩ := tree_ok nok n d h
  exact ⟨a, by omega⟩
/-- all but what stands at s and at r stays -/
def Keep2 (s r : Addr) (H H' : Hp) : Prop := ∀ b o, b ≠ s → b ≠ r → H b = some o → H' b = some o
theorem Keep2.refl (s r : Addr) (H : Hp) : Keep2 s r H H := fun _ _ _ _ e => e
theorem Keep2.trans {s r : Addr} {H H1 H2 : Hp} (a : Keep2 s r H H1) (b : Keep2 s r H1 H2) : Keep2 s r H H2 := fun c o n m e => b c o n m (a c o n m e)
theorem Keep2.of {s r : Addr} {H H' : Hp} (h : Keep s H H') : Keep2 s r H H' := fun b o n _ e => h b o n e
theorem Keep2.ofS {s r : Addr} {H H' : Hp} (h : Same H H') : Keep2 s r H H' := fun b o _ _ e => h b o e
def RoomAt (H : Hp) (r : Addr) : Prop := ∃ z : Int, H r = some (.lst [.int z]) ∧ -1000000 ≤ z ∧ z ≤ 1000000
/-- only lists change -/
def Stay (H H' : Hp) : Prop := ∀ a o, (∀ xs, o ≠ HO.lst xs) → H a = some o → H' a = some o
theorem Stay.refl (H : Hp) : Stay H H := fun _ _ _ e => e
theorem Stay.trans {H H1 H2 : Hp} (a : Stay H H1) (b : Stay H1 H2) : Stay H H2 := fun c o n e => b c o n (a c o n e)
theorem Stay.of {H H' : Hp} (h : Same H H') : Stay H H' := fun b o _ e => h b o e
theorem Keep.stay {s : Addr} {H H' : Hp} (k : Keep s H H') (q : Src H s) : Stay H H' := fun a o n e => by
  obtain ⟨u, v, z, _⟩ := q
  exact k a o (fun h => by
    subst h
    rw [z] at e
    exact n _ (Option.some.inj e).symm) e
theorem Keep2.stay {s r : Addr} {H H' : Hp} {xs : List V} (k : Keep2 s r H H') (q : Src H s) (hr : H r = some (.lst xs)) : Stay H H' := fun a o n e => by
  obtain ⟨u, v, z, _⟩ := q
  exact k a o (fun h => by
    subst h
    rw [z] at e
    exact n _ (Option.some.inj e).symm) (fun h => by
    subst h
    rw [hr] at e
    exact n _ (Option.some.inj e).symm) e
mutual
/-- no list stands in it -/
def noList : PyData → Bool
  | .list _ => false
  | .tuple ds => noListAll ds
  | _ => true
def noListAll : List PyData → Bool
  | [] => true
  | d :: r => noList d && noListAll r
end
theorem noListAll_of : ∀ {ds : List PyData}, (∀ d ∈ ds, noList d = true) → noListAll ds = true
  | [], _ => rfl
  | d :: r, h => by
    show (noList d && noListAll r) = true
    rw [h d (List.mem_cons_self ..), noListAll_of fun x hx => h x (List.mem_cons_of_mem _ hx)]
    rfl
theorem sqT_stay {K : PySem.W.Frag} {H H' : Hp} (s : Stay H H') {a : Addr} {xs : List V} (h : SqT K H a xs) : SqT K H' a xs := by
  rcases h with (e | ⟨o, e⟩) | h
  · exact .inl (.inl (s _ _ (fun _ z => nomatch z) e))
  · exact .inl (.inr ⟨o, s _ _ (fun _ z => nomatch z) e⟩)
  · exact .inr h
section
variable {K : PySem.W.Frag} {H H' : Hp}
mutual
theorem dp_stay (s : Stay H H') : ∀ {v : V} {d : PyData}, Dp K H v d → noList d = true → Dp K H' v d
  | _, _, .non, _ => .non
  | _, _, .bl b, _ => .bl b
  | _, _, .int i, _ => .int i
  | _, _, .str z, _ => .str z
  | _, _, .lst _ _, n => absurd n (fun z => nomatch z)
  | _, _, .tup h a, n => .tup (sqT_stay s h) (dpAll_stay s a n)
theorem dpAll_stay (s : Stay H H') : ∀ {vs : List V} {ds : List PyData}, DpAll K H vs ds → noListAll ds = true → DpAll K H' vs ds
  | _, _, .nil, _ => .nil
  | _, _, .cons a r, n => .cons (dp_stay s a (Bool.and_eq_true_iff.mp n).1) (dpAll_stay s r (Bool.and_eq_true_iff.mp n).2)
end
end
theorem tree_flat {ns : List Str} : ∀ (n : Nat) (d : PyData), TreeN ns n d → noList d = true
  | 0, d, h => by
    obtain ⟨z, i, rfl, _⟩ := h
    rfl
  | n + 1, d, h => by
    rcases h with ⟨z, i, rfl, _⟩ | ⟨m, cs, rfl, hm, l1, l4, hc⟩
    · rfl
    · show (true && (noListAll cs && true)) = true
      rw [noListAll_of fun c hcm => tree_flat n c (hc c hcm)]
      rfl
theorem q_ifR {c : TT} {t u : TS} {D : Ends} {σ : L2.St} {H : Hp} (R : Hp → Prop) (yes : ∀ H2, R H2 → t D σ H2) (h : ∀ Z : Hp → Prop, (∀ H2, R H2 → Z H2) → c σ H (fun b H1 => if b = true then Z H1 else u D σ H1)) : tIfS c t u D σ H := h _ yes
theorem four3 {d : Int} (h0 : 0 ≤ d) (h1 : d < 4) : ∃ m, atI [V.str "", V.str "all", V.str "sub", V.str "m"] d = some (V.str m) ∧ m ∈ msgs := by
  have c : d = 0 ∨ d = 1 ∨ d = 2 ∨ d = 3 := by omega
  rcases c with e | e | e | e
  · subst e
    exact ⟨_, rfl, by decide +kernel⟩
  · subst e
    exact ⟨_, rfl, by decide +kernel⟩
  · subst e
    exact ⟨_, rfl, by decide +kernel⟩
  · subst e
    exact ⟨_, rfl, by decide +kernel⟩
theorem stay_upd {H : Hp} {c : Addr} {xs : List V} {o : HO} (h : H c = some (.lst xs)) : Stay H (upd H c o) := fun a u n e => by
  rw [upd_ne (fun z => by
    subst z
    rw [h] at e
    exact n _ (Option.some.inj e).symm)]
  exact e
theorem str_at {ns : List Str} {d : Int} (h0 : 0 ≤ d) (h : d < (ns.length : Int)) : ∃ x, x ∈ ns ∧ atI (ns.map V.str) d = some (.str x) := by
  obtain ⟨k, rfl⟩ : ∃ k : Nat, d = (k : Int) := ⟨d.toNat, by omega⟩
  have hk : k < ns.length := by omega
  exact ⟨ns[k], List.getElem_mem hk, atI_nat (by rw [List.getElem?_map, List.getElem?_eq_getElem hk]; rfl)⟩
theorem fit_list {ds : List PyData} (h : ∀ d ∈ ds, Fit d) (n : ds.length ≤ 1000) (dp : ∀ d ∈ ds, d.depth ≤ 50) : Fit (.list ds) := by
  refine ⟨?_, ?_⟩
  · show (decide (ds.length ≤ 1000) && okAll ds) = true
    rw [decide_eq_true n, okAll_of fun d hd => (h d hd).ok]
    rfl
  · have q := depAll_le dp
    show PyData.depthAll ds + 1 ≤ 60
    omega
def p4 : Nat → Nat
  | 0 => 1
  | n + 1 => p4 n * 4
theorem p4_pos : ∀ n, 1 ≤ p4 n
  | 0 => Nat.le_refl _
  | n + 1 => by
    have := p4_pos n
    show 1 ≤ p4 n * 4
    omega
def spRT (K : PySem.W.Frag) (m : Nat) : Sp := fun vs H Q _ => ∃ (s a r : Addr) (ns : List Str) (n : Nat) (z : Int), vs = [.ref s, .ref a, .int (n : Nat), .ref r] ∧ n < m ∧ n ≤ 8 ∧ Src H s ∧ H a = some (.lst (ns.map V.str)) ∧ 1 ≤ ns.length ∧ ns.length ≤ 8 ∧ (∀ x ∈ ns, NameOk x) ∧ H r = some (.lst [.int z]) ∧ z.natAbs + p4 n ≤ 1000000 ∧
  ∀ H' v d z', Keep2 s r H H' → Src H' s → H' r = some (.lst [.int z']) → z' ≤ z → z ≤ z' + (p4 n : Int) → Dp K H' v d → TreeN ns n d → Q v H'
section
variable {P : Program} {w : World} {K : PySem.W.Frag} {mg : Str → Option Value} {base : Heap}
abbrev nT : List Str := ["source", "labels", "depth", "room", "children", "k"]
theorem tree_none {f : Addr} {fd : FuncData} : FnOk P w K mg base CX0 1 f fd ["source", "labels", "depth", "room"] (spRT K 0) := by
  have no : ∀ vs H Q E, ¬ spRT K 0 vs H Q E := fun vs H Q E ⟨_, _, _, _, _, _, _, h, _⟩ => Nat.not_lt_zero _ h
  exact ⟨fun vs H Q E h => absurd h (no vs H Q E), fun A out s H args us vs Q E _ _ _ _ h => absurd h (no vs H Q E)⟩
end
end K1

namespace Own
open PySem PySem.Spec PyProof.Rows L2 HT
/-! t[::-1], t a tuple -/
section
variable {prog : Program} {w : World} {A : Around} {E : Value → Shared → Prop} {s : Shared}
theorem back_places (n : Nat) : Builtin.Slice.slicePlaces ((n : Int) - 1) (-1) (-1) = n := by
  unfold Builtin.Slice.slicePlaces
  rw [if_neg (by decide)]
  by_cases h : (n : Int) - 1 > -1
  · rw [if_pos h, show (- -1 : Int) = 1 by decide, Int.ediv_one]
    omega
  · rw [if_neg h]
    omega
theorem back_applied {sl : Addr} {k : Tok} {n : Nat} {Q : Int × Int × Nat → Shared → Prop} (sp : s.heap.IsSliceOf sl .none .none (.int (-1) k)) (q : Q ((n : Int) - 1, -1, n) s) : wpAny (model prog w) A (Builtin.Slice.sliceApplied (.ref sl) (pure (n : Int))) Q E s := by
  obtain ⟨o, ho, hc, hd⟩ := id sp
  unfold Builtin.Slice.sliceApplied Builtin.Slice.sliceFields
  refine wpAny_bind (wpAny_bind (wpAny_field ho hd (x := .none) rfl (wpAny_bind (wpAny_field ho hd (x := .none) rfl (wpAny_bind (wpAny_field ho hd (x := .int (-1) k) rfl (wpAny_pure ?_)))))))
  refine wpAny_bind (slicePart_ (.int (-1) k) ?_)
  show wpAny _ _ (if ((-1 : Int) == 0) = true then _ else _) _ _ s
  rw [if_neg (by decide)]
  refine wpAny_bind (slicePart_ .none (wpAny_bind (slicePart_ .none (wpAny_bind (wpAny_pure ?_)))))
  have e : Builtin.Slice.sliceAdjust none none (-1) (n : Int) = ((n : Int) - 1, -1) := rfl
  show wpAny _ _ (match Builtin.Slice.sliceAdjust none none (-1) (n : Int) with | (lo, hi) => pure (lo, (-1 : Int), Builtin.Slice.slicePlaces lo hi (-1))) _ _ s
  rw [e]
  show wpAny _ _ (pure ((n : Int) - 1, (-1 : Int), Builtin.Slice.slicePlaces ((n : Int) - 1) (-1) (-1))) _ _ s
  rw [back_places]
  exact wpAny_pure q
theorem fm_congr {α β : Type} {f g : α → Option β} : ∀ {l : List α}, (∀ m ∈ l, f m = g m) → l.filterMap f = l.filterMap g
  | [], _ => rfl
  | x :: r, h => by
    rw [List.filterMap_cons, List.filterMap_cons, h x (List.mem_cons_self ..), fm_congr fun m hm => h m (List.mem_cons_of_mem _ hm)]
theorem back_pick (xs : Array Value) : ((List.range xs.size).filterMap fun (m : Nat) => xs[(((xs.size : Int) - 1) + (m : Int) * -1).toNat]?).toArray = xs.toList.reverse.toArray := by
  have e : (List.range xs.size).filterMap (fun (m : Nat) => xs[(((xs.size : Int) - 1) + (m : Int) * -1).toNat]?) = ((List.range xs.size).map fun k => xs.size - 1 - k).filterMap (xs[·]?) := by
    rw [List.filterMap_map]
    refine fm_congr fun m hm => ?_
    have := List.mem_range.mp hm
    show xs[_]? = xs[xs.size - 1 - m]?
    congr 1
    omega
  rw [e, PySem.W.krv_range, List.filterMap_reverse, PySem.W.krv_all]
theorem back_tuple {t sl : Addr} {xs : Array Value} {k : Tok} {Q : Value → Shared → Prop} (tp : IsTup s.heap t xs) (sp : s.heap.IsSliceOf sl .none .none (.int (-1) k)) (zs : xs.size ≤ sizeLine)
    (q : Q (.ref s.heap.objs.size) { s with heap := s.heap.push { cls := .type "tuple", data := .seq xs.toList.reverse.toArray } }) : wpAny (model prog w) A (getItem (.ref t) (.ref sl)) Q E s := by
  obtain ⟨o, ho, hc, hd⟩ := id sp
  have sty : s.TypeIs (.ref sl) "slice" := ⟨o, ho, hc⟩
  have fits : sizeOk (.seq xs.toList.reverse.toArray) := by
    show xs.toList.reverse.toArray.size ≤ sizeLine
    rw [List.size_toArray, List.length_reverse, Array.length_toList]
    exact zs
  unfold getItem
  try with_reducible refine wpAny_holding ?_
  first | refine wpAny_bind (wpAny_pure ?_) | skip
  refine wpAny_bind (wpAny_sequenceKey tp.typeIs (by decide) (wpAny_bind (wpAny_callSpecial?_slot (name := Str.ofString "__getitem__") tp.typeIs PyProof.Rows.slot_tuple_getitem (wpAny_call_entry PyProof.Rows.slot_tuple_getitem tp.typeIs entry_tuple_getitem ?_ (args_tuple_getitem _ _)))))
  show wpAny _ _ (Builtin.Tuple.tupleItemsOf (.ref t) >>= _) _ _ s
  refine wpAny_bind (tupleItemsOf_ tp (wpAny_bind (wpAny_typeOf sty ?_)))
  rw [if_pos (by decide)]
  refine wpAny_bind (back_applied sp ?_)
  have no : ¬ ((((xs.size : Int) - 1) == 0 && (-1 : Int) == 1 && xs.size == xs.size) = true) := by
    intro z
    rw [Bool.and_eq_true, Bool.and_eq_true] at z
    have z1 : (-1 : Int) = 1 := eq_of_beq z.1.2
    exact absurd z1 (by decide)
  show wpAny _ _ (if (((xs.size : Int) - 1) == 0 && (-1 : Int) == 1 && xs.size == xs.size) = true then _ else _) _ _ s
  rw [if_neg no, back_pick]
  first
  | exact wpAny_bind (m := Builtin.Tuple.tupleExact _) (wpAny_newObj_type (wpAny_pure ⟨_, rfl, wpAny_pure q⟩) fits)
  | exact wpAny_bind (m := Builtin.Tuple.tupleExact _) (wpAny_newObj_type (wpAny_bind (wpAny_pure (wpAny_pure ⟨_, rfl, wpAny_pure q⟩))) fits)
  | exact wpAny_bind (wpAny_bind (m := Builtin.Tuple.tupleExact _) (wpAny_newObj_type (wpAny_pure (wpAny_pure ⟨_, rfl, wpAny_pure q⟩)) fits))
  | exact wpAny_bind (wpAny_bind (m := Builtin.Tuple.tupleExact _) (wpAny_newObj_type (wpAny_pure ⟨_, rfl, wpAny_pure q⟩) fits))
end
section
variable {X : Cx}
def tRevT (K : PySem.W.Frag) (te : TE) : TE := fun σ H Q => te σ H fun x H1 => ∃ a xs, x = .ref a ∧ SqT K H1 a xs ∧ ∀ p, H1 p = none → Q (.ref p) (upd H1 p (.tup xs.reverse))
theorem pe_revT {e : Expr} {te : TE} {k : Nat} {p1 p2 p3 pos : Pos} (he : PE X e te) : PE X (.Subscript e (.Slice none none (some (.UnaryOp .USub (.Constant (.int 1) k p1) p2)) p3) pos) (tRevT X.K te) := by
  refine ⟨fun pins s σ H Q I h => Subscript_ (thn (he.run pins s σ H _ I h) fun v s1 hv => ?_)⟩
  obtain ⟨x, H1, I1, r1, a, xs, rfl, hx, q⟩ := hv
  cases r1
  have step : PO X (some (.UnaryOp .USub (.Constant (.int 1) k p1) p2)) (tPart (tUn (rU fun i => .int (-i)) (tC (.int 1)))) := po_some (pe_un un_neg pe_int)
  refine wpAny_Slice (thn (po_none.run pins s1 σ H1 (fun o G => o = none ∧ G = H1) I1 ⟨rfl, rfl⟩) fun vl s2 h2 => ?_)
  obtain ⟨l, H2, I2, pl, rfl, rfl⟩ := h2
  refine thn (po_none.run pins s2 σ H2 (fun o G => o = none ∧ G = H2) I2 ⟨rfl, rfl⟩) fun vu s3 h3 => ?_
  obtain ⟨u, H3, I3, pu, rfl, rfl⟩ := h3
  refine thn (step.run pins s3 σ H3 (fun o G => o = some (-1) ∧ G = H3) I3 ⟨1, rfl, -1, rfl, rfl, rfl⟩) fun vs s4 h4 => ?_
  obtain ⟨o, H4, I4, ps, rfl, rfl⟩ := h4
  cases pl
  cases pu
  cases ps with
  | int _ tk =>
    have I5 := I4.kept (h' := s4.heap.push { cls := .type "slice", data := .fields #[.none, .none, .int (-1) tk] }) (t' := s4.toks) fun b ob z => Heap.get?_push_of_some _ z
    obtain ⟨its, r, tp, hz⟩ := I5.tuple hx
    have ln := r.length
    show wpAny (model X.prog X.w) X.A (subscriptTail e (.Slice none none (some (.UnaryOp .USub (.Constant (.int 1) k p1) p2)) p3) (.ref a) (.ref s4.heap.objs.size)) (EP X pins σ Q) X.xe _
    refine tail_any (ops := [.ref a, .ref s4.heap.objs.size]) tp.typeIs slot_tuple_getitem.lookup ?_ (by with_unfolding_all rfl)
    refine back_tuple tp (Heap.IsSliceOf.new _ .none .none (.int (-1) tk)) (by rw [List.size_toArray]; omega) ?_
    refine ⟨.ref _, _, I5.laid (t' := s4.toks) (o := .tup xs.reverse) (fun b ob z => Heap.get?_push_of_some _ z) (Nat.le_refl _) ?_, rfl, q _ (I5.hok.fresh (Nat.le_refl _))⟩
    refine ⟨by rw [List.length_reverse]; exact hz, its.reverse, r.reverse, _, Heap.get?_push_size _ rfl, rfl, 0, rfl⟩
end
end Own

namespace K1
open PySem PySem.Spec PyProof.Rows L2 Own
/-- what is new in H' -/
def fr (H H' : Hp) : Hp := fun a => match H a with
  | none => H' a
  | some _ => none
theorem fr_at {H H' : Hp} {a : Addr} {o : HO} (h : fr H H' a = some o) : H a = none ∧ H' a = some o := by
  unfold fr at h
  cases e : H a with
  | none =>
    rw [e] at h
    exact ⟨rfl, h⟩
  | some u =>
    rw [e] at h
    cases h
theorem fr_of {H H' : Hp} {a : Addr} {o : HO} (n : H a = none) (h : H' a = some o) : fr H H' a = some o := by
  unfold fr
  rw [n]
  exact h
/-! ### the law's table of kinds -/
theorem LinsAt.rows' {H : Hp} {a : Addr} {ls : List Ln} (h : LinsAt H a ls) : RowsAt H a ls := h.rows
def spSetup (C : Addr) : Sp := fun vs H Q _ => ∃ s, vs = [.ref s] ∧ Src H s ∧ ∀ H' p L O x ns ls ls' T T2 B, Keep s H H' → Src H' s → H' p = some (.tup [.ref L, .ref O, .ref x]) → H' L = some (.lst (ns.map V.str)) → 1 ≤ ns.length → ns.length ≤ 7 → Drawn ns → nms ls = ns → LnsOk ls → DictAt All1 H' O T → Tab Any1 ls T → Same B H' → (∀ a o, B a = some o → a ≠ s) → KIn C B x ls ls' T2 → Q (.ref p) H'
section
variable {P : Program} {w : World} {K : PySem.W.Frag} {mg : Str → Option Value} {base : Heap}
end
end K1

namespace Own
open PySem PySem.Spec PyProof.Rows L2
/-! f(k = v, ..), no value by place -/
def tCallK (n : Nat) (sp : Sp) (gV : List V → List V) (E : XK) (tk : TA) : TE := fun σ H Q => tk σ H fun zs H2 => zs.length = n ∧ sp (gV zs) H2 Q E
section
variable {X : Cx} {k : Nat} {f : Addr} {fd : FuncData} {ps ks : List Str} {sp : Sp} {E : XK} {x : Str} {p pos : Pos} {kws : List Keyword} {tk : TA} {g : List Value → List Value → List Value} {gV : List V → List V → List V}
theorem pe_callK (F : FnOk X.prog X.w X.K X.mg X.base CX0 k f fd ps sp) (hr : Room k X.A) (hg : Gl X x) (hm : X.mg x = some (.ref f)) (hk : PySem.W.keepIn X.K (.ref f) = true) (hb : KBn X.K fd ps 0 ks g gV) (hkw : PK X kws tk)
    (hal : (backToKw pos (keywordEach kws X.env)).all (·.1.isSome) = true := by rfl) (hks : (backToKw pos (keywordEach kws X.env)).filterMap (·.1) = ks := by rfl) (hdb : (x == ("__debug__" : Str)) = false := by decide)
    (hno : ((backTo pos (starEach [] X.env)).any (·.1) || (backToKw pos (keywordEach kws X.env)).any (·.1.isNone)) = false := by rfl) : PE X (.Call (.Name x p) [] kws pos) (tCallK ks.length sp (gV []) E tk) := by
  refine ⟨fun pins s σ H Q I h => wpAny_Call_Name_kw (ld_glob I hg hm ?_ hdb)⟩
  refine PySem.W.callWith_KW0 (h₀ := X.base) (first := []) I.ok.mod.kin hk hal (thn (hkw.run pos pins s σ H _ I h) fun ws s2 hw => ?_) hno
  obtain ⟨zs, H2, I2, rz, l, q⟩ := hw
  refine ⟨I2.kIn, ?_⟩
  rw [hks]
  exact run_fnN (E := E) F hr hb pass0 I2 .nil rz rfl l q
end
end Own

namespace Own
open PySem PySem.Spec PyProof.Rows L2
/-! ### x in (..): data among data -/
section
variable {X : Cx}
def rInTD (K : PySem.W.Frag) : R2 := fun x y H Q => ∃ d ds, Dp K H x d ∧ Dp K H y (.tuple ds) ∧ d.canLay0 = true ∧ PyData.canLayAll0 ds = true ∧ min (PyData.depthAll ds) d.depth ≤ 60 ∧ Q (.bl (ds.any fun z => PyData.eqv z d)) H
def rNotInTD (K : PySem.W.Frag) : R2 := fun x y H Q => ∃ d ds, Dp K H x d ∧ Dp K H y (.tuple ds) ∧ d.canLay0 = true ∧ PyData.canLayAll0 ds = true ∧ min (PyData.depthAll ds) d.depth ≤ 60 ∧ Q (.bl (!ds.any fun z => PyData.eqv z d)) H
theorem op_inTD (hu : X.A.units + 64 < cLine) : OpR X (compareOp .In) (rInTD X.K) := by
  intro pins s σ H x y v u Q I rx ry h
  obtain ⟨d, ds, hd, he, sd, se, dep, q⟩ := h
  obtain ⟨as, r1⟩ := Dp.reads I d x v hd rx
  obtain ⟨bs, r2⟩ := Dp.reads I (.tuple ds) y u he ry
  exact SeqAt.in_tuple_reads r2 r1 se sd (by omega) ⟨.bl _, H, I, rfl, q⟩
theorem op_notInTD (hu : X.A.units + 64 < cLine) : OpR X (compareOp .NotIn) (rNotInTD X.K) := by
  intro pins s σ H x y v u Q I rx ry h
  obtain ⟨d, ds, hd, he, sd, se, dep, q⟩ := h
  obtain ⟨as, r1⟩ := Dp.reads I d x v hd rx
  obtain ⟨bs, r2⟩ := Dp.reads I (.tuple ds) y u he ry
  exact SeqAt.notIn_tuple_reads r2 r1 se sd (by omega) ⟨.bl _, H, I, rfl, q⟩
end
end Own

namespace Own
open PySem PySem.Spec PyProof.Rows L2
/-! xs.extend(ys), ys any list that can be read -/
theorem extend_lst (l : Addr) (its : Array Value) (n : Nat) (b : Addr) (ts : Array Value) (m : Nat) (sl : Array (Option Value)) (h0 : ¬(!its.isEmpty && Builtin.List.listTooLong (its.size + ts.size)) = true) (h1 : its.size ≤ sizeLine) (h2 : its.size + ts.size ≤ sizeLine + 1) :
    Meets (Builtin.«list.extend» ⟨[.ref l, .ref b], []⟩) (fun _ R s => s.heap.get? l = some { cls := .type "list", dict := none, data := .seq its n, slots := #[] } ∧ s.heap.get? b = some { cls := .type "list", dict := none, data := .seq ts m, slots := sl } ∧
      R (.ok (.ret Value.none)) { s with heap := s.heap.update l (Obj.mapSeq fun x => x ++ ts), toks := s.toks }) := by
  refine .of_wp fun prog w A R s h => ?_
  obtain ⟨hp, g, d, tk, os⟩ := s
  obtain ⟨hl, hb, h⟩ := h
  have s1 := AutoSeq1.idx_int
  have s2 := AutoSeq1.sub_tuple_tuple
  have s3 := AutoSeq1.sub_list_list
  have s4 := AutoSeq1.sub_tuple_list
  have s5 := AutoSeq1.sub_list_tuple
  have hz : (its ++ ts).size ≤ sizeLine + 1 := by
    rw [Array.size_append]
    exact h2
  wp_walk using (wpAny_updateSeq hl rfl (hz := h1) (_hz' := hz)), AutoSeq1.wpAny_loadPart' hl, AutoSeq1.wpAny_loadPart' hb
  exact ⟨_, rfl, h⟩
section
variable {X : Cx}
def rExtL (K : PySem.W.Frag) : V → List V → Hp → VK → Prop := fun x vs H Q => ∃ l b xs zs, x = .ref l ∧ vs = [.ref b] ∧ H l = some (.lst xs) ∧ SqL K H b zs ∧ xs.length + zs.length ≤ sizeLine ∧ Q .non (upd H l (.lst (xs ++ zs)))
theorem mt_extL : MtM X "list.extend" (rExtL X.K) := by
  intro pins s σ H x vs v us Q I rx rv h
  obtain ⟨l, b, xs, zs, rfl, rfl, hH, hB, hz, q⟩ := h
  cases rx
  obtain ⟨u, rfl, ru⟩ := rv.one
  cases ru
  obtain ⟨z, its, n, r, hl, e⟩ := I.lstM hH
  obtain ⟨ts, r2, ⟨⟨oc, od, dt, sl⟩, m, e2, c2, n2, d2⟩, z2⟩ := I.list hB
  have c2' : oc = Value.type "list" := c2
  have d2' : dt = Data.seq ts.toArray m := d2
  have n2' : od = none := n2
  subst c2' d2' n2'
  have l2 := r2.length
  have sz : its.toArray.size + ts.toArray.size ≤ sizeLine := by
    rw [List.size_toArray, List.size_toArray]
    omega
  have short : ¬(!its.toArray.isEmpty && Builtin.List.listTooLong (its.toArray.size + ts.toArray.size)) = true := by
    rw [notLongL sz, Bool.and_false]
    exact Bool.false_ne_true
  refine call_meets F.slot_list_extend ⟨_, e, rfl⟩ F.entry_list_extend (F.args_list_extend_2 _ _) (extend_lst l its.toArray n b ts.toArray m sl short (by rw [List.size_toArray]; omega) (by omega)) ⟨e, e2, ?_⟩
  exact ⟨.non, _, I.lset (its' := its ++ ts) hH e (by simp) (r.append r2) (by rw [List.length_append]; omega), rfl, q⟩
end
end Own

namespace K1
open PySem PySem.Spec PyProof.Rows L2 Own
/-! ### spread: all nodes in a row -/
def rExtS (K : PySem.W.Frag) : V → List V → Hp → VK → Prop := fun x vs H Q => ∃ l b xs zs, x = .ref l ∧ vs = [.ref b] ∧ H l = some (.lst xs) ∧ (SqL K H b zs ∨ SqT K H b zs) ∧ xs.length + zs.length ≤ sizeLine ∧ Q .non (upd H l (.lst (xs ++ zs)))
theorem mt_extS {X : Cx} : MtM X "list.extend" (rExtS X.K) := by
  intro pins s σ H x vs v us Q I rx rv h
  obtain ⟨l, b, xs, zs, e1, e2, hH, hB, hz, q⟩ := h
  rcases hB with hB | hB
  · exact mt_extL pins s σ H x vs v us Q I rx rv ⟨l, b, xs, zs, e1, e2, hH, hB, hz, q⟩
  · exact mt_extT pins s σ H x vs v us Q I rx rv ⟨l, b, xs, zs, e1, e2, hH, hB, hz, q⟩
/-- the children of a node, a list or tuple of them -/
def spKids (K : PySem.W.Frag) (kf : PyData → List PyData) (good : PyData → Prop) : Sp := fun vs H Q _ => ∃ G v d, vs = [v] ∧ Same G H ∧ Dp K G v d ∧ good d ∧ ∀ H' c us, Same H H' → (SqL K G c us ∨ SqT K H' c us) → DpAll K G us (kf d) → Q (.ref c) H'
theorem Same.lst {K : PySem.W.Frag} {H H' : Hp} {a : Addr} {xs : List V} (s : Same H H') (h : SqL K H a xs) : SqL K H' a xs := h.elim (fun e => .inl (Same.rd s e)) .inr
/-- where a node's children stand -/
structure Spans (kf : PyData → List PyData) (ds : List PyData) (sp : List (Nat × Nat)) : Prop where
  len : sp.length ≤ ds.length
  at_ : ∀ i d, i < sp.length → ds[i]? = some d → ∃ a b, sp[i]? = some (a, b) ∧ i < a ∧ a ≤ b ∧ b ≤ ds.length ∧ (ds.drop a).take (b - a) = kf d
def SpanAt (H : Hp) (v : V) (ab : Nat × Nat) : Prop := ∃ t, v = .ref t ∧ H t = some (.tup [.int (ab.1 : Int), .int (ab.2 : Int)])
theorem SpanAt.same {H H' : Hp} {v : V} {ab : Nat × Nat} (h : SpanAt H v ab) (s : Same H H') : SpanAt H' v ab := by
  obtain ⟨t, e, ht⟩ := h
  exact ⟨t, e, s _ _ ht⟩
def spSpread (K : PySem.W.Frag) (kf : PyData → List PyData) (good : PyData → Prop) (f : Addr) : Sp := fun vs H Q _ => ∃ v d, vs = [v, .ref f] ∧ Dp K H v d ∧ good d ∧ ndD d ≤ 1000000 ∧
  ∀ H' p q1 q2 us ds ws sp, Same H H' → (H p = none ∧ H q1 = none ∧ H q2 = none) → H' p = some (.tup [.ref q1, .ref q2]) → H' q1 = some (.lst us) → H' q2 = some (.lst ws) → DpAll K H us ds → Paired (SpanAt H') ws sp → Spans kf ds sp → sp.length = ds.length → ds[0]? = some d → (∀ d ∈ ds, good d) → ds.length ≤ ndD d → Q (.ref p) H'
theorem SpanAt.stay {H H' : Hp} {v : V} {ab : Nat × Nat} (h : SpanAt H v ab) (s : Stay H H') : SpanAt H' v ab := by
  obtain ⟨t, e, ht⟩ := h
  exact ⟨t, e, s _ _ (fun _ z => nomatch z) ht⟩
theorem nd_drop {ds : List PyData} {i : Nat} {d : PyData} (h : ds[i]? = some d) : ndAll (ds.drop i) = ndD d + ndAll (ds.drop (i + 1)) := by
  obtain ⟨hi, e⟩ := List.getElem?_eq_some_iff.mp h
  rw [List.drop_eq_getElem_cons hi, e]
  rfl
theorem pair_snoc {α β : Type} {R : α → β → Prop} {xs : List α} {ys : List β} {x : α} {y : β} (h : Paired R xs ys) (r : R x y) : Paired R (xs ++ [x]) (ys ++ [y]) := by
  induction h with
  | nil => exact .cons r .nil
  | cons a b ih => exact .cons a ih
theorem drop_take_app {α : Type} {ds es : List α} {a n : Nat} (h : a + n ≤ ds.length) : ((ds ++ es).drop a).take n = (ds.drop a).take n := by
  rw [List.drop_append_of_le_length (by omega), List.take_append_of_le_length (by rw [List.length_drop]; omega)]
theorem Spans.grow {kf : PyData → List PyData} {ds : List PyData} {sp : List (Nat × Nat)} (h : Spans kf ds sp) {d : PyData} (hd : ds[sp.length]? = some d) : Spans kf (ds ++ kf d) (sp ++ [(ds.length, ds.length + (kf d).length)]) := by
  have hl : sp.length < ds.length := (List.getElem?_eq_some_iff.mp hd).1
  refine ⟨by rw [List.length_append, List.length_append, List.length_singleton]; omega, fun i e hi he => ?_⟩
  rw [List.length_append, List.length_singleton] at hi
  by_cases c : i < sp.length
  · have he' : ds[i]? = some e := by
      rw [List.getElem?_append_left (by omega)] at he
      exact he
    obtain ⟨a, b, e1, e2, e3, e4, e5⟩ := h.at_ i e c he'
    refine ⟨a, b, by rw [List.getElem?_append_left c]; exact e1, e2, e3, by rw [List.length_append]; omega, ?_⟩
    rw [drop_take_app (by omega)]
    exact e5
  · have ei : i = sp.length := by omega
    subst ei
    have he' : ds[sp.length]? = some e := by
      rw [List.getElem?_append_left hl] at he
      exact he
    rw [hd] at he'
    cases he'
    refine ⟨ds.length, ds.length + (kf d).length, by rw [List.getElem?_append_right (Nat.le_refl _), Nat.sub_self]; rfl, hl, by omega, by rw [List.length_append]; omega, ?_⟩
    rw [List.drop_append_of_le_length (Nat.le_refl _), List.drop_length, List.nil_append, Nat.add_sub_cancel_left, List.take_length]
section
variable {P : Program} {w : World} {K : PySem.W.Frag} {mg : Str → Option Value} {base : Heap}
theorem scSpread : FnScope ["root", "inside", "nodes", "spans", "children"] ["root", "inside"] (defScope sSpread) := ⟨rfl, rfl, rfl, by decide +kernel, rfl, by decide +kernel, by decide +kernel⟩
theorem ok_spread {f g : Addr} {fd gd : FuncData} {kf : PyData → List PyData} {good : PyData → Prop} {x : Str} {j : Nat} (F : Fun K "spread" "spread" sSpread f fd) (GI : FnOk P w K mg base CX0 j g gd [x] (spKids K kf good)) (kI : PySem.W.keepIn K (.ref g) = true) (bI : Binds K gd [x] []) (ml : mg "len" = none)
    (small : ∀ d, ndAll (kf d) < ndD d) (closed : ∀ d, good d → ∀ c ∈ kf d, good c) : FnOk P w K mg base CX0 (j + 1) f fd ["root", "inside"] (spSpread K kf good g) := by
  refine F.ok scSpread (fun vs H Q E h => ?_) (fun cdv A outer s H vs Q E hr h => ?_)
  · obtain ⟨v, d, rfl, _⟩ := h
    rfl
  · obtain ⟨v, d0, rfl, hd, gd0, big, k⟩ := h
    refine ⟨_, pss_cons (ps_set (i := 2) scSpread.nd rfl (Or.inl rfl) (pe_lst (pa_cons (pv 0) pa_nil)))
      (pss_cons (ps_set (i := 3) scSpread.nd rfl (Or.inl rfl) (pe_lst pa_nil))
      (pss_cons (ps_while PassesOwn.never (pt_cmpR op_lt (pe_callB call_len_seq (by rfl) ml PySem.boot_len (pa_cons (pv 3) pa_nil)) (pe_callB call_len_seq (by rfl) ml PySem.boot_len (pa_cons (pv 2) pa_nil)) (nomark _))
        (pss_cons (ps_set (i := 4) scSpread.nd rfl (Or.inl rfl) (pe_callL (i := 1) (E := E0) GI hr rfl (.inl rfl) kI bI .nil pass0 (pa_cons (pe_ix ix_list (pv 2) (pe_callB call_len_seq (by rfl) ml PySem.boot_len (pa_cons (pv 3) pa_nil)) (fun _ _ => rfl)) pa_nil)))
        (pss_cons (ps_expr (pe_bm PySem.F.plainAttrs_list PySem.F.slot_list_append PySem.F.type_list_append mt_append (pv 3) (pa_cons (pe_tup (pa_cons (pe_callB call_len_seq (by rfl) ml PySem.boot_len (pa_cons (pv 2) pa_nil)) (pa_cons (pe_op op_add (pe_callB call_len_seq (by rfl) ml PySem.boot_len (pa_cons (pv 2) pa_nil)) (pe_callB call_len_seq (by rfl) ml PySem.boot_len (pa_cons (pv 4) pa_nil))) pa_nil))) pa_nil)))
        (pss_one (ps_expr (pe_bm PySem.F.plainAttrs_list PySem.F.slot_list_extend PySem.F.type_list_extend mt_extS (pv 2) (pa_cons (pv 4) pa_nil)))))))
      (pss_one (ps_ret (pe_tup (pa_cons (pv 2) (pa_cons (pv 3) pa_nil))))))), ?_⟩
    refine ⟨_, rfl, (by show 1 ≤ sizeLine; decide), fun p np => ⟨Nat.zero_le _, fun q nq => ?_⟩⟩
    have s1 := same_upd (o := .lst [v]) np
    have s12 : Same H (upd (upd H p (.lst [v])) q (.lst [])) := s1.trans (same_upd nq)
    have pq : p ≠ q := fun e => by
      rw [← e, upd_same] at nq
      cases nq
    have nqH : H q = none := s1.free nq
    refine ⟨fun m σ H' => ∃ v4 us ds ws sp, σ = [some v, some (.ref g), some (.ref p), some (.ref q), v4] ∧ Same H H' ∧ H' p = some (.lst us) ∧ H' q = some (.lst ws) ∧ DpAll K H us ds ∧ Paired (SpanAt H') ws sp ∧ Spans kf ds sp ∧ ds[0]? = some d0 ∧ (∀ d ∈ ds, good d) ∧ sp.length + ndAll (ds.drop sp.length) ≤ ndD d0 ∧ m = ndAll (ds.drop sp.length),
      ⟨_, none, [v], [d0], [], [], rfl, s12, by rw [upd_ne pq]; exact upd_same, upd_same, .cons hd .nil, .nil, ⟨Nat.zero_le _, fun i d h => absurd h (Nat.not_lt_zero _)⟩, rfl, (fun d h => by rw [List.mem_singleton.mp h]; exact gd0), by show 0 + (ndD d0 + 0) ≤ _; omega, rfl⟩, ?_⟩
    rintro m σ H' ⟨v4, us, ds, ws, sp, rfl, sm, hp, hq, ha, hw, spn, d0at, gds, cnt, em⟩
    have lu := dpAll_len ha
    have lw := paired_len hw
    have ldrop := ndAll_len (ds.drop sp.length)
    have ltot : ds.length ≤ ndD d0 := by
      rw [List.length_drop] at ldrop
      omega
    refine ⟨_, rfl, q, _, rfl, .inl (SqL.of hq), _, rfl, p, _, rfl, .inl (SqL.of hp), _, _, rfl, rfl, _, rfl, ite2 (fun e => ?_) (fun e => ?_)⟩
    · have hlt := of_decide_eq_true e
      have hi : sp.length < ds.length := by omega
      have hdI : ds[sp.length]? = some ds[sp.length] := List.getElem?_eq_getElem hi
      have gI : good ds[sp.length] := gds _ (List.getElem_mem hi)
      obtain ⟨y, hy, hdy⟩ := dpAll_at' ha hdI
      have sml := small ds[sp.length]
      have ndd := nd_drop hdI
      have kl := ndAll_len (kf ds[sp.length])
      refine ⟨fun σ' H2 => ∃ m', m' < m ∧ ∃ v4 us ds ws sp, σ' = [some v, some (.ref g), some (.ref p), some (.ref q), v4] ∧ Same H H2 ∧ H2 p = some (.lst us) ∧ H2 q = some (.lst ws) ∧ DpAll K H us ds ∧ Paired (SpanAt H2) ws sp ∧ Spans kf ds sp ∧ ds[0]? = some d0 ∧ (∀ d ∈ ds, good d) ∧ sp.length + ndAll (ds.drop sp.length) ≤ ndD d0 ∧ m' = ndAll (ds.drop sp.length), fun σ' H2 q => q, ?_⟩
      refine ⟨rfl, _, rfl, _, rfl, q, _, rfl, .inl (SqL.of hq), p, _, _, y, rfl, rfl, SqL.of hp, by rw [lw]; exact atI_nat hy, H, y, ds[sp.length], rfl, sm, hdy, gI, fun H3 c zs s3 hc hz => ?_⟩
      have lz := dpAll_len hz
      have hp3 := s3 _ _ hp
      have hq3 := s3 _ _ hq
      have hcS : SqL K H3 c zs ∨ SqT K H3 c zs := hc.elim (fun z => .inl (Same.lst (sm.trans s3) z)) .inr
      refine ⟨_, rfl, .inl ⟨rfl, _, SqL.of hq3⟩, _, rfl, p, _, rfl, .inl (SqL.of hp3), _, rfl, p, _, rfl, .inl (SqL.of hp3), _, rfl, c, _, rfl, hcS, _, _, rfl, rfl, (by show 2 ≤ sizeLine; decide), fun t nt => ?_⟩
      have s4 := same_upd (o := .tup [.int ((us.length : Nat) : Int), .int (((us.length : Nat) : Int) + ((zs.length : Nat) : Int))]) nt
      have ht4 := upd_same (H := H3) (a := t) (o := .tup [.int ((us.length : Nat) : Int), .int (((us.length : Nat) : Int) + ((zs.length : Nat) : Int))])
      generalize upd H3 t (.tup [.int ((us.length : Nat) : Int), .int (((us.length : Nat) : Int) + ((zs.length : Nat) : Int))]) = H4 at s4 ht4 ⊢
      have hp4 := s4 _ _ hp3
      have hq4 := s4 _ _ hq3
      refine ⟨q, _, _, rfl, rfl, hq4, by rw [sizeLine_eq]; omega, ?_⟩
      have st5 := stay_upd (o := .lst (ws ++ [.ref t])) hq4
      have hp5 : upd H4 q (.lst (ws ++ [.ref t])) p = some (.lst us) := by
        rw [upd_ne pq]
        exact hp4
      have hq5 := upd_same (H := H4) (a := q) (o := .lst (ws ++ [.ref t]))
      have sm5 : Same H (upd H4 q (.lst (ws ++ [.ref t]))) := same_past nqH ((sm.trans s3).trans s4)
      have hc5 : SqL K (upd H4 q (.lst (ws ++ [.ref t]))) c zs ∨ SqT K (upd H4 q (.lst (ws ++ [.ref t]))) c zs := hc.elim (fun z => .inl (Same.lst sm5 z)) fun z => .inr (sqT_stay st5 (Same.tup s4 z))
      have hw4 : Paired (SpanAt H4) ws sp := paired_imp (fun _ _ z => (z.same s3).same s4) hw
      have hw5 : Paired (SpanAt (upd H4 q (.lst (ws ++ [.ref t])))) (ws ++ [.ref t]) (sp ++ [(ds.length, ds.length + (kf ds[sp.length]).length)]) := pair_snoc (paired_imp (fun _ _ z => z.stay st5) hw4) ⟨t, rfl, by
        rw [← lu, ← lz]
        exact st5 _ _ (fun _ z => nomatch z) ht4⟩
      generalize upd H4 q (.lst (ws ++ [.ref t])) = H5 at st5 hp5 hq5 sm5 hc5 hw5 ⊢
      refine ⟨_, rfl, .inl ⟨rfl, _, SqL.of hp5⟩, _, rfl, p, c, _, _, rfl, rfl, hp5, hc5, by rw [sizeLine_eq]; omega, ?_⟩
      have st6 := stay_upd (o := .lst (us ++ zs)) hp5
      have dropN : ndAll ((ds ++ kf ds[sp.length]).drop (sp ++ [(ds.length, ds.length + (kf ds[sp.length]).length)]).length) = ndAll (ds.drop (sp.length + 1)) + ndAll (kf ds[sp.length]) := by
        rw [List.length_append, List.length_singleton, List.drop_append_of_le_length (by omega), ndAll_app]
      refine ⟨_, by rw [em, ndd, dropN]; omega, _, us ++ zs, ds ++ kf ds[sp.length], _, sp ++ [(ds.length, ds.length + (kf ds[sp.length]).length)], rfl, same_past np sm5, upd_same, by rw [upd_ne pq.symm]; exact hq5, dpAll_app ha hz, paired_imp (fun _ _ z => z.stay st6) hw5, spn.grow hdI, ?_, fun d hm => ?_, ?_, rfl⟩
      · cases ds with
        | nil => cases d0at
        | cons a b => exact d0at
      · rcases List.mem_append.mp hm with h | h
        · exact gds d h
        · exact closed _ gI d h
      · rw [dropN, List.length_append, List.length_singleton]
        rw [ndd] at cnt
        omega
    · have hge : ¬ ((ws.length : Int) < (us.length : Int)) := fun z => e (decide_eq_true z)
      have le := spn.len
      refine ⟨_, rfl, _, rfl, (by show 2 ≤ sizeLine; decide), fun r nr => ?_⟩
      have s4 := same_upd (o := .tup [.ref p, .ref q]) nr
      exact k _ r p q us ds ws sp (sm.trans s4) ⟨sm.free nr, np, nqH⟩ upd_same (s4 _ _ hp) (s4 _ _ hq) ha (paired_imp (fun _ _ z => z.same s4) hw) spn (by omega) d0at gds ltot
end
end K1

namespace K1
open PySem PySem.Spec PyProof.Rows L2 Own
/-! ### the part of a tree -/
def star : Str := "*"
/-- trees of these kinds -/
inductive TreeK (ns : List Str) : PyData → Prop
  | leaf (z : Str) (i : Int) : z ∈ ns → TreeK ns (.tuple [.str z, .int i])
  | group (m : Str) (cs : List PyData) : m ≠ star → cs ≠ [] → (∀ c ∈ cs, TreeK ns c) → TreeK ns (.tuple [.str m, .tuple cs])
theorem TreeK.split {ns : List Str} {d : PyData} (h : TreeK ns d) : (∃ z i, d = .tuple [.str z, .int i] ∧ z ∈ ns) ∨ ∃ m cs, d = .tuple [.str m, .tuple cs] ∧ m ≠ star ∧ cs ≠ [] ∧ ∀ c ∈ cs, TreeK ns c := by
  cases h with
  | leaf z i hz => exact .inl ⟨z, i, rfl, hz⟩
  | group m cs hm ne hc => exact .inr ⟨m, cs, rfl, hm, ne, hc⟩
theorem TreeK.kids {ns : List Str} {d : PyData} (h : TreeK ns d) : ∀ c ∈ kidsD d, TreeK ns c := fun c hc => by
  rcases h.split with ⟨z, i, rfl, _⟩ | ⟨m, cs, rfl, _, _, hcs⟩
  · nomatch hc
  · exact hcs c hc
theorem TreeK.flat {ns : List Str} {d : PyData} (h : TreeK ns d) : noList d = true := by
  induction h with
  | leaf z i hz => rfl
  | group m cs hm ne hc ih =>
    show (true && (noListAll cs && true)) = true
    rw [noListAll_of ih]
    rfl
/-- what is left of a tree for these kinds -/
def cutD (ws : List Str) (d : PyData) : Option PyData :=
  match d with
  | .tuple [.str m, .tuple cs] => if cs.attach.filterMap (fun c => cutD ws c.1) = [] then none else some (.tuple [.str m, .tuple (cs.attach.filterMap fun c => cutD ws c.1)])
  | .tuple [.str z, .int i] => if z ∈ ws then some (.tuple [.str z, .int i]) else none
  | _ => none
termination_by ndD d
decreasing_by
  all_goals
    have a := kids_nd (.tuple [.str m, .tuple cs])
    have b := nd_mem c.2
    have e : kidsD (.tuple [.str m, .tuple cs]) = cs := rfl
    rw [e] at a
    omega
theorem cut_group (ws : List Str) (m : Str) (cs : List PyData) : cutD ws (.tuple [.str m, .tuple cs]) = if cs.filterMap (cutD ws) = [] then none else some (.tuple [.str m, .tuple (cs.filterMap (cutD ws))]) := by
  rw [cutD]
  have e : cs.attach.filterMap (fun c => cutD ws c.1) = cs.filterMap (cutD ws) := by
    have q := List.filterMap_map (f := fun (c : {x // x ∈ cs}) => c.1) (g := cutD ws) (l := cs.attach)
    rw [List.attach_map_subtype_val] at q
    exact q.symm
  rw [e]
theorem cut_leaf (ws : List Str) (z : Str) (i : Int) : cutD ws (.tuple [.str z, .int i]) = if z ∈ ws then some (.tuple [.str z, .int i]) else none := by
  rw [cutD]
def OptDp (K : PySem.W.Frag) (H : Hp) (v : V) : Option PyData → Prop
  | none => v = .non
  | some d => Dp K H v d
def flatO : Option PyData → Prop
  | none => True
  | some d => noList d = true
theorem cut_flat {ws ns : List Str} {d : PyData} (h : TreeK ns d) : flatO (cutD ws d) := by
  induction h with
  | leaf z i hz =>
    rw [cut_leaf]
    split
    · exact rfl
    · exact trivial
  | group m cs hm ne hc ih =>
    rw [cut_group]
    split
    · exact trivial
    · show (true && (noListAll (cs.filterMap (cutD ws)) && true)) = true
      rw [noListAll_of fun x hx => by
        obtain ⟨c, hcm, e⟩ := List.mem_filterMap.mp hx
        have q := ih c hcm
        rw [e] at q
        exact q]
      rfl
theorem OptDp.stay {K : PySem.W.Frag} {H H' : Hp} {v : V} : ∀ {o : Option PyData}, OptDp K H v o → flatO o → Stay H H' → OptDp K H' v o
  | none, h, _, _ => h
  | some _, h, f, s => dp_stay s h f
theorem ixN_n {n j : Nat} (hj : j < n) : ixN n (j : Int) = some j := by
  unfold ixN
  simp
  omega
theorem cut_tup {ws ns : List Str} {d e : PyData} (g : TreeK ns d) (h : cutD ws d = some e) : ∃ es, e = .tuple es := by
  rcases g.split with ⟨z, i, rfl, _⟩ | ⟨m, cs, rfl, _⟩
  · rw [cut_leaf] at h
    split at h
    · exact ⟨_, (Option.some.inj h).symm⟩
    · cases h
  · rw [cut_group] at h
    split at h
    · cases h
    · exact ⟨_, (Option.some.inj h).symm⟩
end K1

namespace Own
open PySem PySem.Spec PyProof.Rows L2 LamX
/-! a lambda with parameters, handed to a def that calls it -/
theorem zip_find {ps : List Str} : ∀ {us : List Value} {j : Nat} {y : Str} {u : Value}, ps.Nodup → ps[j]? = some y → us[j]? = some u →
    (ps.zip us).lookup y = some u := by
  induction ps with
  | nil => intro us j y u _ h _; simp at h
  | cons p ps ih =>
    intro us j y u nd h1 h2
    cases us with
    | nil => simp at h2
    | cons w us =>
      cases j with
      | zero =>
        simp only [List.getElem?_cons_zero, Option.some.injEq] at h1 h2
        subst h1; subst h2
        simp [List.zip_cons_cons, List.lookup]
      | succ j =>
        simp only [List.getElem?_cons_succ] at h1 h2
        have ne : y ≠ p := fun z => (List.nodup_cons.mp nd).1 (z ▸ List.mem_of_getElem? h1)
        rw [List.zip_cons_cons, List.lookup_cons, beq_false_of_ne ne]
        exact ih (List.nodup_cons.mp nd).2 h1 h2
theorem find_one {l : List (Str × Value)} {y : Str} {u : Value} (h : ∀ z ∈ l, z.1 = y → z.2 = u) (k : ∃ z ∈ l, z.1 = y) : l.lookup y = some u := by
  induction l with
  | nil => obtain ⟨z, hz, _⟩ := k; cases hz
  | cons p l ih =>
    obtain ⟨a, b⟩ := p
    rw [List.lookup_cons]
    by_cases e : y = a
    · rw [beq_iff_eq.mpr e]
      exact congrArg some (h (a, b) (List.mem_cons_self ..) e.symm)
    · rw [beq_false_of_ne e]
      refine ih (fun z hz => h z (List.mem_cons_of_mem _ hz)) ?_
      obtain ⟨z, hz, e2⟩ := k
      rcases List.mem_cons.mp hz with q | q
      · rw [q] at e2; exact absurd e2.symm e
      · exact ⟨z, q, e2⟩
theorem zip_one {ps : List Str} : ∀ {us : List Value} {j : Nat} {y : Str} {u : Value}, ps.Nodup → ps[j]? = some y → us[j]? = some u →
    ∀ z ∈ ps.zip us, z.1 = y → z.2 = u := by
  induction ps with
  | nil => intro us j y u _ h _; simp at h
  | cons p ps ih =>
    intro us j y u nd h1 h2
    cases us with
    | nil => simp at h2
    | cons w us =>
      intro z hz ez
      rw [List.zip_cons_cons] at hz
      cases j with
      | zero =>
        simp only [List.getElem?_cons_zero, Option.some.injEq] at h1 h2
        rcases List.mem_cons.mp hz with q | q
        · rw [q]; exact h2
        · exact absurd (List.of_mem_zip (a := z.1) (b := z.2) q).1 (by rw [ez, ← h1]; exact (List.nodup_cons.mp nd).1)
      | succ j =>
        simp only [List.getElem?_cons_succ] at h1 h2
        rcases List.mem_cons.mp hz with q | q
        · rw [q] at ez
          exact absurd (List.mem_of_getElem? h1) (by rw [← ez]; exact (List.nodup_cons.mp nd).1)
        · exact ih (List.nodup_cons.mp nd).2 h1 h2 z q ez
theorem zip_rev {ps : List Str} {us : List Value} {j : Nat} {y : Str} {u : Value} (nd : ps.Nodup) (h1 : ps[j]? = some y) (h2 : us[j]? = some u) :
    (ps.zip us).reverse.lookup y = some u := by
  refine find_one (fun z hz => zip_one nd h1 h2 z (List.mem_reverse.mp hz)) ⟨(y, u), List.mem_reverse.mpr ?_, rfl⟩
  exact PySem.mem_of_lookup (zip_find nd h1 h2)
/-- parameters of its own, all else captured or global -/
structure LamP (sc scope : Scope) (N ps : List Str) : Prop where
  kind : scope.kind = .function
  co : scope.isCoroutine = false
  gen : scope.isGenerator = false
  noCell : ∀ y ∈ scope.names, y.2 ≠ .cell
  loc : ∀ y ∈ scope.names, y.2 = .local → y.1 ∈ ps
  par : ∀ a ∈ ps, scope.names.lookup a = some .local
  apart : ∀ a ∈ ps, a ∉ N
  nd : ps.Nodup
  free : ∀ y ∈ scope.names, y.2 = .free → sc.names.lookup y.1 = some .cell ∨ sc.names.lookup y.1 = some .free
def lamPB (sc scope : Scope) (N ps : List Str) : Bool :=
  decide (scope.kind = .function) && (!scope.isCoroutine && (!scope.isGenerator && (decide ps.Nodup && ((ps.all fun a => decide (scope.names.lookup a = some .local) && !decide (a ∈ N)) &&
    scope.names.all fun y => !decide (y.2 = .cell) && ((!decide (y.2 = .local) || decide (y.1 ∈ ps)) && (!decide (y.2 = .free) || (decide (sc.names.lookup y.1 = some .cell) || decide (sc.names.lookup y.1 = some .free))))))))
theorem lamP_by {sc scope : Scope} {N ps : List Str} (h : lamPB sc scope N ps = true) : LamP sc scope N ps := by
  unfold lamPB at h
  simp only [Bool.and_eq_true, Bool.or_eq_true, Bool.not_eq_true', decide_eq_true_eq, decide_eq_false_iff_not, List.all_eq_true] at h
  obtain ⟨h1, h2, h3, h4, h5, h6⟩ := h
  exact ⟨h1, h2, h3, fun y hy => (h6 y hy).1, fun y hy e => (h6 y hy).2.1.elim (fun z => absurd e z) id, fun a ha => (h5 a ha).1, fun a ha => (h5 a ha).2, h4,
    fun y hy e => (h6 y hy).2.2.elim (fun z => absurd e z) id⟩
theorem LamP.has {X : Cx} {scope : Scope} {N ps : List Str} (L : LamP X.env.scope scope N ps) (ok : X.Ok) (y : Str × NameKind) (hy : y ∈ scope.names) (e : y.2 = .free) : ∃ c, X.env.cells.lookup y.1 = some c :=
  ok.has _ ((L.free y hy e).imp id id)
/-- the context of its body -/
def lamCxP (X : Cx) (A : Around) (out : List Env) (z : Shared) (HZ : Hp) (E : XK) (scope : Scope) (f c' : Addr) (ps : List Str) : Cx :=
  { lamCx X A out z HZ E scope f c' with N := X.N ++ ps }
section
variable {X : Cx} {pins : List (Addr × Obj)} {σ : L2.St} {H HZ : Hp} {s z : Shared}
theorem lam_startP {A : Around} {out : List Env} {E : XK} {scope : Scope} {f c' : Addr} {h₁ : Heap} {tk : Nat} {ps : List Str} {us : List Value} {vs : List V} (I : Inv X pins σ H s) (L : LamP X.env.scope scope X.N ps)
    (e0 : Env0 X.prog X.w X.K X.mg X.base A out z HZ) (hd : A.handled = none) (un : Un (frs X.stack) [] H HZ s.heap z.heap) (r : Vals vs us) (hl : vs.length = ps.length)
    (hns : h₁.Ns z.heap.objs.size fun y => (ps.zip us).reverse.lookup y) (kp : ∀ b o, z.heap.get? b = some o → h₁.get? b = some o) :
    Inv (lamCxP X A out z HZ E scope f c' ps) [] (σ ++ vs.map some) HZ { z with heap := h₁, toks := tk } := by
  have has := L.has I.ok
  have up : ∀ {y c}, (cloFrom X.env.cells scope.names []).lookup y = some c → X.env.cells.lookup y = some c := fun {y c} e => by
    rcases cloFrom_mem (PySem.mem_of_lookup e) with m | ⟨m, q⟩
    · cases m
    · obtain ⟨c2, k⟩ := has _ m rfl
      have k : X.env.cells.lookup y = some c2 := k
      rw [q, k] <;> first | rfl | exact k
  have down : ∀ {y}, scope.names.lookup y = some .free → ∃ c, (cloFrom X.env.cells scope.names []).lookup y = some c := fun {y} e => by
    have m : (y, NameKind.free) ∈ scope.names := PySem.mem_of_lookup e
    exact mem_lookup (cloFrom_has (cells := X.env.cells) (acc := []) m)
  have still : ∀ {c : Addr} {v : Option Value}, H c = none → s.heap.IsCell c v → h₁.IsCell c v := fun {c v} n ⟨o, ho, q⟩ => by
    obtain ⟨sl, w⟩ := un.any ho n (by simp)
    exact ⟨_, kp _ _ w, q⟩
  have none_ : ∀ b : Addr, b ∉ (lamCxP X A out z HZ E scope f c' ps).ex := fun b m => absurd (show b ∈ ([] : List Addr) from m) (by simp)
  have noC : ∀ {y}, scope.names.lookup y ≠ some .cell := fun {y} e => L.noCell _ (PySem.mem_of_lookup e) rfl
  refine ⟨⟨e0.mod, L.kind, rfl, rfl, Nat.le_refl _, fun x y c a b => I.ok.inj x y c (up a) (up b), fun y hy => ?_, fun y c q _ => ?_, fun _ => hd, Around.frames_deeper e0.frames, .inr ⟨rfl, rfl⟩,
      fun b q => absurd q (none_ b), e0.bs, e0.bsz, fun b _ _ => none_ b, fun b q => absurd q (none_ b), e0.funs, e0.frf⟩,
    rfl, e0.bare, Un.kept kp, ⟨_, hns, fun i y v a b vis => ?_⟩, fun y c e => ?_, e0.hok.fresh (Nat.le_refl _), fun y c e => ?_, fun q hq => absurd (show q ∈ ([] : List (Addr × Obj)) ++ [] from hq) (by simp), e0.hok.kept kp, ?_⟩
  · have hy : scope.names.lookup y = some .cell ∨ scope.names.lookup y = some .free := hy
    exact hy.elim (fun q => absurd q noC) down
  · exact absurd (show false = true from q) Bool.false_ne_true
  · have a : (X.N ++ ps)[i]? = some y := a
    have vis : Vis scope y := vis
    have lenσ := I.len
    by_cases hi : i < X.N.length
    · rw [List.getElem?_append_left hi] at a
      rw [List.getElem?_append_left (by rw [lenσ]; exact hi)] at b
      have inN : y ∈ X.N := List.mem_of_getElem? a
      rcases vis with k | k | k
      · exact absurd inN (L.apart _ (L.loc _ (PySem.mem_of_lookup k) rfl))
      · exact absurd k noC
      · obtain ⟨m, hn, look⟩ := I.loc
        have vis2 : Vis X.env.scope y := (L.free _ (PySem.mem_of_lookup k) rfl).elim (fun q => .inr (.inl q)) fun q => .inr (.inr q)
        obtain ⟨u, ru, q⟩ := look i y v a b vis2
        obtain ⟨c2, k2⟩ := down k
        refine ⟨u, ru, .inr ⟨.inr k, c2, k2, ?_⟩⟩
        rcases q with ⟨k3, _⟩ | ⟨_, c3, e3, cl⟩
        · have k3 : X.env.scope.names.lookup y = some .local := k3
          rcases L.free _ (PySem.mem_of_lookup k) rfl with k4 | k4
          · rw [show X.env.scope.names.lookup y = _ from k4] at k3; cases k3
          · rw [show X.env.scope.names.lookup y = _ from k4] at k3; cases k3
        · rw [up k2] at e3
          cases e3
          exact still (I.freeC y _ (up k2)) cl
    · have hi2 : X.N.length ≤ i := Nat.le_of_not_lt hi
      rw [List.getElem?_append_right hi2] at a
      rw [List.getElem?_append_right (by rw [lenσ]; exact hi2), lenσ] at b
      rw [List.getElem?_map] at b
      obtain ⟨w, hw, ew⟩ := Option.map_eq_some_iff.mp b
      obtain rfl : w = v := Option.some.inj ew
      obtain ⟨u, hu, ru⟩ := r.get hw
      exact ⟨u, ru, .inl ⟨L.par _ (List.mem_of_getElem? a), zip_rev L.nd a hu⟩⟩
  · obtain ⟨v, q⟩ := I.cell y c (up e)
    exact ⟨v, still (I.freeC y c (up e)) q⟩
  · obtain ⟨v, o, ho, q⟩ := I.cell y c (up e)
    exact un.free c o ho (I.freeC y c (up e)) (by simp)
  · show (σ ++ vs.map some).length = (X.N ++ ps).length
    rw [List.length_append, List.length_append, List.length_map, I.len, hl]
end
end Own

namespace Own
open PySem PySem.Spec PyProof.Rows L2 LamX
section
variable {X : Cx} {pins : List (Addr × Obj)} {σ : L2.St} {H : Hp} {s : Shared}
abbrev lamQ (X : Cx) : Str := X.env.qual ++ "<lambda>"
abbrev lamF (X : Cx) (params : Arguments) (body : Expr) (scope : Scope) (pm cv ctv : Value) : FuncData :=
  PySem.W.kla_fn "<lambda>" (lamQ X) params body scope (cloFrom X.env.cells scope.names []) pm cv ctv
theorem args_none {M : Model} {A : Around} {E : Value → Shared → Prop} {z : Shared} {f : Value} {Q : Args → Shared → Prop}
    (h : wpAny M A (spliced []) (fun us z' => Q ⟨us, []⟩ z') E z) : wpAny M A (evalArgs f true [] []) Q E z := by
  unfold evalArgs
  refine wpAny_bind (m := spliced []) (thn h fun us z' q => wpAny_holding (wpAny_bind (wpAny_pure (wpAny_bind (wpAny_pure (wpAny_pure q))))))
/-- the call of what the def got -/
theorem act_run {Z : Cx} {pinsZ : List (Addr × Obj)} {σZ : L2.St} {f c' : Addr} {pm ctv : Value} {params : Arguments} {body : Expr} {scope : Scope} {k : Nat} {E : XK} {W : WX} {tb : TE} {ps : List Str} {s2 : Shared} {H2 : Hp} {us : List Value} {vs : List V} {Q : VK}
    (eP : Z.prog = X.prog) (eW : Z.w = X.w) (eK : Z.K = X.K) (eM : Z.mg = X.mg) (eB : Z.base = X.base) (eS : Z.H_0 = H) (eh : Z.s_0 = s) (eo : Z.outer = X.stack) (ex : Z.ex = [])
    (I : Inv X pins σ H s) (L : LamP X.env.scope scope X.N ps) (hf : s.heap.get? f = some (PySem.W.kla_obj "<lambda>" (lamQ X) params body scope (cloFrom X.env.cells scope.names []) pm c' ctv)) (hfn : H f = none) (hfr : f ∉ frs X.stack)
    (hbind : ∀ us : List Value, us.length = ps.length → bindArgs (lamF X params body scope pm (.ref c') ctv) ⟨us, []⟩ = pure (ps.zip us))
    (tk : Takes Z W) (hW : ∀ cls d σ' H', E cls d H' → W cls d σ' H') (hr : Room (k + 1) Z.A)
    (hbody : ∀ (out : List Env) (z : Shared) (H : Hp), Room k (Z.A.deeper (lamEnv X scope z.heap.objs.size f c')) → PE (lamCxP X Z.A out z H E scope f c' ps) body tb)
    (I2 : Inv Z pinsZ σZ H2 s2) (r : Vals vs us) (hl : vs.length = ps.length) (hc : H2 c' = some (CodeO c' (lamQ X))) (q : tb (σ ++ vs.map some) H2 Q) :
    wpAny (model Z.prog Z.w) Z.A (call (.ref f) us) (EP Z pinsZ σZ Q) Z.xe s2 := by
  have base : Un (frs X.stack) [] H H2 s.heap s2.heap := by
    have u := I2.base
    rw [eS, eh, ex, show Z.fs = frs X.stack from congrArg frs eo] at u
    exact u
  have at2 : s2.heap.get? f = _ := base.keep f _ hf hfn hfr (by simp)
  obtain ⟨⟨oc, cs, t, k1, k2, k3⟩, _, _⟩ := I2.hok c' _ hc
  have lu : us.length = ps.length := r.length.symm.trans hl
  refine wpAny_call (codeAny_mono (R := CR (L2.CX Z.prog Z.w) Z.stack Z.prog Z.w H2 s2 Q E) ?_ fun res z hz => ?_)
  · refine PySem.W.kla_callFunE hr.depth at2 rfl L.co L.gen rfl ⟨c', oc, cs, t, rfl, k1, k2, k3⟩ ?_
    rw [hbind us lu]
    have loc : ∀ y ∈ ps.zip us, scope.names.lookup y.1 = some .local := fun y hy => L.par _ (List.of_mem_zip (a := y.1) (b := y.2) hy).1
    refine wpAny_pure (wpAny_newFunctionEnv (fun y hy => L.noCell y hy) loc (fun h₁ hns sb => ⟨I2.nolimit.fresh _ sb, ?_⟩) L.kind)
    have kp : ∀ b o, s2.heap.get? b = some o → h₁.get? b = some o := fun b o e =>
      sb.extBut b o (Nat.ne_of_lt (Heap.lt_size e)) (Heap.get?_push_of_some _ e)
    have e0 := I2.env0
    have hd := hr.hd
    rw [eP, eW, eK, eM, eB] at e0
    have J := lam_startP (E := E) (f := f) (c' := c') (tk := s2.toks + (ps.zip us).length) I L e0 hd base r hl hns kp
    rw [eP, eW]
    show codeAny _ _ (.expr body (lamEnv X scope s2.heap.objs.size f c')) _ _
    refine PySem.W.kla_codeExpr (wpAny_mono ((hbody Z.stack s2 H2 (hr.deeper _)).run [] _ _ H2 Q J q) (fun u z hz => ?_) fun e z hz => hz)
    obtain ⟨v, H', J', rv, q'⟩ := hz
    exact ⟨v, H', J'.os, J'.bare, J'.base, J'.hok, rv, q'⟩
  · match res, hz with
    | .error e, hz => exact passes_call tk hW pinsZ σZ H2 s2 e z I2 hz
    | .ok (.ret u), hz => exact I2.after hz
    | .ok .next, hz => exact hz.elim
    | .ok .brk, hz => exact hz.elim
    | .ok .cont, hz => exact hz.elim
/-- what a call of it reads -/
def tAct (i m : Nat) (f c' : Addr) (q : Str) (ta : TA) (tl : List V → XK → Hp → VK → Prop) (E : XK) : TE :=
  fun σZ HZ Q => σZ[i]? = some (some (.ref f)) ∧ ta σZ HZ fun vs H2 => vs.length = m ∧ H2 c' = some (CodeO c' q) ∧ tl vs E H2 Q
theorem fn_still {f : Addr} {h : Heap} {o : Obj} {fd : FuncData} (e : h.get? f = some o) (d : o.data = .func fd) : PySem.W.FnAt f h := by
  obtain ⟨oc, od, dt, sl⟩ := o
  cases d
  exact ⟨oc, od, fd, sl, e⟩
theorem pe_actP {Z : Cx} {f c' : Addr} {pm ctv : Value} {params : Arguments} {body : Expr} {scope : Scope} {k i : Nat} {a : Str} {E : XK} {W : WX} {tb : TE} {ps : List Str} {es : List Expr} {ta : TA} {p1 p2 : Pos}
    (eP : Z.prog = X.prog) (eW : Z.w = X.w) (eK : Z.K = X.K) (eM : Z.mg = X.mg) (eB : Z.base = X.base) (eS : Z.H_0 = H) (eh : Z.s_0 = s) (eo : Z.outer = X.stack) (ex : Z.ex = [])
    (I : Inv X pins σ H s) (L : LamP X.env.scope scope X.N ps) (hf : s.heap.get? f = some (PySem.W.kla_obj "<lambda>" (lamQ X) params body scope (cloFrom X.env.cells scope.names []) pm c' ctv)) (hfn : H f = none) (hfr : f ∉ frs X.stack)
    (hbind : ∀ us : List Value, us.length = ps.length → bindArgs (lamF X params body scope pm (.ref c') ctv) ⟨us, []⟩ = pure (ps.zip us))
    (tk : Takes Z W) (hW : ∀ cls d σ' H', E cls d H' → W cls d σ' H') (hr : Room (k + 1) Z.A)
    (hbody : ∀ (out : List Env) (z : Shared) (H : Hp), Room k (Z.A.deeper (lamEnv X scope z.heap.objs.size f c')) → PE (lamCxP X Z.A out z H E scope f c' ps) body tb)
    (hN : Z.N[i]? = some a) (hv : Vis Z.env.scope a) (ha : PA Z es ta) (hst : es = [] ∨ ∃ e rest, es = e :: rest ∧ starEach es Z.env = (false, eval e Z.env) :: starEach rest Z.env ∧ ∀ pos, (backTo pos (starEach rest Z.env)).any (·.1) = false)
    (hd : (a == ("__debug__" : Str)) = false := by decide) (hcd : (a == ("__classdict__" : Str)) = false := by decide) :
    PE Z (.Call (.Name a p1) es [] p2) (tAct i ps.length f c' (lamQ X) ta (fun vs _ H2 Q => tb (σ ++ vs.map some) H2 Q) E) := by
  refine ⟨fun pinsZ sZ σZ HZ Q IZ h => ?_⟩
  obtain ⟨hs, h⟩ := h
  refine wpAny_Call_Name_kw (thn ((pe_var (pos := p1) (i := i) hN hv hd hcd).run pinsZ sZ σZ HZ (fun v H1 => v = .ref f ∧ H1 = HZ) IZ ⟨.ref f, hs, rfl, rfl⟩) fun u s1 ⟨v, H1, I1, r1, q1⟩ => ?_)
  obtain ⟨q1, q2⟩ := q1
  subst q1
  rw [q2] at I1
  obtain rfl : u = Value.ref f := r1
  have still : ∀ {s2 : Shared} {H2 : Hp}, Inv Z pinsZ σZ H2 s2 → PySem.W.FnAt f s2.heap := fun {s2 H2} I2 => by
    have u := I2.base
    rw [eS, eh, ex, show Z.fs = frs X.stack from congrArg frs eo] at u
    exact fn_still (u.keep f _ hf hfn hfr (by simp)) rfl
  have go : ∀ {s2 : Shared} {us : List Value}, AP Z pinsZ σZ (fun vs H2 => vs.length = ps.length ∧ H2 c' = some (CodeO c' (lamQ X)) ∧ tb (σ ++ vs.map some) H2 Q) us s2 →
      wpAny (model Z.prog Z.w) Z.A (call (.ref f) us) (EP Z pinsZ σZ Q) Z.xe s2 := fun {s2 us} ⟨vs, H2, I2, r, l, hc, q⟩ =>
    act_run eP eW eK eM eB eS eh eo ex I L hf hfn hfr hbind tk hW hr hbody I2 r l hc q
  rcases hst with e | ⟨e, rest, e1, e2, e3⟩
  · subst e
    exact PySem.W.callWith_of (first := []) rfl PySem.W.keeps_F (args_none (thn (ha.run p2 pinsZ s1 σZ HZ _ I1 h) fun us s2 x => ⟨still x.choose_spec.choose_spec.1, go x⟩))
  · subst e1
    exact PySem.W.callWith_F (first := []) (still I1) (thn (ha.run p2 pinsZ s1 σZ HZ _ I1 h) fun us s2 x => ⟨still x.choose_spec.choose_spec.1, go x⟩) e2 (e3 _)
end
end Own

namespace Own
open PySem PySem.Spec PyProof.Rows L2 LamX
/-- code objects stay -/
def CodesKept (H H' : Hp) : Prop := ∀ (c : Addr) (q : Str), H c = some (CodeO c q) → H' c = some (CodeO c q)
theorem CodesKept.refl (H : Hp) : CodesKept H H := fun _ _ e => e
theorem CodesKept.trans {H H1 H2 : Hp} (a : CodesKept H H1) (b : CodesKept H1 H2) : CodesKept H H2 := fun c q e => b c q (a c q e)
theorem CodesKept.ofN {H H' : Hp} (a : ExtN H H') : CodesKept H H' := fun c q e => a c _ e codeO_ne
theorem CodesKept.of {H H' : Hp} (a : ∀ b o, H b = some o → H' b = some o) : CodesKept H H' := fun c q e => a c _ e
abbrev Lread := List V → XK → Hp → VK → Prop
abbrev Lmeans := List V → Lread → Hp → VK → Prop
abbrev gCx (X : Cx) (Ng : List Str) (x : Str) (sg : Scope) (g : Addr) (cdg : Value) (s : Shared) (H : Hp) : Cx :=
  cxOf CX0 X.prog X.w X.K X.mg X.base Ng x sg g cdg X.A X.stack s H fun _ _ _ => False
def PlainArgs (es : List Expr) (env : Env) : Prop := es = [] ∨ ∃ e rest, es = e :: rest ∧ starEach es env = (false, eval e env) :: starEach rest env ∧ ∀ pos, (backTo pos (starEach rest env)).any (·.1) = false
/-- what may be done with the lambda that the def has as its variable i, of m parameters -/
def Act (Z : Cx) (i m : Nat) (a : Str) (f c' : Addr) (q : Str) (tl : Lread) : Prop :=
  ∀ (W : WX) (pn : List (Addr × Obj)) (xe : Value → Shared → Prop) (E : XK) (es : List Expr) (ta : TA) (p1 p2 : Pos), Takes (Z.tr pn xe) W → (∀ cls d σ' H', E cls d H' → W cls d σ' H') →
    PA (Z.tr pn xe) es ta → PlainArgs es Z.env → PE (Z.tr pn xe) (.Call (.Name a p1) es [] p2) (tAct i m f c' q ta tl E)
/-- the def that calls what it got last, behind n other values -/
def GivesN (X : Cx) (k : Nat) (Ng : List Str) (n m : Nat) (x : Str) (sg : Scope) (g : Addr) (cdg : Value) (bg : List Stmt) (a : Str) (TT : Lmeans) : Prop :=
  ∀ (f c' : Addr) (q : Str) (s : Shared) (H : Hp) (vs : List V) (Q : VK) (tl : Lread), vs.length = n → Calm (gCx X Ng x sg g cdg s H).A → Room k (gCx X Ng x sg g cdg s H).A →
    Act (gCx X Ng x sg g cdg s H) n m a f c' q tl → H c' = some (CodeO c' q) → TT vs tl H Q →
    ∃ t, PSs (gCx X Ng x sg g cdg s H).nox bg t ∧ t { nx := fun _ H' => Q .non H', rt := Q } (L2.start Ng (vs ++ [.ref f])) H
section
variable {X : Cx} {T : List (Addr × Str)} {TT : Lmeans} {x a : Str} {g c P : Addr} {k n : Nat} {pg : Arguments} {bg : List Stmt} {sg : Scope} {dV kV doc pm cdv ct oc : Value} {an od : Option Addr} {osl : Array (Option Value)} {Ng qs ps : List Str}
  {params : Arguments} {body : Expr} {scope : Scope} {t : XK → TE} {p lpos pos : Pos}
/-- all that a call with a lambda rests on -/
structure LamCall (X : Cx) (T : List (Addr × Str)) (TT : Lmeans) (x a : Str) (g c P : Addr) (k n : Nat) (pg : Arguments) (bg : List Stmt) (sg : Scope) (dV kV doc pm cdv ct oc : Value) (an od : Option Addr) (osl : Array (Option Value)) (Ng qs ps : List Str)
    (params : Arguments) (body : Expr) (scope : Scope) (t : XK → TE) : Prop where
  hm : X.mg x = some (.ref g)
  hk : PySem.W.keepIn X.K (.ref g) = true
  lk : X.K.lookup g = some ⟨oc, od, .func (PySem.W.fnOf x x pg bg sg dV kV doc pm an cdv ct), osl⟩
  hcg : PySem.W.codeIn X.K cdv x = true
  hb : L2.Binds X.K (PySem.W.fnOf x x pg bg sg dV kV doc pm an cdv ct) (qs ++ [a]) []
  ql : qs.length = n
  Sg : FnScope Ng (qs ++ [a]) sg
  hNg : Ng[n]? = some a
  hva : Vis sg a
  hG : GivesN X (k + 1) Ng n ps.length x sg g cdv bg a TT
  TB : TabB X.base X.mg c P
  hcode : X.env.code = .ref c
  hmT : (P, lamQ X) ∈ T
  hu : ∀ p ∈ T, p.1 = P → p.2 = lamQ X
  hc : Calm X.A
  hr : Room (k + 2) X.A
  L : LamP X.env.scope scope X.N ps
  hdef : defaultsOf params X.env = ([], [])
  hbind : ∀ (pm cv ctv : Value) (us : List Value), us.length = ps.length → bindArgs (lamF X params body scope pm cv ctv) ⟨us, []⟩ = pure (ps.zip us)
  hbody : ∀ (A : Around) (out : List Env) (z : Shared) (H : Hp) (E : XK) (f c' : Addr), Calm (lamCxP X A out z H E scope f c' ps).A → Room k (lamCxP X A out z H E scope f c' ps).A → PE (lamCxP X A out z H E scope f c' ps) body (t E)
  hd : (a == ("__debug__" : Str)) = false := by decide
  hcd : (a == ("__classdict__" : Str)) = false := by decide
theorem lam_go (C : LamCall X T TT x a g c P k n pg bg sg dV kV doc pm cdv ct oc an od osl Ng qs ps params body scope t) {pins : List (Addr × Obj)} {σ : L2.St} {H : Hp} {s : Shared} {Q : VK} {us : List Value} {vs : List V} (I : Inv X pins σ H s) (r : Vals vs us) (l : vs.length = n)
    (hT : Tabs T H) (h : ∀ H1, ExtN H H1 → Tabs T H1 → TT vs (fun ws E H' Q' => t E (σ ++ ws.map some) H' Q') H1 Q) :
    wpAny (model X.prog X.w) X.A (eval (.Lambda params body scope lpos) X.env) (fun v s1 => X.K.In s1.heap ∧ wpAny (model X.prog X.w) X.A (call (.ref g) (us ++ [v])) (EP X pins σ Q) X.xe s1) X.xe s := by
  refine lam_make2 I C.TB C.hcode C.hmT C.hu hT C.hdef (fun y hy e => C.L.has I.ok y hy e) fun f c' pm' ctv H1 s' I1 eN T1 hf hfn hfr hco => ⟨I1.kIn, ?_⟩
  have rv : Vals (vs ++ [V.ref f]) (us ++ [Value.ref f]) := r.append (.cons rfl .nil)
  have lv : (vs ++ [V.ref f]).length = (qs ++ [a]).length := by simp [l, C.ql]
  have lu : (us ++ [Value.ref f]).length = (qs ++ [a]).length := rv.length.symm.trans lv
  have b := C.hb s' (us ++ [.ref f]) I1.kIn (by rw [List.append_nil]; exact lu)
  rw [List.append_nil] at b
  refine wpAny_call (codeAny_mono (R := CR CX0 X.stack X.prog X.w H1 s' Q fun _ _ _ => False) ?_ fun res z hz => ?_)
  · refine run_ofS (N := Ng) C.lk C.hcg C.Sg C.hr I1.env0 b rv lv fun hr' => ?_
    have act : Act (gCx X Ng x sg g cdv s' H1) n ps.length a f c' (lamQ X) fun ws E H' Q' => t E (σ ++ ws.map some) H' Q' := fun W pn xe E es ta p1 p2 tk hW ha hst =>
      pe_actP (Z := (gCx X Ng x sg g cdv s' H1).tr pn xe) rfl rfl rfl rfl rfl rfl rfl rfl rfl I1 C.L hf hfn hfr (C.hbind _ _ _) tk hW hr'
        (fun out z H hr2 => C.hbody _ out z H E f c' C.hc hr2) C.hNg C.hva ha hst C.hd C.hcd
    obtain ⟨t', ht, hq⟩ := C.hG f c' (lamQ X) s' H1 vs Q _ l (C.hc.deeper _) hr' act hco (h H1 eN T1)
    exact ⟨t', ht.nox, hq⟩
  · match res, hz with
    | .error _, hz => exact hz.elim
    | .ok (.ret u), hz => exact I1.after hz
    | .ok .next, hz => exact hz.elim
    | .ok .brk, hz => exact hz.elim
    | .ok .cont, hz => exact hz.elim
def tLam0 (T : List (Addr × Str)) (TT : Lmeans) (t : XK → TE) : TE := fun σ H Q =>
  Tabs T H ∧ ∀ H1, ExtN H H1 → Tabs T H1 → TT [] (fun ws E H' Q' => t E (σ ++ ws.map some) H' Q') H1 Q
/-- x(lambda: body) -/
theorem pe_lam0 (C : LamCall X T TT x a g c P k 0 pg bg sg dV kV doc pm cdv ct oc an od osl Ng qs ps params body scope t) (hg : Gl X x) (hdb : (x == ("__debug__" : Str)) = false := by decide) :
    PE X (.Call (.Name x p) [.Lambda params body scope lpos] [] pos) (tLam0 T TT t) := by
  refine ⟨fun pins s σ H Q I h => wpAny_Call_Name_kw (ld_glob I hg C.hm (PySem.W.callWith_K (h₀ := X.base) I.ok.mod.kin C.hk ?_ (by rfl) (by rfl)) hdb)⟩
  show wpAny _ _ (spliced ((false, eval (.Lambda params body scope lpos) X.env) :: backTo pos (starEach [] X.env))) _ _ s
  refine Calls.spliced_cons (thn (lam_go C I .nil rfl h.1 h.2) fun v s1 q => ?_)
  exact Calls.spliced_nil q
def tLam1 (T : List (Addr × Str)) (TT : Lmeans) (t1 : TE) (t : XK → TE) : TE := fun σ H Q =>
  t1 σ H fun v H0 => Tabs T H0 ∧ ∀ H1, ExtN H0 H1 → Tabs T H1 → TT [v] (fun ws E H' Q' => t E (σ ++ ws.map some) H' Q') H1 Q
/-- x(e, lambda ..: body) -/
theorem pe_lam1 {e : Expr} {t1 : TE} (C : LamCall X T TT x a g c P k 1 pg bg sg dV kV doc pm cdv ct oc an od osl Ng qs ps params body scope t) (hg : Gl X x) (he : PE X e t1) (hdb : (x == ("__debug__" : Str)) = false := by decide)
    (hst : starEach [e, .Lambda params body scope lpos] X.env = (false, eval e X.env) :: starEach [.Lambda params body scope lpos] X.env := by rfl) :
    PE X (.Call (.Name x p) [e, .Lambda params body scope lpos] [] pos) (tLam1 T TT t1 t) := by
  refine ⟨fun pins s σ H Q I h => wpAny_Call_Name_kw (ld_glob I hg C.hm (PySem.W.callWith_K (h₀ := X.base) I.ok.mod.kin C.hk ?_ hst (by rfl)) hdb)⟩
  rw [hst]
  show wpAny _ _ (spliced ((false, eval e X.env) :: (false, eval (.Lambda params body scope lpos) X.env) :: backTo pos (starEach [] X.env))) _ _ s
  refine Calls.spliced_cons (thn (he.run pins s σ H _ I h) fun u s0 ⟨v, H0, I0, r0, q⟩ => ?_)
  refine Calls.spliced_cons (thn (lam_go (us := [u]) C I0 (.cons r0 .nil) rfl q.1 q.2) fun w s1 q => ?_)
  exact Calls.spliced_nil q
end
end Own

namespace K1
open PySem PySem.Spec PyProof.Rows L2 Own
/-! ### changing the pieces of a tree, from left to right -/
def hasKidsD : PyData → Bool
  | .tuple [.str m, .tuple _] => !decide (m = star)
  | _ => false
def hdS : PyData → Str
  | .tuple (.str m :: _) => m
  | _ => star
def grp (m : Str) (rs : List PyData) : Option PyData := if rs.isEmpty = true then none else some (.tuple [.str m, .tuple rs])
section
variable {α : Type}
mutual
def rebS (g : α → PyData → α × Option PyData) (a : α) (d : PyData) : α × Option PyData :=
  if hasKidsD d = true then ((rebAll g a (kidsD d)).1, grp (hdS d) (rebAll g a (kidsD d)).2) else g a d
termination_by 2 * ndD d
decreasing_by
  all_goals
    have := kids_nd d
    omega
def rebAll (g : α → PyData → α × Option PyData) (a : α) (cs : List PyData) : α × List PyData :=
  match cs with
  | [] => (a, [])
  | c :: r => ((rebAll g (rebS g a c).1 r).1, (rebS g a c).2.toList ++ (rebAll g (rebS g a c).1 r).2)
termination_by 2 * ndAll cs + 1
decreasing_by
  all_goals
    have p := nd_pos c
    have e : ndAll (c :: r) = ndD c + ndAll r := rfl
    omega
end
theorem rebS_kids {g : α → PyData → α × Option PyData} {a : α} {d : PyData} (h : hasKidsD d = true) : rebS g a d = ((rebAll g a (kidsD d)).1, grp (hdS d) (rebAll g a (kidsD d)).2) := by
  rw [rebS, if_pos h]
theorem rebS_piece {g : α → PyData → α × Option PyData} {a : α} {d : PyData} (h : hasKidsD d = false) : rebS g a d = g a d := by
  rw [rebS, if_neg (by rw [h]; exact Bool.false_ne_true)]
theorem rebAll_nil {g : α → PyData → α × Option PyData} {a : α} : rebAll g a [] = (a, []) := by rw [rebAll]
theorem rebAll_cons {g : α → PyData → α × Option PyData} {a : α} {c : PyData} {r : List PyData} : rebAll g a (c :: r) = ((rebAll g (rebS g a c).1 r).1, (rebS g a c).2.toList ++ (rebAll g (rebS g a c).1 r).2) := by rw [rebAll]
/-- the groups that are begun, the innermost first -/
abbrev Begun := List (Str × List PyData)
def push (r : Option PyData) : Begun → Begun
  | (m, cs) :: b => (m, cs ++ r.toList) :: b
  | [] => []
def fin (g : α → PyData → α × Option PyData) : α → List (Option PyData) → Begun → α × Begun
  | a, [], b => (a, b)
  | a, some d :: p, b => fin g (rebS g a d).1 p (push (rebS g a d).2 b)
  | a, none :: p, (m, cs) :: b => fin g a p (push (grp m cs) b)
  | a, none :: p, [] => fin g a p []
theorem fin_all (g : α → PyData → α × Option PyData) : ∀ (cs : List PyData) (a : α) (p : List (Option PyData)) (m : Str) (acc : List PyData) (b : Begun),
    fin g a (cs.map some ++ p) ((m, acc) :: b) = fin g (rebAll g a cs).1 p ((m, acc ++ (rebAll g a cs).2) :: b)
  | [], a, p, m, acc, b => by rw [rebAll_nil, List.append_nil]; rfl
  | c :: r, a, p, m, acc, b => by
    show fin g (rebS g a c).1 (r.map some ++ p) ((m, acc ++ (rebS g a c).2.toList) :: b) = _
    rw [fin_all g r, rebAll_cons, List.append_assoc]
theorem fin_group {g : α → PyData → α × Option PyData} {a : α} {d : PyData} {p : List (Option PyData)} {b : Begun} (h : hasKidsD d = true) :
    fin g a ((kidsD d).map some ++ none :: p) ((hdS d, []) :: b) = fin g a (some d :: p) b := by
  rw [fin_all]
  show fin g (rebAll g a (kidsD d)).1 p (push (grp (hdS d) ([] ++ (rebAll g a (kidsD d)).2)) b) = fin g (rebS g a d).1 p (push (rebS g a d).2 b)
  rw [rebS_kids h, List.nil_append]
def wtO : Option PyData → Nat
  | some d => 2 * ndD d
  | none => 1
def wtAll : List (Option PyData) → Nat
  | [] => 0
  | o :: r => wtO o + wtAll r
theorem wtAll_app : ∀ (a b : List (Option PyData)), wtAll (a ++ b) = wtAll a + wtAll b
  | [], b => (Nat.zero_add _).symm
  | o :: r, b => by
    show wtO o + wtAll (r ++ b) = wtO o + wtAll r + wtAll b
    rw [wtAll_app r b, Nat.add_assoc]
theorem wtAll_some : ∀ ds : List PyData, wtAll (ds.map some) = 2 * ndAll ds
  | [] => rfl
  | d :: r => by
    show 2 * ndD d + wtAll (r.map some) = 2 * (ndD d + ndAll r)
    rw [wtAll_some r]
    omega
theorem wtAll_len : ∀ ps : List (Option PyData), ps.length ≤ wtAll ps
  | [] => Nat.le_refl _
  | o :: r => by
    have a := wtAll_len r
    have b : 1 ≤ wtO o := by
      cases o with
      | none => exact Nat.le_refl _
      | some d =>
        have := nd_pos d
        show 1 ≤ 2 * ndD d
        omega
    show r.length + 1 ≤ wtO o + wtAll r
    omega
def nones : List (Option PyData) → Nat
  | [] => 0
  | none :: r => nones r + 1
  | some _ :: r => nones r
theorem nones_kids : ∀ (cs : List PyData) (p : List (Option PyData)), nones (cs.map some ++ p) = nones p
  | [], _ => rfl
  | _ :: r, p => nones_kids r p
def begSum : Begun → Nat
  | [] => 0
  | (_, cs) :: b => cs.length + 1 + begSum b
end
/-! ### what stays -/
def StayT (H H' : Hp) : Prop := ∀ (b : Addr) (o : HO), (∀ xs, o ≠ HO.lst xs) → (∀ ps, o ≠ HO.tbl ps) → H b = some o → H' b = some o
theorem StayT.refl (H : Hp) : StayT H H := fun _ _ _ _ e => e
theorem StayT.trans {H H1 H2 : Hp} (a : StayT H H1) (b : StayT H1 H2) : StayT H H2 := fun c o n m e => b c o n m (a c o n m e)
theorem StayT.of {H H' : Hp} (h : Stay H H') : StayT H H' := fun b o n _ e => h b o n e
theorem sqT_stayT {K : PySem.W.Frag} {H H' : Hp} (s : StayT H H') {a : Addr} {xs : List V} (h : SqT K H a xs) : SqT K H' a xs := by
  rcases h with (e | ⟨o, e⟩) | h
  · exact .inl (.inl (s _ _ (fun _ z => nomatch z) (fun _ z => nomatch z) e))
  · exact .inl (.inr ⟨o, s _ _ (fun _ z => nomatch z) (fun _ z => nomatch z) e⟩)
  · exact .inr h
section
variable {K : PySem.W.Frag} {H H' : Hp}
mutual
theorem dp_stayT (s : StayT H H') : ∀ {v : V} {d : PyData}, Dp K H v d → noList d = true → Dp K H' v d
  | _, _, .non, _ => .non
  | _, _, .bl b, _ => .bl b
  | _, _, .int i, _ => .int i
  | _, _, .str z, _ => .str z
  | _, _, .lst _ _, n => absurd n (fun z => nomatch z)
  | _, _, .tup h a, n => .tup (sqT_stayT s h) (dpAll_stayT s a n)
theorem dpAll_stayT (s : StayT H H') : ∀ {vs : List V} {ds : List PyData}, DpAll K H vs ds → noListAll ds = true → DpAll K H' vs ds
  | _, _, .nil, _ => .nil
  | _, _, .cons a r, n => .cons (dp_stayT s a (Bool.and_eq_true_iff.mp n).1) (dpAll_stayT s r (Bool.and_eq_true_iff.mp n).2)
end
/-- tracked, and no table of code -/
def OldN (H : Hp) (b : Addr) : Prop := ∃ o, H b = some o ∧ ∀ ps, o ≠ HO.tbl ps
theorem OldN.none {H : Hp} {b : Addr} (e : H b = none) : ¬ OldN H b := fun ⟨o, h, _⟩ => by
  rw [e] at h
  cases h
/-- all but the lists in W and the tables of code -/
structure KeepW (W : Addr → Prop) (H H' : Hp) : Prop where
  all : ∀ (b : Addr) (o : HO), H b = some o → (∀ ps, o ≠ HO.tbl ps) → (¬ W b ∨ ∀ xs, o ≠ HO.lst xs) → H' b = some o
  lists : ∀ (b : Addr) (xs : List V), H b = some (.lst xs) → ∃ ys, H' b = some (.lst ys)
theorem KeepW.refl (W : Addr → Prop) (H : Hp) : KeepW W H H := ⟨fun _ _ e _ _ => e, fun _ xs e => ⟨xs, e⟩⟩
theorem KeepW.trans {W : Addr → Prop} {H H1 H2 : Hp} (a : KeepW W H H1) (b : KeepW W H1 H2) : KeepW W H H2 := ⟨fun c o e n m => b.all c o (a.all c o e n m) n m, fun c xs e => by
  obtain ⟨ys, q⟩ := a.lists c xs e
  exact b.lists c ys q⟩
theorem KeepW.of {W : Addr → Prop} {H H' : Hp} (h : Same H H') : KeepW W H H' := ⟨fun b o e _ _ => h b o e, fun b xs e => ⟨xs, h b _ e⟩⟩
theorem KeepW.ofN {W : Addr → Prop} {H H' : Hp} (h : LamX.ExtN H H') : KeepW W H H' := ⟨fun b o e n _ => h b o e n, fun b xs e => ⟨xs, h b _ e fun _ z => nomatch z⟩⟩
theorem KeepW.stay {W : Addr → Prop} {H H' : Hp} (h : KeepW W H H') : StayT H H' := fun b o n m e => h.all b o e m (.inr n)
theorem KeepW.lst {W : Addr → Prop} {H H' : Hp} (h : KeepW W H H') {b : Addr} {xs : List V} (e : H b = some (.lst xs)) (n : ¬ W b) : H' b = some (.lst xs) := h.all b _ e (fun _ z => nomatch z) (.inl n)
theorem KeepW.code {W : Addr → Prop} {H H' : Hp} (h : KeepW W H H') : CodesKept H H' := fun c q e => h.all c _ e LamX.codeO_ne (.inr fun xs z => by
  unfold LamX.CodeO at z
  cases z)
theorem KeepW.old {W : Addr → Prop} {H H' : Hp} (h : KeepW W H H') {b : Addr} (o : OldN H b) : OldN H' b := by
  obtain ⟨o, e, n⟩ := o
  by_cases c : ∃ xs, o = .lst xs
  · obtain ⟨xs, rfl⟩ := c
    obtain ⟨ys, q⟩ := h.lists b xs e
    exact ⟨_, q, fun _ z => nomatch z⟩
  · exact ⟨o, h.all b o e n (.inr fun xs z => c ⟨xs, z⟩), n⟩
/-- what a def does that changes its own new lists only -/
def Mine (H0 H H' : Hp) : Prop := ∀ (b : Addr) (o : HO), H b = some o → (OldN H0 b ∨ ∀ xs, o ≠ HO.lst xs) → H' b = some o
theorem Mine.refl (H0 H : Hp) : Mine H0 H H := fun _ _ e _ => e
theorem Mine.trans {H0 H H1 H2 : Hp} (a : Mine H0 H H1) (b : Mine H0 H1 H2) : Mine H0 H H2 := fun c o e n => b c o (a c o e n) n
theorem Mine.of {H0 H H' : Hp} (h : Same H H') : Mine H0 H H' := fun b o e _ => h b o e
theorem Mine.upd {H0 H : Hp} {p : Addr} {xs : List V} {o : HO} (np : ¬ OldN H0 p) (e : H p = some (.lst xs)) : Mine H0 H (upd H p o) := fun b u h n => by
  rw [upd_ne (fun z => by
    subst z
    rw [e] at h
    rcases n with n | n
    · exact np n
    · exact n _ (Option.some.inj h).symm)]
  exact h
theorem KeepW.mine {W : Addr → Prop} {H0 H H' : Hp} (a : KeepW W H0 H) (m : Mine H0 H H') : KeepW W H0 H' := ⟨fun b o e n k => m b o (a.all b o e n k) (.inl ⟨o, e, n⟩), fun b xs e => by
  obtain ⟨ys, q⟩ := a.lists b xs e
  exact ⟨ys, m b _ q (.inl ⟨_, e, fun _ z => nomatch z⟩)⟩⟩
theorem Mine.stay {H0 H H' : Hp} (m : Mine H0 H H') : Stay H H' := fun b o n e => m b o e (.inr n)
end
end K1

namespace K1
open PySem PySem.Spec PyProof.Rows L2 Own
/-! ### nodes: has it children, is it a hole, a group that ends -/
def NodeOk (d : PyData) : Prop := (∃ z, d = .str z) ∨ (∃ z i, d = .tuple [.str z, .int i]) ∨ ∃ m cs, d = .tuple [.str m, .tuple cs]
def kidsO : Option PyData → Bool
  | none => false
  | some d => hasKidsD d
def spHasKids (K : PySem.W.Frag) : Sp := fun vs H Q _ => ∃ v o, vs = [v] ∧ OptDp K H v o ∧ (∀ d, o = some d → NodeOk d) ∧ Q (.bl (kidsO o)) H
def isHoleD : PyData → Bool
  | .tuple (.str m :: _) => decide (m = star)
  | _ => false
def spIsHole (K : PySem.W.Frag) : Sp := fun vs H Q _ => ∃ v m x, vs = [v] ∧ Dp K H v (.tuple [.str m, x]) ∧ Q (.bl (decide (m = star))) H
def spEnded (K : PySem.W.Frag) : Sp := fun vs H Q _ => ∃ t l m us cs, vs = [.ref t] ∧ H t = some (.tup [.str m, .ref l]) ∧ H l = some (.lst us) ∧ DpAll K H us cs ∧ noListAll cs = true ∧ us.length ≤ 1000000 ∧ ∀ H' y, Same H H' → OptDp K H' y (grp m cs) → Q y H'
section
variable {P : Program} {w : World} {K : PySem.W.Frag} {mg : Str → Option Value} {base : Heap}
theorem scHasKids : FnScope ["node"] ["node"] (defScope sHasChildren) := ⟨rfl, rfl, rfl, by decide +kernel, rfl, by decide +kernel, by decide +kernel⟩
theorem ok_hasKids {f : Addr} {fd : FuncData} (F : Fun K "_has_children" "_has_children" sHasChildren f fd) (mi : mg "isinstance" = none) (mt : mg "tuple" = none) : FnOk P w K mg base CX0 1 f fd ["node"] (spHasKids K) := by
  refine F.ok scHasKids (fun vs H Q E h => ?_) (fun cdv A outer s H vs Q E hr h => ?_)
  · obtain ⟨v, o, rfl, _⟩ := h
    rfl
  · obtain ⟨v, o, rfl, hd, nd, k⟩ := h
    refine ⟨_, pss_one (ps_ret (pe_and (pe_callB call_isi (by rfl) mi (by decide +kernel) (pa_cons (pv 0) (pa_cons (pe_bltn (v := .ty "tuple") (u := .type "tuple") (by rfl) mt (by decide +kernel) rfl) pa_nil)))
      (pe_and (pe_callB call_isi (by rfl) mi (by decide +kernel) (pa_cons (pe_ix ix_tup (pv 0) pe_int (fun _ _ => rfl)) (pa_cons (pe_bltn (v := .ty "tuple") (u := .type "tuple") (by rfl) mt (by decide +kernel) rfl) pa_nil)))
        (pe_one (pe_cmpR op_ne (pe_ix ix_tup (pv 0) pe_int (fun _ _ => rfl)) pe_str (nomark _)))))), ?_⟩
    cases o with
    | none =>
      obtain rfl : v = .non := hd
      exact ⟨_, rfl, _, .ty "tuple", _, _, false, rfl, .ty "tuple", dp_ty (d := .none) .non, kit_ty (kt_tuple .none), false, rfl, iteF k⟩
    | some d =>
      rcases nd d rfl with ⟨z, rfl⟩ | ⟨z, i, rfl⟩ | ⟨m, cs, rfl⟩
      · exact ⟨_, rfl, _, .ty "tuple", _, _, false, rfl, .ty "tuple", dp_ty (d := .str z) hd, kit_ty (kt_tuple (.str z)), false, rfl, iteF k⟩
      · have hd : Dp K H v (.tuple [.str z, .int i]) := hd
        obtain ⟨a, x, y, rfl, hs, hx, hy⟩ := dp_pair hd
        refine ⟨_, rfl, _, .ty "tuple", _, _, true, rfl, .ty "tuple", dp_ty hd, kit_ty (kt_tuple _), true, rfl, iteT ?_⟩
        exact ⟨_, rfl, a, _, 1, y, rfl, rfl, hs, rfl, y, .ty "tuple", _, _, false, rfl, .ty "tuple", dp_ty hy, kit_ty (kt_tuple _), false, rfl, iteF k⟩
      · have hd : Dp K H v (.tuple [.str m, .tuple cs]) := hd
        obtain ⟨a, x, y, rfl, hs, hx, hy⟩ := dp_pair hd
        cases hx
        refine ⟨_, rfl, _, .ty "tuple", _, _, true, rfl, .ty "tuple", dp_ty hd, kit_ty (kt_tuple _), true, rfl, iteT ?_⟩
        refine ⟨_, rfl, a, _, 1, y, rfl, rfl, hs, rfl, y, .ty "tuple", _, _, true, rfl, .ty "tuple", dp_ty hy, kit_ty (kt_tuple _), true, rfl, iteT ?_⟩
        refine ⟨_, rfl, a, _, 0, .str m, rfl, rfl, hs, rfl, rfl, ?_⟩
        have e : (V.str m = V.str star) ↔ (m = star) := ⟨fun z => V.str.inj z, fun z => by rw [z]⟩
        show Q (.bl (!decide (V.str m = V.str star))) H
        rw [decide_eq_decide.mpr e]
        exact k
theorem scIsHole : FnScope ["piece"] ["piece"] (defScope sIsHole) := ⟨rfl, rfl, rfl, by decide +kernel, rfl, by decide +kernel, by decide +kernel⟩
theorem ok_isHole {f : Addr} {fd : FuncData} (F : Fun K "is_hole" "is_hole" sIsHole f fd) : FnOk P w K mg base CX0 1 f fd ["piece"] (spIsHole K) := by
  refine F.ok scIsHole (fun vs H Q E h => ?_) (fun cdv A outer s H vs Q E hr h => ?_)
  · obtain ⟨v, m, x, rfl, _⟩ := h
    rfl
  · obtain ⟨v, m, d, rfl, hd, k⟩ := h
    refine ⟨_, pss_one (ps_ret (pe_cmpR op_eq (pe_ix ix_tup (pv 0) pe_int (fun _ _ => rfl)) pe_str (nomark _))), ?_⟩
    obtain ⟨a, x, y, rfl, hs, hx, hy⟩ := dp_pair hd
    cases hx
    refine ⟨_, rfl, a, _, 0, .str m, rfl, rfl, hs, rfl, rfl, ?_⟩
    have e : (V.str m = V.str star) ↔ (m = star) := ⟨fun z => V.str.inj z, fun z => by rw [z]⟩
    show Q (.bl (decide (V.str m = V.str star))) H
    rw [decide_eq_decide.mpr e]
    exact k
theorem scEnded : FnScope ["group", "message", "children"] ["group"] (defScope sEnded) := ⟨rfl, rfl, rfl, by decide +kernel, rfl, by decide +kernel, by decide +kernel⟩
theorem ok_ended {f : Addr} {fd : FuncData} (F : Fun K "_ended" "_ended" sEnded f fd) (mt : mg "tuple" = none) : FnOk P w K mg base CX0 1 f fd ["group"] (spEnded K) := by
  refine F.ok scEnded (fun vs H Q E h => ?_) (fun cdv A outer s H vs Q E hr h => ?_)
  · obtain ⟨t, l, m, us, cs, rfl, _⟩ := h
    rfl
  · obtain ⟨t, l, m, us, cs, rfl, ht, hl, ha, fl, big, k⟩ := h
    refine ⟨_, pss_cons (ps_asg (pv 0) (pg_tup rfl (pgs_cons (pg_name (i := 1) scEnded.nd rfl (Or.inl rfl)) (pgs_cons (pg_name (i := 2) scEnded.nd rfl (Or.inl rfl)) pgs_nil))))
      (pss_one (ps_ret (pe_ifExp (pt_truth (pv 2) (by intro _; rfl)) (pe_tup (pa_cons (pv 1) (pa_cons (pe_callTy call_tuple_of (by rfl) mt (by decide +kernel) (pa_cons (pv 2) pa_nil)) pa_nil))) pe_non))), ?_⟩
    have lu := dpAll_len ha
    refine ⟨_, rfl, t, _, rfl, SqT.of ht, rfl, _, _, rfl, _, _, rfl, rfl, ?_⟩
    refine ⟨_, rfl, !us.isEmpty, .inl ⟨us, SqL.of hl, rfl⟩, ?_⟩
    cases us with
    | nil =>
      cases ha
      exact iteF (k H .non (Same.refl _) rfl)
    | cons u r =>
      cases cs with
      | nil => cases ha
      | cons c r' =>
        refine iteT ⟨_, rfl, _, rfl, l, _, rfl, .inl ⟨SqL.of hl, fun p np => ?_⟩⟩
        have s1 := same_upd (o := .tup (u :: r)) np
        have h1 := upd_same (H := H) (a := p) (o := .tup (u :: r))
        generalize upd H p (.tup (u :: r)) = H1 at s1 h1 ⊢
        refine ⟨(by show 2 ≤ sizeLine; decide), fun q nq => ?_⟩
        have s2 := same_upd (o := .tup [.str m, .ref p]) nq
        have h2 := upd_same (H := H1) (a := q) (o := .tup [.str m, .ref p])
        refine k _ (.ref q) (s1.trans s2) ?_
        show Dp K _ (.ref q) (.tuple [.str m, .tuple (c :: r')])
        exact .tup (SqT.of h2) (.cons (.str m) (.cons (.tup (SqT.of (s2 _ _ h1)) (dpAll_same (s1.trans s2) ha)) .nil))
end
end K1

namespace K1
open PySem PySem.Spec PyProof.Rows L2 Own
/-! ### rebuilt -/
/-- what rebuilt walks over -/
structure RebOk (good : PyData → Prop) : Prop where
  node : ∀ d, good d → NodeOk d
  flat : ∀ d, good d → noList d = true
  kids : ∀ d, good d → hasKidsD d = true → ∀ c ∈ kidsD d, good c
def TReb (K : PySem.W.Frag) : Lmeans := fun vs tl H Q => ∃ (α : Type) (g : α → PyData → α × Option PyData) (R : α → Nat → Hp → Prop) (W : Addr → Prop) (good : PyData → Prop) (a0 : α) (v : V) (d : PyData),
  vs = [v] ∧ Dp K H v d ∧ good d ∧ RebOk good ∧ ndD d ≤ 400000 ∧ (∀ b, W b → OldN H b) ∧ R a0 (2 * ndD d) H ∧ (∀ a j j' H1 H2, R a j H1 → j' ≤ j → Mine H H1 H2 → R a j' H2) ∧ (∀ a e, good e → hasKidsD e = false → flatO (g a e).2 ∧ (g a e).2 ≠ some .none) ∧
  (∀ a j H1 u e Q1, good e → hasKidsD e = false → R a (j + 1) H1 → KeepW W H H1 → Dp K H1 u e → (∀ H2 y, R (g a e).1 j H2 → KeepW W H1 H2 → OptDp K H2 y (g a e).2 → Q1 y H2) → tl [u] (fun _ _ _ => False) H1 Q1) ∧
  ∀ H2 y, R (rebS g a0 d).1 0 H2 → KeepW W H H2 → OptDp K H2 y (rebS g a0 d).2 → Q y H2
/-- a group that is begun: its list, its message and its children -/
abbrev Open3 := Addr × Str × List PyData
def OpenAt (K : PySem.W.Frag) (H : Hp) (t : V) (x : Open3) : Prop := ∃ ta vs, t = .ref ta ∧ H ta = some (.tup [.str x.2.1, .ref x.1]) ∧ H x.1 = some (.lst vs) ∧ DpAll K H vs x.2.2
theorem OpenAt.stay {K : PySem.W.Frag} {H H' : Hp} {t : V} {x : Open3} (h : OpenAt K H t x) (s : StayT H H') (e : ∀ vs, H x.1 = some (.lst vs) → H' x.1 = some (.lst vs)) (f : noListAll x.2.2 = true) : OpenAt K H' t x := by
  obtain ⟨ta, vs, h1, h2, h3, h4⟩ := h
  exact ⟨ta, vs, h1, s _ _ (fun _ z => nomatch z) (fun _ z => nomatch z) h2, e _ h3, dpAll_stayT s h4 f⟩
theorem optDp_stayT {K : PySem.W.Frag} {H H' : Hp} {v : V} : ∀ {o : Option PyData}, OptDp K H v o → flatO o → StayT H H' → OptDp K H' v o
  | none, h, _, _ => h
  | some _, h, f, s => dp_stayT s h f
theorem grp_flat {m : Str} {cs : List PyData} (h : noListAll cs = true) : flatO (grp m cs) := by
  unfold grp
  split
  · exact trivial
  · show (true && (noListAll cs && true)) = true
    rw [h]
    rfl
theorem paired_lastB {α β : Type} {R : α → β → Prop} {xs : List α} {ys : List β} {y : β} (h : Paired R xs (ys ++ [y])) : ∃ xs' x, xs = xs' ++ [x] ∧ Paired R xs' ys ∧ R x y := by
  induction ys generalizing xs with
  | nil =>
    cases h with
    | cons a b =>
      cases b
      exact ⟨[], _, rfl, .nil, a⟩
  | cons z ys ih =>
    cases h with
    | cons a b =>
      obtain ⟨xs', x, e, h1, h2⟩ := ih b
      exact ⟨_ :: xs', x, by rw [e]; rfl, .cons a h1, h2⟩
theorem paired_appB {α β : Type} {R : α → β → Prop} {xs xs' : List α} {ys ys' : List β} (h : Paired R xs ys) (h' : Paired R xs' ys') : Paired R (xs ++ xs') (ys ++ ys') := by
  induction h with
  | nil => exact h'
  | cons a b ih => exact .cons a ih
theorem paired_impM {α β : Type} {R S : α → β → Prop} {xs : List α} {ys : List β} (f : ∀ x y, y ∈ ys → R x y → S x y) (h : Paired R xs ys) : Paired S xs ys := by
  induction h with
  | nil => exact .nil
  | cons a b ih => exact .cons (f _ _ (List.mem_cons_self ..) a) (ih fun x y m => f x y (List.mem_cons_of_mem _ m))
theorem noListAll_mem : ∀ {ds : List PyData}, noListAll ds = true → ∀ d ∈ ds, noList d = true
  | [], _, d, h => nomatch h
  | x :: r, e, d, h => by
    obtain ⟨e1, e2⟩ := Bool.and_eq_true_iff.mp (show (noList x && noListAll r) = true from e)
    rcases List.mem_cons.mp h with q | q
    · rw [q]
      exact e1
    · exact noListAll_mem e2 d q
/-- the state between two nodes -/
structure RebAt (K : PySem.W.Frag) (good : PyData → Prop) (H : Hp) (p q : Addr) (n extra : Nat) (ps : List (Option PyData)) (bs : List Open3) (us ts : List V) (J : Hp) : Prop where
  hp : J p = some (.lst ts)
  hq : J q = some (.lst us)
  pend : Paired (OptDp K J) us ps.reverse
  op : Paired (OpenAt K J) ts bs.reverse
  nd : (bs.map (·.1)).Nodup
  own : ∀ x ∈ bs, x.1 ≠ p ∧ x.1 ≠ q ∧ ¬ OldN H x.1 ∧ noListAll x.2.2 = true
  gd : ∀ e, some e ∈ ps → good e
  cnt : bs.length = nones ps + 1
  sum : wtAll ps + begSum (bs.map (·.2)) + extra ≤ 2 * n + 1
section
variable {K : PySem.W.Frag} {good : PyData → Prop} {H J J' : Hp} {p q : Addr} {n extra : Nat} {ps : List (Option PyData)} {bs : List Open3} {us ts : List V}
theorem RebAt.flatP (h : RebAt K good H p q n extra ps bs us ts J) (ok : RebOk good) : ∀ o ∈ ps.reverse, flatO o := fun o ho => by
  cases o with
  | none => exact trivial
  | some e => exact ok.flat e (h.gd e (List.mem_reverse.mp ho))
/-- under changes that leave the own lists alone -/
theorem RebAt.keep (h : RebAt K good H p q n extra ps bs us ts J) (ok : RebOk good) (s : StayT J J') (l : ∀ b xs, ¬ OldN H b → J b = some (.lst xs) → J' b = some (.lst xs)) (np : ¬ OldN H p) (nq : ¬ OldN H q) : RebAt K good H p q n extra ps bs us ts J' :=
  ⟨l _ _ np h.hp, l _ _ nq h.hq, paired_impM (fun _ o m z => optDp_stayT z (h.flatP ok o m) s) h.pend, paired_impM (fun _ x m z => z.stay s (fun vs e => l _ _ (h.own x (List.mem_reverse.mp m)).2.2.1 e) (h.own x (List.mem_reverse.mp m)).2.2.2) h.op,
    h.nd, h.own, h.gd, h.cnt, h.sum⟩
theorem RebAt.last {x : Open3} {bs' : List Open3} (h : RebAt K good H p q n extra ps (x :: bs') us ts J) : ∃ ts' ta vs, ts = ts' ++ [.ref ta] ∧ J ta = some (.tup [.str x.2.1, .ref x.1]) ∧ J x.1 = some (.lst vs) ∧ DpAll K J vs x.2.2 ∧ Paired (OpenAt K J) ts' bs'.reverse := by
  have z := h.op
  rw [List.reverse_cons] at z
  obtain ⟨ts', t, e, h1, ta, vs, h2, h3, h4, h5⟩ := paired_lastB z
  exact ⟨ts', ta, vs, by rw [e, h2], h3, h4, h5, h1⟩
/-- what was made is left out -/
theorem RebAt.skip (h : RebAt K good H p q n (extra + 1) ps bs us ts J) : RebAt K good H p q n 0 ps bs us ts J :=
  ⟨h.hp, h.hq, h.pend, h.op, h.nd, h.own, h.gd, h.cnt, by have := h.sum; omega⟩
/-- what was made is a child of the innermost group -/
theorem RebAt.take {x : Open3} {bs' : List Open3} {vs : List V} {y : V} {e : PyData} (h : RebAt K good H p q n 1 ps (x :: bs') us ts J) (ok : RebOk good) (hl : J x.1 = some (.lst vs)) (hv : DpAll K J vs x.2.2) (hy : Dp K J y e) (fe : noList e = true) :
    RebAt K good H p q n 0 ps ((x.1, x.2.1, x.2.2 ++ [e]) :: bs') us ts (upd J x.1 (.lst (vs ++ [y]))) := by
  obtain ⟨x1, x2, x3⟩ := x
  obtain ⟨n1, n2, n3, n4⟩ := h.own _ (List.mem_cons_self ..)
  have st : Stay J (upd J x1 (.lst (vs ++ [y]))) := stay_upd hl
  have nd := h.nd
  have notin : ∀ z ∈ bs', z.1 ≠ x1 := fun z hz e => (List.nodup_cons.mp nd).1 (by rw [← e]; exact List.mem_map.mpr ⟨z, hz, rfl⟩)
  obtain ⟨ts', ta, vs2, e1, e2, e3, e4, e5⟩ := h.last
  have e3 : J x1 = some (.lst vs2) := e3
  have hl : J x1 = some (.lst vs) := hl
  rw [hl] at e3
  cases e3
  refine ⟨?_, ?_, paired_impM (fun _ o m z => z.stay (h.flatP ok o m) st) h.pend, ?_, nd, fun z hz => ?_, h.gd, h.cnt, ?_⟩
  · rw [upd_ne n1.symm]
    exact h.hp
  · rw [upd_ne n2.symm]
    exact h.hq
  · rw [List.reverse_cons, e1]
    refine paired_appB (paired_impM (fun t z m o => o.stay (StayT.of st) (fun us e => by rw [upd_ne (notin z (List.mem_reverse.mp m))]; exact e) (h.own z (List.mem_cons_of_mem _ (List.mem_reverse.mp m))).2.2.2) e5) (.cons ⟨ta, vs ++ [y], rfl, st _ _ (fun _ z => nomatch z) e2, upd_same, ?_⟩ .nil)
    exact dpAll_app (dpAll_stay st hv n4) (.cons (dp_stay st hy fe) .nil)
  · rcases List.mem_cons.mp hz with z1 | z1
    · subst z1
      refine ⟨n1, n2, n3, ?_⟩
      refine noListAll_of fun d hd => ?_
      rcases List.mem_append.mp hd with z2 | z2
      · exact noListAll_mem n4 d z2
      · rw [List.mem_singleton.mp z2]
        exact fe
    · exact h.own z (List.mem_cons_of_mem _ z1)
  · have s := h.sum
    show wtAll ps + ((x3 ++ [e]).length + 1 + begSum (bs'.map (·.2))) + 0 ≤ 2 * n + 1
    have s : wtAll ps + (x3.length + 1 + begSum (bs'.map (·.2))) + 1 ≤ 2 * n + 1 := s
    rw [List.length_append, List.length_singleton]
    omega
end
theorem push_none (b : Begun) : push none b = b := by
  cases b with
  | nil => rfl
  | cons x r =>
    obtain ⟨m, cs⟩ := x
    show (m, cs ++ []) :: r = _
    rw [List.append_nil]
theorem grp_ne {m : Str} {cs : List PyData} : grp m cs ≠ some .none := by
  unfold grp
  split
  · exact fun z => nomatch z
  · exact fun z => nomatch z
theorem atI_last {xs : List V} {x : V} : atI (xs ++ [x]) (-1) = some x := by
  unfold atI
  rw [show ixN (xs ++ [x]).length (-1) = some xs.length from by
    rw [List.length_append, List.length_singleton]
    unfold ixN
    simp
    omega]
  simp
theorem begSum_len : ∀ bs : List Open3, bs.length ≤ begSum (bs.map (·.2))
  | [] => Nat.le_refl _
  | (_, _, cs) :: r => by
    have := begSum_len r
    show r.length + 1 ≤ cs.length + 1 + begSum (r.map (·.2))
    omega
theorem paired_some {K : PySem.W.Frag} {H : Hp} : ∀ {vs : List V} {ds : List PyData}, DpAll K H vs ds → Paired (OptDp K H) vs (ds.map some)
  | _, _, .nil => .nil
  | _, _, .cons a r => .cons a (paired_some r)
theorem paired_mem {α β : Type} {R : α → β → Prop} {xs : List α} {ys : List β} {y : β} (h : Paired R xs ys) (m : y ∈ ys) : ∃ x, x ∈ xs ∧ R x y := by
  induction h with
  | nil => cases m
  | cons a b ih =>
    rcases List.mem_cons.mp m with z | z
    · rw [z]
      exact ⟨_, List.mem_cons_self .., a⟩
    · obtain ⟨x, h1, h2⟩ := ih z
      exact ⟨x, List.mem_cons_of_mem _ h1, h2⟩
theorem pe_impB {X : Cx} {e : Expr} {t t' : TE} (h : PE X e t) (i : ∀ σ H Q, t' σ H Q → t σ H Q) : PE X e t' := ⟨fun pins s σ H Q I q => h.run pins s σ H Q I (i σ H Q q)⟩
theorem pe_negB {X : Cx} {i : Int} {k : Nat} {p1 p2 : Pos} : PE X (.UnaryOp .USub (.Constant (.int i) k p1) p2) (tC (.int (-i))) := pe_impB (pe_un un_neg pe_int) fun _ _ _ h => ⟨_, rfl, h⟩
section
variable {X : Cx}
theorem scRebuilt : FnScope ["root", "change", "begun", "pending", "node", "made", "whole"] ["root", "change"] (defScope sRebuilt) := ⟨rfl, rfl, rfl, by decide +kernel, rfl, by decide +kernel, by decide +kernel⟩
abbrev nRebuilt : List Str := ["root", "change", "begun", "pending", "node", "made", "whole"]
theorem reb_gives {k : Nat} {g fK fE : Addr} {dK dE : FuncData} {cdg : Value} (GK : FnOk X.prog X.w X.K X.mg X.base CX0 1 fK dK ["node"] (spHasKids X.K)) (kK : PySem.W.keepIn X.K (.ref fK) = true) (bK : Binds X.K dK ["node"] []) (mK : X.mg "_has_children" = some (.ref fK))
    (GE : FnOk X.prog X.w X.K X.mg X.base CX0 1 fE dE ["group"] (spEnded X.K)) (kE : PySem.W.keepIn X.K (.ref fE) = true) (bE : Binds X.K dE ["group"] []) (mE : X.mg "_ended" = some (.ref fE)) :
    GivesN X (k + 1) nRebuilt 1 1 "rebuilt" (defScope sRebuilt) g cdg (defBody sRebuilt) "change" (TReb X.K) := by
  intro f c' q s H vs Q tl lv hc hr act hco h
  obtain ⟨α, gg, R, W, good, a0, v, d0, rfl, hd, gd, ok, big, hW, hR, mine, flat, lam, kQ⟩ := h
  have hr1 := hr.mono (Nat.le_add_left 1 k)
  refine ⟨_, pss_cons (ps_set (i := 2) scRebuilt.nd rfl (Or.inl rfl) (pe_lst (pa_cons (pe_tup (pa_cons pe_str (pa_cons (pe_lst pa_nil) pa_nil))) pa_nil)))
    (pss_cons (ps_set (i := 3) scRebuilt.nd rfl (Or.inl rfl) (pe_lst (pa_cons (pv 0) pa_nil)))
    (pss_cons (ps_while PassesOwn.never (pt_truth (pv 3) (by intro _; rfl))
      (pss_cons (ps_set (i := 4) scRebuilt.nd rfl (Or.inl rfl) (pe_bm0 PySem.F.plainAttrs_list PySem.F.slot_list_pop PySem.F.type_list_pop mt_pop (pv 3)))
      (pss_one (ps_if (pt_val (pe_call GK hr1 (by rfl) mK kK bK .nil pass0 (pa_cons (pv 4) pa_nil)))
        (pss_cons (ps_expr (pe_bm PySem.F.plainAttrs_list PySem.F.slot_list_append PySem.F.type_list_append mt_append (pv 2) (pa_cons (pe_tup (pa_cons (pe_ix ix_tup (pv 4) pe_int (fun _ _ => rfl)) (pa_cons (pe_lst pa_nil) pa_nil))) pa_nil)))
        (pss_cons (ps_expr (pe_bm PySem.F.plainAttrs_list PySem.F.slot_list_append PySem.F.type_list_append mt_append (pv 3) (pa_cons pe_non pa_nil)))
        (pss_one (ps_expr (pe_bm PySem.F.plainAttrs_list PySem.F.slot_list_extend PySem.F.type_list_extend mt_extT (pv 3) (pa_cons (pe_revT (pe_ix ix_tup (pv 4) pe_int (fun _ _ => rfl))) pa_nil))))))
        (pss_cons (ps_set (i := 5) scRebuilt.nd rfl (Or.inl rfl) (pe_ifExp (pt_cmpR op_isN (pv 4) pe_non (nomark _)) (pe_call GE hr1 (by rfl) mE kE bE .nil pass0 (pa_cons (pe_bm0 PySem.F.plainAttrs_list PySem.F.slot_list_pop PySem.F.type_list_pop mt_pop (pv 2)) pa_nil))
          (act (fun _ _ _ _ => False) [] (fun _ _ => False) (fun _ _ _ => False) _ _ _ _ LamX.takes0 (fun _ _ _ _ z => z) (pa_cons (pv 4) pa_nil) (.inr ⟨_, _, rfl, rfl, fun _ => rfl⟩))))
        (pss_one (ps_if (pt_cmpR op_notN (pv 5) pe_non (nomark _))
          (pss_one (ps_expr (pe_bm PySem.F.plainAttrs_list PySem.F.slot_list_append PySem.F.type_list_append mt_append (pe_ix ix_tup (pe_ix ix_list (pv 2) pe_negB (fun _ _ => rfl)) pe_int (fun _ _ => rfl)) (pa_cons (pv 5) pa_nil))))
          pss_nil)))))))
    (pss_cons (ps_set (i := 6) scRebuilt.nd rfl (Or.inl rfl) (pe_ix ix_tup (pe_ix ix_list (pv 2) pe_int (fun _ _ => rfl)) pe_int (fun _ _ => rfl)))
    (pss_one (ps_ret (pe_ifExp (pt_truth (pv 6) (by intro _; rfl)) (pe_ix ix_list (pv 6) pe_int (fun _ _ => rfl)) pe_non)))))), ?_⟩
  refine ⟨Nat.zero_le _, fun l nl => ⟨(by show 2 ≤ sizeLine; decide), fun t nt => ⟨(by show 1 ≤ sizeLine; decide), fun p np => ?_⟩⟩⟩
  have s1 := same_upd (o := .lst []) nl
  have hl1 := upd_same (H := H) (a := l) (o := .lst [])
  generalize upd H l (.lst []) = H1 at s1 hl1 nt np ⊢
  have s2 := same_upd (o := .tup [.str "", .ref l]) nt
  have ht2 := upd_same (H := H1) (a := t) (o := .tup [.str "", .ref l])
  have nt0 := s1.free nt
  generalize upd H1 t (.tup [.str "", .ref l]) = H2 at s2 ht2 np ⊢
  have s3 := same_upd (o := .lst [.ref t]) np
  have hp3 := upd_same (H := H2) (a := p) (o := .lst [.ref t])
  have s12 := s1.trans s2
  have np0 := OldN.none (s12.free np)
  have hl2 := s2 _ _ hl1
  have lp : l ≠ p := ne_of_none hl2 np
  generalize upd H2 p (.lst [.ref t]) = H3 at s3 hp3 ⊢
  refine ⟨_, rfl, (by show 1 ≤ sizeLine; decide), fun q nq => ?_⟩
  have s4 := same_upd (o := .lst [v]) nq
  have hq4 := upd_same (H := H3) (a := q) (o := .lst [v])
  have s123 := s12.trans s3
  have nq0 := OldN.none (s123.free nq)
  have lq : l ≠ q := ne_of_none (s3 _ _ hl2) nq
  have pq : p ≠ q := ne_of_none hp3 nq
  generalize upd H3 q (.lst [v]) = H4 at s4 hq4 ⊢
  have s04 := s123.trans s4
  have notW : ∀ b, ¬ OldN H b → ¬ W b := fun b e z => e (hW b z)
  refine ⟨fun m σ J => ∃ a ps bs us ts v4 v5 v6, σ = [some v, some (.ref f), some (.ref p), some (.ref q), v4, v5, v6] ∧ KeepW W H J ∧ R a (wtAll ps) J ∧ RebAt X.K good H p q (ndD d0) 0 ps bs us ts J ∧ fin gg a ps (bs.map (·.2)) = fin gg a0 [some d0] [("", [])] ∧ m = wtAll ps,
    ⟨_, a0, [some d0], [(l, "", [])], [v], [.ref t], none, none, none, rfl, KeepW.of s04, mine a0 _ _ H H4 hR (show 2 * ndD d0 + 0 ≤ 2 * ndD d0 by omega) (Mine.of s04),
      ⟨s4 _ _ hp3, hq4, .cons (dp_same s04 hd) .nil, .cons ⟨t, [], rfl, s4 _ _ (s3 _ _ ht2), s4 _ _ (s3 _ _ hl2), .nil⟩ .nil, List.nodup_cons.mpr ⟨by simp, List.nodup_nil⟩, fun x hx => ?_, fun e he => ?_, rfl, ?_⟩, rfl, rfl⟩, ?_⟩
  · rw [List.mem_singleton.mp hx]
    exact ⟨lp, lq, OldN.none nl, rfl⟩
  · obtain rfl : e = d0 := by simpa using he
    exact gd
  · show (2 * ndD d0 + 0) + (0 + 1 + 0) + 0 ≤ _
    omega
  rintro m σ J ⟨a, ps, bs, us, ts, v4, v5, v6, rfl, kw, hRa, rb, fe, em⟩
  refine ⟨_, rfl, !us.isEmpty, .inl ⟨us, SqL.of rb.hq, rfl⟩, ?_⟩
  cases ps with
  | nil =>
    have eu : us = [] := List.length_eq_zero_iff.mp (paired_len rb.pend)
    subst eu
    refine iteF ?_
    have c1 := rb.cnt
    obtain ⟨x, rfl⟩ : ∃ x, bs = [x] := List.length_eq_one_iff.mp c1
    obtain ⟨x1, x2, x3⟩ := x
    obtain ⟨ts', ta, vs, e1, e2, e3, e4, e5⟩ := rb.last
    have et : ts' = [] := List.length_eq_zero_iff.mp (paired_len e5)
    subst et
    have e3 : J x1 = some (.lst vs) := e3
    have e2 : J ta = some (.tup [.str x2, .ref x1]) := e2
    have e4 : DpAll X.K J vs x3 := e4
    have hp := rb.hp
    rw [e1] at hp
    have fe : (a, [(x2, x3)]) = ((rebS gg a0 d0).1, [(("" : Str), [] ++ (rebS gg a0 d0).2.toList)]) := fe
    have fa : a = (rebS gg a0 d0).1 := congrArg Prod.fst fe
    have fx : x3 = (rebS gg a0 d0).2.toList := by
      have z := congrArg Prod.snd fe
      simp only [List.nil_append, List.cons.injEq, Prod.mk.injEq, and_true] at z
      exact z.2
    rw [fa] at hRa
    refine ⟨_, rfl, p, _, 0, .ref ta, rfl, rfl, SqL.of hp, rfl, ta, _, 1, .ref x1, rfl, rfl, SqT.of e2, rfl, ?_⟩
    refine ⟨_, rfl, !vs.isEmpty, .inl ⟨vs, SqL.of e3, rfl⟩, ?_⟩
    cases er : (rebS gg a0 d0).2 with
    | none =>
      rw [er] at fx
      subst fx
      cases e4
      exact iteF (kQ J .non hRa kw (by rw [er]; exact rfl))
    | some e =>
      rw [er] at fx
      subst fx
      cases e4 with
      | cons h1 h2 =>
        cases h2
        exact iteT ⟨_, rfl, x1, _, 0, _, rfl, rfl, SqL.of e3, rfl, kQ J _ hRa kw (by rw [er]; exact h1)⟩
  | cons o ps' =>
    have pd := rb.pend
    rw [List.reverse_cons] at pd
    obtain ⟨ws, y, rfl, pw, hy⟩ := paired_lastB pd
    rw [show (!(ws ++ [y]).isEmpty) = true from by cases ws <;> rfl]
    refine iteT ?_
    refine ⟨fun σ' J2 => ∃ m', m' < m ∧ ∃ a ps bs us ts v4 v5 v6, σ' = [some v, some (.ref f), some (.ref p), some (.ref q), v4, v5, v6] ∧ KeepW W H J2 ∧ R a (wtAll ps) J2 ∧ RebAt X.K good H p q (ndD d0) 0 ps bs us ts J2 ∧ fin gg a ps (bs.map (·.2)) = fin gg a0 [some d0] [("", [])] ∧ m' = wtAll ps, fun σ' H2 q => q, ?_⟩
    have lps := wtAll_len (o :: ps')
    have lps2 := wtAll_len ps'
    have lws := paired_len pw
    rw [List.length_reverse] at lws
    have sum := rb.sum
    have hq := rb.hq
    refine ⟨_, rfl, .inl ⟨rfl, _, SqL.of hq⟩, q, _, y, rfl, rfl, hq, ?_, ?_⟩
    · rw [List.length_append, List.length_singleton, Nat.add_sub_cancel, List.getElem?_append_right (Nat.le_refl _), Nat.sub_self]
      rfl
    rw [List.dropLast_concat]
    have st0 := stay_upd (o := .lst ws) hq
    have mi0 : Mine H J (upd J q (.lst ws)) := Mine.upd nq0 hq
    have hq2 := upd_same (H := J) (a := q) (o := .lst ws)
    have hp2 : upd J q (.lst ws) p = some (.lst ts) := by
      rw [upd_ne pq]
      exact rb.hp
    have hbs : ∀ x ∈ bs, ∀ vs, J x.1 = some (.lst vs) → upd J q (.lst ws) x.1 = some (.lst vs) := fun x hx vs e => by
      rw [upd_ne (rb.own x hx).2.1]
      exact e
    have fo : flatO o := rb.flatP ok o (by rw [List.reverse_cons]; exact List.mem_append_right _ (List.mem_cons_self ..))
    have op2 : Paired (OpenAt X.K (upd J q (.lst ws))) ts bs.reverse := paired_impM (fun _ x m z => z.stay (StayT.of st0) (hbs x (List.mem_reverse.mp m)) (rb.own x (List.mem_reverse.mp m)).2.2.2) rb.op
    have pw2 : Paired (OptDp X.K (upd J q (.lst ws))) ws ps'.reverse := paired_impM (fun _ o m z => z.stay (rb.flatP ok o (by rw [List.reverse_cons]; exact List.mem_append_left _ m)) st0) pw
    have hy2 := hy.stay fo st0
    have kw2 := kw.mine mi0
    have hR2 := mine a _ _ J _ hRa (Nat.le_refl _) mi0
    have gps : ∀ e, some e ∈ ps' → good e := fun e he => rb.gd e (List.mem_cons_of_mem _ he)
    generalize upd J q (.lst ws) = J2 at hq2 hp2 op2 pw2 hy2 kw2 hR2 ⊢
    refine ⟨_, rfl, y, o, rfl, hy2, fun d e => ok.node d (rb.gd d (by rw [e]; exact List.mem_cons_self ..)), ?_⟩
    refine ⟨_, rfl, ?_⟩
    -- what is done with what was made
    have mid : ∀ (J3 : Hp) (a3 : α) (bs3 : List Open3) (ts3 : List V) (r : Option PyData) (y3 : V) (σ3 : L2.St) (D : Ends), KeepW W H J3 → R a3 (wtAll ps') J3 → RebAt X.K good H p q (ndD d0) 1 ps' bs3 ws ts3 J3 → OptDp X.K J3 y3 r → flatO r → r ≠ some .none →
        fin gg a3 ps' (push r (bs3.map (·.2))) = fin gg a0 [some d0] [("", [])] → wtAll ps' < m → σ3 = [some v, some (.ref f), some (.ref p), some (.ref q), some y, some y3, v6] →
        (∀ σ' J2, (∃ m', m' < m ∧ ∃ a ps bs us ts v4 v5 v6, σ' = [some v, some (.ref f), some (.ref p), some (.ref q), v4, v5, v6] ∧ KeepW W H J2 ∧ R a (wtAll ps) J2 ∧ RebAt X.K good H p q (ndD d0) 0 ps bs us ts J2 ∧ fin gg a ps (bs.map (·.2)) = fin gg a0 [some d0] [("", [])] ∧ m' = wtAll ps) → D.nx σ' J2) →
        tIfS (tTest (tOp (fun x y H Q => y = V.non ∧ Q (V.bl !decide (x = V.non)) H) (tVar 5) (tC V.non))) (tDrop (tBM X.K "list" rAppend (tOp (rIxT X.K) (tOp (rIxL X.K) (tVar 2) (tC (V.int (-1)))) (tC (V.int 1))) (tCons (tVar 5) tNil))) tNext D σ3 J3 := by
      intro J3 a3 bs3 ts3 r y3 σ3 D kw3 hR3 rb3 hy3 fr rn fe3 lt e3 hD
      subst e3
      refine ⟨_, rfl, rfl, _, rfl, ?_⟩
      cases r with
      | none =>
        obtain rfl : y3 = .non := hy3
        refine iteF (hD _ _ ⟨_, lt, a3, ps', bs3, ws, ts3, _, _, _, rfl, kw3, hR3, rb3.skip, ?_, rfl⟩)
        rw [← fe3, push_none]
      | some e =>
        have hy3 : Dp X.K J3 y3 e := hy3
        have yn : y3 ≠ .non := fun z => by
          subst z
          cases hy3
          exact rn rfl
        rw [decide_eq_false yn]
        have c3 := rb3.cnt
        cases bs3 with
        | nil => cases c3
        | cons x bs' =>
          obtain ⟨ts', ta, vs, e1, h1, h2, h3, h4⟩ := rb3.last
          have l3 := dpAll_len h3
          have sum3 : wtAll ps' + (x.2.2.length + 1 + begSum (bs'.map (·.2))) + 1 ≤ 2 * ndD d0 + 1 := rb3.sum
          obtain ⟨n1, n2, n3, n4⟩ := rb3.own _ (List.mem_cons_self ..)
          refine iteT ⟨_, rfl, p, ts3, -1, .ref ta, rfl, rfl, SqL.of rb3.hp, by rw [e1]; exact atI_last, ta, _, 1, .ref x.1, rfl, rfl, SqT.of h1, rfl, .inl ⟨rfl, _, SqL.of h2⟩, _, rfl, x.1, vs, y3, rfl, rfl, h2, by rw [sizeLine_eq]; omega, ?_⟩
          refine hD _ _ ⟨_, lt, a3, ps', (x.1, x.2.1, x.2.2 ++ [e]) :: bs', ws, ts3, _, _, _, rfl, kw3.mine (Mine.upd n3 h2), mine a3 _ _ J3 _ hR3 (Nat.le_refl _) (Mine.upd n3 h2), rb3.take ok h2 h3 hy3 fr, ?_, rfl⟩
          rw [← fe3]
          rfl
    cases o with
    | none =>
      obtain rfl : y = .non := hy2
      have c1 := rb.cnt
      refine iteF ⟨_, rfl, rfl, _, rfl, iteT ?_⟩
      cases bs with
      | nil => exact absurd c1 (by simp [nones])
      | cons x bs' =>
        obtain ⟨x1, x2, x3⟩ := x
        have z := op2
        rw [List.reverse_cons] at z
        obtain ⟨ts', tv, e1, h1, ta, vs, rfl, h3, h4, h5⟩ := paired_lastB z
        subst e1
        have h3 : J2 ta = some (.tup [.str x2, .ref x1]) := h3
        have h4 : J2 x1 = some (.lst vs) := h4
        have h5 : DpAll X.K J2 vs x3 := h5
        obtain ⟨n1, n2, n3, n4⟩ := rb.own _ (List.mem_cons_self ..)
        have sum : 1 + wtAll ps' + (x3.length + 1 + begSum (bs'.map (·.2))) + 0 ≤ 2 * ndD d0 + 1 := rb.sum
        have l3 := dpAll_len h5
        refine ⟨_, rfl, .inl ⟨rfl, _, SqL.of hp2⟩, p, _, .ref ta, rfl, rfl, hp2, ?_, ?_⟩
        · rw [List.length_append, List.length_singleton, Nat.add_sub_cancel, List.getElem?_append_right (Nat.le_refl _), Nat.sub_self]
          rfl
        rw [List.dropLast_concat]
        have st3 := stay_upd (o := .lst ts') hp2
        have mi3 : Mine H J2 (upd J2 p (.lst ts')) := Mine.upd np0 hp2
        have hp3' := upd_same (H := J2) (a := p) (o := .lst ts')
        have hq3 : upd J2 p (.lst ts') q = some (.lst ws) := by
          rw [upd_ne pq.symm]
          exact hq2
        have keepL : ∀ b xs, b ≠ p → J2 b = some (.lst xs) → upd J2 p (.lst ts') b = some (.lst xs) := fun b xs n e => by
          rw [upd_ne n]
          exact e
        have op3 : Paired (OpenAt X.K (upd J2 p (.lst ts'))) ts' bs'.reverse := paired_impM (fun _ x m z => z.stay (StayT.of st3) (fun vs e => keepL _ _ (rb.own x (List.mem_cons_of_mem _ (List.mem_reverse.mp m))).1 e) (rb.own x (List.mem_cons_of_mem _ (List.mem_reverse.mp m))).2.2.2) h1
        have pw3 : Paired (OptDp X.K (upd J2 p (.lst ts'))) ws ps'.reverse := paired_impM (fun _ o m z => z.stay (rb.flatP ok o (by rw [List.reverse_cons]; exact List.mem_append_left _ m)) st3) pw2
        have kw3 := kw2.mine mi3
        have hR3 := mine a _ _ J2 _ hR2 (Nat.le_refl _) mi3
        have h33 := st3 ta (.tup [.str x2, .ref x1]) (fun _ z => nomatch z) h3
        have h43 := keepL _ _ n1 h4
        have h53 := dpAll_stay st3 h5 n4
        generalize upd J2 p (.lst ts') = J3 at hp3' hq3 op3 pw3 kw3 hR3 h33 h43 h53 ⊢
        refine ⟨ta, x1, x2, vs, x3, rfl, h33, h43, h53, n4, by omega, fun J4 y4 s4' hy4 => ?_⟩
        have fg := grp_flat (m := x2) n4
        have rb4 : RebAt X.K good H p q (ndD d0) 1 ps' bs' ws ts' J4 := ⟨s4' _ _ hp3', s4' _ _ hq3, paired_impM (fun _ o m z => z.stay (rb.flatP ok o (by rw [List.reverse_cons]; exact List.mem_append_left _ m)) (Stay.of s4')) pw3,
          paired_impM (fun _ x m z => z.stay (StayT.of (Stay.of s4')) (fun vs e => s4' _ _ e) (rb.own x (List.mem_cons_of_mem _ (List.mem_reverse.mp m))).2.2.2) op3, (List.nodup_cons.mp rb.nd).2, fun x hx => rb.own x (List.mem_cons_of_mem _ hx), gps, by
            have : bs'.length + 1 = (nones ps' + 1) + 1 := c1
            omega, by omega⟩
        have fe4 : fin gg a ps' (push (grp x2 x3) (bs'.map (·.2))) = fin gg a0 [some d0] [("", [])] := fe
        exact mid J4 a bs' ts' _ y4 _ _ (kw3.mine (Mine.of s4')) (mine a _ (wtAll ps') J3 _ hR3 (show wtAll ps' ≤ 1 + wtAll ps' by omega) (Mine.of s4')) rb4 hy4 fg grp_ne fe4 (by rw [em]; show wtAll ps' < 1 + wtAll ps'; omega) rfl fun _ _ z => z
    | some e =>
      have ge : good e := rb.gd e (List.mem_cons_self ..)
      have hy2 : Dp X.K J2 y e := hy2
      cases ek : hasKidsD e with
      | true =>
        rw [show kidsO (some e) = true from ek]
        refine iteT ?_
        obtain ⟨m1, cs, rfl⟩ : ∃ m1 cs, e = .tuple [.str m1, .tuple cs] := by
          rcases ok.node e ge with ⟨z, rfl⟩ | ⟨z, i, rfl⟩ | ⟨m1, cs, rfl⟩
          · cases ek
          · cases ek
          · exact ⟨m1, cs, rfl⟩
        obtain ⟨ea, ex, ey, rfl, hs, hx, hi⟩ := dp_pair hy2
        cases hx
        obtain ⟨eb, ks, rfl, hs2, hks⟩ : ∃ eb ks, ey = .ref eb ∧ SqT X.K J2 eb ks ∧ DpAll X.K J2 ks cs := by
          cases hi with
          | tup h a => exact ⟨_, _, rfl, h, a⟩
        have sum2 : 2 * ndD (.tuple [.str m1, .tuple cs]) + wtAll ps' + begSum (bs.map (·.2)) + 0 ≤ 2 * ndD d0 + 1 := rb.sum
        have kn : ndAll cs < ndD (.tuple [.str m1, .tuple cs]) := kids_nd (.tuple [.str m1, .tuple cs])
        have lks := dpAll_len hks
        have lcs := ndAll_len cs
        have lts := paired_len op2
        rw [List.length_reverse] at lts
        have lbs : bs.length ≤ begSum (bs.map (·.2)) := begSum_len bs
        refine ⟨_, rfl, .inl ⟨rfl, _, SqL.of hp2⟩, _, rfl, ea, _, 0, .str m1, rfl, rfl, hs, rfl, Nat.zero_le _, fun l2 nl2 => ⟨(by show 2 ≤ sizeLine; decide), fun t2 nt2 => ?_⟩⟩
        have s5 := same_upd (o := .lst []) nl2
        have hl3 := upd_same (H := J2) (a := l2) (o := .lst [])
        generalize upd J2 l2 (.lst []) = J3 at s5 hl3 nt2 ⊢
        have s6 := same_upd (o := .tup [.str m1, .ref l2]) nt2
        have ht4 := upd_same (H := J3) (a := t2) (o := .tup [.str m1, .ref l2])
        generalize upd J3 t2 (.tup [.str m1, .ref l2]) = J4 at s6 ht4 ⊢
        have s24 := s5.trans s6
        have hl4 := s6 _ _ hl3
        have hp4 := s24 _ _ hp2
        have hq4 := s24 _ _ hq2
        have lp2 : l2 ≠ p := (ne_of_none hp2 nl2).symm
        have lq2 : l2 ≠ q := (ne_of_none hq2 nl2).symm
        have nl0 : ¬ OldN H l2 := fun z => by
          obtain ⟨o, e, _⟩ := kw2.old z
          rw [nl2] at e
          cases e
        refine ⟨p, ts, .ref t2, rfl, rfl, hp4, by rw [sizeLine_eq]; omega, ?_⟩
        have st5 := stay_upd (o := .lst (ts ++ [.ref t2])) hp4
        have mi5 : Mine H J4 (upd J4 p (.lst (ts ++ [.ref t2]))) := Mine.upd np0 hp4
        have hp5 := upd_same (H := J4) (a := p) (o := .lst (ts ++ [.ref t2]))
        have kl5 : ∀ b xs, b ≠ p → b ≠ q → J4 b = some (.lst xs) → upd J4 p (.lst (ts ++ [.ref t2])) b = some (.lst xs) := fun b xs n _ e => by
          rw [upd_ne n]
          exact e
        have hq5 : upd J4 p (.lst (ts ++ [.ref t2])) q = some (.lst ws) := by
          rw [upd_ne pq.symm]
          exact hq4
        generalize upd J4 p (.lst (ts ++ [.ref t2])) = J5 at st5 mi5 hp5 kl5 hq5 ⊢
        refine ⟨_, rfl, .inl ⟨rfl, _, SqL.of hq5⟩, q, ws, .non, rfl, rfl, hq5, by rw [sizeLine_eq]; omega, ?_⟩
        have st6 := stay_upd (o := .lst (ws ++ [.non])) hq5
        have mi6 : Mine H J5 (upd J5 q (.lst (ws ++ [.non]))) := Mine.upd nq0 hq5
        have hq6 := upd_same (H := J5) (a := q) (o := .lst (ws ++ [.non]))
        have kl6 : ∀ b xs, b ≠ p → b ≠ q → J5 b = some (.lst xs) → upd J5 q (.lst (ws ++ [.non])) b = some (.lst xs) := fun b xs _ n e => by
          rw [upd_ne n]
          exact e
        have hp6 : upd J5 q (.lst (ws ++ [.non])) p = some (.lst (ts ++ [.ref t2])) := by
          rw [upd_ne pq]
          exact hp5
        generalize upd J5 q (.lst (ws ++ [.non])) = J6 at st6 mi6 hq6 kl6 hp6 ⊢
        have st26 : Stay J2 J6 := (Stay.of s24).trans (st5.trans st6)
        refine ⟨_, rfl, .inl ⟨rfl, _, SqL.of hq6⟩, _, rfl, ea, _, 1, .ref eb, rfl, rfl, sqT_stay st26 hs, rfl, eb, ks, rfl, sqT_stay st26 hs2, fun z nz => ?_⟩
        have s7 := same_upd (o := .tup ks.reverse) nz
        have hz7 := upd_same (H := J6) (a := z) (o := .tup ks.reverse)
        generalize upd J6 z (.tup ks.reverse) = J7 at s7 hz7 ⊢
        have hq7 := s7 _ _ hq6
        have hp7 := s7 _ _ hp6
        refine ⟨q, z, _, ks.reverse, rfl, rfl, hq7, SqT.of hz7, by rw [sizeLine_eq, List.length_append, List.length_singleton, List.length_reverse]; omega, ?_⟩
        have st8 := stay_upd (o := .lst ((ws ++ [.non]) ++ ks.reverse)) hq7
        have mi8 : Mine H J7 (upd J7 q (.lst ((ws ++ [.non]) ++ ks.reverse))) := Mine.upd nq0 hq7
        have hq8 := upd_same (H := J7) (a := q) (o := .lst ((ws ++ [.non]) ++ ks.reverse))
        have kl8 : ∀ b xs, b ≠ p → b ≠ q → J7 b = some (.lst xs) → upd J7 q (.lst ((ws ++ [.non]) ++ ks.reverse)) b = some (.lst xs) := fun b xs _ n e => by
          rw [upd_ne n]
          exact e
        have hp8 : upd J7 q (.lst ((ws ++ [.non]) ++ ks.reverse)) p = some (.lst (ts ++ [.ref t2])) := by
          rw [upd_ne pq]
          exact hp7
        generalize upd J7 q (.lst ((ws ++ [.non]) ++ ks.reverse)) = J8 at st8 mi8 hq8 kl8 hp8 ⊢
        have st28 : Stay J2 J8 := st26.trans ((Stay.of s7).trans st8)
        have mi28 : Mine H J2 J8 := (Mine.of s24).trans (mi5.trans (mi6.trans ((Mine.of s7).trans mi8)))
        have kl48 : ∀ b xs, b ≠ p → b ≠ q → J4 b = some (.lst xs) → J8 b = some (.lst xs) := fun b xs n1 n2 e => kl8 b xs n1 n2 (s7 _ _ (kl6 b xs n1 n2 (kl5 b xs n1 n2 e)))
        have ht8 : J8 t2 = some (.tup [.str m1, .ref l2]) := st8 _ _ (fun _ z => nomatch z) (s7 _ _ (st6 _ _ (fun _ z => nomatch z) (st5 t2 (.tup [.str m1, .ref l2]) (fun _ z => nomatch z) ht4)))
        have fcs : noListAll cs = true := by
          have f : (true && (noListAll cs && true)) = true := ok.flat _ ge
          simpa using f
        have pk : Paired (OptDp X.K J8) ks.reverse (cs.map some).reverse := by
          rw [← List.map_reverse]
          exact paired_some (dpAll_rev (dpAll_stay st28 hks fcs))
        refine ⟨wtAll (cs.map some ++ none :: ps'), ?_, a, cs.map some ++ none :: ps', (l2, m1, []) :: bs, _, _, _, _, _, rfl, kw2.mine mi28, mine a _ _ J2 _ hR2 (by rw [wtAll_app, wtAll_some]; show 2 * ndAll cs + (1 + wtAll ps') ≤ 2 * ndD (.tuple [.str m1, .tuple cs]) + wtAll ps'; omega) mi28, ⟨hp8, hq8, ?_, ?_, ?_, fun x hx => ?_, fun e he => ?_, ?_, ?_⟩, ?_, rfl⟩
        · rw [em, wtAll_app, wtAll_some]
          show 2 * ndAll cs + (1 + wtAll ps') < 2 * ndD (.tuple [.str m1, .tuple cs]) + wtAll ps'
          omega
        · rw [List.reverse_append, List.reverse_cons]
          exact paired_appB (paired_appB (paired_impM (fun _ o m z => z.stay (rb.flatP ok o (by rw [List.reverse_cons]; exact List.mem_append_left _ m)) st28) pw2) (.cons rfl .nil)) pk
        · rw [List.reverse_cons]
          exact paired_appB (paired_impM (fun _ x m z => z.stay (StayT.of st28) (fun vs e => kl48 _ _ (rb.own x (List.mem_reverse.mp m)).1 (rb.own x (List.mem_reverse.mp m)).2.1 (s24 _ _ e)) (rb.own x (List.mem_reverse.mp m)).2.2.2) op2) (.cons ⟨t2, [], rfl, ht8, kl48 _ _ lp2 lq2 hl4, .nil⟩ .nil)
        · refine List.nodup_cons.mpr ⟨fun z => ?_, rb.nd⟩
          obtain ⟨x, hx, ex⟩ := List.mem_map.mp z
          obtain ⟨tx, htx, hox⟩ := paired_mem op2 (List.mem_reverse.mpr hx)
          obtain ⟨_, vs, _, _, h3, _⟩ := hox
          have ex : x.1 = l2 := ex
          rw [ex, nl2] at h3
          cases h3
        · rcases List.mem_cons.mp hx with z | z
          · rw [z]
            exact ⟨lp2, lq2, nl0, rfl⟩
          · exact rb.own x z
        · rcases List.mem_append.mp he with z | z
          · obtain ⟨c, hc, ec⟩ := List.mem_map.mp z
            cases ec
            exact ok.kids _ ge ek e hc
          · rcases List.mem_cons.mp z with z | z
            · cases z
            · exact gps e z
        · rw [nones_kids]
          show bs.length + 1 = (nones ps' + 1) + 1
          have c1 : bs.length = nones ps' + 1 := rb.cnt
          omega
        · rw [wtAll_app, wtAll_some]
          show 2 * ndAll cs + (1 + wtAll ps') + (0 + 1 + begSum (bs.map (·.2))) + 0 ≤ 2 * ndD d0 + 1
          omega
        · rw [← fe]
          exact fin_group (d := .tuple [.str m1, .tuple cs]) ek
      | false =>
        rw [show kidsO (some e) = false from ek]
        have yn : y ≠ .non := fun z => by
          subst z
          rcases ok.node e ge with ⟨z, rfl⟩ | ⟨z, i, rfl⟩ | ⟨m, cs, rfl⟩ <;> cases hy2
        refine iteF ⟨_, rfl, rfl, _, rfl, ?_⟩
        rw [decide_eq_false yn]
        refine iteF ⟨rfl, _, rfl, rfl, kw2.code _ _ hco, ?_⟩
        have rb2 : RebAt X.K good H p q (ndD d0) 1 ps' bs ws ts J2 := ⟨hp2, hq2, pw2, op2, rb.nd, rb.own, gps, rb.cnt, by
          have z : 2 * ndD e + wtAll ps' + begSum (bs.map (·.2)) + 0 ≤ 2 * ndD d0 + 1 := rb.sum
          have := nd_pos e
          omega⟩
        refine lam a (wtAll ps') J2 y e _ ge ek (mine a _ _ J2 J2 hR2 (by have := nd_pos e; show wtAll ps' + 1 ≤ 2 * ndD e + wtAll ps'; omega) (Mine.refl _ _)) kw2 hy2 fun J4 y4 hR4 kw4 hy4 => ?_
        have fg := flat a e ge ek
        have rb4 : RebAt X.K good H p q (ndD d0) 1 ps' bs ws ts J4 := rb2.keep ok kw4.stay (fun b xs n z => kw4.lst z (notW b n)) np0 nq0
        have fe4 : fin gg (gg a e).1 ps' (push (gg a e).2 (bs.map (·.2))) = fin gg a0 [some d0] [("", [])] := by
          rw [← fe]
          show _ = fin gg (rebS gg a e).1 ps' (push (rebS gg a e).2 (bs.map (·.2)))
          rw [rebS_piece ek]
        exact mid J4 _ bs ts _ y4 _ _ (kw2.trans kw4) hR4 rb4 hy4 fg.1 fg.2 fe4 (by
          rw [em]
          show wtAll ps' < 2 * ndD e + wtAll ps'
          have := nd_pos e
          omega) rfl fun _ _ z => z
end
end K1

namespace K1
open PySem PySem.Spec PyProof.Rows L2 Own LamX
/-! ### cut: a def that makes a lambda -/
/-- a def, and where its code object stands -/
structure FunC (K : PySem.W.Frag) (x qual : Str) (st : Stmt) (f : Addr) (fd : FuncData) (c : Addr) : Prop where
  ex : ∃ (oc : Value) (od : Option Addr) (kV doc pm : Value) (an : Option Addr) (ct : Value) (osl : Array (Option Value)),
    fd = PySem.W.fnOf x qual (defArgs st) (defBody st) (defScope st) .none kV doc pm an (.ref c) ct ∧ K.lookup f = some ⟨oc, od, .func fd, osl⟩ ∧ PySem.W.codeIn K (.ref c) qual = true
theorem FunC.okG {P : Program} {w : World} {K : PySem.W.Frag} {mg : Str → Option Value} {base : Heap} {x qual : Str} {st : Stmt} {f c : Addr} {fd : FuncData} {N ps : List Str} {k : Nat} {sp : Sp} (F : FunC K x qual st f fd c) (S : FnScope N ps (defScope st)) (len : ∀ vs H Q E, sp vs H Q E → vs.length = ps.length)
    (hbody : ∀ (A : Around) (out : List Env) (s : Shared) (H : Hp) (vs : List V) (Q : VK) (E : XK), Calm (A.deeper (envOfC qual (defScope st) s.heap.objs.size f (.ref c))) → Room k (A.deeper (envOfC qual (defScope st) s.heap.objs.size f (.ref c))) → sp vs H Q E →
      ∃ t, PSs (cxOf CX0 P w K mg base N qual (defScope st) f (.ref c) A out s H E).nox (defBody st) t ∧ t { nx := fun _ H' => Q .non H', rt := Q } (start N vs) H) : FnG P w K mg base (k + 1) f fd ps sp := by
  obtain ⟨oc, od, kV, doc, pm, an, ct, osl, rfl, lk, hcd⟩ := F.ex
  refine ⟨len, fun A out s H args us vs Q E hc hr e0 hb r h => ?_⟩
  have kin := e0.mod.kin.keeps fun b o q => (e0.bs b o q).1
  have nolim := e0.mod.nolimit.keeps fun b o q => (e0.bs b o q).1
  have names : ∀ y ∈ ps.zip us, (defScope st).names.lookup y.1 = some .local ∨ ((defScope st).names.lookup y.1 = some .cell ∧ ((cellsFrom (s.heap.objs.size + 1) (defScope st).names []).lookup y.1).isSome = true) := fun y hy =>
    (S.par y.1 (List.of_mem_zip (a := y.1) (b := y.2) hy).1).imp id fun q => ⟨q, PySem.W.cellsFrom_some _ _ _ (.inl q)⟩
  refine codeAny_call_function hr.depth (kin _ _ lk) rfl S.co S.gen rfl (PySem.W.codeRec_of kin hcd) (hb _ _ _ _ (wpAny_newFunctionEnv_cells S.kind names fun env he s1 c => ?_))
  subst he
  obtain ⟨t, ht, q⟩ := hbody A out s H vs Q E (hc.deeper _) (hr.deeper _) h
  refine ⟨nolim.keeps c.toInCall.keep, codeAny_func (wpAny_mono (ht.nox.run [] s1 (start N vs) H _ (inv_start S hr.hd e0 (len _ _ _ _ h) r c) q) (fun fl s' z => ?_) fun _ _ z => z)⟩
  match fl, z with
  | .ret u, ⟨v, σ', H', J, rv, q⟩ => exact ⟨v, H', J.os, J.bare, J.base, J.hok, rv, q⟩
  | .next, ⟨σ', H', J, q⟩ => exact ⟨V.non, H', J.os, J.bare, J.base, J.hok, rfl, q⟩
  | .brk, ⟨_, _, _, q⟩ => exact q.elim
  | .cont, ⟨_, _, _, q⟩ => exact q.elim
/-- the lambda that stands last in what a def returns -/
def lamOf (st : Stmt) : Arguments × Expr × Scope :=
  match defBody st with
  | [.Return (some (.Call _ [_, .Lambda p b s _] _ _)) _] => (p, b, s)
  | _ => (defArgs st, .Constant .none 0 ⟨0, 0, 0, 0⟩, defScope st)
/-- a piece cut to some kinds -/
def cutP (ws : List Str) (d : PyData) : Option PyData :=
  match d with
  | .tuple [.str z, .int i] => if z ∈ ws then some (.tuple [.str z, .int i]) else none
  | _ => none
/-- trees of any shape, of these kinds -/
def goodN (ns : List Str) : Nat → PyData → Prop
  | 0, d => ∃ z i, d = .tuple [.str z, .int i] ∧ z ∈ ns
  | n + 1, d => (∃ z i, d = .tuple [.str z, .int i] ∧ z ∈ ns) ∨ ∃ m cs, d = .tuple [.str m, .tuple cs] ∧ m ≠ star ∧ ∀ c ∈ cs, goodN ns n c
def goodK (ns : List Str) (d : PyData) : Prop := ∃ n, goodN ns n d
theorem goodK.split {ns : List Str} {d : PyData} (h : goodK ns d) : (∃ z i, d = .tuple [.str z, .int i] ∧ z ∈ ns) ∨ ∃ m cs, d = .tuple [.str m, .tuple cs] ∧ m ≠ star ∧ ∀ c ∈ cs, goodK ns c := by
  obtain ⟨n, h⟩ := h
  cases n with
  | zero => exact .inl h
  | succ n =>
    rcases h with h | ⟨m, cs, e, hm, hc⟩
    · exact .inl h
    · exact .inr ⟨m, cs, e, hm, fun c k => ⟨n, hc c k⟩⟩
theorem goodN_flat {ns : List Str} : ∀ (n : Nat) (d : PyData), goodN ns n d → noList d = true
  | 0, d, h => by
    obtain ⟨z, i, rfl, _⟩ := h
    rfl
  | n + 1, d, h => by
    rcases h with ⟨z, i, rfl, _⟩ | ⟨m, cs, rfl, _, hc⟩
    · rfl
    · show (true && (noListAll cs && true)) = true
      rw [noListAll_of fun c k => goodN_flat n c (hc c k)]
      rfl
/-- trees without holes -/
def goodC (d : PyData) : Prop := ∃ ns, goodK ns d ∧ star ∉ ns
def spCutPiece (K : PySem.W.Frag) : Sp := fun vs H Q _ => ∃ v z i wa ws, vs = [v, .ref wa] ∧ Dp K H v (.tuple [.str z, .int i]) ∧ z ≠ star ∧ (SqL K H wa (ws.map V.str) ∨ SqT K H wa (ws.map V.str)) ∧ ∀ y, OptDp K H y (cutP ws (.tuple [.str z, .int i])) → Q y H
section
variable {P : Program} {w : World} {K : PySem.W.Frag} {mg : Str → Option Value} {base : Heap}
theorem scCutPiece : FnScope ["piece", "wanted", "names", "name"] ["piece", "wanted"] (defScope sCutPiece) := ⟨rfl, rfl, rfl, by decide +kernel, rfl, by decide +kernel, by decide +kernel⟩
theorem ps_neverSs {X : Cx} {st : Stmt} {r : List Stmt} : PSs X (st :: r) (fun _ _ _ => False) := ⟨fun _ _ _ _ _ _ h => h.elim⟩
theorem ok_cutPiece {f fH : Addr} {fd dH : FuncData} (F : Fun K "_cut_piece" "_cut_piece" sCutPiece f fd) (GH : FnOk P w K mg base CX0 1 fH dH ["piece"] (spIsHole K)) (kH : PySem.W.keepIn K (.ref fH) = true) (bH : Binds K dH ["piece"] []) (mH : mg "is_hole" = some (.ref fH)) :
    FnOk P w K mg base CX0 2 f fd ["piece", "wanted"] (spCutPiece K) := by
  refine F.ok scCutPiece (fun vs H Q E h => ?_) (fun cdv A outer s H vs Q E hr h => ?_)
  · obtain ⟨v, z, i, wa, ws, rfl, _⟩ := h
    rfl
  · obtain ⟨v, z, i, wa, ws, rfl, hd, hz, hw, k⟩ := h
    refine ⟨_, pss_cons (ps_if (pt_not (pt_val (pe_call GH hr (by rfl) mH kH bH .nil pass0 (pa_cons (pv 0) pa_nil))))
        (pss_one (ps_ret (pe_ifExp (pt_cmpR op_in_seq (pe_ix ix_tup (pv 0) pe_int (fun _ _ => rfl)) (pv 1) (by rfl)) (pv 0) pe_non)))
        pss_nil) ps_neverSs, ?_⟩
    refine ⟨_, rfl, v, z, .int i, rfl, hd, ?_⟩
    rw [decide_eq_false hz]
    refine ⟨_, rfl, iteT ?_⟩
    have hd0 := hd
    obtain ⟨a, x, y, rfl, hs, hx, hy⟩ := dp_pair hd
    cases hx
    refine ⟨_, rfl, a, _, 0, .str z, rfl, rfl, hs, rfl, _, rfl, wa, _, rfl, hw, rfl, flat_strs _, ?_⟩
    rw [inV_str]
    by_cases hzw : z ∈ ws
    · rw [decide_eq_true hzw]
      refine ⟨_, rfl, iteT ⟨_, rfl, k _ ?_⟩⟩
      show OptDp K H _ (if z ∈ ws then _ else _)
      rw [if_pos hzw]
      exact hd0
    · rw [decide_eq_false hzw]
      refine ⟨_, rfl, iteF (k _ ?_)⟩
      show OptDp K H _ (if z ∈ ws then _ else _)
      rw [if_neg hzw]
      exact rfl
end
theorem tabs_mine {T : List (Addr × Str)} {H0 J J2 : Hp} (t : Tabs T J) (m : Mine H0 J J2) : Tabs T J2 := fun p hp => by
  obtain ⟨ps, h1, h2, h3⟩ := t p hp
  refine ⟨ps, m _ _ h1 (.inr fun _ z => nomatch z), h2, fun pos cv e => ?_⟩
  obtain ⟨c, e1, e2⟩ := h3 pos cv e
  exact ⟨c, e1, m _ _ e2 (.inr fun xs z => by
    unfold CodeO at z
    cases z)⟩
theorem sq_keep {K : PySem.W.Frag} {H J : Hp} {a : Addr} {xs : List V} (k : KeepW (fun _ => False) H J) (h : SqL K H a xs ∨ SqT K H a xs) : SqL K J a xs ∨ SqT K J a xs := by
  have rd : ∀ {o : HO}, (∀ ps, o ≠ HO.tbl ps) → Rd H a o → Rd J a o := fun {o} n r => by
    rcases r with e | ⟨b, e⟩
    · exact .inl (k.all _ _ e n (.inl id))
    · exact .inr ⟨b, k.all _ _ e (fun _ z => nomatch z) (.inl id)⟩
  rcases h with h | h
  · exact .inl (h.elim (fun r => .inl (rd (fun _ z => nomatch z) r)) .inr)
  · exact .inr (h.elim (fun r => .inl (rd (fun _ z => nomatch z) r)) .inr)
/-- cutting changes no state -/
def cutG (ws : List Str) (_ : Unit) (d : PyData) : Unit × Option PyData := ((), cutP ws d)
/-- the tables of code that defs with a lambda write -/
structure TabT (T : List (Addr × Str)) (P : Addr) (q : Str) : Prop where
  mem : (P, q) ∈ T
  one : ∀ p ∈ T, p.1 = P → p.2 = q
def spTmCut (T : List (Addr × Str)) (K : PySem.W.Frag) : Sp := fun vs H Q _ => ∃ v d wa ws, vs = [v, .ref wa] ∧ Tabs T H ∧ Dp K H v d ∧ goodC d ∧ ndD d ≤ 400000 ∧ (SqL K H wa (ws.map V.str) ∨ SqT K H wa (ws.map V.str)) ∧
  ∀ H' y, KeepW (fun _ => False) H H' → Tabs T H' → OptDp K H' y (rebS (cutG ws) () d).2 → Q y H'
theorem goodC.split {d : PyData} (h : goodC d) : (∃ z i, d = .tuple [.str z, .int i] ∧ z ≠ star) ∨ ∃ m cs, d = .tuple [.str m, .tuple cs] ∧ m ≠ star ∧ ∀ c ∈ cs, goodC c := by
  obtain ⟨ns, h, ns'⟩ := h
  rcases h.split with ⟨z, i, e, hz⟩ | ⟨m, cs, e, hm, hc⟩
  · exact .inl ⟨z, i, e, fun q => ns' (q ▸ hz)⟩
  · exact .inr ⟨m, cs, e, hm, fun c hcm => ⟨ns, hc c hcm, ns'⟩⟩
theorem goodC.ok : RebOk goodC := ⟨fun d h => by
  rcases h.split with ⟨z, i, e, _⟩ | ⟨m, cs, e, _⟩
  · exact .inr (.inl ⟨z, i, e⟩)
  · exact .inr (.inr ⟨m, cs, e⟩), fun d h => by
  obtain ⟨ns, ⟨n, h⟩, _⟩ := h
  exact goodN_flat n d h, fun d h _ c hc => by
  rcases h.split with ⟨z, i, rfl, _⟩ | ⟨m, cs, rfl, _, k⟩
  · cases hc
  · exact k c hc⟩
theorem goodC.piece {d : PyData} (h : goodC d) (n : hasKidsD d = false) : ∃ z i, d = .tuple [.str z, .int i] ∧ z ≠ star := by
  rcases h.split with z | ⟨m, cs, rfl, hm, _⟩
  · exact z
  · have n : (!decide (m = star)) = false := n
    rw [decide_eq_false hm] at n
    cases n
section
variable {P : Program} {w : World} {K : PySem.W.Frag} {mg : Str → Option Value} {base : Heap}
theorem scTmCut : FnScope ["tree", "wanted"] ["tree", "wanted"] (defScope sTmCut) := ⟨rfl, rfl, rfl, by decide +kernel, rfl, by decide +kernel, by decide +kernel⟩
theorem ok_tmCut {T : List (Addr × Str)} {f c Pt fR fK fE fP : Addr} {fd dR dK dE dP : FuncData} (F : FunC K "cut" "cut" sTmCut f fd c) (TB : TabB base mg c Pt) (hT : TabT T Pt ("cut" ++ ".<locals>." ++ "<lambda>"))
    (FR : Fun K "rebuilt" "rebuilt" sRebuilt fR dR) (mR : mg "rebuilt" = some (.ref fR)) (bR : Binds K dR ["root", "change"] [])
    (GK : FnOk P w K mg base CX0 1 fK dK ["node"] (spHasKids K)) (kK : PySem.W.keepIn K (.ref fK) = true) (bK : Binds K dK ["node"] []) (mK : mg "_has_children" = some (.ref fK))
    (GE : FnOk P w K mg base CX0 1 fE dE ["group"] (spEnded K)) (kE : PySem.W.keepIn K (.ref fE) = true) (bE : Binds K dE ["group"] []) (mE : mg "_ended" = some (.ref fE))
    (GP : FnOk P w K mg base CX0 2 fP dP ["piece", "wanted"] (spCutPiece K)) (kP : PySem.W.keepIn K (.ref fP) = true) (bP : Binds K dP ["piece", "wanted"] []) (mP : mg "_cut_piece" = some (.ref fP)) :
    FnG P w K mg base 5 f fd ["tree", "wanted"] (spTmCut T K) := by
  obtain ⟨oc, od, kV, doc, pm, an, cdv, ct, osl, rfl, lk, hcd⟩ := FR.ex
  refine F.okG scTmCut (fun vs H Q E h => ?_) (fun A out s H vs Q E hc hr h => ?_)
  · obtain ⟨v, d, wa, ws, rfl, _⟩ := h
    rfl
  · obtain ⟨v, d, wa, ws, rfl, tabs, hd, gd, big, hw, k⟩ := h
    have LC : LamCall (cxOf CX0 P w K mg base ["tree", "wanted"] "cut" (defScope sTmCut) f (.ref c) A out s H E).nox T (TReb K) "rebuilt" "change" fR c Pt 2 1 (defArgs sRebuilt) (defBody sRebuilt) (defScope sRebuilt) .none kV doc pm cdv ct oc an od osl nRebuilt ["root"] ["piece"] (lamOf sTmCut).1 (lamOf sTmCut).2.1 (lamOf sTmCut).2.2
        (fun E => tCall (spCutPiece K) [] E (tCons (tVar 2) (tCons (tVar 1) tNil))) :=
      { hm := mR, hk := FR.kp, lk := lk, hcg := hcd, hb := bR, ql := rfl, Sg := scRebuilt, hNg := rfl, hva := .inl rfl
        hG := reb_gives GK kK bK mK GE kE bE mE
        TB := TB, hcode := rfl, hmT := hT.mem, hu := hT.one, hc := hc, hr := hr
        L := lamP_by (sc := defScope sTmCut) (scope := (lamOf sTmCut).2.2) (N := ["tree", "wanted"]) (by decide +kernel)
        hdef := rfl
        hbind := fun pm cv ctv us hl => match us, hl with | [_], _ => rfl
        hbody := fun A out z H E f c' hc hr => pe_call GP hr (by rfl) mP kP bP .nil pass0 (pa_cons (pv 2) (pa_cons (pv 1) pa_nil)) }
    refine ⟨_, pss_one (ps_ret (pe_lam1 LC (by rfl) (pv 0))), ?_⟩
    refine ⟨_, rfl, tabs, fun H1 eN T1 => ?_⟩
    have k1 := KeepW.ofN (W := fun _ => False) eN
    refine ⟨Unit, cutG ws, fun _ _ J => Tabs T J, fun _ => False, goodC, (), v, d, rfl, dp_stayT k1.stay hd (goodC.ok.flat d gd), gd, goodC.ok, big, fun _ z => z.elim, T1, fun _ _ _ J J2 t _ m => tabs_mine t m, fun _ e ge ek => ?_, fun _ _ J u e Q1 ge ek t kw hu q => ?_, fun H2 y t kw hy => k H2 y (k1.trans kw) t hy⟩
    · obtain ⟨z, i, rfl, _⟩ := ge.piece ek
      show flatO (if z ∈ ws then some (PyData.tuple [.str z, .int i]) else none) ∧ (if z ∈ ws then some (PyData.tuple [.str z, .int i]) else none) ≠ some PyData.none
      split
      · exact ⟨rfl, fun z => nomatch z⟩
      · exact ⟨trivial, fun z => nomatch z⟩
    · obtain ⟨z, i, rfl, hz⟩ := ge.piece ek
      exact ⟨_, rfl, _, rfl, u, z, i, wa, ws, rfl, hu, hz, sq_keep (k1.trans kw) hw, fun y hy => q J y t (KeepW.refl _ _) hy⟩
end
end K1

namespace K1
open PySem PySem.Spec PyProof.Rows L2 Own LamX
/-! ### cut on trees; is_leaf; pieces -/
theorem reb_cutAll {ws : List Str} : ∀ (cs : List PyData), (∀ c ∈ cs, (rebS (cutG ws) () c).2 = cutD ws c) → (rebAll (cutG ws) () cs).2 = cs.filterMap (cutD ws)
  | [], _ => by rw [rebAll_nil]; rfl
  | c :: r, h => by
    rw [rebAll_cons]
    show (rebS (cutG ws) () c).2.toList ++ (rebAll (cutG ws) () r).2 = _
    rw [h c (List.mem_cons_self ..), reb_cutAll r fun x hx => h x (List.mem_cons_of_mem _ hx)]
    cases e : cutD ws c with
    | none => rw [List.filterMap_cons_none e]; rfl
    | some x => rw [List.filterMap_cons_some e]; rfl
theorem reb_cut {ws : List Str} : ∀ (n : Nat) (d : PyData), ndD d ≤ n → goodC d → (rebS (cutG ws) () d).2 = cutD ws d
  | 0, d, h, _ => by
    have := nd_pos d
    omega
  | n + 1, d, h, g => by
    rcases g.split with ⟨z, i, rfl, hz⟩ | ⟨m, cs, rfl, hm, hc⟩
    · rw [rebS_piece rfl, cut_leaf]
      rfl
    · have hk : hasKidsD (.tuple [.str m, .tuple cs]) = true := by
        show (!decide (m = star)) = true
        rw [decide_eq_false hm]
        rfl
      have kn : ndAll cs < ndD (.tuple [.str m, .tuple cs]) := kids_nd (.tuple [.str m, .tuple cs])
      rw [rebS_kids hk, cut_group]
      show grp m (rebAll (cutG ws) () cs).2 = _
      rw [reb_cutAll cs fun c hcm => reb_cut n c (by have := nd_mem hcm; omega) (hc c hcm)]
      unfold grp
      cases cs.filterMap (cutD ws) with
      | nil => rfl
      | cons a b => rfl
def spTmLeaf (K : PySem.W.Frag) : Sp := fun vs H Q _ => ∃ v m x, vs = [v] ∧ Dp K H v (.tuple [m, x]) ∧ Q (.bl (isIntD x)) H
mutual
/-- the pieces, from left to right -/
def piecesD : PyData → List PyData
  | .tuple ds => piecesT (.tuple ds) ds
  | d => [d]
def piecesT (d : PyData) : List PyData → List PyData
  | [] => [d]
  | x :: r => if hasKidsD d = true then piecesK d r else [d]
def piecesK (d : PyData) : List PyData → List PyData
  | [] => [d]
  | x :: r => match x with
    | .tuple cs => piecesL cs
    | _ => [d]
def piecesL : List PyData → List PyData
  | [] => []
  | c :: r => piecesD c ++ piecesL r
end
theorem pieces_kids {m : Str} {cs : List PyData} (h : hasKidsD (.tuple [.str m, .tuple cs]) = true) : piecesD (.tuple [.str m, .tuple cs]) = piecesL cs := by
  rw [piecesD, piecesT, if_pos h, piecesK]
theorem pieces_one {d : PyData} (h : hasKidsD d = false) : piecesD d = [d] := by
  cases d with
  | tuple ds =>
    rw [piecesD]
    cases ds with
    | nil => rw [piecesT]
    | cons x r => rw [piecesT, if_neg (by rw [h]; exact Bool.false_ne_true)]
  | _ => rw [piecesD] <;> (intro ds z; cases z)
theorem piecesL_app : ∀ (a b : List PyData), piecesL (a ++ b) = piecesL a ++ piecesL b
  | [], b => by rw [piecesL]; rfl
  | c :: r, b => by
    rw [List.cons_append, piecesL, piecesL, piecesL_app r b, List.append_assoc]
theorem piecesL_one (d : PyData) : piecesL [d] = piecesD d := by
  rw [piecesL, piecesL, List.append_nil]
theorem nd_rev (cs : List PyData) : ndAll cs.reverse = ndAll cs := by
  induction cs with
  | nil => rfl
  | cons c r ih =>
    rw [List.reverse_cons, ndAll_app, ih]
    show ndAll r + (ndD c + 0) = ndD c + ndAll r
    omega
def spPieces (K : PySem.W.Frag) : Sp := fun vs H Q _ => ∃ v d good, vs = [v] ∧ Dp K H v d ∧ good d ∧ RebOk good ∧ ndD d ≤ 1000000 ∧ ∀ H' p us, Same H H' → H p = none → H' p = some (.lst us) → DpAll K H us (piecesD d) → (∀ e ∈ piecesD d, good e ∧ hasKidsD e = false) → Q (.ref p) H'
section
variable {P : Program} {w : World} {K : PySem.W.Frag} {mg : Str → Option Value} {base : Heap}
theorem scTmLeaf : FnScope ["tree"] ["tree"] (defScope sTmLeaf) := ⟨rfl, rfl, rfl, by decide +kernel, rfl, by decide +kernel, by decide +kernel⟩
theorem ok_tmLeaf {f : Addr} {fd : FuncData} (F : Fun K "is_leaf" "is_leaf" sTmLeaf f fd) (mi : mg "isinstance" = none) (mt : mg "int" = none) : FnOk P w K mg base CX0 1 f fd ["tree"] (spTmLeaf K) := by
  refine F.ok scTmLeaf (fun vs H Q E h => ?_) (fun cdv A outer s H vs Q E hr h => ?_)
  · obtain ⟨v, m, x, rfl, _⟩ := h
    rfl
  · obtain ⟨v, m, d, rfl, hd, k⟩ := h
    refine ⟨_, pss_one (ps_ret (pe_callB call_isi (by rfl) mi (by decide +kernel) (pa_cons (pe_ix ix_tup (pv 0) pe_int (fun _ _ => rfl)) (pa_cons (pe_bltn (v := .ty "int") (u := .type "int") (by rfl) mt (by decide +kernel) rfl) pa_nil)))), ?_⟩
    obtain ⟨a, x, y, rfl, hs, hx, hy⟩ := dp_pair hd
    exact ⟨_, rfl, a, _, 1, y, rfl, rfl, hs, rfl, y, .ty "int", _, _, isIntD d, rfl, .ty "int", dp_ty hy, kit_ty (kt_int d), k⟩
theorem scPieces : FnScope ["root", "found", "pending", "node"] ["root"] (defScope sPieces) := ⟨rfl, rfl, rfl, by decide +kernel, rfl, by decide +kernel, by decide +kernel⟩
theorem ok_pieces {f fK : Addr} {fd dK : FuncData} (F : Fun K "pieces" "pieces" sPieces f fd) (GK : FnOk P w K mg base CX0 1 fK dK ["node"] (spHasKids K)) (kK : PySem.W.keepIn K (.ref fK) = true) (bK : Binds K dK ["node"] []) (mK : mg "_has_children" = some (.ref fK)) :
    FnOk P w K mg base CX0 2 f fd ["root"] (spPieces K) := by
  refine F.ok scPieces (fun vs H Q E h => ?_) (fun cdv A outer s H vs Q E hr h => ?_)
  · obtain ⟨v, d, good, rfl, _⟩ := h
    rfl
  · obtain ⟨v, d0, good, rfl, hd, gd, ok, big, k⟩ := h
    refine ⟨_, pss_cons (ps_set (i := 1) scPieces.nd rfl (Or.inl rfl) (pe_lst pa_nil))
      (pss_cons (ps_set (i := 2) scPieces.nd rfl (Or.inl rfl) (pe_lst (pa_cons (pv 0) pa_nil)))
      (pss_cons (ps_while PassesOwn.never (pt_truth (pv 2) (by intro _; rfl))
        (pss_cons (ps_set (i := 3) scPieces.nd rfl (Or.inl rfl) (pe_bm0 PySem.F.plainAttrs_list PySem.F.slot_list_pop PySem.F.type_list_pop mt_pop (pv 2)))
        (pss_one (ps_if (pt_val (pe_call GK hr (by rfl) mK kK bK .nil pass0 (pa_cons (pv 3) pa_nil)))
          (pss_one (ps_expr (pe_bm PySem.F.plainAttrs_list PySem.F.slot_list_extend PySem.F.type_list_extend mt_extT (pv 2) (pa_cons (pe_revT (pe_ix ix_tup (pv 3) pe_int (fun _ _ => rfl))) pa_nil))))
          (pss_one (ps_expr (pe_bm PySem.F.plainAttrs_list PySem.F.slot_list_append PySem.F.type_list_append mt_append (pv 1) (pa_cons (pv 3) pa_nil))))))))
      (pss_one (ps_ret (pv 1))))), ?_⟩
    refine ⟨Nat.zero_le _, fun p np => ⟨_, rfl, (by show 1 ≤ sizeLine; decide), fun q nq => ?_⟩⟩
    have s1 := same_upd (o := .lst []) np
    have hp1 := upd_same (H := H) (a := p) (o := .lst [])
    generalize upd H p (.lst []) = H1 at s1 hp1 nq ⊢
    have s2 := same_upd (o := .lst [v]) nq
    have hq2 := upd_same (H := H1) (a := q) (o := .lst [v])
    have nq0 := s1.free nq
    have pq : p ≠ q := ne_of_none hp1 nq
    generalize upd H1 q (.lst [v]) = H2 at s2 hq2 ⊢
    refine ⟨fun m σ J => ∃ v3 fs us ps ds, σ = [some v, some (.ref p), some (.ref q), v3] ∧ Same H J ∧ J p = some (.lst fs) ∧ J q = some (.lst us) ∧ DpAll K H fs ps ∧ DpAll K H us ds ∧ (∀ e ∈ ds, good e) ∧ (∀ e ∈ ps, good e ∧ hasKidsD e = false) ∧ ndAll ds + ps.length ≤ ndD d0 ∧ ps ++ piecesL ds.reverse = piecesD d0 ∧ m = ndAll ds,
      ⟨_, none, [], [v], [], [d0], rfl, s1.trans s2, s2 _ _ hp1, hq2, .nil, .cons hd .nil, fun e he => by rw [List.mem_singleton.mp he]; exact gd, (fun e he => nomatch he), by show (ndD d0 + 0) + 0 ≤ _; omega, piecesL_one d0, rfl⟩, ?_⟩
    rintro m σ J ⟨v3, fs, us, ps, ds, rfl, sm, hp, hq, hf, hu, gds, gps, sum, ep, em⟩
    have lu := dpAll_len hu
    have lf := dpAll_len hf
    have ln := ndAll_len ds
    refine ⟨_, rfl, !us.isEmpty, .inl ⟨us, SqL.of hq, rfl⟩, ?_⟩
    by_cases ev : us = []
    · subst ev
      have ed : ds = [] := List.length_eq_zero_iff.mp lu.symm
      subst ed
      refine iteF ⟨_, rfl, ?_⟩
      have ep : ps ++ piecesL [] = piecesD d0 := ep
      rw [show piecesL [] = [] from by rw [piecesL], List.append_nil] at ep
      subst ep
      exact k J p fs sm np hp hf gps
    · rw [show (!us.isEmpty) = true from by cases us with | nil => exact absurd rfl ev | cons _ _ => rfl]
      refine iteT ?_
      obtain ⟨ws, y, es, e, rfl, rfl, ha2, he⟩ := dpAll_snoc hu ev
      have ge : good e := gds e (List.mem_append_right _ (List.mem_cons_self ..))
      have ges : ∀ d ∈ es, good d := fun d hm => gds d (List.mem_append_left _ hm)
      have cnt : ndAll es + ndD e = m := by
        rw [ndAll_app] at em
        exact em.symm
      have lw := dpAll_len ha2
      have le := ndAll_len es
      rw [List.reverse_append] at ep
      have ep : ps ++ piecesL ([e] ++ es.reverse) = piecesD d0 := ep
      rw [piecesL_app, piecesL_one] at ep
      refine ⟨fun σ' J2 => ∃ m', m' < m ∧ ∃ v3 fs us ps ds, σ' = [some v, some (.ref p), some (.ref q), v3] ∧ Same H J2 ∧ J2 p = some (.lst fs) ∧ J2 q = some (.lst us) ∧ DpAll K H fs ps ∧ DpAll K H us ds ∧ (∀ e ∈ ds, good e) ∧ (∀ e ∈ ps, good e ∧ hasKidsD e = false) ∧ ndAll ds + ps.length ≤ ndD d0 ∧ ps ++ piecesL ds.reverse = piecesD d0 ∧ m' = ndAll ds, fun σ' H2 q => q, ?_⟩
      refine ⟨_, rfl, .inl ⟨rfl, _, SqL.of hq⟩, q, _, y, rfl, rfl, hq, ?_, ?_⟩
      · rw [List.length_append, List.length_singleton, Nat.add_sub_cancel, List.getElem?_append_right (Nat.le_refl _), Nat.sub_self]
        rfl
      have s3 : Same H (upd J q (.lst (ws ++ [y]).dropLast)) := same_past nq0 sm
      have hq3 := upd_same (H := J) (a := q) (o := .lst (ws ++ [y]).dropLast)
      have hp3 : upd J q (.lst (ws ++ [y]).dropLast) p = some (.lst fs) := by
        rw [upd_ne pq]
        exact hp
      rw [List.dropLast_concat] at s3 hq3 hp3 ⊢
      generalize upd J q (.lst ws) = J3 at s3 hq3 hp3 ⊢
      refine ⟨_, rfl, y, some e, rfl, dp_same s3 he, fun d z => by cases z; exact ok.node e ge, _, rfl, ?_⟩
      have p1 := nd_pos e
      cases ek : hasKidsD e with
      | true =>
        obtain ⟨m1, cs, rfl⟩ : ∃ m1 cs, e = .tuple [.str m1, .tuple cs] := by
          rcases ok.node e ge with ⟨z, rfl⟩ | ⟨z, i, rfl⟩ | ⟨m1, cs, rfl⟩
          · cases ek
          · cases ek
          · exact ⟨m1, cs, rfl⟩
        obtain ⟨ea, ex, ey, rfl, hs, hx, hi⟩ := dp_pair he
        have kn : ndAll cs < ndD (.tuple [.str m1, .tuple cs]) := kids_nd (.tuple [.str m1, .tuple cs])
        have lcs := ndAll_len cs
        cases hi with
        | tup hs2 ha3 =>
          rename_i eb ks
          have lks := dpAll_len ha3
          rw [show kidsO (some (.tuple [.str m1, .tuple cs])) = true from ek]
          refine iteT ⟨_, rfl, .inl ⟨rfl, _, SqL.of hq3⟩, _, rfl, ea, _, 1, _, rfl, rfl, Same.tup s3 hs, rfl, _, ks, rfl, Same.tup s3 hs2, fun z nz => ?_⟩
          have s4 := same_upd (o := .tup ks.reverse) nz
          have hz4 := upd_same (H := J3) (a := z) (o := .tup ks.reverse)
          generalize upd J3 z (.tup ks.reverse) = J4 at s4 hz4 ⊢
          refine ⟨q, z, _, ks.reverse, rfl, rfl, s4 _ _ hq3, SqT.of hz4, by rw [sizeLine_eq, List.length_reverse]; omega, ?_⟩
          refine ⟨ndAll (es ++ cs.reverse), ?_, _, fs, _, ps, es ++ cs.reverse, rfl, same_past nq0 (s3.trans s4), by rw [upd_ne pq]; exact s4 _ _ hp3, upd_same, hf, dpAll_app ha2 (dpAll_rev ha3), fun d hm => ?_, gps, ?_, ?_, rfl⟩
          · rw [ndAll_app, nd_rev]
            omega
          · rcases List.mem_append.mp hm with h | h
            · exact ges d h
            · exact ok.kids _ ge ek d (List.mem_reverse.mp h)
          · rw [ndAll_app, nd_rev]
            rw [ndAll_app] at sum
            have sum : ndAll es + (ndD (.tuple [.str m1, .tuple cs]) + 0) + ps.length ≤ ndD d0 := sum
            omega
          · rw [List.reverse_append, List.reverse_reverse, piecesL_app, ← pieces_kids ek]
            exact ep
      | false =>
        rw [show kidsO (some e) = false from ek]
        refine iteF ⟨_, rfl, .inl ⟨rfl, _, SqL.of hp3⟩, _, rfl, p, fs, y, rfl, rfl, hp3, by rw [sizeLine_eq]; omega, ?_⟩
        refine ⟨ndAll es, by omega, _, fs ++ [y], ws, ps ++ [e], es, rfl, same_past np s3, upd_same, by rw [upd_ne pq.symm]; exact hq3, dpAll_app hf (.cons he .nil), ha2, ges, fun d hm => ?_, ?_, ?_, rfl⟩
        · rcases List.mem_append.mp hm with h | h
          · exact gps d h
          · rw [List.mem_singleton.mp h]
            exact ⟨ge, ek⟩
        · rw [ndAll_app] at sum
          have sum : ndAll es + (ndD e + 0) + ps.length ≤ ndD d0 := sum
          rw [List.length_append, List.length_singleton]
          omega
        · rw [pieces_one ek] at ep
          rw [List.append_assoc]
          exact ep
end
end K1

namespace K1
open PySem PySem.Spec PyProof.Rows L2 Own LamX
/-! ### kinds_in -/
/-- tuples and what is frozen stay -/
structure StayU (H H' : Hp) : Prop where
  tup : ∀ b xs, H b = some (.tup xs) → H' b = some (.tup xs)
  frz : ∀ b o u, H b = some (.frz o u) → H' b = some (.frz o u)
theorem sqT_stayU {K : PySem.W.Frag} {H H' : Hp} (s : StayU H H') {a : Addr} {xs : List V} (h : SqT K H a xs) : SqT K H' a xs := by
  rcases h with (e | ⟨o, e⟩) | h
  · exact .inl (.inl (s.tup _ _ e))
  · exact .inl (.inr ⟨o, s.frz _ _ _ e⟩)
  · exact .inr h
section
variable {K : PySem.W.Frag} {H H' : Hp}
mutual
theorem dp_stayU (s : StayU H H') : ∀ {v : V} {d : PyData}, Dp K H v d → noList d = true → Dp K H' v d
  | _, _, .non, _ => .non
  | _, _, .bl b, _ => .bl b
  | _, _, .int i, _ => .int i
  | _, _, .str z, _ => .str z
  | _, _, .lst _ _, n => absurd n (fun z => nomatch z)
  | _, _, .tup h a, n => .tup (sqT_stayU s h) (dpAll_stayU s a n)
theorem dpAll_stayU (s : StayU H H') : ∀ {vs : List V} {ds : List PyData}, DpAll K H vs ds → noListAll ds = true → DpAll K H' vs ds
  | _, _, .nil, _ => .nil
  | _, _, .cons a r, n => .cons (dp_stayU s a (Bool.and_eq_true_iff.mp n).1) (dpAll_stayU s r (Bool.and_eq_true_iff.mp n).2)
end
end
/-- the kinds of the pieces, ascending -/
structure KindsOf (d : PyData) (ks : List Str) : Prop where
  so : sortedS ks = true
  nd : ks.Nodup
  mem : ∀ z, z ∈ ks ↔ ∃ e ∈ piecesD d, hdS e = z
def spKindsIn (K : PySem.W.Frag) : Sp := fun vs H Q _ => ∃ v d ns, vs = [v] ∧ Dp K H v d ∧ goodK ns d ∧ star ∉ ns ∧ ns.length < 64 ∧ ndD d ≤ 1000000 ∧ ∀ H' p ks, Same H H' → H p = none → H' p = some (.lst (ks.map V.str)) → KindsOf d ks → (∀ z ∈ ks, z ∈ ns) → Q (.ref p) H'
mutual
theorem piece_in {ns : List Str} : ∀ (n : Nat) (d : PyData), ndD d ≤ n → goodK ns d → ∀ e ∈ piecesD d, hdS e ∈ ns
  | 0, d, h, _ => by
    have := nd_pos d
    omega
  | n + 1, d, h, g => by
    rcases g.split with ⟨z, i, rfl, hz⟩ | ⟨m, cs, rfl, ms, hc⟩
    · rw [pieces_one rfl]
      intro e he
      rw [List.mem_singleton.mp he]
      exact hz
    · have kn : ndAll cs < ndD (.tuple [.str m, .tuple cs]) := kids_nd (.tuple [.str m, .tuple cs])
      have hk : hasKidsD (.tuple [.str m, .tuple cs]) = true := by
        show (!decide (m = star)) = true
        rw [decide_eq_false ms]
        rfl
      rw [pieces_kids hk]
      exact pieceL_in n cs (by omega) hc
theorem pieceL_in {ns : List Str} : ∀ (n : Nat) (cs : List PyData), ndAll cs ≤ n → (∀ c ∈ cs, goodK ns c) → ∀ e ∈ piecesL cs, hdS e ∈ ns
  | _, [], _, _ => by
    rw [piecesL]
    intro e he
    nomatch he
  | 0, c :: r, h, _ => by
    have := nd_pos c
    have h : ndD c + ndAll r ≤ 0 := h
    omega
  | n + 1, c :: r, h, g => by
    have h : ndD c + ndAll r ≤ n + 1 := h
    have := nd_pos c
    rw [piecesL]
    intro e he
    rcases List.mem_append.mp he with z | z
    · exact piece_in (n + 1) c (by omega) (g c (List.mem_cons_self ..)) e z
    · exact pieceL_in n r (by omega) (fun x hx => g x (List.mem_cons_of_mem _ hx)) e z
end
section
variable {P : Program} {w : World} {K : PySem.W.Frag} {mg : Str → Option Value} {base : Heap}
theorem scKindsIn : FnScope ["tree", "found", "piece", "names", "kind"] ["tree"] (defScope sKindsIn) := ⟨rfl, rfl, rfl, by decide +kernel, rfl, by decide +kernel, by decide +kernel⟩
theorem ok_kindsIn {f fP fH : Addr} {fd dP dH : FuncData} (F : Fun K "kinds_in" "kinds_in" sKindsIn f fd) (GP : FnOk P w K mg base CX0 2 fP dP ["root"] (spPieces K)) (kP : PySem.W.keepIn K (.ref fP) = true) (bP : Binds K dP ["root"] []) (mP : mg "pieces" = some (.ref fP))
    (GH : FnOk P w K mg base CX0 1 fH dH ["piece"] (spIsHole K)) (kH : PySem.W.keepIn K (.ref fH) = true) (bH : Binds K dH ["piece"] []) (mH : mg "is_hole" = some (.ref fH)) (ms : mg "sorted" = none) : FnOk P w K mg base CX0 3 f fd ["tree"] (spKindsIn K) := by
  refine F.ok scKindsIn (fun vs H Q E h => ?_) (fun cdv A outer s H vs Q E hr h => ?_)
  · obtain ⟨v, d, ns, rfl, _⟩ := h
    rfl
  · obtain ⟨v, dd, ns, rfl, hd, gt, nst, few, big, k⟩ := h
    have hu := hu_of hr
    have hr1 := hr.mono (show 1 ≤ 2 by decide)
    refine ⟨_, pss_cons (ps_set (i := 1) scKindsIn.nd rfl (Or.inl rfl) pe_dnewK)
      (pss_cons (ps_for PassesOwn.never rfl (pi_list (pe_call GP hr (by rfl) mP kP bP .nil pass0 (pa_cons (pv 0) pa_nil))) (pg_name (i := 2) scKindsIn.nd rfl (Or.inl rfl))
        (pss_cons (ps_set (i := 3) scKindsIn.nd rfl (Or.inl rfl) (pe_ifExp (pt_val (pe_call GH hr1 (by rfl) mH kH bH .nil pass0 (pa_cons (pv 2) pa_nil))) (pe_ix ix_tup (pv 2) pe_int (fun _ _ => rfl)) (pe_tup (pa_cons (pe_ix ix_tup (pv 2) pe_int (fun _ _ => rfl)) pa_nil))))
        (pss_one (ps_for PassesOwn.never rfl (pi_seq 3) (pg_name (i := 4) scKindsIn.nd rfl (Or.inl rfl))
          (pss_one (ps_dput hu (pv 1) (pv 4) pe_bl rfl))))))
      (pss_one (ps_ret (pe_callB (call_sortedD rfl) (by rfl) ms (by decide +kernel) (pa_cons (pv 1) pa_nil))))), ?_⟩
    intro d nd
    have s1 : Same H (upd H d (.dK [])) := same_upd nd
    have hd1 := upd_same (H := H) (a := d) (o := .dK [])
    generalize upd H d (.dK []) = H1 at s1 hd1 ⊢
    have gc : goodC dd := ⟨ns, gt, nst⟩
    refine ⟨_, rfl, v, dd, goodC, rfl, dp_same s1 hd, gc, goodC.ok, big, fun H2 p us s2 np hp ha gps => ?_⟩
    have pd : p ≠ d := (ne_of_none hd1 np).symm
    have la := dpAll_len ha
    have ein := piece_in (ndD dd) dd (Nat.le_refl _) gt
    refine ⟨p, rfl, ⟨_, SqL.of hp⟩, ?_⟩
    refine for_list (K := K) (a := p) (xs := us) (fun i σ J => ∃ v2 v3 v4 o, σ = [some v, some (.ref d), v2, v3, v4] ∧ (∀ a u, a ≠ d → H2 a = some u → J a = some u) ∧ J d = some (.dK (keysOf o)) ∧ o.Nodup ∧ ∀ z, z ∈ o ↔ ∃ e ∈ (piecesD dd).take i, hdS e = z)
      ⟨none, none, none, [], rfl, fun _ _ _ e => e, s2 _ _ hd1, List.nodup_nil, fun z => by simp⟩ (fun i σ J hi ⟨_, _, _, _, _, kp, _⟩ => SqL.of (kp p _ pd hp)) ?_ ?_
    · rintro i x σ J hx ⟨v2, v3, v4, o, rfl, kp, hJ, no, mo⟩
      obtain ⟨e, he, hdx⟩ := dpAll_at ha hx
      have em := List.mem_of_getElem? he
      obtain ⟨z, zi, rfl, hz⟩ := (gps e em).1.piece (gps e em).2
      have su : StayU H1 J := ⟨fun b xs q => kp b _ (fun z => by rw [z, hd1] at q; cases q) (s2 _ _ q), fun b o u q => kp b _ (fun z => by rw [z, hd1] at q; cases q) (s2 _ _ q)⟩
      have hdJ := dp_stayU su hdx (goodC.ok.flat _ (gps _ em).1)
      have hdJ0 := hdJ
      obtain ⟨a, x1, y1, rfl, hs, hx1, hy1⟩ := dp_pair hdJ
      cases hx1
      refine ⟨_, rfl, _, z, .int zi, rfl, hdJ0, _, rfl, ?_⟩
      rw [decide_eq_false hz]
      refine iteF ⟨_, rfl, a, _, 0, .str z, rfl, rfl, hs, rfl, (by show 1 ≤ sizeLine; decide), fun t nt => ?_⟩
      have s3 := same_upd (o := .tup [.str z]) nt
      have ht := upd_same (H := J) (a := t) (o := .tup [.str z])
      generalize upd J t (.tup [.str z]) = J3 at s3 ht ⊢
      have td : t ≠ d := (ne_of_none hJ nt).symm
      refine for_seq (a := t) (xs := [V.str z]) (by rfl) (.inr ht) (fun j σ J4 => ∃ v4, σ = [some v, some (.ref d), some (.ref a), some (.ref t), v4] ∧ (∀ a u, a ≠ d → J3 a = some u → J4 a = some u) ∧ J4 d = some (.dK (keysOf (([z].take j).foldl grow o))))
        ⟨_, rfl, fun _ _ _ e => e, s3 _ _ hJ⟩ (fun j σ J4 hj ⟨_, _, kp4, _⟩ u e => kp4 t u td e) ?_ ?_
      · rintro j y σ J4 hy ⟨v4, rfl, kp4, hd4⟩
        cases j with
        | succ j => simp at hy
        | zero =>
          obtain rfl : V.str z = y := by simpa using hy
          have lo : o.length ≤ ns.length := nd_len no fun x hx => by
            obtain ⟨e, he, q⟩ := (mo x).mp hx
            rw [← q]
            exact ein e (List.mem_of_mem_take he)
          have put := DPut.k (k := Sum.inr z) (v := .bl true) hd4 (by
            unfold keysOf
            rw [List.length_map]
            show o.length < sizeLine
            rw [sizeLine_eq]
            omega)
          rw [put_keys] at put
          refine ⟨_, rfl, _, rfl, d, _, rfl, put, ?_⟩
          exact ⟨_, rfl, fun a u ne e => by rw [upd_ne ne]; exact kp4 a u ne e, upd_same⟩
      · rintro σ J4 ⟨v4, rfl, kp4, hd4⟩
        refine ⟨_, _, _, _, rfl, fun b u ne e => kp4 b u ne (s3 _ _ (kp b u ne e)), hd4, grows_nd no, fun y => ?_⟩
        rw [grows_mem, mo y, List.take_add_one, he]
        simp only [Option.toList, List.mem_append, List.mem_singleton]
        constructor
        · rintro (⟨e, h1, h2⟩ | h)
          · exact ⟨e, .inl h1, h2⟩
          · have h : y = z := by simpa using h
            exact ⟨_, .inr rfl, h.symm⟩
        · rintro ⟨e, h1 | h1, h2⟩
          · exact .inl ⟨e, h1, h2⟩
          · subst h1
            have h2 : z = y := h2
            exact .inr (by simp [h2])
    · rintro σ J ⟨v2, v3, v4, o, rfl, kp, hJ, no, mo⟩
      rw [la, List.take_of_length_le (Nat.le_refl _)] at mo
      have lo : o.length ≤ ns.length := nd_len no fun x hx => by
        obtain ⟨e, he, q⟩ := (mo x).mp hx
        rw [← q]
        exact ein e he
      refine ⟨_, rfl, d, _, o, rfl, .inl hJ, keysOf_keys o, (by omega), fun ys q pe so nq => ?_⟩
      have sm : Same H J := fun b u e => kp b u (fun z => by rw [z, nd] at e; cases e) (s2 _ _ (s1 _ _ e))
      refine k _ q ys (sm.trans (same_upd nq)) (sm.free nq) upd_same ⟨so, pe.nodup_iff.mpr no, fun z => by rw [pe.mem_iff, mo z]⟩ fun z hz => ?_
      obtain ⟨e, he, q⟩ := (mo z).mp (pe.mem_iff.mp hz)
      rw [← q]
      exact ein e he
end
end K1

namespace K1
open PySem PySem.Spec PyProof.Rows L2 Own LamX
/-! ### what stands under names; the outcome of a guard -/
/-- is a kind under one of these names -/
def underD (T : Tb) (ws : List Str) (z : Str) : Bool := ws.any fun x => decide (x ∈ look T z)
def spIsUnder (C : Addr) (K : PySem.W.Frag) : Sp := fun vs H Q _ => ∃ x z a ls ls' T ws, vs = [.ref x, .str z, .ref a] ∧ KIn C H x ls ls' T ∧ z ∈ nms ls ∧ SqT K H a (ws.map V.str) ∧ ws.length ≤ 900 ∧ ∀ H', Same H H' → Q (.bl (underD T ws z)) H'
/-- the outcome of a guard: what was raised, what is left -/
def outD (ds : List PyData) (lo : Option PyData) : Option PyData := if ds.isEmpty = true then lo else some (.tuple [.str "", .tuple (ds ++ lo.toList)])
def spOutcome (K : PySem.W.Frag) : Sp := fun vs H Q _ => ∃ a us ds v lo, vs = [.ref a, v] ∧ H a = some (.lst us) ∧ DpAll K H us ds ∧ OptDp K H v lo ∧ lo ≠ some .none ∧ us.length ≤ 1000000 ∧ ∀ H' y, Same H H' → OptDp K H' y (outD ds lo) → Q y H'
theorem optDp_same {K : PySem.W.Frag} {H H' : Hp} {v : V} : ∀ {o : Option PyData}, OptDp K H v o → Same H H' → OptDp K H' v o
  | none, h, _ => h
  | some _, h, s => dp_same s h
section
variable {P : Program} {w : World} {K : PySem.W.Frag} {mg : Str → Option Value} {base : Heap}
theorem scIsUnder : FnScope ["kinds", "kind", "names", "above", "name"] ["kinds", "kind", "names"] (defScope sIsUnder) := ⟨rfl, rfl, rfl, by decide +kernel, rfl, by decide +kernel, by decide +kernel⟩
theorem ok_isUnder {C f fA : Addr} {fd dA : FuncData} (F : Fun K "_is_under" "_is_under" sIsUnder f fd) (T : KTxt K mg C) (mA : Meth K C "above" fA) (GA : FnOk P w K mg base CX0 3 fA dA ["self", "name"] (spAbove C)) (bA : Binds K dA ["self", "name"] []) (ma : mg "any" = none) :
    FnOk P w K mg base CX0 4 f fd ["kinds", "kind", "names"] (spIsUnder C K) := by
  refine F.ok scIsUnder (fun vs H Q E h => ?_) (fun cdv A outer s H vs Q E hr h => ?_)
  · obtain ⟨x, z, a, ls, ls', TT, ws, rfl, _⟩ := h
    rfl
  · obtain ⟨x, z, a, ls, ls', TT, ws, rfl, kin, hz, hs, few, k⟩ := h
    refine ⟨_, pss_cons (ps_set (i := 3) scIsUnder.nd rfl (Or.inr rfl) (pe_meth (pv 0) T.cl mA GA hr bA .nil pass0 (pa_cons (pv 1) pa_nil)))
      (pss_one (ps_ret (pe_callB (cr_any rfl) (by rfl) ma (by decide +kernel) (pa_cons (pe_lc (own := [("name", 4)]) (g := gName 4) (tt := tYes) (te := tOp (rIn K false) (tVar 4) (tVar 3)) rfl scIsUnder.nd (pi_tup (pv 2)) (blkOk_by (N := ["kinds", "kind", "names", "above", "name"]) (sc := defScope sIsUnder) (by decide +kernel))
        (fun _ _ _ _ _ => pg_name (i := 4) scIsUnder.nd rfl (Or.inl rfl)) (fun _ _ _ _ _ => pts_nil) (fun _ _ _ _ _ => pe_cmpR op_in_seq (pv 4) (pv 3) (by rfl))) pa_nil)))), ?_⟩
    obtain ⟨dx, r, d, rs, kvs, hx, _⟩ := kin.ex
    refine ⟨_, rfl, x, dx, _, rfl, hx, kf_no r d (by decide +kernel) (by decide +kernel), _, rfl, x, z, ls, ls', TT, rfl, kin, hz, fun H1 p s1 np hp => ?_⟩
    refine ⟨_, rfl, a, rfl, ⟨_, Same.tup s1 hs⟩, fun D nD => ?_⟩
    refine lc_tup (K := K) (a := a) (xs := ws.map V.str) (fun j H' => Same H1 H' ∧ H' D = some (.lst (((ws.take j).map fun y => decide (y ∈ look TT z)).map V.bl))) ⟨same_upd nD, upd_same⟩ (fun j H' hj q => Same.tup (s1.trans q.1) hs) ?_ ?_
    · rintro j u H' hu ⟨sm, hD⟩
      rw [List.getElem?_map] at hu
      obtain ⟨y, hy, rfl⟩ := Option.map_eq_some_iff.mp hu
      have hj : j < ws.length := (List.getElem?_eq_some_iff.mp hy).1
      refine ⟨rfl, _, rfl, _, rfl, p, _, rfl, .inl (SqL.of (sm _ _ hp)), rfl, flat_strs _, _, hD, ?_, same_past nD sm, ?_⟩
      · rw [List.length_map, List.length_map, List.length_take]
        exact small1000 (by omega)
      · show upd H' D _ D = _
        rw [upd_same, List.take_add_one, hy]
        show some (HO.lst _) = some (HO.lst _)
        rw [inV_str]
        simp
    · rintro H' ⟨sm, hD⟩
      rw [List.length_map, List.take_of_length_le (Nat.le_refl _)] at hD
      refine ⟨D, _, rfl, SqL.of hD, ?_⟩
      have e : (ws.map fun y => decide (y ∈ look TT z)).any id = underD TT ws z := by
        unfold underD
        rw [List.any_map]
        rfl
      rw [e]
      exact k _ (s1.trans sm)
theorem scOutcome : FnScope ["raised", "left"] ["raised", "left"] (defScope sGuardOutcome) := ⟨rfl, rfl, rfl, by decide +kernel, rfl, by decide +kernel, by decide +kernel⟩
theorem ok_outcome {f : Addr} {fd : FuncData} (F : Fun K "_guard_outcome" "_guard_outcome" sGuardOutcome f fd) (mt : mg "tuple" = none) : FnOk P w K mg base CX0 1 f fd ["raised", "left"] (spOutcome K) := by
  refine F.ok scOutcome (fun vs H Q E h => ?_) (fun cdv A outer s H vs Q E hr h => ?_)
  · obtain ⟨a, us, ds, v, lo, rfl, _⟩ := h
    rfl
  · obtain ⟨a, us, ds, v, lo, rfl, ha, hd, hv, ln, big, k⟩ := h
    refine ⟨_, pss_cons (ps_if (pt_not (pt_truth (pv 0) (by intro _; rfl))) (pss_one (ps_ret (pv 1))) pss_nil)
      (pss_one (ps_ret (pe_ifExp (pt_cmpR op_isN (pv 1) pe_non (nomark _)) (pe_tup (pa_cons pe_str (pa_cons (pe_callTy call_tuple_of (by rfl) mt (by decide +kernel) (pa_cons (pv 0) pa_nil)) pa_nil))) (pe_tup (pa_cons pe_str (pa_cons (pe_tup (StX.pa_star (pv 0) (pa_cons (pv 1) pa_nil))) pa_nil)))))), ?_⟩
    have lu := dpAll_len hd
    refine ⟨_, rfl, !us.isEmpty, .inl ⟨us, SqL.of ha, rfl⟩, ?_⟩
    have ee : us.isEmpty = ds.isEmpty := by
      cases us <;> cases ds <;> first | rfl | cases lu
    cases ei : us.isEmpty with
    | true =>
      refine iteT ⟨_, rfl, k _ _ (Same.refl _) ?_⟩
      unfold outD
      rw [← ee, ei, if_pos rfl]
      exact hv
    | false =>
      have eo : outD ds lo = some (.tuple [.str "", .tuple (ds ++ lo.toList)]) := by
        unfold outD
        rw [← ee, ei, if_neg Bool.false_ne_true]
      refine iteF ⟨_, rfl, rfl, ?_⟩
      cases lo with
      | none =>
        obtain rfl : v = .non := hv
        refine ⟨_, rfl, iteT ⟨_, rfl, a, _, rfl, .inl ⟨SqL.of ha, fun p np => ?_⟩⟩⟩
        have s1 := same_upd (o := .tup us) np
        have h1 := upd_same (H := H) (a := p) (o := .tup us)
        generalize upd H p (.tup us) = H1 at s1 h1 ⊢
        refine ⟨(by show 2 ≤ sizeLine; decide), fun q nq => ?_⟩
        have s2 := same_upd (o := .tup [.str "", .ref p]) nq
        refine k _ (.ref q) (s1.trans s2) ?_
        rw [eo, show (ds ++ (none : Option PyData).toList) = ds from List.append_nil ds]
        exact .tup (SqT.of upd_same) (.cons (.str "") (.cons (.tup (SqT.of (s2 _ _ h1)) (dpAll_same (s1.trans s2) hd)) .nil))
      | some e =>
        have hv : Dp K H v e := hv
        have vn : v ≠ .non := fun z => by
          subst z
          cases hv
          exact ln rfl
        rw [decide_eq_false vn]
        refine ⟨_, rfl, iteF ⟨_, rfl, a, us, rfl, .inr (SqL.of ha), _, rfl, (by show (us ++ [v]).length ≤ sizeLine; rw [sizeLine_eq, List.length_append, List.length_singleton]; omega), fun p np => ?_⟩⟩
        have s1 := same_upd (o := .tup (us ++ [v])) np
        have h1 := upd_same (H := H) (a := p) (o := .tup (us ++ [v]))
        generalize upd H p (.tup (us ++ [v])) = H1 at s1 h1 ⊢
        refine ⟨(by show 2 ≤ sizeLine; decide), fun q nq => ?_⟩
        have s2 := same_upd (o := .tup [.str "", .ref p]) nq
        refine k _ (.ref q) (s1.trans s2) ?_
        rw [eo]
        exact .tup (SqT.of upd_same) (.cons (.str "") (.cons (.tup (SqT.of (s2 _ _ h1)) (dpAll_same (s1.trans s2) (dpAll_app hd (.cons hv .nil)))) .nil))
end
end K1

namespace K1
open PySem PySem.Spec PyProof.Rows L2 Own LamX
/-! ### which clauses fire -/
abbrev Clause := List Str × PyData
def encC (c : Clause) : PyData := .tuple [.tuple (c.1.map .str), c.2]
def fireD (T : Tb) : List Clause → List Str → List (PyData × List Str) × List Str
  | [], pres => ([], pres)
  | (ws, act) :: r, pres =>
    let q := fireD T r (pres.filter fun z => decide (z ∉ pres.filter (underD T ws)))
    (if (pres.filter (underD T ws)).isEmpty = true then q.1 else (act, pres.filter (underD T ws)) :: q.1, q.2)
def FireAt (K : PySem.W.Frag) (G J : Hp) (q1 pa : Addr) (u : V) (x : PyData × List Str) : Prop :=
  ∃ t b va, u = .ref t ∧ J t = some (.tup [va, .ref b]) ∧ Dp K G va x.1 ∧ J b = some (.lst (x.2.map V.str)) ∧ b ≠ q1 ∧ b ≠ pa ∧ G b = none
def ClausesOk (cs : List Clause) : Prop := cs.length ≤ 1000 ∧ ∀ c ∈ cs, c.1.length ≤ 900 ∧ noList c.2 = true
def spFiring (C : Addr) (K : PySem.W.Frag) : Sp := fun vs H Q _ => ∃ x v p ls ls' T cs pres, vs = [.ref x, v, .ref p] ∧ KIn C H x ls ls' T ∧ Dp K H v (.tuple (cs.map encC)) ∧ ClausesOk cs ∧ H p = some (.lst (pres.map V.str)) ∧ (∀ z ∈ pres, z ∈ nms ls) ∧ pres.length ≤ 900 ∧
  ∀ H' t q1 q2 us, Same H H' → H' t = some (.tup [.ref q1, .ref q2]) → H' q1 = some (.lst us) → H' q2 = some (.lst ((fireD T cs pres).2.map V.str)) → Paired (FireAt K H H' q1 q2) us (fireD T cs pres).1 → H q1 = none → (q2 = p ∨ H q2 = none) → q2 ≠ q1 → Q (.ref t) H'
theorem dp_strs {K : PySem.W.Frag} {H : Hp} {y : V} {ws : List Str} (h : Dp K H y (.tuple (ws.map .str))) : ∃ a, y = .ref a ∧ SqT K H a (ws.map V.str) := by
  cases h with
  | tup hs ha =>
    rename_i a xs
    refine ⟨a, rfl, ?_⟩
    have e : xs = ws.map V.str := by
      clear hs
      induction ws generalizing xs with
      | nil =>
        cases ha
        rfl
      | cons w r ih =>
        cases ha with
        | cons a b =>
          cases a
          rw [ih b]
          rfl
    rw [← e]
    exact hs
section
variable {P : Program} {w : World} {K : PySem.W.Frag} {mg : Str → Option Value} {base : Heap}
abbrev nFiring : List Str := ["kinds", "guard", "present", "firing", "names", "action", "taken", "kind"]
theorem scFiring : FnScope nFiring ["kinds", "guard", "present"] (defScope sFiring) := ⟨rfl, rfl, rfl, by decide +kernel, rfl, by decide +kernel, by decide +kernel⟩
theorem ok_firing {C f fU : Addr} {fd dU : FuncData} (F : Fun K "_firing" "_firing" sFiring f fd) (GU : FnOk P w K mg base CX0 4 fU dU ["kinds", "kind", "names"] (spIsUnder C K)) (kU : PySem.W.keepIn K (.ref fU) = true) (bU : Binds K dU ["kinds", "kind", "names"] []) (mU : mg "_is_under" = some (.ref fU)) :
    FnOk P w K mg base CX0 5 f fd ["kinds", "guard", "present"] (spFiring C K) := by
  refine F.ok scFiring (fun vs H Q E h => ?_) (fun cdv A outer s H vs Q E hr h => ?_)
  · obtain ⟨x, v, p, ls, ls', T, cs, pres, rfl, _⟩ := h
    rfl
  · obtain ⟨x, v, p, ls, ls', T, cs, pres0, rfl, kin, hd, ok, hp, hin, few, k⟩ := h
    refine ⟨_, pss_cons (ps_set (i := 3) scFiring.nd rfl (Or.inl rfl) (pe_lst pa_nil))
      (pss_cons (ps_for PassesOwn.never rfl (pi_tup (pv 1)) (pg_tup rfl (pgs_cons (pg_name (i := 4) scFiring.nd rfl (Or.inr rfl)) (pgs_cons (pg_name (i := 5) scFiring.nd rfl (Or.inl rfl)) pgs_nil)))
        (pss_cons (ps_set (i := 6) scFiring.nd rfl (Or.inr rfl) (pe_lc (own := [("kind", 7)]) (g := gName 7) (tt := tTest (tCall (spIsUnder C K) [] E0 (tCons (tVar 0) (tCons (tVar 7) (tCons (tVar 4) tNil))))) (te := tVar 7) rfl scFiring.nd (pi_list (pv 2)) (blkOk_by (N := nFiring) (sc := defScope sFiring) (by decide +kernel))
          (fun _ _ _ _ _ => pg_name (i := 7) scFiring.nd rfl (Or.inl rfl)) (fun _ _ _ _ _ => pts_one (pt_val (pe_call GU hr (by rfl) mU kU bU .nil pass0 (pa_cons (pv 0) (pa_cons (pv 7) (pa_cons (pv 4) pa_nil)))))) (fun _ _ _ _ _ => pv 7)))
        (pss_cons (ps_if (pt_truth (pv 6) (by intro _; rfl))
          (pss_one (ps_expr (pe_bm PySem.F.plainAttrs_list PySem.F.slot_list_append PySem.F.type_list_append mt_append (pv 3) (pa_cons (pe_tup (pa_cons (pv 5) (pa_cons (pv 6) pa_nil))) pa_nil))))
          pss_nil)
        (pss_one (ps_setLc (i := 2) (own := [("kind", 7)]) (g := gName 7) (tt := tTest (tOp (rIn K true) (tVar 7) (tVar 6))) (te := tVar 7) rfl scFiring.nd rfl rfl (by rfl) (pi_list (pv 2)) (blkOk_by (N := nFiring) (sc := defScope sFiring) (by decide +kernel))
          (fun _ _ _ _ _ => pg_name (i := 7) scFiring.nd rfl (Or.inl rfl)) (fun _ _ _ _ _ => pts_one (pt_cmpR op_notIn_seq (pv 7) (pv 6) (by rfl))) (fun _ _ _ _ _ => pv 7))))))
      (pss_one (ps_ret (pe_tup (pa_cons (pv 3) (pa_cons (pv 2) pa_nil)))))), ?_⟩
    refine ⟨Nat.zero_le _, fun q nq => ?_⟩
    have s1 := same_upd (o := .lst []) nq
    have hq1 := upd_same (H := H) (a := q) (o := .lst [])
    have pq : p ≠ q := ne_of_none hp nq
    generalize upd H q (.lst []) = H1 at s1 hq1 ⊢
    obtain ⟨a, xs, rfl, hs, ha⟩ : ∃ a xs, v = .ref a ∧ SqT K H a xs ∧ DpAll K H xs (cs.map encC) := by
      cases hd with
      | tup hs ha => exact ⟨_, _, rfl, hs, ha⟩
    have lx := dpAll_len ha
    rw [List.length_map] at lx
    refine ⟨_, rfl, a, rfl, ⟨_, Same.tup s1 hs⟩, ?_⟩
    refine for_tup (K := K) (a := a) (xs := xs) (fun i σ J => ∃ v4 v5 v6 v7 pa us pres fs, σ = [some (.ref x), some (.ref a), some (.ref pa), some (.ref q), v4, v5, v6, v7] ∧ Same H J ∧ J q = some (.lst us) ∧ J pa = some (.lst (pres.map V.str)) ∧ Paired (FireAt K H J q pa) us fs ∧ (pa = p ∨ H pa = none) ∧ pa ≠ q ∧
        fireD T cs pres0 = (fs ++ (fireD T (cs.drop i) pres).1, (fireD T (cs.drop i) pres).2) ∧ (∀ z ∈ pres, z ∈ nms ls) ∧ pres.length ≤ 900 ∧ fs.length ≤ i)
      ⟨none, none, none, none, p, [], pres0, [], rfl, s1, hq1, s1 _ _ hp, .nil, .inl rfl, pq, by rw [List.drop_zero, List.nil_append], hin, few, Nat.le_refl _⟩ (fun i σ J hi ⟨_, _, _, _, _, _, _, _, _, sm, _⟩ => Same.tup sm hs) ?_ ?_
    · rintro i y σ J hy ⟨v4, v5, v6, v7, pa, us, pres, fs, rfl, sm, hq, hpa, pf, po, npq, ef, hin2, few2, lf⟩
      obtain ⟨dc, hdc, hyd⟩ := dpAll_at ha hy
      rw [List.getElem?_map] at hdc
      obtain ⟨c, hc, rfl⟩ := Option.map_eq_some_iff.mp hdc
      obtain ⟨ws, act⟩ := c
      have cm : (ws, act) ∈ cs := List.mem_of_getElem? hc
      obtain ⟨okw, oka⟩ := ok.2 _ cm
      have okw : ws.length ≤ 900 := okw
      have hi : i < cs.length := (List.getElem?_eq_some_iff.mp hc).1
      have hyd : Dp K H y (.tuple [.tuple (ws.map .str), act]) := hyd
      obtain ⟨ta, w1, va, rfl, hst, hw1, hva⟩ := dp_pair hyd
      obtain ⟨na, rfl, hna⟩ := dp_strs hw1
      have dropE : cs.drop i = (ws, act) :: cs.drop (i + 1) := by
        rw [List.drop_eq_getElem_cons hi]
        congr 1
        have := List.getElem?_eq_getElem hi
        rw [hc] at this
        exact (Option.some.inj this).symm
      rw [dropE] at ef
      refine ⟨ta, _, rfl, Same.tup sm hst, rfl, _, _, rfl, _, _, rfl, rfl, ?_⟩
      refine ⟨_, rfl, pa, rfl, ⟨_, SqL.of hpa⟩, fun D nD => ?_⟩
      refine lc_list (K := K) (a := pa) (xs := pres.map V.str) (fun j J' => Same J J' ∧ J' D = some (.lst (((pres.take j).filter (underD T ws)).map V.str))) ⟨same_upd nD, upd_same⟩ (fun j J' hj z => SqL.of (z.1 _ _ hpa)) ?_ ?_
      · rintro j u J' hu ⟨smj, hD⟩
        rw [List.getElem?_map] at hu
        obtain ⟨z, hz, rfl⟩ := Option.map_eq_some_iff.mp hu
        have zm := List.mem_of_getElem? hz
        have tk : ((pres.take (j + 1)).filter (underD T ws)) = ((pres.take j).filter (underD T ws)) ++ [z].filter (underD T ws) := by
          rw [List.take_add_one, hz, List.filter_append]
          rfl
        refine ⟨rfl, _, rfl, _, rfl, _, rfl, x, z, na, ls, ls', T, ws, rfl, kin.same (sm.trans smj), hin2 z zm, Same.tup (sm.trans smj) hna, okw, fun J2 s2 => ⟨_, rfl, ?_⟩⟩
        refine ite2 (fun cc => ?_) (fun cc => ?_)
        · refine ⟨_, rfl, _, s2 _ _ hD, ?_, same_past nD (smj.trans s2), ?_⟩
          · have a := filter_len (underD T ws) (pres.take j)
            rw [List.length_take] at a
            rw [List.length_map]
            exact small1000 (by omega)
          · rw [upd_same, tk, List.map_append]
            simp [cc]
        · refine ⟨smj.trans s2, ?_⟩
          rw [tk, s2 _ _ hD]
          simp [cc]
      · rintro J2 ⟨sm2, hD⟩
        rw [List.length_map, List.take_of_length_le (Nat.le_refl _)] at hD
        have Dq : D ≠ q := (ne_of_none hq nD).symm
        have Dp' : D ≠ pa := (ne_of_none hpa nD).symm
        generalize etk : pres.filter (underD T ws) = tk at hD
        have rest : ∀ (J3 : Hp) (us3 : List V) (fs3 : List (PyData × List Str)) (σ3 : L2.St) (Dn : Ends), Same H J3 → J3 q = some (.lst us3) → J3 pa = some (.lst (pres.map V.str)) → J3 D = some (.lst (tk.map V.str)) → Paired (FireAt K H J3 q pa) us3 fs3 →
            fireD T cs pres0 = (fs3 ++ (fireD T (cs.drop (i + 1)) (pres.filter fun z => decide (z ∉ tk))).1, (fireD T (cs.drop (i + 1)) (pres.filter fun z => decide (z ∉ tk))).2) → fs3.length ≤ i + 1 → (∃ v7, σ3 = [some (.ref x), some (.ref a), some (.ref pa), some (.ref q), some (.ref na), some va, some (.ref D), v7]) →
            (∀ σ J, (∃ v4 v5 v6 v7 pa us pres fs, σ = [some (.ref x), some (.ref a), some (.ref pa), some (.ref q), v4, v5, v6, v7] ∧ Same H J ∧ J q = some (.lst us) ∧ J pa = some (.lst (pres.map V.str)) ∧ Paired (FireAt K H J q pa) us fs ∧ (pa = p ∨ H pa = none) ∧ pa ≠ q ∧
              fireD T cs pres0 = (fs ++ (fireD T (cs.drop (i + 1)) pres).1, (fireD T (cs.drop (i + 1)) pres).2) ∧ (∀ z ∈ pres, z ∈ nms ls) ∧ pres.length ≤ 900 ∧ fs.length ≤ i + 1) → Dn.nx σ J) →
            tAsg (tLc (iList K (tVar 2)) (gName 7) (tTest (tOp (rIn K true) (tVar 7) (tVar 6))) (tVar 7) [7]) (gName 2) Dn σ3 J3 := by
          intro J3 us3 fs3 σ3 Dn sm3 hq3 hpa3 hD3 pf3 ef3 lf3 e3 hDn
          obtain ⟨v7', rfl⟩ := e3
          refine ⟨_, rfl, pa, rfl, ⟨_, SqL.of hpa3⟩, fun D2 nD2 => ?_⟩
          refine lc_list (K := K) (a := pa) (xs := pres.map V.str) (fun j J' => Same J3 J' ∧ J' D2 = some (.lst (((pres.take j).filter fun z => decide (z ∉ tk)).map V.str))) ⟨same_upd nD2, upd_same⟩ (fun j J' hj z => SqL.of (z.1 _ _ hpa3)) ?_ ?_
          · rintro j u J' hu ⟨smj, hD'⟩
            rw [List.getElem?_map] at hu
            obtain ⟨z, hz, rfl⟩ := Option.map_eq_some_iff.mp hu
            have tk2 : ((pres.take (j + 1)).filter fun z => decide (z ∉ tk)) = ((pres.take j).filter fun z => decide (z ∉ tk)) ++ [z].filter fun z => decide (z ∉ tk) := by
              rw [List.take_add_one, hz, List.filter_append]
              rfl
            refine ⟨rfl, _, rfl, _, rfl, D, _, rfl, .inl (SqL.of (smj _ _ hD3)), rfl, flat_strs _, _, rfl, ?_⟩
            rw [show (if true = true then !inV (V.str z) (tk.map V.str) else inV (V.str z) (tk.map V.str)) = decide (z ∉ tk) from by
              rw [if_pos rfl, inV_str, decide_not]]
            refine ite2 (fun cc => ?_) (fun cc => ?_)
            · refine ⟨_, rfl, _, hD', ?_, same_past nD2 smj, ?_⟩
              · have a := filter_len (fun z => decide (z ∉ tk)) (pres.take j)
                rw [List.length_take] at a
                rw [List.length_map]
                exact small1000 (by omega)
              · rw [upd_same, tk2, List.map_append, List.filter_cons, if_pos cc]
                rfl
            · refine ⟨smj, ?_⟩
              rw [tk2, hD', List.filter_cons, if_neg cc, List.filter_nil, List.append_nil]
          · rintro J4 ⟨sm4, hD4⟩
            rw [List.length_map, List.take_of_length_le (Nat.le_refl _)] at hD4
            have n2 : ∀ {b : Addr} {o : HO}, J3 b = some o → D2 ≠ b := fun e => (ne_of_none e nD2).symm
            refine hDn _ _ ⟨_, _, _, _, D2, us3, _, fs3, rfl, sm3.trans sm4, sm4 _ _ hq3, hD4, paired_imp (fun u y ⟨t', b, va', h1, h2, h3, h4, h5, h6, h7⟩ => ⟨t', b, va', h1, sm4 _ _ h2, h3, sm4 _ _ h4, h5, (n2 h4).symm, h7⟩) pf3, .inr (sm3.free nD2), n2 hq3, ef3, fun z hz => hin2 z (List.mem_filter.mp hz).1, ?_, lf3⟩
            exact Nat.le_trans (filter_len _ pres) few2
        have efE : fireD T ((ws, act) :: cs.drop (i + 1)) pres = (if tk.isEmpty = true then (fireD T (cs.drop (i + 1)) (pres.filter fun z => decide (z ∉ tk))).1 else (act, tk) :: (fireD T (cs.drop (i + 1)) (pres.filter fun z => decide (z ∉ tk))).1, (fireD T (cs.drop (i + 1)) (pres.filter fun z => decide (z ∉ tk))).2) := by
          rw [← etk]
          rfl
        rw [efE] at ef
        have sm3 := sm.trans sm2
        refine ⟨_, rfl, !(tk.map V.str).isEmpty, .inl ⟨_, SqL.of hD, rfl⟩, ?_⟩
        refine ite2 (fun cc => ?_) (fun cc => ?_)
        · have ne : tk.isEmpty = false := by
            cases tk with
            | nil => cases cc
            | cons _ _ => rfl
          rw [ne, if_neg Bool.false_ne_true] at ef
          have lus := paired_len pf
          refine ⟨_, rfl, .inl ⟨rfl, _, SqL.of (sm2 _ _ hq)⟩, _, rfl, _, rfl, (by show 2 ≤ sizeLine; decide), fun t2 nt2 => ⟨q, us, .ref t2, rfl, rfl, same_upd nt2 _ _ (sm2 _ _ hq), ?_, ?_⟩⟩
          · have := ok.1
            rw [sizeLine_eq]
            omega
          have s5 := same_upd (o := .tup [va, .ref D]) nt2
          have ht5 := upd_same (H := J2) (a := t2) (o := .tup [va, .ref D])
          generalize upd J2 t2 (.tup [va, .ref D]) = J5 at s5 ht5 ⊢
          have s25 := sm2.trans s5
          have hq5 := s25 _ _ hq
          have hpa5 := s25 _ _ hpa
          have hD5 := s5 _ _ hD
          have st := stay_upd (o := .lst (us ++ [.ref t2])) hq5
          have sm6 : Same H (upd J5 q (.lst (us ++ [.ref t2]))) := same_past nq (sm3.trans s5)
          have other : ∀ {b : Addr} {o : HO}, b ≠ q → J5 b = some o → upd J5 q (.lst (us ++ [.ref t2])) b = some o := fun n e => by
            rw [upd_ne n]
            exact e
          have t2q : t2 ≠ q := (ne_of_none (sm2 _ _ hq) nt2).symm
          refine rest _ (us ++ [.ref t2]) (fs ++ [(act, tk)]) _ _ sm6 upd_same (other npq hpa5) (other Dq hD5) ?_ (by rw [ef, List.append_assoc]; rfl) (by rw [List.length_append, List.length_singleton]; omega) ⟨_, rfl⟩ fun _ _ z => z
          exact pair_snoc (paired_imp (fun u y ⟨t', b, va', h1, h2, h3, h4, h5, h6, h7⟩ => ⟨t', b, va', h1, st _ _ (fun _ z => nomatch z) (s25 _ _ h2), h3, other h5 (s25 _ _ h4), h5, h6, h7⟩) pf) ⟨t2, D, va, rfl, other t2q ht5, hva, other Dq hD5, Dq, Dp', sm.free nD⟩
        · have e0 : tk.isEmpty = true := by
            cases tk with
            | nil => rfl
            | cons _ _ => exact absurd rfl cc
          rw [e0, if_pos rfl] at ef
          refine rest J2 us fs _ _ sm3 (sm2 _ _ hq) (sm2 _ _ hpa) hD (paired_imp (fun u y ⟨t', b, va', h1, h2, h3, h4, h5, h6, h7⟩ => ⟨t', b, va', h1, sm2 _ _ h2, h3, sm2 _ _ h4, h5, h6, h7⟩) pf) ef (by omega) ⟨_, rfl⟩ fun _ _ z => z
    · rintro σ J ⟨v4, v5, v6, v7, pa, us, pres, fs, rfl, sm, hq, hpa, pf, po, npq, ef, hin2, few2, lf⟩
      rw [lx, List.drop_length] at ef
      have ef : fireD T cs pres0 = (fs ++ [], pres) := ef
      rw [List.append_nil] at ef
      refine ⟨_, rfl, _, rfl, (by show 2 ≤ sizeLine; decide), fun t nt => ?_⟩
      have s2 := same_upd (o := .tup [.ref q, .ref pa]) nt
      refine k _ t q pa us (sm.trans s2) upd_same (s2 _ _ hq) (by rw [ef]; exact s2 _ _ hpa) (by
        rw [ef]
        refine paired_imp (fun u x ⟨t', b, va, h1, h2, h3, h4, h5, h6, h7⟩ => ⟨t', b, va, h1, s2 _ _ h2, h3, s2 _ _ h4, h5, h6, h7⟩) pf) nq po npq
end
end K1

namespace K1
open PySem PySem.Spec PyProof.Rows L2 Own LamX
/-! ### the numbers of new leaves -/
structure NumTxt (K : PySem.W.Frag) (C : Addr) : Prop where
  cl : Cls K C
  nF : NoAttr K C "_first"
  nR : NoAttr K C "raised"
def numF (n : Int) (l : Addr) : List (Str × V) := [("_first", .int n), ("raised", .ref l)]
/-- an object of the class, with the kinds that were raised -/
def NumAt (C : Addr) (H : Hp) (x l : Addr) (n : Int) (zs : List Str) : Prop := ∃ dx, H x = some (.ins C dx (numF n l)) ∧ H l = some (.lst (zs.map V.str))
/-- the next number -/
def nextN (n : Int) (zs : List Str) : Int := if 0 < n then n + (zs.length : Int) else 0
def spNumLeaf (C : Addr) (K : PySem.W.Frag) : Sp := fun vs H Q _ => ∃ x z l n zs, vs = [.ref x, .str z] ∧ NumAt C H x l n zs ∧ zs.length ≤ 1000000 ∧ ∀ H' t, KeepW (fun b => b = l) H H' → NumAt C H' x l n (zs ++ [z]) → (∀ b ps, H b = some (.tbl ps) → H' b = some (.tbl ps)) → H' t = some (.tup [.str z, .int (nextN n zs)]) → Q (.ref t) H'
section
variable {P : Program} {w : World} {K : PySem.W.Frag} {mg : Str → Option Value} {base : Heap}
theorem scNumLeaf : FnScope ["self", "kind", "number"] ["self", "kind"] (defScope sNumbers_leaf) := ⟨rfl, rfl, rfl, by decide +kernel, rfl, by decide +kernel, by decide +kernel⟩
theorem ok_numLeaf {C f : Addr} {fd : FuncData} (F : Fun K "leaf" "Numbers.leaf" sNumbers_leaf f fd) (T : NumTxt K C) (ml : mg "len" = none) : FnOk P w K mg base CX0 1 f fd ["self", "kind"] (spNumLeaf C K) := by
  refine F.ok scNumLeaf (fun vs H Q E h => ?_) (fun cdv A outer s H vs Q E hr h => ?_)
  · obtain ⟨x, z, l, n, zs, rfl, _⟩ := h
    rfl
  · obtain ⟨x, z, l, n, zs, rfl, ⟨dx, hx, hl⟩, big, k⟩ := h
    refine ⟨_, pss_cons (ps_set (i := 2) scNumLeaf.nd rfl (Or.inl rfl) (pe_ifExp (pt_cmpR op_gt (pe_fld (pv 0) rfl) pe_int (nomark _)) (pe_op op_add (pe_fld (pv 0) rfl) (pe_callB call_len_seq (by rfl) ml PySem.boot_len (pa_cons (pe_fld (pv 0) rfl) pa_nil))) pe_int))
      (pss_cons (ps_expr (pe_bm PySem.F.plainAttrs_list PySem.F.slot_list_append PySem.F.type_list_append mt_append (pe_fld (pv 0) rfl) (pa_cons (pv 1) pa_nil)))
      (pss_one (ps_ret (pe_tup (pa_cons (pv 1) (pa_cons (pv 2) pa_nil)))))), ?_⟩
    have xl : x ≠ l := fun e => by
      rw [e, hl] at hx
      cases hx
    -- what follows once the number is known
    have fin_ : ∀ (H1 : Hp), Same H H1 → ∀ t, H1 t = none → ∀ H2, H2 = upd (upd H1 l (.lst (zs.map V.str ++ [.str z]))) t (.tup [.str z, .int (nextN n zs)]) → Q (.ref t) H2 := fun H1 s1 t nt H2 e => by
      subst e
      have tl : t ≠ l := (ne_of_none (s1 _ _ hl) nt).symm
      have tx : t ≠ x := (ne_of_none (s1 _ _ hx) nt).symm
      have at_ : ∀ b o, b ≠ l → H b = some o → upd (upd H1 l (.lst (zs.map V.str ++ [.str z]))) t (.tup [.str z, .int (nextN n zs)]) b = some o := fun b o n e => by
        rw [upd_ne (ne_of_none (s1 _ _ e) nt), upd_ne n]
        exact s1 _ _ e
      have atl : upd (upd H1 l (.lst (zs.map V.str ++ [.str z]))) t (.tup [.str z, .int (nextN n zs)]) l = some (.lst (zs.map V.str ++ [.str z])) := by
        rw [upd_ne tl.symm, upd_same]
      refine k _ t ⟨fun b o e n w => ?_, fun b xs e => ?_⟩ ⟨dx, at_ _ _ xl hx, by rw [List.map_append]; exact atl⟩ (fun b ps e => at_ b _ (fun z => by rw [z, hl] at e; cases e) e) upd_same
      · rcases w with w | w
        · exact at_ b o w e
        · exact at_ b o (fun z => by
            rw [z, hl] at e
            exact w _ (Option.some.inj e).symm) e
      · by_cases c : b = l
        · rw [c]
          exact ⟨_, atl⟩
        · exact ⟨xs, at_ b _ c e⟩
    have free : ∀ {t : Addr}, upd H l (.lst (zs.map V.str ++ [.str z])) t = none → H t = none := fun {t} e => by
      by_cases c : t = l
      · rw [c, upd_same] at e
        cases e
      · rw [upd_ne c] at e
        exact e
    refine ⟨_, rfl, x, C, dx, _, _, rfl, hx, T.cl, T.nF, rfl, _, _, rfl, rfl, _, rfl, ?_⟩
    refine ite2 (fun cc => ?_) (fun cc => ?_)
    · have pos : 0 < n := of_decide_eq_true cc
      refine ⟨_, rfl, x, C, dx, _, _, rfl, hx, T.cl, T.nF, rfl, _, rfl, x, C, dx, _, _, rfl, hx, T.cl, T.nR, rfl, l, _, rfl, .inl (SqL.of hl), _, _, rfl, rfl, ?_⟩
      refine ⟨_, rfl, x, C, dx, _, _, rfl, hx, T.cl, T.nR, rfl, .inl ⟨rfl, _, SqL.of hl⟩, _, rfl, l, _, _, rfl, rfl, hl, by rw [sizeLine_eq, List.length_map]; omega, ?_⟩
      refine ⟨_, rfl, _, rfl, (by show 2 ≤ sizeLine; decide), fun t nt => fin_ H (Same.refl _) t (free nt) _ ?_⟩
      have e : nextN n zs = n + (((zs.map V.str).length : Nat) : Int) := by
        unfold nextN
        rw [if_pos pos, List.length_map]
      rw [e]
    · have neg : ¬ 0 < n := fun z => cc (decide_eq_true z)
      refine ⟨_, rfl, x, C, dx, _, _, rfl, hx, T.cl, T.nR, rfl, .inl ⟨rfl, _, SqL.of hl⟩, _, rfl, l, _, _, rfl, rfl, hl, by rw [sizeLine_eq, List.length_map]; omega, ?_⟩
      refine ⟨_, rfl, _, rfl, (by show 2 ≤ sizeLine; decide), fun t nt => fin_ H (Same.refl _) t (free nt) _ ?_⟩
      have e : nextN n zs = 0 := by
        unfold nextN
        rw [if_neg neg]
      rw [e]
end
end K1

namespace K1
open PySem PySem.Spec PyProof.Rows L2 Own LamX
/-! ### the tree that a form builds -/
/-- a form's piece: the tree in the place of the star, a new leaf for a kind -/
def builtG (n : Int) (d : PyData) (zs : List Str) (e : PyData) : List Str × Option PyData :=
  match e with
  | .str z => if z = star then (zs, some d) else (zs ++ [z], some (.tuple [.str z, .int (nextN n zs)]))
  | _ => (zs, none)
/-- forms -/
def goodF : Nat → PyData → Prop
  | 0, e => ∃ z, e = .str z
  | n + 1, e => (∃ z, e = .str z) ∨ ∃ m cs, e = .tuple [.str m, .tuple cs] ∧ m ≠ star ∧ ∀ c ∈ cs, goodF n c
def GoodF (e : PyData) : Prop := ∃ n, goodF n e
theorem GoodF.split {e : PyData} (h : GoodF e) : (∃ z, e = .str z) ∨ ∃ m cs, e = .tuple [.str m, .tuple cs] ∧ m ≠ star ∧ ∀ c ∈ cs, GoodF c := by
  obtain ⟨n, h⟩ := h
  cases n with
  | zero => exact .inl h
  | succ n =>
    rcases h with h | ⟨m, cs, e, hm, hc⟩
    · exact .inl h
    · exact .inr ⟨m, cs, e, hm, fun c h => ⟨n, hc c h⟩⟩
theorem goodF_flat : ∀ (n : Nat) (e : PyData), goodF n e → noList e = true
  | 0, e, h => by
    obtain ⟨z, rfl⟩ := h
    rfl
  | n + 1, e, h => by
    rcases h with ⟨z, rfl⟩ | ⟨m, cs, rfl, _, hc⟩
    · rfl
    · show (true && (noListAll cs && true)) = true
      rw [noListAll_of fun c h => goodF_flat n c (hc c h)]
      rfl
theorem GoodF.ok : RebOk GoodF := ⟨fun e h => by
  rcases h.split with ⟨z, e⟩ | ⟨m, cs, e, _⟩
  · exact .inl ⟨z, e⟩
  · exact .inr (.inr ⟨m, cs, e⟩), fun e ⟨n, h⟩ => goodF_flat n e h, fun e h _ c hc => by
  rcases h.split with ⟨z, rfl⟩ | ⟨m, cs, rfl, _, k⟩
  · cases hc
  · exact k c hc⟩
theorem GoodF.piece {e : PyData} (h : GoodF e) (n : hasKidsD e = false) : ∃ z, e = .str z := by
  rcases h.split with z | ⟨m, cs, rfl, hm, _⟩
  · exact z
  · have n : (!decide (m = star)) = false := n
    rw [decide_eq_false hm] at n
    cases n
def spBuilt (C : Addr) (T : List (Addr × Str)) (K : PySem.W.Frag) : Sp := fun vs H Q _ => ∃ vf v x f d l n zs, vs = [vf, v, .ref x] ∧ Tabs T H ∧ Dp K H vf f ∧ GoodF f ∧ ndD f ≤ 400000 ∧ Dp K H v d ∧ noList d = true ∧ d ≠ .none ∧ NumAt C H x l n zs ∧ zs.length + 2 * ndD f ≤ 1000000 ∧
  ∀ H' y, KeepW (fun b => b = l) H H' → Tabs T H' → NumAt C H' x l n (rebS (builtG n d) zs f).1 → OptDp K H' y (rebS (builtG n d) zs f).2 → Q y H'
section
variable {P : Program} {w : World} {K : PySem.W.Frag} {mg : Str → Option Value} {base : Heap}
theorem scBuilt : FnScope ["form", "tree", "numbers"] ["form", "tree", "numbers"] (defScope sBuilt) := ⟨rfl, rfl, rfl, by decide +kernel, rfl, by decide +kernel, by decide +kernel⟩
theorem ok_built {C : Addr} {T : List (Addr × Str)} {f c Pt fR fK fE fL : Addr} {fd dR dK dE dL : FuncData} (F : FunC K "_built" "_built" sBuilt f fd c) (TB : TabB base mg c Pt) (hT : TabT T Pt ("_built" ++ ".<locals>." ++ "<lambda>"))
    (FR : Fun K "rebuilt" "rebuilt" sRebuilt fR dR) (mR : mg "rebuilt" = some (.ref fR)) (bR : Binds K dR ["root", "change"] [])
    (GK : FnOk P w K mg base CX0 1 fK dK ["node"] (spHasKids K)) (kK : PySem.W.keepIn K (.ref fK) = true) (bK : Binds K dK ["node"] []) (mK : mg "_has_children" = some (.ref fK))
    (GE : FnOk P w K mg base CX0 1 fE dE ["group"] (spEnded K)) (kE : PySem.W.keepIn K (.ref fE) = true) (bE : Binds K dE ["group"] []) (mE : mg "_ended" = some (.ref fE))
    (NT : NumTxt K C) (mL : Meth K C "leaf" fL) (GL : FnOk P w K mg base CX0 1 fL dL ["self", "kind"] (spNumLeaf C K)) (bL : Binds K dL ["self", "kind"] []) : FnG P w K mg base 5 f fd ["form", "tree", "numbers"] (spBuilt C T K) := by
  obtain ⟨oc, od, kV, doc, pm, an, cdv, ct, osl, rfl, lk, hcd⟩ := FR.ex
  refine F.okG scBuilt (fun vs H Q E h => ?_) (fun A out s H vs Q E hc hr h => ?_)
  · obtain ⟨vf, v, x, f, d, l, n, zs, rfl, _⟩ := h
    rfl
  · obtain ⟨vf, v, x, f, d, l, n, zs, rfl, tabs, hf, gf, big, hd, fd, dn, num, few, k⟩ := h
    have LC : LamCall (cxOf CX0 P w K mg base ["form", "tree", "numbers"] "_built" (defScope sBuilt) _ (.ref c) A out s H E).nox T (TReb K) "rebuilt" "change" fR c Pt 2 1 (defArgs sRebuilt) (defBody sRebuilt) (defScope sRebuilt) .none kV doc pm cdv ct oc an od osl nRebuilt ["root"] ["piece"] (lamOf sBuilt).1 (lamOf sBuilt).2.1 (lamOf sBuilt).2.2
        (fun E => tIf (tTest (tOp rEq (tVar 3) (tC (.str "*")))) (tVar 1) (tMeth C "leaf" (spNumLeaf C K) [] E (tVar 2) (tCons (tVar 3) tNil))) :=
      { hm := mR, hk := FR.kp, lk := lk, hcg := hcd, hb := bR, ql := rfl, Sg := scRebuilt, hNg := rfl, hva := .inl rfl
        hG := reb_gives GK kK bK mK GE kE bE mE
        TB := TB, hcode := rfl, hmT := hT.mem, hu := hT.one, hc := hc, hr := hr
        L := lamP_by (sc := defScope sBuilt) (scope := (lamOf sBuilt).2.2) (N := ["form", "tree", "numbers"]) (by decide +kernel)
        hdef := rfl
        hbind := fun pm cv ctv us hl => match us, hl with | [_], _ => rfl
        hbody := fun A out z H E f c' hc hr => pe_ifExp (pt_cmpR op_eq (pv 3) pe_str (nomark _)) (pv 1) (pe_meth (pv 2) NT.cl mL GL (hr.mono (by decide)) bL .nil pass0 (pa_cons (pv 3) pa_nil)) }
    refine ⟨_, pss_one (ps_ret (pe_lam1 LC (by rfl) (pv 0))), ?_⟩
    refine ⟨_, rfl, tabs, fun H1 eN T1 => ?_⟩
    have k1 := KeepW.ofN (W := fun b => b = l) eN
    have num1 : NumAt C H1 x l n zs := by
      obtain ⟨dx, h1, h2⟩ := num
      exact ⟨dx, eN _ _ h1 (fun _ z => nomatch z), eN _ _ h2 (fun _ z => nomatch z)⟩
    refine ⟨List Str, builtG n d, fun ys j J => Tabs T J ∧ NumAt C J x l n ys ∧ Dp K J v d ∧ ys.length + j ≤ 1000000, fun b => b = l, GoodF, zs, vf, f, rfl, dp_stayT k1.stay hf (GoodF.ok.flat f gf), gf, GoodF.ok, big, fun b e => ?_, ⟨T1, num1, dp_stayT k1.stay hd fd, few⟩, fun ys j j' J J2 t lt m => ?_, fun ys e ge ek => ?_, fun ys j J u e Q1 ge ek t kw hu q => ?_, fun H2 y t kw hy => k H2 y (k1.trans kw) t.1 t.2.1 hy⟩
    · obtain ⟨dx, h1, h2⟩ := num1
      rw [show b = l from e]
      exact ⟨_, h2, fun _ z => nomatch z⟩
    · obtain ⟨t1, ⟨dx, h1, h2⟩, t3, t4⟩ := t
      have old : OldN H1 l := by
        obtain ⟨dx, _, h2⟩ := num1
        exact ⟨_, h2, fun _ z => nomatch z⟩
      exact ⟨tabs_mine t1 m, ⟨dx, m _ _ h1 (.inr fun _ z => nomatch z), m _ _ h2 (.inl old)⟩, dp_stayT (StayT.of m.stay) t3 fd, by omega⟩
    · obtain ⟨z, rfl⟩ := ge.piece ek
      show flatO (if z = star then (ys, some d) else (ys ++ [z], some (PyData.tuple [.str z, .int (nextN n ys)]))).2 ∧ (if z = star then (ys, some d) else (ys ++ [z], some (PyData.tuple [.str z, .int (nextN n ys)]))).2 ≠ some PyData.none
      split
      · exact ⟨fd, fun z => dn (Option.some.inj z)⟩
      · exact ⟨rfl, fun z => nomatch z⟩
    · obtain ⟨z, rfl⟩ := ge.piece ek
      cases hu
      obtain ⟨t1, t2, t3, t4⟩ := t
      have hx := t2
      obtain ⟨dx, h1, h2⟩ := hx
      have eq : (V.str z = V.str star) ↔ (z = star) := ⟨fun e => V.str.inj e, fun e => by rw [e]⟩
      refine ⟨_, rfl, rfl, _, rfl, ?_⟩
      show (if decide (V.str z = V.str star) = true then _ else _)
      rw [decide_eq_decide.mpr eq]
      by_cases c : z = star
      · rw [decide_eq_true c]
        refine iteT ⟨_, rfl, q J v ?_ (KeepW.refl _ _) ?_⟩
        · rw [show builtG n d ys (.str z) = (ys, some d) from if_pos c]
          exact ⟨t1, t2, t3, by show ys.length + j ≤ 1000000; omega⟩
        · rw [show builtG n d ys (.str z) = (ys, some d) from if_pos c]
          exact t3
      · rw [decide_eq_false c]
        have eb : builtG n d ys (.str z) = (ys ++ [z], some (.tuple [.str z, .int (nextN n ys)])) := if_neg c
        rw [eb] at q
        refine iteF ⟨_, rfl, x, dx, _, rfl, h1, rfl, _, rfl, x, z, l, n, ys, rfl, t2, by omega, fun J2 t kw2 num2 tb ht => ?_⟩
        refine q J2 (.ref t) ⟨fun p hp => ?_, num2, dp_stayT kw2.stay t3 fd, by rw [List.length_append, List.length_singleton]; omega⟩ kw2 ?_
        · obtain ⟨ps, a1, a2, a3⟩ := t1 p hp
          refine ⟨ps, tb _ _ a1, a2, fun pos cv e => ?_⟩
          obtain ⟨c0, e1, e2⟩ := a3 pos cv e
          exact ⟨c0, e1, kw2.code _ _ e2⟩
        · exact .tup (SqT.of ht) (.cons (.str z) (.cons (.int _) .nil))
end
end K1

namespace K1
open PySem PySem.Spec PyProof.Rows L2 Own LamX
/-! ### Numbers(first) -/
def spNumInit (C : Addr) : Sp := fun vs H Q _ => ∃ x n dx, vs = [.ref x, .int n] ∧ H x = some (.ins C dx []) ∧ ∀ H' l, (∀ b o, b ≠ x → H b = some o → H' b = some o) → H l = none → NumAt C H' x l n [] → Q .non H'
section
variable {P : Program} {w : World} {K : PySem.W.Frag} {mg : Str → Option Value} {base : Heap}
theorem scNumInit : FnScope ["self", "first"] ["self", "first"] (defScope sNumbers_init) := ⟨rfl, rfl, rfl, by decide +kernel, rfl, by decide +kernel, by decide +kernel⟩
theorem ok_numInit {C f : Addr} {fd : FuncData} (F : Fun K "__init__" "Numbers.__init__" sNumbers_init f fd) (T : NumTxt K C) : FnOk P w K mg base CX0 1 f fd ["self", "first"] (spNumInit C) := by
  refine F.ok scNumInit (fun vs H Q E h => ?_) (fun cdv A outer s H vs Q E hr h => ?_)
  · obtain ⟨x, n, dx, rfl, _⟩ := h
    rfl
  · obtain ⟨x, n, dx, rfl, hx, k⟩ := h
    refine ⟨_, pss_cons (ps_fld (pv 0) (pv 1) rfl) (pss_one (ps_fld (pv 0) (pe_lst pa_nil) rfl)), ?_⟩
    refine ⟨_, rfl, _, rfl, x, C, dx, [], rfl, hx, T.cl, T.nF, (by decide), ?_⟩
    have h1 : upd H x (.ins C dx (putF "_first" (.int n) [])) x = some (.ins C dx [("_first", .int n)]) := upd_same
    have ne : ∀ b o, b ≠ x → H b = some o → upd H x (.ins C dx (putF "_first" (.int n) [])) b = some o := fun b o n e => by
      rw [upd_ne n]
      exact e
    generalize upd H x (.ins C dx (putF "_first" (.int n) [])) = H1 at h1 ne ⊢
    refine ⟨Nat.zero_le _, fun l nl => ⟨_, rfl, x, C, dx, [("_first", .int n)], rfl, ?_, T.cl, T.nR, (by show 1 < 1000; decide), ?_⟩⟩
    · exact same_upd nl _ _ h1
    · have xl : x ≠ l := ne_of_none h1 nl
      refine k _ l (fun b o bx e => ?_) ?_ ⟨dx, upd_same, ?_⟩
      · rw [upd_ne bx]
        exact same_upd nl _ _ (ne b o bx e)
      · cases e : H l with
        | none => rfl
        | some o =>
          have z := ne l o xl.symm e
          rw [nl] at z
          cases z
      · rw [upd_ne xl.symm]
        exact upd_same
end
end K1

namespace K1
open PySem PySem.Spec PyProof.Rows L2 Own LamX
/-- the kinds of a tree are one list -/
theorem KindsOf.one {d : PyData} {ks ks' : List Str} (h : KindsOf d ks) (h' : KindsOf d ks') : ks = ks' :=
  sorted_one ((List.perm_ext_iff_of_nodup h.nd h'.nd).mpr fun z => by rw [h.mem, h'.mem]) h.so h'.so
/-- all parts of what a change makes are trees of these kinds -/
theorem goodK.of_list {ns : List Str} {m : Str} {cs : List PyData} (hm : m ≠ star) (h : ∀ c ∈ cs, goodK ns c) : goodK ns (.tuple [.str m, .tuple cs]) := by
  have up : ∀ (n k : Nat) (d : PyData), goodN ns n d → n ≤ k → goodN ns k d := by
    intro n
    induction n with
    | zero =>
      intro k d g _
      cases k with
      | zero => exact g
      | succ k => exact .inl g
    | succ n ih =>
      intro k d g le
      cases k with
      | zero => omega
      | succ k =>
        rcases g with g | ⟨m, cs, e, hm, hc⟩
        · exact .inl g
        · exact .inr ⟨m, cs, e, hm, fun c hcm => ih k c (hc c hcm) (by omega)⟩
  have all : ∃ n, ∀ c ∈ cs, goodN ns n c := by
    induction cs with
    | nil => exact ⟨0, fun c hc => nomatch hc⟩
    | cons c r ih =>
      obtain ⟨n1, g1⟩ := ih fun x hx => h x (List.mem_cons_of_mem _ hx)
      obtain ⟨n2, g2⟩ := h c (List.mem_cons_self ..)
      refine ⟨max n1 n2, fun x hx => ?_⟩
      rcases List.mem_cons.mp hx with e | hx
      · rw [e]
        exact up _ _ _ g2 (Nat.le_max_right ..)
      · exact up _ _ _ (g1 x hx) (Nat.le_max_left ..)
  obtain ⟨n, g⟩ := all
  exact ⟨n + 1, .inr ⟨m, cs, rfl, hm, g⟩⟩
end K1

namespace K1
open PySem PySem.Spec PyProof.Rows L2 Own LamX
/-! ### what guards do, as plain functions -/
def memB (ks : List Str) (z : Str) : Bool := decide (z ∈ ks)
/-- forms of these kinds -/
inductive FormK (ns : List Str) : PyData → Prop
  | str (z : Str) : z = star ∨ z ∈ ns → FormK ns (.str z)
  | group (m : Str) (cs : List PyData) : m ≠ star → cs ≠ [] → (∀ c ∈ cs, FormK ns c) → FormK ns (.tuple [.str m, .tuple cs])
/-- what is left of a tree for the kinds of a set -/
def cutB (p : Str → Bool) (d : PyData) : Option PyData :=
  match d with
  | .tuple [.str m, .tuple cs] => if cs.attach.filterMap (fun c => cutB p c.1) = [] then none else some (.tuple [.str m, .tuple (cs.attach.filterMap fun c => cutB p c.1)])
  | .tuple [.str z, .int i] => if p z = true then some (.tuple [.str z, .int i]) else none
  | _ => none
termination_by ndD d
decreasing_by
  all_goals
    have a := kids_nd (.tuple [.str m, .tuple cs])
    have b := nd_mem c.2
    have e : kidsD (.tuple [.str m, .tuple cs]) = cs := rfl
    rw [e] at a
    omega
theorem cutB_group (p : Str → Bool) (m : Str) (cs : List PyData) : cutB p (.tuple [.str m, .tuple cs]) = if cs.filterMap (cutB p) = [] then none else some (.tuple [.str m, .tuple (cs.filterMap (cutB p))]) := by
  rw [cutB]
  have e : cs.attach.filterMap (fun c => cutB p c.1) = cs.filterMap (cutB p) := by
    have q := List.filterMap_map (f := fun (c : {x // x ∈ cs}) => c.1) (g := cutB p) (l := cs.attach)
    rw [List.attach_map_subtype_val] at q
    exact q.symm
  rw [e]
theorem cutB_leaf (p : Str → Bool) (z : Str) (i : Int) : cutB p (.tuple [.str z, .int i]) = if p z = true then some (.tuple [.str z, .int i]) else none := by
  rw [cutB]
theorem TreeK.good {ns : List Str} {d : PyData} (h : TreeK ns d) : goodK ns d := by
  induction h with
  | leaf z i hz => exact ⟨0, z, i, rfl, hz⟩
  | group m cs hm _ _ ih => exact goodK.of_list hm ih
theorem TreeK.goodC {ns : List Str} {d : PyData} (h : TreeK ns d) (ns' : star ∉ ns) : goodC d := ⟨ns, h.good, ns'⟩
theorem TreeN.k {ns : List Str} : ∀ (n : Nat) (d : PyData), TreeN ns n d → TreeK ns d
  | 0, d, h => by
    obtain ⟨z, i, rfl, hz, _⟩ := h
    exact .leaf z i hz
  | n + 1, d, h => by
    rcases h with ⟨z, i, rfl, hz, _⟩ | ⟨m, cs, rfl, hm, l1, _, hc⟩
    · exact .leaf z i hz
    · refine .group m cs (fun q => ?_) (fun q => ?_) fun c hcm => TreeN.k n c (hc c hcm)
      · subst q
        revert hm
        decide +kernel
      · rw [q] at l1
        exact absurd l1 (by decide)
theorem GoodF.of_list {m : Str} {cs : List PyData} (hm : m ≠ star) (h : ∀ c ∈ cs, GoodF c) : GoodF (.tuple [.str m, .tuple cs]) := by
  have up : ∀ (n k : Nat) (d : PyData), goodF n d → n ≤ k → goodF k d := by
    intro n
    induction n with
    | zero =>
      intro k d g _
      cases k with
      | zero => exact g
      | succ k => exact .inl g
    | succ n ih =>
      intro k d g le
      cases k with
      | zero => omega
      | succ k =>
        rcases g with g | ⟨m, cs, e, hm, hc⟩
        · exact .inl g
        · exact .inr ⟨m, cs, e, hm, fun c hcm => ih k c (hc c hcm) (by omega)⟩
  have all : ∃ n, ∀ c ∈ cs, goodF n c := by
    induction cs with
    | nil => exact ⟨0, fun c hc => nomatch hc⟩
    | cons c r ih =>
      obtain ⟨n1, g1⟩ := ih fun x hx => h x (List.mem_cons_of_mem _ hx)
      obtain ⟨n2, g2⟩ := h c (List.mem_cons_self ..)
      refine ⟨max n1 n2, fun x hx => ?_⟩
      rcases List.mem_cons.mp hx with e | hx
      · rw [e]
        exact up _ _ _ g2 (Nat.le_max_right ..)
      · exact up _ _ _ (g1 x hx) (Nat.le_max_left ..)
  obtain ⟨n, g⟩ := all
  exact ⟨n + 1, .inr ⟨m, cs, rfl, hm, g⟩⟩
theorem FormK.good {ns : List Str} {d : PyData} (h : FormK ns d) : GoodF d := by
  induction h with
  | str z _ => exact ⟨0, z, rfl⟩
  | group m cs hm _ _ ih => exact GoodF.of_list hm ih
/-- the kinds of the leaves, in their order -/
def kindsL (d : PyData) : List Str := (piecesD d).map hdS
theorem kinds_leaf (z : Str) (i : Int) : kindsL (.tuple [.str z, .int i]) = [z] := by
  unfold kindsL
  rw [pieces_one rfl]
  rfl
theorem piecesL_flat : ∀ cs : List PyData, piecesL cs = cs.flatMap piecesD
  | [] => by rw [piecesL]; rfl
  | c :: r => by rw [piecesL, piecesL_flat r, List.flatMap_cons]
theorem kids_true {m : Str} {cs : List PyData} (hm : m ≠ star) : hasKidsD (.tuple [.str m, .tuple cs]) = true := by
  show (!decide (m = star)) = true
  rw [decide_eq_false hm]
  rfl
theorem kinds_group {m : Str} {cs : List PyData} (hm : m ≠ star) : kindsL (.tuple [.str m, .tuple cs]) = cs.flatMap kindsL := by
  unfold kindsL
  rw [pieces_kids (kids_true hm), piecesL_flat, List.map_flatMap]
theorem KindsOf.memL {d : PyData} {ks : List Str} (h : KindsOf d ks) (z : Str) : z ∈ ks ↔ z ∈ kindsL d := by
  rw [h.mem]
  unfold kindsL
  rw [List.mem_map]
theorem TreeK.kinds {ns : List Str} {d : PyData} (h : TreeK ns d) : (∀ z ∈ kindsL d, z ∈ ns) ∧ kindsL d ≠ [] := by
  induction h with
  | leaf z i hz =>
    rw [kinds_leaf]
    exact ⟨fun y hy => by rw [List.mem_singleton.mp hy]; exact hz, fun q => nomatch q⟩
  | group m cs hm ne hc ih =>
    rw [kinds_group hm]
    refine ⟨fun y hy => ?_, fun q => ?_⟩
    · obtain ⟨c, hcm, hy⟩ := List.mem_flatMap.mp hy
      exact (ih c hcm).1 y hy
    · cases cs with
      | nil => exact ne rfl
      | cons c r =>
        rw [List.flatMap_cons] at q
        exact (ih c (List.mem_cons_self ..)).2 (List.append_eq_nil_iff.mp q).1
theorem kind_of {m : Str} {cs : List PyData} (hm : m ≠ star) {c : PyData} (hc : c ∈ cs) {z : Str} (hz : z ∈ kindsL c) : z ∈ kindsL (.tuple [.str m, .tuple cs]) := by
  rw [kinds_group hm]
  exact List.mem_flatMap.mpr ⟨c, hc, hz⟩
theorem filterMap_ext {α β : Type} {f g : α → Option β} : ∀ {l : List α}, (∀ x ∈ l, f x = g x) → l.filterMap f = l.filterMap g
  | [], _ => rfl
  | x :: r, h => by
    rw [List.filterMap_cons, List.filterMap_cons, h x (List.mem_cons_self ..), filterMap_ext (l := r) fun y hy => h y (List.mem_cons_of_mem _ hy)]
theorem cutB_ext {ns : List Str} {d : PyData} {p q : Str → Bool} (h : TreeK ns d) (e : ∀ z ∈ kindsL d, p z = q z) : cutB p d = cutB q d := by
  induction h with
  | leaf z i hz => rw [cutB_leaf, cutB_leaf, e z (by rw [kinds_leaf]; exact List.mem_singleton.mpr rfl)]
  | group m cs hm ne hc ih =>
    rw [cutB_group, cutB_group, filterMap_ext fun c hcm => ih c hcm fun z hz => e z (kind_of hm hcm hz)]
theorem cut_cutB {ns ws : List Str} {d : PyData} (h : TreeK ns d) : cutD ws d = cutB (memB ws) d := by
  induction h with
  | leaf z i hz =>
    rw [cut_leaf, cutB_leaf]
    unfold memB
    by_cases c : z ∈ ws
    · rw [if_pos c, if_pos (decide_eq_true c)]
    · rw [if_neg c, if_neg (by rw [decide_eq_false c]; exact Bool.false_ne_true)]
  | group m cs hm ne hc ih => rw [cut_group, cutB_group, filterMap_ext fun c hcm => ih c hcm]
theorem filterMap_all {α : Type} {f : α → Option α} : ∀ {l : List α}, (∀ x ∈ l, f x = some x) → l.filterMap f = l
  | [], _ => rfl
  | x :: r, h => by
    rw [List.filterMap_cons, h x (List.mem_cons_self ..)]
    show x :: r.filterMap f = x :: r
    rw [filterMap_all (l := r) fun y hy => h y (List.mem_cons_of_mem _ hy)]
theorem cutB_all {ns : List Str} {d : PyData} {p : Str → Bool} (h : TreeK ns d) (e : ∀ z ∈ kindsL d, p z = true) : cutB p d = some d := by
  induction h with
  | leaf z i hz => rw [cutB_leaf, if_pos (e z (by rw [kinds_leaf]; exact List.mem_singleton.mpr rfl))]
  | group m cs hm ne hc ih => rw [cutB_group, filterMap_all fun c hcm => ih c hcm fun z hz => e z (kind_of hm hcm hz), if_neg ne]
theorem filterMap_none {α β : Type} {f : α → Option β} : ∀ {l : List α}, (∀ x ∈ l, f x = none) → l.filterMap f = []
  | [], _ => rfl
  | x :: r, h => by
    rw [List.filterMap_cons, h x (List.mem_cons_self ..)]
    exact filterMap_none (l := r) fun y hy => h y (List.mem_cons_of_mem _ hy)
theorem cutB_no {ns : List Str} {d : PyData} {p : Str → Bool} (h : TreeK ns d) (e : ∀ z ∈ kindsL d, p z = false) : cutB p d = none := by
  induction h with
  | leaf z i hz => rw [cutB_leaf, e z (by rw [kinds_leaf]; exact List.mem_singleton.mpr rfl), if_neg Bool.false_ne_true]
  | group m cs hm ne hc ih => rw [cutB_group, filterMap_none fun c hcm => ih c hcm fun z hz => e z (kind_of hm hcm hz), if_pos rfl]
theorem ndAll_filterMap {f : PyData → Option PyData} : ∀ {l : List PyData}, (∀ x ∈ l, ∀ y, f x = some y → ndD y ≤ ndD x) → ndAll (l.filterMap f) ≤ ndAll l
  | [], _ => Nat.le_refl _
  | x :: r, h => by
    have ih := ndAll_filterMap (l := r) fun y hy => h y (List.mem_cons_of_mem _ hy)
    have hx := h x (List.mem_cons_self ..)
    rw [List.filterMap_cons]
    cases e : f x with
    | none =>
      show ndAll (r.filterMap f) ≤ ndD x + ndAll r
      omega
    | some y =>
      have := hx y e
      show ndD y + ndAll (r.filterMap f) ≤ ndD x + ndAll r
      omega
theorem depAll_filterMap {f : PyData → Option PyData} : ∀ {l : List PyData}, (∀ x ∈ l, ∀ y, f x = some y → y.depth ≤ x.depth) → PyData.depthAll (l.filterMap f) ≤ PyData.depthAll l
  | [], _ => Nat.le_refl _
  | x :: r, h => by
    have ih := depAll_filterMap (l := r) fun y hy => h y (List.mem_cons_of_mem _ hy)
    have hx := h x (List.mem_cons_self ..)
    rw [List.filterMap_cons]
    cases e : f x with
    | none =>
      show PyData.depthAll (r.filterMap f) ≤ max x.depth (PyData.depthAll r)
      omega
    | some y =>
      have := hx y e
      show max y.depth (PyData.depthAll (r.filterMap f)) ≤ max x.depth (PyData.depthAll r)
      omega
theorem flat_filterMap {f : PyData → Option PyData} {p : Str → Bool} : ∀ {l : List PyData}, (∀ x ∈ l, (∀ y, f x = some y → kindsL y = (kindsL x).filter p) ∧ (f x = none → (kindsL x).filter p = [])) → (l.filterMap f).flatMap kindsL = (l.flatMap kindsL).filter p
  | [], _ => rfl
  | x :: r, h => by
    have ih := flat_filterMap (l := r) fun y hy => h y (List.mem_cons_of_mem _ hy)
    obtain ⟨h1, h2⟩ := h x (List.mem_cons_self ..)
    rw [List.filterMap_cons, List.flatMap_cons, List.filter_append]
    cases e : f x with
    | none => rw [h2 e, ← ih]; rfl
    | some y => rw [← h1 y e, ← ih]; rfl
/-- what a part is -/
structure PartOf (ns : List Str) (p : Str → Bool) (d e : PyData) : Prop where
  tree : TreeK ns e
  kinds : kindsL e = (kindsL d).filter p
  nd : ndD e ≤ ndD d
  dep : e.depth ≤ d.depth
theorem cutB_part {ns : List Str} {d : PyData} {p : Str → Bool} (h : TreeK ns d) : (∀ e, cutB p d = some e → PartOf ns p d e) ∧ (cutB p d = none → (kindsL d).filter p = []) := by
  induction h with
  | leaf z i hz =>
    rw [cutB_leaf, kinds_leaf]
    refine ⟨fun e he => ?_, fun he => ?_⟩
    · split at he
      · rename_i c
        cases he
        exact ⟨.leaf z i hz, by rw [kinds_leaf]; simp [c], Nat.le_refl _, Nat.le_refl _⟩
      · cases he
    · split at he
      · cases he
      · rename_i c
        simp [c]
  | group m cs hm ne hc ih =>
    have fl : (cs.filterMap (cutB p)).flatMap kindsL = (cs.flatMap kindsL).filter p := flat_filterMap fun x hx => ⟨fun y e => ((ih x hx).1 y e).kinds, (ih x hx).2⟩
    rw [cutB_group, kinds_group hm]
    refine ⟨fun e he => ?_, fun he => ?_⟩
    · split at he
      · cases he
      · rename_i c
        cases he
        refine ⟨.group m _ hm c fun y hy => ?_, by rw [kinds_group hm, kinds_group hm, fl], ?_, ?_⟩
        · obtain ⟨x, hx, e⟩ := List.mem_filterMap.mp hy
          exact ((ih x hx).1 y e).tree
        · have := ndAll_filterMap (f := cutB p) (l := cs) fun x hx y e => ((ih x hx).1 y e).nd
          show (1 + ((ndAll (cs.filterMap (cutB p)) + 1) + 0)) + 1 ≤ (1 + ((ndAll cs + 1) + 0)) + 1
          omega
        · have := depAll_filterMap (f := cutB p) (l := cs) fun x hx y e => ((ih x hx).1 y e).dep
          show max 0 (max (PyData.depthAll (cs.filterMap (cutB p)) + 1) 0) + 1 ≤ max 0 (max (PyData.depthAll cs + 1) 0) + 1
          omega
    · split at he
      · rename_i c
        rw [← fl, c]
        rfl
      · cases he
theorem cutB_some {ns : List Str} {d : PyData} {p : Str → Bool} (h : TreeK ns d) {z : Str} (hz : z ∈ kindsL d) (pz : p z = true) : ∃ e, cutB p d = some e := by
  cases q : cutB p d with
  | some e => exact ⟨e, rfl⟩
  | none =>
    have := (cutB_part h).2 q
    exact absurd (List.mem_filter.mpr ⟨hz, pz⟩) (by rw [this]; exact fun q => nomatch q)
/-! ### what forms build -/
structure BuiltOk (ns : List Str) (zs : List Str) (x : PyData) (r : List Str × Option PyData) : Prop where
  ex : ∃ e, r.2 = some e ∧ TreeK ns e
  more : ∃ m, r.1 = zs ++ m ∧ m.length ≤ ndD x ∧ ∀ z ∈ m, z ∈ ns
theorem built_all {ns : List Str} {n : Int} {d : PyData} : ∀ (cs : List PyData), (∀ c ∈ cs, ∀ zs, BuiltOk ns zs c (rebS (builtG n d) zs c)) → ∀ zs, (rebAll (builtG n d) zs cs).2.length = cs.length ∧ (∀ e ∈ (rebAll (builtG n d) zs cs).2, TreeK ns e) ∧ ∃ m, (rebAll (builtG n d) zs cs).1 = zs ++ m ∧ m.length ≤ ndAll cs ∧ ∀ z ∈ m, z ∈ ns
  | [], _, zs => by
    rw [rebAll_nil]
    exact ⟨rfl, fun e h => (nomatch h), [], (List.append_nil _).symm, Nat.le_refl _, fun z h => nomatch h⟩
  | c :: r, h, zs => by
    obtain ⟨⟨e, he, te⟩, m, hm, lm, im⟩ := h c (List.mem_cons_self ..) zs
    obtain ⟨a1, a2, m2, a3, a4, a5⟩ := built_all r (fun x hx => h x (List.mem_cons_of_mem _ hx)) (rebS (builtG n d) zs c).1
    rw [rebAll_cons, he]
    refine ⟨?_, fun y hy => ?_, m ++ m2, ?_, ?_, fun z hz => ?_⟩
    · show ([e] ++ _).length = _
      rw [List.length_append, a1]
      simp
      omega
    · rcases List.mem_append.mp hy with q | q
      · obtain rfl : y = e := by simpa using q
        exact te
      · exact a2 y q
    · show (rebAll (builtG n d) (rebS (builtG n d) zs c).1 r).1 = _
      rw [a3, hm, List.append_assoc]
    · rw [List.length_append]
      show _ ≤ ndD c + ndAll r
      omega
    · rcases List.mem_append.mp hz with q | q
      · exact im z q
      · exact a5 z q
theorem built_ok {ns : List Str} {n : Int} {d x : PyData} (hd : TreeK ns d) (h : FormK ns x) : ∀ zs, BuiltOk ns zs x (rebS (builtG n d) zs x) := by
  induction h with
  | str z hz =>
    intro zs
    rw [rebS_piece rfl]
    show BuiltOk ns zs (.str z) (if z = star then (zs, some d) else (zs ++ [z], some (.tuple [.str z, .int (nextN n zs)])))
    by_cases c : z = star
    · rw [if_pos c]
      exact ⟨⟨d, rfl, hd⟩, [], (List.append_nil _).symm, Nat.zero_le _, fun z h => nomatch h⟩
    · rw [if_neg c]
      have zn : z ∈ ns := hz.resolve_left c
      exact ⟨⟨_, rfl, .leaf z _ zn⟩, [z], rfl, Nat.le_refl _, fun y hy => by rw [List.mem_singleton.mp hy]; exact zn⟩
  | group m cs hm ne hc ih =>
    intro zs
    obtain ⟨a1, a2, mo, a3, a4, a5⟩ := built_all (n := n) (d := d) cs ih zs
    rw [rebS_kids (kids_true hm)]
    have nn : (rebAll (builtG n d) zs cs).2 ≠ [] := fun q => by
      rw [q] at a1
      exact ne (List.length_eq_zero_iff.mp a1.symm)
    refine ⟨⟨.tuple [.str m, .tuple (rebAll (builtG n d) zs cs).2], ?_, .group m _ hm nn a2⟩, mo, a3, ?_, a5⟩
    · show grp m (rebAll (builtG n d) zs cs).2 = _
      unfold grp
      rw [if_neg]
      intro q
      exact nn (List.isEmpty_iff.mp q)
    · have := kids_nd (.tuple [.str m, .tuple cs])
      have e : kidsD (.tuple [.str m, .tuple cs]) = cs := rfl
      rw [e] at this
      omega
end K1

namespace K1
open PySem PySem.Spec PyProof.Rows L2 Own LamX
/-! ### running a guard, as a plain function -/
abbrev RG := List Clause → PyData → List Str → (List PyData × Option PyData) × List Str
abbrev AR := (List PyData × (Str → Bool)) × List Str
def strOfD : PyData → Str
  | .str z => z
  | _ => ""
def strsOf : PyData → List Str
  | .tuple ds => ds.map strOfD
  | _ => []
def decC : PyData → Clause
  | .tuple [w, a] => (strsOf w, a)
  | _ => ([], .none)
def clausesOf : PyData → List Clause
  | .tuple ds => ds.map decC
  | _ => []
theorem strs_of (ws : List Str) : strsOf (.tuple (ws.map .str)) = ws := by
  show (ws.map PyData.str).map strOfD = ws
  rw [List.map_map]
  exact List.map_id' ws
theorem clauses_of (cs : List Clause) : clausesOf (.tuple (cs.map encC)) = cs := by
  show (cs.map encC).map decC = cs
  rw [List.map_map]
  have e : (decC ∘ encC) = id := by
    funext c
    obtain ⟨ws, a⟩ := c
    show (strsOf (.tuple (ws.map .str)), a) = (ws, a)
    rw [strs_of]
  rw [e, List.map_id]
def noneB (_ : Str) : Bool := false
def leftB : Option PyData → Str → Bool
  | none => noneB
  | some e => memB (kindsL e)
def actD (T : Tb) (f : Int) (rg : RG) (a d : PyData) (zs : List Str) : AR :=
  match a with
  | .str s => if s = "drop" then (([], noneB), zs) else (([], memB (kindsL d)), zs)
  | .tuple [.str w, x] =>
    if w = "keep" then (([], fun z => memB (kindsL d) z && underD T (strsOf x) z), zs)
    else if w = "raise" then (((rebS (builtG f d) zs x).2.toList, noneB), (rebS (builtG f d) zs x).1)
    else if (rg (clausesOf x) d zs).1.1.isEmpty = true then (([], leftB (rg (clausesOf x) d zs).1.2), (rg (clausesOf x) d zs).2)
    else (((outD (rg (clausesOf x) d zs).1.1 (rg (clausesOf x) d zs).1.2).toList, noneB), (rg (clausesOf x) d zs).2)
  | _ => (([], noneB), zs)
section
variable {T : Tb} {f : Int} {rg : RG} {d x : PyData} {zs ws : List Str} {cs : List Clause}
theorem act_str {s : Str} : actD T f rg (.str s) d zs = if s = "drop" then (([], noneB), zs) else (([], memB (kindsL d)), zs) := rfl
theorem act_two {w : Str} : actD T f rg (.tuple [.str w, x]) d zs = if w = "keep" then (([], fun z => memB (kindsL d) z && underD T (strsOf x) z), zs)
    else if w = "raise" then (((rebS (builtG f d) zs x).2.toList, noneB), (rebS (builtG f d) zs x).1)
    else if (rg (clausesOf x) d zs).1.1.isEmpty = true then (([], leftB (rg (clausesOf x) d zs).1.2), (rg (clausesOf x) d zs).2)
    else (((outD (rg (clausesOf x) d zs).1.1 (rg (clausesOf x) d zs).1.2).toList, noneB), (rg (clausesOf x) d zs).2) := rfl
theorem act_drop : actD T f rg (.str "drop") d zs = (([], noneB), zs) := by rw [act_str, if_pos rfl]
theorem act_back : actD T f rg (.str "back") d zs = (([], memB (kindsL d)), zs) := by rw [act_str, if_neg (by decide +kernel)]
theorem act_keep : actD T f rg (.tuple [.str "keep", .tuple (ws.map .str)]) d zs = (([], fun z => memB (kindsL d) z && underD T ws z), zs) := by
  rw [act_two, if_pos rfl, strs_of]
theorem act_raise : actD T f rg (.tuple [.str "raise", x]) d zs = (((rebS (builtG f d) zs x).2.toList, noneB), (rebS (builtG f d) zs x).1) := by
  rw [act_two, if_neg (by decide +kernel), if_pos rfl]
theorem act_pass : actD T f rg (.tuple [.str "pass", .tuple (cs.map encC)]) d zs = if (rg cs d zs).1.1.isEmpty = true then (([], leftB (rg cs d zs).1.2), (rg cs d zs).2) else (((outD (rg cs d zs).1.1 (rg cs d zs).1.2).toList, noneB), (rg cs d zs).2) := by
  rw [act_two, if_neg (by decide +kernel), if_neg (by decide +kernel), clauses_of]
end
/-- one clause that fires -/
def actO (T : Tb) (f : Int) (rg : RG) (a : PyData) (o : Option PyData) (zs : List Str) : AR :=
  match o with
  | some e => actD T f rg a e zs
  | none => (([], noneB), zs)
/-- the clauses that fire, with what they take -/
def goF (T : Tb) (f : Int) (rg : RG) (d : PyData) : List (PyData × List Str) → List Str → AR
  | [], zs => (([], noneB), zs)
  | (a, tk) :: r, zs =>
    (((actO T f rg a (cutB (memB tk) d) zs).1.1 ++ (goF T f rg d r (actO T f rg a (cutB (memB tk) d) zs).2).1.1,
      fun z => (actO T f rg a (cutB (memB tk) d) zs).1.2 z || (goF T f rg d r (actO T f rg a (cutB (memB tk) d) zs).2).1.2 z),
      (goF T f rg d r (actO T f rg a (cutB (memB tk) d) zs).2).2)
def bareD : PyData → Bool
  | .tuple [_, x] => isIntD x
  | _ => false
/-- a bare leaf of which a clause takes something -/
def wrapD (b : Bool) (d : PyData) : PyData := if (b && bareD d) = true then .tuple [.str "", .tuple [d]] else d
def runD (T : Tb) (f : Int) : Nat → RG
  | 0, _, _, zs => (([], none), zs)
  | n + 1, cs, d, zs =>
    (((goF T f (runD T f n) (wrapD (!(fireD T cs (kindsL d)).1.isEmpty) d) (fireD T cs (kindsL d)).1 zs).1.1,
      cutB (fun z => memB (fireD T cs (kindsL d)).2 z || (goF T f (runD T f n) (wrapD (!(fireD T cs (kindsL d)).1.isEmpty) d) (fireD T cs (kindsL d)).1 zs).1.2 z) (wrapD (!(fireD T cs (kindsL d)).1.isEmpty) d)),
      (goF T f (runD T f n) (wrapD (!(fireD T cs (kindsL d)).1.isEmpty) d) (fireD T cs (kindsL d)).1 zs).2)
/-! ### guards that are well formed -/
def ActK (ns : List Str) (G : List Clause → Prop) (a : PyData) : Prop := noList a = true ∧ SeqAt.shaped a = true ∧
  (a = .str "drop" ∨ a = .str "back" ∨ (∃ ws : List Str, a = .tuple [.str "keep", .tuple (ws.map .str)] ∧ ws.length ≤ 900) ∨ (∃ x, a = .tuple [.str "raise", x] ∧ FormK ns x) ∨ ∃ cs : List Clause, a = .tuple [.str "pass", .tuple (cs.map encC)] ∧ G cs)
def GuardK (ns : List Str) : Nat → List Clause → Prop
  | 0, _ => False
  | n + 1, cs => cs.length ≤ 1000 ∧ ∀ c ∈ cs, c.1.length ≤ 900 ∧ ActK ns (GuardK ns n) c.2
theorem GuardK.ok {ns : List Str} : ∀ {n : Nat} {cs : List Clause}, GuardK ns n cs → ClausesOk cs
  | 0, _, h => h.elim
  | n + 1, cs, h => ⟨h.1, fun c hc => ⟨(h.2 c hc).1, (h.2 c hc).2.1⟩⟩
/-! ### what fires -/
def sumA : List (PyData × List Str) → Nat
  | [] => 0
  | (a, _) :: r => ndD a + sumA r
theorem sumA_app : ∀ a b : List (PyData × List Str), sumA (a ++ b) = sumA a + sumA b
  | [], b => (Nat.zero_add _).symm
  | (a, _) :: r, b => by
    show ndD a + sumA (r ++ b) = ndD a + sumA r + sumA b
    rw [sumA_app r b, Nat.add_assoc]
structure FireOk (cs : List Clause) (pres : List Str) (q : List (PyData × List Str) × List Str) : Prop where
  act : ∀ x ∈ q.1, (∃ c ∈ cs, c.2 = x.1) ∧ x.2 ≠ [] ∧ ∀ z ∈ x.2, z ∈ pres
  len : q.1.length ≤ cs.length
  left : ∀ z ∈ q.2, z ∈ pres
  few : q.2.length ≤ pres.length
  sum : sumA q.1 ≤ ndAll (cs.map encC)
theorem fire_ok (T : Tb) : ∀ (cs : List Clause) (pres : List Str), FireOk cs pres (fireD T cs pres)
  | [], pres => ⟨fun x h => (nomatch h), Nat.le_refl _, fun z h => h, Nat.le_refl _, Nat.le_refl _⟩
  | (ws, a) :: r, pres => by
    have ih := fire_ok T r (pres.filter fun z => decide (z ∉ pres.filter (underD T ws)))
    have nd1 : ndD a + ndAll (r.map encC) ≤ ndAll (((ws, a) :: r).map encC) := by
      show _ ≤ (ndD (.tuple (ws.map PyData.str)) + (ndD a + 0) + 1) + ndAll (r.map encC)
      omega
    have fl := List.length_filter_le (fun z => decide (z ∉ pres.filter (underD T ws))) pres
    refine ⟨fun x hx => ?_, ?_, fun z hz => (List.mem_filter.mp (ih.left z hz)).1, Nat.le_trans ih.few fl, ?_⟩
    · have hx : x ∈ (if (pres.filter (underD T ws)).isEmpty = true then (fireD T r (pres.filter fun z => decide (z ∉ pres.filter (underD T ws)))).1 else (a, pres.filter (underD T ws)) :: (fireD T r (pres.filter fun z => decide (z ∉ pres.filter (underD T ws)))).1) := hx
      have old : ∀ x ∈ (fireD T r (pres.filter fun z => decide (z ∉ pres.filter (underD T ws)))).1, (∃ c ∈ (ws, a) :: r, c.2 = x.1) ∧ x.2 ≠ [] ∧ ∀ z ∈ x.2, z ∈ pres := fun x hx => by
        obtain ⟨⟨c, hc, e⟩, h2, h3⟩ := ih.act x hx
        exact ⟨⟨c, List.mem_cons_of_mem _ hc, e⟩, h2, fun z hz => (List.mem_filter.mp (h3 z hz)).1⟩
      split at hx
      · exact old x hx
      · rename_i c
        rcases List.mem_cons.mp hx with e | hx
        · rw [e]
          exact ⟨⟨_, List.mem_cons_self .., rfl⟩, fun q => c (by rw [show pres.filter (underD T ws) = [] from q]; rfl), fun z hz => (List.mem_filter.mp hz).1⟩
        · exact old x hx
    · show (if (pres.filter (underD T ws)).isEmpty = true then _ else _ :: _).length ≤ r.length + 1
      have := ih.len
      split
      · omega
      · show _ + 1 ≤ _
        omega
    · show sumA (if (pres.filter (underD T ws)).isEmpty = true then _ else _ :: _) ≤ _
      have := ih.sum
      split
      · omega
      · show ndD a + sumA _ ≤ _
        omega
/-- the same sets: the same clauses fire -/
def SameFire (x y : PyData × List Str) : Prop := x.1 = y.1 ∧ memB x.2 = memB y.2
theorem memB_of {a b : List Str} (h : ∀ z, z ∈ a ↔ z ∈ b) : memB a = memB b := by
  funext z
  unfold memB
  exact decide_eq_decide.mpr (h z)
theorem memB_iff {a b : List Str} (h : memB a = memB b) (z : Str) : z ∈ a ↔ z ∈ b := by
  have e := congrFun h z
  unfold memB at e
  exact decide_eq_decide.mp e
theorem empty_mem {a b : List Str} (h : ∀ z, z ∈ a ↔ z ∈ b) : a.isEmpty = b.isEmpty := by
  cases a with
  | nil =>
    cases b with
    | nil => rfl
    | cons y r => exact absurd ((h y).mpr (List.mem_cons_self ..)) (fun q => nomatch q)
  | cons x r =>
    cases b with
    | nil => exact absurd ((h x).mp (List.mem_cons_self ..)) (fun q => nomatch q)
    | cons y r => rfl
theorem fire_same (T : Tb) : ∀ (cs : List Clause) (p q : List Str), (∀ z, z ∈ p ↔ z ∈ q) → Paired SameFire (fireD T cs p).1 (fireD T cs q).1 ∧ ∀ z, z ∈ (fireD T cs p).2 ↔ z ∈ (fireD T cs q).2
  | [], p, q, h => ⟨.nil, h⟩
  | (ws, a) :: r, p, q, h => by
    have h1 : ∀ z, z ∈ p.filter (underD T ws) ↔ z ∈ q.filter (underD T ws) := fun z => by
      rw [List.mem_filter, List.mem_filter, h z]
    have h2 : ∀ z, z ∈ (p.filter fun z => decide (z ∉ p.filter (underD T ws))) ↔ z ∈ (q.filter fun z => decide (z ∉ q.filter (underD T ws))) := fun z => by
      simp only [List.mem_filter, decide_eq_true_iff, h z]
    obtain ⟨i1, i2⟩ := fire_same T r _ _ h2
    refine ⟨?_, i2⟩
    show Paired SameFire (if (p.filter (underD T ws)).isEmpty = true then _ else _) (if (q.filter (underD T ws)).isEmpty = true then _ else _)
    rw [empty_mem h1]
    split
    · exact i1
    · exact .cons ⟨rfl, memB_of h1⟩ i1
theorem go_same {T : Tb} {f : Int} {rg : RG} {d : PyData} {xs ys : List (PyData × List Str)} (h : Paired SameFire xs ys) : ∀ zs, goF T f rg d xs zs = goF T f rg d ys zs := by
  induction h with
  | nil => intro zs; rfl
  | cons a _ ih =>
    rename_i x y xs ys hxy
    intro zs
    obtain ⟨a1, t1⟩ := x
    obtain ⟨a2, t2⟩ := y
    obtain ⟨e1, e2⟩ := a
    have e1 : a1 = a2 := e1
    have e2 : memB t1 = memB t2 := e2
    subst e1
    rw [goF, goF, e2, ih]
theorem paired_empty {α β : Type} {R : α → β → Prop} {xs : List α} {ys : List β} (h : Paired R xs ys) : xs.isEmpty = ys.isEmpty := by
  cases h <;> rfl
/-! ### what comes of it -/
structure GoRes (ns zs : List Str) (b : Nat) (r : AR) : Prop where
  trees : ∀ e ∈ r.1.1, TreeK ns e
  more : ∃ m, r.2 = zs ++ m ∧ m.length ≤ b ∧ ∀ z ∈ m, z ∈ ns
structure RunRes (ns zs : List Str) (b : Nat) (d : PyData) (r : (List PyData × Option PyData) × List Str) : Prop where
  trees : ∀ e ∈ r.1.1, TreeK ns e
  left : ∀ e, r.1.2 = some e → TreeK ns e ∧ ndD e ≤ max (ndD d) 6
  more : ∃ m, r.2 = zs ++ m ∧ m.length ≤ b ∧ ∀ z ∈ m, z ∈ ns
  few : r.1.1.length ≤ b
theorem star_empty : star ≠ "" := by decide +kernel
theorem outD_tree {ns : List Str} {ds : List PyData} {lo : Option PyData} {e : PyData} (h : ∀ e ∈ ds, TreeK ns e) (hl : ∀ e, lo = some e → TreeK ns e) (ho : outD ds lo = some e) : TreeK ns e := by
  unfold outD at ho
  split at ho
  · exact hl e ho
  · rename_i c
    cases ho
    refine .group _ _ star_empty.symm (fun q => c ?_) fun x hx => ?_
    · rw [(List.append_eq_nil_iff.mp q).1]
      rfl
    · rcases List.mem_append.mp hx with q | q
      · exact h x q
      · cases lo with
        | none => cases q
        | some y =>
          rw [List.mem_singleton.mp q]
          exact hl y rfl
theorem go_none {ns zs : List Str} {b : Nat} {p : Str → Bool} : GoRes ns zs b (([], p), zs) := ⟨fun e h => (nomatch h), [], (List.append_nil _).symm, Nat.zero_le _, fun z h => nomatch h⟩
theorem act_res {ns : List Str} {T : Tb} {f : Int} {rg : RG} {G : List Clause → Prop} {a d : PyData} (hrg : ∀ cs d zs, G cs → TreeK ns d → RunRes ns zs (ndAll (cs.map encC)) d (rg cs d zs)) (ha : ActK ns G a) (hd : TreeK ns d) (zs : List Str) : GoRes ns zs (ndD a) (actD T f rg a d zs) := by
  obtain ⟨_, _, h⟩ := ha
  rcases h with rfl | rfl | ⟨ws, rfl, _⟩ | ⟨x, rfl, hx⟩ | ⟨cs, rfl, hg⟩
  · rw [act_drop]
    exact go_none
  · rw [act_back]
    exact go_none
  · rw [act_keep]
    exact go_none
  · rw [act_raise]
    obtain ⟨⟨e, he, te⟩, m, hm, lm, im⟩ := built_ok (n := f) hd hx zs
    rw [he, hm]
    refine ⟨fun y hy => ?_, m, rfl, ?_, im⟩
    · obtain rfl : y = e := by simpa using hy
      exact te
    · show m.length ≤ (1 + (ndD x + 0)) + 1
      omega
  · rw [act_pass]
    obtain ⟨tr, lf, ⟨m, hm, lm, im⟩, fw⟩ := hrg cs d zs hg hd
    have b : m.length ≤ ndD (.tuple [.str "pass", .tuple (cs.map encC)]) := by
      show m.length ≤ (1 + ((ndAll (cs.map encC) + 1) + 0)) + 1
      omega
    split
    · exact ⟨fun e h => (nomatch h), m, hm, b, im⟩
    · refine ⟨fun e he => ?_, m, hm, b, im⟩
      have he : e ∈ (outD (rg cs d zs).1.1 (rg cs d zs).1.2).toList := he
      rw [Option.mem_toList] at he
      exact outD_tree tr (fun y hy => (lf y hy).1) he
theorem go_res {ns : List Str} {T : Tb} {f : Int} {rg : RG} {G : List Clause → Prop} {d : PyData} (hrg : ∀ cs d zs, G cs → TreeK ns d → RunRes ns zs (ndAll (cs.map encC)) d (rg cs d zs)) (hd : TreeK ns d) : ∀ (fs : List (PyData × List Str)) (zs : List Str), (∀ x ∈ fs, ActK ns G x.1) → GoRes ns zs (sumA fs) (goF T f rg d fs zs)
  | [], zs, _ => go_none
  | (a, tk) :: r, zs, h => by
    have ha : GoRes ns zs (ndD a) (actO T f rg a (cutB (memB tk) d) zs) := by
      cases e : cutB (memB tk) d with
      | none => exact go_none
      | some y => exact act_res hrg (h _ (List.mem_cons_self ..)) ((cutB_part hd).1 y e).tree zs
    obtain ⟨t1, m1, e1, l1, i1⟩ := ha
    obtain ⟨t2, m2, e2, l2, i2⟩ := go_res hrg hd r (actO T f rg a (cutB (memB tk) d) zs).2 fun x hx => h x (List.mem_cons_of_mem _ hx)
    refine ⟨fun e he => ?_, m1 ++ m2, ?_, ?_, fun z hz => ?_⟩
    · rcases List.mem_append.mp (show e ∈ _ ++ _ from he) with q | q
      · exact t1 e q
      · exact t2 e q
    · show (goF T f rg d r _).2 = _
      rw [e2, e1, List.append_assoc]
    · rw [List.length_append]
      show _ ≤ ndD a + sumA r
      omega
    · rcases List.mem_append.mp hz with q | q
      · exact i1 z q
      · exact i2 z q
theorem act_few {T : Tb} {f : Int} {rg : RG} {a : PyData} {o : Option PyData} {zs : List Str} : (actO T f rg a o zs).1.1.length ≤ 1 := by
  have tl : ∀ {α : Type} (o : Option α), o.toList.length ≤ 1 := fun o => by cases o <;> simp
  cases o with
  | none => exact Nat.zero_le _
  | some d =>
    show (actD T f rg a d zs).1.1.length ≤ 1
    unfold actD
    split
    · split <;> exact Nat.zero_le _
    · split
      · exact Nat.zero_le _
      · split
        · exact tl _
        · split
          · exact Nat.zero_le _
          · exact tl _
    · exact Nat.zero_le _
theorem go_few {T : Tb} {f : Int} {rg : RG} {d : PyData} : ∀ (fs : List (PyData × List Str)) (zs : List Str), (goF T f rg d fs zs).1.1.length ≤ fs.length
  | [], _ => Nat.zero_le _
  | (a, tk) :: r, zs => by
    have h1 := act_few (T := T) (f := f) (rg := rg) (a := a) (o := cutB (memB tk) d) (zs := zs)
    have h2 := go_few (T := T) (f := f) (rg := rg) (d := d) r (actO T f rg a (cutB (memB tk) d) zs).2
    show List.length ((actO T f rg a (cutB (memB tk) d) zs).1.1 ++ (goF T f rg d r (actO T f rg a (cutB (memB tk) d) zs).2).1.1) ≤ r.length + 1
    rw [List.length_append]
    omega
theorem wrap_tree {ns : List Str} {d : PyData} {b : Bool} (h : TreeK ns d) : TreeK ns (wrapD b d) ∧ ndD (wrapD b d) ≤ max (ndD d) 6 ∧ kindsL (wrapD b d) = kindsL d := by
  unfold wrapD
  split
  · rename_i c
    refine ⟨.group _ _ star_empty.symm (fun q => nomatch q) fun x hx => by rw [List.mem_singleton.mp hx]; exact h, ?_, ?_⟩
    · cases h with
      | leaf z i hz => exact Nat.le_max_right _ _
      | group m cs _ _ _ =>
        have c2 := (Bool.and_eq_true_iff.mp c).2
        cases c2
    · rw [kinds_group star_empty.symm, List.flatMap_cons]
      exact List.append_nil _
  · exact ⟨h, Nat.le_max_left _ _, rfl⟩
theorem acts_of {ns : List Str} {n : Nat} {cs : List Clause} {T : Tb} {pres : List Str} (h : GuardK ns (n + 1) cs) : ∀ x ∈ (fireD T cs pres).1, ActK ns (GuardK ns n) x.1 := fun x hx => by
  obtain ⟨⟨c, hc, e⟩, _⟩ := (fire_ok T cs pres).act x hx
  rw [← e]
  exact (h.2 c hc).2
theorem nd_clauses : ∀ cs : List Clause, cs.length ≤ ndAll (cs.map encC)
  | [] => Nat.le_refl _
  | c :: r => by
    have := nd_clauses r
    have := nd_pos (encC c)
    show r.length + 1 ≤ ndD (encC c) + ndAll (r.map encC)
    omega
theorem run_res {ns : List Str} {T : Tb} {f : Int} : ∀ (n : Nat) (cs : List Clause) (d : PyData) (zs : List Str), GuardK ns n cs → TreeK ns d → RunRes ns zs (ndAll (cs.map encC)) d (runD T f n cs d zs)
  | 0, cs, d, zs, h, _ => h.elim
  | n + 1, cs, d, zs, h, hd => by
    have fo := fire_ok T cs (kindsL d)
    obtain ⟨tw, nw, _⟩ := wrap_tree (b := !(fireD T cs (kindsL d)).1.isEmpty) hd
    obtain ⟨t1, m, e1, l1, i1⟩ := go_res (T := T) (f := f) (run_res n) tw (fireD T cs (kindsL d)).1 zs (acts_of h)
    refine ⟨t1, fun e he => ?_, ⟨m, e1, Nat.le_trans l1 fo.sum, i1⟩, ?_⟩
    · have p := (cutB_part tw).1 e he
      exact ⟨p.tree, Nat.le_trans p.nd nw⟩
    · exact Nat.le_trans (go_few _ _) (Nat.le_trans fo.len (nd_clauses cs))
end K1

namespace K1
open PySem PySem.Spec PyProof.Rows L2 Own LamX
/-! ### _act -/
/-- a table of kinds that stands in a part of the heap which stays -/
structure KB (C : Addr) (B H : Hp) (l x : Addr) (ls ls' : List Ln) (T : Tb) : Prop where
  kin : KIn C B x ls ls' T
  sub : Same B H
  nt : ∀ b o, B b = some o → ∀ ps, o ≠ HO.tbl ps
  nl : B l = none
theorem KB.kinH {C : Addr} {B H : Hp} {l x : Addr} {ls ls' : List Ln} {T : Tb} (h : KB C B H l x ls ls' T) : KIn C H x ls ls' T := h.kin.same h.sub
theorem KB.keep {C : Addr} {B H H' : Hp} {l x : Addr} {ls ls' : List Ln} {T : Tb} (h : KB C B H l x ls ls' T) (k : KeepW (fun b => b = l) H H') : KB C B H' l x ls ls' T :=
  ⟨h.kin, fun b o e => k.all b o (h.sub b o e) (h.nt b o e) (.inl fun z => by rw [z, h.nl] at e; cases e), h.nt, h.nl⟩
theorem num_keep {C : Addr} {H H' : Hp} {x l : Addr} {n : Int} {zs : List Str} {W : Addr → Prop} (h : NumAt C H x l n zs) (k : KeepW W H H') (w : ¬ W l) : NumAt C H' x l n zs := by
  obtain ⟨dx, h1, h2⟩ := h
  exact ⟨dx, k.all _ _ h1 (fun _ z => nomatch z) (.inr fun _ z => nomatch z), k.lst h2 w⟩
theorem num_same {C : Addr} {H H' : Hp} {x l : Addr} {n : Int} {zs : List Str} (h : NumAt C H x l n zs) (s : Same H H') : NumAt C H' x l n zs := by
  obtain ⟨dx, h1, h2⟩ := h
  exact ⟨dx, s _ _ h1, s _ _ h2⟩
theorem tabs_same {T : List (Addr × Str)} {J J2 : Hp} (t : Tabs T J) (m : Same J J2) : Tabs T J2 := tabs_mine (H0 := J) t (Mine.of m)
theorem KeepW.weak {W W' : Addr → Prop} {H H' : Hp} (h : KeepW W H H') (i : ∀ b, W b → W' b) : KeepW W' H H' := ⟨fun b o e n k => h.all b o e n (k.imp (fun z w => z (i b w)) id), h.lists⟩
theorem kinds_few {d : PyData} {ns ks : List Str} (h : KindsOf d ks) (hs : ∀ z ∈ ks, z ∈ ns) : ks.length ≤ ns.length := nd_len h.nd hs
theorem dpAll_empty {K : PySem.W.Frag} {H : Hp} {us : List V} {ds : List PyData} (h : DpAll K H us ds) : us.isEmpty = ds.isEmpty := by cases h <;> rfl
theorem fit_word {z : Str} (h : okD (.str z) = true) : SeqAt.shaped (.str z) = true := Fit.shaped ⟨h, by show 0 ≤ 60; decide⟩
theorem shaped_drop : SeqAt.shaped (.str "drop") = true := fit_word (by decide +kernel)
theorem shaped_back : SeqAt.shaped (.str "back") = true := fit_word (by decide +kernel)
theorem eqv_str (a b : Str) : PyData.eqv (.str a) (.str b) = decide (a = b) := by
  simp only [PyData.eqv]
  exact Bool.beq_eq_decide_eq a b
theorem eqv_tup (ds : List PyData) (b : Str) : PyData.eqv (.tuple ds) (.str b) = false := by
  simp only [PyData.eqv]
def spAct (C C2 : Addr) (TT : List (Addr × Str)) (K : PySem.W.Frag) (n : Nat) : Sp := fun vs H Q _ => ∃ x va vt y ls ls' T B l f zs a d, vs = [.ref x, va, vt, .ref y] ∧ KB C B H l x ls ls' T ∧ Tabs TT H ∧ star ∉ nms ls ∧ (nms ls).length ≤ 60 ∧ Dp K H va a ∧ ActK (nms ls) (GuardK (nms ls) n) a ∧ Dp K H vt d ∧ TreeK (nms ls) d ∧ ndD d ≤ 400000 ∧
  NumAt C2 H y l f zs ∧ zs.length + 2 * ndD a ≤ 800000 ∧
  ∀ H' t q1 q2 us bs, KeepW (fun b => b = l) H H' → Tabs TT H' → NumAt C2 H' y l f (actD T f (runD T f n) a d zs).2 → H' t = some (.tup [.ref q1, .ref q2]) → H' q1 = some (.lst us) → DpAll K H' us (actD T f (runD T f n) a d zs).1.1 → H' q2 = some (.lst (bs.map V.str)) →
    (∀ z, memB bs z = (actD T f (runD T f n) a d zs).1.2 z) → bs.length ≤ 60 → ¬ OldN H q1 → ¬ OldN H q2 → Q (.ref t) H'
def spRunGuard (C C2 : Addr) (TT : List (Addr × Str)) (K : PySem.W.Frag) (n : Nat) : Sp := fun vs H Q _ => ∃ x vg vt y ls ls' T B l f zs cs d, vs = [.ref x, vg, vt, .ref y] ∧ KB C B H l x ls ls' T ∧ Tabs TT H ∧ star ∉ nms ls ∧ (nms ls).length ≤ 60 ∧ Dp K H vg (.tuple (cs.map encC)) ∧ GuardK (nms ls) n cs ∧ Dp K H vt d ∧ TreeK (nms ls) d ∧ ndD d ≤ 400000 ∧
  NumAt C2 H y l f zs ∧ zs.length + 2 * ndAll (cs.map encC) ≤ 800000 ∧
  ∀ H' t q us lv, KeepW (fun b => b = l) H H' → Tabs TT H' → NumAt C2 H' y l f (runD T f n cs d zs).2 → H' t = some (.tup [.ref q, lv]) → H' q = some (.lst us) → DpAll K H' us (runD T f n cs d zs).1.1 → OptDp K H' lv (runD T f n cs d zs).1.2 → us.length ≤ 1000 → ¬ OldN H q → Q (.ref t) H'
section
variable {P : Program} {w : World} {K : PySem.W.Frag} {mg : Str → Option Value} {base : Heap}
abbrev nAct : List Str := ["kinds", "action", "tree", "numbers", "word", "what", "raised", "left", "kind"]
theorem scAct : FnScope nAct ["kinds", "action", "tree", "numbers"] (defScope sAct) := ⟨rfl, rfl, rfl, by decide +kernel, rfl, by decide +kernel, by decide +kernel⟩
theorem ok_act {C C2 f fI fU fB fR fO : Addr} {fd dI dU dB dR dO : FuncData} {TT : List (Addr × Str)} {n j : Nat} (hj : 5 ≤ j) (F : Fun K "_act" "_act" sAct f fd)
    (GI : FnOk P w K mg base CX0 3 fI dI ["tree"] (spKindsIn K)) (kI : PySem.W.keepIn K (.ref fI) = true) (bI : Binds K dI ["tree"] []) (mI : mg "kinds_in" = some (.ref fI))
    (GU : FnOk P w K mg base CX0 4 fU dU ["kinds", "kind", "names"] (spIsUnder C K)) (kU : PySem.W.keepIn K (.ref fU) = true) (bU : Binds K dU ["kinds", "kind", "names"] []) (mU : mg "_is_under" = some (.ref fU))
    (GB : FnG P w K mg base 5 fB dB ["form", "tree", "numbers"] (spBuilt C2 TT K)) (kB : PySem.W.keepIn K (.ref fB) = true) (bB : Binds K dB ["form", "tree", "numbers"] []) (mB : mg "_built" = some (.ref fB))
    (GR : FnG P w K mg base j fR dR ["kinds", "guard", "tree", "numbers"] (spRunGuard C C2 TT K n)) (kR : PySem.W.keepIn K (.ref fR) = true) (bR : Binds K dR ["kinds", "guard", "tree", "numbers"] []) (mR : mg "_run_guard" = some (.ref fR))
    (GO : FnOk P w K mg base CX0 1 fO dO ["raised", "left"] (spOutcome K)) (kO : PySem.W.keepIn K (.ref fO) = true) (bO : Binds K dO ["raised", "left"] []) (mO : mg "_guard_outcome" = some (.ref fO)) :
    FnG P w K mg base (j + 1) f fd ["kinds", "action", "tree", "numbers"] (spAct C C2 TT K n) := by
  refine okG F scAct (fun vs H Q E h => ?_) (fun cdv A out s H vs Q E hc hr h => ?_)
  · obtain ⟨x, va, vt, y, ls, ls', T, B, l, g, zs, a, d, rfl, _⟩ := h
    rfl
  · obtain ⟨x, va, vt, y, ls, ls', T, B, l, g, zs, a, d, rfl, kb, tabs, nst, few, ha, ak, hd, td, big, num, bz, k⟩ := h
    have hr1 : Room 1 _ := hr.mono (by omega)
    have hr3 : Room 3 _ := hr.mono (by omega)
    have hr4 : Room 4 _ := hr.mono (by omega)
    have hr5 : Room 5 _ := hr.mono (by omega)
    refine ⟨_, pss_cons (ps_if (pt_cmpR (op_eqD hr.units) (pv 1) pe_str (nomark _))
        (pss_one (ps_ret (pe_tup (pa_cons (pe_lst pa_nil) (pa_cons (pe_lst pa_nil) pa_nil)))))
        pss_nil)
      (pss_cons (ps_if (pt_cmpR (op_eqD hr.units) (pv 1) pe_str (nomark _))
        (pss_one (ps_ret (pe_tup (pa_cons (pe_lst pa_nil) (pa_cons (pe_call GI hr3 (by rfl) mI kI bI .nil pass0 (pa_cons (pv 2) pa_nil)) pa_nil)))))
        pss_nil)
      (pss_cons (ps_asg (pv 1) (pg_tup rfl (pgs_cons (pg_name (i := 4) scAct.nd rfl (Or.inl rfl)) (pgs_cons (pg_name (i := 5) scAct.nd rfl (Or.inr rfl)) pgs_nil))))
      (pss_cons (ps_if (pt_cmpR op_eq (pv 4) pe_str (nomark _))
        (pss_one (ps_ret (pe_tup (pa_cons (pe_lst pa_nil) (pa_cons (pe_lc (own := [("kind", 8)]) (g := gName 8) (tt := tTest (tCall (spIsUnder C K) [] E0 (tCons (tVar 0) (tCons (tVar 8) (tCons (tVar 5) tNil))))) (te := tVar 8) rfl scAct.nd (pi_list (pe_call GI hr3 (by rfl) mI kI bI .nil pass0 (pa_cons (pv 2) pa_nil))) (blkOk_by (N := nAct) (sc := defScope sAct) (by decide +kernel)) (fun _ _ _ _ _ => pg_name (i := 8) scAct.nd rfl (Or.inl rfl)) (fun _ _ _ _ _ => pts_one (pt_val (pe_call GU hr4 (by rfl) mU kU bU .nil pass0 (pa_cons (pv 0) (pa_cons (pv 8) (pa_cons (pv 5) pa_nil)))))) (fun _ _ _ _ _ => pv 8)) pa_nil)))))
        pss_nil)
      (pss_cons (ps_if (pt_cmpR op_eq (pv 4) pe_str (nomark _))
        (pss_one (ps_ret (pe_tup (pa_cons (pe_lst (pa_cons (pe_callG (E := fun _ _ _ => False) GB hc hr5 (by rfl) mB kB bB (pa_cons (pv 5) (pa_cons (pv 2) (pa_cons (pv 3) pa_nil)))) pa_nil)) (pa_cons (pe_lst pa_nil) pa_nil)))))
        pss_nil)
      (pss_cons (ps_asg (pe_callG (E := fun _ _ _ => False) GR hc hr (by rfl) mR kR bR (pa_cons (pv 0) (pa_cons (pv 5) (pa_cons (pv 2) (pa_cons (pv 3) pa_nil))))) (pg_tup rfl (pgs_cons (pg_name (i := 6) scAct.nd rfl (Or.inl rfl)) (pgs_cons (pg_name (i := 7) scAct.nd rfl (Or.inl rfl)) pgs_nil))))
      (pss_cons (ps_if (pt_truth (pv 6) (by intro _; rfl))
        (pss_one (ps_ret (pe_tup (pa_cons (pe_lst (pa_cons (pe_call GO hr1 (by rfl) mO kO bO .nil pass0 (pa_cons (pv 6) (pa_cons (pv 7) pa_nil))) pa_nil)) (pa_cons (pe_lst pa_nil) pa_nil)))))
        pss_nil)
      (pss_one (ps_ret (pe_tup (pa_cons (pe_lst pa_nil) (pa_cons (pe_ifExp (pt_cmpR op_isN (pv 7) pe_non (nomark _)) (pe_lst pa_nil) (pe_call GI hr3 (by rfl) mI kI bI .nil pass0 (pa_cons (pv 7) pa_nil))) pa_nil))))))))))), ?_⟩
    -- the end: two lists in a tuple
    have fin2 : ∀ (J : Hp) (q1 q2 : Addr) (us : List V) (bs : List Str), KeepW (fun b => b = l) H J → Tabs TT J → NumAt C2 J y l g (actD T g (runD T g n) a d zs).2 → J q1 = some (.lst us) → DpAll K J us (actD T g (runD T g n) a d zs).1.1 → J q2 = some (.lst (bs.map V.str)) → (∀ z, memB bs z = (actD T g (runD T g n) a d zs).1.2 z) → bs.length ≤ 60 → ¬ OldN H q1 → ¬ OldN H q2 →
        2 ≤ sizeLine ∧ ∀ t, J t = none → Q (.ref t) (upd J t (.tup [.ref q1, .ref q2])) := fun J q1 q2 us bs kw tb nu h1 hu h2 hm hl o1 o2 => ⟨by decide, fun t nt => by
      have s := same_upd (o := .tup [.ref q1, .ref q2]) nt
      exact k _ t q1 q2 us bs (kw.trans (KeepW.of s)) (tabs_same tb s) (num_same nu s) upd_same (s _ _ h1) (dpAll_same s hu) (s _ _ h2) hm hl o1 o2⟩
    obtain ⟨fa, sha, cases_⟩ := ak
    have isStr : ∀ s, a = .str s → PyData.eqv a (.str "drop") = decide (s = "drop") ∧ PyData.eqv a (.str "back") = decide (s = "back") := fun s e => by
      rw [e]
      exact ⟨eqv_str _ _, eqv_str _ _⟩
    refine ⟨_, rfl, a, .str "drop", ha, .str _, sha, shaped_drop, _, rfl, ?_⟩
    rcases cases_ with rfl | rfl | ⟨ws, rfl, lw⟩ | ⟨fx, rfl, hx⟩ | ⟨cs, rfl, hg⟩
    · rw [eqv_str, decide_eq_true rfl]
      rw [act_drop] at fin2
      refine iteT ⟨Nat.zero_le _, fun q1 n1 => ⟨Nat.zero_le _, fun q2 n2 => ?_⟩⟩
      have s1 := same_upd (o := .lst []) n1
      have s2 := same_upd (o := .lst []) n2
      have s12 := s1.trans s2
      exact fin2 _ q1 q2 [] [] (KeepW.of s12) (tabs_same tabs s12) (num_same num s12) (s2 _ _ upd_same) .nil upd_same (fun z => rfl) (Nat.zero_le _) (OldN.none n1) (OldN.none (s1.free n2))
    · rw [eqv_str, decide_eq_false (by decide +kernel)]
      refine iteF ⟨_, rfl, .str "back", .str "back", ha, .str _, sha, shaped_back, _, rfl, ?_⟩
      rw [eqv_str, decide_eq_true rfl]
      rw [act_back] at fin2
      refine iteT ⟨Nat.zero_le _, fun q1 n1 => ?_⟩
      have s1 := same_upd (o := .lst []) n1
      have h1 := upd_same (H := H) (a := q1) (o := .lst [])
      generalize upd H q1 (.lst []) = H1 at s1 h1 ⊢
      refine ⟨_, rfl, vt, d, nms ls, rfl, dp_same s1 hd, td.good, nst, by omega, by omega, fun H2 q2 ks s2 n2 h2 ko sub => ?_⟩
      have s12 := s1.trans s2
      refine fin2 _ q1 q2 [] ks (KeepW.of s12) (tabs_same tabs s12) (num_same num s12) (s2 _ _ h1) .nil h2 (fun z => ?_) (Nat.le_trans (kinds_few ko sub) few) (OldN.none n1) (OldN.none (s1.free n2))
      exact congrFun (memB_of ko.memL) z
    · -- keep
      rw [eqv_tup]
      refine iteF ⟨_, rfl, _, .str "back", ha, .str _, sha, shaped_back, _, rfl, ?_⟩
      rw [eqv_tup]
      rw [act_keep] at fin2
      obtain ⟨ta, w1, w2, rfl, hst, hw1, hw2⟩ := dp_pair ha
      cases hw1
      obtain ⟨na, rfl, hna⟩ := dp_strs hw2
      refine iteF ⟨_, rfl, ta, _, rfl, hst, rfl, _, _, rfl, _, _, rfl, rfl, ?_⟩
      refine ⟨_, rfl, rfl, _, rfl, ?_⟩
      rw [decide_eq_true rfl]
      refine iteT ⟨Nat.zero_le _, fun q1 n1 => ?_⟩
      have s1 := same_upd (o := .lst []) n1
      have h1 := upd_same (H := H) (a := q1) (o := .lst [])
      generalize upd H q1 (.lst []) = H1 at s1 h1 ⊢
      refine ⟨_, rfl, vt, d, nms ls, rfl, dp_same s1 hd, td.good, nst, by omega, by omega, fun H2 p ks s2 np hp ko sub => ?_⟩
      have s12 := s1.trans s2
      have lk := Nat.le_trans (kinds_few ko sub) few
      refine ⟨p, rfl, ⟨_, SqL.of hp⟩, fun D nD => ?_⟩
      refine lc_list (K := K) (a := p) (xs := ks.map V.str) (fun j J => Same H2 J ∧ J D = some (.lst (((ks.take j).filter (underD T ws)).map V.str))) ⟨same_upd nD, upd_same⟩ (fun j J hj z => SqL.of (z.1 _ _ hp)) ?_ ?_
      · rintro i u J hu ⟨smj, hD⟩
        rw [List.getElem?_map] at hu
        obtain ⟨z, hz, rfl⟩ := Option.map_eq_some_iff.mp hu
        have zm := List.mem_of_getElem? hz
        have tk : ((ks.take (i + 1)).filter (underD T ws)) = ((ks.take i).filter (underD T ws)) ++ [z].filter (underD T ws) := by
          rw [List.take_add_one, hz, List.filter_append]
          rfl
        refine ⟨rfl, _, rfl, _, rfl, _, rfl, x, z, na, ls, ls', T, ws, rfl, kb.kinH.same (s12.trans smj), sub z zm, Same.tup (s12.trans smj) hna, lw, fun J2 sj => ⟨_, rfl, ?_⟩⟩
        refine ite2 (fun cc => ?_) (fun cc => ?_)
        · refine ⟨_, rfl, _, sj _ _ hD, ?_, same_past nD (smj.trans sj), ?_⟩
          · have a := filter_len (underD T ws) (ks.take i)
            rw [List.length_take] at a
            rw [List.length_map]
            exact small1000 (by omega)
          · rw [upd_same, tk, List.map_append]
            simp [cc]
        · refine ⟨smj.trans sj, ?_⟩
          rw [tk, sj _ _ hD]
          simp [cc]
      · rintro J ⟨smj, hD⟩
        rw [List.length_map, List.take_of_length_le (Nat.le_refl _)] at hD
        have s3 := s12.trans smj
        refine fin2 _ q1 D [] (ks.filter (underD T ws)) (KeepW.of s3) (tabs_same tabs s3) (num_same num s3) (smj _ _ (s2 _ _ h1)) .nil hD (fun z => ?_) (Nat.le_trans (filter_len _ ks) lk) (OldN.none n1) (OldN.none (s12.free nD))
        show decide (z ∈ ks.filter (underD T ws)) = (decide (z ∈ kindsL d) && underD T ws z)
        rw [Bool.eq_iff_iff, decide_eq_true_iff, List.mem_filter, Bool.and_eq_true, decide_eq_true_iff, ko.memL]
    · -- raise
      rw [eqv_tup]
      refine iteF ⟨_, rfl, _, .str "back", ha, .str _, sha, shaped_back, _, rfl, ?_⟩
      rw [eqv_tup]
      rw [act_raise] at fin2
      obtain ⟨ta, w1, w2, rfl, hst, hw1, hw2⟩ := dp_pair ha
      cases hw1
      refine iteF ⟨_, rfl, ta, _, rfl, hst, rfl, _, _, rfl, _, _, rfl, rfl, ?_⟩
      refine ⟨_, rfl, rfl, _, rfl, ?_⟩
      rw [decide_eq_false (fun z => absurd (V.str.inj z) (by decide +kernel))]
      refine iteF ⟨_, rfl, rfl, _, rfl, ?_⟩
      rw [decide_eq_true rfl]
      have nx : ndD (.tuple [.str "raise", fx]) = (1 + (ndD fx + 0)) + 1 := rfl
      obtain ⟨⟨e, he, te⟩, m, hm, lm, im⟩ := built_ok (n := g) td hx zs
      refine iteT ⟨_, rfl, _, rfl, _, rfl, w2, vt, y, fx, d, l, g, zs, rfl, tabs, hw2, hx.good, by omega, hd, td.flat, (fun z => by subst z; cases td), num, by omega, fun H1 v kw tb nu hv => ?_⟩
      rw [he] at hv fin2
      refine ⟨(by show 1 ≤ sizeLine; decide), fun q1 n1 => ⟨Nat.zero_le _, fun q2 n2 => ?_⟩⟩
      have s1 := same_upd (o := .lst [v]) n1
      have s2 := same_upd (o := .lst []) n2
      have s12 := s1.trans s2
      exact fin2 _ q1 q2 [v] [] (kw.trans (KeepW.of s12)) (tabs_same tb s12) (num_same nu s12) (s2 _ _ upd_same) (.cons (dp_same s12 hv) .nil) upd_same (fun z => rfl) (Nat.zero_le _) (fun z => OldN.none n1 (kw.old z)) (fun z => OldN.none (s1.free n2) (kw.old z))
    · -- pass
      rw [eqv_tup]
      refine iteF ⟨_, rfl, _, .str "back", ha, .str _, sha, shaped_back, _, rfl, ?_⟩
      rw [eqv_tup]
      rw [act_pass] at fin2
      obtain ⟨ta, w1, w2, rfl, hst, hw1, hw2⟩ := dp_pair ha
      cases hw1
      refine iteF ⟨_, rfl, ta, _, rfl, hst, rfl, _, _, rfl, _, _, rfl, rfl, ?_⟩
      refine ⟨_, rfl, rfl, _, rfl, ?_⟩
      rw [decide_eq_false (fun z => absurd (V.str.inj z) (by decide +kernel))]
      refine iteF ⟨_, rfl, rfl, _, rfl, ?_⟩
      rw [decide_eq_false (fun z => absurd (V.str.inj z) (by decide +kernel))]
      have nx : ndD (.tuple [.str "pass", .tuple (cs.map encC)]) = (1 + ((ndAll (cs.map encC) + 1) + 0)) + 1 := rfl
      have rr := run_res (T := T) (f := g) n cs d zs hg td
      refine iteF ⟨_, rfl, _, rfl, _, rfl, _, rfl, x, w2, vt, y, ls, ls', T, B, l, g, zs, cs, d, rfl, kb, tabs, nst, few, hw2, hg, hd, td, big, num, by omega, fun H1 t q us lv kw tb nu ht hq hu hl lu nq => ?_⟩
      refine ⟨t, _, rfl, SqT.of ht, rfl, _, _, rfl, _, _, rfl, rfl, ?_⟩
      refine ⟨_, rfl, !us.isEmpty, .inl ⟨us, SqL.of hq, rfl⟩, ?_⟩
      have ee := dpAll_empty hu
      have lon : (runD T g n cs d zs).1.2 ≠ some .none := fun z => by
        have := (rr.left _ z).1
        cases this
      rw [← ee] at fin2
      cases ei : us.isEmpty with
      | false =>
        rw [ei, if_neg Bool.false_ne_true] at fin2
        refine iteT ⟨_, rfl, _, rfl, q, us, _, lv, _, rfl, hq, hu, hl, lon, by omega, fun H2 v s2 hv => ?_⟩
        have eo : outD (runD T g n cs d zs).1.1 (runD T g n cs d zs).1.2 = some (.tuple [.str "", .tuple ((runD T g n cs d zs).1.1 ++ (runD T g n cs d zs).1.2.toList)]) := by
          unfold outD
          rw [← ee, ei, if_neg Bool.false_ne_true]
        rw [eo] at hv fin2
        refine ⟨(by show 1 ≤ sizeLine; decide), fun q1 n1 => ⟨Nat.zero_le _, fun q2 n2 => ?_⟩⟩
        have s3 := same_upd (o := .lst [v]) n1
        have s4 := same_upd (o := .lst []) n2
        have s34 := s3.trans s4
        have s24 := s2.trans s34
        exact fin2 _ q1 q2 [v] [] (kw.trans (KeepW.of s24)) (tabs_same tb s24) (num_same nu s24) (s4 _ _ upd_same) (.cons (dp_same s34 hv) .nil) upd_same (fun z => rfl) (Nat.zero_le _) (fun z => OldN.none (s2.free n1) (kw.old z)) (fun z => OldN.none (s2.free (s3.free n2)) (kw.old z))
      | true =>
        rw [ei, if_pos rfl] at fin2
        refine iteF ⟨Nat.zero_le _, fun q1 n1 => ?_⟩
        have s1 := same_upd (o := .lst []) n1
        have h1 := upd_same (H := H1) (a := q1) (o := .lst [])
        generalize upd H1 q1 (.lst []) = H2 at s1 h1 ⊢
        refine ⟨_, rfl, rfl, ?_⟩
        cases el : (runD T g n cs d zs).1.2 with
        | none =>
          rw [el] at hl fin2
          obtain rfl : lv = .non := hl
          refine ⟨_, rfl, iteT ⟨Nat.zero_le _, fun q2 n2 => ?_⟩⟩
          have s2 := same_upd (o := .lst []) n2
          have s12 := s1.trans s2
          exact fin2 _ q1 q2 [] [] (kw.trans (KeepW.of s12)) (tabs_same tb s12) (num_same nu s12) (s2 _ _ h1) .nil upd_same (fun z => rfl) (Nat.zero_le _) (fun z => OldN.none n1 (kw.old z)) (fun z => OldN.none (s1.free n2) (kw.old z))
        | some e =>
          obtain ⟨te, ne⟩ := rr.left e el
          rw [el] at hl fin2
          have hl : Dp K H1 lv e := hl
          have vn : lv ≠ .non := fun z => by
            subst z
            cases hl
            cases te
          rw [decide_eq_false vn]
          refine ⟨_, rfl, iteF ⟨_, rfl, lv, e, nms ls, rfl, dp_same s1 hl, te.good, nst, by omega, by omega, fun H3 q2 ks s3 n3 h3 ko sub => ?_⟩⟩
          have s13 := s1.trans s3
          refine fin2 _ q1 q2 [] ks (kw.trans (KeepW.of s13)) (tabs_same tb s13) (num_same nu s13) (s3 _ _ h1) .nil h3 (fun z => ?_) (Nat.le_trans (kinds_few ko sub) few) (fun z => OldN.none n1 (kw.old z)) (fun z => OldN.none (s1.free n3) (kw.old z))
          exact congrFun (memB_of ko.memL) z
end
end K1

namespace K1
open PySem PySem.Spec PyProof.Rows L2 Own LamX
/-! ### _run_guard -/
theorem go_snoc {T : Tb} {f : Int} {rg : RG} {d a : PyData} {tk : List Str} : ∀ (fs : List (PyData × List Str)) (zs : List Str), goF T f rg d (fs ++ [(a, tk)]) zs =
    (((goF T f rg d fs zs).1.1 ++ (actO T f rg a (cutB (memB tk) d) (goF T f rg d fs zs).2).1.1, fun z => (goF T f rg d fs zs).1.2 z || (actO T f rg a (cutB (memB tk) d) (goF T f rg d fs zs).2).1.2 z), (actO T f rg a (cutB (memB tk) d) (goF T f rg d fs zs).2).2)
  | [], zs => by
    show (((actO T f rg a (cutB (memB tk) d) zs).1.1 ++ [], fun z => (actO T f rg a (cutB (memB tk) d) zs).1.2 z || noneB z), (actO T f rg a (cutB (memB tk) d) zs).2) = (([] ++ (actO T f rg a (cutB (memB tk) d) zs).1.1, fun z => noneB z || (actO T f rg a (cutB (memB tk) d) zs).1.2 z), _)
    rw [List.append_nil, List.nil_append]
    congr 2
    funext z
    show (_ || false) = (false || _)
    rw [Bool.or_false, Bool.false_or]
  | (b, tb) :: r, zs => by
    rw [List.cons_append, goF, go_snoc r, goF]
    congr 2
    · rw [List.append_assoc]
    · funext z
      rw [Bool.or_assoc]
theorem KeepW.own {W W' : Addr → Prop} {H H3 J : Hp} (k : KeepW W H3 J) (s : Same H H3) (i : ∀ b, W b → W' b ∨ H b = none) : KeepW W' H J :=
  ⟨fun b o e n w => k.all b o (s b o e) n (w.imp (fun nw z => (i b z).elim nw fun q => by rw [q] at e; cases e) id), fun b xs e => k.lists b xs (s b _ e)⟩
theorem KeepW.updL {W : Addr → Prop} {H : Hp} {p : Addr} {xs ys : List V} (w : W p) (e : H p = some (.lst xs)) : KeepW W H (upd H p (.lst ys)) :=
  ⟨fun b o eb _ k => by
    by_cases c : b = p
    · subst c
      rw [e] at eb
      cases eb
      rcases k with k | k
      · exact absurd w k
      · exact absurd rfl (k xs)
    · rw [upd_ne c]
      exact eb, fun b zs eb => by
    by_cases c : b = p
    · subst c
      exact ⟨ys, upd_same⟩
    · exact ⟨zs, by rw [upd_ne c]; exact eb⟩⟩
theorem q_joinB {t : TS} {D : Ends} {σ : L2.St} {H : Hp} (R : L2.St → Hp → Prop) (done : ∀ σ' H', R σ' H' → D.nx σ' H') (h : ∀ N : L2.St → Hp → Prop, (∀ σ' H', R σ' H' → N σ' H') → t { D with nx := N } σ H) : t D σ H := h D.nx done
theorem q_nxsB {t u : TS} {D : Ends} {r b c} {σ : L2.St} {H : Hp} (h : t { D with nx := u D } σ H) : Ends.nx ⟨tSeq t u D, r, b, c⟩ σ H := h
theorem paired_getB {α β : Type} {R : α → β → Prop} {xs : List α} {ys : List β} (h : Paired R xs ys) : ∀ {i : Nat} {x : α}, xs[i]? = some x → ∃ y, ys[i]? = some y ∧ R x y := by
  induction h with
  | nil => intro i x e; simp at e
  | cons a b ih =>
    intro i x e
    cases i with
    | zero =>
      have e := Option.some.inj e
      rw [← e]
      exact ⟨_, rfl, a⟩
    | succ i => exact ih (i := i) (by simpa using e)
theorem sumA_take (fs : List (PyData × List Str)) {i : Nat} {x : PyData × List Str} (h : fs[i]? = some x) : sumA (fs.take i) + ndD x.1 ≤ sumA fs := by
  obtain ⟨hi, e⟩ := List.getElem?_eq_some_iff.mp h
  have q := sumA_app (fs.take i) (fs.drop i)
  rw [List.take_append_drop] at q
  rw [List.drop_eq_getElem_cons hi, e] at q
  have r : sumA (x :: fs.drop (i + 1)) = ndD x.1 + sumA (fs.drop (i + 1)) := rfl
  omega
theorem flat_trees {ns : List Str} {ds : List PyData} (h : ∀ d ∈ ds, TreeK ns d) : noListAll ds = true := noListAll_of fun d hd => (h d hd).flat
section
variable {P : Program} {w : World} {K : PySem.W.Frag} {mg : Str → Option Value} {base : Heap}
abbrev nRunGuard : List Str := ["kinds", "guard", "tree", "numbers", "firing", "left", "raised", "action", "taken", "more", "back"]
theorem scRunGuard : FnScope nRunGuard ["kinds", "guard", "tree", "numbers"] (defScope sRunGuard) := ⟨rfl, rfl, rfl, by decide +kernel, rfl, by decide +kernel, by decide +kernel⟩
theorem ok_runGuard {C C2 f fI fF fL fC fA : Addr} {fd dI dF dL dC dA : FuncData} {TT : List (Addr × Str)} {n j : Nat} (hj : 5 ≤ j) (F : Fun K "_run_guard" "_run_guard" sRunGuard f fd)
    (GI : FnOk P w K mg base CX0 3 fI dI ["tree"] (spKindsIn K)) (kI : PySem.W.keepIn K (.ref fI) = true) (bI : Binds K dI ["tree"] []) (mI : mg "kinds_in" = some (.ref fI))
    (GF : FnOk P w K mg base CX0 5 fF dF ["kinds", "guard", "present"] (spFiring C K)) (kF : PySem.W.keepIn K (.ref fF) = true) (bF : Binds K dF ["kinds", "guard", "present"] []) (mF : mg "_firing" = some (.ref fF))
    (GL : FnOk P w K mg base CX0 1 fL dL ["tree"] (spTmLeaf K)) (kL : PySem.W.keepIn K (.ref fL) = true) (bL : Binds K dL ["tree"] []) (mL : mg "is_leaf" = some (.ref fL))
    (GC : FnG P w K mg base 5 fC dC ["tree", "wanted"] (spTmCut TT K)) (kC : PySem.W.keepIn K (.ref fC) = true) (bC : Binds K dC ["tree", "wanted"] []) (mC : mg "cut" = some (.ref fC))
    (GA : FnG P w K mg base j fA dA ["kinds", "action", "tree", "numbers"] (spAct C C2 TT K n)) (kA : PySem.W.keepIn K (.ref fA) = true) (bA : Binds K dA ["kinds", "action", "tree", "numbers"] []) (mA : mg "_act" = some (.ref fA)) :
    FnG P w K mg base (j + 1) f fd ["kinds", "guard", "tree", "numbers"] (spRunGuard C C2 TT K (n + 1)) := by
  refine okG F scRunGuard (fun vs H Q E h => ?_) (fun cdv A out s H vs Q E hc hr h => ?_)
  · obtain ⟨x, vg, vt, y, ls, ls', T, B, l, g, zs, cs, d, rfl, _⟩ := h
    rfl
  · obtain ⟨x, vg, vt, y, ls, ls', T, B, l, g, zs, cs, d, rfl, kb, tabs, nst, few, hg, gk, hd, td, big, num, bz, k⟩ := h
    have hr1 : Room 1 _ := hr.mono (by omega)
    have hr3 : Room 3 _ := hr.mono (by omega)
    have hr5 : Room 5 _ := hr.mono (by omega)
    refine ⟨_, pss_cons (ps_asg (pe_call GF hr5 (by rfl) mF kF bF .nil pass0 (pa_cons (pv 0) (pa_cons (pv 1) (pa_cons (pe_call GI hr3 (by rfl) mI kI bI .nil pass0 (pa_cons (pv 2) pa_nil)) pa_nil)))) (pg_tup rfl (pgs_cons (pg_name (i := 4) scRunGuard.nd rfl (Or.inl rfl)) (pgs_cons (pg_name (i := 5) scRunGuard.nd rfl (Or.inl rfl)) pgs_nil))))
      (pss_cons (ps_if (PW.pt (pw_and (pt_truth (pv 4) (by intro _; rfl)) (pw_and1 (pt_val (pe_call GL hr1 (by rfl) mL kL bL .nil pass0 (pa_cons (pv 2) pa_nil))))))
        (pss_one (ps_set (i := 2) scRunGuard.nd rfl (Or.inl rfl) (pe_tup (pa_cons pe_str (pa_cons (pe_tup (pa_cons (pv 2) pa_nil)) pa_nil)))))
        pss_nil)
      (pss_cons (ps_set (i := 6) scRunGuard.nd rfl (Or.inl rfl) (pe_lst pa_nil))
      (pss_cons (ps_for PassesOwn.never rfl (pi_list (pv 4)) (pg_tup rfl (pgs_cons (pg_name (i := 7) scRunGuard.nd rfl (Or.inl rfl)) (pgs_cons (pg_name (i := 8) scRunGuard.nd rfl (Or.inl rfl)) pgs_nil)))
        (pss_cons (ps_asg (pe_callG (E := fun _ _ _ => False) GA hc hr (by rfl) mA kA bA (pa_cons (pv 0) (pa_cons (pv 7) (pa_cons (pe_callG (E := fun _ _ _ => False) GC hc hr5 (by rfl) mC kC bC (pa_cons (pv 2) (pa_cons (pv 8) pa_nil))) (pa_cons (pv 3) pa_nil))))) (pg_tup rfl (pgs_cons (pg_name (i := 9) scRunGuard.nd rfl (Or.inl rfl)) (pgs_cons (pg_name (i := 10) scRunGuard.nd rfl (Or.inl rfl)) pgs_nil))))
        (pss_cons (ps_expr (pe_bm PySem.F.plainAttrs_list PySem.F.slot_list_extend PySem.F.type_list_extend mt_extS (pv 6) (pa_cons (pv 9) pa_nil)))
        (pss_one (ps_expr (pe_bm PySem.F.plainAttrs_list PySem.F.slot_list_extend PySem.F.type_list_extend mt_extS (pv 5) (pa_cons (pv 10) pa_nil)))))))
      (pss_one (ps_ret (pe_tup (pa_cons (pv 6) (pa_cons (pe_callG (E := fun _ _ _ => False) GC hc hr5 (by rfl) mC kC bC (pa_cons (pv 2) (pa_cons (pv 5) pa_nil))) pa_nil)))))))), ?_⟩
    refine ⟨_, rfl, _, rfl, _, rfl, vt, d, nms ls, rfl, hd, td.good, nst, by omega, by omega, fun H1 p ks s1 np hp ko sub => ?_⟩
    have lk := Nat.le_trans (kinds_few ko sub) few
    refine ⟨x, vg, p, ls, ls', T, cs, ks, rfl, kb.kinH.same s1, dp_same s1 hg, gk.ok, hp, sub, by omega, fun H2 t q1 q2 us s2 ht hq1 hq2 pf nq1 po q21 => ?_⟩
    refine ⟨t, _, rfl, SqT.of ht, rfl, _, _, rfl, _, _, rfl, rfl, ?_⟩
    obtain ⟨fsame, fleft⟩ := fire_same T cs ks (kindsL d) ko.memL
    have fo := fire_ok T cs ks
    have acts := acts_of (T := T) (pres := ks) gk
    have efs : (fireD T cs ks).1.isEmpty = (fireD T cs (kindsL d)).1.isEmpty := paired_empty fsame
    generalize elf : (fireD T cs ks).2 = left0 at hq2 fleft fo
    generalize efi : (fireD T cs ks).1 = fs at pf fsame fo acts efs
    have fact : ∀ x ∈ fs, ActK (nms ls) (GuardK (nms ls) n) x.1 := acts
    have fact0 : ∀ x ∈ fs, (∃ c ∈ cs, c.2 = x.1) ∧ x.2 ≠ [] ∧ ∀ z ∈ x.2, z ∈ ks := by have := fo.act; rw [efi] at this; exact this
    have flen : fs.length ≤ cs.length := by have := fo.len; rw [efi] at this; exact this
    have fsum : sumA fs ≤ ndAll (cs.map encC) := by have := fo.sum; rw [efi] at this; exact this
    have llen : left0.length ≤ 60 := by have := fo.few; rw [elf] at this; omega
    have cl : cs.length ≤ 1000 := gk.1
    have s12 := s1.trans s2
    obtain ⟨tw, nw, kw_⟩ := wrap_tree (b := !fs.isEmpty) td
    have lus : us.length = fs.length := paired_len pf
    have eus : us.isEmpty = fs.isEmpty := paired_empty pf
    -- a bare leaf is wrapped
    refine q_nxsB ?_
    refine q_joinB (R := fun σ' J => ∃ v2, σ' = [some (.ref x), some vg, some v2, some (.ref y), some (.ref q1), some (.ref q2), none, none, none, none, none] ∧ Same H2 J ∧ Dp K J v2 (wrapD (!fs.isEmpty) d)) ?_ ?_
    · rintro σ' J0 ⟨v2, rfl, sJ, hw⟩
      refine ⟨Nat.zero_le _, fun r nr => ?_⟩
      have s3 := same_upd (o := .lst []) nr
      have hr3_ := upd_same (H := J0) (a := r) (o := .lst [])
      have nr2 : H2 r = none := sJ.free nr
      generalize upd J0 r (.lst []) = H3 at s3 hr3_ ⊢
      have s23 := sJ.trans s3
      have s13 := s12.trans s23
      have nrH : H r = none := s12.free nr2
      have hwa := dp_same s3 hw
      have q1H : H q1 = none := s1.free nq1
      have q2H : H q2 = none := by
        rcases po with z | z
        · rw [z]; exact np
        · exact s1.free z
      obtain ⟨dxn, hy0, hl0⟩ := num
      have num : NumAt C2 H y l g zs := ⟨dxn, hy0, hl0⟩
      have nl : ∀ {b : Addr}, H b = none → b ≠ l := fun e z => by rw [z, hl0] at e; cases e
      have rq1 : q1 ≠ r := ne_of_none hq1 nr2
      have rq2 : q2 ≠ r := ne_of_none hq2 nr2
      have hq1' := s23 _ _ hq1
      have hq2' := s23 _ _ hq2
      -- what is kept from the start on
      have keepH : ∀ {J : Hp}, KeepW (fun b => b = l ∨ b = q2 ∨ b = r) H3 J → KeepW (fun b => b = l) H J := fun kj => kj.own s13 fun b hb => by
        rcases hb with z | z | z
        · exact .inl z
        · rw [z]; exact .inr q2H
        · rw [z]; exact .inr nrH
      refine ⟨_, rfl, q1, rfl, ⟨_, SqL.of hq1'⟩, ?_⟩
      refine for_list (K := K) (a := q1) (xs := us) (fun i σ J => ∃ v7 v8 v9 v10 rs lf, σ = [some (.ref x), some vg, some v2, some (.ref y), some (.ref q1), some (.ref q2), some (.ref r), v7, v8, v9, v10] ∧ KeepW (fun b => b = l ∨ b = q2 ∨ b = r) H3 J ∧ Tabs TT J ∧
          NumAt C2 J y l g (goF T g (runD T g n) (wrapD (!fs.isEmpty) d) (fs.take i) zs).2 ∧ J r = some (.lst rs) ∧ DpAll K J rs (goF T g (runD T g n) (wrapD (!fs.isEmpty) d) (fs.take i) zs).1.1 ∧ J q2 = some (.lst (lf.map V.str)) ∧
          (∀ z, memB lf z = (memB left0 z || (goF T g (runD T g n) (wrapD (!fs.isEmpty) d) (fs.take i) zs).1.2 z)) ∧ lf.length ≤ 60 + 60 * i)
        ⟨none, none, none, none, [], left0, rfl, KeepW.refl _ _, tabs_same tabs s13, num_same num s13, hr3_, .nil, hq2', fun z => (Bool.or_false _).symm, by omega⟩
        (fun i σ J hi ⟨_, _, _, _, _, _, _, kj, _⟩ => SqL.of (kj.lst hq1' (fun z => by
          rcases z with z | z | z
          · exact nl q1H z
          · exact q21 z.symm
          · exact rq1 z))) ?_ ?_
      · rintro i u σ J hu ⟨v7, v8, v9, v10, rs, lf, rfl, kj, tb, nu, hr_, hrs, hl_, ml, ll⟩
        obtain ⟨⟨act, tk⟩, hx0, t0, b, va, rfl, hst, hva, hb, bq1, bq2, nb⟩ := paired_getB pf hu
        have hb : H2 b = some (.lst (tk.map V.str)) := hb
        have hva : Dp K H1 va act := hva
        have hi : i < fs.length := (List.getElem?_eq_some_iff.mp hx0).1
        have xm : (act, tk) ∈ fs := List.mem_of_getElem? hx0
        have sk : StayT H2 J := (StayT.of (Stay.of s23)).trans kj.stay
        have hstJ := sk t0 (.tup [va, .ref b]) (fun _ z => nomatch z) (fun _ z => nomatch z) hst
        refine ⟨t0, _, rfl, SqT.of hstJ, rfl, _, _, rfl, _, _, rfl, rfl, ?_⟩
        have br : b ≠ r := ne_of_none hb nr2
        have nbH : H b = none := s1.free nb
        have hbJ : J b = some (.lst (tk.map V.str)) := kj.lst (s23 _ _ hb) fun z => by
          rcases z with z | z | z
          · exact nl nbH z
          · exact bq2 z
          · exact br z
        have hwJ := dp_stayT kj.stay hwa tw.flat
        refine ⟨_, rfl, _, rfl, _, rfl, _, rfl, v2, wrapD (!fs.isEmpty) d, b, tk, rfl, tb, hwJ, tw.goodC nst, by omega, .inl (SqL.of hbJ), fun J1 yv k1 tb1 hy => ?_⟩
        rw [reb_cut _ _ (Nat.le_refl _) (tw.goodC nst), cut_cutB tw] at hy
        obtain ⟨_, tkn, tks⟩ := fact0 _ xm
        have tkn : tk ≠ [] := tkn
        have tks : ∀ z ∈ tk, z ∈ ks := tks
        obtain ⟨e, he⟩ : ∃ e, cutB (memB tk) (wrapD (!fs.isEmpty) d) = some e := by
          cases tk with
          | nil => exact absurd rfl tkn
          | cons z r =>
            refine cutB_some tw (z := z) ?_ (decide_eq_true (List.mem_cons_self ..))
            rw [kw_]
            exact (ko.memL z).mp (tks z (List.mem_cons_self ..))
        rw [he] at hy
        have hy : Dp K J1 yv e := hy
        have pt := (cutB_part tw).1 e he
        have gr := go_res (T := T) (f := g) (rg := runD T g n) (run_res n) tw (fs.take i) zs fun x hx => fact x (List.mem_of_mem_take hx)
        have stake := sumA_take fs hx0
        have stake : sumA (fs.take i) + ndD act ≤ sumA fs := stake
        obtain ⟨gtr, m, em, lm, im⟩ := gr
        have zlen : (goF T g (runD T g n) (wrapD (!fs.isEmpty) d) (fs.take i) zs).2.length = zs.length + m.length := by rw [em, List.length_append]
        have kjH := keepH kj
        have kb1 := (kb.keep kjH).keep (k1.weak (W' := fun b => b = l) fun _ z => z.elim)
        have hva1 := dp_stayT (((StayT.of (Stay.of s2)).trans sk).trans k1.stay) hva (fact _ xm).1
        have nu1 := num_keep nu k1 id
        refine ⟨_, rfl, x, va, yv, y, ls, ls', T, B, l, g, _, act, e, rfl, kb1, tb1, nst, few, hva1, fact _ xm, hy, pt.tree, by have := pt.nd; omega, nu1, by omega, fun J2 t2 b1 b2 us2 bs k2 tb2 nu2 ht2 h1 hu2 h2 mb lb o1 o2 => ?_⟩
        refine ⟨t2, _, rfl, SqT.of ht2, rfl, _, _, rfl, _, _, rfl, rfl, ?_⟩
        have rl : r ≠ l := nl nrH
        have q2l : q2 ≠ l := nl q2H
        have hr1_ : J1 r = some (.lst rs) := k1.lst hr_ id
        have hr2_ : J2 r = some (.lst rs) := k2.lst hr1_ rl
        have hl2_ : J2 q2 = some (.lst (lf.map V.str)) := k2.lst (k1.lst hl_ id) q2l
        have b2r : b2 ≠ r := fun z => o2 (by rw [z]; exact ⟨_, hr1_, fun _ z => nomatch z⟩)
        have lrs := dpAll_len hrs
        have lus2 := dpAll_len hu2
        have f1 := go_few (T := T) (f := g) (rg := runD T g n) (d := wrapD (!fs.isEmpty) d) (fs.take i) zs
        have f2 := act_few (T := T) (f := g) (rg := runD T g n) (a := act) (o := some e) (zs := (goF T g (runD T g n) (wrapD (!fs.isEmpty) d) (fs.take i) zs).2)
        have f2 : (actD T g (runD T g n) act e (goF T g (runD T g n) (wrapD (!fs.isEmpty) d) (fs.take i) zs).2).1.1.length ≤ 1 := f2
        rw [List.length_take] at f1
        refine ⟨_, rfl, .inl ⟨rfl, _, SqL.of hr2_⟩, _, rfl, r, b1, rs, us2, rfl, rfl, hr2_, .inl (SqL.of h1), by rw [sizeLine_eq]; omega, ?_⟩
        have none_ : ∀ p, ¬ OldN (fun _ => none) p := fun p ⟨_, z, _⟩ => nomatch z
        have kr := KeepW.updL (W := fun b => b = r) (ys := rs ++ us2) rfl hr2_
        have tb3 := tabs_mine (H0 := fun _ => none) tb2 (Mine.upd (o := .lst (rs ++ us2)) (none_ r) hr2_)
        have hr3_ := upd_same (H := J2) (a := r) (o := .lst (rs ++ us2))
        have hl3_ : upd J2 r (.lst (rs ++ us2)) q2 = some (.lst (lf.map V.str)) := kr.lst hl2_ rq2
        have h23 : upd J2 r (.lst (rs ++ us2)) b2 = some (.lst (bs.map V.str)) := kr.lst h2 b2r
        generalize upd J2 r (.lst (rs ++ us2)) = J3 at kr tb3 hr3_ hl3_ h23 ⊢
        refine ⟨_, rfl, .inl ⟨rfl, _, SqL.of hl3_⟩, _, rfl, q2, b2, lf.map V.str, bs.map V.str, rfl, rfl, hl3_, .inl (SqL.of h23), by rw [sizeLine_eq, List.length_map, List.length_map]; omega, ?_⟩
        have kq := KeepW.updL (W := fun b => b = q2) (ys := lf.map V.str ++ bs.map V.str) rfl hl3_
        have tb4 := tabs_mine (H0 := fun _ => none) tb3 (Mine.upd (o := .lst (lf.map V.str ++ bs.map V.str)) (none_ q2) hl3_)
        have hr4_ : upd J3 q2 (.lst (lf.map V.str ++ bs.map V.str)) r = some (.lst (rs ++ us2)) := kq.lst hr3_ rq2.symm
        have hl4_ := upd_same (H := J3) (a := q2) (o := .lst (lf.map V.str ++ bs.map V.str))
        generalize upd J3 q2 (.lst (lf.map V.str ++ bs.map V.str)) = J4 at kq tb4 hr4_ hl4_ ⊢
        have k24 : StayT J2 J4 := kr.stay.trans kq.stay
        have etk : fs.take (i + 1) = fs.take i ++ [(act, tk)] := by
          rw [List.take_add_one, hx0]
          rfl
        have ar := act_res (T := T) (f := g) (rg := runD T g n) (run_res n) (fact _ xm) pt.tree (goF T g (runD T g n) (wrapD (!fs.isEmpty) d) (fs.take i) zs).2
        rw [etk, go_snoc, he]
        refine ⟨_, _, _, _, rs ++ us2, lf ++ bs, rfl, ?_, tb4, num_keep (num_keep nu2 kr rl.symm) kq q2l.symm, hr4_, ?_, by rw [List.map_append]; exact hl4_, fun z => ?_, by rw [List.length_append]; omega⟩
        · exact (((kj.trans (k1.weak fun _ z => z.elim)).trans (k2.weak fun _ z => .inl z)).trans (kr.weak fun _ z => .inr (.inr z))).trans (kq.weak fun _ z => .inr (.inl z))
        · exact dpAll_app (dpAll_stayT ((k1.stay.trans k2.stay).trans k24) hrs (flat_trees gtr)) (dpAll_stayT k24 hu2 (flat_trees ar.trees))
        · show memB (lf ++ bs) z = (memB left0 z || ((goF T g (runD T g n) (wrapD (!fs.isEmpty) d) (fs.take i) zs).1.2 z || (actD T g (runD T g n) act e (goF T g (runD T g n) (wrapD (!fs.isEmpty) d) (fs.take i) zs).2).1.2 z))
          rw [← Bool.or_assoc, ← ml z, ← mb z]
          unfold memB
          rw [Bool.eq_iff_iff, Bool.or_eq_true, decide_eq_true_iff, decide_eq_true_iff, decide_eq_true_iff, List.mem_append]
      · rintro σ J ⟨v7, v8, v9, v10, rs, lf, rfl, kj, tb, nu, hr_, hrs, hl_, ml, ll⟩
        rw [lus, List.take_of_length_le (Nat.le_refl _)] at nu hrs ml
        have hwJ := dp_stayT kj.stay hwa tw.flat
        have run : runD T g (n + 1) cs d zs = (((goF T g (runD T g n) (wrapD (!fs.isEmpty) d) fs zs).1.1, cutB (fun z => memB left0 z || (goF T g (runD T g n) (wrapD (!fs.isEmpty) d) fs zs).1.2 z) (wrapD (!fs.isEmpty) d)), (goF T g (runD T g n) (wrapD (!fs.isEmpty) d) fs zs).2) := by
          show (((goF T g (runD T g n) (wrapD (!(fireD T cs (kindsL d)).1.isEmpty) d) (fireD T cs (kindsL d)).1 zs).1.1, cutB (fun z => memB (fireD T cs (kindsL d)).2 z || (goF T g (runD T g n) (wrapD (!(fireD T cs (kindsL d)).1.isEmpty) d) (fireD T cs (kindsL d)).1 zs).1.2 z) (wrapD (!(fireD T cs (kindsL d)).1.isEmpty) d)), (goF T g (runD T g n) (wrapD (!(fireD T cs (kindsL d)).1.isEmpty) d) (fireD T cs (kindsL d)).1 zs).2) = _
          rw [← efs, ← go_same fsame, ← memB_of fleft]
        rw [run] at k
        have gtr := (go_res (T := T) (f := g) (rg := runD T g n) (run_res n) tw fs zs fact).trees
        refine ⟨_, rfl, _, rfl, _, rfl, v2, wrapD (!fs.isEmpty) d, q2, lf, rfl, tb, hwJ, tw.goodC nst, by omega, .inl (SqL.of hl_), fun J1 yv k1 tb1 hy => ⟨(by show 2 ≤ sizeLine; decide), fun t3 nt3 => ?_⟩⟩
        rw [reb_cut _ _ (Nat.le_refl _) (tw.goodC nst), cut_cutB tw, show memB lf = (fun z => memB left0 z || (goF T g (runD T g n) (wrapD (!fs.isEmpty) d) fs zs).1.2 z) from funext ml] at hy
        have s5 := same_upd (o := .tup [.ref r, yv]) nt3
        have lrs := dpAll_len hrs
        have f1 := go_few (T := T) (f := g) (rg := runD T g n) (d := wrapD (!fs.isEmpty) d) fs zs
        refine k _ t3 r rs yv (((keepH kj).trans (k1.weak fun _ z => z.elim)).trans (KeepW.of s5)) (tabs_same tb1 s5) (num_same (num_keep nu k1 id) s5) upd_same (s5 _ _ (k1.lst hr_ id)) (dpAll_same s5 (dpAll_stayT k1.stay hrs (flat_trees gtr))) (optDp_same hy s5) (by omega) (OldN.none nrH)
    · intro N hN
      refine ⟨_, rfl, !us.isEmpty, .inl ⟨us, SqL.of hq1, rfl⟩, ?_⟩
      rw [eus]
      cases efe : fs.isEmpty with
      | true =>
        exact iteF (iteF (hN _ _ ⟨vt, rfl, Same.refl _, by rw [efe]; exact dp_same s12 hd⟩))
      | false =>
        refine iteT ?_
        cases td with
        | leaf z i hz =>
          refine ⟨_, rfl, vt, .str z, .int i, rfl, dp_same s12 hd, _, rfl, iteT ⟨_, rfl, (by show 1 ≤ sizeLine; decide), fun a na => ⟨(by show 2 ≤ sizeLine; decide), fun b nb => ?_⟩⟩⟩
          have s5 := same_upd (o := .tup [vt]) na
          have ha5 := upd_same (H := H2) (a := a) (o := .tup [vt])
          generalize upd H2 a (.tup [vt]) = H5 at s5 ha5 nb ⊢
          have s6 := same_upd (o := .tup [.str "", .ref a]) nb
          refine hN _ _ ⟨.ref b, rfl, s5.trans s6, ?_⟩
          rw [efe]
          show Dp K _ (.ref b) (.tuple [.str "", .tuple [.tuple [.str z, .int i]]])
          exact .tup (SqT.of upd_same) (.cons (.str _) (.cons (.tup (SqT.of (s6 _ _ ha5)) (.cons (dp_same ((s12.trans s5).trans s6) hd) .nil)) .nil))
        | group m cs' hm ne hcs =>
          exact ⟨_, rfl, vt, .str m, .tuple cs', rfl, dp_same s12 hd, _, rfl, iteF (hN _ _ ⟨vt, rfl, Same.refl _, by rw [efe]; exact dp_same s12 hd⟩)⟩
end
end K1

namespace K1
open PySem PySem.Spec PyProof.Rows L2 Own LamX
/-! ### guards of any depth; run_stack -/
section
variable {P : Program} {w : World} {K : PySem.W.Frag} {mg : Str → Option Value} {base : Heap}
theorem rg_none {C C2 f : Addr} {fd : FuncData} {TT : List (Addr × Str)} {k : Nat} : FnG P w K mg base k f fd ["kinds", "guard", "tree", "numbers"] (spRunGuard C C2 TT K 0) := by
  have no : ∀ vs H Q E, ¬ spRunGuard C C2 TT K 0 vs H Q E := fun vs H Q E ⟨x, vg, vt, y, ls, ls', T, B, l, g, zs, cs, d, _, _, _, _, _, _, gk, _⟩ => gk
  exact ⟨fun vs H Q E h => absurd h (no vs H Q E), fun A out s H args us vs Q E _ _ _ _ _ h => absurd h (no vs H Q E)⟩
theorem rg_all {C C2 fI fU fB fR fO fF fL fC fA : Addr} {dI dU dB dR dO dF dL dC dA : FuncData} {TT : List (Addr × Str)} (FR : Fun K "_run_guard" "_run_guard" sRunGuard fR dR) (FA : Fun K "_act" "_act" sAct fA dA)
    (GI : FnOk P w K mg base CX0 3 fI dI ["tree"] (spKindsIn K)) (kI : PySem.W.keepIn K (.ref fI) = true) (bI : Binds K dI ["tree"] []) (mI : mg "kinds_in" = some (.ref fI))
    (GU : FnOk P w K mg base CX0 4 fU dU ["kinds", "kind", "names"] (spIsUnder C K)) (kU : PySem.W.keepIn K (.ref fU) = true) (bU : Binds K dU ["kinds", "kind", "names"] []) (mU : mg "_is_under" = some (.ref fU))
    (GB : FnG P w K mg base 5 fB dB ["form", "tree", "numbers"] (spBuilt C2 TT K)) (kB : PySem.W.keepIn K (.ref fB) = true) (bB : Binds K dB ["form", "tree", "numbers"] []) (mB : mg "_built" = some (.ref fB))
    (bR : Binds K dR ["kinds", "guard", "tree", "numbers"] []) (mR : mg "_run_guard" = some (.ref fR))
    (GO : FnOk P w K mg base CX0 1 fO dO ["raised", "left"] (spOutcome K)) (kO : PySem.W.keepIn K (.ref fO) = true) (bO : Binds K dO ["raised", "left"] []) (mO : mg "_guard_outcome" = some (.ref fO))
    (GF : FnOk P w K mg base CX0 5 fF dF ["kinds", "guard", "present"] (spFiring C K)) (kF : PySem.W.keepIn K (.ref fF) = true) (bF : Binds K dF ["kinds", "guard", "present"] []) (mF : mg "_firing" = some (.ref fF))
    (GL : FnOk P w K mg base CX0 1 fL dL ["tree"] (spTmLeaf K)) (kL : PySem.W.keepIn K (.ref fL) = true) (bL : Binds K dL ["tree"] []) (mL : mg "is_leaf" = some (.ref fL))
    (GC : FnG P w K mg base 5 fC dC ["tree", "wanted"] (spTmCut TT K)) (kC : PySem.W.keepIn K (.ref fC) = true) (bC : Binds K dC ["tree", "wanted"] []) (mC : mg "cut" = some (.ref fC))
    (bA : Binds K dA ["kinds", "action", "tree", "numbers"] []) (mA : mg "_act" = some (.ref fA)) : ∀ n, FnG P w K mg base (5 + 2 * n) fR dR ["kinds", "guard", "tree", "numbers"] (spRunGuard C C2 TT K n)
  | 0 => rg_none
  | n + 1 => by
    have ih := rg_all FR FA GI kI bI mI GU kU bU mU GB kB bB mB bR mR GO kO bO mO GF kF bF mF GL kL bL mL GC kC bC mC bA mA n
    have ga := ok_act (n := n) (j := 5 + 2 * n) (by omega) FA GI kI bI mI GU kU bU mU GB kB bB mB ih FR.kp bR mR GO kO bO mO
    exact ok_runGuard (n := n) (j := 5 + 2 * n + 1) (by omega) FR GI kI bI mI GF kF bF mF GL kL bL mL GC kC bC mC ga FA.kp bA mA
end
def encG (cs : List Clause) : PyData := .tuple (cs.map encC)
/-- the outcome of each guard that gets something -/
def statD (T : Tb) (f : Int) (n : Nat) : List (List Clause) → PyData → List Str → List (Option PyData) × List Str
  | [], _, zs => ([], zs)
  | cs :: r, d, zs => match outD (runD T f n cs d zs).1.1 (runD T f n cs d zs).1.2 with
    | none => ([none], (runD T f n cs d zs).2)
    | some e => (some e :: (statD T f n r e (runD T f n cs d zs).2).1, (statD T f n r e (runD T f n cs d zs).2).2)
theorem stat_none {T : Tb} {f : Int} {n : Nat} {cs : List Clause} {r : List (List Clause)} {d : PyData} {zs : List Str} (h : outD (runD T f n cs d zs).1.1 (runD T f n cs d zs).1.2 = none) : statD T f n (cs :: r) d zs = ([none], (runD T f n cs d zs).2) := by
  rw [statD, h]
theorem stat_some {T : Tb} {f : Int} {n : Nat} {cs : List Clause} {r : List (List Clause)} {d e : PyData} {zs : List Str} (h : outD (runD T f n cs d zs).1.1 (runD T f n cs d zs).1.2 = some e) : statD T f n (cs :: r) d zs = (some e :: (statD T f n r e (runD T f n cs d zs).2).1, (statD T f n r e (runD T f n cs d zs).2).2) := by
  rw [statD, h]
/-- all that is met on the way is small -/
def SizeOk (T : Tb) (f : Int) (n : Nat) : List (List Clause) → PyData → List Str → Prop
  | [], _, _ => True
  | cs :: r, d, zs => ndD d ≤ 400000 ∧ zs.length + 2 * ndAll (cs.map encC) ≤ 800000 ∧ ∀ e, outD (runD T f n cs d zs).1.1 (runD T f n cs d zs).1.2 = some e → SizeOk T f n r e (runD T f n cs d zs).2
def spRunStack (C C2 : Addr) (TT : List (Addr × Str)) (K : PySem.W.Frag) (n : Nat) : Sp := fun vs H Q _ => ∃ x vg vt y ls ls' T B l f zs gs d, vs = [.ref x, vg, vt, .ref y] ∧ KB C B H l x ls ls' T ∧ Tabs TT H ∧ star ∉ nms ls ∧ (nms ls).length ≤ 60 ∧ Dp K H vg (.tuple (gs.map encG)) ∧ (∀ cs ∈ gs, GuardK (nms ls) n cs) ∧ gs.length ≤ 1000 ∧ Dp K H vt d ∧ TreeK (nms ls) d ∧ SizeOk T f n gs d zs ∧
  NumAt C2 H y l f zs ∧
  ∀ H' q us, KeepW (fun b => b = l) H H' → Tabs TT H' → NumAt C2 H' y l f (statD T f n gs d zs).2 → H' q = some (.lst us) → Paired (OptDp K H') us (some d :: (statD T f n gs d zs).1) → ¬ OldN H q → Q (.ref q) H'
theorem run_out {ns : List Str} {T : Tb} {f : Int} {n : Nat} {cs : List Clause} {d e : PyData} {zs : List Str} (hg : GuardK ns n cs) (td : TreeK ns d) (h : outD (runD T f n cs d zs).1.1 (runD T f n cs d zs).1.2 = some e) : TreeK ns e := by
  have rr := run_res (T := T) (f := f) n cs d zs hg td
  exact outD_tree rr.trees (fun y hy => (rr.left y hy).1) h
theorem tree_not {ns : List Str} {K : PySem.W.Frag} {H : Hp} {v : V} {d : PyData} (h : TreeK ns d) (hv : Dp K H v d) : v ≠ .non := fun z => by
  subst z
  cases hv
  cases h
theorem flatO_tree {ns : List Str} {o : Option PyData} (h : ∀ e, o = some e → TreeK ns e) : flatO o := by
  cases o with
  | none => exact trivial
  | some e => exact (h e rfl).flat
section
variable {P : Program} {w : World} {K : PySem.W.Frag} {mg : Str → Option Value} {base : Heap}
abbrev nRunStack : List Str := ["kinds", "stack", "tree", "numbers", "stations", "guard", "raised", "left"]
theorem scRunStack : FnScope nRunStack ["kinds", "stack", "tree", "numbers"] (defScope sRunStack) := ⟨rfl, rfl, rfl, by decide +kernel, rfl, by decide +kernel, by decide +kernel⟩
theorem ok_runStack {C C2 f fR fO : Addr} {fd dR dO : FuncData} {TT : List (Addr × Str)} {n j : Nat} (hj : 1 ≤ j) (F : Fun K "run_stack" "run_stack" sRunStack f fd)
    (GR : FnG P w K mg base j fR dR ["kinds", "guard", "tree", "numbers"] (spRunGuard C C2 TT K n)) (kR : PySem.W.keepIn K (.ref fR) = true) (bR : Binds K dR ["kinds", "guard", "tree", "numbers"] []) (mR : mg "_run_guard" = some (.ref fR))
    (GO : FnOk P w K mg base CX0 1 fO dO ["raised", "left"] (spOutcome K)) (kO : PySem.W.keepIn K (.ref fO) = true) (bO : Binds K dO ["raised", "left"] []) (mO : mg "_guard_outcome" = some (.ref fO)) :
    FnG P w K mg base (j + 1) f fd ["kinds", "stack", "tree", "numbers"] (spRunStack C C2 TT K n) := by
  refine okG F scRunStack (fun vs H Q E h => ?_) (fun cdv A out s H vs Q E hc hr h => ?_)
  · obtain ⟨x, vg, vt, y, ls, ls', T, B, l, g, zs, gs, d, rfl, _⟩ := h
    rfl
  · obtain ⟨x, vg, vt, y, ls, ls', T, B, l, g, zs, gs, d, rfl, kb, tabs, nst, few, hg, gk, lg, hd, td, so, num, k⟩ := h
    have hr1 : Room 1 _ := hr.mono hj
    refine ⟨_, pss_cons (ps_set (i := 4) scRunStack.nd rfl (Or.inl rfl) (pe_lst (pa_cons (pv 2) pa_nil)))
      (pss_cons (ps_for PassesOwn.never rfl (pi_tup (pv 1)) (pg_name (i := 5) scRunStack.nd rfl (Or.inl rfl))
        (pss_one (ps_if (pt_cmpR op_notN (pe_ix ix_list (pv 4) pe_negB (fun _ _ => rfl)) pe_non (nomark _))
          (pss_cons (ps_asg (pe_callG (E := fun _ _ _ => False) GR hc hr (by rfl) mR kR bR (pa_cons (pv 0) (pa_cons (pv 5) (pa_cons (pe_ix ix_list (pv 4) pe_negB (fun _ _ => rfl)) (pa_cons (pv 3) pa_nil))))) (pg_tup rfl (pgs_cons (pg_name (i := 6) scRunStack.nd rfl (Or.inl rfl)) (pgs_cons (pg_name (i := 7) scRunStack.nd rfl (Or.inl rfl)) pgs_nil))))
          (pss_one (ps_expr (pe_bm PySem.F.plainAttrs_list PySem.F.slot_list_append PySem.F.type_list_append mt_append (pv 4) (pa_cons (pe_call GO hr1 (by rfl) mO kO bO .nil pass0 (pa_cons (pv 6) (pa_cons (pv 7) pa_nil))) pa_nil)))))
          pss_nil)))
      (pss_one (ps_ret (pv 4)))), ?_⟩
    refine ⟨_, rfl, (by show 1 ≤ sizeLine; decide), fun p np => ?_⟩
    have s1 := same_upd (o := .lst [vt]) np
    have hp1 := upd_same (H := H) (a := p) (o := .lst [vt])
    generalize upd H p (.lst [vt]) = H1 at s1 hp1 ⊢
    have pl : p ≠ l := fun z => by
      obtain ⟨_, _, h2⟩ := num
      rw [z, h2] at np
      cases np
    obtain ⟨a, xs, rfl, hs, ha⟩ : ∃ a xs, vg = .ref a ∧ SqT K H a xs ∧ DpAll K H xs (gs.map encG) := by
      cases hg with
      | tup hs ha => exact ⟨_, _, rfl, hs, ha⟩
    have lx := dpAll_len ha
    rw [List.length_map] at lx
    have fl : noListAll (gs.map encG) = true := noListAll_of fun e he => by
      obtain ⟨cs, hcs, rfl⟩ := List.mem_map.mp he
      have ok := (gk cs hcs).ok
      exact noListAll_of fun c hc => by
        obtain ⟨⟨ws, act⟩, hcc, rfl⟩ := List.mem_map.mp hc
        show ((noListAll (ws.map PyData.str)) && (noList act && true)) = true
        rw [(ok.2 _ hcc).2, noListAll_of fun e he => by
          obtain ⟨z, _, rfl⟩ := List.mem_map.mp he
          rfl]
        rfl
    have keepH : ∀ {J : Hp}, KeepW (fun b => b = l ∨ b = p) H1 J → KeepW (fun b => b = l) H J := fun kj => kj.own s1 fun b hb => by
      rcases hb with z | z
      · exact .inl z
      · rw [z]; exact .inr np
    refine ⟨_, rfl, a, rfl, ⟨_, Same.tup s1 hs⟩, ?_⟩
    refine for_tup (K := K) (a := a) (xs := xs) (fun i σ J => ∃ v5 v6 v7 rs v dn o zi, σ = [some (.ref x), some (.ref a), some vt, some (.ref y), some (.ref p), v5, v6, v7] ∧ KeepW (fun b => b = l ∨ b = p) H1 J ∧ Tabs TT J ∧ NumAt C2 J y l g zi ∧ J p = some (.lst (rs ++ [v])) ∧ Paired (OptDp K J) rs dn ∧ OptDp K J v o ∧ (∀ e ∈ dn, ∀ y, e = some y → TreeK (nms ls) y) ∧ rs.length ≤ i ∧
        ((o = none ∧ some d :: (statD T g n gs d zs).1 = dn ++ [none] ∧ zi = (statD T g n gs d zs).2) ∨ ∃ e, o = some e ∧ TreeK (nms ls) e ∧ SizeOk T g n (gs.drop i) e zi ∧ some d :: (statD T g n gs d zs).1 = dn ++ some e :: (statD T g n (gs.drop i) e zi).1 ∧ (statD T g n gs d zs).2 = (statD T g n (gs.drop i) e zi).2))
      ⟨none, none, none, [], vt, [], some d, zs, rfl, KeepW.refl _ _, tabs_same tabs s1, num_same num s1, hp1, .nil, dp_same s1 hd, (fun e h => nomatch h), Nat.zero_le _, .inr ⟨d, rfl, td, so, rfl, rfl⟩⟩
      (fun i σ J hi ⟨_, _, _, _, _, _, _, _, _, kj, _⟩ => sqT_stayT kj.stay (Same.tup s1 hs)) ?_ ?_
    · rintro i u σ J hu ⟨v5, v6, v7, rs, v, dn, o, zi, rfl, kj, tb, nu, hp, hrs, hv, tdn, lr, alt⟩
      obtain ⟨e0, he0, hud⟩ := dpAll_at ha hu
      rw [List.getElem?_map] at he0
      obtain ⟨cs, hcs, rfl⟩ := Option.map_eq_some_iff.mp he0
      have csm : cs ∈ gs := List.mem_of_getElem? hcs
      have hi : i < gs.length := (List.getElem?_eq_some_iff.mp hcs).1
      have dropE : gs.drop i = cs :: gs.drop (i + 1) := by
        rw [List.drop_eq_getElem_cons hi]
        congr 1
        have := List.getElem?_eq_getElem hi
        rw [hcs] at this
        exact (Option.some.inj this).symm
      refine ⟨_, rfl, p, _, -1, v, rfl, rfl, SqL.of hp, atI_last, rfl, _, rfl, ?_⟩
      rcases alt with ⟨rfl, eall, ez⟩ | ⟨e, rfl, te, soe, eall, ez⟩
      · obtain rfl : v = .non := hv
        exact iteF ⟨_, _, _, rs, .non, dn, none, zi, rfl, kj, tb, nu, hp, hrs, rfl, tdn, by omega, .inl ⟨rfl, eall, ez⟩⟩
      · have hv : Dp K J v e := hv
        have vn := tree_not te hv
        rw [decide_eq_false vn]
        rw [dropE] at soe eall ez
        obtain ⟨bige, bz, sonext⟩ := soe
        have kjH := keepH kj
        have hgJ : Dp K J u (.tuple (cs.map encC)) := dp_stayT kjH.stay hud (noListAll_mem fl _ (List.mem_map.mpr ⟨cs, csm, rfl⟩))
        refine iteT ⟨_, rfl, _, rfl, _, rfl, p, _, -1, v, rfl, rfl, SqL.of hp, atI_last, _, rfl, x, u, v, y, ls, ls', T, B, l, g, zi, cs, e, rfl, kb.keep kjH, tb, nst, few, hgJ, gk cs csm, hv, te, bige, nu, bz, fun J1 t q us lv k1 tb1 nu1 ht hq hus hlv lu1 oq => ?_⟩
        refine ⟨t, _, rfl, SqT.of ht, rfl, _, _, rfl, _, _, rfl, rfl, ?_⟩
        have hp1_ : J1 p = some (.lst (rs ++ [v])) := k1.lst hp pl
        have rr := run_res (T := T) (f := g) n cs e zi (gk cs csm) te
        refine ⟨_, rfl, .inl ⟨rfl, _, SqL.of hp1_⟩, _, rfl, _, rfl, q, us, _, lv, _, rfl, hq, hus, hlv, (fun z => by have := (rr.left _ z).1; cases this), by omega, fun J2 w2 s2 hw2 => ?_⟩
        have hp2_ := s2 _ _ hp1_
        refine ⟨p, _, w2, rfl, rfl, hp2_, by rw [sizeLine_eq, List.length_append, List.length_singleton]; omega, ?_⟩
        have kp := KeepW.updL (W := fun b => b = p) (ys := rs ++ [v] ++ [w2]) rfl hp2_
        have tb3 := tabs_mine (H0 := fun _ => none) (tabs_same tb1 s2) (Mine.upd (o := .lst (rs ++ [v] ++ [w2])) (fun ⟨_, z, _⟩ => nomatch z) hp2_)
        have hp3_ := upd_same (H := J2) (a := p) (o := .lst (rs ++ [v] ++ [w2]))
        generalize upd J2 p (.lst (rs ++ [v] ++ [w2])) = J3 at kp tb3 hp3_ ⊢
        have st : StayT J J3 := (k1.stay.trans (StayT.of (Stay.of s2))).trans kp.stay
        have kj3 : KeepW (fun b => b = l ∨ b = p) H1 J3 := ((kj.trans (k1.weak fun _ z => .inl z)).trans (KeepW.of s2)).trans (kp.weak fun _ z => .inr z)
        have nu3 := num_keep (num_same nu1 s2) kp (fun z => pl z.symm)
        have old : Paired (OptDp K J3) (rs ++ [v]) (dn ++ [some e]) := paired_appB (paired_impM (fun _ o m z => optDp_stayT z (flatO_tree (tdn o m)) st) hrs) (.cons (optDp_stayT (o := some e) hv (flatO_tree fun y hy => by cases hy; exact te) st) .nil)
        have tdn' : ∀ o ∈ dn ++ [some e], ∀ y, o = some y → TreeK (nms ls) y := fun o ho y hy => by
          rcases List.mem_append.mp ho with z | z
          · exact tdn o z y hy
          · rw [List.mem_singleton.mp z] at hy
            cases hy
            exact te
        cases eo : outD (runD T g n cs e zi).1.1 (runD T g n cs e zi).1.2 with
        | none =>
          rw [eo] at hw2
          rw [stat_none eo] at eall ez
          refine ⟨_, _, _, rs ++ [v], w2, dn ++ [some e], none, _, rfl, kj3, tb3, nu3, hp3_, old, ?_, tdn', by rw [List.length_append, List.length_singleton]; omega, .inl ⟨rfl, by rw [eall, List.append_assoc]; rfl, ez.symm⟩⟩
          exact hw2
        | some e2 =>
          rw [eo] at hw2
          rw [stat_some eo] at eall ez
          have te2 := run_out (gk cs csm) te eo
          refine ⟨_, _, _, rs ++ [v], w2, dn ++ [some e], some e2, _, rfl, kj3, tb3, nu3, hp3_, old, ?_, tdn', by rw [List.length_append, List.length_singleton]; omega, .inr ⟨e2, rfl, te2, sonext e2 eo, by rw [eall, List.append_assoc]; rfl, ez⟩⟩
          exact optDp_stayT (o := some e2) hw2 (flatO_tree fun y hy => by cases hy; exact te2) kp.stay
    · rintro σ J ⟨v5, v6, v7, rs, v, dn, o, zi, rfl, kj, tb, nu, hp, hrs, hv, tdn, lr, alt⟩
      refine ⟨_, rfl, ?_⟩
      rw [lx, List.drop_length] at alt
      rcases alt with ⟨rfl, eall, ez⟩ | ⟨e, rfl, te, _, eall, ez⟩
      · rw [ez] at nu
        refine k J p _ (keepH kj) tb nu hp ?_ (OldN.none np)
        rw [eall]
        exact paired_appB hrs (.cons hv .nil)
      · have ez : (statD T g n gs d zs).2 = zi := ez
        rw [← ez] at nu
        refine k J p _ (keepH kj) tb nu hp ?_ (OldN.none np)
        rw [eall]
        exact paired_appB hrs (.cons hv .nil)
end
end K1

namespace K1
open PySem PySem.Spec PyProof.Rows L2 Own
/-! ### forms: the stars in data, or nothing -/
def isStar (d : PyData) : Bool := PyData.eqv d (.str "*")
def starsD (ns : List Str) (d : PyData) : Option Nat :=
  if isGroupD d = true then (kidsD d).attach.foldr (fun c r => match starsD ns c.1, r with
    | some a, some b => some (a + b)
    | _, _ => none) (some 0)
  else if isStar d = true then some 1 else if inD ns d = true then some 0 else none
termination_by ndD d
decreasing_by
  have a := kids_nd d
  have b := nd_mem c.2
  omega
def addO : Option Nat → Option Nat → Option Nat
  | some a, some b => some (a + b)
  | _, _ => none
def sumS (f : PyData → Option Nat) (ds : List PyData) : Option Nat := ds.foldr (fun c r => addO (f c) r) (some 0)
theorem addO_none (a : Option Nat) : addO a none = none := by cases a <;> rfl
theorem addO_assoc (a b c : Option Nat) : addO (addO a b) c = addO a (addO b c) := by
  cases a with
  | none => rfl
  | some a =>
    cases b with
    | none => rfl
    | some b =>
      cases c with
      | none => rfl
      | some c =>
        show some (a + b + c) = some (a + (b + c))
        rw [Nat.add_assoc]
theorem addO_zero (a : Option Nat) : addO (some 0) a = a := by
  cases a with
  | none => rfl
  | some a =>
    show some (0 + a) = some a
    rw [Nat.zero_add]
theorem sumS_app (f : PyData → Option Nat) : ∀ a b : List PyData, sumS f (a ++ b) = addO (sumS f a) (sumS f b)
  | [], b => (addO_zero _).symm
  | x :: r, b => by
    show addO (f x) (sumS f (r ++ b)) = addO (addO (f x) (sumS f r)) (sumS f b)
    rw [sumS_app f r b, addO_assoc]
theorem foldr_attach (f : PyData → Option Nat) : ∀ (ds : List PyData), ds.attach.foldr (fun c r => match f c.1, r with
    | some a, some b => some (a + b)
    | _, _ => none) (some 0) = sumS f ds := fun ds => by
  have e : (fun (c : {x // x ∈ ds}) (r : Option Nat) => match f c.1, r with
    | some a, some b => some (a + b)
    | _, _ => none) = fun c r => addO (f c.1) r := by
    funext c r
    cases f c.1 <;> cases r <;> rfl
  rw [e]
  have q := List.foldr_map (f := fun (c : {x // x ∈ ds}) => c.1) (g := fun c r => addO (f c) r) (l := ds.attach) (init := some 0)
  rw [List.attach_map_subtype_val] at q
  exact q.symm
theorem stars_eq (ns : List Str) (d : PyData) : starsD ns d = if isGroupD d = true then sumS (starsD ns) (kidsD d) else if isStar d = true then some 1 else if inD ns d = true then some 0 else none := by
  rw [starsD]
  split
  · exact foldr_attach (starsD ns) (kidsD d)
  · rfl
def formD (ns : List Str) (d : PyData) : Bool := match starsD ns d with
  | some n => decide (n ≤ 1)
  | none => false
end K1

namespace K1
open PySem PySem.Spec PyProof.Rows L2 Own
def spForm (C : Addr) (K : PySem.W.Frag) : Sp := fun vs H Q _ => ∃ x v ls ls' T d, vs = [.ref x, v] ∧ KIn C H x ls ls' T ∧ Dp K H v d ∧ Fit d ∧ ndD d ≤ 10000000 ∧ ∀ H', Same H H' → Q (.bl (formD (nms ls) d)) H'
theorem addO_some (s : Nat) (a b : Option Nat) : addO (some s) (addO a b) = addO (addO (some s) b) a := by
  cases a with
  | none =>
    rw [addO_none]
    rfl
  | some a =>
    cases b with
    | none => rfl
    | some b =>
      show some (s + (a + b)) = some (s + b + a)
      rw [Nat.add_comm a b, Nat.add_assoc]
theorem fit_star : Fit (.str "*") := ⟨by decide +kernel, by decide⟩
section
variable {P : Program} {w : World} {K : PySem.W.Frag} {mg : Str → Option Value} {base : Heap}
theorem scIsForm : FnScope ["kinds", "thing", "pending", "stars", "node"] ["kinds", "thing"] (defScope sIsForm) := ⟨rfl, rfl, rfl, by decide +kernel, rfl, by decide +kernel, by decide +kernel⟩
theorem ok_isForm {C f fG fI : Addr} {fd dG dI : FuncData} (F : Fun K "is_form" "is_form" sIsForm f fd) (GG : FnOk P w K mg base CX0 2 fG dG ["thing"] (spD1 K isGroupD)) (kG : PySem.W.keepIn K (.ref fG) = true) (bG : Binds K dG ["thing"] []) (mG : mg "is_group" = some (.ref fG))
    (cI : Spc K C "__contains__" fI) (GI : FnOk P w K mg base CX0 1 fI dI ["self", "x"] (spIn C K)) (bI : Binds K dI ["self", "x"] []) : FnOk P w K mg base CX0 3 f fd ["kinds", "thing"] (spForm C K) := by
  refine F.ok scIsForm (fun vs H Q E h => ?_) (fun cdv A outer s H vs Q E hr h => ?_)
  · obtain ⟨x, v, ls, ls', T, d, rfl, _⟩ := h
    rfl
  · obtain ⟨x, v, ls, ls', T, d0, rfl, kin, hd, fit, big, k⟩ := h
    refine ⟨_, pss_cons (ps_set (i := 2) scIsForm.nd rfl (Or.inl rfl) (pe_lst (pa_cons (pv 1) pa_nil)))
      (pss_cons (ps_set (i := 3) scIsForm.nd rfl (Or.inl rfl) pe_int)
      (pss_cons (ps_while PassesOwn.never (pt_truth (pv 2) (by intro _; rfl))
        (pss_cons (ps_set (i := 4) scIsForm.nd rfl (Or.inl rfl) (pe_bm0 PySem.F.plainAttrs_list PySem.F.slot_list_pop PySem.F.type_list_pop mt_pop (pv 2)))
        (pss_one (ps_if (pt_val (pe_call GG hr (by rfl) mG kG bG .nil pass0 (pa_cons (pv 4) pa_nil)))
          (pss_one (ps_expr (pe_bm PySem.F.plainAttrs_list PySem.F.slot_list_extend PySem.F.type_list_extend mt_extT (pv 2) (pa_cons (pe_ix ix_tup (pv 4) pe_int (fun _ _ => rfl)) pa_nil))))
          (pss_one (ps_if (pt_cmpR (op_eqD hr.units) (pv 4) pe_str (nomark _)) (pss_one (ps_aug (i := 3) scIsForm.nd rfl (Or.inl rfl) pe_int ip_add))
            (pss_one (ps_if (pt_cmpR (op_notInO cI GI (hr.mono (by decide)) bI) (pv 4) (pv 0) (by rfl)) (pss_one (ps_ret pe_bl)) pss_nil))))))))
      (pss_one (ps_ret (pe_cmpR op_le (pv 3) pe_int (nomark _)))))), ?_⟩
    refine ⟨_, rfl, (by show 1 ≤ sizeLine; decide), fun p np => ?_⟩
    have kids_fit : ∀ {e c : PyData}, Fit e → c ∈ kidsD e → Fit c := fun {e c} fe hc => by
      match e, fe, hc with
      | .tuple [m, .tuple cs], fe, hc => exact (fe.kid (List.mem_cons_of_mem _ (List.mem_cons_self ..))).kid hc
    have sum1 : ∀ (st : Nat) (es : List PyData) (e : PyData), addO (some st) (sumS (starsD (nms ls)) (es ++ [e])) = addO (addO (some st) (starsD (nms ls) e)) (sumS (starsD (nms ls)) es) := fun st es e => by
      have q : sumS (starsD (nms ls)) [e] = starsD (nms ls) e := by
        show addO (starsD (nms ls) e) (some 0) = _
        cases starsD (nms ls) e <;> rfl
      rw [sumS_app, addO_some, q]
    refine ⟨fun m σ H' => ∃ v4 vs ds st, σ = [some (.ref x), some v, some (.ref p), some (.int ((st : Nat) : Int)), v4] ∧ Same H H' ∧ H' p = some (.lst vs) ∧ DpAll K H vs ds ∧ (∀ d ∈ ds, Fit d) ∧ ndAll ds = m ∧ m ≤ 10000000 ∧ addO (some st) (sumS (starsD (nms ls)) ds) = starsD (nms ls) d0,
      ⟨ndD d0 + 0, none, [v], [d0], 0, rfl, same_upd np, upd_same, .cons hd .nil, fun d hm => by rw [List.mem_singleton.mp hm]; exact fit, rfl, big, by
        show addO (some 0) (addO (starsD (nms ls) d0) (some 0)) = _
        rw [addO_zero]
        cases starsD (nms ls) d0 <;> rfl⟩, ?_⟩
    rintro m σ H' ⟨v4, vs, ds, st, rfl, sm, hp, ha, fits, em, mb, ea⟩
    have lv := dpAll_len ha
    refine ⟨_, rfl, !vs.isEmpty, .inl ⟨vs, SqL.of hp, rfl⟩, ?_⟩
    by_cases ev : vs = []
    · subst ev
      have ed : ds = [] := List.length_eq_zero_iff.mp lv.symm
      subst ed
      refine iteF ⟨_, rfl, _, _, rfl, rfl, ?_⟩
      have e : formD (nms ls) d0 = decide (((st : Nat) : Int) ≤ 1) := by
        unfold formD
        rw [← ea]
        show decide (st ≤ 1) = _
        rw [decide_eq_decide]
        omega
      rw [e] at k
      exact k _ sm
    · rw [show (!vs.isEmpty) = true from by cases vs with | nil => exact absurd rfl ev | cons _ _ => rfl]
      refine iteT ?_
      obtain ⟨ws, y, es, e, rfl, rfl, ha2, he⟩ := dpAll_snoc ha ev
      have fe : Fit e := fits e (List.mem_append_right _ (List.mem_cons_self ..))
      have fes : ∀ d ∈ es, Fit d := fun d hm => fits d (List.mem_append_left _ hm)
      have cnt : ndAll es + ndD e = m := by
        rw [ndAll_app] at em
        exact em
      have le := ndAll_len es
      have lw := dpAll_len ha2
      rw [sum1] at ea
      refine ⟨fun σ' H2 => ∃ m', m' < m ∧ ∃ v4 vs ds st, σ' = [some (.ref x), some v, some (.ref p), some (.int ((st : Nat) : Int)), v4] ∧ Same H H2 ∧ H2 p = some (.lst vs) ∧ DpAll K H vs ds ∧ (∀ d ∈ ds, Fit d) ∧ ndAll ds = m' ∧ m' ≤ 10000000 ∧ addO (some st) (sumS (starsD (nms ls)) ds) = starsD (nms ls) d0, fun σ' H2 q => q, ?_⟩
      refine ⟨_, rfl, .inl ⟨rfl, _, SqL.of hp⟩, p, _, y, rfl, rfl, hp, ?_, ?_⟩
      · rw [List.length_append, List.length_singleton, Nat.add_sub_cancel, List.getElem?_append_right (Nat.le_refl _), Nat.sub_self]
        rfl
      have s3 : Same H (upd H' p (.lst (ws ++ [y]).dropLast)) := same_past np sm
      have hp3 := upd_same (H := H') (a := p) (o := .lst (ws ++ [y]).dropLast)
      rw [List.dropLast_concat] at s3 hp3 ⊢
      generalize upd H' p (.lst ws) = H3 at s3 hp3 ⊢
      refine ⟨_, rfl, y, e, rfl, dp_same s3 he, fe, fun H4 s4 => ?_⟩
      have s34 := s3.trans s4
      have hp4 := s4 _ _ hp3
      have te := stars_eq (nms ls) e
      have p1 := nd_pos e
      cases eg : isGroupD e with
      | true =>
        rw [eg, if_pos rfl] at te
        obtain ⟨mm, c, r, rfl⟩ := group_of eg
        obtain ⟨a, vm, vi, rfl, hs, hm, hi⟩ := dp_pair he
        have kn' : ndAll (c :: r) < ndD (.tuple [mm, .tuple (c :: r)]) := kids_nd (.tuple [mm, .tuple (c :: r)])
        cases hi with
        | tup hs2 ha3 =>
          have l3 := dpAll_len ha3
          have l4 := ndAll_len (c :: r)
          refine ⟨_, rfl, iteT ⟨_, rfl, .inl ⟨rfl, _, SqL.of hp4⟩, _, rfl, a, _, 1, _, rfl, rfl, Same.tup s34 hs, atI_nat (j := 1) rfl, p, _, _, _, rfl, rfl, hp4, Same.tup s34 hs2, (by rw [sizeLine_eq]; omega), ?_⟩⟩
          refine ⟨ndAll es + ndAll (c :: r), (by omega), _, _, es ++ (c :: r), st, rfl, same_past np s34, upd_same, dpAll_app ha2 ha3, fun d hm => ?_, ndAll_app _ _, (by omega), ?_⟩
          · rcases List.mem_append.mp hm with q | q
            · exact fes d q
            · exact kids_fit fe (c := d) q
          · rw [← ea, te, sumS_app, addO_some]
            rfl
      | false =>
        rw [eg, if_neg Bool.false_ne_true] at te
        refine ⟨_, rfl, iteF ⟨_, rfl, e, .str "*", dp_same s34 he, .str "*", fe.shaped, fit_star.shaped, _, rfl, ?_⟩⟩
        cases es_ : isStar e with
        | true =>
          have es2 : PyData.eqv e (.str "*") = true := es_
          rw [es2]
          rw [es_, if_pos rfl] at te
          rw [te] at ea
          exact iteT ⟨_, rfl, _, _, rfl, rfl, ndAll es, by omega, _, _, es, st + 1, rfl, s34, hp4, ha2, fes, rfl, by omega, ea⟩
        | false =>
          have es2 : PyData.eqv e (.str "*") = false := es_
          rw [es2]
          rw [es_, if_neg Bool.false_ne_true] at te
          have kin4 := kin.same s34
          obtain ⟨dx, fs, hx⟩ : ∃ dx fs, H4 x = some (.ins C dx fs) := by
            obtain ⟨dx, r, dd, _, _, hx, _⟩ := kin4.ex
            exact ⟨dx, _, hx⟩
          refine iteF ⟨_, rfl, _, rfl, x, dx, fs, rfl, hx, in_dp (dp_same s34 he) kin4 ?_⟩
          cases en : inD (nms ls) e with
          | true =>
            rw [en, if_pos rfl] at te
            rw [te] at ea
            exact ⟨_, rfl, iteF ⟨ndAll es, by omega, _, _, es, st, rfl, s34, hp4, ha2, fes, rfl, by omega, ea⟩⟩
          | false =>
            rw [en, if_neg Bool.false_ne_true] at te
            rw [te] at ea
            have z : formD (nms ls) d0 = false := by
              unfold formD
              rw [← ea]
              rfl
            rw [z] at k
            exact ⟨_, rfl, iteT (k _ s34)⟩
end
end K1

namespace K1
open PySem PySem.Spec PyProof.Rows L2 Own
/-! ### stacks as data -/
def itemsD : PyData → List PyData
  | .tuple ds => ds
  | _ => []
def fstD : PyData → PyData
  | .tuple (d :: _) => d
  | _ => .none
def sndD : PyData → PyData
  | .tuple (_ :: d :: _) => d
  | _ => .none
def areKD (ns : List Str) : PyData → Bool
  | .tuple ds => decide (0 < ds.length) && ds.all (inD ns)
  | _ => false
def passB (d : PyData) : Bool := isPairD (sndD d) && PyData.eqv (fstD (sndD d)) (.str "pass")
def plainD (ns : List Str) (d : PyData) : Bool :=
  if isPairD d = true then (if PyData.eqv (fstD d) (.str "keep") = true then areKD ns (sndD d) else PyData.eqv (fstD d) (.str "raise") && formD ns (sndD d))
  else [PyData.str "drop", .str "back"].any fun z => PyData.eqv z d
def headD (ns : List Str) (d : PyData) : Bool := isPairD d && areKD ns (fstD d)
theorem nd_items (d : PyData) : ndAll (itemsD d) < ndD d := by
  cases d with
  | tuple ds => exact Nat.lt_succ_self _
  | _ => exact nd_pos _
theorem nd_snd (d : PyData) : ndD (sndD d) ≤ ndD d := by
  match d with
  | .tuple (a :: b :: r) =>
    show ndD b ≤ ndD a + (ndD b + ndAll r) + 1
    omega
  | .tuple [] => exact Nat.succ_le_succ (Nat.zero_le _)
  | .tuple [a] =>
    show 1 ≤ ndD a + 0 + 1
    omega
  | .none => exact Nat.le_refl _
  | .bool _ => exact Nat.le_refl _
  | .int _ => exact Nat.le_refl _
  | .str _ => exact Nat.le_refl _
  | .list ds =>
    show 1 ≤ ndAll ds + 1
    omega
  | .dict _ => exact nd_pos _
def guardD (ns : List Str) (d : PyData) : Bool := isTupD d && (itemsD d).attach.all fun c => headD ns c.1 && (if passB c.1 = true then guardD ns (sndD (sndD c.1)) else plainD ns (sndD c.1))
termination_by ndD d
decreasing_by
  have a := nd_items d
  have b := nd_mem c.2
  have e := nd_snd c.1
  have e2 := nd_snd (sndD c.1)
  omega
def clauseD (ns : List Str) (c : PyData) : Bool := headD ns c && (if passB c = true then guardD ns (sndD (sndD c)) else plainD ns (sndD c))
theorem all_attach (f : PyData → Bool) (ds : List PyData) : (ds.attach.all fun c => f c.1) = ds.all f := by
  rw [Bool.eq_iff_iff, List.all_eq_true, List.all_eq_true]
  exact ⟨fun h x hx => h ⟨x, hx⟩ (List.mem_attach ..), fun h x _ => h x.1 x.2⟩
theorem guard_eq (ns : List Str) (d : PyData) : guardD ns d = (isTupD d && (itemsD d).all (clauseD ns)) := by
  rw [guardD]
  exact congrArg _ (all_attach (clauseD ns) (itemsD d))
def stackD (ns : List Str) (d : PyData) : Bool := isTupD d && (itemsD d).all (guardD ns)
theorem pair_fs {d : PyData} (h : isPairD d = true) : d = .tuple [fstD d, sndD d] := by
  obtain ⟨m, i, rfl⟩ := pair_of h
  rfl
section
variable {P : Program} {w : World} {K : PySem.W.Frag} {mg : Str → Option Value} {base : Heap}
/-! ### _are_kinds, _passes, _is_plain_action -/
def spAreK (C : Addr) (K : PySem.W.Frag) : Sp := fun vs H Q _ => ∃ x v ls ls' T d, vs = [.ref x, v] ∧ KIn C H x ls ls' T ∧ Dp K H v d ∧ Fit d ∧ ∀ H', Same H H' → Q (.bl (areKD (nms ls) d)) H'
theorem scAreK : FnScope ["kinds", "thing", "name"] ["kinds", "thing"] (defScope sAreKinds) := ⟨rfl, rfl, rfl, by decide +kernel, rfl, by decide +kernel, by decide +kernel⟩
theorem ok_areKinds {C f fI : Addr} {fd dI : FuncData} (F : Fun K "_are_kinds" "_are_kinds" sAreKinds f fd) (cI : Spc K C "__contains__" fI) (GI : FnOk P w K mg base CX0 1 fI dI ["self", "x"] (spIn C K)) (bI : Binds K dI ["self", "x"] [])
    (ml : mg "len" = none) (mi : mg "isinstance" = none) (mt : mg "tuple" = none) (ma : mg "all" = none) : FnOk P w K mg base CX0 2 f fd ["kinds", "thing"] (spAreK C K) := by
  refine F.ok scAreK (fun vs H Q E h => ?_) (fun cdv A outer s H vs Q E hr h => ?_)
  · obtain ⟨x, v, ls, ls', T, d, rfl, _⟩ := h
    rfl
  · obtain ⟨x, v, ls, ls', T, d, rfl, kin, hd, fit, k⟩ := h
    have hr1 : Room 1 _ := hr.mono (by decide)
    refine ⟨_, pss_one (ps_ret (pe_and (pe_callB call_isi (by rfl) mi (by decide +kernel) (pa_cons (pv 1) (pa_cons (pe_bltn (v := .ty "tuple") (u := .type "tuple") (by rfl) mt (by decide +kernel) rfl) pa_nil))) (pe_and (pe_cmpR op_gt (pe_callB call_len_seq (by rfl) ml PySem.boot_len (pa_cons (pv 1) pa_nil)) pe_int (nomark _)) (pe_one (pe_callB (cr_all rfl) (by rfl) ma (by decide +kernel) (pa_cons (pe_lc (own := [("name", 2)]) (g := gName 2) (tt := tYes) rfl scAreK.nd (pi_tup (pv 1)) (blkOk_by (N := ["kinds", "thing", "name"]) (sc := defScope sAreKinds) (by decide +kernel)) (fun _ _ _ _ _ => pg_name (i := 2) scAreK.nd rfl (Or.inl rfl)) (fun _ _ _ _ _ => pts_nil) (fun _ _ _ _ _ => (pe_cmpR (op_inO cI GI hr1 bI) (pv 2) (pv 0) (by rfl)))) pa_nil)))))), ?_⟩
    have ty := dp_ty hd
    cases d with
    | tuple ds =>
      cases hd with
      | tup hs ha =>
        rename_i a xs
        have lx := dpAll_len ha
        have few := fit.few
        refine ⟨_, rfl, _, .ty "tuple", _, _, true, rfl, .ty "tuple", ty, kit_ty (kt_tuple _), true, rfl, iteT ?_⟩
        refine ⟨_, rfl, a, _, rfl, .inr hs, _, _, rfl, rfl, _, rfl, ?_⟩
        have e0 : decide ((0 : Int) < ((xs.length : Nat) : Int)) = decide (0 < ds.length) := by
          rw [decide_eq_decide, lx]
          omega
        show (if decide ((0 : Int) < ((xs.length : Nat) : Int)) = true then _ else _)
        rw [e0]
        have k0 := fun H' s => show Q (.bl (decide (0 < ds.length) && ds.all (inD (nms ls)))) H' from k H' s
        cases eb : decide (0 < ds.length) with
        | false =>
          rw [eb] at k0
          exact iteF (k0 _ (Same.refl _))
        | true =>
          rw [eb] at k0
          refine iteT ⟨_, rfl, a, rfl, ⟨_, hs⟩, fun D nD => ?_⟩
          refine lc_tup (K := K) (a := a) (xs := xs) (fun j H' => Same H H' ∧ H' D = some (.lst (((ds.take j).map (inD (nms ls))).map V.bl))) ⟨same_upd nD, upd_same⟩ (fun j H' hj q => Same.tup q.1 hs) ?_ ?_
          · rintro j u H' hu ⟨sm, hD⟩
            obtain ⟨e, he, hde⟩ := dpAll_at (dpAll_same sm ha) hu
            have me : e ∈ ds := List.mem_of_getElem? he
            have hj : j < ds.length := (List.getElem?_eq_some_iff.mp he).1
            have kin4 := kin.same sm
            obtain ⟨dx, fs, hx⟩ : ∃ dx fs, H' x = some (.ins C dx fs) := by
              obtain ⟨dx, r, dd, _, _, hx, _⟩ := kin4.ex
              exact ⟨dx, _, hx⟩
            refine ⟨rfl, _, rfl, _, rfl, x, dx, fs, rfl, hx, in_dp (R := fun b H1 => _) hde kin4 ?_⟩
            refine ⟨_, hD, ?_, same_past nD sm, ?_⟩
            · rw [List.length_map, List.length_map, List.length_take]
              exact Nat.lt_of_le_of_lt (show _ ≤ 1000 by omega) (by decide)
            · rw [upd_same, List.take_add_one, he, List.map_append, List.map_append]
              rfl
          · rintro H' ⟨sm, hD⟩
            rw [lx, List.take_of_length_le (Nat.le_refl _)] at hD
            refine ⟨D, _, rfl, SqL.of hD, ?_⟩
            have e : ((ds.map (inD (nms ls))).all id) = ds.all (inD (nms ls)) := by
              rw [List.all_map]
              rfl
            rw [e]
            exact k0 _ sm
    | _ => exact ⟨_, rfl, _, .ty "tuple", _, _, false, rfl, .ty "tuple", ty, kit_ty (kt_tuple _), false, rfl, iteF (k _ (Same.refl _))⟩
theorem fit_fst {d : PyData} (h : isPairD d = true) (f : Fit d) : Fit (fstD d) := by
  obtain ⟨m, i, rfl⟩ := pair_of h
  exact f.kid (List.mem_cons_self ..)
theorem fit_snd {d : PyData} (h : isPairD d = true) (f : Fit d) : Fit (sndD d) := by
  obtain ⟨m, i, rfl⟩ := pair_of h
  exact f.kid (List.mem_cons_of_mem _ (List.mem_cons_self ..))
theorem dp_fs {H : Hp} {v : V} {d : PyData} (h : isPairD d = true) (hd : Dp K H v d) : ∃ a x y, v = .ref a ∧ SqT K H a [x, y] ∧ Dp K H x (fstD d) ∧ Dp K H y (sndD d) := by
  obtain ⟨m, i, rfl⟩ := pair_of h
  exact dp_pair hd
/-- the clause is a pair -/
def spPass (K : PySem.W.Frag) : Sp := fun vs H Q _ => ∃ v d, vs = [v] ∧ Dp K H v d ∧ Fit d ∧ isPairD d = true ∧ ∀ H', Same H H' → Q (.bl (passB d)) H'
theorem low_word (z : Str) (h : okD (.str z) = true) : Fit (.str z) := ⟨h, Nat.zero_le _⟩
theorem scPass : FnScope ["clause"] ["clause"] (defScope sPasses) := ⟨rfl, rfl, rfl, by decide +kernel, rfl, by decide +kernel, by decide +kernel⟩
theorem ok_passes {f fP : Addr} {fd dP : FuncData} (F : Fun K "_passes" "_passes" sPasses f fd) (GP : FnOk P w K mg base CX0 1 fP dP ["thing"] (spD1 K isPairD)) (kP : PySem.W.keepIn K (.ref fP) = true) (bP : Binds K dP ["thing"] []) (mP : mg "is_pair" = some (.ref fP)) : FnOk P w K mg base CX0 2 f fd ["clause"] (spPass K) := by
  refine F.ok scPass (fun vs H Q E h => ?_) (fun cdv A outer s H vs Q E hr h => ?_)
  · obtain ⟨v, d, rfl, _⟩ := h
    rfl
  · obtain ⟨v, d, rfl, hd, fit, pr, k⟩ := h
    have hr1 : Room 1 _ := hr.mono (by decide)
    refine ⟨_, pss_one (ps_ret (pe_and (pe_call GP hr1 (by rfl) mP kP bP .nil pass0 (pa_cons (pe_ix ix_tup (pv 0) pe_int (fun _ _ => rfl)) pa_nil)) (pe_one (pe_cmpR (op_eqD hr.units) (pe_ix ix_tup (pe_ix ix_tup (pv 0) pe_int (fun _ _ => rfl)) pe_int (fun _ _ => rfl)) pe_str (nomark _))))), ?_⟩
    obtain ⟨a, x, y, rfl, hs, hx, hy⟩ := dp_fs pr hd
    have fy := fit_snd pr fit
    refine ⟨_, rfl, a, _, 1, _, rfl, rfl, hs, atI_nat (j := 1) rfl, y, _, rfl, hy, fy, fun H1 s1 => ?_⟩
    have k1 := fun H2 s2 => show Q (.bl (isPairD (sndD d) && PyData.eqv (fstD (sndD d)) (.str "pass"))) H2 from k H2 s2
    cases ep : isPairD (sndD d) with
    | false =>
      rw [ep] at k1
      exact ⟨_, rfl, iteF (k1 _ s1)⟩
    | true =>
      rw [ep] at k1
      obtain ⟨b, x2, y2, rfl, hs2, hx2, hy2⟩ := dp_fs ep hy
      refine ⟨_, rfl, iteT ⟨_, rfl, a, _, 1, _, rfl, rfl, Same.tup s1 hs, atI_nat (j := 1) rfl, b, _, 0, _, rfl, rfl, Same.tup s1 hs2, atI_nat (j := 0) rfl, fstD (sndD d), .str "pass", dp_same s1 hx2, .str _, (fit_fst ep fy).shaped, by decide +kernel, ?_⟩⟩
      exact k1 _ s1
def spPlain (C : Addr) (K : PySem.W.Frag) : Sp := fun vs H Q _ => ∃ x v ls ls' T d, vs = [.ref x, v] ∧ KIn C H x ls ls' T ∧ Dp K H v d ∧ Fit d ∧ ndD d ≤ 10000000 ∧ ∀ H', Same H H' → Q (.bl (plainD (nms ls) d)) H'
theorem scPlain : FnScope ["kinds", "thing", "word", "what"] ["kinds", "thing"] (defScope sIsPlain) := ⟨rfl, rfl, rfl, by decide +kernel, rfl, by decide +kernel, by decide +kernel⟩
theorem ok_isPlain {C f fP fA fF : Addr} {fd dP dA dF : FuncData} (F : Fun K "_is_plain_action" "_is_plain_action" sIsPlain f fd) (GP : FnOk P w K mg base CX0 1 fP dP ["thing"] (spD1 K isPairD)) (kP : PySem.W.keepIn K (.ref fP) = true) (bP : Binds K dP ["thing"] []) (mP : mg "is_pair" = some (.ref fP))
    (GK : FnOk P w K mg base CX0 2 fA dA ["kinds", "thing"] (spAreK C K)) (kK : PySem.W.keepIn K (.ref fA) = true) (bK : Binds K dA ["kinds", "thing"] []) (mK : mg "_are_kinds" = some (.ref fA))
    (GF : FnOk P w K mg base CX0 3 fF dF ["kinds", "thing"] (spForm C K)) (kF : PySem.W.keepIn K (.ref fF) = true) (bF : Binds K dF ["kinds", "thing"] []) (mF : mg "is_form" = some (.ref fF)) : FnOk P w K mg base CX0 4 f fd ["kinds", "thing"] (spPlain C K) := by
  refine F.ok scPlain (fun vs H Q E h => ?_) (fun cdv A outer s H vs Q E hr h => ?_)
  · obtain ⟨x, v, ls, ls', T, d, rfl, _⟩ := h
    rfl
  · obtain ⟨x, v, ls, ls', T, d, rfl, kin, hd, fit, big, k⟩ := h
    have hr1 : Room 1 _ := hr.mono (by decide)
    have hr2 : Room 2 _ := hr.mono (by decide)
    refine ⟨_, pss_cons (ps_if (pt_not (pt_val (pe_call GP hr1 (by rfl) mP kP bP .nil pass0 (pa_cons (pv 1) pa_nil))))
        (pss_one (ps_ret (pe_cmpR (op_inTD hr.units) (pv 1) (pe_tup (pa_cons pe_str (pa_cons pe_str pa_nil))) (by rfl))))
        pss_nil)
      (pss_cons (ps_asg (pv 1) (pg_tup rfl (pgs_cons (pg_name (i := 2) scPlain.nd rfl (Or.inl rfl)) (pgs_cons (pg_name (i := 3) scPlain.nd rfl (Or.inl rfl)) pgs_nil))))
      (pss_cons (ps_if (pt_cmpR (op_eqD hr.units) (pv 2) pe_str (nomark _))
        (pss_one (ps_ret (pe_call GK hr2 (by rfl) mK kK bK .nil pass0 (pa_cons (pv 0) (pa_cons (pv 3) pa_nil)))))
        pss_nil)
      (pss_one (ps_ret (pe_and (pe_cmpR (op_eqD hr.units) (pv 2) pe_str (nomark _)) (pe_one (pe_call GF (hr.mono (by decide)) (by rfl) mF kF bF .nil pass0 (pa_cons (pv 0) (pa_cons (pv 3) pa_nil))))))))), ?_⟩
    refine ⟨_, rfl, v, d, rfl, hd, fit, fun H1 s1 => ?_⟩
    unfold plainD at k
    cases ep : isPairD d with
    | false =>
      rw [ep, if_neg Bool.false_ne_true] at k
      refine ⟨_, rfl, iteT ⟨_, rfl, (by show 2 ≤ sizeLine; decide), fun p np => ?_⟩⟩
      have s2 := same_upd (o := .tup [.str "drop", .str "back"]) np
      exact ⟨d, [.str "drop", .str "back"], dp_same (s1.trans s2) hd, .tup (SqT.of upd_same) (.cons (.str _) (.cons (.str _) .nil)), fit.lay, by decide +kernel, Nat.le_trans (Nat.min_le_left _ _) (by decide), k _ (s1.trans s2)⟩
    | true =>
      rw [ep, if_pos rfl] at k
      obtain ⟨a, x1, y1, rfl, hs, hx, hy⟩ := dp_fs ep (dp_same s1 hd)
      have f1 := fit_fst ep fit
      have f2 := fit_snd ep fit
      have nd2 : ndD (sndD d) ≤ 10000000 := Nat.le_trans (nd_snd d) big
      refine ⟨_, rfl, iteF ⟨_, rfl, a, _, rfl, hs, rfl, _, _, rfl, _, _, rfl, rfl, ?_⟩⟩
      refine ⟨_, rfl, fstD d, .str "keep", hx, .str _, f1.shaped, by decide +kernel, _, rfl, ?_⟩
      cases ek : PyData.eqv (fstD d) (.str "keep") with
      | true =>
        rw [ek, if_pos rfl] at k
        exact iteT ⟨_, rfl, _, rfl, x, y1, ls, ls', T, sndD d, rfl, kin.same s1, hy, f2, fun H2 s2 => k _ (s1.trans s2)⟩
      | false =>
        rw [ek, if_neg Bool.false_ne_true] at k
        refine iteF ⟨_, rfl, fstD d, .str "raise", hx, .str _, f1.shaped, by decide +kernel, _, rfl, ?_⟩
        cases er : PyData.eqv (fstD d) (.str "raise") with
        | false =>
          rw [er] at k
          exact iteF (k _ s1)
        | true =>
          rw [er] at k
          exact iteT ⟨_, rfl, _, rfl, x, y1, ls, ls', T, sndD d, rfl, kin.same s1, hy, f2, nd2, fun H2 s2 => k _ (s1.trans s2)⟩
end
end K1

namespace K1
open PySem PySem.Spec PyProof.Rows L2 Own
/-! ### is_stack over any data -/
def spStack (C : Addr) (K : PySem.W.Frag) : Sp := fun vs H Q _ => ∃ x v ls ls' T d, vs = [.ref x, v] ∧ KIn C H x ls ls' T ∧ Dp K H v d ∧ Fit d ∧ ndD d ≤ 10000000 ∧ ∀ H', Same H H' → Q (.bl (stackD (nms ls) d)) H'
theorem nd_mem_all {ds : List PyData} {d : PyData} (h : d ∈ ds) : ndD d ≤ ndAll ds := nd_mem h
theorem ndAll_app' (a b : List PyData) : ndAll (a ++ b) = ndAll a + ndAll b := ndAll_app a b
section
variable {P : Program} {w : World} {K : PySem.W.Frag} {mg : Str → Option Value} {base : Heap}
theorem scStack : FnScope ["kinds", "thing", "pending", "guard", "clause"] ["kinds", "thing"] (defScope sIsStack) := ⟨rfl, rfl, rfl, by decide +kernel, rfl, by decide +kernel, by decide +kernel⟩
theorem ok_isStack {C f fP fK fS fA : Addr} {fd dP dK dS dA : FuncData} (F : Fun K "is_stack" "is_stack" sIsStack f fd) (GP : FnOk P w K mg base CX0 1 fP dP ["thing"] (spD1 K isPairD)) (kP : PySem.W.keepIn K (.ref fP) = true) (bP : Binds K dP ["thing"] []) (mP : mg "is_pair" = some (.ref fP))
    (GK : FnOk P w K mg base CX0 2 fK dK ["kinds", "thing"] (spAreK C K)) (kK : PySem.W.keepIn K (.ref fK) = true) (bK : Binds K dK ["kinds", "thing"] []) (mK : mg "_are_kinds" = some (.ref fK))
    (GS : FnOk P w K mg base CX0 2 fS dS ["clause"] (spPass K)) (kS : PySem.W.keepIn K (.ref fS) = true) (bS : Binds K dS ["clause"] []) (mS : mg "_passes" = some (.ref fS))
    (GA : FnOk P w K mg base CX0 4 fA dA ["kinds", "thing"] (spPlain C K)) (kA : PySem.W.keepIn K (.ref fA) = true) (bA : Binds K dA ["kinds", "thing"] []) (mA : mg "_is_plain_action" = some (.ref fA))
    (mi : mg "isinstance" = none) (mt : mg "tuple" = none) (mli : mg "list" = none) : FnOk P w K mg base CX0 5 f fd ["kinds", "thing"] (spStack C K) := by
  refine F.ok scStack (fun vs H Q E h => ?_) (fun cdv A outer s H vs Q E hr h => ?_)
  · obtain ⟨x, v, ls, ls', T, d, rfl, _⟩ := h
    rfl
  · obtain ⟨x, v, ls, ls', T, d0, rfl, kin, hd, fit, big, k⟩ := h
    have hr1 : Room 1 _ := hr.mono (by decide)
    have hr2 : Room 2 _ := hr.mono (by decide)
    refine ⟨_, pss_cons (ps_if (pt_not (pt_val (pe_callB call_isi (by rfl) mi (by decide +kernel) (pa_cons (pv 1) (pa_cons (pe_bltn (v := .ty "tuple") (u := .type "tuple") (by rfl) mt (by decide +kernel) rfl) pa_nil)))))
        (pss_one (ps_ret pe_bl))
        pss_nil)
      (pss_cons (ps_set (i := 2) scStack.nd rfl (Or.inl rfl) (pe_callTy call_list_of (by rfl) mli (by decide +kernel) (pa_cons (pv 1) pa_nil)))
      (pss_cons (ps_while PassesOwn.never (pt_truth (pv 2) (by intro _; rfl))
        (pss_cons (ps_set (i := 3) scStack.nd rfl (Or.inl rfl) (pe_bm0 PySem.F.plainAttrs_list PySem.F.slot_list_pop PySem.F.type_list_pop mt_pop (pv 2)))
        (pss_cons (ps_if (pt_not (pt_val (pe_callB call_isi (by rfl) mi (by decide +kernel) (pa_cons (pv 3) (pa_cons (pe_bltn (v := .ty "tuple") (u := .type "tuple") (by rfl) mt (by decide +kernel) rfl) pa_nil)))))
          (pss_one (ps_ret pe_bl))
          pss_nil)
        (pss_one (ps_for PassesOwn.never rfl (pi_tup (pv 3)) (pg_name (i := 4) scStack.nd rfl (Or.inl rfl))
          (pss_cons (ps_if (PW.pt (pw_or (pt_not (pt_val (pe_call GP hr1 (by rfl) mP kP bP .nil pass0 (pa_cons (pv 4) pa_nil)))) (pw_or1 (pt_not (pt_val (pe_call GK hr2 (by rfl) mK kK bK .nil pass0 (pa_cons (pv 0) (pa_cons (pe_ix ix_tup (pv 4) pe_int (fun _ _ => rfl)) pa_nil))))))))
            (pss_one (ps_ret pe_bl))
            pss_nil)
          (pss_one (ps_if (pt_val (pe_call GS hr2 (by rfl) mS kS bS .nil pass0 (pa_cons (pv 4) pa_nil)))
            (pss_one (ps_expr (pe_bm PySem.F.plainAttrs_list PySem.F.slot_list_append PySem.F.type_list_append mt_append (pv 2) (pa_cons (pe_ix ix_tup (pe_ix ix_tup (pv 4) pe_int (fun _ _ => rfl)) pe_int (fun _ _ => rfl)) pa_nil))))
            (pss_one (ps_if (pt_not (pt_val (pe_call GA hr (by rfl) mA kA bA .nil pass0 (pa_cons (pv 0) (pa_cons (pe_ix ix_tup (pv 4) pe_int (fun _ _ => rfl)) pa_nil)))))
              (pss_one (ps_ret pe_bl))
              pss_nil))))))))))
      (pss_one (ps_ret pe_bl)))), ?_⟩
    have ty := dp_ty hd
    cases d0 with
    | tuple ds0 =>
      cases hd with
      | tup hs ha =>
        rename_i a xs
        refine ⟨_, rfl, _, .ty "tuple", _, _, true, rfl, .ty "tuple", ty, kit_ty (kt_tuple _), true, rfl, iteF ?_⟩
        refine ⟨_, rfl, a, _, rfl, .inr hs, fun p np => ?_⟩
        have nd0 : ndAll ds0 ≤ 10000000 := by
          have : ndD (.tuple ds0) = ndAll ds0 + 1 := rfl
          omega
        have st0 : stackD (nms ls) (.tuple ds0) = ds0.all (guardD (nms ls)) := rfl
        refine ⟨fun m σ H' => ∃ v3 v4 vs ds, σ = [some (.ref x), some (.ref a), some (.ref p), v3, v4] ∧ Same H H' ∧ H' p = some (.lst vs) ∧ DpAll K H vs ds ∧ (∀ d ∈ ds, Fit d) ∧ ndAll ds = m ∧ m ≤ 10000000 ∧ ds.all (guardD (nms ls)) = stackD (nms ls) (.tuple ds0),
          ⟨ndAll ds0, none, none, xs, ds0, rfl, same_upd np, upd_same, ha, fun d hm => fit.kid hm, rfl, nd0, rfl⟩, ?_⟩
        rintro m σ H' ⟨v3, v4, vs, ds, rfl, sm, hp, ha, fits, em, mb, ea⟩
        have lv := dpAll_len ha
        refine ⟨_, rfl, !vs.isEmpty, .inl ⟨vs, SqL.of hp, rfl⟩, ?_⟩
        by_cases ev : vs = []
        · subst ev
          have ed : ds = [] := List.length_eq_zero_iff.mp lv.symm
          subst ed
          have k' := k H' sm
          rw [← ea] at k'
          exact iteF k'
        · rw [show (!vs.isEmpty) = true from by cases vs with | nil => exact absurd rfl ev | cons _ _ => rfl]
          refine iteT ?_
          obtain ⟨ws, y, es, e, rfl, rfl, ha2, he⟩ := dpAll_snoc ha ev
          have fe : Fit e := fits e (List.mem_append_right _ (List.mem_cons_self ..))
          have fes : ∀ d ∈ es, Fit d := fun d hm => fits d (List.mem_append_left _ hm)
          have cnt : ndAll es + ndD e = m := by
            rw [ndAll_app] at em
            exact em
          have le := ndAll_len es
          have lw := dpAll_len ha2
          have ea1 : (es.all (guardD (nms ls)) && guardD (nms ls) e) = stackD (nms ls) (.tuple ds0) := by
            rw [← ea, List.all_append]
            show _ = (es.all (guardD (nms ls)) && (guardD (nms ls) e && true))
            rw [Bool.and_true]
          refine ⟨fun σ' H2 => ∃ m', m' < m ∧ ∃ v3 v4 vs ds, σ' = [some (.ref x), some (.ref a), some (.ref p), v3, v4] ∧ Same H H2 ∧ H2 p = some (.lst vs) ∧ DpAll K H vs ds ∧ (∀ d ∈ ds, Fit d) ∧ ndAll ds = m' ∧ m' ≤ 10000000 ∧ ds.all (guardD (nms ls)) = stackD (nms ls) (.tuple ds0), fun σ' H2 q => q, ?_⟩
          refine ⟨_, rfl, .inl ⟨rfl, _, SqL.of hp⟩, p, _, y, rfl, rfl, hp, ?_, ?_⟩
          · rw [List.length_append, List.length_singleton, Nat.add_sub_cancel, List.getElem?_append_right (Nat.le_refl _), Nat.sub_self]
            rfl
          have s3 : Same H (upd H' p (.lst (ws ++ [y]).dropLast)) := same_past np sm
          have hp3 := upd_same (H := H') (a := p) (o := .lst (ws ++ [y]).dropLast)
          rw [List.dropLast_concat] at s3 hp3 ⊢
          generalize upd H' p (.lst ws) = H3 at s3 hp3 ⊢
          have ty2 := dp_ty (dp_same s3 he)
          rw [guard_eq] at ea1
          cases e with
          | tuple cs =>
            refine ⟨_, rfl, _, .ty "tuple", _, _, true, rfl, .ty "tuple", ty2, kit_ty (kt_tuple _), true, rfl, iteF ?_⟩
            have ea2 : (es.all (guardD (nms ls)) && cs.all (clauseD (nms ls))) = stackD (nms ls) (.tuple ds0) := ea1
            have ncs : ndD (.tuple cs) = ndAll cs + 1 := rfl
            cases he with
            | tup hs2 ha3 =>
              rename_i b ys
              have ly := dpAll_len ha3
              refine ⟨_, rfl, b, rfl, ⟨_, Same.tup s3 hs2⟩, ?_⟩
              refine for_tup (K := K) (a := b) (xs := ys) (fun j σ H' => ∃ v4 us gs, σ = [some (.ref x), some (.ref a), some (.ref p), some (.ref b), v4] ∧ Same H H' ∧ H' p = some (.lst us) ∧ DpAll K H us gs ∧ (∀ d ∈ gs, Fit d) ∧ ndAll gs + ndAll (cs.drop j) + 1 ≤ m ∧ (gs.all (guardD (nms ls)) && (cs.drop j).all (clauseD (nms ls))) = stackD (nms ls) (.tuple ds0))
                ⟨_, ws, es, rfl, s3, hp3, ha2, fes, by rw [List.drop_zero]; omega, by rw [List.drop_zero]; exact ea2⟩ (fun j σ H' hj ⟨_, _, _, _, sm, _⟩ => Same.tup sm hs2) ?_ ?_
              · rintro j u σ H4 hu ⟨v4', us, gs, rfl, s4, hp4, hg, fgs, cntj, eaj⟩
                obtain ⟨c, hc, hdc0⟩ := dpAll_at ha3 hu
                have hdc := dp_same s4 hdc0
                have mc : c ∈ cs := List.mem_of_getElem? hc
                have fc : Fit c := fe.kid mc
                have hj : j < cs.length := (List.getElem?_eq_some_iff.mp hc).1
                have dj : cs.drop j = c :: cs.drop (j + 1) := by
                  rw [List.drop_eq_getElem_cons hj]
                  have := (List.getElem?_eq_some_iff.mp hc).2
                  rw [this]
                rw [dj] at cntj eaj
                have cnt2 : ndAll gs + (ndD c + ndAll (cs.drop (j + 1))) + 1 ≤ m := cntj
                have eaj2 : (gs.all (guardD (nms ls)) && (clauseD (nms ls) c && (cs.drop (j + 1)).all (clauseD (nms ls)))) = stackD (nms ls) (.tuple ds0) := eaj
                have no : clauseD (nms ls) c = false → ∀ H', Same H H' → Q (.bl false) H' := fun e H' s => by
                  rw [e, Bool.false_and, Bool.and_false] at eaj2
                  have q := k H' s
                  rw [← eaj2] at q
                  exact q
                refine ⟨_, rfl, u, c, rfl, hdc, fc, fun H5 s5 => ?_⟩
                cases ep : isPairD c with
                | false =>
                  refine ⟨_, rfl, iteT (iteT (no ?_ _ (s4.trans s5)))⟩
                  unfold clauseD headD
                  rw [ep]
                  rfl
                | true =>
                  obtain ⟨ca, x1, y1, rfl, hsc, hx1, hy1⟩ := dp_fs ep hdc0
                  have f1 := fit_fst ep fc
                  have f2 := fit_snd ep fc
                  have s45 := s4.trans s5
                  refine ⟨_, rfl, iteF ⟨_, rfl, _, rfl, ca, _, 0, _, rfl, rfl, Same.tup s45 hsc, atI_nat (j := 0) rfl, x, x1, ls, ls', T, fstD c, rfl, kin.same s45, dp_same s45 hx1, f1, fun H6 s6 => ?_⟩⟩
                  have s46 := s45.trans s6
                  cases ek : areKD (nms ls) (fstD c) with
                  | false =>
                    refine ⟨_, rfl, iteT (no ?_ _ s46)⟩
                    unfold clauseD headD
                    rw [ek, Bool.and_false]
                    rfl
                  | true =>
                    refine ⟨_, rfl, iteF ⟨_, rfl, _, c, rfl, dp_same s46 hdc0, fc, ep, fun H7 s7 => ?_⟩⟩
                    have cl : clauseD (nms ls) c = (if passB c = true then guardD (nms ls) (sndD (sndD c)) else plainD (nms ls) (sndD c)) := by
                      unfold clauseD headD
                      rw [ep, ek]
                      rfl
                    have s47 := s46.trans s7
                    have hp7 := (s5.trans (s6.trans s7)) _ _ hp4
                    have ndc := nd_snd c
                    have n2 := nd_snd (sndD c)
                    cases eps : passB c with
                    | true =>
                      rw [eps, if_pos rfl] at cl
                      have ep2 : isPairD (sndD c) = true := (Bool.and_eq_true_iff.mp eps).1
                      obtain ⟨ca2, x2, y2, rfl, hsc2, hx2, hy2⟩ := dp_fs ep2 hy1
                      have lus := dpAll_len hg
                      have lg := ndAll_len gs
                      refine ⟨_, rfl, iteT ⟨_, rfl, .inl ⟨rfl, _, SqL.of hp7⟩, _, rfl, ca, _, 1, _, rfl, rfl, Same.tup s47 hsc, atI_nat (j := 1) rfl, ca2, _, 1, _, rfl, rfl, Same.tup s47 hsc2, atI_nat (j := 1) rfl, p, _, _, rfl, rfl, hp7, (by rw [sizeLine_eq]; omega), ?_⟩⟩
                      have ndp : ndD (sndD (sndD c)) < ndD (sndD c) := by
                        rw [show sndD c = .tuple [fstD (sndD c), sndD (sndD c)] from pair_fs ep2]
                        show ndD (sndD (sndD c)) < ndD (fstD (sndD c)) + (ndD (sndD (sndD c)) + 0) + 1
                        omega
                      refine ⟨_, us ++ [y2], gs ++ [sndD (sndD c)], rfl, same_past np s47, upd_same, dpAll_app hg (.cons hy2 .nil), fun d hm => ?_, ?_, ?_⟩
                      · rcases List.mem_append.mp hm with q | q
                        · exact fgs d q
                        · rw [List.mem_singleton.mp q]
                          exact fit_snd ep2 f2
                      · rw [ndAll_app]
                        show ndAll gs + (ndD (sndD (sndD c)) + 0) + ndAll (cs.drop (j + 1)) + 1 ≤ m
                        omega
                      · rw [← eaj2, cl, List.all_append]
                        show (gs.all _ && (guardD (nms ls) (sndD (sndD c)) && true) && _) = _
                        rw [Bool.and_true, Bool.and_assoc]
                    | false =>
                      rw [eps, if_neg Bool.false_ne_true] at cl
                      refine ⟨_, rfl, iteF ⟨_, rfl, _, rfl, ca, _, 1, _, rfl, rfl, Same.tup s47 hsc, atI_nat (j := 1) rfl, x, y1, ls, ls', T, sndD c, rfl, kin.same s47, dp_same s47 hy1, f2, (by omega), fun H8 s8 => ?_⟩⟩
                      have s48 := s47.trans s8
                      cases epl : plainD (nms ls) (sndD c) with
                      | false =>
                        refine ⟨_, rfl, iteT (no ?_ _ s48)⟩
                        rw [cl, epl]
                      | true =>
                        refine ⟨_, rfl, iteF ?_⟩
                        refine ⟨_, us, gs, rfl, s48, s8 _ _ hp7, hg, fgs, (by omega), ?_⟩
                        rw [← eaj2, cl, epl, Bool.true_and]
              · rintro σ H4 ⟨v4', us, gs, rfl, s4, hp4, hg, fgs, cntj, eaj⟩
                rw [ly, List.drop_length] at cntj eaj
                refine ⟨ndAll gs, ?_, _, _, us, gs, rfl, s4, hp4, hg, fgs, rfl, ?_, ?_⟩
                · have : ndAll gs + 0 + 1 ≤ m := cntj
                  omega
                · have : ndAll gs + 0 + 1 ≤ m := cntj
                  omega
                · have q : (gs.all (guardD (nms ls)) && true) = stackD (nms ls) (.tuple ds0) := eaj
                  rw [Bool.and_true] at q
                  exact q
          | _ =>
            have ea2 : (es.all (guardD (nms ls)) && false) = stackD (nms ls) (.tuple ds0) := ea1
            rw [Bool.and_false] at ea2
            have q := k _ s3
            rw [← ea2] at q
            exact ⟨_, rfl, _, .ty "tuple", _, _, false, rfl, .ty "tuple", ty2, kit_ty (kt_tuple _), false, rfl, iteT q⟩
    | _ => exact ⟨_, rfl, _, .ty "tuple", _, _, false, rfl, .ty "tuple", ty, kit_ty (kt_tuple _), false, rfl, iteT (k _ (Same.refl _))⟩
end
end K1

namespace Own
open PySem PySem.Spec PyProof.Rows L2
/-! defs with keyword-only defaults, where it is known that no repr is under way -/
section
variable {X : Cx} {k n : Nat} {f : Addr} {fd : FuncData} {ps ks : List Str} {sp : Sp} {ds : List Value} {dvs : List V} {E : XK} {x : Str} {p pos : Pos} {e : Expr} {es : List Expr} {t tk : TA} {kws : List Keyword} {g : List Value → List Value → List Value} {gV : List V → List V → List V}
theorem run_gA {pins : List (Addr × Obj)} {σ : L2.St} {H : Hp} {s : Shared} {Q : VK} {us us0 : List Value} {kw : List (Str × Value)} {vs : List V} (F : FnG X.prog X.w X.K X.mg X.base k f fd ps sp) (hc : Calm X.A) (hr : Room k X.A) (b : BindsTo s fd ⟨us0, kw⟩ (ps.zip us)) (I : Inv X pins σ H s) (r : Vals vs us) (h : sp vs H Q E) :
    wpAny (model X.prog X.w) X.A (call (.ref f) us0 kw) (EP X pins σ Q) X.xe s := by
  refine wpAny_call (codeAny_mono (F.run X.A X.stack s H ⟨us0, kw⟩ us vs Q E hc hr I.env0 b r h) fun z s' hz => ?_)
  match z, hz with
  | .error _, hz => exact hz.elim
  | .ok (.ret _), hz => exact I.after hz
  | .ok .next, hz => exact hz.elim
  | .ok .brk, hz => exact hz.elim
  | .ok .cont, hz => exact hz.elim
/-- f(e, ..), the defaults fill up -/
theorem pe_callGD (F : FnG X.prog X.w X.K X.mg X.base k f fd ps sp) (hc : Calm X.A) (hr : Room k X.A) (hg : Gl X x) (hm : X.mg x = some (.ref f)) (hk : PySem.W.keepIn X.K (.ref f) = true) (hb : Binds X.K fd ps ds) (hd : Vals dvs ds) (ha : PA X (e :: es) t)
    (hdb : (x == ("__debug__" : Str)) = false := by decide) (hst : starEach (e :: es) X.env = (false, eval e X.env) :: starEach es X.env := by rfl) (hno : (backTo pos (starEach es X.env)).any (·.1) = false := by rfl) :
    PE X (.Call (.Name x p) (e :: es) [] pos) (tCall sp dvs E t) := by
  refine ⟨fun pins s σ H Q I q => wpAny_Call_Name_kw (ld_glob I hg hm (PySem.W.callWith_K (h₀ := X.base) I.ok.mod.kin hk (thn (ha.run pos pins s σ H _ I q) fun us s1 hq => ?_) hst hno) hdb)⟩
  obtain ⟨vs, H1, I1, r1, q1⟩ := hq
  have r2 : Vals (vs ++ dvs) (us ++ ds) := r1.append hd
  have hl : (us ++ ds).length = ps.length := by rw [← r2.length]; exact F.len _ _ _ _ q1
  exact ⟨I1.kIn, run_gA F hc hr (hb s1 us I1.kIn hl) I1 r2 q1⟩
/-- f(k = v, ..), no value by place -/
theorem pe_callKG (F : FnG X.prog X.w X.K X.mg X.base k f fd ps sp) (hc : Calm X.A) (hr : Room k X.A) (hg : Gl X x) (hm : X.mg x = some (.ref f)) (hk : PySem.W.keepIn X.K (.ref f) = true) (hb : KBn X.K fd ps 0 ks g gV) (hkw : PK X kws tk)
    (hal : (backToKw pos (keywordEach kws X.env)).all (·.1.isSome) = true := by rfl) (hks : (backToKw pos (keywordEach kws X.env)).filterMap (·.1) = ks := by rfl) (hdb : (x == ("__debug__" : Str)) = false := by decide)
    (hno : ((backTo pos (starEach [] X.env)).any (·.1) || (backToKw pos (keywordEach kws X.env)).any (·.1.isNone)) = false := by rfl) : PE X (.Call (.Name x p) [] kws pos) (tCallK ks.length sp (gV []) E tk) := by
  refine ⟨fun pins s σ H Q I h => wpAny_Call_Name_kw (ld_glob I hg hm ?_ hdb)⟩
  refine PySem.W.callWith_KW0 (h₀ := X.base) (first := []) I.ok.mod.kin hk hal (thn (hkw.run pos pins s σ H _ I h) fun ws s2 hw => ?_) hno
  obtain ⟨zs, H2, I2, rz, l, q⟩ := hw
  refine ⟨I2.kIn, ?_⟩
  rw [hks]
  exact run_gA F hc hr (hb.to s2 [] ws I2.kIn rfl (rz.length.symm.trans l)) I2 (hb.rel .nil rz) q
end
section
variable {K : PySem.W.Frag} {x qual : Str} {st : Stmt} {dvs : List V} {kws : List (Str × V)} {f : Addr} {fd : FuncData} {ps : List Str}
/-- a def with defaults: its promise by its body -/
theorem okGD {P : Program} {w : World} {mg : Str → Option Value} {base : Heap} {N : List Str} {k : Nat} {sp : Sp} (F : FunD K x qual (defArgs st) (defBody st) (defScope st) dvs kws f fd) (S : FnScope N ps (defScope st)) (len : ∀ vs H Q E, sp vs H Q E → vs.length = ps.length)
    (hbody : ∀ (cdv : Value) (A : Around) (out : List Env) (s : Shared) (H : Hp) (vs : List V) (Q : VK) (E : XK), Calm (A.deeper (envOfC qual (defScope st) s.heap.objs.size f cdv)) → Room k (A.deeper (envOfC qual (defScope st) s.heap.objs.size f cdv)) → sp vs H Q E →
      ∃ t, PSs (cxOf CX0 P w K mg base N qual (defScope st) f cdv A out s H E).nox (defBody st) t ∧ t { nx := fun _ H' => Q .non H', rt := Q } (start N vs) H) : FnG P w K mg base (k + 1) f fd ps sp := by
  obtain ⟨oc, od, dV, kV, doc, pm, an, cdv, ct, osl, rfl, lk, hcd, _, _⟩ := F.ex
  refine ⟨len, fun A out s H args us vs Q E hc hr e0 hb r h => ?_⟩
  have kin := e0.mod.kin.keeps fun b o q => (e0.bs b o q).1
  have nolim := e0.mod.nolimit.keeps fun b o q => (e0.bs b o q).1
  have names : ∀ y ∈ ps.zip us, (defScope st).names.lookup y.1 = some .local ∨ ((defScope st).names.lookup y.1 = some .cell ∧ ((cellsFrom (s.heap.objs.size + 1) (defScope st).names []).lookup y.1).isSome = true) := fun y hy =>
    (S.par y.1 (List.of_mem_zip (a := y.1) (b := y.2) hy).1).imp id fun q => ⟨q, PySem.W.cellsFrom_some _ _ _ (.inl q)⟩
  refine codeAny_call_function hr.depth (kin _ _ lk) rfl S.co S.gen rfl (PySem.W.codeRec_of kin hcd) (hb _ _ _ _ (wpAny_newFunctionEnv_cells S.kind names fun env he s1 c => ?_))
  subst he
  obtain ⟨t, ht, q⟩ := hbody cdv A out s H vs Q E (hc.deeper _) (hr.deeper _) h
  refine ⟨nolim.keeps c.toInCall.keep, codeAny_func (wpAny_mono (ht.nox.run [] s1 (start N vs) H _ (inv_start S hr.hd e0 (len _ _ _ _ h) r c) q) (fun fl s' z => ?_) fun _ _ z => z)⟩
  match fl, z with
  | .ret u, ⟨v, σ', H', J, rv, q⟩ => exact ⟨v, H', J.os, J.bare, J.base, J.hok, rv, q⟩
  | .next, ⟨σ', H', J, q⟩ => exact ⟨V.non, H', J.os, J.bare, J.base, J.hok, rfl, q⟩
  | .brk, ⟨_, _, _, q⟩ => exact q.elim
  | .cont, ⟨_, _, _, q⟩ => exact q.elim
variable {params : Arguments} {body : List Stmt} {scope : Scope}
/-- f(k = v, ..): keyword-only defaults, no others; ms lack -/
theorem kbinds0 (F : FunD K x qual params body scope [] kws f fd) (n : Nat) (ks : List Str) (ms : List (Str × V)) (g : {α : Type} → List α → List α → List α → List α) (hk : kws ≠ []) (hms : ∀ q ∈ ms, q ∈ kws)
    (hrel : ∀ {vs mz zs : List V} {us mv ws : List Value}, Vals vs us → Vals mz mv → Vals zs ws → Vals (g vs mz zs) (g us mv ws))
    (h : ∀ (D : Addr) (doc pm : Value) (an : Option Addr) (cdv ct : Value) (us mv ws : List Value), us.length = n → mv.length = ms.length → ws.length = ks.length →
      KwChain D ((ms.map (·.1)).zip mv) (bindArgs (PySem.W.fnOf x qual params body scope .none (.ref D) doc pm an cdv ct) ⟨us, ks.zip ws⟩) (ps.zip (g us mv ws))) :
    ∃ mv : List Value, KBn K fd ps n ks (fun us ws => g us mv ws) (fun vs zs => g vs (ms.map (·.2)) zs) := by
  obtain ⟨oc, od, dV, kV, doc, pm, an, cdv, ct, osl, rfl, lk, hcd, hD, hK⟩ := F.ex
  rcases hD with ⟨_, rfl⟩ | ⟨e, _⟩
  · rcases hK with e | ⟨D, rfl, hq⟩
    · exact absurd e hk
    · obtain ⟨mv, hl, rk, hks⟩ := kwd_vals (ms := ms) fun q hm => hq q (hms q hm)
      refine ⟨mv, ⟨fun s us ws X l1 l2 => ?_, fun r1 r2 => hrel r1 rk r2⟩⟩
      exact BindsTo.of_looks fun M => KwChain.looks X hks (h D doc pm an cdv ct us mv ws l1 hl l2)
  · exact absurd rfl e
end
end Own

namespace K1
open PySem PySem.Spec PyProof.Rows L2 Own LamX
/-! ### handled -/
def spCheckRun (C : Addr) (K : PySem.W.Frag) : Sp := fun vs H Q _ => ∃ x vg vt ls ls' T gd d, vs = [.ref x, vg, vt] ∧ KIn C H x ls ls' T ∧ Dp K H vg gd ∧ Fit gd ∧ ndD gd ≤ 10000000 ∧ stackD (nms ls) gd = true ∧ Dp K H vt d ∧ Fit d ∧ ndD d ≤ 1000000 ∧ treeD (nms ls) d = true ∧ ∀ H', Same H H' → Q .non H'
/-- what a stack makes of a tree at last -/
def handD (T : Tb) (f : Int) (n : Nat) : List (List Clause) → PyData → List Str → Option PyData
  | [], d, _ => some d
  | cs :: r, d, zs => match outD (runD T f n cs d zs).1.1 (runD T f n cs d zs).1.2 with
    | none => none
    | some e => handD T f n r e (runD T f n cs d zs).2
theorem stat_last {T : Tb} {f : Int} {n : Nat} : ∀ (gs : List (List Clause)) (d : PyData) (zs : List Str), ∃ pre, some d :: (statD T f n gs d zs).1 = pre ++ [handD T f n gs d zs]
  | [], d, zs => ⟨[], rfl⟩
  | cs :: r, d, zs => by
    cases e : outD (runD T f n cs d zs).1.1 (runD T f n cs d zs).1.2 with
    | none =>
      rw [stat_none e]
      refine ⟨[some d], ?_⟩
      rw [handD, e]
      rfl
    | some y =>
      rw [stat_some e]
      obtain ⟨pre, h⟩ := stat_last (T := T) (f := f) (n := n) r y (runD T f n cs d zs).2
      refine ⟨some d :: pre, ?_⟩
      rw [handD, e]
      exact congrArg (some d :: ·) h
def noT (H : Hp) : Hp := fun a => match H a with
  | some (.tbl _) => none
  | o => o
theorem noT_of {H : Hp} {a : Addr} {o : HO} (h : H a = some o) (n : ∀ ps, o ≠ .tbl ps) : noT H a = some o := by
  unfold noT
  rw [h]
  cases o <;> first | rfl | exact absurd rfl (n _)
theorem noT_at {H : Hp} {a : Addr} {o : HO} (h : noT H a = some o) : H a = some o ∧ ∀ ps, o ≠ .tbl ps := by
  unfold noT at h
  cases e : H a with
  | none =>
    rw [e] at h
    cases h
  | some u =>
    rw [e] at h
    cases u <;> first | (cases h; exact ⟨rfl, fun _ z => nomatch z⟩) | cases h
theorem KIn.noT {C : Addr} {H : Hp} {x : Addr} {ls ls' : List Ln} {T : Tb} (h : KIn C H x ls ls' T) : KIn C (noT H) x ls ls' T := by
  obtain ⟨⟨dx, r, d, rs, kvs, hx, hr, pr, hd, pk⟩, so, tab⟩ := h
  exact ⟨⟨dx, r, d, rs, kvs, noT_of hx (fun _ z => nomatch z), noT_of hr (fun _ z => nomatch z), paired_imp (fun _ _ ⟨t, b, e, _, _, h1, h2⟩ => ⟨t, b, e, trivial, trivial, noT_of h1 (fun _ z => nomatch z), noT_of h2 (fun _ z => nomatch z)⟩) pr, noT_of hd (fun _ z => nomatch z),
    paired_imp (fun _ _ ⟨a, q, _, c, z⟩ => ⟨a, q, trivial, c, noT_of z (fun _ z => nomatch z)⟩) pk⟩, so, tab⟩
theorem KIn.kb {C : Addr} {H H' : Hp} {x l : Addr} {ls ls' : List Ln} {T : Tb} (h : KIn C H x ls ls' T) (s : Same H H') (nl : H l = none) : KB C (K1.noT H) H' l x ls ls' T :=
  ⟨h.noT, fun b o e => s b o (noT_at e).1, fun b o e => (noT_at e).2, by
    unfold K1.noT
    rw [nl]⟩
def spHandled (C C2 : Addr) (TT : List (Addr × Str)) (K : PySem.W.Frag) (n : Nat) : Sp := fun vs H Q _ => ∃ x vg vt ls ls' T f gs d, vs = [.ref x, vg, vt, .int f] ∧ KIn C H x ls ls' T ∧ Tabs TT H ∧ star ∉ nms ls ∧ (nms ls).length ≤ 60 ∧ Dp K H vg (.tuple (gs.map encG)) ∧ Fit (.tuple (gs.map encG)) ∧ ndD (.tuple (gs.map encG)) ≤ 10000000 ∧ stackD (nms ls) (.tuple (gs.map encG)) = true ∧ (∀ cs ∈ gs, GuardK (nms ls) n cs) ∧ gs.length ≤ 1000 ∧
  Dp K H vt d ∧ TreeK (nms ls) d ∧ Fit d ∧ ndD d ≤ 1000000 ∧ treeD (nms ls) d = true ∧ SizeOk T f n gs d [] ∧ 0 ≤ f ∧ ∀ H' u, KeepW (fun _ => False) H H' → Tabs TT H' → OptDp K H' u (handD T f n gs d []) → Q u H'
section
variable {P : Program} {w : World} {K : PySem.W.Frag} {mg : Str → Option Value} {base : Heap}
theorem scCheckRun : FnScope ["kinds", "stack", "tree"] ["kinds", "stack", "tree"] (defScope sCheck) := ⟨rfl, rfl, rfl, by decide +kernel, rfl, by decide +kernel, by decide +kernel⟩
theorem ps_neverB {X : Cx} {st : Stmt} : PS X st (fun _ _ _ => False) := ⟨fun _ _ _ _ _ _ h => h.elim⟩
theorem ok_checkRun {C f fS fT : Addr} {fd dS dT : FuncData} (F : Fun K "_check" "_check" sCheck f fd)
    (GS : FnOk P w K mg base CX0 5 fS dS ["kinds", "thing"] (spStack C K)) (kS : PySem.W.keepIn K (.ref fS) = true) (bS : Binds K dS ["kinds", "thing"] []) (mS : mg "is_stack" = some (.ref fS))
    (GT : FnOk P w K mg base CX0 3 fT dT ["kinds", "thing"] (spTree C K)) (kT : PySem.W.keepIn K (.ref fT) = true) (bT : Binds K dT ["kinds", "thing"] []) (mT : mg "is_tree" = some (.ref fT)) :
    FnOk P w K mg base CX0 6 f fd ["kinds", "stack", "tree"] (spCheckRun C K) := by
  refine F.ok scCheckRun (fun vs H Q E h => ?_) (fun cdv A outer s H vs Q E hr h => ?_)
  · obtain ⟨x, vg, vt, ls, ls', T, gd, d, rfl, _⟩ := h
    rfl
  · obtain ⟨x, vg, vt, ls, ls', T, gd, d, rfl, kin, hg, fg, bg, sg, hd, fd_, bd, td, k⟩ := h
    refine ⟨_, pss_cons (ps_if (pt_not (pt_val (pe_call GS hr (by rfl) mS kS bS .nil pass0 (pa_cons (pv 0) (pa_cons (pv 1) pa_nil)))))
        (pss_one ps_neverB)
        pss_nil)
      (pss_one (ps_if (pt_not (pt_val (pe_call GT (hr.mono (by decide)) (by rfl) mT kT bT .nil pass0 (pa_cons (pv 0) (pa_cons (pv 2) pa_nil)))))
        (pss_one ps_neverB)
        pss_nil)), ?_⟩
    refine ⟨_, rfl, _, rfl, x, vg, ls, ls', T, gd, rfl, kin, hg, fg, bg, fun H1 s1 => ?_⟩
    rw [sg]
    refine ⟨_, rfl, iteF ⟨_, rfl, _, rfl, x, vt, ls, ls', T, d, rfl, kin.same s1, dp_same s1 hd, fd_, bd, fun H2 s2 => ?_⟩⟩
    rw [td]
    exact ⟨_, rfl, iteF (k H2 (s1.trans s2))⟩
theorem scHandled : FnScope ["kinds", "stack", "tree", "first"] ["kinds", "stack", "tree", "first"] (defScope sHandled) := ⟨rfl, rfl, rfl, by decide +kernel, rfl, by decide +kernel, by decide +kernel⟩
theorem ok_handled {C C2 f fK fN fS fI : Addr} {fd dK dN dS dI : FuncData} {TT : List (Addr × Str)} {kws : List (Str × V)} {n j : Nat} (hj : 6 ≤ j) (F : FunD K "handled" "handled" (defArgs sHandled) (defBody sHandled) (defScope sHandled) [] kws f fd)
    (GK : FnOk P w K mg base CX0 6 fK dK ["kinds", "stack", "tree"] (spCheckRun C K)) (kK : PySem.W.keepIn K (.ref fK) = true) (bK : Binds K dK ["kinds", "stack", "tree"] []) (mK : mg "_check" = some (.ref fK))
    (GN : FnOk P w K mg base CX0 1 fN dN ["thing"] (spD1 K isNumD)) (kN : PySem.W.keepIn K (.ref fN) = true) (bN : Binds K dN ["thing"] []) (mN : mg "is_number" = some (.ref fN))
    (GS : FnG P w K mg base j fS dS ["kinds", "stack", "tree", "numbers"] (spRunStack C C2 TT K n)) (kS : PySem.W.keepIn K (.ref fS) = true) (bS : Binds K dS ["kinds", "stack", "tree", "numbers"] []) (mS : mg "run_stack" = some (.ref fS))
    (M : Mk K C2 fI) (GI : FnOk P w K mg base CX0 1 fI dI ["self", "first"] (spNumInit C2)) (bI : Binds K dI ["self", "first"] []) (mI : mg "Numbers" = some (.ref C2)) :
    FnG P w K mg base (j + 1) f fd ["kinds", "stack", "tree", "first"] (spHandled C C2 TT K n) := by
  refine okGD F scHandled (fun vs H Q E h => ?_) (fun cdv A out s H vs Q E hc hr h => ?_)
  · obtain ⟨x, vg, vt, ls, ls', T, g, gs, d, rfl, _⟩ := h
    rfl
  · obtain ⟨x, vg, vt, ls, ls', T, g, gs, d, rfl, kin, tabs, nst, few, hg, fg, bg, sg, gk, lg, hd, td, fd_, bd, ttd, so, g0, k⟩ := h
    have hr1 : Room 1 _ := hr.mono (by omega)
    have hr2 : Room 2 _ := hr.mono (by omega)
    have hr6 : Room 6 _ := hr.mono (by omega)
    refine ⟨_, pss_cons (ps_expr (pe_call GK hr6 (by rfl) mK kK bK .nil pass0 (pa_cons (pv 0) (pa_cons (pv 1) (pa_cons (pv 2) pa_nil)))))
      (pss_cons (ps_if (pt_not (pt_val (pe_call GN hr1 (by rfl) mN kN bN .nil pass0 (pa_cons (pv 3) pa_nil))))
        (pss_one ps_neverB)
        pss_nil)
      (pss_one (ps_ret (pe_ix ix_list (pe_callG (E := fun _ _ _ => False) GS hc hr (by rfl) mS kS bS (pa_cons (pv 0) (pa_cons (pv 1) (pa_cons (pv 2) (pa_cons (pe_make M GI hr2 (by rfl) mI bI .nil pass0 (pa_cons (pv 3) pa_nil)) pa_nil))))) pe_negB (fun _ _ => rfl))))), ?_⟩
    refine ⟨_, rfl, _, rfl, _, rfl, x, vg, vt, ls, ls', T, _, d, rfl, kin, hg, fg, bg, sg, hd, fd_, bd, ttd, fun H1 s1 => ?_⟩
    refine ⟨_, rfl, .int g, .int g, rfl, .int g, ⟨rfl, by show 0 ≤ 60; decide⟩, fun H2 s2 => ?_⟩
    rw [show isNumD (.int g) = true from decide_eq_true g0]
    refine ⟨_, rfl, iteF ?_⟩
    have s12 := s1.trans s2
    refine ⟨_, rfl, _, rfl, _, rfl, _, rfl, fun y dx ny ndx nxy => ?_⟩
    have sm : Same H2 (upd (upd H2 dx (.own y)) y (.ins C2 dx [])) := (same_upd ndx).trans (same_upd (by rw [upd_ne (fun z => nxy z.symm)]; exact ny))
    have hy := upd_same (H := upd H2 dx (.own y)) (a := y) (o := .ins C2 dx [])
    generalize upd (upd H2 dx (.own y)) y (.ins C2 dx []) = Hm at sm hy ⊢
    refine ⟨y, g, dx, rfl, hy, fun H3 l keep nl num => ⟨rfl, ?_⟩⟩
    have s3 : Same H2 H3 := fun b o e => keep b o (fun z => by rw [z, ny] at e; cases e) (sm b o e)
    have s13 := s12.trans s3
    have nl2 : H2 l = none := sm.free nl
    refine ⟨x, vg, vt, y, ls, ls', T, K1.noT H2, l, g, [], gs, d, rfl, (kin.same s12).kb s3 nl2, tabs_same tabs s13, nst, few, dp_same s13 hg, gk, lg, dp_same s13 hd, td, so, num, fun H4 q us kw tb nu hq hus oq => ?_⟩
    obtain ⟨pre, ep⟩ := stat_last (T := T) (f := g) (n := n) gs d []
    rw [ep] at hus
    obtain ⟨rs, v, rfl, _, hv⟩ := paired_lastB hus
    exact ⟨q, _, -1, v, rfl, rfl, SqL.of hq, atI_last, k H4 v (kw.own s13 fun b hb => .inr (by rw [show b = l from hb]; exact s12.free nl2)) tb hv⟩
end
end K1

namespace K1
open PySem PySem.Spec PyProof.Rows L2 Own
/-! ### forms drawn -/
def fmsgs : List Str := ["", "note", "x"]
def FormN (ns : List Str) : Bool → Nat → PyData → Prop
  | p, 0, d => if p = true then d = .str "*" else ∃ z, z ∈ ns ∧ d = .str z
  | p, n + 1, d => (if p = true then d = .str "*" else ∃ z, z ∈ ns ∧ d = .str z) ∨ ∃ m cs at_, d = .tuple [.str m, .tuple cs] ∧ m ∈ fmsgs ∧ 1 ≤ cs.length ∧ cs.length ≤ 3 ∧ at_ < cs.length ∧ ∀ i c, cs[i]? = some c → FormN ns (p && decide (i = at_)) n c
def BaseN (ns : List Str) (p : Bool) (d : PyData) : Prop := if p = true then d = .str "*" else ∃ z, z ∈ ns ∧ d = .str z
theorem FormN.base {ns : List Str} {p : Bool} {d : PyData} (h : BaseN ns p d) : ∀ n, FormN ns p n d
  | 0 => h
  | _ + 1 => .inl h
theorem base_str {ns : List Str} {p : Bool} {d : PyData} (h : BaseN ns p d) : ∃ z, d = .str z ∧ (z = "*" ∨ z ∈ ns) := by
  unfold BaseN at h
  cases p with
  | true =>
    rw [if_pos rfl] at h
    exact ⟨_, h, .inl rfl⟩
  | false =>
    rw [if_neg Bool.false_ne_true] at h
    obtain ⟨z, hz, e⟩ := h
    exact ⟨z, e, .inr hz⟩
theorem form_flat {ns : List Str} : ∀ (n : Nat) (p : Bool) (d : PyData), FormN ns p n d → noList d = true
  | 0, p, d, h => by
    obtain ⟨z, rfl, _⟩ := base_str h
    rfl
  | n + 1, p, d, h => by
    rcases h with h | ⟨m, cs, at_, rfl, hm, l1, l3, la, hc⟩
    · obtain ⟨z, rfl, _⟩ := base_str h
      rfl
    · show (true && (noListAll cs && true)) = true
      rw [noListAll_of fun c hcm => by
        obtain ⟨i, hi, e⟩ := List.getElem_of_mem hcm
        exact form_flat n _ c (hc i c (by rw [List.getElem?_eq_getElem hi, e]))]
      rfl
theorem three {d : Int} (h0 : 0 ≤ d) (h1 : d < 3) : ∃ m, atI [V.str "", V.str "note", V.str "x"] d = some (V.str m) ∧ m ∈ fmsgs := by
  have c : d = 0 ∨ d = 1 ∨ d = 2 := by omega
  rcases c with e | e | e
  · subst e
    exact ⟨_, rfl, by decide +kernel⟩
  · subst e
    exact ⟨_, rfl, by decide +kernel⟩
  · subst e
    exact ⟨_, rfl, by decide +kernel⟩
theorem wide3 {n : Nat} (h0 : 1 ≤ n) (h1 : n ≤ 2) : ∃ u : Nat, atI [V.int 3, V.int 3, V.int 2] ((n : Nat) : Int) = some (V.int (u : Int)) ∧ 1 ≤ u ∧ u ≤ 3 := by
  have c : n = 1 ∨ n = 2 := by omega
  rcases c with e | e
  · subst e
    exact ⟨3, rfl, by decide, by decide⟩
  · subst e
    exact ⟨2, rfl, by decide, by decide⟩
def spRF (K : PySem.W.Frag) (m : Nat) : Sp := fun vs H Q _ => ∃ (s a : Addr) (ns : List Str) (p : Bool) (n : Nat), vs = [.ref s, .ref a, .bl p, .int (n : Nat)] ∧ n < m ∧ n ≤ 2 ∧ Src H s ∧ H a = some (.lst (ns.map V.str)) ∧ 1 ≤ ns.length ∧ ns.length ≤ 8 ∧ (∀ x ∈ ns, NameOk x) ∧
  ∀ H' v d, Keep s H H' → Src H' s → Dp K H' v d → FormN ns p n d → Q v H'
section
variable {P : Program} {w : World} {K : PySem.W.Frag} {mg : Str → Option Value} {base : Heap}
abbrev nF : List Str := ["source", "labels", "has_part", "depth", "many", "at", "some", "k"]
theorem form_none {f : Addr} {fd : FuncData} : FnOk P w K mg base CX0 1 f fd ["source", "labels", "has_part", "depth"] (spRF K 0) := by
  have no : ∀ vs H Q E, ¬ spRF K 0 vs H Q E := fun vs H Q E ⟨_, _, _, _, _, _, h, _⟩ => Nat.not_lt_zero _ h
  exact ⟨fun vs H Q E h => absurd h (no vs H Q E), fun A out s H args us vs Q E _ _ _ _ h => absurd h (no vs H Q E)⟩
end
end K1

namespace K1
open PySem PySem.Spec PyProof.Rows L2 Own
/-! ### layers drawn -/
theorem q_join {t : TS} {D : Ends} {σ : L2.St} {H : Hp} (R : L2.St → Hp → Prop) (done : ∀ σ' H', R σ' H' → D.nx σ' H') (h : ∀ N : L2.St → Hp → Prop, (∀ σ' H', R σ' H' → N σ' H') → t { D with nx := N } σ H) : t D σ H := h D.nx done
theorem flat_all {R : PyData → Prop} (fl : ∀ d, R d → noList d = true) {ds : List PyData} (h : ∀ d ∈ ds, R d) : noListAll ds = true := noListAll_of fun d hd => fl d (h d hd)
/-- [call(..) for k in range(..)]: data, each R -/
theorem lc_data {K : PySem.W.Frag} {s : Addr} {G : Hp} {R : PyData → Prop} (fl : ∀ d, R d → noList d = true) {lo : Int} {n j : Nat} {te : TE} {vs : List Nat} {σ : L2.St} {H1 : Hp} {D : Addr} {Qd : Hp → Prop} (hG : Keep s G H1) (src : Src H1 s) (nD : H1 D = none) (few : n ≤ 1000) (hw : ∀ x, wipe ((wipe σ vs).set j (some x)) vs = wipe σ vs)
    (step : ∀ i H (Q : VK), i < n → Keep s G H → Src H s → (∀ H' v d, Keep s H H' → Src H' s → Dp K H' v d → R d → Q v H') → te ((wipe σ vs).set j (some (.int (lo + i)))) H Q)
    (done : ∀ H us ds, Keep s G H → Src H s → H D = some (.lst us) → DpAll K H us ds → ds.length = n → (∀ d ∈ ds, R d) → Qd H) :
    ∃ W : Nat → Nat → Hp → Prop, (∃ m, W 0 m (upd H1 D (.lst []))) ∧ ∀ i m H, W i m H →
      ((Itr lo n).stop i H ∧ Qd H) ∨ ((Itr lo n).go i H ∧ ∃ Nx : Hp → Prop, (∀ H', Nx H' → ∃ m', m' < m ∧ W (i + 1) m' H') ∧ ∀ x H', (Itr lo n).yld i H x H' → gName j x (wipe σ vs) H' fun σ2 H2 => wipe σ2 vs = wipe σ vs ∧ tYes σ2 H2 fun b H3 =>
        if b = true then te σ2 H3 fun y H4 => ∃ acc, H4 D = some (.lst acc) ∧ acc.length < sizeLine ∧ Nx (upd H4 D (.lst (acc ++ [y]))) else Nx H3) := by
  have Ds : D ≠ s := fun e => by
    obtain ⟨x, y, z, _⟩ := src
    rw [e, z] at nD
    cases nD
  have nDG : G D = none := hG.free src nD
  refine lc_range (lo := lo) (n := n) (fun i H' => Keep s G H' ∧ Src H' s ∧ ∃ us ds, H' D = some (.lst us) ∧ DpAll K H' us ds ∧ ds.length = i ∧ ∀ d ∈ ds, R d) ⟨hG.new nD, src.new nD, [], [], upd_same, .nil, rfl, fun _ h => nomatch h⟩ ?_ ?_
  · rintro i H' hi ⟨kp, sr, us, ds, hD, ha, dl, each⟩
    have flat := flat_all fl each
    have lu := dpAll_len ha
    refine ⟨hw _, step i H' _ hi kp sr fun H'' v d k2 sr2 hd rd => ?_⟩
    have hD2 := k2 D _ Ds hD
    have st : Stay H' H'' := k2.stay sr
    have stc := stay_upd (o := .lst (us ++ [v])) hD2
    refine ⟨us, hD2, small1000 (by omega), (kp.trans k2).put nDG, sr2.put Ds, us ++ [v], ds ++ [d], upd_same, dpAll_app (dpAll_stay (st.trans stc) ha flat) (.cons (dp_stay stc hd (fl d rd)) .nil), ?_, fun e he => ?_⟩
    · rw [List.length_append, dl]
      rfl
    · rcases List.mem_append.mp he with q | q
      · exact each e q
      · rw [List.mem_singleton.mp q]
        exact rd
  · rintro H' ⟨kp, sr, us, ds, hD, ha, dl, each⟩
    exact done H' us ds kp sr hD ha dl each
def LabsN (ns : List Str) (d : PyData) : Prop := ∃ zs : List Str, d = .tuple (zs.map .str) ∧ 1 ≤ zs.length ∧ zs.length ≤ 2 ∧ ∀ z ∈ zs, z ∈ ns
def ActN (ns : List Str) (R : PyData → Prop) (d : PyData) : Prop := d = .str "drop" ∨ d = .str "back" ∨ (∃ l, LabsN ns l ∧ d = .tuple [.str "keep", l]) ∨ (∃ p f, FormN ns p 2 f ∧ d = .tuple [.str "raise", f]) ∨ ∃ g, R g ∧ d = .tuple [.str "pass", g]
def ClauseN (ns : List Str) (R : PyData → Prop) (d : PyData) : Prop := ∃ l a, LabsN ns l ∧ ActN ns R a ∧ d = .tuple [l, a]
def LayerN (ns : List Str) : Nat → PyData → Prop
  | 0, d => ∃ cs, d = .tuple cs ∧ cs.length ≤ 4 ∧ ∀ c ∈ cs, ClauseN ns (fun _ => False) c
  | n + 1, d => ∃ cs, d = .tuple cs ∧ cs.length ≤ 4 ∧ ∀ c ∈ cs, ClauseN ns (LayerN ns n) c
def LayersN (ns : List Str) (M : Nat) (d : PyData) : Prop := ∃ gs, d = .tuple gs ∧ gs.length ≤ M ∧ ∀ g ∈ gs, LayerN ns 2 g
def innerR (ns : List Str) : Nat → PyData → Prop
  | 0 => fun _ => False
  | n + 1 => LayerN ns n
theorem layer_of {ns : List Str} (n : Nat) (d : PyData) : LayerN ns n d = ∃ cs, d = .tuple cs ∧ cs.length ≤ 4 ∧ ∀ c ∈ cs, ClauseN ns (innerR ns n) c := by cases n <;> rfl
theorem labs_flat {ns : List Str} {d : PyData} (h : LabsN ns d) : noList d = true := by
  obtain ⟨zs, rfl, _⟩ := h
  exact noListAll_of fun d hd => by
    obtain ⟨z, _, rfl⟩ := List.mem_map.mp hd
    rfl
theorem act_flat {ns : List Str} {R : PyData → Prop} (fl : ∀ d, R d → noList d = true) {d : PyData} (h : ActN ns R d) : noList d = true := by
  rcases h with rfl | rfl | ⟨l, hl, rfl⟩ | ⟨p, f, hf, rfl⟩ | ⟨g, hg, rfl⟩
  · rfl
  · rfl
  · show (true && (noList l && true)) = true
    rw [labs_flat hl]
    rfl
  · show (true && (noList f && true)) = true
    rw [form_flat 2 p f hf]
    rfl
  · show (true && (noList g && true)) = true
    rw [fl g hg]
    rfl
theorem clause_flat {ns : List Str} {R : PyData → Prop} (fl : ∀ d, R d → noList d = true) {d : PyData} (h : ClauseN ns R d) : noList d = true := by
  obtain ⟨l, a, hl, ha, rfl⟩ := h
  show (noList l && (noList a && true)) = true
  rw [labs_flat hl, act_flat fl ha]
  rfl
theorem layer_flat {ns : List Str} : ∀ (n : Nat) (d : PyData), LayerN ns n d → noList d = true
  | 0, d, h => by
    obtain ⟨cs, rfl, _, hc⟩ := h
    exact noListAll_of fun c hcm => clause_flat (fun _ z => z.elim) (hc c hcm)
  | n + 1, d, h => by
    obtain ⟨cs, rfl, _, hc⟩ := h
    exact noListAll_of fun c hcm => clause_flat (layer_flat n) (hc c hcm)
theorem inner_flat {ns : List Str} : ∀ (n : Nat) (d : PyData), innerR ns n d → noList d = true
  | 0, _, h => h.elim
  | n + 1, d, h => layer_flat n d h
def spLabs (K : PySem.W.Frag) : Sp := fun vs H Q _ => ∃ (s a : Addr) (ns : List Str), vs = [.ref s, .ref a] ∧ Src H s ∧ H a = some (.lst (ns.map V.str)) ∧ 1 ≤ ns.length ∧ ns.length ≤ 8 ∧ ∀ H' v d, Keep s H H' → Src H' s → Dp K H' v d → LabsN ns d → Q v H'
section
variable {P : Program} {w : World} {K : PySem.W.Frag} {mg : Str → Option Value} {base : Heap}
end
theorem q_nxs {t u : TS} {D : Ends} {r b c} {σ : L2.St} {H : Hp} (h : t { D with nx := u D } σ H) : Ends.nx ⟨tSeq t u D, r, b, c⟩ σ H := h
def spRL (K : PySem.W.Frag) (m : Nat) : Sp := fun vs H Q _ => ∃ (s a : Addr) (ns : List Str) (n : Nat), vs = [.ref s, .ref a, .int (n : Nat)] ∧ n < m ∧ n ≤ 2 ∧ Src H s ∧ H a = some (.lst (ns.map V.str)) ∧ 1 ≤ ns.length ∧ ns.length ≤ 8 ∧ (∀ x ∈ ns, NameOk x) ∧ ∀ H' v d, Keep s H H' → Src H' s → Dp K H' v d → LayerN ns n d → Q v H'
def spRLs (K : PySem.W.Frag) : Sp := fun vs H Q _ => ∃ (s a : Addr) (ns : List Str) (M : Nat), vs = [.ref s, .ref a, .int (M : Nat)] ∧ M ≤ 10 ∧ Src H s ∧ H a = some (.lst (ns.map V.str)) ∧ 1 ≤ ns.length ∧ ns.length ≤ 8 ∧ (∀ x ∈ ns, NameOk x) ∧ ∀ H' v d, Keep s H H' → Src H' s → Dp K H' v d → LayersN ns M d → Q v H'
section
variable {P : Program} {w : World} {K : PySem.W.Frag} {mg : Str → Option Value} {base : Heap}
theorem rl_none {f : Addr} {fd : FuncData} : FnOk P w K mg base CX0 5 f fd ["source", "labels", "depth"] (spRL K 0) := by
  have no : ∀ vs H Q E, ¬ spRL K 0 vs H Q E := fun vs H Q E ⟨_, _, _, _, _, h, _⟩ => Nat.not_lt_zero _ h
  exact ⟨fun vs H Q E h => absurd h (no vs H Q E), fun A out s H args us vs Q E _ _ _ _ h => absurd h (no vs H Q E)⟩
end
end K1

namespace K1
open PySem PySem.Spec PyProof.Rows L2 Own
/-! ### groups drawn; is a label under some -/
def gmsgs : List Str := ["all", "", "q"]
def GroupN (ns : List Str) (d : PyData) : Prop := ∃ m cs, d = .tuple [.str m, .tuple cs] ∧ m ∈ gmsgs ∧ 1 ≤ cs.length ∧ cs.length ≤ 4 ∧ ∀ c ∈ cs, TreeN ns 3 c
def spRG (K : PySem.W.Frag) : Sp := fun vs H Q _ => ∃ (s a : Addr) (ns : List Str), vs = [.ref s, .ref a] ∧ Src H s ∧ H a = some (.lst (ns.map V.str)) ∧ 1 ≤ ns.length ∧ ns.length ≤ 8 ∧ (∀ x ∈ ns, NameOk x) ∧ ∀ H' v d, Keep s H H' → Src H' s → Dp K H' v d → GroupN ns d → Q v H'
/-- the law's table: is a label under one of these -/
def undL (T : Tb) (ws : List Str) (z : Str) : Bool := (look T z).any fun x => decide (x ∈ ws)
def spUnd (K : PySem.W.Frag) : Sp := fun vs H Q _ => ∃ O z a T ws, vs = [.ref O, .str z, .ref a] ∧ DictAt All1 H O T ∧ z ∈ T.map (·.1) ∧ (look T z).length ≤ 100 ∧ (SqL K H a (ws.map V.str) ∨ SqT K H a (ws.map V.str)) ∧ ∀ H', Same H H' → Q (.bl (undL T ws z)) H'
theorem look_sameL {S S' : List Str → Prop} {ls ls' : List Ln} {T T' : Tb} (ok : LnsOk ls) (a : Alike ls ls') (h : Tab S ls T) (h' : Tab S' ls' T') {n : Str} (hn : n ∈ nms ls) : ∀ x, x ∈ look T n ↔ x ∈ look T' n := by
  obtain ⟨l, hl, e⟩ := List.mem_map.mp hn
  obtain ⟨i, hi⟩ := List.mem_iff_getElem?.mp hl
  obtain ⟨y, hy, _⟩ := h.row i l hi
  obtain ⟨l', hl', e1, _⟩ := paired_at a hi
  obtain ⟨y', hy', _⟩ := h'.row i l' hl'
  obtain ⟨_, q⟩ := tab_alike ok a h h' i _ _ _ _ hy hy'
  have ndT : (T.map (·.1)).Nodup := by rw [h.nms]; exact ok.nd
  have ndT' : (T'.map (·.1)).Nodup := by rw [h'.nms, ← a.nms]; exact ok.nd
  intro x
  subst e
  rw [look_at ndT hy, e1, look_at ndT' hy']
  exact q x
/-- the law's word and the program's -/
theorem und_same {S S' : List Str → Prop} {ls ls' : List Ln} {T T' : Tb} (ok : LnsOk ls) (a : Alike ls ls') (h : Tab S ls T) (h' : Tab S' ls' T') {n : Str} (hn : n ∈ nms ls) (ws : List Str) : undL T ws n = underD T' ws n := by
  unfold undL underD
  rw [Bool.eq_iff_iff, List.any_eq_true, List.any_eq_true]
  constructor
  · rintro ⟨x, hx, hw⟩
    exact ⟨x, of_decide_eq_true hw, decide_eq_true ((look_sameL ok a h h' hn x).mp hx)⟩
  · rintro ⟨x, hx, hw⟩
    exact ⟨x, (look_sameL ok a h h' hn x).mpr (of_decide_eq_true hw), decide_eq_true hx⟩
theorem threeG {d : Int} (h0 : 0 ≤ d) (h1 : d < 3) : ∃ m, atI [V.str "all", V.str "", V.str "q"] d = some (V.str m) ∧ m ∈ gmsgs := by
  have c : d = 0 ∨ d = 1 ∨ d = 2 := by omega
  rcases c with e | e | e
  · subst e
    exact ⟨_, rfl, by decide +kernel⟩
  · subst e
    exact ⟨_, rfl, by decide +kernel⟩
  · subst e
    exact ⟨_, rfl, by decide +kernel⟩
end K1

namespace K1
open PySem PySem.Spec PyProof.Rows L2 Own
/-! ### what is drawn: its size, its kinds, what the program asks of it -/
theorem name_star {z : Str} (h : NameOk z) : z ≠ star := fun e => by
  subst e
  have q := h.2.2 42 (by decide +kernel)
  omega
theorem nms_star {ns : List Str} (nok : ∀ z ∈ ns, NameOk z) : star ∉ ns := fun h => name_star (nok _ h) rfl
theorem msgs_msgL : ∀ m ∈ msgs, msgD (.str m) = true := by decide +kernel
theorem gmsgs_msg : ∀ m ∈ gmsgs, msgD (.str m) = true := by decide +kernel
theorem fmsgs_msg : ∀ m ∈ fmsgs, msgD (.str m) = true := by decide +kernel
theorem gmsgs_ok : ∀ m ∈ gmsgs, okD (.str m) = true ∧ m ≠ star := by decide +kernel
theorem fmsgs_ok : ∀ m ∈ fmsgs, okD (.str m) = true ∧ m ≠ star := by decide +kernel
theorem tree_trueL {ns : List Str} : ∀ (n : Nat) (d : PyData), TreeN ns n d → treeD ns d = true := by
  have leaf : ∀ d, LeafN ns d → treeD ns d = true := fun d ⟨z, i, e, hz, i0, _⟩ => by
    subst e
    rw [tree_eq]
    show (decide (z ∈ ns) && decide (0 ≤ i)) = true
    rw [decide_eq_true hz, decide_eq_true i0]
    rfl
  intro n
  induction n with
  | zero => exact leaf
  | succ n ih =>
    intro d h
    rcases h with h | ⟨m, cs, rfl, hm, l1, l4, hc⟩
    · exact leaf d h
    · cases cs with
      | nil => exact absurd l1 (by decide)
      | cons c r =>
        rw [tree_eq]
        rw [show isGroupD (.tuple [.str m, .tuple (c :: r)]) = true from msgs_msgL m hm, if_pos rfl]
        exact List.all_eq_true.mpr fun x hx => ih x (hc x hx)
/-- what is known of a tree that is given to the program -/
structure TreeG (ns : List Str) (D N : Nat) (d : PyData) : Prop where
  tree : TreeK ns d
  ok : okD d = true
  dep : d.depth ≤ D
  nd : ndD d ≤ N
  is : treeD ns d = true
theorem TreeG.fit {ns : List Str} {D N : Nat} {d : PyData} (h : TreeG ns D N d) (hD : D ≤ 60) : Fit d := ⟨h.ok, Nat.le_trans h.dep hD⟩
theorem tree_g {ns : List Str} (nok : ∀ z ∈ ns, NameOk z) {n : Nat} {d : PyData} (h : TreeN ns n d) : TreeG ns (2 * n + 1) (3 * 5 ^ n) d := by
  obtain ⟨a, b, c⟩ := tree_ok nok n d h
  exact ⟨TreeN.k n d h, a, b, c, tree_trueL n d h⟩
theorem leaf_g {ns : List Str} (nok : ∀ z ∈ ns, NameOk z) {z : Str} {i : Int} (hz : z ∈ ns) (hi : 0 ≤ i) : TreeG ns 1 3 (.tuple [.str z, .int i]) := by
  refine ⟨.leaf z i hz, ?_, (by show max 0 (max 0 0) + 1 ≤ 1; decide), Nat.le_refl _, ?_⟩
  · show (true && (okD (.str z) && (okD (.int i) && true))) = true
    rw [name_ok (nok z hz)]
    rfl
  · rw [tree_eq]
    show (decide (z ∈ ns) && decide (0 ≤ i)) = true
    rw [decide_eq_true hz, decide_eq_true hi]
    rfl
theorem group_gL {ns : List Str} {D N : Nat} {m : Str} {cs : List PyData} (hm : msgD (.str m) = true) (mo : okD (.str m) = true) (ms : m ≠ star) (l1 : 1 ≤ cs.length) (l9 : cs.length ≤ 1000) (h : ∀ c ∈ cs, TreeG ns D N c) : TreeG ns (D + 2) (cs.length * N + 3) (.tuple [.str m, .tuple cs]) := by
  refine ⟨.group m cs ms (fun e => by rw [e] at l1; exact absurd l1 (by decide)) fun c hc => (h c hc).tree, ?_, ?_, ?_, ?_⟩
  · show (true && (okD (.str m) && ((decide (cs.length ≤ 1000) && okAll cs) && true))) = true
    rw [mo, decide_eq_true l9, okAll_of fun c hc => (h c hc).ok]
    rfl
  · have q := depAll_le fun c hc => (h c hc).dep
    show max 0 (max (PyData.depthAll cs + 1) 0) + 1 ≤ _
    omega
  · have q := ndAll_le fun c hc => (h c hc).nd
    show (1 + ((ndAll cs + 1) + 0)) + 1 ≤ _
    omega
  · cases cs with
    | nil => exact absurd l1 (by decide)
    | cons c r =>
      rw [tree_eq]
      rw [show isGroupD (.tuple [.str m, .tuple (c :: r)]) = true from hm, if_pos rfl]
      exact List.all_eq_true.mpr fun x hx => (h x hx).is
theorem TreeG.mono {ns : List Str} {D N D' N' : Nat} {d : PyData} (h : TreeG ns D N d) (a : D ≤ D') (b : N ≤ N') : TreeG ns D' N' d := ⟨h.tree, h.ok, Nat.le_trans h.dep a, Nat.le_trans h.nd b, h.is⟩
theorem group_g {ns : List Str} (nok : ∀ z ∈ ns, NameOk z) {d : PyData} (h : GroupN ns d) : TreeG ns 9 1503 d := by
  obtain ⟨m, cs, rfl, hm, l1, l4, hc⟩ := h
  obtain ⟨mo, ms⟩ := gmsgs_ok m hm
  refine (group_gL (gmsgs_msg m hm) mo ms l1 (by omega) fun c hcm => tree_g nok (hc c hcm)).mono (by omega) ?_
  have : cs.length * (3 * 5 ^ 3) ≤ 4 * (3 * 5 ^ 3) := Nat.mul_le_mul_right _ l4
  omega
/-! ### forms -/
theorem sum_one (f : PyData → Option Nat) : ∀ (cs : List PyData) (p : Bool) (a : Nat), (∀ i c, cs[i]? = some c → f c = some (if (p && decide (i = a)) = true then 1 else 0)) → sumS f cs = some (if (p && decide (a < cs.length)) = true then 1 else 0)
  | [], p, a, _ => by
    show some 0 = _
    simp
  | c :: r, p, a, h => by
    have h0 := h 0 c rfl
    show addO (f c) (sumS f r) = _
    rw [h0]
    cases a with
    | zero =>
      rw [sum_one f r false 0 fun i c' e => by
        rw [h (i + 1) c' e]
        simp]
      cases p <;> simp [addO]
    | succ a =>
      rw [sum_one f r p a fun i c' e => by
        rw [h (i + 1) c' e]
        simp]
      cases p <;> simp [addO]
def bF : Nat → Nat
  | 0 => 1
  | n + 1 => 3 * bF n + 3
structure FormG (ns : List Str) (p : Bool) (D N : Nat) (d : PyData) : Prop where
  form : FormK ns d
  ok : okD d = true
  dep : d.depth ≤ D
  nd : ndD d ≤ N
  stars : starsD ns d = some (if p = true then 1 else 0)
theorem base_g {ns : List Str} (nok : ∀ z ∈ ns, NameOk z) {p : Bool} {d : PyData} (h : BaseN ns p d) : FormG ns p 0 1 d := by
  unfold BaseN at h
  cases p with
  | true =>
    rw [if_pos rfl] at h
    subst h
    refine ⟨.str _ (.inl rfl), by decide +kernel, Nat.le_refl _, Nat.le_refl _, ?_⟩
    rw [stars_eq]
    rw [show isGroupD (.str "*") = false from rfl, if_neg Bool.false_ne_true]
    unfold isStar
    rw [eqv_str, decide_eq_true rfl, if_pos rfl, if_pos rfl]
  | false =>
    rw [if_neg Bool.false_ne_true] at h
    obtain ⟨z, hz, rfl⟩ := h
    refine ⟨.str _ (.inr hz), name_ok (nok z hz), Nat.le_refl _, Nat.le_refl _, ?_⟩
    rw [stars_eq]
    rw [show isGroupD (.str z) = false from rfl, if_neg Bool.false_ne_true]
    unfold isStar
    rw [eqv_str, decide_eq_false (show ¬ z = "*" from name_star (nok z hz)), if_neg Bool.false_ne_true, show inD ns (.str z) = true from decide_eq_true hz, if_pos rfl, if_neg Bool.false_ne_true]
theorem form_g {ns : List Str} (nok : ∀ z ∈ ns, NameOk z) : ∀ (n : Nat) (p : Bool) (d : PyData), FormN ns p n d → FormG ns p (2 * n) (bF n) d
  | 0, p, d, h => base_g nok h
  | n + 1, p, d, h => by
    rcases h with h | ⟨m, cs, at_, rfl, hm, l1, l3, la, hc⟩
    · obtain ⟨a, b, c, e, f⟩ := base_g nok h
      exact ⟨a, b, by omega, by show ndD d ≤ 3 * bF n + 3; omega, f⟩
    · have all : ∀ c ∈ cs, ∃ q, FormG ns q (2 * n) (bF n) c := fun c hcm => by
        obtain ⟨i, hi, e⟩ := List.getElem_of_mem hcm
        exact ⟨_, form_g nok n _ c (hc i c (by rw [List.getElem?_eq_getElem hi, e]))⟩
      obtain ⟨mo, ms⟩ := fmsgs_ok m hm
      refine ⟨.group m cs ms (fun e => by rw [e] at l1; exact absurd l1 (by decide)) fun c hcm => (all c hcm).elim fun _ g => g.form, ?_, ?_, ?_, ?_⟩
      · show (true && (okD (.str m) && ((decide (cs.length ≤ 1000) && okAll cs) && true))) = true
        rw [mo, decide_eq_true (by omega), okAll_of fun c hcm => (all c hcm).elim fun _ g => g.ok]
        rfl
      · have q := depAll_le fun c hcm => (all c hcm).elim fun _ g => g.dep
        show max 0 (max (PyData.depthAll cs + 1) 0) + 1 ≤ _
        omega
      · have q := ndAll_le fun c hcm => (all c hcm).elim fun _ g => g.nd
        have r : cs.length * bF n ≤ 3 * bF n := Nat.mul_le_mul_right _ l3
        show (1 + ((ndAll cs + 1) + 0)) + 1 ≤ 3 * bF n + 3
        omega
      · rw [stars_eq]
        rw [show isGroupD (.tuple [.str m, .tuple cs]) = true from by
          cases cs with
          | nil => exact absurd l1 (by decide)
          | cons c r => exact fmsgs_msg m hm, if_pos rfl]
        show sumS (starsD ns) cs = _
        rw [sum_one (starsD ns) cs p at_ fun i c e => (form_g nok n _ c (hc i c e)).stars, decide_eq_true la, Bool.and_true]
theorem FormG.is {ns : List Str} {p : Bool} {D N : Nat} {d : PyData} (h : FormG ns p D N d) : formD ns d = true := by
  unfold formD
  rw [h.stars]
  cases p <;> decide
/-! ### guards -/
theorem labs_g {ns : List Str} (nok : ∀ z ∈ ns, NameOk z) {zs : List Str} (l1 : 1 ≤ zs.length) (l2 : zs.length ≤ 900) (h : ∀ z ∈ zs, z ∈ ns) : okD (.tuple (zs.map .str)) = true ∧ (PyData.tuple (zs.map .str)).depth ≤ 1 ∧ ndD (.tuple (zs.map .str)) ≤ zs.length + 1 ∧ areKD ns (.tuple (zs.map .str)) = true ∧ noList (.tuple (zs.map .str)) = true := by
  refine ⟨?_, ?_, ?_, ?_, ?_⟩
  · show (decide ((zs.map PyData.str).length ≤ 1000) && okAll (zs.map PyData.str)) = true
    rw [List.length_map, decide_eq_true (by omega), okAll_of fun d hd => by
      obtain ⟨z, hz, rfl⟩ := List.mem_map.mp hd
      exact name_ok (nok z (h z hz))]
    rfl
  · have q : PyData.depthAll (zs.map PyData.str) ≤ 0 := depAll_le fun d hd => by
      obtain ⟨z, hz, rfl⟩ := List.mem_map.mp hd
      exact Nat.le_refl _
    show PyData.depthAll (zs.map PyData.str) + 1 ≤ 1
    omega
  · have q : ndAll (zs.map PyData.str) ≤ (zs.map PyData.str).length * 1 := ndAll_le fun d hd => by
      obtain ⟨z, hz, rfl⟩ := List.mem_map.mp hd
      exact Nat.le_refl _
    rw [List.length_map] at q
    show ndAll (zs.map PyData.str) + 1 ≤ _
    omega
  · show (decide (0 < (zs.map PyData.str).length) && (zs.map PyData.str).all (inD ns)) = true
    rw [List.length_map, decide_eq_true (by omega), List.all_eq_true.mpr fun d hd => by
      obtain ⟨z, hz, rfl⟩ := List.mem_map.mp hd
      exact decide_eq_true (h z hz)]
    rfl
  · exact noListAll_of fun d hd => by
      obtain ⟨z, hz, rfl⟩ := List.mem_map.mp hd
      rfl
/-- a guard that is given to the program -/
structure GuardG (ns : List Str) (n D N : Nat) (cs : List Clause) : Prop where
  k : GuardK ns n cs
  ok : okD (encG cs) = true
  dep : (encG cs).depth ≤ D
  nd : ndD (encG cs) ≤ N
  is : guardD ns (encG cs) = true
  flat : noList (encG cs) = true
structure ActG (ns : List Str) (G : List Clause → Prop) (D N : Nat) (a : PyData) : Prop where
  k : ActK ns G a
  ok : okD a = true
  dep : a.depth ≤ D
  nd : ndD a ≤ N
  is : ∀ l, (if passB (.tuple [l, a]) = true then guardD ns (sndD a) else plainD ns a) = true
theorem isPair_two (a b : PyData) : isPairD (.tuple [a, b]) = true := rfl
theorem act_g {ns : List Str} (nok : ∀ z ∈ ns, NameOk z) {R : PyData → Prop} {n D N : Nat} (hD : D ≤ 50) (hR : ∀ g, R g → ∃ cs, g = encG cs ∧ GuardG ns n D N cs) {a : PyData} (h : ActN ns R a) : ActG ns (GuardK ns n) (D + 6) (N + 40) a := by
  have shp : ∀ d : PyData, okD d = true → d.depth ≤ 60 → SeqAt.shaped d = true := fun d a b => Fit.shaped ⟨a, b⟩
  rcases h with rfl | rfl | ⟨l, ⟨zs, rfl, l1, l2, hz⟩, rfl⟩ | ⟨p, f, hf, rfl⟩ | ⟨g, hg, rfl⟩
  · exact ⟨⟨rfl, shaped_drop, .inl rfl⟩, by decide +kernel, Nat.zero_le _, by show 1 ≤ N + 40; omega, fun l => by
      rw [show passB (.tuple [l, .str "drop"]) = false from rfl, if_neg Bool.false_ne_true]
      unfold plainD
      rw [show isPairD (.str "drop") = false from rfl, if_neg Bool.false_ne_true, List.any_cons, eqv_str, decide_eq_true rfl]
      rfl⟩
  · exact ⟨⟨rfl, shaped_back, .inr (.inl rfl)⟩, by decide +kernel, Nat.zero_le _, by show 1 ≤ N + 40; omega, fun l => by
      rw [show passB (.tuple [l, .str "back"]) = false from rfl, if_neg Bool.false_ne_true]
      unfold plainD
      rw [show isPairD (.str "back") = false from rfl, if_neg Bool.false_ne_true, List.any_cons, List.any_cons, eqv_str, eqv_str, decide_eq_true (rfl : ("back" : Str) = "back"), Bool.true_or, Bool.or_true]⟩
  · obtain ⟨b1, b2, b3, b4, b5⟩ := labs_g nok l1 (by omega) hz
    have ok : okD (.tuple [.str "keep", .tuple (zs.map .str)]) = true := by
      show (true && (okD (.str "keep") && (okD (.tuple (zs.map .str)) && true))) = true
      rw [b1]
      decide +kernel
    have dp : (PyData.tuple [.str "keep", .tuple (zs.map .str)]).depth ≤ 2 := by
      show max 0 (max (PyData.tuple (zs.map PyData.str)).depth 0) + 1 ≤ 2
      omega
    refine ⟨⟨?_, shp _ ok (by omega), .inr (.inr (.inl ⟨zs, rfl, by omega⟩))⟩, ok, by omega, ?_, fun l => ?_⟩
    · show (true && (noList (.tuple (zs.map .str)) && true)) = true
      rw [b5]
      rfl
    · show (1 + (ndD (.tuple (zs.map PyData.str)) + 0)) + 1 ≤ _
      omega
    · rw [show passB (.tuple [l, .tuple [.str "keep", .tuple (zs.map .str)]]) = PyData.eqv (.str "keep") (.str "pass") from Bool.true_and _, eqv_str, decide_eq_false (by decide +kernel), if_neg Bool.false_ne_true]
      unfold plainD
      rw [isPair_two, if_pos rfl, show fstD (.tuple [.str "keep", .tuple (zs.map .str)]) = .str "keep" from rfl, eqv_str, decide_eq_true rfl, if_pos rfl]
      exact b4
  · have g := form_g nok 2 p f hf
    have ok : okD (.tuple [.str "raise", f]) = true := by
      show (true && (okD (.str "raise") && (okD f && true))) = true
      rw [g.ok]
      decide +kernel
    have gd : f.depth ≤ 4 := g.dep
    have gn : ndD f ≤ 21 := g.nd
    have dp : (PyData.tuple [.str "raise", f]).depth ≤ 5 := by
      show max 0 (max f.depth 0) + 1 ≤ 5
      omega
    refine ⟨⟨?_, shp _ ok (by omega), .inr (.inr (.inr (.inl ⟨f, rfl, g.form⟩)))⟩, ok, by omega, ?_, fun l => ?_⟩
    · show (true && (noList f && true)) = true
      rw [form_flat 2 p f hf]
      rfl
    · show (1 + (ndD f + 0)) + 1 ≤ _
      omega
    · rw [show passB (.tuple [l, .tuple [.str "raise", f]]) = PyData.eqv (.str "raise") (.str "pass") from Bool.true_and _, eqv_str, decide_eq_false (by decide +kernel), if_neg Bool.false_ne_true]
      unfold plainD
      rw [isPair_two, if_pos rfl, show fstD (.tuple [.str "raise", f]) = .str "raise" from rfl, eqv_str, decide_eq_false (by decide +kernel), if_neg Bool.false_ne_true, eqv_str, decide_eq_true rfl, Bool.true_and]
      exact g.is
  · obtain ⟨cs, rfl, gg⟩ := hR g hg
    have ok : okD (.tuple [.str "pass", encG cs]) = true := by
      show (true && (okD (.str "pass") && (okD (encG cs) && true))) = true
      rw [gg.ok]
      decide +kernel
    have g1 := gg.dep
    have g2 := gg.nd
    have dp : (PyData.tuple [.str "pass", encG cs]).depth ≤ D + 1 := by
      show max 0 (max (encG cs).depth 0) + 1 ≤ D + 1
      omega
    refine ⟨⟨?_, shp _ ok (by omega), .inr (.inr (.inr (.inr ⟨cs, rfl, gg.k⟩)))⟩, ok, by omega, ?_, fun l => ?_⟩
    · show (true && (noList (encG cs) && true)) = true
      rw [gg.flat]
      rfl
    · show (1 + (ndD (encG cs) + 0)) + 1 ≤ _
      omega
    · rw [show passB (.tuple [l, .tuple [.str "pass", encG cs]]) = PyData.eqv (.str "pass") (.str "pass") from Bool.true_and _, eqv_str, decide_eq_true rfl, if_pos rfl]
      exact gg.is
theorem guard_g {ns : List Str} (nok : ∀ z ∈ ns, NameOk z) {n D N : Nat} {cs : List Clause} (few : cs.length ≤ 900) (h : ∀ c ∈ cs, 1 ≤ c.1.length ∧ c.1.length ≤ 20 ∧ (∀ z ∈ c.1, z ∈ ns) ∧ ActG ns (GuardK ns n) D N c.2) : GuardG ns (n + 1) (max D 1 + 2) (cs.length * (N + 23) + 1) cs := by
  have one : ∀ c ∈ cs, okD (encC c) = true ∧ (encC c).depth ≤ max D 1 + 1 ∧ ndD (encC c) ≤ N + 23 ∧ clauseD ns (encC c) = true ∧ noList (encC c) = true := fun c hc => by
    obtain ⟨l1, l2, hz, ac⟩ := h c hc
    obtain ⟨ws, a⟩ := c
    have l2 : ws.length ≤ 20 := l2
    obtain ⟨b1, b2, b3, b4, b5⟩ := labs_g nok l1 (show ws.length ≤ 900 by omega) hz
    have b2 : (PyData.tuple (ws.map .str)).depth ≤ 1 := b2
    have b3 : ndD (.tuple (ws.map .str)) ≤ ws.length + 1 := b3
    have c1 := ac.dep
    have c2 := ac.nd
    have c1 : a.depth ≤ D := c1
    have c2 : ndD a ≤ N := c2
    refine ⟨?_, ?_, ?_, ?_, ?_⟩
    · show (true && (okD (.tuple (ws.map .str)) && (okD a && true))) = true
      rw [show okD (.tuple (ws.map .str)) = true from b1, show okD a = true from ac.ok]
      rfl
    · show max (PyData.tuple (ws.map PyData.str)).depth (max a.depth 0) + 1 ≤ _
      omega
    · show (ndD (.tuple (ws.map PyData.str)) + (ndD a + 0)) + 1 ≤ _
      omega
    · show ((true && areKD ns (.tuple (ws.map .str))) && (if passB (.tuple [.tuple (ws.map .str), a]) = true then guardD ns (sndD a) else plainD ns a)) = true
      rw [show areKD ns (.tuple (ws.map .str)) = true from b4, ac.is]
      rfl
    · show (noList (.tuple (ws.map .str)) && (noList a && true)) = true
      rw [show noList (.tuple (ws.map .str)) = true from b5, show noList a = true from ac.k.1]
      rfl
  refine ⟨⟨by omega, fun c hc => ⟨by have := (h c hc).2.1; omega, (h c hc).2.2.2.k⟩⟩, ?_, ?_, ?_, ?_, ?_⟩
  · show (decide ((cs.map encC).length ≤ 1000) && okAll (cs.map encC)) = true
    rw [List.length_map, decide_eq_true (by omega), okAll_of fun d hd => by
      obtain ⟨c, hc, rfl⟩ := List.mem_map.mp hd
      exact (one c hc).1]
    rfl
  · have q : PyData.depthAll (cs.map encC) ≤ max D 1 + 1 := depAll_le fun d hd => by
      obtain ⟨c, hc, rfl⟩ := List.mem_map.mp hd
      exact (one c hc).2.1
    show PyData.depthAll (cs.map encC) + 1 ≤ _
    omega
  · have q : ndAll (cs.map encC) ≤ (cs.map encC).length * (N + 23) := ndAll_le fun d hd => by
      obtain ⟨c, hc, rfl⟩ := List.mem_map.mp hd
      exact (one c hc).2.2.1
    rw [List.length_map] at q
    show ndAll (cs.map encC) + 1 ≤ _
    omega
  · rw [guard_eq]
    show (true && (cs.map encC).all (clauseD ns)) = true
    rw [Bool.true_and]
    exact List.all_eq_true.mpr fun d hd => by
      obtain ⟨c, hc, rfl⟩ := List.mem_map.mp hd
      exact (one c hc).2.2.2.1
  · exact noListAll_of fun d hd => by
      obtain ⟨c, hc, rfl⟩ := List.mem_map.mp hd
      exact (one c hc).2.2.2.2
/-- stacks of such guards -/
theorem stack_g {ns : List Str} {n D N : Nat} {gs : List (List Clause)} (few : gs.length ≤ 900) (h : ∀ cs ∈ gs, GuardG ns n D N cs) : okD (.tuple (gs.map encG)) = true ∧ (PyData.tuple (gs.map encG)).depth ≤ D + 1 ∧ ndD (.tuple (gs.map encG)) ≤ gs.length * N + 1 ∧ stackD ns (.tuple (gs.map encG)) = true := by
  refine ⟨?_, ?_, ?_, ?_⟩
  · show (decide ((gs.map encG).length ≤ 1000) && okAll (gs.map encG)) = true
    rw [List.length_map, decide_eq_true (by omega), okAll_of fun d hd => by
      obtain ⟨c, hc, rfl⟩ := List.mem_map.mp hd
      exact (h c hc).ok]
    rfl
  · have q : PyData.depthAll (gs.map encG) ≤ D := depAll_le fun d hd => by
      obtain ⟨c, hc, rfl⟩ := List.mem_map.mp hd
      exact (h c hc).dep
    show PyData.depthAll (gs.map encG) + 1 ≤ _
    omega
  · have q : ndAll (gs.map encG) ≤ (gs.map encG).length * N := ndAll_le fun d hd => by
      obtain ⟨c, hc, rfl⟩ := List.mem_map.mp hd
      exact (h c hc).nd
    rw [List.length_map] at q
    show ndAll (gs.map encG) + 1 ≤ _
    omega
  · show (true && (gs.map encG).all (guardD ns)) = true
    rw [Bool.true_and]
    exact List.all_eq_true.mpr fun d hd => by
      obtain ⟨c, hc, rfl⟩ := List.mem_map.mp hd
      exact (h c hc).is
/-- what is drawn as a layer -/
theorem layer_g {ns : List Str} (nok : ∀ z ∈ ns, NameOk z) : ∀ (n : Nat), n ≤ 4 → ∀ (d : PyData), LayerN ns n d → ∃ (N : Nat) (cs : List Clause), d = encG cs ∧ GuardG ns (n + 1) (8 * n + 8) (300 * 5 ^ n) cs := by
  have clauses : ∀ (R : PyData → Prop) (n D N : Nat), D ≤ 50 → (∀ g, R g → ∃ cs, g = encG cs ∧ GuardG ns n D N cs) → ∀ ds : List PyData, ds.length ≤ 4 → (∀ c ∈ ds, ClauseN ns R c) → ∃ cs : List Clause, PyData.tuple ds = encG cs ∧ GuardG ns (n + 1) (D + 8) (4 * (N + 63) + 1) cs := by
    intro R n D N hD hR ds l4 h
    have all : ∃ cs : List Clause, ds = cs.map encC ∧ ∀ c ∈ cs, 1 ≤ c.1.length ∧ c.1.length ≤ 20 ∧ (∀ z ∈ c.1, z ∈ ns) ∧ ActG ns (GuardK ns n) (D + 6) (N + 40) c.2 := by
      clear l4
      induction ds with
      | nil => exact ⟨[], rfl, fun _ h => nomatch h⟩
      | cons d r ih =>
        obtain ⟨cs, e, hc⟩ := ih fun c hc => h c (List.mem_cons_of_mem _ hc)
        obtain ⟨l, a, ⟨zs, rfl, l1, l2, hz⟩, ha, rfl⟩ := h d (List.mem_cons_self ..)
        refine ⟨(zs, a) :: cs, by rw [e]; rfl, fun c hcm => ?_⟩
        rcases List.mem_cons.mp hcm with q | q
        · rw [q]
          exact ⟨l1, Nat.le_trans l2 (by decide), hz, act_g nok hD hR ha⟩
        · exact hc c q
    obtain ⟨cs, rfl, hc⟩ := all
    rw [List.length_map] at l4
    obtain ⟨a1, a2, a3, a4, a5, a6⟩ := guard_g nok (by omega) hc
    have r : cs.length * (N + 40 + 23) ≤ 4 * (N + 40 + 23) := Nat.mul_le_mul_right _ l4
    exact ⟨cs, rfl, a1, a2, by omega, by omega, a5, a6⟩
  intro n
  induction n with
  | zero =>
    intro _ d h
    obtain ⟨ds, rfl, l4, hc⟩ := h
    obtain ⟨cs, e, g⟩ := clauses (fun _ => False) 0 0 0 (by decide) (fun g h => h.elim) ds l4 hc
    exact ⟨0, cs, e, g.k, g.ok, by have := g.dep; omega, by have := g.nd; omega, g.is, g.flat⟩
  | succ n ih =>
    intro hn d h
    obtain ⟨ds, rfl, l4, hc⟩ := h
    have p5 : 1 ≤ 5 ^ n := Nat.one_le_pow _ _ (by decide)
    have e5 : 5 ^ (n + 1) = 5 ^ n * 5 := Nat.pow_succ ..
    obtain ⟨cs, e, g⟩ := clauses (LayerN ns n) (n + 1) (8 * n + 8) (300 * 5 ^ n) (by omega) (fun g h => (ih (by omega) g h).elim fun _ z => z) ds l4 hc
    exact ⟨0, cs, e, g.k, g.ok, by have := g.dep; omega, by have := g.nd; omega, g.is, g.flat⟩
end K1

namespace K1
open PySem PySem.Spec PyProof.Rows L2 Own LamX
/-! ### what comes out of guards is small: lengths and depth -/
theorem okD_group {m : Str} {cs : List PyData} : okD (.tuple [.str m, .tuple cs]) = true ↔ okD (.str m) = true ∧ cs.length ≤ 1000 ∧ okAll cs = true := by
  show (true && (okD (.str m) && ((decide (cs.length ≤ 1000) && okAll cs) && true))) = true ↔ _
  simp only [Bool.true_and, Bool.and_true, Bool.and_eq_true, decide_eq_true_eq]
theorem dep_group {m : Str} {cs : List PyData} : (PyData.tuple [.str m, .tuple cs]).depth = PyData.depthAll cs + 2 := by
  show max 0 (max (PyData.depthAll cs + 1) 0) + 1 = _
  omega
theorem cutB_okD {ns : List Str} {d : PyData} {p : Str → Bool} (h : TreeK ns d) : okD d = true → ∀ e, cutB p d = some e → okD e = true := by
  induction h with
  | leaf z i hz =>
    intro o e he
    rw [cutB_leaf] at he
    split at he
    · cases he
      exact o
    · cases he
  | group m cs hm ne hc ih =>
    intro o e he
    obtain ⟨o1, o2, o3⟩ := okD_group.mp o
    rw [cutB_group] at he
    split at he
    · cases he
    · cases he
      have l := List.length_filterMap_le (cutB p) cs
      refine okD_group.mpr ⟨o1, by omega, okAll_of fun y hy => ?_⟩
      obtain ⟨c, hcm, e⟩ := List.mem_filterMap.mp hy
      exact ih c hcm (okAll_mem o3 c hcm) y e
def BSz (D : Nat) (o : Option PyData) : Prop := ∀ e, o = some e → okD e = true ∧ e.depth ≤ D
theorem built_szAll {g : List Str → PyData → List Str × Option PyData} {D : Nat} : ∀ (cs : List PyData), (∀ c ∈ cs, ∀ zs, BSz D (rebS g zs c).2) → ∀ zs, (rebAll g zs cs).2.length ≤ cs.length ∧ ∀ e ∈ (rebAll g zs cs).2, okD e = true ∧ e.depth ≤ D
  | [], _, zs => by
    rw [rebAll_nil]
    exact ⟨Nat.le_refl _, fun e h => nomatch h⟩
  | c :: r, h, zs => by
    obtain ⟨a1, a2⟩ := built_szAll r (fun x hx => h x (List.mem_cons_of_mem _ hx)) (rebS g zs c).1
    have hc := h c (List.mem_cons_self ..) zs
    rw [rebAll_cons]
    refine ⟨?_, fun e he => ?_⟩
    · show (List.length ((rebS g zs c).2.toList ++ _)) ≤ r.length + 1
      rw [List.length_append]
      have : (rebS g zs c).2.toList.length ≤ 1 := by cases (rebS g zs c).2 <;> simp
      omega
    · rcases List.mem_append.mp (show e ∈ (rebS g zs c).2.toList ++ _ from he) with q | q
      · rw [Option.mem_toList] at q
        exact hc e q
      · exact a2 e q
theorem built_sz {ns : List Str} {f : Int} {d x : PyData} (hd : okD d = true) (h : FormK ns x) : okD x = true → ∀ zs, BSz (x.depth + max d.depth 1) (rebS (builtG f d) zs x).2 := by
  induction h with
  | str z hz =>
    intro ox zs e he
    rw [rebS_piece rfl] at he
    have he : (if z = star then (zs, some d) else (zs ++ [z], some (.tuple [.str z, .int (nextN f zs)]))).2 = some e := he
    split at he
    · cases he
      exact ⟨hd, by omega⟩
    · cases he
      refine ⟨?_, ?_⟩
      · show (true && (okD (.str z) && (okD (.int _) && true))) = true
        rw [ox]
        rfl
      · show max 0 (max 0 0) + 1 ≤ _
        omega
  | group m cs hm ne hc ih =>
    intro ox zs e he
    obtain ⟨o1, o2, o3⟩ := okD_group.mp ox
    rw [rebS_kids (kids_true hm)] at he
    have he : grp m (rebAll (builtG f d) zs cs).2 = some e := he
    unfold grp at he
    split at he
    · cases he
    · cases he
      obtain ⟨a1, a2⟩ := built_szAll (g := builtG f d) (D := PyData.depthAll cs + max d.depth 1) cs (fun c hcm zs e he => by
        obtain ⟨a, b⟩ := ih c hcm (okAll_mem o3 c hcm) zs e he
        have := dep_mem hcm
        exact ⟨a, by omega⟩) zs
      refine ⟨okD_group.mpr ⟨o1, by omega, okAll_of fun e he => (a2 e he).1⟩, ?_⟩
      have q := depAll_le fun e he => (a2 e he).2
      rw [dep_group, dep_group]
      omega
def ActB (F : Nat) (G : List Clause → Prop) (a : PyData) : Prop := (∀ x, a = .tuple [.str "raise", x] → okD x = true ∧ x.depth ≤ F) ∧ ∀ cs : List Clause, a = .tuple [.str "pass", .tuple (cs.map encC)] → G cs
def GuardB (F : Nat) : Nat → List Clause → Prop
  | 0, _ => True
  | n + 1, cs => cs.length ≤ 900 ∧ ∀ c ∈ cs, ActB F (GuardB F n) c.2
theorem out_sz {D E : Nat} {ds : List PyData} {lo : Option PyData} (l : ds.length ≤ 900) (h : ∀ e ∈ ds, okD e = true ∧ e.depth ≤ E) (hl : BSz D lo) (de : D ≤ E) : BSz (E + 2) (outD ds lo) := fun e ho => by
  unfold outD at ho
  split at ho
  · obtain ⟨a, b⟩ := hl e ho
    exact ⟨a, by omega⟩
  · cases ho
    have all : ∀ x ∈ ds ++ lo.toList, okD x = true ∧ x.depth ≤ E := fun x hx => by
      rcases List.mem_append.mp hx with q | q
      · exact h x q
      · rw [Option.mem_toList] at q
        obtain ⟨a, b⟩ := hl x q
        exact ⟨a, by omega⟩
    have ll : lo.toList.length ≤ 1 := by cases lo <;> simp
    refine ⟨okD_group.mpr ⟨by decide +kernel, by rw [List.length_append]; omega, okAll_of fun x hx => (all x hx).1⟩, ?_⟩
    have q := depAll_le fun x hx => (all x hx).2
    rw [dep_group]
    omega
structure RunSz (D E : Nat) (r : (List PyData × Option PyData) × List Str) : Prop where
  trees : ∀ e ∈ r.1.1, okD e = true ∧ e.depth ≤ E
  left : BSz D r.1.2
theorem act_sz {ns : List Str} {T : Tb} {f : Int} {rg : RG} {G G2 : List Clause → Prop} {a d : PyData} {D E F : Nat} (hrg : ∀ cs d zs, G cs → G2 cs → TreeK ns d → okD d = true → d.depth ≤ D → RunSz D (E - 2) (rg cs d zs) ∧ (rg cs d zs).1.1.length ≤ 900) (ha : ActK ns G a) (hb : ActB F G2 a) (hd : TreeK ns d) (od : okD d = true) (dd : d.depth ≤ D) (D3 : 3 ≤ D) (hE : D + F ≤ E) (hE2 : D + 2 ≤ E) (zs : List Str) : ∀ e ∈ (actD T f rg a d zs).1.1, okD e = true ∧ e.depth ≤ E := by
  obtain ⟨_, _, h⟩ := ha
  obtain ⟨hb1, hb2⟩ := hb
  rcases h with rfl | rfl | ⟨ws, rfl, _⟩ | ⟨x, rfl, hx⟩ | ⟨cs, rfl, hg⟩
  · rw [act_drop]
    exact fun e h => nomatch h
  · rw [act_back]
    exact fun e h => nomatch h
  · rw [act_keep]
    exact fun e h => nomatch h
  · rw [act_raise]
    intro e he
    have he : e ∈ (rebS (builtG f d) zs x).2.toList := he
    rw [Option.mem_toList] at he
    obtain ⟨ox, dx⟩ := hb1 x rfl
    obtain ⟨a, b⟩ := built_sz od hx ox zs e he
    exact ⟨a, by omega⟩
  · rw [act_pass]
    obtain ⟨r, few⟩ := hrg cs d zs hg (hb2 cs rfl) hd od dd
    split
    · exact fun e h => nomatch h
    · intro e he
      have he : e ∈ (outD (rg cs d zs).1.1 (rg cs d zs).1.2).toList := he
      rw [Option.mem_toList] at he
      obtain ⟨a, b⟩ := out_sz few r.trees r.left (by omega) e he
      exact ⟨a, by omega⟩
theorem go_sz {ns : List Str} {T : Tb} {f : Int} {rg : RG} {G G2 : List Clause → Prop} {d : PyData} {D E F : Nat} (hrg : ∀ cs d zs, G cs → G2 cs → TreeK ns d → okD d = true → d.depth ≤ D → RunSz D (E - 2) (rg cs d zs) ∧ (rg cs d zs).1.1.length ≤ 900) (hd : TreeK ns d) (od : okD d = true) (dd : d.depth ≤ D) (D3 : 3 ≤ D) (hE : D + F ≤ E) (hE2 : D + 2 ≤ E) : ∀ (fs : List (PyData × List Str)) (zs : List Str), (∀ x ∈ fs, ActK ns G x.1 ∧ ActB F G2 x.1) → ∀ e ∈ (goF T f rg d fs zs).1.1, okD e = true ∧ e.depth ≤ E
  | [], zs, _ => fun e h => nomatch h
  | (a, tk) :: r, zs, h => by
    obtain ⟨h1, h2⟩ := h _ (List.mem_cons_self ..)
    have ih := go_sz (T := T) (f := f) hrg hd od dd D3 hE hE2 r (actO T f rg a (cutB (memB tk) d) zs).2 fun x hx => h x (List.mem_cons_of_mem _ hx)
    intro e he
    rcases List.mem_append.mp (show e ∈ _ ++ _ from he) with q | q
    · cases ec : cutB (memB tk) d with
      | none =>
        rw [ec] at q
        exact nomatch q
      | some y =>
        rw [ec] at q
        have pt := (cutB_part hd).1 y ec
        exact act_sz hrg h1 h2 pt.tree (cutB_okD hd od y ec) (Nat.le_trans pt.dep dd) D3 hE hE2 zs e q
    · exact ih e q
theorem wrap_sz {ns : List Str} {d : PyData} {b : Bool} (t : TreeK ns d) (h : okD d = true) : okD (wrapD b d) = true ∧ (wrapD b d).depth ≤ max d.depth 3 := by
  unfold wrapD
  split
  · rename_i c
    have bare := (Bool.and_eq_true_iff.mp c).2
    refine ⟨okD_group.mpr ⟨by decide +kernel, by show 1 ≤ 1000; decide, by show (okD d && true) = true; rw [h]; rfl⟩, ?_⟩
    rw [dep_group]
    show max d.depth 0 + 2 ≤ _
    cases t with
    | leaf z i hz =>
      show max (max 0 (max 0 0) + 1) 0 + 2 ≤ _
      omega
    | group m cs _ _ _ => cases bare
  · exact ⟨h, by omega⟩
theorem run_sz {ns : List Str} {T : Tb} {f : Int} {F D : Nat} (D3 : 3 ≤ D) : ∀ (n : Nat) (cs : List Clause) (d : PyData) (zs : List Str), GuardK ns n cs → GuardB F n cs → TreeK ns d → okD d = true → d.depth ≤ D → RunSz D (D + F + 2 * n) (runD T f n cs d zs) ∧ (runD T f n cs d zs).1.1.length ≤ 900
  | 0, cs, d, zs, h, _, _, _, _ => h.elim
  | n + 1, cs, d, zs, h, hb, hd, od, dd => by
    have fo := fire_ok T cs (kindsL d)
    obtain ⟨tw, _, _⟩ := wrap_tree (b := !(fireD T cs (kindsL d)).1.isEmpty) hd
    obtain ⟨ow, dw⟩ := wrap_sz (b := !(fireD T cs (kindsL d)).1.isEmpty) hd od
    have dw : (wrapD (!(fireD T cs (kindsL d)).1.isEmpty) d).depth ≤ D := by omega
    have g := go_sz (T := T) (f := f) (G := GuardK ns n) (G2 := GuardB F n) (E := D + F + 2 * (n + 1)) (fun cs d zs h1 h2 h3 h4 h5 => by
      have q := run_sz (T := T) (f := f) D3 n cs d zs h1 h2 h3 h4 h5
      rw [show D + F + 2 * (n + 1) - 2 = D + F + 2 * n from by omega]
      exact q) tw ow dw D3 (F := F) (by omega) (by omega) (fireD T cs (kindsL d)).1 zs (fun x hx => by
        obtain ⟨⟨c, hc, e⟩, _⟩ := fo.act x hx
        rw [← e]
        exact ⟨(h.2 c hc).2, hb.2 c hc⟩)
    refine ⟨⟨g, fun e he => ?_⟩, ?_⟩
    · have p := (cutB_part tw).1 e he
      exact ⟨cutB_okD tw ow e he, Nat.le_trans p.dep dw⟩
    · exact Nat.le_trans (go_few _ _) (Nat.le_trans fo.len hb.1)
/-- the outcome of one guard -/
theorem run_out_sz {ns : List Str} {T : Tb} {f : Int} {n F : Nat} {cs : List Clause} {d : PyData} {zs : List Str} (h : GuardK ns n cs) (hb : GuardB F n cs) (hd : TreeK ns d) (od : okD d = true) : BSz (max d.depth 3 + F + 2 * n + 2) (outD (runD T f n cs d zs).1.1 (runD T f n cs d zs).1.2) := by
  obtain ⟨r, few⟩ := run_sz (T := T) (f := f) (F := F) (D := max d.depth 3) (Nat.le_max_right _ _) n cs d zs h hb hd od (Nat.le_max_left _ _)
  exact out_sz few r.trees r.left (by omega)
end K1

namespace K1
open PySem PySem.Spec PyProof.Rows L2 Own LamX
/-! ### what stays while a law draws and runs: all but the source and the tables of code -/
def KeepS (s : Addr) (H H' : Hp) : Prop := ∀ b o, b ≠ s → (∀ ps, o ≠ HO.tbl ps) → H b = some o → H' b = some o
theorem KeepS.refl (s : Addr) (H : Hp) : KeepS s H H := fun _ _ _ _ e => e
theorem KeepS.trans {s : Addr} {H H1 H2 : Hp} (a : KeepS s H H1) (b : KeepS s H1 H2) : KeepS s H H2 := fun c o n m e => b c o n m (a c o n m e)
theorem KeepS.of {s : Addr} {H H' : Hp} (h : Keep s H H') : KeepS s H H' := fun b o n _ e => h b o n e
theorem KeepS.ofS {s : Addr} {H H' : Hp} (h : Same H H') : KeepS s H H' := fun b o _ _ e => h b o e
theorem KeepS.ofW {s : Addr} {H H' : Hp} (h : KeepW (fun _ => False) H H') : KeepS s H H' := fun b o _ m e => h.all b o e m (.inl id)
theorem KeepS.stay {s : Addr} {H H' : Hp} (k : KeepS s H H') (q : Src H s) : StayT H H' := fun a o n m e => by
  obtain ⟨u, v, z, _⟩ := q
  exact k a o (fun h => by
    subst h
    rw [z] at e
    exact n _ (Option.some.inj e).symm) m e
theorem src_keepW {s : Addr} {H H' : Hp} (q : Src H s) (k : KeepW (fun _ => False) H H') : Src H' s := by
  obtain ⟨u, v, z, ok⟩ := q
  exact ⟨u, v, k.all _ _ z (fun _ z => nomatch z) (.inl id), ok⟩
/-- drawing writes no table of code -/
theorem tabs_draw {TT : List (Addr × Str)} {s : Addr} {H H' : Hp} (t : Tabs TT H) (k : Keep s H H') (q : Src H s) : Tabs TT H' := tabs_mine (H0 := fun _ => none) t fun b o e n => by
  rcases n with ⟨_, z, _⟩ | n
  · cases z
  · obtain ⟨u, v, z, _⟩ := q
    exact k b o (fun h => by
      subst h
      rw [z] at e
      exact n _ (Option.some.inj e).symm) e
theorem not_src {H : Hp} {s b : Addr} {o : HO} (q : Src H s) (e : H b = some o) (n : ∀ x y : Int, o ≠ .lst [.int x, .int y]) : b ≠ s := fun h => by
  obtain ⟨u, v, z, _⟩ := q
  rw [h, z] at e
  exact n u v (Option.some.inj e).symm
theorem strs_not (zs : List Str) : ∀ x y : Int, HO.lst (zs.map V.str) ≠ .lst [.int x, .int y] := fun x y e => by
  have e := HO.lst.inj e
  cases zs with
  | nil => cases e
  | cons z r => cases e
theorem dict_keepS {s : Addr} {H H' : Hp} {O : Addr} {T : Tb} (h : DictAt All1 H O T) (k : KeepS s H H') (q : Src H s) : DictAt All1 H' O T := by
  obtain ⟨n, kvs, hd, pk⟩ := h
  refine ⟨n, kvs, k O _ (not_src q hd fun _ _ z => nomatch z) (fun _ z => nomatch z) hd, paired_imp (fun kv t ⟨e, p, np, ep, hp⟩ => ⟨e, p, np, ep, k p _ (not_src q hp (strs_not _)) (fun _ z => nomatch z) hp⟩) pk⟩
/-- what a law holds while it goes on: its labels, its own table, the program's table of kinds -/
structure Held (K : PySem.W.Frag) (C : Addr) (TT : List (Addr × Str)) (B : Hp) (s L O x : Addr) (ls ls' : List Ln) (TL T : Tb) (H : Hp) : Prop where
  src : Src H s
  tabs : Tabs TT H
  lab : H L = some (.lst ((nms ls).map V.str))
  dic : DictAt All1 H O TL
  kin : KIn C B x ls ls' T
  sub : Same B H
  nt : ∀ b o, B b = some o → ∀ ps, o ≠ HO.tbl ps
  ns : B s = none
section
variable {K : PySem.W.Frag} {C : Addr} {TT : List (Addr × Str)} {B : Hp} {s L O x : Addr} {ls ls' : List Ln} {TL T : Tb} {H H' : Hp}
theorem Held.kinH (h : Held K C TT B s L O x ls ls' TL T H) : KIn C H x ls ls' T := h.kin.same h.sub
theorem Held.go (h : Held K C TT B s L O x ls ls' TL T H) (k : KeepS s H H') (q : Src H' s) (t : Tabs TT H') : Held K C TT B s L O x ls ls' TL T H' :=
  ⟨q, t, k L _ (h.src.ne h.lab) (fun _ z => nomatch z) h.lab, dict_keepS h.dic k h.src, h.kin, fun b o e => k b o (fun z => by rw [z, h.ns] at e; cases e) (h.nt b o e) (h.sub b o e), h.nt, h.ns⟩
theorem Held.draw (h : Held K C TT B s L O x ls ls' TL T H) (k : Keep s H H') (q : Src H' s) : Held K C TT B s L O x ls ls' TL T H' := h.go (KeepS.of k) q (tabs_draw h.tabs k h.src)
theorem Held.same (h : Held K C TT B s L O x ls ls' TL T H) (k : Same H H') : Held K C TT B s L O x ls ls' TL T H' := h.go (KeepS.ofS k) (h.src.same k) (tabs_same h.tabs k)
theorem Held.ran (h : Held K C TT B s L O x ls ls' TL T H) (k : KeepW (fun _ => False) H H') (t : Tabs TT H') : Held K C TT B s L O x ls ls' TL T H' := h.go (KeepS.ofW k) (src_keepW h.src k) t
end
theorem shaped_of {d : PyData} (o : okD d = true) (h : d.depth ≤ 60) : SeqAt.shaped d = true := Fit.shaped ⟨o, h⟩
theorem eqv_self {d : PyData} (o : okD d = true) : PyData.eqv d d = true := SeqAt.eqv_refl d (ok_lay d o)
end K1

namespace K1
open PySem PySem.Spec PyProof.Rows L2 Own LamX
/-! ### how many leaves come out of guards: those that came in and new ones -/
def lv (d : PyData) : Nat := (kindsL d).length
def lvAll : List PyData → Nat
  | [] => 0
  | d :: r => lv d + lvAll r
def lvO : Option PyData → Nat
  | none => 0
  | some d => lv d
theorem lvAll_app : ∀ a b : List PyData, lvAll (a ++ b) = lvAll a + lvAll b
  | [], b => (Nat.zero_add _).symm
  | d :: r, b => by
    show lv d + lvAll (r ++ b) = lv d + lvAll r + lvAll b
    rw [lvAll_app r b, Nat.add_assoc]
theorem lv_flat : ∀ cs : List PyData, (cs.flatMap kindsL).length = lvAll cs
  | [] => rfl
  | c :: r => by
    rw [List.flatMap_cons, List.length_append, lv_flat r]
    rfl
theorem lv_group {m : Str} {cs : List PyData} (hm : m ≠ star) : lv (.tuple [.str m, .tuple cs]) = lvAll cs := by
  unfold lv
  rw [kinds_group hm, lv_flat]
theorem lv_leaf (z : Str) (i : Int) : lv (.tuple [.str z, .int i]) = 1 := by
  unfold lv
  rw [kinds_leaf]
  rfl
/-- a tree is not larger than its leaves and depth say -/
theorem nd_lvAll {D : Nat} : ∀ cs : List PyData, (∀ c ∈ cs, ndD c ≤ 3 * lv c * D) → ndAll cs ≤ 3 * lvAll cs * D
  | [], _ => Nat.zero_le _
  | c :: r, h => by
    have h1 := h c (List.mem_cons_self ..)
    have h2 := nd_lvAll r fun x hx => h x (List.mem_cons_of_mem _ hx)
    show ndD c + ndAll r ≤ 3 * (lv c + lvAll r) * D
    have e : 3 * (lv c + lvAll r) * D = 3 * lv c * D + 3 * lvAll r * D := by
      rw [Nat.mul_add, Nat.add_mul]
    omega
theorem lv_pos {ns : List Str} {d : PyData} (h : TreeK ns d) : 1 ≤ lv d := List.length_pos_iff.mpr h.kinds.2
theorem nd_lv {ns : List Str} {d : PyData} (h : TreeK ns d) : ndD d ≤ 3 * lv d * d.depth := by
  induction h with
  | leaf z i hz =>
    rw [lv_leaf]
    exact (by decide : (3 : Nat) ≤ 3 * 1 * 1)
  | group m cs hm ne hc ih =>
    have pos := lv_pos (.group m cs hm ne hc)
    rw [lv_group hm] at pos ⊢
    rw [dep_group]
    have q := nd_lvAll (D := PyData.depthAll cs) cs fun c hcm => Nat.le_trans (ih c hcm) (Nat.mul_le_mul_left _ (dep_mem hcm))
    show (1 + ((ndAll cs + 1) + 0)) + 1 ≤ _
    have e : 3 * lvAll cs * (PyData.depthAll cs + 2) = 3 * lvAll cs * PyData.depthAll cs + 3 * lvAll cs * 2 := Nat.mul_add ..
    omega
/-! counting -/
def cntB (p : Str → Bool) (l : List Str) : Nat := (l.filter p).length
theorem cnt_le (p : Str → Bool) (l : List Str) : cntB p l ≤ l.length := List.length_filter_le _ _
theorem cnt_or_le (p q : Str → Bool) : ∀ l : List Str, cntB (fun z => p z || q z) l ≤ cntB p l + cntB q l
  | [] => Nat.le_refl _
  | x :: r => by
    have ih := cnt_or_le p q r
    unfold cntB at ih ⊢
    rw [List.filter_cons, List.filter_cons, List.filter_cons]
    cases p x <;> cases q x <;> simp <;> omega
theorem cnt_disj {p q : Str → Bool} : ∀ l : List Str, (∀ x, p x = true → q x = false) → cntB p l + cntB q l ≤ cntB (fun z => p z || q z) l
  | [], _ => Nat.le_refl _
  | x :: r, h => by
    have ih := cnt_disj (p := p) (q := q) r h
    have hx := h x
    unfold cntB at ih ⊢
    rw [List.filter_cons, List.filter_cons, List.filter_cons]
    cases e1 : p x <;> cases e2 : q x <;> simp_all <;> omega
theorem cnt_none (l : List Str) : cntB noneB l = 0 := by
  unfold cntB
  rw [List.length_eq_zero_iff]
  exact List.filter_eq_nil_iff.mpr fun z _ q => by cases q
theorem cnt_mono {p q : Str → Bool} (h : ∀ z, p z = true → q z = true) : ∀ l : List Str, cntB p l ≤ cntB q l
  | [] => Nat.le_refl _
  | x :: r => by
    have ih := cnt_mono h r
    have hx := h x
    unfold cntB at ih ⊢
    rw [List.filter_cons, List.filter_cons]
    cases e1 : p x <;> cases e2 : q x <;> simp_all <;> omega
theorem lv_cut {ns : List Str} {p : Str → Bool} {d : PyData} (h : TreeK ns d) : lvO (cutB p d) = cntB p (kindsL d) := by
  cases e : cutB p d with
  | none =>
    have := (cutB_part h).2 e
    unfold cntB
    rw [this]
    rfl
  | some y =>
    have := ((cutB_part h).1 y e).kinds
    show (kindsL y).length = _
    rw [this]
    rfl
/-! what forms build -/
structure BAcc (L W : Nat) (zs : List Str) (r : List Str × Option PyData) : Prop where
  acc : lvO r.2 + zs.length ≤ L + r.1.length
  up : zs.length ≤ r.1.length
  few : r.1.length ≤ zs.length + W
def oneL (p : Bool) (L : Nat) : Nat := if p = true then L else 0
theorem bacc_all {f : Int} {d : PyData} {W L : Nat} : ∀ (cs : List PyData) (p : Bool) (at_ : Nat), (∀ i c, cs[i]? = some c → ∀ zs, BAcc (oneL (p && decide (i = at_)) L) W zs (rebS (builtG f d) zs c)) → ∀ zs, lvAll (rebAll (builtG f d) zs cs).2 + zs.length ≤ oneL p L + (rebAll (builtG f d) zs cs).1.length ∧ zs.length ≤ (rebAll (builtG f d) zs cs).1.length ∧ (rebAll (builtG f d) zs cs).1.length ≤ zs.length + cs.length * W
  | [], p, at_, _, zs => by
    rw [rebAll_nil]
    exact ⟨by show 0 + zs.length ≤ _ + zs.length; omega, Nat.le_refl _, by show zs.length ≤ _; omega⟩
  | c :: r, p, at_, h, zs => by
    obtain ⟨a1, a2, a3⟩ := h 0 c rfl zs
    have rest : ∃ (p' : Bool) (at' : Nat), (∀ i c, r[i]? = some c → ∀ zs, BAcc (oneL (p' && decide (i = at')) L) W zs (rebS (builtG f d) zs c)) ∧ oneL (p && decide (0 = at_)) L + oneL p' L ≤ oneL p L := by
      cases at_ with
      | zero =>
        refine ⟨false, 0, fun i c hc => ?_, ?_⟩
        · have q := h (i + 1) c hc
          rw [show (p && decide (i + 1 = 0)) = false from by rw [decide_eq_false (by omega), Bool.and_false]] at q
          rw [Bool.false_and]
          exact q
        · rw [decide_eq_true rfl, Bool.and_true]
          exact Nat.le_refl _
      | succ k =>
        refine ⟨p, k, fun i c hc => ?_, ?_⟩
        · have q := h (i + 1) c hc
          rw [show decide (i + 1 = k + 1) = decide (i = k) from decide_eq_decide.mpr (by omega)] at q
          exact q
        · rw [decide_eq_false (by omega), Bool.and_false]
          show 0 + _ ≤ _
          omega
    obtain ⟨p', at', hr, le⟩ := rest
    obtain ⟨b1, b2, b3⟩ := bacc_all r p' at' hr (rebS (builtG f d) zs c).1
    rw [rebAll_cons]
    have lo : lvAll (rebS (builtG f d) zs c).2.toList = lvO (rebS (builtG f d) zs c).2 := by
      cases (rebS (builtG f d) zs c).2 with
      | none => rfl
      | some y => exact Nat.add_zero _
    have e : (r.length + 1) * W = r.length * W + W := Nat.succ_mul ..
    refine ⟨?_, by show zs.length ≤ (rebAll (builtG f d) (rebS (builtG f d) zs c).1 r).1.length; omega, ?_⟩
    · show lvAll ((rebS (builtG f d) zs c).2.toList ++ (rebAll (builtG f d) (rebS (builtG f d) zs c).1 r).2) + zs.length ≤ oneL p L + (rebAll (builtG f d) (rebS (builtG f d) zs c).1 r).1.length
      rw [lvAll_app, lo]
      omega
    · show (rebAll (builtG f d) (rebS (builtG f d) zs c).1 r).1.length ≤ zs.length + (r.length + 1) * W
      omega
theorem fmsg_ne : ∀ m ∈ fmsgs, m ≠ star := by decide +kernel
theorem bacc {ns : List Str} (nst : star ∉ ns) {f : Int} {d : PyData} : ∀ (n : Nat) (p : Bool) (x : PyData), FormN ns p n x → ∀ zs, BAcc (oneL p (lv d)) (3 ^ n) zs (rebS (builtG f d) zs x) := by
  have base : ∀ (p : Bool) (x : PyData), BaseN ns p x → ∀ W, 1 ≤ W → ∀ zs, BAcc (oneL p (lv d)) W zs (rebS (builtG f d) zs x) := fun p x h W hW zs => by
    cases p with
    | true =>
      have e : x = .str star := by
        unfold BaseN at h
        rw [if_pos rfl] at h
        exact h
      subst e
      rw [rebS_piece rfl]
      show BAcc (oneL true (lv d)) W zs (if star = star then (zs, some d) else (zs ++ [star], some (.tuple [.str star, .int (nextN f zs)])))
      rw [if_pos rfl]
      exact ⟨by show lv d + zs.length ≤ lv d + zs.length; omega, Nat.le_refl _, by show zs.length ≤ _; omega⟩
    | false =>
      unfold BaseN at h
      rw [if_neg Bool.false_ne_true] at h
      obtain ⟨z, hz, rfl⟩ := h
      rw [rebS_piece rfl]
      show BAcc (oneL false (lv d)) W zs (if z = star then (zs, some d) else (zs ++ [z], some (.tuple [.str z, .int (nextN f zs)])))
      rw [if_neg (fun e => nst (by rw [← e]; exact hz))]
      refine ⟨?_, ?_, ?_⟩
      · show lv (.tuple [.str z, .int (nextN f zs)]) + zs.length ≤ 0 + (zs ++ [z]).length
        rw [lv_leaf, List.length_append, List.length_singleton]
        omega
      · show zs.length ≤ (zs ++ [z]).length
        rw [List.length_append]
        omega
      · show (zs ++ [z]).length ≤ _
        rw [List.length_append, List.length_singleton]
        omega
  intro n
  induction n with
  | zero => exact fun p x h zs => base p x h 1 (Nat.le_refl _) zs
  | succ n ih =>
    intro p x h zs
    have p3 : 1 ≤ 3 ^ n := Nat.one_le_pow _ _ (by decide)
    have e3 : 3 ^ (n + 1) = 3 ^ n * 3 := Nat.pow_succ ..
    rcases h with h | ⟨m, cs, at_, rfl, hm, l1, l3, la, hc⟩
    · exact base p x h _ (by omega) zs
    · obtain ⟨a1, a2, a3⟩ := bacc_all (f := f) (d := d) (W := 3 ^ n) (L := lv d) cs p at_ (fun i c hic zs => ih _ c (hc i c hic) zs) zs
      have ms := fmsg_ne m hm
      rw [rebS_kids (kids_true ms)]
      have le : cs.length * 3 ^ n ≤ 3 * 3 ^ n := Nat.mul_le_mul_right _ l3
      refine ⟨?_, a2, by show (rebAll (builtG f d) zs cs).1.length ≤ _; omega⟩
      show lvO (grp m (rebAll (builtG f d) zs cs).2) + zs.length ≤ _
      unfold grp
      split
      · show 0 + zs.length ≤ _
        show _ ≤ oneL p (lv d) + (rebAll (builtG f d) zs cs).1.length
        omega
      · show lv (.tuple [.str m, .tuple (rebAll (builtG f d) zs cs).2]) + zs.length ≤ _
        rw [lv_group ms]
        exact a1
/-! what guards do -/
def ActC (ns : List Str) (G : List Clause → Prop) (a : PyData) : Prop := (∀ x, a = .tuple [.str "raise", x] → ∃ p, FormN ns p 2 x) ∧ ∀ cs : List Clause, a = .tuple [.str "pass", .tuple (cs.map encC)] → G cs
/-- guards with forms as they are drawn, and at most c clauses -/
def GuardC (ns : List Str) (c : Nat) : Nat → List Clause → Prop
  | 0, _ => True
  | n + 1, cs => cs.length ≤ c ∧ ∀ k ∈ cs, ActC ns (GuardC ns c n) k.2
structure AAcc (W : Nat) (e : PyData) (zs : List Str) (r : AR) : Prop where
  acc : lvAll r.1.1 + cntB r.1.2 (kindsL e) + zs.length ≤ lv e + r.2.length
  back : ∀ z, r.1.2 z = true → z ∈ kindsL e
  up : zs.length ≤ r.2.length
  few : r.2.length ≤ zs.length + W
structure RAcc (W : Nat) (d : PyData) (zs : List Str) (r : (List PyData × Option PyData) × List Str) : Prop where
  acc : lvAll r.1.1 + lvO r.1.2 + zs.length ≤ lv d + r.2.length
  up : zs.length ≤ r.2.length
  few : r.2.length ≤ zs.length + W
theorem lv_out {ds : List PyData} {lo : Option PyData} : lvO (outD ds lo) = lvAll ds + lvO lo := by
  unfold outD
  cases ds with
  | nil => exact (Nat.zero_add _).symm
  | cons x r =>
    show lv (.tuple [.str "", .tuple ((x :: r) ++ lo.toList)]) = _
    rw [lv_group star_empty.symm, lvAll_app]
    cases lo with
    | none => rfl
    | some y => rfl
theorem act_acc {ns : List Str} (nst : star ∉ ns) {T : Tb} {f : Int} {rg : RG} {G G2 : List Clause → Prop} {a d : PyData} {W : Nat} (W9 : 9 ≤ W) (hrg : ∀ cs d zs, G cs → G2 cs → TreeK ns d → RAcc W d zs (rg cs d zs)) (hk : ∀ cs d zs, G cs → TreeK ns d → ∀ e, (rg cs d zs).1.2 = some e → ∀ z ∈ kindsL e, z ∈ kindsL d) (ha : ActK ns G a) (hc : ActC ns G2 a) (hd : TreeK ns d) (zs : List Str) : AAcc W d zs (actD T f rg a d zs) := by
  obtain ⟨_, _, h⟩ := ha
  obtain ⟨hc1, hc2⟩ := hc
  have quiet : ∀ p : Str → Bool, (∀ z, p z = true → z ∈ kindsL d) → AAcc W d zs (([], p), zs) := fun p hp => ⟨by
    have := cnt_le p (kindsL d)
    show 0 + cntB p (kindsL d) + zs.length ≤ (kindsL d).length + zs.length
    omega, hp, Nat.le_refl _, by show zs.length ≤ _; omega⟩
  rcases h with rfl | rfl | ⟨ws, rfl, _⟩ | ⟨x, rfl, hx⟩ | ⟨cs, rfl, hg⟩
  · rw [act_drop]
    exact quiet _ fun z q => by cases q
  · rw [act_back]
    exact quiet _ fun z q => of_decide_eq_true q
  · rw [act_keep]
    exact quiet _ fun z q => of_decide_eq_true (Bool.and_eq_true_iff.mp q).1
  · rw [act_raise]
    obtain ⟨p, hp⟩ := hc1 x rfl
    obtain ⟨a1, a2, a3⟩ := bacc nst (f := f) (d := d) 2 p x hp zs
    have l1 : oneL p (lv d) ≤ lv d := by cases p <;> simp [oneL]
    refine ⟨?_, (fun z q => by cases q), a2, Nat.le_trans a3 (Nat.add_le_add_left W9 _)⟩
    show lvAll (rebS (builtG f d) zs x).2.toList + cntB noneB (kindsL d) + zs.length ≤ _
    rw [cnt_none]
    have lo : lvAll (rebS (builtG f d) zs x).2.toList = lvO (rebS (builtG f d) zs x).2 := by
      cases (rebS (builtG f d) zs x).2 with
      | none => rfl
      | some y => exact Nat.add_zero _
    rw [lo]
    show _ ≤ lv d + (rebS (builtG f d) zs x).1.length
    omega
  · rw [act_pass]
    obtain ⟨r1, r2, r3⟩ := hrg cs d zs hg (hc2 cs rfl) hd
    split
    · have bk : ∀ z, leftB (rg cs d zs).1.2 z = true → z ∈ kindsL d := fun z q => by
        cases e : (rg cs d zs).1.2 with
        | none =>
          rw [e] at q
          cases q
        | some y =>
          rw [e] at q
          exact hk cs d zs hg hd y e z (of_decide_eq_true q)
      refine ⟨?_, bk, r2, r3⟩
      have := cnt_le (leftB (rg cs d zs).1.2) (kindsL d)
      show 0 + cntB (leftB (rg cs d zs).1.2) (kindsL d) + zs.length ≤ (kindsL d).length + (rg cs d zs).2.length
      omega
    · refine ⟨?_, (fun z q => by cases q), r2, r3⟩
      show lvAll (outD (rg cs d zs).1.1 (rg cs d zs).1.2).toList + cntB noneB (kindsL d) + zs.length ≤ _
      rw [cnt_none]
      have lo : lvAll (outD (rg cs d zs).1.1 (rg cs d zs).1.2).toList = lvO (outD (rg cs d zs).1.1 (rg cs d zs).1.2) := by
        cases outD (rg cs d zs).1.1 (rg cs d zs).1.2 with
        | none => rfl
        | some y => exact Nat.add_zero _
      rw [lo, lv_out]
      show _ ≤ lv d + (rg cs d zs).2.length
      omega
def anyT (fs : List (PyData × List Str)) (z : Str) : Bool := fs.any fun x => memB x.2 z
def DisjF : List (PyData × List Str) → List Str → Prop
  | [], _ => True
  | x :: r, left => (∀ z ∈ x.2, z ∉ left ∧ anyT r z = false) ∧ DisjF r left
structure GAcc (W : Nat) (fs : List (PyData × List Str)) (d : PyData) (zs : List Str) (r : AR) : Prop where
  acc : lvAll r.1.1 + cntB r.1.2 (kindsL d) + zs.length ≤ cntB (anyT fs) (kindsL d) + r.2.length
  back : ∀ z, r.1.2 z = true → anyT fs z = true
  up : zs.length ≤ r.2.length
  few : r.2.length ≤ zs.length + fs.length * W
theorem go_acc {ns : List Str} {T : Tb} {f : Int} {rg : RG} {d : PyData} {W : Nat} (hd : TreeK ns d) : ∀ (fs : List (PyData × List Str)) (zs : List Str) (left : List Str), DisjF fs left → (∀ x ∈ fs, ∀ e zs, TreeK ns e → AAcc W e zs (actD T f rg x.1 e zs)) → GAcc W fs d zs (goF T f rg d fs zs)
  | [], zs, left, _, _ => ⟨by show 0 + cntB noneB _ + zs.length ≤ _ + zs.length; rw [cnt_none]; omega, (fun z q => by cases q), Nat.le_refl _, by show zs.length ≤ _; omega⟩
  | (a, tk) :: r, zs, left, ⟨dj, djr⟩, h => by
    have one : lvAll (actO T f rg a (cutB (memB tk) d) zs).1.1 + cntB (actO T f rg a (cutB (memB tk) d) zs).1.2 (kindsL d) + zs.length ≤ cntB (memB tk) (kindsL d) + (actO T f rg a (cutB (memB tk) d) zs).2.length ∧ (∀ z, (actO T f rg a (cutB (memB tk) d) zs).1.2 z = true → memB tk z = true) ∧ zs.length ≤ (actO T f rg a (cutB (memB tk) d) zs).2.length ∧ (actO T f rg a (cutB (memB tk) d) zs).2.length ≤ zs.length + W := by
      cases e : cutB (memB tk) d with
      | none => exact ⟨by show 0 + cntB noneB _ + zs.length ≤ _ + zs.length; rw [cnt_none]; omega, (fun z q => by cases q), Nat.le_refl _, by show zs.length ≤ _; omega⟩
      | some y =>
        have pt := (cutB_part hd).1 y e
        obtain ⟨a1, a2, a3, a4⟩ := h _ (List.mem_cons_self ..) y zs pt.tree
        have bt : ∀ z, (actD T f rg a y zs).1.2 z = true → memB tk z = true := fun z q => by
          have m := a2 z q
          rw [pt.kinds] at m
          exact (List.mem_filter.mp m).2
        have ey : lv y = cntB (memB tk) (kindsL d) := by
          unfold lv cntB
          rw [pt.kinds]
        have ec : cntB (actD T f rg a y zs).1.2 (kindsL d) = cntB (actD T f rg a y zs).1.2 (kindsL y) := by
          unfold cntB
          rw [pt.kinds, List.filter_filter]
          congr 1
          refine List.filter_congr fun z _ => ?_
          cases q : (actD T f rg a y zs).1.2 z with
          | false => rw [Bool.false_and]
          | true => rw [bt z q]; rfl
        refine ⟨?_, bt, a3, a4⟩
        show lvAll (actD T f rg a y zs).1.1 + cntB (actD T f rg a y zs).1.2 (kindsL d) + zs.length ≤ _ + (actD T f rg a y zs).2.length
        rw [ec, ← ey]
        exact a1
    obtain ⟨o1, o2, o3, o4⟩ := one
    obtain ⟨i1, i2, i3, i4⟩ := go_acc (T := T) (f := f) (rg := rg) (W := W) hd r (actO T f rg a (cutB (memB tk) d) zs).2 left djr fun x hx => h x (List.mem_cons_of_mem _ hx)
    have dis := cnt_disj (p := memB tk) (q := anyT r) (kindsL d) fun z q => (dj z (of_decide_eq_true q)).2
    have orl := cnt_or_le (actO T f rg a (cutB (memB tk) d) zs).1.2 (goF T f rg d r (actO T f rg a (cutB (memB tk) d) zs).2).1.2 (kindsL d)
    have e : (r.length + 1) * W = r.length * W + W := Nat.succ_mul ..
    refine ⟨?_, fun z q => ?_, ?_, ?_⟩
    · show lvAll (_ ++ _) + cntB (fun z => (actO T f rg a (cutB (memB tk) d) zs).1.2 z || (goF T f rg d r (actO T f rg a (cutB (memB tk) d) zs).2).1.2 z) (kindsL d) + zs.length ≤ cntB (fun z => memB tk z || anyT r z) (kindsL d) + (goF T f rg d r (actO T f rg a (cutB (memB tk) d) zs).2).2.length
      rw [lvAll_app]
      omega
    · rcases Bool.or_eq_true_iff.mp q with q | q
      · show (memB tk z || anyT r z) = true
        rw [o2 z q]
        rfl
      · show (memB tk z || anyT r z) = true
        rw [i2 z q, Bool.or_true]
    · show zs.length ≤ (goF T f rg d r (actO T f rg a (cutB (memB tk) d) zs).2).2.length
      omega
    · show (goF T f rg d r (actO T f rg a (cutB (memB tk) d) zs).2).2.length ≤ zs.length + (r.length + 1) * W
      omega
theorem any_sub {T : Tb} : ∀ (cs : List Clause) (pres : List Str), (∀ z, anyT (fireD T cs pres).1 z = true → z ∈ pres) := fun cs pres z q => by
  obtain ⟨x, hx, h⟩ := List.any_eq_true.mp q
  exact ((fire_ok T cs pres).act x hx).2.2 z (of_decide_eq_true h)
theorem fire_disj (T : Tb) : ∀ (cs : List Clause) (pres : List Str), DisjF (fireD T cs pres).1 (fireD T cs pres).2
  | [], pres => trivial
  | (ws, a) :: r, pres => by
    have ih := fire_disj T r (pres.filter fun z => decide (z ∉ pres.filter (underD T ws)))
    show DisjF (if (pres.filter (underD T ws)).isEmpty = true then _ else (a, pres.filter (underD T ws)) :: _) _
    split
    · exact ih
    · refine ⟨fun z hz => ?_, ih⟩
      have no : z ∉ pres.filter fun z => decide (z ∉ pres.filter (underD T ws)) := fun q => of_decide_eq_true (List.mem_filter.mp q).2 hz
      refine ⟨fun q => no ((fire_ok T r _).left z q), ?_⟩
      cases e : anyT (fireD T r (pres.filter fun z => decide (z ∉ pres.filter (underD T ws)))).1 z with
      | false => rfl
      | true => exact absurd (any_sub r _ z e) no
theorem left_disj (T : Tb) : ∀ (cs : List Clause) (pres : List Str) (z : Str), memB (fireD T cs pres).2 z = true → anyT (fireD T cs pres).1 z = false := fun cs pres z q => by
  have dj := fire_disj T cs pres
  generalize (fireD T cs pres).1 = fs at dj ⊢
  induction fs with
  | nil => rfl
  | cons x r ih =>
    obtain ⟨d1, d2⟩ := dj
    show (memB x.2 z || anyT r z) = false
    rw [ih d2, Bool.or_false]
    cases e : memB x.2 z with
    | false => rfl
    | true => exact absurd (of_decide_eq_true q) (d1 z (of_decide_eq_true e)).1
theorem run_acc {ns : List Str} (nst : star ∉ ns) {T : Tb} {f : Int} {c : Nat} (c1 : 1 ≤ c) : ∀ (n : Nat) (cs : List Clause) (d : PyData) (zs : List Str), GuardK ns n cs → GuardC ns c n cs → TreeK ns d → RAcc (9 * c ^ n) d zs (runD T f n cs d zs)
  | 0, cs, d, zs, h, _, _ => h.elim
  | n + 1, cs, d, zs, h, hb, hd => by
    have fo := fire_ok T cs (kindsL d)
    obtain ⟨tw, _, kw⟩ := wrap_tree (b := !(fireD T cs (kindsL d)).1.isEmpty) hd
    have pc : 1 ≤ c ^ n := Nat.one_le_pow _ _ c1
    obtain ⟨g1, g2, g3, g4⟩ := go_acc (T := T) (f := f) (rg := runD T f n) (W := 9 * c ^ n) tw (fireD T cs (kindsL d)).1 zs _ (fire_disj T cs (kindsL d)) (fun x hx e zs he => by
      obtain ⟨⟨k, hk, ek⟩, _⟩ := fo.act x hx
      rw [← ek]
      refine act_acc nst (G := GuardK ns n) (G2 := GuardC ns c n) (by omega) (fun cs d zs a b t => run_acc nst c1 n cs d zs a b t) (fun cs d zs hg hd e he z hz => ?_) (h.2 k hk).2 (hb.2 k hk) he zs
      cases n with
      | zero => exact hg.elim
      | succ n =>
        obtain ⟨tw2, _, kw2⟩ := wrap_tree (b := !(fireD T cs (kindsL d)).1.isEmpty) hd
        have pt := (cutB_part tw2).1 e he
        rw [pt.kinds, kw2] at hz
        exact (List.mem_filter.mp hz).1)
    have dis := cnt_disj (p := memB (fireD T cs (kindsL d)).2) (q := anyT (fireD T cs (kindsL d)).1) (kindsL (wrapD (!(fireD T cs (kindsL d)).1.isEmpty) d)) (left_disj T cs (kindsL d))
    have orl := cnt_or_le (memB (fireD T cs (kindsL d)).2) (goF T f (runD T f n) (wrapD (!(fireD T cs (kindsL d)).1.isEmpty) d) (fireD T cs (kindsL d)).1 zs).1.2 (kindsL (wrapD (!(fireD T cs (kindsL d)).1.isEmpty) d))
    have all := cnt_le (fun z => memB (fireD T cs (kindsL d)).2 z || anyT (fireD T cs (kindsL d)).1 z) (kindsL (wrapD (!(fireD T cs (kindsL d)).1.isEmpty) d))
    have lw : (kindsL (wrapD (!(fireD T cs (kindsL d)).1.isEmpty) d)).length = lv d := by
      rw [kw]
      rfl
    have fl : (fireD T cs (kindsL d)).1.length * (9 * c ^ n) ≤ c * (9 * c ^ n) := Nat.mul_le_mul_right _ (Nat.le_trans fo.len hb.1)
    have e : 9 * c ^ (n + 1) = c * (9 * c ^ n) := by
      rw [Nat.pow_succ, ← Nat.mul_assoc, Nat.mul_comm]
    refine ⟨?_, g3, ?_⟩
    · show lvAll (goF T f (runD T f n) (wrapD (!(fireD T cs (kindsL d)).1.isEmpty) d) (fireD T cs (kindsL d)).1 zs).1.1 + lvO (cutB _ (wrapD (!(fireD T cs (kindsL d)).1.isEmpty) d)) + zs.length ≤ lv d + (goF T f (runD T f n) (wrapD (!(fireD T cs (kindsL d)).1.isEmpty) d) (fireD T cs (kindsL d)).1 zs).2.length
      rw [lv_cut tw]
      omega
    · show (goF T f (runD T f n) (wrapD (!(fireD T cs (kindsL d)).1.isEmpty) d) (fireD T cs (kindsL d)).1 zs).2.length ≤ _
      rw [e]
      omega
/-- all that is met on the way is small, the list of new leaves too -/
def NumOk (T : Tb) (f : Int) (n : Nat) : List (List Clause) → PyData → List Str → Prop
  | [], _, zs => zs.length ≤ 400000
  | cs :: r, d, zs => zs.length ≤ 400000 ∧ ndD d ≤ 400000 ∧ ∀ e, outD (runD T f n cs d zs).1.1 (runD T f n cs d zs).1.2 = some e → NumOk T f n r e (runD T f n cs d zs).2
theorem NumOk.size {T : Tb} {f : Int} {n : Nat} : ∀ (gs : List (List Clause)) (d : PyData) (zs : List Str), NumOk T f n gs d zs → (∀ cs ∈ gs, 2 * ndAll (cs.map encC) ≤ 400000) → SizeOk T f n gs d zs
  | [], _, _, _, _ => trivial
  | cs :: r, d, zs, ⟨h1, h2, h3⟩, hg => ⟨h2, by have := hg cs (List.mem_cons_self ..); omega, fun e he => NumOk.size r e _ (h3 e he) fun k hk => hg k (List.mem_cons_of_mem _ hk)⟩
/-- a stack of guards -/
theorem stack_num {ns : List Str} (nst : star ∉ ns) {T : Tb} {f : Int} {c n F : Nat} (c1 : 1 ≤ c) : ∀ (gs : List (List Clause)) (d : PyData) (zs : List Str) (D L Z : Nat), (∀ cs ∈ gs, GuardK ns n cs ∧ GuardC ns c n cs ∧ GuardB F n cs) → TreeK ns d → okD d = true → d.depth ≤ D → 3 ≤ D → lv d ≤ L → zs.length ≤ Z →
    3 * (L + gs.length * (9 * c ^ n)) * (D + gs.length * (F + 2 * n + 2)) ≤ 400000 → Z + gs.length * (9 * c ^ n) ≤ 400000 →
    NumOk T f n gs d zs ∧ BSz (D + gs.length * (F + 2 * n + 2)) (handD T f n gs d zs) ∧ ∀ e, handD T f n gs d zs = some e → TreeK ns e
  | [], d, zs, D, L, Z, _, td, od, dd, D3, ld, lz, _, zb => ⟨by show zs.length ≤ 400000; omega, fun e he => by
    cases he
    exact ⟨od, by show d.depth ≤ D + 0 * _; omega⟩, fun e he => by
    cases he
    exact td⟩
  | cs :: r, d, zs, D, L, Z, hg, td, od, dd, D3, ld, lz, big, zb => by
    obtain ⟨h1, h2, h3⟩ := hg cs (List.mem_cons_self ..)
    have e1 : (cs :: r).length * (9 * c ^ n) = r.length * (9 * c ^ n) + 9 * c ^ n := Nat.succ_mul ..
    have e2 : (cs :: r).length * (F + 2 * n + 2) = r.length * (F + 2 * n + 2) + (F + 2 * n + 2) := Nat.succ_mul ..
    rw [e1, e2] at big
    rw [e1] at zb
    rw [e2]
    have nd : ndD d ≤ 400000 := by
      have a := nd_lv td
      have b : 3 * lv d * d.depth ≤ 3 * (L + (r.length * (9 * c ^ n) + 9 * c ^ n)) * (D + (r.length * (F + 2 * n + 2) + (F + 2 * n + 2))) := Nat.mul_le_mul (Nat.mul_le_mul_left _ (by omega)) (by omega)
      omega
    obtain ⟨a1, a2, a3⟩ := run_acc nst (T := T) (f := f) c1 n cs d zs h1 h2 td
    have sz := run_out_sz (T := T) (f := f) (F := F) (zs := zs) h1 h3 td od
    cases eo : outD (runD T f n cs d zs).1.1 (runD T f n cs d zs).1.2 with
    | none =>
      refine ⟨⟨by omega, nd, fun e he => by rw [eo] at he; cases he⟩, fun e he => ?_, fun e he => ?_⟩
      · rw [handD, eo] at he
        cases he
      · rw [handD, eo] at he
        cases he
    | some y =>
      have te := run_out h1 td eo
      obtain ⟨oy, dy⟩ := sz y eo
      have ly : lv y + zs.length ≤ lv d + (runD T f n cs d zs).2.length := by
        have q := lv_out (ds := (runD T f n cs d zs).1.1) (lo := (runD T f n cs d zs).1.2)
        rw [eo] at q
        have q : lv y = _ := q
        omega
      obtain ⟨i1, i2, i3⟩ := stack_num nst (T := T) (f := f) (c := c) (n := n) (F := F) c1 r y (runD T f n cs d zs).2 (D + (F + 2 * n + 2)) (L + 9 * c ^ n) (Z + 9 * c ^ n) (fun k hk => hg k (List.mem_cons_of_mem _ hk)) te oy (by omega) (by omega) (by omega) (by omega) (by
        rw [show L + 9 * c ^ n + r.length * (9 * c ^ n) = L + (r.length * (9 * c ^ n) + 9 * c ^ n) from by omega, show D + (F + 2 * n + 2) + r.length * (F + 2 * n + 2) = D + (r.length * (F + 2 * n + 2) + (F + 2 * n + 2)) from by omega]
        exact big) (by omega)
      have eh : handD T f n (cs :: r) d zs = handD T f n r y (runD T f n cs d zs).2 := by
        rw [handD, eo]
      rw [eh]
      refine ⟨⟨by omega, nd, fun e he => by
        rw [eo] at he
        cases he
        exact i1⟩, fun e he => ?_, i3⟩
      obtain ⟨q1, q2⟩ := i2 e he
      exact ⟨q1, by omega⟩
/-- trees drawn have few leaves -/
theorem lv_drawn {ns : List Str} : ∀ (n : Nat) (d : PyData), TreeN ns n d → lv d ≤ 4 ^ n
  | 0, d, h => by
    obtain ⟨z, i, rfl, _⟩ := h
    rw [lv_leaf]
    exact Nat.le_refl _
  | n + 1, d, h => by
    have p : 1 ≤ 4 ^ (n + 1) := Nat.one_le_pow _ _ (by decide)
    rcases h with ⟨z, i, rfl, _⟩ | ⟨m, cs, rfl, hm, l1, l4, hc⟩
    · rw [lv_leaf]
      exact p
    · have ms : m ≠ star := fun q => by
        subst q
        revert hm
        decide +kernel
      rw [lv_group ms]
      have e : 4 ^ (n + 1) = 4 ^ n * 4 := Nat.pow_succ ..
      have all : ∀ ds : List PyData, (∀ c ∈ ds, TreeN ns n c) → lvAll ds ≤ ds.length * 4 ^ n := by
        intro ds
        induction ds with
        | nil => exact fun _ => Nat.zero_le _
        | cons x r ih =>
          intro h
          have a := lv_drawn n x (h x (List.mem_cons_self ..))
          have b := ih fun y hy => h y (List.mem_cons_of_mem _ hy)
          have e : (r.length + 1) * 4 ^ n = r.length * 4 ^ n + 4 ^ n := Nat.succ_mul ..
          show lv x + lvAll r ≤ (r.length + 1) * 4 ^ n
          omega
      have a := all cs hc
      have b : cs.length * 4 ^ n ≤ 4 * 4 ^ n := Nat.mul_le_mul_right _ l4
      omega
end K1

namespace K1
open PySem PySem.Spec PyProof.Rows L2 Own LamX
/-! ### closer bounds, for stacks of many guards -/
theorem run_sz2 {ns : List Str} {T : Tb} {f : Int} {F D : Nat} (D3 : 3 ≤ D) (F2 : 2 ≤ F) : ∀ (n : Nat) (cs : List Clause) (d : PyData) (zs : List Str), GuardK ns n cs → GuardB F n cs → TreeK ns d → okD d = true → d.depth ≤ D → RunSz D (D + F + 2 * n - 2) (runD T f n cs d zs) ∧ (runD T f n cs d zs).1.1.length ≤ 900
  | 0, cs, d, zs, h, _, _, _, _ => h.elim
  | n + 1, cs, d, zs, h, hb, hd, od, dd => by
    have fo := fire_ok T cs (kindsL d)
    obtain ⟨tw, _, _⟩ := wrap_tree (b := !(fireD T cs (kindsL d)).1.isEmpty) hd
    obtain ⟨ow, dw⟩ := wrap_sz (b := !(fireD T cs (kindsL d)).1.isEmpty) hd od
    have dw : (wrapD (!(fireD T cs (kindsL d)).1.isEmpty) d).depth ≤ D := by omega
    have g := go_sz (T := T) (f := f) (G := GuardK ns n) (G2 := GuardB F n) (E := D + F + 2 * (n + 1) - 2) (fun cs d zs h1 h2 h3 h4 h5 => by
      have q := run_sz2 (T := T) (f := f) D3 F2 n cs d zs h1 h2 h3 h4 h5
      rw [show D + F + 2 * (n + 1) - 2 - 2 = D + F + 2 * n - 2 from by omega]
      exact q) tw ow dw D3 (F := F) (by omega) (by omega) (fireD T cs (kindsL d)).1 zs (fun x hx => by
        obtain ⟨⟨c, hc, e⟩, _⟩ := fo.act x hx
        rw [← e]
        exact ⟨(h.2 c hc).2, hb.2 c hc⟩)
    refine ⟨⟨g, fun e he => ?_⟩, ?_⟩
    · have p := (cutB_part tw).1 e he
      exact ⟨cutB_okD tw ow e he, Nat.le_trans p.dep dw⟩
    · exact Nat.le_trans (go_few _ _) (Nat.le_trans fo.len hb.1)
theorem run_out_sz2 {ns : List Str} {T : Tb} {f : Int} {n F : Nat} (F2 : 2 ≤ F) {cs : List Clause} {d : PyData} {zs : List Str} (h : GuardK ns n cs) (hb : GuardB F n cs) (hd : TreeK ns d) (od : okD d = true) : BSz (max d.depth 3 + F + 2 * n) (outD (runD T f n cs d zs).1.1 (runD T f n cs d zs).1.2) := by
  obtain ⟨r, few⟩ := run_sz2 (T := T) (f := f) (F := F) (D := max d.depth 3) (Nat.le_max_right _ _) F2 n cs d zs h hb hd od (Nat.le_max_left _ _)
  have n1 : 1 ≤ n := by
    cases n with
    | zero => exact h.elim
    | succ n => omega
  have q := out_sz few r.trees r.left (by omega)
  rw [show max d.depth 3 + F + 2 * n - 2 + 2 = max d.depth 3 + F + 2 * n from by omega] at q
  exact q
theorem nd_lvAll2 {D : Nat} : ∀ cs : List PyData, (∀ c ∈ cs, 2 * ndD c ≤ 3 * lv c * (D + 1)) → 2 * ndAll cs ≤ 3 * lvAll cs * (D + 1)
  | [], _ => Nat.zero_le _
  | c :: r, h => by
    have h1 := h c (List.mem_cons_self ..)
    have h2 := nd_lvAll2 r fun x hx => h x (List.mem_cons_of_mem _ hx)
    show 2 * (ndD c + ndAll r) ≤ 3 * (lv c + lvAll r) * (D + 1)
    have e : 3 * (lv c + lvAll r) * (D + 1) = 3 * lv c * (D + 1) + 3 * lvAll r * (D + 1) := by
      rw [Nat.mul_add 3, Nat.add_mul]
    omega
theorem nd_lv2 {ns : List Str} {d : PyData} (h : TreeK ns d) : 2 * ndD d ≤ 3 * lv d * (d.depth + 1) := by
  induction h with
  | leaf z i hz =>
    rw [lv_leaf]
    exact (by decide : (2 * 3 : Nat) ≤ 3 * 1 * (1 + 1))
  | group m cs hm ne hc ih =>
    have pos := lv_pos (.group m cs hm ne hc)
    rw [lv_group hm] at pos ⊢
    rw [dep_group]
    have q := nd_lvAll2 (D := PyData.depthAll cs) cs fun c hcm => Nat.le_trans (ih c hcm) (Nat.mul_le_mul_left _ (by have := dep_mem hcm; omega))
    show 2 * ((1 + ((ndAll cs + 1) + 0)) + 1) ≤ _
    have e : 3 * lvAll cs * (PyData.depthAll cs + 2 + 1) = 3 * lvAll cs * (PyData.depthAll cs + 1) + 3 * lvAll cs * 2 := by
      rw [show PyData.depthAll cs + 2 + 1 = (PyData.depthAll cs + 1) + 2 from by omega, Nat.mul_add]
    omega
/-- a stack of guards -/
theorem stack_num2 {ns : List Str} (nst : star ∉ ns) {T : Tb} {f : Int} {c n F : Nat} (c1 : 1 ≤ c) (F2 : 2 ≤ F) : ∀ (gs : List (List Clause)) (d : PyData) (zs : List Str) (D L Z : Nat), (∀ cs ∈ gs, GuardK ns n cs ∧ GuardC ns c n cs ∧ GuardB F n cs) → TreeK ns d → okD d = true → d.depth ≤ D → 3 ≤ D → lv d ≤ L → zs.length ≤ Z →
    3 * (L + gs.length * (9 * c ^ n)) * (D + gs.length * (F + 2 * n) + 1) ≤ 800000 → Z + gs.length * (9 * c ^ n) ≤ 400000 →
    NumOk T f n gs d zs ∧ BSz (D + gs.length * (F + 2 * n)) (handD T f n gs d zs) ∧ ∀ e, handD T f n gs d zs = some e → TreeK ns e
  | [], d, zs, D, L, Z, _, td, od, dd, D3, ld, lz, _, zb => ⟨by show zs.length ≤ 400000; omega, fun e he => by
    cases he
    exact ⟨od, by show d.depth ≤ D + 0 * _; omega⟩, fun e he => by
    cases he
    exact td⟩
  | cs :: r, d, zs, D, L, Z, hg, td, od, dd, D3, ld, lz, big, zb => by
    obtain ⟨h1, h2, h3⟩ := hg cs (List.mem_cons_self ..)
    have e1 : (cs :: r).length * (9 * c ^ n) = r.length * (9 * c ^ n) + 9 * c ^ n := Nat.succ_mul ..
    have e2 : (cs :: r).length * (F + 2 * n) = r.length * (F + 2 * n) + (F + 2 * n) := Nat.succ_mul ..
    rw [e1, e2] at big
    rw [e1] at zb
    rw [e2]
    have nd : ndD d ≤ 400000 := by
      have a := nd_lv2 td
      have b : 3 * lv d * (d.depth + 1) ≤ 3 * (L + (r.length * (9 * c ^ n) + 9 * c ^ n)) * (D + (r.length * (F + 2 * n) + (F + 2 * n)) + 1) := Nat.mul_le_mul (Nat.mul_le_mul_left _ (by omega)) (by omega)
      omega
    obtain ⟨a1, a2, a3⟩ := run_acc nst (T := T) (f := f) c1 n cs d zs h1 h2 td
    have sz := run_out_sz2 (T := T) (f := f) (F := F) (zs := zs) F2 h1 h3 td od
    cases eo : outD (runD T f n cs d zs).1.1 (runD T f n cs d zs).1.2 with
    | none =>
      refine ⟨⟨by omega, nd, fun e he => by rw [eo] at he; cases he⟩, fun e he => ?_, fun e he => ?_⟩
      · rw [handD, eo] at he
        cases he
      · rw [handD, eo] at he
        cases he
    | some y =>
      have te := run_out h1 td eo
      obtain ⟨oy, dy⟩ := sz y eo
      have ly : lv y + zs.length ≤ lv d + (runD T f n cs d zs).2.length := by
        have q := lv_out (ds := (runD T f n cs d zs).1.1) (lo := (runD T f n cs d zs).1.2)
        rw [eo] at q
        have q : lv y = _ := q
        omega
      obtain ⟨i1, i2, i3⟩ := stack_num2 nst (T := T) (f := f) (c := c) (n := n) (F := F) c1 F2 r y (runD T f n cs d zs).2 (D + (F + 2 * n)) (L + 9 * c ^ n) (Z + 9 * c ^ n) (fun k hk => hg k (List.mem_cons_of_mem _ hk)) te oy (by omega) (by omega) (by omega) (by omega) (by
        rw [show L + 9 * c ^ n + r.length * (9 * c ^ n) = L + (r.length * (9 * c ^ n) + 9 * c ^ n) from by omega, show D + (F + 2 * n) + r.length * (F + 2 * n) = D + (r.length * (F + 2 * n) + (F + 2 * n)) from by omega]
        exact big) (by omega)
      have eh : handD T f n (cs :: r) d zs = handD T f n r y (runD T f n cs d zs).2 := by
        rw [handD, eo]
      rw [eh]
      refine ⟨⟨by omega, nd, fun e he => by
        rw [eo] at he
        cases he
        exact i1⟩, fun e he => ?_, i3⟩
      obtain ⟨q1, q2⟩ := i2 e he
      exact ⟨q1, by omega⟩
end K1

namespace K1
open PySem PySem.Spec PyProof.Rows L2
open Sem (wp)
/-! ### generators that sleep: a run that may not wake them leaves them as they are -/
def stopped : Resume → Sem PySem.Fin := fun _ => .unsupported ""
def bombG : GenState → GenState
  | .suspended _ l c p fs cl => .suspended stopped l c p fs cl
  | x => x
structure BR (G0 S B : Array GenState) : Prop where
  sz : B.size = S.size
  at_ : ∀ i : Nat, (∃ k l c p fs cl, G0[i]? = some (GenState.suspended k l c p fs cl) ∧ S[i]? = some (GenState.suspended k l c p fs cl) ∧ B[i]? = some (GenState.suspended stopped l c p fs cl)) ∨
    ((∀ k l c p fs cl, G0[i]? ≠ some (GenState.suspended k l c p fs cl)) ∧ B[i]? = S[i]? ∧ ∀ k l c p fs cl, S[i]? = some (GenState.suspended k l c p fs cl) → splitAtGen fs = none)
theorem bombG_bare (x : GenState) : (bombG x).bare = x.bare := by cases x <;> rfl
theorem BR.init (S : Array GenState) : BR S S (S.map bombG) := by
  refine ⟨Array.size_map .., fun i => ?_⟩
  rw [Array.getElem?_map]
  cases e : S[i]? with
  | none => exact .inr ⟨fun _ _ _ _ _ _ h => (nomatch h), rfl, fun _ _ _ _ _ _ h => (nomatch h)⟩
  | some x =>
    cases x with
    | suspended k l c p fs cl => exact .inl ⟨k, l, c, p, fs, cl, rfl, rfl, rfl⟩
    | fresh c => exact .inr ⟨fun _ _ _ _ _ _ h => (nomatch h), rfl, fun _ _ _ _ _ _ h => (nomatch h)⟩
    | running => exact .inr ⟨fun _ _ _ _ _ _ h => (nomatch h), rfl, fun _ _ _ _ _ _ h => (nomatch h)⟩
    | finished => exact .inr ⟨fun _ _ _ _ _ _ h => (nomatch h), rfl, fun _ _ _ _ _ _ h => (nomatch h)⟩
theorem BR.bare {G0 S B : Array GenState} (h : BR G0 S B) (hb : AllBare B) : AllBare S := fun y hy => by
  obtain ⟨i, hi, e⟩ := Array.mem_iff_getElem.mp hy
  have e1 : S[i]? = some y := by rw [Array.getElem?_eq_getElem hi, e]
  rcases h.at_ i with ⟨k, l, c, p, fs, cl, _, h2, h3⟩ | ⟨_, h2, _⟩
  · rw [e1] at h2
    cases h2
    exact (hb (GenState.suspended stopped l c p fs cl) (Array.mem_of_getElem? h3) : _)
  · rw [e1] at h2
    exact hb _ (Array.mem_of_getElem? h2)
theorem allBare_bomb {S : Array GenState} (h : AllBare S) : AllBare (S.map bombG) := fun y hy => by
  obtain ⟨x, hx, rfl⟩ := Array.mem_map.mp hy
  rw [bombG_bare]
  exact h x hx
/-- a state that is known to both: not one that sleeps from the start -/
theorem BR.new {G0 S B : Array GenState} {i : Nat} (h : BR G0 S B) (hn : ∀ l c p fs cl, B[i]? ≠ some (GenState.suspended stopped l c p fs cl)) : (∀ k l c p fs cl, G0[i]? ≠ some (GenState.suspended k l c p fs cl)) ∧ B[i]? = S[i]? ∧ ∀ k l c p fs cl, S[i]? = some (GenState.suspended k l c p fs cl) → splitAtGen fs = none := by
  rcases h.at_ i with ⟨k, l, c, p, fs, cl, _, _, h3⟩ | h2
  · exact absurd h3 (hn l c p fs cl)
  · exact h2
theorem BR.set {G0 S B : Array GenState} {i : Nat} {x : GenState} (h : BR G0 S B) (ho : ∀ k l c p fs cl, G0[i]? ≠ some (GenState.suspended k l c p fs cl)) (hx : ∀ k l c p fs cl, x = .suspended k l c p fs cl → splitAtGen fs = none) : BR G0 (S.setIfInBounds i x) (B.setIfInBounds i x) := by
  refine ⟨by rw [Array.size_setIfInBounds, Array.size_setIfInBounds]; exact h.sz, fun j => ?_⟩
  by_cases e : i = j
  · subst e
    refine .inr ⟨ho, ?_, fun k l c p fs cl q => ?_⟩
    · rw [Array.getElem?_setIfInBounds_self, Array.getElem?_setIfInBounds_self, h.sz]
    · rw [Array.getElem?_setIfInBounds_self] at q
      split at q
      · exact hx k l c p fs cl (Option.some.inj q)
      · cases q
  · rw [Array.getElem?_setIfInBounds_ne e, Array.getElem?_setIfInBounds_ne e]
    exact h.at_ j
theorem BR.push {G0 S B : Array GenState} {c0 : Code} (h : BR G0 S B) : BR G0 (S.push (.fresh c0)) (B.push (.fresh c0)) := by
  refine ⟨by rw [Array.size_push, Array.size_push, h.sz], fun j => ?_⟩
  rw [Array.getElem?_push, Array.getElem?_push, h.sz]
  by_cases e : j = S.size
  · rw [if_pos e, if_pos e]
    refine .inr ⟨?_, rfl, fun _ _ _ _ _ _ q => (nomatch q)⟩
    rcases h.at_ j with ⟨k, l, c, p, fs, cl, _, h2, _⟩ | h2
    · rw [e, Array.getElem?_eq_none (Nat.le_refl _)] at h2
      cases h2
    · exact h2.1
  · rw [if_neg e, if_neg e]
    exact h.at_ j
theorem BR.seen {G0 S B : Array GenState} {i : Nat} {st : GenState} (h : BR G0 S B) (e : B[i]? = some st) : ∃ st', S[i]? = some st' ∧ st'.seen = st.seen := by
  rcases h.at_ i with ⟨k, l, c, p, fs, cl, _, h2, h3⟩ | ⟨_, h2, _⟩
  · rw [e] at h3
    cases h3
    exact ⟨_, h2, rfl⟩
  · exact ⟨st, by rw [← h2]; exact e, rfl⟩
theorem runs_stopped {M : Model} {Γ : PySem.Ctx} {p : Pos} {fs : List Frame} {s s' : Shared} {e : End} {w : String} (h : Runs M Γ p (.unsupported w) fs s e s') : False := by
  generalize ht : (Sem.unsupported w : Sem PySem.Fin) = t at h
  induction h <;> first | (cases ht; done) | (rename_i ih; exact ih ht) | (rename_i ih _; exact ih ht)
def EOk : End → Prop
  | .ret _ => True
  | .susp _ _ _ _ _ _ fs => splitAtGen fs = none
theorem EOk.gen {e : End} (h : EOk e) : ∀ k l c p fs cl, e.genState = .suspended k l c p fs cl → splitAtGen fs = none := by
  cases e with
  | ret r => exact fun _ _ _ _ _ _ q => (nomatch q)
  | susp v g l k c p fs =>
    intro k' l' c' p' fs' cl' q
    cases q
    exact h
theorem split_app : ∀ {a b : List Frame}, splitAtGen a = none → splitAtGen b = none → splitAtGen (a ++ b) = none
  | [], _, _, h => h
  | .ret k h g l c p kp :: a, b, ha, hb => by
    show (splitAtGen (a ++ b)).map _ = none
    have ha : (splitAtGen a).map _ = none := ha
    rw [Option.map_eq_none_iff] at ha ⊢
    exact split_app ha hb
  | .gen .. :: a, b, ha, _ => by cases ha

theorem runs_unbomb {M : Model} {G0 : Array GenState} {Γ : PySem.Ctx} {p : Pos} {t : Sem PySem.Fin} {fs : List Frame} {sb sb' : Shared} {e : End} (h : Runs M Γ p t fs sb e sb') :
    ∀ s : Shared, sb = { s with gens := sb.gens } → BR G0 s.gens sb.gens → splitAtGen fs = none → ∃ s' : Shared, sb' = { s' with gens := sb'.gens } ∧ BR G0 s'.gens sb'.gens ∧ Runs M Γ p t fs s e s' ∧ EOk e := by
  induction h with
  | done => exact fun s hs br _ => ⟨s, hs, br, .done, trivial⟩
  | raise => exact fun s hs br _ => ⟨s, hs, br, .raise, trivial⟩
  | again q _ ih => exact fun s hs br hf => let ⟨s', h1, h2, h3, h4⟩ := ih s hs br rfl; ⟨s', h1, h2, .again q h3, h4⟩
  | rule _ ih => exact fun s hs br hf => let ⟨s', h1, h2, h3, h4⟩ := ih s hs br rfl; ⟨s', h1, h2, .rule h3, h4⟩
  | «at» _ ih => exact fun s hs br hf => let ⟨s', h1, h2, h3, h4⟩ := ih s hs br rfl; ⟨s', h1, h2, .at h3, h4⟩
  | load g _ ih => exact fun s hs br hf => let ⟨s', h1, h2, h3, h4⟩ := ih s hs br rfl; ⟨s', h1, h2, .load (by rw [hs] at g; exact g) h3, h4⟩
  | update g _ ih =>
    intro s hs br hf
    have hh := congrArg Shared.heap hs
    have hh : _ = s.heap := hh
    obtain ⟨s', h1, h2, h3, h4⟩ := ih { s with heap := s.heap.update _ _ } (by rw [hh]; rw [hs]) br rfl
    rw [hh] at g
    exact ⟨s', h1, h2, .update g h3, h4⟩
  | loadIfAlive _ ih =>
    intro s hs br hf
    have hh := congrArg Shared.heap hs
    have hh : _ = s.heap := hh
    obtain ⟨s', h1, h2, h3, h4⟩ := ih s hs br rfl
    rw [hh] at h3
    exact ⟨s', h1, h2, .loadIfAlive h3, h4⟩
  | point _ ih => exact fun s hs br hf => let ⟨s', h1, h2, h3, h4⟩ := ih s hs br rfl; ⟨s', h1, h2, .point h3, h4⟩
  | alloc _ ih =>
    intro s hs br hf
    have hh := congrArg Shared.heap hs
    have hh : _ = s.heap := hh
    obtain ⟨s', h1, h2, h3, h4⟩ := ih { s with heap := s.heap.push _ } (by rw [hh]; rw [hs]) br rfl
    rw [hh] at h3
    exact ⟨s', h1, h2, .alloc h3, h4⟩
  | fresh _ ih =>
    intro s hs br hf
    have hh := congrArg Shared.toks hs
    have hh : _ = s.toks := hh
    obtain ⟨s', h1, h2, h3, h4⟩ := ih { s with toks := s.toks + 1 } (by rw [hh]; rw [hs]) br rfl
    rw [hh] at h3
    exact ⟨s', h1, h2, .fresh h3, h4⟩
  | ask _ ih => exact fun s hs br hf => let ⟨s', h1, h2, h3, h4⟩ := ih s hs br rfl; ⟨s', h1, h2, .ask h3, h4⟩
  | choose n _ ih =>
    intro s hs br hf
    have hh := congrArg Shared.drawn hs
    have hh : _ = s.drawn := hh
    obtain ⟨s', h1, h2, h3, h4⟩ := ih { s with drawn := s.drawn.bump _ } (by rw [hh]; rw [hs]) br rfl
    rw [hh] at h3
    exact ⟨s', h1, h2, .choose n h3, h4⟩
  | os _ ih =>
    intro s hs br hf
    have hh := congrArg Shared.os hs
    have hh : _ = s.os := hh
    obtain ⟨s', h1, h2, h3, h4⟩ := ih { s with os := (Os.step s.os _).1 } (by rw [hh]; rw [hs]) br rfl
    rw [hh] at h3
    exact ⟨s', h1, h2, .os h3, h4⟩
  | handled _ ih => exact fun s hs br hf => let ⟨s', h1, h2, h3, h4⟩ := ih s hs br rfl; ⟨s', h1, h2, .handled h3, h4⟩
  | genState g _ ih =>
    intro s hs br hf
    obtain ⟨st', q1, q2⟩ := br.seen g
    obtain ⟨s', h1, h2, h3, h4⟩ := ih s hs br rfl
    exact ⟨s', h1, h2, .genState q1 (by rw [q2]; exact h3), h4⟩
  | stack _ ih => exact fun s hs br hf => let ⟨s', h1, h2, h3, h4⟩ := ih s hs br rfl; ⟨s', h1, h2, .stack h3, h4⟩
  | thread _ ih => exact fun s hs br hf => let ⟨s', h1, h2, h3, h4⟩ := ih s hs br rfl; ⟨s', h1, h2, .thread h3, h4⟩
  | newGen _ ih =>
    intro s hs br hf
    obtain ⟨s', h1, h2, h3, h4⟩ := ih { s with gens := s.gens.push (.fresh _) } (by rw [hs]) br.push rfl
    rw [br.sz] at h3
    exact ⟨s', h1, h2, .newGen h3, h4⟩
  | call _ _ ih1 ih2 =>
    intro s hs br hf
    obtain ⟨s1, h1, h2, h3, _⟩ := ih1 s hs br rfl
    obtain ⟨s', g1, g2, g3, g4⟩ := ih2 s1 h1 h2 rfl
    exact ⟨s', g1, g2, .call h3 g3, g4⟩
  | callSusp _ ih =>
    intro s hs br hf
    obtain ⟨s1, h1, h2, h3, h4⟩ := ih s hs br rfl
    exact ⟨s1, h1, h2, .callSusp h3, split_app h4 rfl⟩
  | yield => exact fun s hs br _ => ⟨s, hs, br, .yield, rfl⟩
  | resumeFresh g _ hq _ ih1 ih2 =>
    intro s hs br hf
    obtain ⟨o1, o2, _⟩ := br.new (i := _) (fun _ _ _ _ _ q => by rw [g] at q; cases q)
    obtain ⟨s1, h1, h2, h3, h4⟩ := ih1 (s.setGen _ .running) (by rw [hs]; rfl) (br.set o1 fun _ _ _ _ _ _ q => (nomatch q)) rfl
    obtain ⟨s', g1, g2, g3, g4⟩ := ih2 (s1.setGen _ _) (by rw [h1]; rfl) (h2.set o1 h4.gen) rfl
    exact ⟨s', g1, g2, .resumeFresh (by rw [← o2]; exact g) h3 hq g3, g4⟩
  | resumeSuspended g hr hq _ ih1 ih2 =>
    intro s hs br hf
    rcases br.at_ _ with ⟨k, l, c, p, fs, cl, _, _, q3⟩ | ⟨o1, o2, o3⟩
    · rw [g] at q3
      cases q3
      exact (runs_stopped hr).elim
    · have o4 := o3 _ _ _ _ _ _ (by rw [← o2]; exact g)
      obtain ⟨s1, h1, h2, h3, h4⟩ := ih1 (s.setGen _ .running) (by rw [hs]; rfl) (br.set o1 fun _ _ _ _ _ _ q => (nomatch q)) o4
      obtain ⟨s', g1, g2, g3, g4⟩ := ih2 (s1.setGen _ _) (by rw [h1]; rfl) (h2.set o1 h4.gen) rfl
      exact ⟨s', g1, g2, .resumeSuspended (by rw [← o2]; exact g) h3 hq g3, g4⟩
  | resumeJustStarted g hv _ ih =>
    intro s hs br hf
    obtain ⟨o1, o2, _⟩ := br.new (i := _) (fun _ _ _ _ _ q => by rw [g] at q; cases q)
    obtain ⟨s', h1, h2, h3, h4⟩ := ih s hs br rfl
    exact ⟨s', h1, h2, .resumeJustStarted (by rw [← o2]; exact g) hv h3, h4⟩
  | resumeThrowFresh g _ ih =>
    intro s hs br hf
    obtain ⟨o1, o2, _⟩ := br.new (i := _) (fun _ _ _ _ _ q => by rw [g] at q; cases q)
    obtain ⟨s', h1, h2, h3, h4⟩ := ih (s.setGen _ .finished) (by rw [hs]; rfl) (br.set o1 fun _ _ _ _ _ _ q => (nomatch q)) rfl
    exact ⟨s', h1, h2, .resumeThrowFresh (by rw [← o2]; exact g) h3, h4⟩
  | resumeRunning g _ ih =>
    intro s hs br hf
    obtain ⟨o1, o2, _⟩ := br.new (i := _) (fun _ _ _ _ _ q => by rw [g] at q; cases q)
    obtain ⟨s', h1, h2, h3, h4⟩ := ih s hs br rfl
    exact ⟨s', h1, h2, .resumeRunning (by rw [← o2]; exact g) h3, h4⟩
  | resumeFinished g _ ih =>
    intro s hs br hf
    obtain ⟨o1, o2, _⟩ := br.new (i := _) (fun _ _ _ _ _ q => by rw [g] at q; cases q)
    obtain ⟨s', h1, h2, h3, h4⟩ := ih s hs br rfl
    exact ⟨s', h1, h2, .resumeFinished (by rw [← o2]; exact g) h3, h4⟩
  | segRet _ _ ih1 ih2 =>
    intro s hs br hf
    obtain ⟨s1, h1, h2, h3, _⟩ := ih1 s hs br rfl
    obtain ⟨s', g1, g2, g3, g4⟩ := ih2 s1 h1 h2 (Option.map_eq_none_iff.mp hf)
    exact ⟨s', g1, g2, .segRet h3 g3, g4⟩
  | segGen => exact fun s hs br hf => (nomatch hf)
  | segSuspOut hn _ ih =>
    intro s hs br hf
    obtain ⟨s1, h1, h2, h3, h4⟩ := ih s hs br rfl
    exact ⟨s1, h1, h2, .segSuspOut hn h3, split_app h4 hf⟩
  | segSuspGen hn _ _ _ _ _ =>
    intro s hs br hf
    rw [hn] at hf
    cases hf
end K1

namespace K1
open PySem PySem.Spec PyProof.Rows L2
open Sem (wp)
abbrev regen (s : Shared) (G : Array GenState) : Shared := { s with gens := G }
theorem wp_unbomb {α : Type} {M : Model} {Γ : PySem.Ctx} {G0 : Array GenState} (t : Sem α) : ∀ (Q : α → Pos → Shared → Prop) (E : Value → Pos → Shared → Prop) (p : Pos) (s : Shared) (G : Array GenState), BR G0 s.gens G → wp M Γ t Q E p (regen s G) →
    wp M Γ t (fun a p' s' => ∃ G', BR G0 s'.gens G' ∧ Q a p' (regen s' G')) (fun e p' s' => ∃ G', BR G0 s'.gens G' ∧ E e p' (regen s' G')) p s := by
  induction t with
  | pure a => exact fun Q E p s G br h => ⟨G, br, h⟩
  | raise e => exact fun Q E p s G br h => ⟨G, br, h⟩
  | unsupported _ => exact fun Q E p s G br h => h
  | finish _ => exact fun Q E p s G br h => h
  | rule _ k ih => exact fun Q E p s G br h => ih () Q E p s G br h
  | «at» p' k ih => exact fun Q E p s G br h => ih () Q E p' s G br h
  | load a _ k ih => exact fun Q E p s G br h => let ⟨o, ho, h⟩ := h; ⟨o, ho, ih o Q E p s G br h⟩
  | update a _ f k ih => exact fun Q E p s G br h => ⟨h.1, ih () Q E p { s with heap := s.heap.update a f } G br h.2⟩
  | loadIfAlive a k ih => exact fun Q E p s G br h => ih _ Q E p s G br h
  | point _ k ih => exact fun Q E p s G br h => ih () Q E p s G br h
  | register _ _ => exact fun Q E p s G br h => h
  | alloc o k ih => exact fun Q E p s G br h => ih _ Q E p { s with heap := s.heap.push o } G br h
  | fresh k ih => exact fun Q E p s G br h => ih _ Q E p { s with toks := s.toks + 1 } G br h
  | ask k ih => exact fun Q E p s G br h => ih _ Q E p s G br h
  | choose src m k ih => exact fun Q E p s G br h => ⟨h.1, ih _ Q E p { s with drawn := s.drawn.bump src } G br h.2⟩
  | os q _ k ih => exact fun Q E p s G br h => ih _ Q E p { s with os := (Os.step s.os q).1 } G br h
  | call c hd _ _ k ih =>
    intro Q E p s G br h
    obtain ⟨r, s', hr, h⟩ := h
    obtain ⟨s1, h1, h2, h3, _⟩ := runs_unbomb hr s rfl br rfl
    have h : wp M Γ (k r) Q E p s' := h
    rw [h1] at h
    exact ⟨r, s1, h3, ih r Q E p s1 _ h2 h⟩
  | handled own k ih => exact fun Q E p s G br h => ih _ Q E p s G br h
  | genState g k ih =>
    intro Q E p s G br h
    obtain ⟨st, hs, h⟩ := h
    obtain ⟨st', q1, q2⟩ := br.seen hs
    exact ⟨st', q1, by rw [q2]; exact ih _ Q E p s G br h⟩
  | newGen c k ih =>
    intro Q E p s G br h
    have h : wp M Γ (k G.size) Q E p (regen { s with gens := s.gens.push (.fresh c) } (G.push (.fresh c))) := h
    rw [br.sz] at h
    exact ih _ Q E p { s with gens := s.gens.push (.fresh c) } _ br.push h
  | resume g r _ k ih =>
    intro Q E p s G br h
    obtain ⟨res, s', hw, h⟩ := h
    have hw : Wakes M Γ p g r (regen s G) res s' := hw
    have h : wp M Γ (k res) Q E p s' := h
    have main : ∃ s1, s' = regen s1 s'.gens ∧ BR G0 s1.gens s'.gens ∧ Wakes M Γ p g r s res s1 := by
      rcases br.at_ g with ⟨k0, l, c, p0, fs, cl, _, q2, q3⟩ | ⟨o1, o2, o3⟩
      · unfold Wakes at hw
        rw [show (regen s G).gens[g]? = _ from q3] at hw
        obtain ⟨_, _, hr, _⟩ := hw
        exact (runs_stopped hr).elim
      · have o2' : (regen s G).gens[g]? = s.gens[g]? := o2
        unfold Wakes at hw ⊢
        rw [o2'] at hw
        cases e : s.gens[g]? with
        | none => rw [e] at hw; exact hw.elim
        | some st =>
          rw [e] at hw
          cases st with
          | fresh c =>
            cases r with
            | send v =>
              cases v with
              | none =>
                obtain ⟨e1, s1, hr, hq, hres, hs'⟩ := hw
                obtain ⟨s2, h1, h2, h3, h4⟩ := runs_unbomb hr (s.setGen g .running) rfl (br.set o1 fun _ _ _ _ _ _ q => (nomatch q)) rfl
                refine ⟨s2.setGen g e1.genState, ?_, ?_, e1, s2, h3, hq, hres, rfl⟩
                · rw [hs', h1]; rfl
                · rw [hs']; exact h2.set o1 h4.gen
              | _ => exact ⟨s, by rw [hw.2], by rw [hw.2]; exact br, hw.1, rfl⟩
            | throw x => exact ⟨s.setGen g .finished, by rw [hw.2]; rfl, by rw [hw.2]; exact br.set o1 fun _ _ _ _ _ _ q => (nomatch q), hw.1, rfl⟩
          | suspended k0 l c p0 fs cl =>
            obtain ⟨e1, s1, hr, hq, hres, hs'⟩ := hw
            obtain ⟨s2, h1, h2, h3, h4⟩ := runs_unbomb hr (s.setGen g .running) rfl (br.set o1 fun _ _ _ _ _ _ q => (nomatch q)) (o3 _ _ _ _ _ _ e)
            refine ⟨s2.setGen g e1.genState, ?_, ?_, e1, s2, h3, hq, hres, rfl⟩
            · rw [hs', h1]; rfl
            · rw [hs']; exact h2.set o1 h4.gen
          | running => exact ⟨s, by rw [hw.2], by rw [hw.2]; exact br, hw.1, rfl⟩
          | finished => exact ⟨s, by rw [hw.2], by rw [hw.2]; exact br, hw.1, rfl⟩
    obtain ⟨s1, h1, h2, h3⟩ := main
    rw [h1] at h
    exact ⟨res, s1, h3, ih res Q E p s1 _ h2 h⟩
  | yield _ _ _ _ => exact fun Q E p s G br h => h
  | stack k ih => exact fun Q E p s G br h => ih _ Q E p s G br h
  | fork _ _ => exact fun Q E p s G br h => h
  | thread k ih => exact fun Q E p s G br h => ih _ Q E p s G br h
  | await _ _ _ _ _ => exact fun Q E p s G br h => h
/-- those that sleep now sleep later as they do now -/
def Sleep (S S' : Array GenState) : Prop := ∀ (g : Nat) k l c p fs cl, S[g]? = some (GenState.suspended k l c p fs cl) → S'[g]? = some (GenState.suspended k l c p fs cl)
theorem Sleep.refl (S : Array GenState) : Sleep S S := fun _ _ _ _ _ _ _ h => h
theorem Sleep.trans {S S1 S2 : Array GenState} (h : Sleep S S1) (h2 : Sleep S1 S2) : Sleep S S2 := fun g k l c p fs cl e => h2 g k l c p fs cl (h g k l c p fs cl e)
theorem BR.sleep {G0 S B : Array GenState} (h : BR G0 S B) : Sleep G0 S := fun g k l c p fs cl e => by
  rcases h.at_ g with ⟨k', l', c', p', fs', cl', h1, h2, _⟩ | ⟨h1, _⟩
  · rw [e] at h1
    cases h1
    exact h2
  · exact absurd e (h1 _ _ _ _ _ _)
/-- a run that goes with any generators that sleep leaves them asleep -/
theorem wpAny_sleep {α : Type} {M : Model} {A : Around} {t : Sem α} {Q : α → Shared → Prop} {E : Value → Shared → Prop} {s : Shared} (hb : AllBare s.gens) (h : ∀ G, AllBare G → wpAny M A t (fun a s' => AllBare s'.gens ∧ Q a s') (fun e s' => AllBare s'.gens ∧ E e s') (regen s G)) :
    wpAny M A t (fun a s' => Sleep s.gens s'.gens ∧ AllBare s'.gens ∧ ∃ G, AllBare G ∧ Q a (regen s' G)) (fun e s' => Sleep s.gens s'.gens ∧ AllBare s'.gens ∧ ∃ G, AllBare G ∧ E e (regen s' G)) s := fun Γ p hΓ => by
  have q := wp_unbomb (G0 := s.gens) t _ _ p s _ (BR.init s.gens) (h _ (allBare_bomb hb) Γ p hΓ)
  exact Sem.wp_mono M Γ t (fun a _ s' ⟨G', br, hb', hq⟩ => ⟨br.sleep, br.bare hb', G', hb', hq⟩) (fun e _ s' ⟨G', br, hb', hq⟩ => ⟨br.sleep, br.bare hb', G', hb', hq⟩) p s q
end K1

namespace K1
open PySem PySem.Spec PyProof.Rows L2
/-! ### the generator's own context, based anew at each wake -/
theorem Inv.regen {X : Cx} {pins : List (Addr × Obj)} {σ : L2.St} {H : Hp} {s : Shared} (I : Inv X pins σ H s) {G : Array GenState} (hg : AllBare G) : Inv X pins σ H (K1.regen s G) :=
  ⟨I.ok, I.os, hg, I.base, I.loc, I.cell, I.free, I.freeC, I.pin, I.hok, I.len⟩
theorem Inv.ungen {X : Cx} {pins : List (Addr × Obj)} {σ : L2.St} {H : Hp} {s : Shared} {G : Array GenState} (I : Inv X pins σ H (K1.regen s G)) (hg : AllBare s.gens) : Inv X pins σ H s :=
  ⟨I.ok, I.os, hg, I.base, I.loc, I.cell, I.free, I.freeC, I.pin, I.hok, I.len⟩
theorem SP_ungen {X : Cx} {pins : List (Addr × Obj)} {D : Ends} {f : Flow} {s : Shared} {G : Array GenState} (h : SP X pins D f (K1.regen s G)) (hg : AllBare s.gens) : SP X pins D f s := by
  cases f with
  | next => obtain ⟨σ, H, I, q⟩ := h; exact ⟨σ, H, Inv.ungen I hg, q⟩
  | brk => obtain ⟨σ, H, I, q⟩ := h; exact ⟨σ, H, Inv.ungen I hg, q⟩
  | cont => obtain ⟨σ, H, I, q⟩ := h; exact ⟨σ, H, Inv.ungen I hg, q⟩
  | ret u => obtain ⟨v, σ, H, I, r, q⟩ := h; exact ⟨v, σ, H, Inv.ungen I hg, r, q⟩
theorem SP_bare {X : Cx} {pins : List (Addr × Obj)} {D : Ends} {f : Flow} {s : Shared} (h : SP X pins D f s) : AllBare s.gens := by
  cases f with
  | next => obtain ⟨σ, H, I, q⟩ := h; exact I.bare
  | brk => obtain ⟨σ, H, I, q⟩ := h; exact I.bare
  | cont => obtain ⟨σ, H, I, q⟩ := h; exact I.bare
  | ret u => obtain ⟨v, σ, H, I, r, q⟩ := h; exact I.bare

/-- the objects below L -/
def truncS (L : Nat) (s : Shared) : Shared := { s with heap := { s.heap with objs := s.heap.objs.extract 0 L } }
theorem truncS_size {L : Nat} {s : Shared} (h : L ≤ s.heap.objs.size) : (truncS L s).heap.objs.size = L := by
  show (s.heap.objs.extract 0 L).size = L
  rw [Array.size_extract]
  omega
theorem truncS_get {L : Nat} {s : Shared} (h : L ≤ s.heap.objs.size) {b : Addr} (hb : b < L) : (truncS L s).heap.get? b = s.heap.get? b := by
  have e : (s.heap.objs.extract 0 L)[b]? = s.heap.objs[b]? := by
    rw [Array.getElem?_extract, Nat.min_eq_left h, if_pos (by omega), Nat.zero_add]
  show (match (s.heap.objs.extract 0 L)[b]? with
    | some ⟨_, _, .freed, _⟩ => none
    | o => o) = _
  rw [e]
  rfl
theorem of_truncS {L : Nat} {s : Shared} (h : L ≤ s.heap.objs.size) {b : Addr} {o : Obj} (e : (truncS L s).heap.get? b = some o) : b < L ∧ s.heap.get? b = some o := by
  have hb : b < L := by
    have q := Heap.lt_size e
    rw [truncS_size h] at q
    exact q
  exact ⟨hb, by rw [← truncS_get h hb]; exact e⟩
def cutH (L : Nat) (H : Hp) : Hp := fun b => if b < L then H b else match H b with
  | some (.tbl ps) => some (.tbl ps)
  | _ => none
theorem cutH_tbl {L : Nat} {H : Hp} {b : Addr} {ps : _} (e : H b = some (.tbl ps)) : cutH L H b = some (.tbl ps) := by
  unfold cutH
  rw [e]
  split <;> rfl
theorem of_cutH {L : Nat} {H : Hp} {b : Addr} {o : HO} (e : cutH L H b = some o) : H b = some o := by
  unfold cutH at e
  split at e
  · exact e
  · split at e
    · rename_i q
      rw [q]
      exact e
    · cases e
def hideL (H : Hp) (pr : List Addr) : Hp := fun b => if b ∈ pr then none else H b
def mergeL (H : Hp) (pr : List Addr) (Hc : Hp) : Hp := fun b => if b ∈ pr then H b else Hc b
theorem hideL_in {H : Hp} {pr : List Addr} {b : Addr} (h : b ∈ pr) : hideL H pr b = none := if_pos h
theorem hideL_out {H : Hp} {pr : List Addr} {b : Addr} (h : b ∉ pr) : hideL H pr b = H b := if_neg h
theorem mergeL_in {H Hc : Hp} {pr : List Addr} {b : Addr} (h : b ∈ pr) : mergeL H pr Hc b = H b := if_pos h
theorem mergeL_out {H Hc : Hp} {pr : List Addr} {b : Addr} (h : b ∉ pr) : mergeL H pr Hc b = Hc b := if_neg h
def isCellB (o : Obj) : Bool := match o.data with
  | .cell _ => true
  | _ => false
theorem notCell {o : Obj} (h : isCellB o = false) : ∀ v, o.data ≠ .cell v := fun v e => by
  unfold isCellB at h
  rw [e] at h
  cases h
theorem isCell_no {o : Obj} (h : ∀ v, o.data ≠ .cell v) : isCellB o = false := by
  unfold isCellB
  cases e : o.data with
  | cell v => exact absurd e (h v)
  | _ => rfl
/-- what lies above L, not tracked, no cell, not the generator's own -/
def pinsW (L : Nat) (ip : List Addr) (h : Heap) (H : Hp) : List (Addr × Obj) := (List.range h.objs.size).filterMap fun b =>
  if L < b ∧ (H b).isNone = true ∧ b ∉ ip then (match h.get? b with
    | some o => if isCellB o = true then none else some (b, o)
    | none => none) else none
theorem mem_pinsW {L : Nat} {ip : List Addr} {h : Heap} {H : Hp} {b : Addr} {o : Obj} (h1 : L < b) (h2 : H b = none) (h3 : b ∉ ip) (h4 : h.get? b = some o) (h5 : isCellB o = false) : (b, o) ∈ pinsW L ip h H :=
  List.mem_filterMap.mpr ⟨b, List.mem_range.mpr (Heap.lt_size h4), by
    rw [if_pos ⟨h1, by rw [h2]; rfl, h3⟩, h4]
    show (if isCellB o = true then none else some (b, o)) = _
    rw [h5, if_neg Bool.false_ne_true]⟩
theorem of_pinsW {L : Nat} {ip : List Addr} {h : Heap} {H : Hp} {p : Addr × Obj} (hp : p ∈ pinsW L ip h H) : L < p.1 ∧ H p.1 = none ∧ p.1 ∉ ip ∧ h.get? p.1 = some p.2 ∧ isCellB p.2 = false := by
  obtain ⟨b, _, e⟩ := List.mem_filterMap.mp hp
  split at e
  · rename_i hc
    obtain ⟨c1, c2, c3⟩ := hc
    cases q : h.get? b with
    | none => rw [q] at e; cases e
    | some o =>
      rw [q] at e
      cases z : isCellB o with
      | true =>
        have e : (if isCellB o = true then none else some (b, o)) = some p := e
        rw [if_pos z] at e
        cases e
      | false =>
        have e : (if isCellB o = true then none else some (b, o)) = some p := e
        rw [z, if_neg Bool.false_ne_true] at e
        cases e
        exact ⟨c1, Option.isNone_iff_eq_none.mp c2, c3, q, z⟩
  · cases e
/-- what may turn while the generator runs: its own, and cells above L -/
def chW (L : Nat) (PR : List Addr) (h : Heap) : List Addr := PR ++ (List.range h.objs.size).filter fun b => decide (L ≤ b) && (match h.get? b with
  | some o => isCellB o
  | none => false)
theorem mem_chW {L : Nat} {PR : List Addr} {h : Heap} {b : Addr} : b ∈ chW L PR h → b ∈ PR ∨ (L ≤ b ∧ ∃ o, h.get? b = some o ∧ isCellB o = true) := fun hb => by
  rcases List.mem_append.mp hb with z | z
  · exact .inl z
  · obtain ⟨_, q⟩ := List.mem_filter.mp z
    rw [Bool.and_eq_true] at q
    refine .inr ⟨of_decide_eq_true q.1, ?_⟩
    cases e : h.get? b with
    | none =>
      have q2 := q.2
      rw [e] at q2
      cases q2
    | some o =>
      have q2 := q.2
      rw [e] at q2
      exact ⟨o, rfl, q2⟩
theorem chW_in {L : Nat} {PR : List Addr} {h : Heap} {b : Addr} (hb : b ∈ PR) : b ∈ chW L PR h := List.mem_append_left _ hb
theorem chW_cell {L : Nat} {PR : List Addr} {h : Heap} {b : Addr} {o : Obj} (h1 : L ≤ b) (h2 : h.get? b = some o) (h3 : isCellB o = true) : b ∈ chW L PR h :=
  List.mem_append_right _ (List.mem_filter.mpr ⟨List.mem_range.mpr (Heap.lt_size h2), by
    rw [Bool.and_eq_true]
    refine ⟨decide_eq_true h1, ?_⟩
    rw [h2]
    exact h3⟩)
/-- all of it stands but tables of code, which may have grown -/
def SRel (H H' : Hp) : Prop := ∀ b o, H b = some o → (∀ ps, o ≠ .tbl ps) → H' b = some o
theorem SRel.refl (H : Hp) : SRel H H := fun _ _ h _ => h
/-- tuples stand, what is known stands -/
def Fast (o : HO) : Prop := (∃ xs, o = .tup xs) ∨ ∃ u x, o = .frz u x
def KT (H H' : Hp) : Prop := ∀ b o, Fast o → H b = some o → H' b = some o
theorem KT.refl (H : Hp) : KT H H := fun _ _ _ h => h
theorem KT.trans {H H1 H2 : Hp} (a : KT H H1) (b : KT H1 H2) : KT H H2 := fun c o f e => b c o f (a c o f e)
section
variable {P : Program} {w : World} {K : PySem.W.Frag} {mg : Str → Option Value} {base : Heap} {N : List Str} {qual : Str} {scope : Scope} {f : Addr} {cd : Value} {A : Around} {outer : List Env} {L : Nat}
/-- the context: its frame at L -/
def gX (P : Program) (w : World) (K : PySem.W.Frag) (mg : Str → Option Value) (base : Heap) (N : List Str) (qual : Str) (scope : Scope) (f : Addr) (cd : Value) (A : Around) (outer : List Env) (L : Nat) (s0 : Shared) (H0 : Hp) : Cx where
  prog := P
  w := w
  K := K
  mg := mg
  base := base
  A := A.deeper (envOfC qual scope L f cd)
  N := N
  s_0 := s0
  H_0 := H0
  env := envOfC qual scope L f cd
  outer := outer
  stack := envOfC qual scope L f cd :: outer
  ex := []
  fn := fun _ => true
  calm := true
  pn := []
  xe := fun _ _ => False
theorem objThere {P : Program} {w : World} {H : Hp} {h : Heap} {a : Addr} {o : HO} (x : ObjOk P w H h a o) : ∃ u, h.get? a = some u := by
  induction o with
  | lst xs => obtain ⟨_, _, _, _, e⟩ := x; exact ⟨_, e⟩
  | tup xs => obtain ⟨_, _, _, ob, e, _⟩ := x; exact ⟨_, e⟩
  | dK kvs => obtain ⟨_, _, _, _, o, _, _, e, _⟩ := x; exact ⟨_, e⟩
  | dT kvs => obtain ⟨_, _, _, _, o, _, _, e, _⟩ := x; exact ⟨_, e⟩
  | set S n => obtain ⟨o, _, _, _, e, _⟩ := x; exact ⟨_, e⟩
  | ins C dx fs => obtain ⟨_, _, _, e, _⟩ := x; exact ⟨_, e⟩
  | own y => exact x
  | xd fs => obtain ⟨_, ⟨_, _, _, e, _⟩, _⟩ := x; exact ⟨_, e⟩
  | rng lo hi => obtain ⟨_, _, _, e⟩ := x; exact ⟨_, e⟩
  | frz ob u ih => obtain ⟨e, _⟩ := x; exact ⟨_, e⟩
  | tbl ps => exact ⟨_, (show h.get? a = some _ from x)⟩
  | met f y => exact ⟨_, (show h.get? a = some _ from x)⟩
  | ext φ => obtain ⟨_, e, _⟩ := x; exact e
/-- what the generator needs at a wake (s: as it fell asleep, tracked: H; pr: its lists, ip: its iterators; s2, Hc: now) -/
structure Rested (P : Program) (w : World) (K : PySem.W.Frag) (mg : Str → Option Value) (base : Heap) (A : Around) (outer : List Env) (L : Nat) (PR : List Addr) (s s2 : Shared) (Hc : Hp) : Prop where
  env : Env0 P w K mg base A outer s2 Hc
  os : s2.os = s.os
  keep : ∀ b ∈ PR, ∀ o, s.heap.get? b = some o → s2.heap.get? b = some o
  hid : ∀ b ∈ PR, Hc b = none
theorem wake_inv (hnc : (envOfC qual scope L f cd).cells = []) (hfs : ∀ b ∈ frs outer, b < L) (hbz : base.objs.size ≤ L) (hd : A.handled = none) {s0 s s2 : Shared} {H0 H Hc : Hp} {pins : List (Addr × Obj)} {σ : L2.St} {pr ip PR : List Addr}
    (I : Inv (gX P w K mg base N qual scope f cd A outer L s0 H0) pins σ H s) (hl : ∀ b ∈ pr, ∃ xs, H b = some (.lst xs)) (hL : ∀ b ∈ pr, L < b) (hPR : ∀ b, b = L ∨ b ∈ pr → b ∈ PR)
    (R : Rested P w K mg base A outer L PR s s2 Hc) :
    Inv (gX P w K mg base N qual scope f cd A outer L (truncS L s2) (cutH L (mergeL H pr Hc))) (pinsW L ip s2.heap (mergeL H pr Hc)) σ (mergeL H pr Hc) s2 := by
  have env0 := R.env
  obtain ⟨m, hn, hlook⟩ := I.loc
  have hn : s.heap.Ns L m := hn
  have hn2 : s2.heap.Ns L m := by
    obtain ⟨o, es, ep, e, r⟩ := hn
    exact ⟨o, es, ep, R.keep L (hPR L (.inl rfl)) o e, r⟩
  have lt2 : L < s2.heap.objs.size := hn2.lt
  have le2 := Nat.le_of_lt lt2
  have hLpr : L ∉ pr := fun z => Nat.lt_irrefl _ (hL L z)
  have low : ∀ {b : Addr}, b < L → mergeL H pr Hc b = Hc b := fun {b} hb => mergeL_out fun z => Nat.lt_asymm hb (hL b z)
  have hLn : mergeL H pr Hc L = none := by
    rw [mergeL_out hLpr]
    exact R.hid L (hPR L (.inl rfl))
  have cells : ∀ x c, (envOfC qual scope L f cd).cells.lookup x = some c → False := fun x c e => by
    rw [hnc] at e
    cases e
  have funs : (truncS L s2).heap.FunFrames base outer := by
    have all : ∀ (l : List Env), (∀ b ∈ frs l, b < L) → s2.heap.FunFrames base l → (truncS L s2).heap.FunFrames base l := by
      intro l
      induction l with
      | nil => exact fun _ _ => trivial
      | cons env r ih =>
        intro hs hl
        obtain ⟨hk, ⟨a, o, hf, hn, ho, hdd⟩, hr⟩ := hl
        have ha : a < L := hs a (by unfold frs; rw [List.filterMap_cons, hf]; exact List.mem_cons_self)
        exact ⟨hk, ⟨a, o, hf, hn, by rw [truncS_get le2 ha]; exact ho, hdd⟩, ih (fun b hb => hs b (by unfold frs; rw [List.filterMap_cons, hf]; exact List.mem_cons_of_mem _ hb)) hr⟩
    exact all outer hfs env0.funs
  have hok : HOk P w (mergeL H pr Hc) s2.heap := fun b o e => by
    by_cases hb : b ∈ pr
    · obtain ⟨xs, hx⟩ := hl b hb
      rw [mergeL_in hb, hx] at e
      cases e
      obtain ⟨z, its, n, rv, eo⟩ := I.hok b _ hx
      exact ⟨z, its, n, rv, R.keep b (hPR b (.inr hb)) _ eo⟩
    · rw [mergeL_out hb] at e
      refine (env0.hok b o e).stay (fun _ _ _ z => z) (fun c q => ?_) fun c xs q => ?_
      · rw [mergeL_out fun z => ?_]
        · exact q
        · rw [R.hid c (hPR c (.inr z))] at q
          cases q
      · rw [mergeL_out fun z => ?_]
        · exact q
        · rw [R.hid c (hPR c (.inr z))] at q
          cases q
  refine ⟨⟨env0.mod, I.ok.kind, I.ok.glob, I.ok.blt, Nat.le_of_eq (truncS_size le2), fun x y c e _ => (cells x c e).elim, I.ok.has, fun x c _ e => (cells x c e).elim, fun _ => hd, Around.frames_deeper env0.frames, .inr ⟨rfl, rfl⟩, fun b z => (nomatch (show b ∈ ([] : List Addr) from z)), fun b o e => ?_, ?_, fun b o _ z => (nomatch (show b ∈ ([] : List Addr) from z)), fun b z => (nomatch (show b ∈ ([] : List Addr) from z)), funs, fun b hb => ?_⟩,
    rfl, env0.bare, ⟨fun b o e n _ _ => (of_truncS le2 e).2, fun b o e _ _ _ => ⟨o.slots, (of_truncS le2 e).2⟩, fun b o e n _ => ?_, fun b o e _ => ⟨o, (of_truncS le2 e).2⟩, fun b xs e => ?_, fun b o u e => ?_, fun b ps e => ?_⟩, ⟨m, hn2, fun i x v e1 e2 e3 => ?_⟩, fun x c e => (cells x c e).elim, hLn, fun x c e => (cells x c e).elim, fun p hp => ?_, hok, I.len⟩
  · obtain ⟨q1, q2⟩ := env0.bs b o e
    have hb : b < L := Nat.lt_of_lt_of_le (Heap.lt_size e) hbz
    refine ⟨by show (truncS L s2).heap.get? b = _; rw [truncS_get le2 hb]; exact q1, ?_⟩
    show cutH L _ b = none
    unfold cutH
    rw [if_pos hb, low hb]
    exact q2
  · show base.objs.size ≤ (truncS L s2).heap.objs.size
    rw [truncS_size le2]
    exact hbz
  · show cutH L _ b = none
    unfold cutH
    rw [if_pos (hfs b hb), low (hfs b hb)]
    exact env0.frf b hb
  · have n : cutH L (mergeL H pr Hc) b = none := n
    unfold cutH at n
    rw [if_pos (of_truncS le2 e).1] at n
    exact n
  · have e : cutH L (mergeL H pr Hc) b = some _ := e
    exact of_cutH e
  · have e : cutH L (mergeL H pr Hc) b = some _ := e
    exact of_cutH e
  · have e : cutH L (mergeL H pr Hc) b = some _ := e
    exact ⟨#[], by rw [of_cutH e]; simp⟩
  · obtain ⟨u, r, q⟩ := hlook i x v e1 e2 e3
    rcases q with q | ⟨_, c, e, _⟩
    · exact ⟨u, r, .inl q⟩
    · exact (cells x c e).elim
  · have hp : p ∈ pinsW L ip s2.heap (mergeL H pr Hc) := hp
    obtain ⟨p1, p2, p3, p4, p5⟩ := of_pinsW hp
    exact ⟨p4, p2, Nat.ne_of_gt p1, fun z => Nat.lt_asymm p1 (hfs p.1 z), notCell p5⟩
end
end K1

namespace K1
open PySem PySem.Spec PyProof.Rows L2
open Sem (wp)
/-! ### one run from a wake to the next sleep -/
abbrev EndP := End → Shared → Prop
def Run2 (M : Model) (A : Around) (Φ : EndP) (c : Code) (t : Sem PySem.Fin) (fs : List Frame) (s : Shared) : Prop :=
  ∀ (Γ : PySem.Ctx) (p : Pos), Γ.code = c → Γ.Woken A → ∃ e s', Runs M Γ p t fs s e s' ∧ Φ e s'
section
variable {M : Model} {A : Around} {Φ : EndP} {c : Code} {fs : List Frame} {s : Shared}
/-- a part that raises nothing, then the rest -/
theorem run2_wrap {α : Type} {m : Sem α} {K1 : α → Sem PySem.Fin} {J1 : Value → Sem PySem.Fin} {gd : Bool → Bool} {lv : List Value → List Value}
    (h : wpAny M (A.over c fs) m (fun a z => Run2 M A Φ c (K1 a) fs z) (fun _ _ => False) s) : Run2 M A Φ c (m.wrap K1 J1 gd lv) fs s := fun Γ p hc hw => by
  subst hc
  exact runs_wrap_of_wp K1 J1 gd lv m (h (Γ.over fs) p (hw.over fs)) (fun a p1 s1 h1 => h1 Γ p1 rfl hw) fun _ _ _ h1 => h1.elim
theorem run2_bind {α : Type} {m : Sem α} {K1 : α → Sem PySem.Fin} (h : wpAny M (A.over c fs) m (fun a z => Run2 M A Φ c (K1 a) fs z) (fun _ _ => False) s) : Run2 M A Φ c (m >>= K1) fs s := by
  rw [Sem.bind_eq_wrap']
  exact run2_wrap h
theorem run2_at {q : Pos} {k : Unit → Sem PySem.Fin} (h : Run2 M A Φ c (k ()) fs s) : Run2 M A Φ c (.at q k) fs s :=
  run2_wrap (J1 := .raise) (gd := id) (lv := id) (m := standAt q) (K1 := k) (wpAny_standAt h)
theorem run2_point {l : List Value} {k : Unit → Sem PySem.Fin} (h : Run2 M A Φ c (k ()) fs s) : Run2 M A Φ c (.point l k) fs s :=
  run2_wrap (J1 := .raise) (gd := id) (lv := fun _ => l) (m := point) (K1 := k) (wpAny_point h)
theorem run2_call {d : Code} {hh : Option Value} {g : Bool} {l : List Value} {k : Result → Sem PySem.Fin} (h : ∀ q, Run2 M A Φ d (M.den d) (.ret k hh g l c q [] :: fs) s) : Run2 M A Φ c (.call d hh g l k) fs s := fun Γ p hc hw => by
  subst hc
  obtain ⟨e, z, hr, he⟩ := h p (Γ.goto d) p rfl (hw.goto d)
  exact ⟨e, z, runs_call_seg hr, he⟩
theorem run2_leaf {k : Result → Sem PySem.Fin} {hh : Option Value} {g : Bool} {l kp : List Value} {d : Code} {q : Pos} (r : Result) (h : Run2 M A Φ d (k r) fs s) : Run2 M A Φ c (leafOf r) (.ret k hh g l d q kp :: fs) s := fun Γ p hc hw => by
  subst hc
  obtain ⟨e, z, hr, he⟩ := h (Γ.goto d) q rfl (hw.goto d)
  exact ⟨e, z, Runs.pop r hr, he⟩
theorem run2_again {d : Code} (hq : d.quiet = true) (h : Run2 M A Φ d (M.den d) fs s) : Run2 M A Φ c (.pure (.again d)) fs s := fun Γ p hc hw => by
  subst hc
  obtain ⟨e, z, hr, he⟩ := h (Γ.goto d) p rfl (hw.goto d)
  exact ⟨e, z, Runs.head (c₁ := d) (fun _ _ x => .again hq x) hr, he⟩
theorem run2_end (r : Result) (h : Φ (.ret r) s) : Run2 M A Φ c (leafOf r) [] s := fun Γ p hc hw => ⟨.ret r, s, Runs.leaf r, h⟩
theorem run2_yield {v : Value} {g : Bool} {l : List Value} {k : Resume → Sem PySem.Fin} (hf : splitAtGen fs = none) (h : ∀ q, Φ (.susp v g l k c q fs) s) : Run2 M A Φ c (.yield v g l k) fs s := fun Γ p hc hw => by
  subst hc
  exact ⟨_, s, Runs.yield' fs hf, h p⟩
end

/-! ### a generator's consumers -/
/-- what comes out: how many, the i-th from a heap, the end -/
structure GJ where
  n : Nat
  Y : Nat → Hp → V → Hp → Prop
  Z : Hp → Hp → Prop
structure GB where
  P : Program
  w : World
  K : PySem.W.Frag
  mg : Str → Option Value
  base : Heap
  N : List Str
  qual : Str
  scope : Scope
  f : Addr
  cd : Value
  A : Around
  outer : List Env
  L : Nat
  a : Addr
  go : Obj
abbrev GB.X (B : GB) (s0 : Shared) (H0 : Hp) : Cx := gX B.P B.w B.K B.mg B.base B.N B.qual B.scope B.f B.cd B.A B.outer B.L s0 H0
abbrev GB.env (B : GB) : Env := envOfC B.qual B.scope B.L B.f B.cd
abbrev GB.M (B : GB) : Model := model B.P B.w
structure GB.Ok (B : GB) : Prop where
  nc : B.env.cells = []
  fs : ∀ b ∈ frs B.outer, b < B.L
  bz : B.base.objs.size ≤ B.L
  hd : B.A.handled = none
  la : B.L < B.a
  nc2 : isCellB B.go = false
/-- at a wake: the state, the consumer's heap, the generator's, its lists, its iterators -/
structure Wk where
  s : Shared
  Hc : Hp
  Hg : Hp
  pr : List Addr
  ip : List Addr
abbrev GB.XW (B : GB) (W : Wk) : Cx := B.X (truncS B.L W.s) (cutH B.L W.Hg)
abbrev GB.pW (B : GB) (W : Wk) : List (Addr × Obj) := pinsW B.L W.ip W.s.heap W.Hg
/-- what may turn while it runs -/
def chC (L : Nat) (pl : List Addr) (h : Heap) (H : Hp) : List Addr := (List.range h.objs.size).filter fun b => decide (L ≤ b) && (H b).isNone && decide (b ∉ pl)
theorem mem_chC {L : Nat} {pl : List Addr} {h : Heap} {H : Hp} {b : Addr} : b ∈ chC L pl h H ↔ b < h.objs.size ∧ L ≤ b ∧ H b = none ∧ b ∉ pl := by
  unfold chC
  rw [List.mem_filter, List.mem_range, Bool.and_eq_true, Bool.and_eq_true, decide_eq_true_eq, decide_eq_true_eq, Option.isNone_iff_eq_none, and_assoc]
structure WkOk (B : GB) (pl : List Addr) (W : Wk) : Prop where
  lt : B.L < W.s.heap.objs.size
  hm : ∀ b, b ∉ W.pr → W.Hg b = W.Hc b
  hid : ∀ b, b ∈ W.pr ∨ b ∈ W.ip → W.Hc b = none ∧ B.L < b
  plk : ∀ b ∈ pl, B.L < b ∧ W.Hc b = none ∧ (∃ o, W.s.heap.get? b = some o ∧ isCellB o = false) ∧ b ∉ W.pr ∧ b ∉ W.ip
  gen : W.s.heap.get? B.a = some B.go ∧ W.Hc B.a = none ∧ B.a ∉ W.pr ∧ B.a ∉ W.ip ∧ B.a ∉ pl
/-- what the consumer learns -/
structure Facts (B : GB) (pl : List Addr) (W : Wk) (HcY : Hp) (s : Shared) : Prop where
  os : s.os = W.s.os
  bare : AllBare s.gens
  un : Un (frs B.outer) (chC B.L pl W.s.heap W.Hc) W.Hc HcY W.s.heap s.heap
  hok : HOk B.P B.w HcY s.heap
/-- what the consumer promises for the next wake -/
structure Rest (B : GB) (pl : List Addr) (HcY : Hp) (s s2 : Shared) (Hc2 : Hp) : Prop where
  env : Env0 B.P B.w B.K B.mg B.base B.A B.outer s2 Hc2
  os : s2.os = s.os
  keep : ∀ b o, B.L ≤ b → b ∉ pl → HcY b = none → s.heap.get? b = some o → isCellB o = false → s2.heap.get? b = some o ∧ Hc2 b = none
  plk : ∀ b ∈ pl, Hc2 b = none ∧ ∃ o, s2.heap.get? b = some o ∧ isCellB o = false
def Phi (B : GB) (J : GJ) (pl : List Addr) : Nat → Wk → EndP
  | 0, W, .ret r, s => (r = .ok (.ret .none) ∨ r = .ok .next) ∧ ∃ HcE, Facts B pl W HcE s ∧ J.Z W.Hc HcE
  | 0, _, .susp .., _ => False
  | _ + 1, _, .ret _, _ => False
  | m + 1, W, .susp v g l k c p fs, s => (End.susp v g l k c p fs).quiet = true ∧ ∃ x HcY, RelV x v ∧ Facts B pl W HcY s ∧ (s.heap.get? B.a = some B.go ∧ HcY B.a = none) ∧ J.Y (J.n - (m + 1)) W.Hc x HcY ∧
      ∀ s2 Hc2, Rest B pl HcY s s2 Hc2 → KT HcY Hc2 → ∃ W' : Wk, W'.s = s2 ∧ W'.Hc = Hc2 ∧ Run2 B.M B.A (Phi B J pl m W') c (k (.send .none)) fs s2
/-- inside: the invariant, its own iterators as they stand -/
def GI (B : GB) (W : Wk) (ip : List (Addr × Obj)) (σ : L2.St) (H : Hp) (s : Shared) : Prop :=
  Inv (B.XW W) (B.pW W) σ H s ∧ ∀ p ∈ ip, s.heap.get? p.1 = some p.2 ∧ H p.1 = none ∧ B.L < p.1 ∧ isCellB p.2 = false ∧ ∀ q ∈ B.pW W, q.1 ≠ p.1
/-- a list of its own -/
theorem own_new {B : GB} {pl : List Addr} {W : Wk} (wo : WkOk B pl W) {σ : L2.St} {H : Hp} {s : Shared} (I : Inv (B.XW W) (B.pW W) σ H s) {b : Addr} (hl : ∃ xs, H b = some (.lst xs)) (hn : ∀ o, W.Hc b = some o → ∃ ps, o = .tbl ps) : W.Hc b = none := by
  cases e : W.Hc b with
  | none => rfl
  | some o =>
    obtain ⟨ps, rfl⟩ := hn o e
    obtain ⟨xs, hl⟩ := hl
    obtain ⟨more, z⟩ := I.base.tbls b ps (cutH_tbl (by
      rw [wo.hm b fun z => by
        rw [(wo.hid b (.inl z)).1] at e
        cases e]
      exact e))
    rw [hl] at z
    cases z
/-- at a sleep or at the end -/
theorem gen_here {B : GB} (ok : B.Ok) {pl : List Addr} {W : Wk} (wo : WkOk B pl W) {σ : L2.St} {H : Hp} {s : Shared} (I : Inv (B.XW W) (B.pW W) σ H s) : s.heap.get? B.a = some B.go ∧ H B.a = none ∧ (B.a, B.go) ∈ B.pW W := by
  obtain ⟨g1, g2, g3, g4, g5⟩ := wo.gen
  have mem := mem_pinsW (ip := W.ip) (H := W.Hg) ok.la (by rw [wo.hm _ g3]; exact g2) g4 g1 ok.nc2
  have q := I.pin (B.a, B.go) (List.mem_append_right _ mem)
  exact ⟨q.1, q.2.1, mem⟩
theorem slept {B : GB} (ok : B.Ok) {pl : List Addr} {W : Wk} (wo : WkOk B pl W) {σ : L2.St} {H : Hp} {s : Shared} (I : Inv (B.XW W) (B.pW W) σ H s) {pr : List Addr} (hl : ∀ b ∈ pr, ∃ xs, H b = some (.lst xs)) (hc : ∀ b ∈ pr, W.Hc b = none) (sr : SRel W.Hc H) :
    Facts B pl W (hideL H pr) s := by
  have le := Nat.le_of_lt wo.lt
  have lowpr : ∀ {b : Addr}, b < B.L → b ∉ W.pr := fun {b} hb z => Nat.lt_asymm hb (wo.hid b (.inl z)).2
  have low0 : ∀ {b : Addr}, b < B.L → W.Hc b = none → cutH B.L W.Hg b = none := fun {b} hb n => by
    unfold cutH
    rw [if_pos hb, wo.hm b (lowpr hb)]
    exact n
  have low : ∀ {b : Addr} {o : Obj}, b < B.L → W.s.heap.get? b = some o → (truncS B.L W.s).heap.get? b = some o := fun {b o} hb e => by
    rw [truncS_get le hb]
    exact e
  have noex : ∀ b : Addr, b ∉ (B.XW W).ex := fun b z => (nomatch (show b ∈ ([] : List Addr) from z))
  have up : ∀ {b : Addr} {o : Obj}, B.L ≤ b → b ∉ chC B.L pl W.s.heap W.Hc → W.s.heap.get? b = some o → W.Hc b = none → s.heap.get? b = some o ∧ H b = none := fun {b o} hb hx e n => by
    have hp : b ∈ pl := by
      by_cases z : b ∈ pl
      · exact z
      · exact absurd (mem_chC.mpr ⟨Heap.lt_size e, hb, n, z⟩) hx
    obtain ⟨p1, p2, ⟨o', p3, p4⟩, p5, p6⟩ := wo.plk b hp
    rw [e] at p3
    cases p3
    have q := I.pin (b, o) (List.mem_append_right _ (mem_pinsW p1 (by rw [wo.hm b p5]; exact n) p6 e p4))
    exact ⟨q.1, q.2.1⟩
  have hide : ∀ {b : Addr}, H b = none → hideL H pr b = none := fun {b} n => by
    unfold hideL
    split
    · rfl
    · exact n
  have srh : ∀ {b : Addr} {o : HO}, W.Hc b = some o → hideL H pr b = H b := fun {b o} e => hideL_out fun z => by
    rw [hc b z] at e
    cases e
  have tb : ∀ {b : Addr} {ps : _}, W.Hc b = some (.tbl ps) → ∃ more, H b = some (.tbl (ps ++ more)) := fun {b ps} e => I.base.tbls b ps (cutH_tbl (by
    rw [wo.hm b fun z => by
      rw [(wo.hid b (.inl z)).1] at e
      cases e]
    exact e))
  have all : ∀ {b : Addr} {u : HO}, W.Hc b = some u → ∃ u', H b = some u' := fun {b u} e => by
    by_cases t : ∃ ps, u = .tbl ps
    · obtain ⟨ps, rfl⟩ := t
      obtain ⟨more, z⟩ := tb e
      exact ⟨_, z⟩
    · exact ⟨u, sr b u e fun ps z => t ⟨ps, z⟩⟩
  refine ⟨I.os, I.bare, ⟨fun b o e n hf hx => ?_, fun b o e n hf hx => ?_, fun b o e n hx => ?_, fun b o e hx => ?_, fun b xs e => ?_, fun b o u e => ?_, fun b ps e => ?_⟩, fun b o e => ?_⟩
  · by_cases hb : b < B.L
    · exact I.base.keep b o (low hb e) (low0 hb n) hf (noex b)
    · exact (up (Nat.le_of_not_lt hb) hx e n).1
  · have hb := ok.fs b hf
    exact I.base.slot b o (low hb e) (low0 hb n) hf (noex b)
  · by_cases hb : b < B.L
    · exact hide (I.base.free b o (low hb e) (low0 hb n) (noex b))
    · exact hide (up (Nat.le_of_not_lt hb) hx e n).2
  · by_cases hb : b < B.L
    · exact I.base.there b o (low hb e) (noex b)
    · cases q : W.Hc b with
      | none => exact ⟨o, (up (Nat.le_of_not_lt hb) hx e q).1⟩
      | some u =>
        obtain ⟨u', z⟩ := all q
        exact objThere (I.hok b _ z)
  · rw [srh e]
    exact sr b _ e fun _ z => nomatch z
  · rw [srh e]
    exact sr b _ e fun _ z => nomatch z
  · rw [srh e]
    exact tb e
  · have hb : b ∉ pr := fun z => by
      rw [hideL_in z] at e
      cases e
    rw [hideL_out hb] at e
    refine (I.hok b o e).stay (fun _ _ _ z => z) (fun d q => ?_) fun d xs q => ?_
    · rw [hideL_out fun z => ?_]
      · exact q
      · obtain ⟨xs, z⟩ := hl d z
        rw [q] at z
        cases z
    · rw [hideL_out fun z => ?_]
      · exact q
      · obtain ⟨xs, z⟩ := hl d z
        rw [q] at z
        cases z
/-- at the next wake -/
theorem woken {B : GB} (ok : B.Ok) {pl : List Addr} {W : Wk} (wo : WkOk B pl W) {σ : L2.St} {H Hc2 : Hp} {s s2 : Shared} {ip : List (Addr × Obj)} (I : GI B W ip σ H s) {pr : List Addr} (hl : ∀ b ∈ pr, ∃ xs, H b = some (.lst xs)) (hL : ∀ b ∈ pr, B.L < b)
    (R : Rest B pl (hideL H pr) s s2 Hc2) : WkOk B pl ⟨s2, Hc2, mergeL H pr Hc2, pr, ip.map (·.1)⟩ ∧ GI B ⟨s2, Hc2, mergeL H pr Hc2, pr, ip.map (·.1)⟩ ip σ (mergeL H pr Hc2) s2 ∧ ∀ b ∈ pr, Hc2 b = none := by
  obtain ⟨I, hip⟩ := I
  obtain ⟨m, hn, _⟩ := id I.loc
  obtain ⟨oL, esL, epL, eL, dL, _⟩ := id hn
  have eL : s.heap.get? B.L = some oL := eL
  have cL : isCellB oL = false := isCell_no fun v z => by rw [dL] at z; cases z
  have hipA : ∀ b ∈ ip.map (·.1), ∃ o, (b, o) ∈ ip := fun b hb => by
    obtain ⟨p, hp, rfl⟩ := List.mem_map.mp hb
    exact ⟨p.2, hp⟩
  have pin : ∀ {b : Addr}, b ∈ pl → H b = none ∧ B.L < b ∧ b ∉ pr ∧ b ∉ ip.map (·.1) := fun {b} hb => by
    obtain ⟨p1, p2, ⟨o', p3, p4⟩, p5, p6⟩ := wo.plk b hb
    have mem := mem_pinsW (ip := W.ip) (H := W.Hg) p1 (by rw [wo.hm b p5]; exact p2) p6 p3 p4
    have q := I.pin (b, o') (List.mem_append_right _ mem)
    refine ⟨q.2.1, p1, fun z => ?_, fun z => ?_⟩
    · obtain ⟨xs, z⟩ := hl b z
      rw [show H b = none from q.2.1] at z
      cases z
    · obtain ⟨o, z⟩ := hipA b z
      exact (hip _ z).2.2.2.2 (b, o') mem rfl
  have hideN : ∀ {b : Addr}, H b = none → hideL H pr b = none := fun {b} n => by
    unfold hideL
    split
    · rfl
    · exact n
  have obj : ∀ {b : Addr}, b = B.L ∨ b ∈ pr ∨ b ∈ ip.map (·.1) → B.L ≤ b ∧ b ∉ pl ∧ hideL H pr b = none ∧ ∃ o, s.heap.get? b = some o ∧ isCellB o = false := fun {b} hb => by
    rcases hb with rfl | hb | hb
    · exact ⟨Nat.le_refl _, fun z => Nat.lt_irrefl _ (pin z).2.1, hideN I.free, oL, eL, cL⟩
    · refine ⟨Nat.le_of_lt (hL b hb), fun z => (pin z).2.2.1 hb, hideL_in hb, ?_⟩
      obtain ⟨xs, e⟩ := hl b hb
      obtain ⟨_, its, n, _, eo⟩ := I.hok b _ e
      exact ⟨_, eo, rfl⟩
    · obtain ⟨o, hm⟩ := hipA b hb
      obtain ⟨h0, h1, h2, h4, _⟩ := hip _ hm
      exact ⟨Nat.le_of_lt h2, fun z => (pin z).2.2.2 hb, hideN h1, o, h0, h4⟩
  have kept : ∀ {b : Addr}, b = B.L ∨ b ∈ pr ∨ b ∈ ip.map (·.1) → Hc2 b = none ∧ ∀ o, s.heap.get? b = some o → s2.heap.get? b = some o := fun {b} hb => by
    obtain ⟨h1, h2, h3, o, h4, h5⟩ := obj hb
    obtain ⟨r1, r2⟩ := R.keep b o h1 h2 h3 h4 h5
    exact ⟨r2, fun o' e => by rw [h4] at e; cases e; exact r1⟩
  have I2 := wake_inv (ip := ip.map (·.1)) (PR := B.L :: (pr ++ ip.map (·.1))) ok.nc ok.fs ok.bz ok.hd I hl hL (fun b hb => by
    rcases hb with hb | hb
    · rw [hb]; exact List.mem_cons_self ..
    · exact List.mem_cons_of_mem _ (List.mem_append_left _ hb)) (Hc := Hc2) (s2 := s2) ⟨R.env, R.os, fun b hb o e => by
    rcases List.mem_cons.mp hb with z | z
    · exact (kept (.inl z)).2 o e
    · exact (kept (.inr (List.mem_append.mp z))).2 o e, fun b hb => by
    rcases List.mem_cons.mp hb with z | z
    · exact (kept (.inl z)).1
    · exact (kept (.inr (List.mem_append.mp z))).1⟩
  have ga : s2.heap.get? B.a = some B.go ∧ Hc2 B.a = none ∧ B.a ∉ pr ∧ B.a ∉ ip.map (·.1) ∧ B.a ∉ pl := by
    obtain ⟨g1, g2, g3⟩ := gen_here ok wo I
    have np : B.a ∉ pr := fun z => by
      obtain ⟨xs, z⟩ := hl _ z
      rw [g2] at z
      cases z
    obtain ⟨r1, r2⟩ := R.keep B.a B.go (Nat.le_of_lt ok.la) wo.gen.2.2.2.2 (by rw [hideL_out np]; exact g2) g1 ok.nc2
    refine ⟨r1, r2, np, fun z => ?_, wo.gen.2.2.2.2⟩
    obtain ⟨o, z⟩ := hipA _ z
    exact (hip _ z).2.2.2.2 _ g3 rfl
  refine ⟨⟨?_, fun b hb => mergeL_out hb, fun b hb => ?_, fun b hb => ?_, ga⟩, ⟨I2, fun p hp => ?_⟩, fun b hb => (kept (.inr (.inl hb))).1⟩
  · exact Heap.lt_size ((kept (.inl rfl)).2 oL eL)
  · rcases hb with hb | hb
    · exact ⟨(kept (.inr (.inl hb))).1, hL b hb⟩
    · obtain ⟨o, hm⟩ := hipA b hb
      exact ⟨(kept (.inr (.inr hb))).1, (hip _ hm).2.2.1⟩
  · obtain ⟨h1, h2⟩ := R.plk b hb
    obtain ⟨_, h3, h4, h5⟩ := pin hb
    exact ⟨h3, h1, h2, h4, h5⟩
  · have hm : p.1 ∈ ip.map (·.1) := List.mem_map.mpr ⟨p, hp, rfl⟩
    obtain ⟨h0, h1, h2, h4, h5⟩ := hip p hp
    obtain ⟨k1, k2⟩ := kept (.inr (.inr hm))
    refine ⟨k2 _ h0, ?_, h2, h4, fun q hq z => ?_⟩
    · by_cases hb' : p.1 ∈ pr
      · rw [mergeL_in hb']
        exact h1
      · rw [mergeL_out hb']
        exact k1
    · exact (of_pinsW hq).2.2.1 (by rw [z]; exact hm)
end K1

namespace K1
open PySem PySem.Spec PyProof.Rows L2
open Sem (wp)
/-! ### a generator's statements -/
/-- what is wanted behind a statement: by the number of what is out, the consumer's heap at the last wake -/
structure GE where
  nx : Nat → Hp → L2.St → Hp → Prop
  rt : Nat → Hp → V → Hp → Prop
  bk : Nat → Hp → L2.St → Hp → Prop := fun _ _ _ _ => False
  ct : Nat → Hp → L2.St → Hp → Prop := fun _ _ _ _ => False
abbrev TG2 := GE → Nat → Hp → L2.St → Hp → Prop
def GE.at (D : GE) (i : Nat) (Hc : Hp) : Ends := { nx := D.nx i Hc, rt := D.rt i Hc, bk := D.bk i Hc, ct := D.ct i Hc }
def GSP2 (B : GB) (W : Wk) (ip : List (Addr × Obj)) (D : GE) (i : Nat) (f : Flow) (s : Shared) : Prop :=
  match f with
  | .next => ∃ σ H, GI B W ip σ H s ∧ D.nx i W.Hc σ H
  | .brk => ∃ σ H, GI B W ip σ H s ∧ D.bk i W.Hc σ H
  | .cont => ∃ σ H, GI B W ip σ H s ∧ D.ct i W.Hc σ H
  | .ret u => ∃ v σ H, GI B W ip σ H s ∧ RelV v u ∧ D.rt i W.Hc v H
/-- where its code stands -/
structure GC2 (B : GB) (c : Code) (fs : List Frame) (gd : Bool → Bool) : Prop where
  over : B.A.over c fs = B.A.deeper B.env
  split : splitAtGen fs = none
  guard : fs.any Frame.guarded = false
  gd : gd false = false
def GK2 (B : GB) (J : GJ) (pl : List Addr) (ip : List (Addr × Obj)) (c : Code) (fs : List Frame) (K1 : Flow → Sem PySem.Fin) (D : GE) : Prop :=
  ∀ (m i : Nat) (W : Wk) (s : Shared) (f : Flow), m + i = J.n → WkOk B pl W → GSP2 B W ip D i f s → Run2 B.M B.A (Phi B J pl m W) c (K1 f) fs s
structure G2 (B : GB) (J : GJ) (pl : List Addr) (st : Stmt) (t : TG2) : Prop where
  run : ∀ (ip : List (Addr × Obj)) (c : Code) (fs : List Frame) (K1 : Flow → Sem PySem.Fin) (J1 : Value → Sem PySem.Fin) (gd : Bool → Bool) (lv : List Value → List Value) (m i : Nat) (W : Wk) (s : Shared) (σ : L2.St) (H : Hp) (D : GE),
    GC2 B c fs gd → m + i = J.n → WkOk B pl W → GK2 B J pl ip c fs K1 D → GI B W ip σ H s → t D i W.Hc σ H →
    Run2 B.M B.A (Phi B J pl m W) c ((exec st B.env).wrap K1 J1 gd lv) fs s
structure G2s (B : GB) (J : GJ) (pl : List Addr) (st : List Stmt) (t : TG2) : Prop where
  run : ∀ (ip : List (Addr × Obj)) (c : Code) (fs : List Frame) (K1 : Flow → Sem PySem.Fin) (J1 : Value → Sem PySem.Fin) (gd : Bool → Bool) (lv : List Value → List Value) (m i : Nat) (W : Wk) (s : Shared) (σ : L2.St) (H : Hp) (D : GE),
    GC2 B c fs gd → m + i = J.n → WkOk B pl W → GK2 B J pl ip c fs K1 D → GI B W ip σ H s → t D i W.Hc σ H →
    Run2 B.M B.A (Phi B J pl m W) c ((execs st B.env).wrap K1 J1 gd lv) fs s
section
variable {B : GB} {J : GJ} {pl : List Addr} {st : Stmt} {rest : List Stmt}
/-- the iterators' records, pinned -/
theorem GI.pinned {W : Wk} {ip : List (Addr × Obj)} {σ : L2.St} {H : Hp} {s : Shared} (ok : B.Ok) (g : GI B W ip σ H s) : Inv (B.XW W) (B.pW W ++ ip) σ H s := by
  obtain ⟨I, h⟩ := g
  refine I.pins_of fun p hp => ?_
  rcases List.mem_append.mp hp with z | z
  · exact I.pin p (List.mem_append_right _ z)
  · obtain ⟨h0, h1, h2, h4, _⟩ := h p z
    exact ⟨h0, h1, Nat.ne_of_gt h2, fun z => Nat.lt_asymm h2 (ok.fs p.1 z), notCell h4⟩
theorem GI.unpin {W : Wk} {ip : List (Addr × Obj)} {σ σ' : L2.St} {H H' : Hp} {s s' : Shared} (g : GI B W ip σ H s) (I : Inv (B.XW W) (B.pW W ++ ip) σ' H' s') : GI B W ip σ' H' s' := by
  refine ⟨I.unpinned, fun p hp => ?_⟩
  obtain ⟨h0, h1, h2, h4, h5⟩ := g.2 p hp
  have q := I.pin p (List.mem_append_right _ (List.mem_append_right _ hp))
  exact ⟨q.1, q.2.1, h2, h4, h5⟩
theorem gsp_of {W : Wk} {ip : List (Addr × Obj)} {σ : L2.St} {H : Hp} {s s' : Shared} {D : GE} {i : Nat} {f : Flow} (g : GI B W ip σ H s) (h : SP (B.XW W) (B.pW W ++ ip) (D.at i W.Hc) f s') : GSP2 B W ip D i f s' := by
  cases f with
  | next => obtain ⟨σ1, H1, I, q⟩ := h; exact ⟨σ1, H1, g.unpin I, q⟩
  | brk => obtain ⟨σ1, H1, I, q⟩ := h; exact ⟨σ1, H1, g.unpin I, q⟩
  | cont => obtain ⟨σ1, H1, I, q⟩ := h; exact ⟨σ1, H1, g.unpin I, q⟩
  | ret u => obtain ⟨v, σ1, H1, I, r, q⟩ := h; exact ⟨v, σ1, H1, g.unpin I, r, q⟩
def tPl (t : TS) : TG2 := fun D i Hc σ H => t (D.at i Hc) σ H
theorem g2_ps (ok : B.Ok) {t : TS} (h : ∀ s0 H0, PS (B.X s0 H0) st t) : G2 B J pl st (tPl t) := by
  refine ⟨fun ip c fs K1 J1 gd lv m i W s σ H D g hm wo k gi ht => ?_⟩
  refine run2_wrap ?_
  rw [g.over]
  exact wpAny_mono ((h _ _).run _ s σ H (D.at i W.Hc) (gi.pinned ok) ht) (fun f s' hs => k m i W s' f hm wo (gsp_of gi hs)) fun x s' hx => hx
theorem g2s_pss (ok : B.Ok) {t : TS} (h : ∀ s0 H0, PSs (B.X s0 H0) rest t) : G2s B J pl rest (tPl t) := by
  refine ⟨fun ip c fs K1 J1 gd lv m i W s σ H D g hm wo k gi ht => ?_⟩
  refine run2_wrap ?_
  rw [g.over]
  exact wpAny_mono ((h _ _).run _ s σ H (D.at i W.Hc) (gi.pinned ok) ht) (fun f s' hs => k m i W s' f hm wo (gsp_of gi hs)) fun x s' hx => hx
def tN2 : TG2 := fun D i Hc σ H => D.nx i Hc σ H
theorem g2s_nil : G2s B J pl [] tN2 := by
  refine ⟨fun ip c fs K1 J1 gd lv m i W s σ H D g hm wo k gi ht => ?_⟩
  exact k m i W s .next hm wo ⟨σ, H, gi, ht⟩
def tThen2 (t u : TG2) : TG2 := fun D i Hc σ H => t { D with nx := fun i' Hc' σ' H' => u D i' Hc' σ' H' } i Hc σ H
theorem g2s_cons {t u : TG2} (a : G2 B J pl st t) (b : G2s B J pl rest u) : G2s B J pl (st :: rest) (tThen2 t u) := by
  refine ⟨fun ip c fs K1 J1 gd lv m i W s σ H D g hm wo k gi ht => ?_⟩
  rw [execs_cons_wrap]
  refine a.run ip c fs _ J1 gd lv m i W s σ H { D with nx := fun i' Hc' σ' H' => u D i' Hc' σ' H' } g hm wo (fun m' i' W' s' f hm' wo' hs => ?_) gi ht
  cases f with
  | next =>
    obtain ⟨σ', H', gi', q⟩ := hs
    exact b.run ip c fs K1 J1 gd lv m' i' W' s' σ' H' D g hm' wo' k gi' q
  | brk => exact k m' i' W' s' .brk hm' wo' hs
  | cont => exact k m' i' W' s' .cont hm' wo' hs
  | ret u => exact k m' i' W' s' (.ret u) hm' wo' hs
theorem g2s_one {t : TG2} (a : G2 B J pl st t) : G2s B J pl [st] (tThen2 t tN2) := g2s_cons a g2s_nil
/-! ### if -/
def tIf2 (tc : TT) (ta tb : TG2) : TG2 := fun D i Hc σ H => tc σ H fun b H1 => if b = true then ta D i Hc σ H1 else tb D i Hc σ H1
theorem g2_if (ok : B.Ok) {test : Expr} {a b : List Stmt} {pos : Pos} {tc : TT} {ta tb : TG2} (hc : ∀ s0 H0, PT (B.X s0 H0) test tc) (ha : G2s B J pl a ta) (hb : G2s B J pl b tb) : G2 B J pl (.If test a b pos) (tIf2 tc ta tb) := by
  refine ⟨fun ip c fs K1 J1 gd lv m i W s σ H D g hm wo k gi ht => ?_⟩
  show Run2 _ _ _ c (.at pos fun _ => (isTrue test B.env (eval test B.env) >>= fun d => if d then execs a B.env else execs b B.env).wrap K1 J1 gd lv) fs s
  refine run2_at ?_
  rw [Sem.bind_eq_wrap', Sem.wrap_wrap]
  refine run2_wrap ?_
  rw [g.over]
  refine wpAny_mono ((hc _ _).run _ s σ H _ (gi.pinned ok) ht) (fun d s' hd => ?_) fun x s' hx => hx
  obtain ⟨H2, I2, q2⟩ := hd
  have gi2 := gi.unpin I2
  cases d with
  | true => exact ha.run ip c fs K1 J1 gd lv m i W s' σ H2 D g hm wo k gi2 (by rw [if_pos rfl] at q2; exact q2)
  | false => exact hb.run ip c fs K1 J1 gd lv m i W s' σ H2 D g hm wo k gi2 (by rw [if_neg Bool.false_ne_true] at q2; exact q2)
/-! ### while -/
def tWhile2 (tc : TT) (tb : TG2) : TG2 := fun D i Hc σ H => ∃ Wv : Nat → Nat → Hp → L2.St → Hp → Prop, (∃ r, Wv r i Hc σ H) ∧ ∀ r i Hc σ H, Wv r i Hc σ H →
  tc σ H fun b H1 => if b = true then ∃ Nx : Nat → Hp → L2.St → Hp → Prop, (∀ i' Hc' σ' H', Nx i' Hc' σ' H' → ∃ r', r' < r ∧ Wv r' i' Hc' σ' H') ∧ tb { D with nx := Nx, ct := Nx, bk := D.nx } i Hc σ H1 else D.nx i Hc σ H1
theorem gc2_loop {c d : Code} {fs : List Frame} {gd : Bool → Bool} {k : Result → Sem PySem.Fin} {l kp : List Value} {p : Pos} (g : GC2 B c fs gd) (hw : d.weight = 0) (hu : d.cUnits = 0) : GC2 B d (.ret k none (gd false) l c p kp :: fs) id where
  over := (GenW.over_loop hw hu).trans g.over
  split := by
    show Option.map _ (splitAtGen fs) = none
    rw [g.split]
    rfl
  guard := by
    show (gd false || fs.any Frame.guarded) = false
    rw [g.guard, g.gd]
    rfl
  gd := rfl
theorem run2_whileLoop {P : Program} {w : World} {A : Around} {Φ : EndP} {test : Expr} {body : List Stmt} {env : Env} {fs : List Frame} {s : Shared}
    (h : wpAny (model P w) (A.over (.whileLoop test body [] env) fs) (isTrue test env (eval test env)) (fun b z => if b = true then
      ∀ J1 : Value → Sem PySem.Fin, Run2 (model P w) A Φ (.whileLoop test body [] env) ((execs body env).wrap (fun f => match f with
        | .next | .cont => .pure (.again (.whileLoop test body [] env))
        | .brk => leafOf (.ok .next)
        | .ret v => leafOf (.ok (.ret v))) J1 id id) fs z
      else Run2 (model P w) A Φ (.whileLoop test body [] env) (leafOf (.ok .next)) fs z) (fun _ _ => False) s) :
    Run2 (model P w) A Φ (.whileLoop test body [] env) ((model P w).den (.whileLoop test body [] env)) fs s := by
  show Run2 _ A Φ _ (Sem.onRaise (whileTurn test body [] env) fun x => do noteFrame x env; theTreesLotGoes x) fs s
  rw [Sem.onRaise_eq_wrap]
  show Run2 _ A Φ _ (Sem.wrap _ _ _ _ (isTrue test env (eval test env) >>= fun b => _)) fs s
  rw [Sem.bind_eq_wrap', Sem.wrap_wrap]
  refine run2_wrap (wpAny_mono h (fun b z hb => ?_) fun _ _ x => x)
  cases b with
  | true =>
    rw [if_pos rfl] at hb
    show Run2 _ A Φ _ (Sem.wrap _ _ _ _ (if true = true then _ else _)) fs z
    rw [if_pos rfl, Sem.bind_eq_wrap', Sem.wrap_wrap]
    refine Eq.mpr (congrArg (fun t => Run2 (model P w) A Φ (.whileLoop test body [] env) t fs z) (Sem.wrap_congr (execs body env) id id (fun f => ?_) (fun x => rfl))) (hb fun x => (do noteFrame x env; theTreesLotGoes x : Sem Unit).bind fun _ => .raise x)
    cases f <;> rfl
  | false =>
    rw [if_neg Bool.false_ne_true] at hb
    exact hb
theorem g2_while (ok : B.Ok) {test : Expr} {body : List Stmt} {pos : Pos} {tc : TT} {tb : TG2} (hc : ∀ s0 H0, PT (B.X s0 H0) test tc) (hb : G2s B J pl body tb) : G2 B J pl (.While test body [] pos) (tWhile2 tc tb) := by
  refine ⟨fun ip c fs K1 J1 gd lv m i W s σ H D g hm wo k gi ht => ?_⟩
  obtain ⟨Wv, ⟨r0, w0⟩, turn⟩ := ht
  refine run2_at (run2_call fun p => ?_)
  generalize hkk : (fun r : Result => ((match r with | .ok f => (.pure f : Sem Flow) | .error e => .raise e).onRaise fun (x : Value) => (do
        if (← field x 1) == Value.none then unsupported "frame.own-activation:exception-without-traceback"
        setFlight x B.env.frame : Sem Unit)).wrap K1 J1 gd lv) = kk
  have okk : ∀ f, kk (.ok f) = K1 f := fun f => by rw [← hkk]; rfl
  have gl := gc2_loop (k := kk) (d := .whileLoop test body [] B.env) (l := lv []) (kp := []) (p := p) g rfl rfl
  have loop : ∀ (r m i : Nat) (W : Wk) (s : Shared) (σ : L2.St) (H : Hp), m + i = J.n → WkOk B pl W → Wv r i W.Hc σ H → GI B W ip σ H s →
      Run2 B.M B.A (Phi B J pl m W) (.whileLoop test body [] B.env) (B.M.den (.whileLoop test body [] B.env)) (.ret kk none (gd false) (lv []) c p [] :: fs) s := by
    intro r
    induction r using Nat.strongRecOn with
    | ind r ih =>
      intro m i W s σ H hm wo w gi
      refine run2_whileLoop ?_
      rw [gl.over]
      refine wpAny_mono ((hc _ _).run _ s σ H _ (gi.pinned ok) (turn r i W.Hc σ H w)) (fun b s' hb' => ?_) fun x s' hx => hx
      obtain ⟨H2, I2, q2⟩ := hb'
      have gi2 := gi.unpin I2
      cases b with
      | true =>
        obtain ⟨Nx, hN, q2⟩ := q2
        rw [if_pos rfl]
        intro J2
        refine hb.run ip _ _ _ J2 id id m i W s' σ H2 { D with nx := Nx, ct := Nx, bk := D.nx } gl hm wo (fun m' i' W' s3 f hm' wo' hs => ?_) gi2 q2
        cases f with
        | next =>
          obtain ⟨σ3, H3, gi3, n3⟩ := hs
          obtain ⟨r', hr, w3⟩ := hN i' W'.Hc σ3 H3 n3
          exact run2_again rfl (ih r' hr m' i' W' s3 σ3 H3 hm' wo' w3 gi3)
        | cont =>
          obtain ⟨σ3, H3, gi3, n3⟩ := hs
          obtain ⟨r', hr, w3⟩ := hN i' W'.Hc σ3 H3 n3
          exact run2_again rfl (ih r' hr m' i' W' s3 σ3 H3 hm' wo' w3 gi3)
        | brk =>
          refine run2_leaf (.ok .next) ?_
          rw [okk]
          exact k m' i' W' s3 .next hm' wo' hs
        | ret v =>
          refine run2_leaf (.ok (.ret v)) ?_
          rw [okk]
          exact k m' i' W' s3 (.ret v) hm' wo' hs
      | false =>
        rw [if_neg Bool.false_ne_true]
        refine run2_leaf (.ok .next) ?_
        rw [okk]
        exact k m i W s' .next hm wo ⟨σ, H2, gi2, q2⟩
  exact loop r0 m i W s σ H hm wo w0 gi
/-! ### yield -/
def tYield2 (J : GJ) (L : Nat) (te : TE) : TG2 := fun D i Hc σ H => te σ H fun x H1 => i < J.n ∧ SRel Hc H1 ∧ ∃ pr : List Addr, (∀ b ∈ pr, (∃ xs, H1 b = some (.lst xs)) ∧ (∀ o, Hc b = some o → ∃ ps, o = .tbl ps) ∧ L < b) ∧ J.Y i Hc x (hideL H1 pr) ∧
  ∀ Hc2, KT (hideL H1 pr) Hc2 → (∀ b ∈ pr, Hc2 b = none) → D.nx (i + 1) Hc2 σ (mergeL H1 pr Hc2)
theorem g2_yield (ok : B.Ok) {e : Expr} {yp pos : Pos} {te : TE}
    (he : ∀ s0 H0, PE (B.X s0 H0) e te) (hco : B.env.scope.isCoroutine = false) (hi : interactive B.env = false) : G2 B J pl (.Expr (.Yield (some e) yp) pos) (tYield2 J B.L te) := by
  refine ⟨fun ip c fs K1 J1 gd lv m i W s σ H D g hm wo k gi ht => ?_⟩
  rw [exec_Expr B.env _ pos hi rfl]
  show Run2 _ _ _ c (.at pos fun _ => ((eval e B.env >>= fun v => (standAt yp >>= fun _ => yieldOut B.env v)) >>= fun x => dropValue (.Yield (some e) yp) pos x).wrap K1 J1 gd lv) fs s
  have hy : ∀ v, yieldOut B.env v = yieldValue v := fun v => by simp only [yieldOut, hco, Bool.false_eq_true, if_false]
  simp only [hy]
  refine run2_at ?_
  rw [Sem.bind_eq_wrap', Sem.wrap_wrap, Sem.bind_eq_wrap', Sem.wrap_wrap]
  refine run2_wrap ?_
  rw [g.over]
  refine wpAny_mono ((he _ _).run _ s σ H _ (gi.pinned ok) ht) (fun v s' hv => ?_) fun x s' hx => hx
  obtain ⟨x, H1, I1, rv, hin, sr, pr, hpr, hY, hnx⟩ := hv
  have gi1 := gi.unpin I1
  refine run2_at (run2_yield g.split fun q => ?_)
  obtain ⟨m, rfl⟩ : ∃ m', m = m' + 1 := ⟨m - 1, by omega⟩
  have hi' : J.n - (m + 1) = i := by omega
  refine ⟨by simp [End.quiet, g.gd, g.guard], x, hideL H1 pr, rv, slept ok wo gi1.1 (fun b hb => (hpr b hb).1) (fun b hb => own_new wo gi1.1 (hpr b hb).1 (hpr b hb).2.1) sr, ⟨(gen_here ok wo gi1.1).1, ?_⟩, by rw [hi']; exact hY, fun s2 Hc2 R kt => ?_⟩
  · unfold hideL
    split
    · rfl
    · exact (gen_here ok wo gi1.1).2.1
  obtain ⟨wo2, gi2, hz⟩ := woken ok wo gi1 (fun b hb => (hpr b hb).1) (fun b hb => (hpr b hb).2.2) R
  refine ⟨⟨s2, Hc2, mergeL H1 pr Hc2, pr, ip.map (·.1)⟩, rfl, rfl, ?_⟩
  exact k m (i + 1) ⟨s2, Hc2, mergeL H1 pr Hc2, pr, ip.map (·.1)⟩ s2 .next (by omega) wo2 ⟨σ, mergeL H1 pr Hc2, gi2, hnx Hc2 kt hz⟩
end
end K1

namespace K1
open PySem PySem.Spec PyProof.Rows L2
open Sem (wp)
/-! ### waking -/
/-- the run that a wake begins -/
def GoesOn (M : Model) (A : Around) (Φ : EndP) (gs : GenState) (s : Shared) : Prop := match gs with
  | .fresh c => Run2 M A Φ c (M.den c) [] s
  | .suspended k _ c _ fs _ => Run2 M A Φ c (k (.send .none)) fs s
  | _ => False
theorem wpAny_resume2 {α : Type} {M : Model} {A : Around} {Φ : EndP} {E : Value → Shared → Prop} {s : Shared} {g : Nat} {gs : GenState} {l : List Value} {k : GenResult → Sem α} {Q : α → Shared → Prop} (hg : s.gens[g]? = some gs)
    (hgo : GoesOn M A Φ gs (s.setGen g .running)) (hq : ∀ e z, Φ e z → e.quiet = true) (hk : ∀ e z, Φ e z → wpAny M A (k e.result) Q E (z.setGen g e.genState)) : wpAny M A (.resume g (.send .none) l k) Q E s := fun Γ p hΓ => by
  rw [Sem.wp_resume]
  cases gs with
  | fresh c =>
    obtain ⟨e, z, hr, he⟩ := hgo (Γ.wake c p) p rfl (hΓ.wake c p)
    refine ⟨e.result, z.setGen g e.genState, ?_, hk e z he Γ p hΓ⟩
    unfold Wakes
    rw [hg]
    exact ⟨e, z, hr, hq e z he, rfl, rfl⟩
  | suspended k0 l0 c p0 fs cl =>
    obtain ⟨e, z, hr, he⟩ := hgo (Γ.wake c p) p0 rfl (hΓ.wake c p)
    refine ⟨e.result, z.setGen g e.genState, ?_, hk e z he Γ p hΓ⟩
    unfold Wakes
    rw [hg]
    exact ⟨e, z, hr, hq e z he, rfl, rfl⟩
  | running => exact hgo.elim
  | finished => exact hgo.elim
theorem next2 {P : Program} {w : World} {A : Around} {E : Value → Shared → Prop} {s : Shared} {a : Addr} {g : Nat} {gs : GenState} {Φ : EndP} {Q : Option Value → Shared → Prop} (hh : A.handled = none) (hl : s.heap.NoLimit) (hroom : A.depth < recursionLimit) (hg : s.heap.IsGen a g) (hgs : s.gens[g]? = some gs)
    (hgo : GoesOn (model P w) A.in1 Φ gs (s.setGen g .running))
    (hY : ∀ v g0 l k c p fs z, Φ (.susp v g0 l k c p fs) z → (End.susp v g0 l k c p fs).quiet = true ∧ Q (some v) (z.setGen g (End.susp v g0 l k c p fs).genState))
    (hR : ∀ r z, Φ (.ret r) z → (r = .ok (.ret .none) ∨ r = .ok .next) ∧ ∀ h', (∀ b o, z.heap.get? b = some o → h'.get? b = some o) → Q none { z.setGen g .finished with heap := h' }) :
    wpAny (model P w) A (pyNext (.ref a)) Q E s := by
  unfold pyNext
  refine wpAny_bind (wpAny_attempt (wpAny_callSpecial?_slot hg.typeIs slot_gen_next (name := Str.ofString "__next__") (wpAny_call_entry slot_gen_next hg.typeIs entry_gen_next ?_ (args_gen_next _))))
  show wpAny (model P w) A.in1 (Builtin.Generator.genWake (.ref a) (.send .none)) _ _ s
  unfold Builtin.Generator.genWake
  refine wpAny_bind (wpAny_holding (wpAny_genNumber hg (wpAny_bind (wpAny_genState hgs ?_))))
  have core : wpAny (model P w) A.in1 (.resume g (.send .none) [] fun r => match r with
    | .yielded v => ret v
    | .returned v => (do if v == .none then raiseNew (← newExc (.type "StopIteration") [])
                         rule "generator.return-value"; throw (← newExc (.type "StopIteration") [v]) : Sem PySem.Fin)
    | .raised e => Builtin.Generator.genLeft (.ref a) e
    | .running => (do rule "generator.already-executing"; raiseError "ValueError" "generator already executing" : Sem PySem.Fin)
    | .justStarted => (do rule "generator.send-to-fresh"; raiseError "TypeError" "can't send non-None value to a just-started generator" : Sem PySem.Fin)
    | .finished => (do raiseNew (← newExc (.type "StopIteration") []) : Sem PySem.Fin))
      (fun f z => ∃ v, f = .done (.ret v) ∧ Q (some v) z) (fun e z => ∃ o, (e = .ref o ∧ ∃ ob, z.heap.get? o = some ob ∧ ob.cls = .type "StopIteration") ∧ Q none z) s := by
    refine wpAny_resume2 hgs hgo (fun e z he => ?_) fun e z he => ?_
    · cases e with
      | ret r => rfl
      | susp v g0 l k c p fs => exact (hY _ _ _ _ _ _ _ _ he).1
    · cases e with
      | susp v g0 l k c p fs => exact wpAny_pure ⟨v, rfl, (hY _ _ _ _ _ _ _ _ he).2⟩
      | ret x =>
        obtain ⟨hr, hq⟩ := hR x z he
        have hres : End.result (.ret x) = .returned .none := by
          rcases hr with rfl | rfl <;> rfl
        simp only [hres]
        show wpAny (model P w) A.in1 (newExc (.type "StopIteration") [] >>= _) _ _ (z.setGen g .finished)
        refine wpAny_bind ?_
        simp only [newExc, newTuple]
        refine wpAny_bind (wpAny_newObj_type (hd := by size_fits) (h := ?_))
        refine wpAny_bind (m := firstArgMember _ _) (wpAny_of_eq (a := Value.none) (by first | rfl | (simp only [firstArgMember]; rfl)) (wpAny_newObj_type (hd := by size_fits) (h := ?_)))
        simp only [raiseNew]
        refine wpAny_bind (wpAny_bind (wpAny_handled ?_))
        rw [show A.in1.handled = none from hh]
        exact wpAny_throw ⟨_, ⟨rfl, _, Heap.get?_push_size _ rfl, rfl⟩, hq _ fun b o hb => Heap.get?_push_of_some _ (Heap.get?_push_of_some _ hb)⟩
  have fin : ∀ {e : Value} {z : Shared}, (∃ o, (e = .ref o ∧ ∃ ob, z.heap.get? o = some ob ∧ ob.cls = .type "StopIteration") ∧ Q none z) → wpAny (model P w) A (isInstance e (.type "StopIteration")) (fun b z' => b = true ∧ Q none z') E z := fun {e z} ⟨o, ⟨he, ob, h1, h2⟩, hq⟩ => by
    subst he
    exact wpAny_isInstance (T := "StopIteration") (b := true) ⟨ob, h1, h2⟩ isSubtype_stop ⟨rfl, hq⟩
  cases gs with
  | running => exact hgo.elim
  | finished => exact hgo.elim
  | _ =>
    refine wpAny_bind (wpAny_roomToWake hl hroom ?_)
    show wpAny (model P w) A.in1 (.resume g (.send .none) [] _) _ _ s
    refine wpAny_mono core (fun f z ⟨v, hf, hq⟩ => ?_) fun e z he => ?_
    · subst hf
      exact ⟨v, rfl, wpAny_pure hq⟩
    · refine wpAny_bind (wpAny_mono (fin he) (fun b z' ⟨hb, hq⟩ => ?_) fun _ _ x => x)
      subst hb
      exact wpAny_pure hq
end K1

namespace K1
open PySem PySem.Spec PyProof.Rows L2
open Sem (wp)
/-! ### the consumer -/
def pinsS (L : Nat) (pl : List Addr) (h : Heap) (H : Hp) : List (Addr × Obj) := (List.range h.objs.size).filterMap fun b =>
  if L ≤ b ∧ (H b).isNone = true ∧ b ∉ pl then (match h.get? b with
    | some o => if isCellB o = true then none else some (b, o)
    | none => none) else none
theorem mem_pinsS {L : Nat} {pl : List Addr} {h : Heap} {H : Hp} {b : Addr} {o : Obj} (h1 : L ≤ b) (h2 : H b = none) (h3 : b ∉ pl) (h4 : h.get? b = some o) (h5 : isCellB o = false) : (b, o) ∈ pinsS L pl h H :=
  List.mem_filterMap.mpr ⟨b, List.mem_range.mpr (Heap.lt_size h4), by
    rw [if_pos ⟨h1, by rw [h2]; rfl, h3⟩, h4]
    show (if isCellB o = true then none else some (b, o)) = _
    rw [h5, if_neg Bool.false_ne_true]⟩
theorem of_pinsS {L : Nat} {pl : List Addr} {h : Heap} {H : Hp} {p : Addr × Obj} (hp : p ∈ pinsS L pl h H) : L ≤ p.1 ∧ H p.1 = none ∧ p.1 ∉ pl ∧ h.get? p.1 = some p.2 ∧ isCellB p.2 = false := by
  obtain ⟨b, _, e⟩ := List.mem_filterMap.mp hp
  split at e
  · rename_i hc
    obtain ⟨c1, c2, c3⟩ := hc
    cases q : h.get? b with
    | none => rw [q] at e; cases e
    | some o =>
      rw [q] at e
      have e : (if isCellB o = true then none else some (b, o)) = some p := e
      cases z : isCellB o with
      | true =>
        rw [if_pos z] at e
        cases e
      | false =>
        rw [z, if_neg Bool.false_ne_true] at e
        cases e
        exact ⟨c1, Option.isNone_iff_eq_none.mp c2, c3, q, z⟩
  · cases e
/-- it may be woken for the i-th time -/
def Ready (B : GB) (J : GJ) (pl : List Addr) (g i : Nat) (Hc : Hp) (s : Shared) : Prop :=
  s.heap.get? B.a = some B.go ∧ ∃ gs W', s.gens[g]? = some gs ∧ W'.s = s.setGen g .running ∧ W'.Hc = Hc ∧ GoesOn B.M B.A (Phi B J pl (J.n - i) W') gs (s.setGen g .running)
structure Cons (X : Cx) (B : GB) (pl : List Addr) (pins : List (Addr × Obj)) (g : Nat) : Prop where
  P : B.P = X.prog
  w : B.w = X.w
  K : B.K = X.K
  mg : B.mg = X.mg
  base : B.base = X.base
  stack : B.outer = X.stack
  A : B.A = X.A.in1
  calm : X.calm = true
  dep : X.A.depth < recursionLimit
  loc : (X.env.locals < B.L ∧ pl = []) ∨ pl = [X.env.locals]
  cells : ∀ x c, X.env.cells.lookup x = some c → c < B.L
  pins : ∀ p ∈ X.pn ++ pins, p.1 < B.L
  fs : ∀ b ∈ X.fs, b < B.L
  gen : ∀ h : Heap, h.get? B.a = some B.go → h.IsGen B.a g
  obj : B.L < B.a ∧ B.a ∉ pl ∧ isCellB B.go = false
theorem cons_next {X : Cx} {B : GB} {J : GJ} {pl : List Addr} {pins : List (Addr × Obj)} {g i : Nat} {σ : L2.St} {Hc : Hp} {s : Shared} {E : Value → Shared → Prop} (C : Cons X B pl pins g) (I : Inv X pins σ Hc s)
    (low : ∀ b, B.L ≤ b → Hc b = none → b ∈ X.ex ∨ X.s_0.heap.objs.size ≤ b) (rd : Ready B J pl g i Hc s) (hi : i ≤ J.n) :
    wpAny (model X.prog X.w) X.A (pyNext (.ref B.a)) (fun r s1 => match r with
      | none => i = J.n ∧ ∃ HE, J.Z Hc HE ∧ Inv X pins σ HE s1
      | some v => i < J.n ∧ ∃ x HcY, RelV x v ∧ J.Y i Hc x HcY ∧ s1.heap.get? B.a = some B.go ∧ Inv X (pins ++ pinsS B.L pl s1.heap HcY) σ HcY s1 ∧
        ∀ s2 σ2 H2, Inv X (pins ++ pinsS B.L pl s1.heap HcY) σ2 H2 s2 → Sleep s1.gens s2.gens → KT HcY H2 → Inv X pins σ2 H2 s2 ∧ Ready B J pl g (i + 1) H2 s2) E s := by
  obtain ⟨hgo, gs, W', hgs, hW1, hW2, run⟩ := rd
  obtain ⟨cP, cw, cK, cmg, cbase, cst, cA, calm, dep, loc, cells, cpins, cfs, gen, ⟨oa1, oa2, oa3⟩⟩ := C
  have hd : X.A.handled = none := I.ok.hd calm
  have Ls : ∀ {b : Addr}, B.L ≤ b → b ∉ pl → b ≠ X.env.locals := fun {b} hb hp z => by
    rcases loc with ⟨l1, _⟩ | l1
    · rw [z] at hb
      exact Nat.lt_irrefl _ (Nat.lt_of_lt_of_le l1 hb)
    · rw [l1, z] at hp
      exact hp (List.mem_singleton.mpr rfl)
  have chok : ∀ b ∈ chC B.L pl s.heap Hc, (b ∈ X.ex ∨ X.s_0.heap.objs.size ≤ b) ∧ b ≠ X.env.locals ∧ (∀ x c, X.env.cells.lookup x = some c → c ≠ b) ∧ ∀ p ∈ X.pn ++ pins, p.1 ≠ b := fun b hb => by
    obtain ⟨h1, h2, h3, h4⟩ := mem_chC.mp hb
    refine ⟨low b h2 h3, Ls h2 h4, fun x c e z => ?_, fun p hp z => ?_⟩
    · have q := cells x c e
      rw [z] at q
      exact Nat.lt_irrefl _ (Nat.lt_of_lt_of_le q h2)
    · have q := cpins p hp
      rw [z] at q
      exact Nat.lt_irrefl _ (Nat.lt_of_lt_of_le q h2)
  have back : ∀ {HcY : Hp} {z : Shared} {gs' : GenState}, gs'.bare = true → Facts B pl W' HcY z → Inv X pins σ HcY (z.setGen g gs') := fun {HcY z gs'} hb F => by
    refine I.call' (ch := chC B.L pl s.heap Hc) ?_ ?_ ?_ (allBare_setGen F.bare hb) chok
    · show z.os = s.os
      rw [F.os, hW1]
      rfl
    · have u := F.un
      rw [hW1, hW2, cst] at u
      exact u
    · have h := F.hok
      rw [cP, cw] at h
      exact h
  have run' : GoesOn (model X.prog X.w) X.A.in1 (Phi B J pl (J.n - i) W') gs (s.setGen g .running) := by
    have r := run
    unfold GB.M at r
    rw [cP, cw, cA] at r
    exact r
  have hgl : g + 1 ≤ s.gens.size := (Array.getElem?_eq_some_iff.mp hgs).1
  refine GenW.wpAny_gsz (n := g + 1) hgl (next2 hd I.nolimit dep (gen _ hgo) hgs run' (fun v g0 l k c p fs z he => ?_) fun r z he => ?_)
  · cases e : J.n - i with
    | zero => rw [e] at he; exact he.elim
    | succ m =>
      rw [e] at he
      obtain ⟨hq, x, HcY, rv, F, ⟨hgz, hgn⟩, hY, next⟩ := he
      have hii : J.n - (m + 1) = i := by omega
      rw [hii, hW2] at hY
      have Iz := back (gs' := (End.susp v g0 l k c p fs).genState) (End.bare_of_quiet hq) F
      have Ip : Inv X (pins ++ pinsS B.L pl z.heap HcY) σ HcY (z.setGen g (End.susp v g0 l k c p fs).genState) := Iz.pins_of fun q hqm => by
        rcases List.mem_append.mp hqm with h | h
        · exact Iz.pin q (List.mem_append_right _ h)
        · obtain ⟨q1, q2, q3, q4, q5⟩ := of_pinsS h
          exact ⟨q4, q2, Ls q1 q3, fun hf => Nat.lt_irrefl _ (Nat.lt_of_lt_of_le (cfs q.1 hf) q1), notCell q5⟩
      refine ⟨hq, fun hsz => ⟨by omega, x, HcY, rv, hY, hgz, Ip, fun s2 σ2 H2 I2 sl kt => ⟨I2.unpinned, ?_⟩⟩⟩
      have gl : g < z.gens.size := by
        rw [GenW.setGen_size] at hsz
        exact hsz
      have hgs2 : s2.gens[g]? = some (End.susp v g0 l k c p fs).genState := sl g k l c p fs _ (setGen_at gl)
      have pinned : ∀ b o, B.L ≤ b → b ∉ pl → HcY b = none → z.heap.get? b = some o → isCellB o = false → s2.heap.get? b = some o ∧ H2 b = none := fun b o h1 h2 h3 h4 h5 => by
        have q := I2.pin (b, o) (List.mem_append_right _ (List.mem_append_right _ (mem_pinsS h1 h3 h2 h4 h5)))
        exact ⟨q.1, q.2.1⟩
      have R : Rest B pl HcY z (s2.setGen g .running) H2 := by
        refine ⟨?_, ?_, pinned, fun b hb => ?_⟩
        · have e0 := I2.env0
          rw [cP, cw, cK, cmg, cbase, cst, cA]
          exact ⟨e0.frames, e0.mod, e0.bs, e0.bsz, e0.funs, e0.frf, e0.hok, allBare_setGen e0.bare rfl⟩
        · show s2.os = z.os
          rw [I2.os]
          exact Iz.os.symm
        · rcases loc with ⟨_, l1⟩ | l1
          · rw [l1] at hb
            cases hb
          · rw [l1] at hb
            rw [List.mem_singleton.mp hb]
            obtain ⟨mm, ⟨o, es, ep, ho, hdat, _⟩, _⟩ := I2.loc
            exact ⟨I2.free, o, ho, isCell_no fun v q => by rw [hdat] at q; cases q⟩
      obtain ⟨W2, w1, w2, w3⟩ := next (s2.setGen g .running) H2 R kt
      refine ⟨(pinned B.a B.go (Nat.le_of_lt oa1) oa2 hgn hgz oa3).1, _, W2, hgs2, w1, w2, ?_⟩
      have em : J.n - (i + 1) = m := by omega
      rw [em]
      exact w3
  · cases e : J.n - i with
    | succ m => rw [e] at he; exact he.elim
    | zero =>
      rw [e] at he
      obtain ⟨hr, HE, F, hZ⟩ := he
      rw [hW2] at hZ
      refine ⟨hr, fun h' hk _ => ⟨by omega, HE, hZ, ?_⟩⟩
      have Iz := back (gs' := .finished) rfl F
      exact Iz.kept (t' := z.toks) hk
end K1

namespace K1
open PySem PySem.Spec PyProof.Rows L2
open Sem (wp)
/-! ### a generator def's promise -/
abbrev SpY := List V → Hp → GJ → Prop
def GMade2 (P : Program) (w : World) (K : PySem.W.Frag) (mg : Str → Option Value) (base : Heap) (pre : Around → Prop) (k : Nat) (outer : List Env) (H : Hp) (s : Shared) (J : GJ) (u : Value) (s' : Shared) : Prop :=
  ∃ (a g : Nat) (c : Code), u = .ref a ∧ s.heap.objs.size < a ∧ a < s'.heap.objs.size ∧ s'.gens[g]? = some (.fresh c) ∧ s'.os = s.os ∧ AllBare s'.gens ∧ (∀ b o, s.heap.get? b = some o → s'.heap.get? b = some o) ∧ s'.heap.IsGen a g ∧
    ∀ (A : Around) (s2 : Shared) (Hc2 : Hp) (pl : List Addr), pre A → Room k A → Env0 P w K mg base A outer s2 Hc2 → s2.os = s.os → (∀ b o, s'.heap.get? b = some o → s2.heap.get? b = some o) → (∀ b o, H b = some o → Hc2 b = some o) →
      (∀ b, s.heap.objs.size ≤ b → b < s'.heap.objs.size → Hc2 b = none) → (∀ b ∈ pl, s'.heap.objs.size ≤ b ∧ Hc2 b = none ∧ ∃ o, s2.heap.get? b = some o ∧ isCellB o = false) →
      ∃ B : GB, B.P = P ∧ B.w = w ∧ B.K = K ∧ B.mg = mg ∧ B.base = base ∧ B.outer = outer ∧ B.A = A ∧ B.L = s.heap.objs.size ∧ B.a = a ∧ (∀ h : Heap, h.get? a = some B.go → h.IsGen a g) ∧ isCellB B.go = false ∧ s2.heap.get? a = some B.go ∧ 
        ∃ W' : Wk, W'.s = s2 ∧ W'.Hc = Hc2 ∧ GoesOn B.M B.A (Phi B J pl J.n W') (.fresh c) s2
structure GFn2 (P : Program) (w : World) (K : PySem.W.Frag) (mg : Str → Option Value) (base : Heap) (pre : Around → Prop) (k : Nat) (f : Addr) (fd : FuncData) (ps : List Str) (sp : SpY) : Prop where
  len : ∀ vs H J, sp vs H J → vs.length = ps.length
  run : ∀ (A : Around) (outer : List Env) (s : Shared) (H : Hp) (args : Args) (us : List Value) (vs : List V) (J : GJ), A.depth < recursionLimit → Env0 P w K mg base A outer s H → BindsTo s fd args (ps.zip us) → Vals vs us → sp vs H J →
    codeAny (model P w) A (.call (.ref f) args) (fun r s' => match r with
      | .ok (.ret u) => GMade2 P w K mg base pre k outer H s J u s'
      | _ => False) s
/-- what is wanted behind a generator's body -/
def endE (J : GJ) : GE where
  nx := fun i Hc σ H => i = J.n ∧ SRel Hc H ∧ ∃ pr : List Addr, (∀ b ∈ pr, (∃ xs, H b = some (.lst xs)) ∧ ∀ o, Hc b = some o → ∃ ps, o = .tbl ps) ∧ J.Z Hc (hideL H pr)
  rt := fun i Hc v H => v = .non ∧ i = J.n ∧ SRel Hc H ∧ ∃ pr : List Addr, (∀ b ∈ pr, (∃ xs, H b = some (.lst xs)) ∧ ∀ o, Hc b = some o → ∃ ps, o = .tbl ps) ∧ J.Z Hc (hideL H pr)
theorem run2_func {P : Program} {w : World} {A : Around} {Φ : EndP} {body : List Stmt} {env : Env} {fs : List Frame} {s : Shared}
    (h : ∀ J1 : Value → Sem PySem.Fin, Run2 (model P w) A Φ (.func body env) ((execs body env).wrap (fun f => leafOf (.ok (.ret (match f with
      | .ret v => v
      | _ => .none)))) J1 id id) fs s) : Run2 (model P w) A Φ (.func body env) ((model P w).den (.func body env)) fs s := by
  show Run2 _ A Φ _ (.point [] fun _ => ((execs body env).onRaise (leaving env)) >>= _) fs s
  refine run2_point ?_
  rw [Sem.onRaise_eq_wrap, Sem.bind_eq_wrap', Sem.wrap_wrap]
  refine Eq.mpr (congrArg (fun t => Run2 (model P w) A Φ (.func body env) t fs s) (Sem.wrap_congr (execs body env) id id (fun f => ?_) (fun x => rfl))) (h fun x => ((leaving env x).bind fun _ => .raise x).wrap _ .raise id id)
  cases f <;> rfl
theorem gfn2_of {P : Program} {w : World} {K : PySem.W.Frag} {mg : Str → Option Value} {base : Heap} {k : Nat} {f : Addr} {name qual : Str} {params : Arguments} {body : List Stmt} {scope : Scope} {dV kV doc pm cdv ct oc : Value} {an od : Option Addr}
    {osl : Array (Option Value)} {N ps : List Str} {sp : SpY} {pre : Around → Prop} (lk : K.lookup f = some ⟨oc, od, .func (PySem.W.fnOf name qual params body scope dV kV doc pm an cdv ct), osl⟩) (hcd : PySem.W.codeIn K cdv qual = true) (S : GScope N ps scope) (hnc : ∀ n, cellsFrom n scope.names [] = [])
    (len : ∀ vs H J, sp vs H J → vs.length = ps.length)
    (hbody : ∀ (A : Around) (outer : List Env) (L a : Addr) (go : Obj) (vs : List V) (H : Hp) (J : GJ) (pl : List Addr), pre A → Room k (A.deeper (envOfC qual scope L f cdv)) → GB.Ok ⟨P, w, K, mg, base, N, qual, scope, f, cdv, A, outer, L, a, go⟩ → sp vs H J →
      ∃ t, G2s ⟨P, w, K, mg, base, N, qual, scope, f, cdv, A, outer, L, a, go⟩ J pl body t ∧ ∀ Hw, (∀ b o, H b = some o → Hw b = some o) → t (endE J) 0 Hw (start N vs) Hw) :
    GFn2 P w K mg base pre (k + 1) f (PySem.W.fnOf name qual params body scope dV kV doc pm an cdv ct) ps sp := by
  refine ⟨len, fun A outer s H args us vs J hdep e0 hb r hsp => ?_⟩
  have hl := len _ _ _ hsp
  have KX : K.In s.heap := e0.mod.kin.keeps fun b o e => (e0.bs b o e).1
  have hkind : ∀ y ∈ ps.zip us, scope.names.lookup y.1 = some .local ∨ (scope.names.lookup y.1 = some .cell ∧ ((cellsFrom (s.heap.objs.size + 1) scope.names []).lookup y.1).isSome = true) := fun ⟨n, v⟩ hy =>
    (S.par n (List.of_mem_zip hy).1).imp id fun q => ⟨q, PySem.W.cellsFrom_some _ _ _ (.inl q)⟩
  have lim : s.heap.NoLimit := e0.mod.nolimit.keeps fun b o e => (e0.bs b o e).1
  refine codeAny_call_generator hdep (KX _ _ lk) rfl S.co S.gen rfl (PySem.W.codeRec_of KX hcd) (hb _ _ _ _ ?_)
  refine wpAny_newFunctionEnv_cells S.kind hkind fun env he s1 x => ?_
  subst he
  refine ⟨lim.keeps x.toInCall.keep, ?_⟩
  obtain ⟨h1, tk, es1, hk1⟩ := id x.done
  have os1 : s1.os = s.os := by rw [es1]
  have gen1 : s1.gens = s.gens := by rw [es1]
  have lt1 : s.heap.objs.size < s1.heap.objs.size := x.toInCall.ns.lt
  have kp1 : ∀ b o, s.heap.get? b = some o → s1.heap.get? b = some o := x.toInCall.keep
  have main : ∀ (go : Obj) (nm qn : Value) (tk2 : Nat), go.cls = .type "generator" → go.data = .fields #[.int s1.gens.size 0, nm, qn] → go.slots = #[] → (∀ h : Heap, (h.push go).get? h.objs.size = some go) →
      GMade2 P w K mg base pre (k + 1) outer H s J (.ref s1.heap.objs.size) { s1 with gens := s1.gens.push (.fresh (.func body (envOfC qual scope s.heap.objs.size f cdv))), toks := tk2, heap := s1.heap.push go } := by
    intro go nm qn tk2 hgc hgd0 hgs hgp
    have hgen : ∀ h : Heap, h.get? s1.heap.objs.size = some go → h.IsGen s1.heap.objs.size s1.gens.size := fun h e => ⟨go, nm, qn, e, hgc, hgd0, hgs⟩
    have hgcell : isCellB go = false := isCell_no fun v q => by rw [hgd0] at q; cases q
    refine ⟨s1.heap.objs.size, s1.gens.size, _, rfl, lt1, ?_, Array.getElem?_push_size .., os1, ?_, fun b o e => Heap.get?_push_of_some _ (kp1 b o e), hgen _ (hgp _), ?_⟩
    · show _ < (s1.heap.push go).objs.size
      rw [Heap.size_push]
      exact Nat.lt_succ_self _
    · exact AllBare.push (by rw [gen1]; exact e0.bare) rfl
    intro Aw s2 Hc2 pl hpre hrw env2 hos hk2 hHc hyoung hpl
    have hfr := env2.frames
    have e0w : Env0 P w K mg base Aw outer s H := ⟨hfr, e0.mod, e0.bs, e0.bsz, e0.funs, e0.frf, e0.hok, e0.bare⟩
    have I1 := inv_startG (E := fun _ _ _ => False) S hrw.hd e0w hl r x
    have I2 : Inv (gX P w K mg base N qual scope f cdv Aw outer s.heap.objs.size s H) [] (start N vs) H s1 :=
      ⟨⟨I1.ok.mod, I1.ok.kind, I1.ok.glob, I1.ok.blt, I1.ok.above, I1.ok.inj, I1.ok.has, I1.ok.cab, I1.ok.hd, I1.ok.frames, I1.ok.stk, I1.ok.exf, I1.ok.bs, I1.ok.bsz, I1.ok.noex, I1.ok.exfs, I1.ok.funs, I1.ok.frf⟩, I1.os, I1.bare, I1.base, I1.loc, I1.cell, I1.free, I1.freeC, I1.pin, I1.hok, I1.len⟩
    have kp2 : ∀ b o, s1.heap.get? b = some o → s2.heap.get? b = some o := fun b o e => hk2 b o (Heap.get?_push_of_some _ e)
    have hfs : ∀ b ∈ frs outer, b < s.heap.objs.size := fun b hb => by
      obtain ⟨_, o, ho, _⟩ := e0.funs.mem hb
      exact Heap.lt_size ho
    have hL2 : Hc2 s.heap.objs.size = none := hyoung _ (Nat.le_refl _) (by
      show _ < (s1.heap.push go).objs.size
      rw [Heap.size_push]
      exact Nat.lt_succ_of_lt lt1)
    have ha2 : Hc2 s1.heap.objs.size = none := hyoung _ (Nat.le_of_lt lt1) (by
      show _ < (s1.heap.push go).objs.size
      rw [Heap.size_push]
      exact Nat.lt_succ_self _)
    have hga : s2.heap.get? s1.heap.objs.size = some go := hk2 _ _ (hgp _)
    have ok : GB.Ok ⟨P, w, K, mg, base, N, qual, scope, f, cdv, Aw, outer, s.heap.objs.size, s1.heap.objs.size, go⟩ := ⟨hnc _, hfs, e0.bsz, hrw.hd, lt1, hgcell⟩
    obtain ⟨t, ht, hq⟩ := hbody Aw outer s.heap.objs.size s1.heap.objs.size go vs H J pl hpre (hrw.deeper _) ok hsp
    refine ⟨⟨P, w, K, mg, base, N, qual, scope, f, cdv, Aw, outer, s.heap.objs.size, s1.heap.objs.size, go⟩, rfl, rfl, rfl, rfl, rfl, rfl, rfl, rfl, rfl, hgen, hgcell, hga, ⟨s2, Hc2, Hc2, [], []⟩, rfl, rfl, ?_⟩
    have mer : mergeL H [] Hc2 = Hc2 := by
      funext b
      exact mergeL_out (List.not_mem_nil)
    have I3 := wake_inv (ip := []) (pr := []) (PR := [s.heap.objs.size]) (Hc := Hc2) (s2 := s2) (hnc _) hfs e0.bsz hrw.hd I2 (fun b hb => nomatch hb) (fun b hb => nomatch hb) (fun b hb => by
      rcases hb with rfl | hb
      · exact List.mem_singleton.mpr rfl
      · cases hb) ⟨env2, hos.trans os1.symm, fun b hb o e => kp2 b o e, fun b hb => by rw [List.mem_singleton.mp hb]; exact hL2⟩
    rw [mer] at I3
    have wo : WkOk ⟨P, w, K, mg, base, N, qual, scope, f, cdv, Aw, outer, s.heap.objs.size, s1.heap.objs.size, go⟩ pl ⟨s2, Hc2, Hc2, [], []⟩ := by
      obtain ⟨oL, _, _, eL, _⟩ := id x.toInCall.ns
      refine ⟨Heap.lt_size (kp2 s.heap.objs.size oL eL), fun b _ => rfl, fun b hb => ?_, fun b hb => ?_, hga, ha2, List.not_mem_nil, List.not_mem_nil, fun z => ?_⟩
      · rcases hb with hb | hb <;> cases hb
      · obtain ⟨p1, p2, p3⟩ := hpl b hb
        have p1 : (s1.heap.push go).objs.size ≤ b := p1
        rw [Heap.size_push] at p1
        exact ⟨Nat.lt_of_lt_of_le lt1 (Nat.le_of_succ_le p1), p2, p3, List.not_mem_nil, List.not_mem_nil⟩
      · obtain ⟨p1, _⟩ := hpl _ z
        have p1 : (s1.heap.push go).objs.size ≤ s1.heap.objs.size := p1
        rw [Heap.size_push] at p1
        exact Nat.lt_irrefl _ p1
    refine run2_func fun J1 => ?_
    refine ht.run [] _ _ _ J1 id id J.n 0 _ s2 (start N vs) Hc2 (endE J) ⟨GenW.over_func, rfl, rfl, rfl⟩ rfl wo (fun m i W s3 fl hm wo3 hs => ?_) ⟨I3, fun b hb => nomatch hb⟩ (hq Hc2 hHc)
    have fin : ∀ {σ : L2.St} {H3 : Hp}, GI ⟨P, w, K, mg, base, N, qual, scope, f, cdv, Aw, outer, s.heap.objs.size, s1.heap.objs.size, go⟩ W [] σ H3 s3 → i = J.n → SRel W.Hc H3 → (∃ pr : List Addr, (∀ b ∈ pr, (∃ xs, H3 b = some (.lst xs)) ∧ ∀ o, W.Hc b = some o → ∃ ps, o = .tbl ps) ∧ J.Z W.Hc (hideL H3 pr)) →
        Run2 (model P w) Aw (Phi ⟨P, w, K, mg, base, N, qual, scope, f, cdv, Aw, outer, s.heap.objs.size, s1.heap.objs.size, go⟩ J pl m W) (.func body (envOfC qual scope s.heap.objs.size f cdv)) (leafOf (.ok (.ret .none))) [] s3 := fun {σ H3} gi hi sr ⟨pr, hpr, hZ⟩ => by
      obtain rfl : m = 0 := by omega
      refine run2_end (.ok (.ret .none)) ⟨.inl rfl, _, slept ok wo3 gi.1 (fun b hb => (hpr b hb).1) (fun b hb => own_new wo3 gi.1 (hpr b hb).1 (hpr b hb).2) sr, hZ⟩
    cases fl with
    | next =>
      obtain ⟨σ', H', gi, q1, q2, q3⟩ := hs
      exact fin gi q1 q2 q3
    | brk => obtain ⟨_, _, _, q⟩ := hs; exact False.elim q
    | cont => obtain ⟨_, _, _, q⟩ := hs; exact False.elim q
    | ret u =>
      obtain ⟨v, σ', H', gi, rv, ev, q1, q2, q3⟩ := hs
      subst ev
      have eu : u = Value.none := rv
      subst eu
      exact fin gi q1 q2 q3
  exact main _ _ _ _ rfl rfl rfl fun h => Heap.get?_push_size _ rfl
end K1

namespace K1
open PySem PySem.Spec PyProof.Rows L2
open Sem (wp)
/-! ### for over a generator -/
abbrev TGI := L2.St → Hp → (GJ → Hp → Prop) → Prop
/-- an expression whose value is a generator that has not begun -/
structure PY (X : Cx) (pre : Around → Prop) (k : Nat) (e : Expr) (ty : TGI) : Prop where
  run : ∀ (pins : List (Addr × Obj)) (s : Shared) (σ : L2.St) (H : Hp) (R : GJ → Hp → Prop), Inv X pins σ H s → ty σ H R → wpAny (model X.prog X.w) X.A (eval e X.env)
    (fun u s' => ∃ H1 sc J, Inv X pins σ H1 sc ∧ GMade2 X.prog X.w X.K X.mg X.base pre k X.stack H1 sc J u s' ∧ R J H1) X.xe s
def yCall (sp : SpY) (dvs : List V) (t : TA) : TGI := fun σ H R => t σ H fun vs H1 => ∃ J, sp (vs ++ dvs) H1 J ∧ R J H1
section
variable {X : Cx} {pre : Around → Prop} {k : Nat} {f : Addr} {fd : FuncData} {ps : List Str} {sp : SpY} {dvs : List V} {ds : List Value} {x : Str} {p pos : Pos}
theorem run_gfn2 {pins : List (Addr × Obj)} {σ : L2.St} {H : Hp} {s : Shared} {us : List Value} {vs : List V} {J : GJ} {R : GJ → Hp → Prop} {E1 : Value → Shared → Prop} (F : GFn2 X.prog X.w X.K X.mg X.base pre k f fd ps sp) (hr : X.A.depth < recursionLimit)
    (b : BindsTo s fd ⟨us, []⟩ (ps.zip us)) (I : Inv X pins σ H s) (r : Vals vs us) (h : sp vs H J) (hR : R J H) :
    wpAny (model X.prog X.w) X.A (call (.ref f) us) (fun u s' => ∃ H1 sc J, Inv X pins σ H1 sc ∧ GMade2 X.prog X.w X.K X.mg X.base pre k X.stack H1 sc J u s' ∧ R J H1) E1 s := by
  refine wpAny_call (codeAny_mono (F.run X.A X.stack s H ⟨us, []⟩ us vs J hr I.env0 b r h) fun z s' hz => ?_)
  match z, hz with
  | .error _, hz => exact hz.elim
  | .ok (.ret u), hz => exact ⟨H, s, J, I, hz, hR⟩
  | .ok .next, hz => exact hz.elim
  | .ok .brk, hz => exact hz.elim
  | .ok .cont, hz => exact hz.elim
/-- f(e, ..) of a generator def -/
theorem py_call {e : Expr} {es : List Expr} {t : TA} (F : GFn2 X.prog X.w X.K X.mg X.base pre k f fd ps sp) (hr : X.A.depth < recursionLimit) (hg : Gl X x) (hm : X.mg x = some (.ref f)) (hk : PySem.W.keepIn X.K (.ref f) = true) (hb : Binds X.K fd ps ds) (hd : Vals dvs ds)
    (ha : PA X (e :: es) t) (hdb : (x == ("__debug__" : Str)) = false := by decide) (he : starEach (e :: es) X.env = (false, eval e X.env) :: starEach es X.env := by rfl) (hpl : (backTo pos (starEach es X.env)).any (·.1) = false := by rfl) :
    PY X pre k (.Call (.Name x p) (e :: es) [] pos) (yCall sp dvs t) := by
  refine ⟨fun pins s σ H R I h => wpAny_Call_Name_kw (ld_glob I hg hm (PySem.W.callWith_K (h₀ := X.base) I.ok.mod.kin hk (thn (ha.run pos pins s σ H _ I h) fun us s1 hq => ?_) he hpl) hdb)⟩
  obtain ⟨vs, H1, I1, r, J, h1, hR⟩ := hq
  refine ⟨I1.kIn, ?_⟩
  have hl : (us ++ ds).length = ps.length := by rw [← (r.append hd).length]; exact F.len _ _ _ h1
  have b := hb s1 us I1.kIn hl
  refine wpAny_call (codeAny_mono (F.run X.A X.stack s1 H1 ⟨us, []⟩ (us ++ ds) (vs ++ dvs) J hr I1.env0 b (r.append hd) h1) fun z s' hz => ?_)
  match z, hz with
  | .error _, hz => exact hz.elim
  | .ok (.ret u), hz => exact ⟨H1, s1, J, I1, hz, hR⟩
  | .ok .next, hz => exact hz.elim
  | .ok .brk, hz => exact hz.elim
  | .ok .cont, hz => exact hz.elim
end
section
variable {X : Cx} {tg : Expr}
theorem go_gen {A : Around} {M : Model} {E : Value → Shared → Prop} {s : Shared} {a : Addr} {g : Nat} {u : Value} {Q : Unit → Shared → Prop} (h : s.heap.IsGen a g) (hQ : Q () s) : wpAny M A (letOwnedTupleGo tg (.ref a) u) Q E s := by
  obtain ⟨o, nm, qn, ho, hc, hd, _⟩ := h
  exact go_of ho hc hd (by decide) hQ
/-- in a def's own code -/
theorem cons_def {pre : Around → Prop} {k : Nat} {pins : List (Addr × Obj)} {σ : L2.St} {H1 : Hp} {sc s' : Shared} {J : GJ} {u : Value} (hc : X.calm = true) (hp : pre X.A.in1) (hr : Room (k + 1) X.A) (I : Inv X pins σ H1 sc) (h : GMade2 X.prog X.w X.K X.mg X.base pre k X.stack H1 sc J u s') :
    ∃ a g B, u = .ref a ∧ B.a = a ∧ s'.heap.IsGen a g ∧ Cons X B [] pins g ∧ Inv X pins σ H1 s' ∧ Ready B J [] g 0 H1 s' ∧ ∀ (Hc : Hp) b, B.L ≤ b → Hc b = none → b ∈ X.ex ∨ X.s_0.heap.objs.size ≤ b := by
  obtain ⟨a, g, c, rfl, ha1, ha2, hgs, hos, hbare, hkp, hgen, start⟩ := h
  have I' : Inv X pins σ H1 s' := I.call' (ch := []) hos (Un.kept hkp) (I.hok.kept hkp) hbare fun b z => nomatch z
  have e0 := I'.env0
  obtain ⟨B, b1, b2, b3, b4, b5, b6, b7, b8, b9, b10, b11, b12, W', w1, w2, w3⟩ := start X.A.in1 (s'.setGen g .running) H1 [] hp hr.in1 ⟨e0.frames, e0.mod, e0.bs, e0.bsz, e0.funs, e0.frf, e0.hok, allBare_setGen e0.bare rfl⟩ hos (fun b o e => e) (fun b o e => e) (fun b hb _ => I.hok.fresh hb) fun b z => nomatch z
  refine ⟨a, g, B, rfl, b9, hgen, ⟨b1, b2, b3, b4, b5, b6, b7, hc, hr.depth, .inl ⟨by rw [b8]; exact I.lt, rfl⟩, fun x c e => ?_, fun p hp => ?_, fun b hb => ?_, ?_, ?_, List.not_mem_nil, b11⟩, I', ⟨?_, _, W', hgs, w1, w2, w3⟩, fun Hc b hb _ => .inr (Nat.le_trans I.sz (by rw [b8] at hb; exact hb))⟩
  · rw [b8]
    obtain ⟨v, q⟩ := I.cell x c e
    exact q.lt
  · rw [b8]
    exact Heap.lt_size (I.pin p hp).1
  · rw [b8]
    obtain ⟨_, o, ho, _⟩ := I.funs.mem hb
    exact Heap.lt_size ho
  · rw [b9]
    exact b10
  · rw [b8, b9]
    exact ha1
  · rw [b9]
    exact b12
/-- the i-th turn and what it is to reach -/
def tForY (ty : TGI) (g : TG) (tb : TS) : TS := fun D σ H => ty σ H fun J H1 => ∃ W : Nat → L2.St → Hp → Prop, W 0 σ H1 ∧ ∀ i σ H, i ≤ J.n → W i σ H → (i = J.n → ∀ HE, J.Z H HE → D.nx σ HE) ∧
  (i < J.n → ∀ x HY, J.Y i H x HY → g x σ HY fun σ2 H2 => tb { D with nx := fun σ' H' => KT HY H' ∧ W (i + 1) σ' H', ct := fun σ' H' => KT HY H' ∧ W (i + 1) σ' H', bk := D.nx } σ2 H2)
theorem sleepP {α : Type} {M : Model} {A : Around} {t : Sem α} {Q : α → Shared → Prop} {E : Value → Shared → Prop} {s : Shared} (hb : AllBare s.gens) (hE : ∀ e s, E e s → False) (hQ : ∀ a s, Q a s → AllBare s.gens) (h : ∀ G, AllBare G → wpAny M A t Q E (K1.regen s G)) :
    wpAny M A t (fun a s' => Sleep s.gens s'.gens ∧ AllBare s'.gens ∧ ∃ G, Q a (K1.regen s' G)) E s :=
  wpAny_mono (wpAny_sleep (E := fun _ _ => False) hb fun G hG => wpAny_mono (h G hG) (fun a z hz => ⟨hQ a z hz, hz⟩) fun e z hz => (hE e z hz).elim) (fun a z ⟨h1, h2, G, _, h3⟩ => ⟨h1, h2, G, h3⟩) fun e z ⟨_, _, _, _, hz⟩ => hz.elim
theorem ps_forY {pre : Around → Prop} {k : Nat} {iter : Expr} {body : List Stmt} {ty : TGI} {g : TG} {tb : TS} {pos : Pos} (hx : ∀ e s, X.xe e s → False) (hc : X.calm = true) (hpre : pre X.A.in1) (hr : Room (k + 1) X.A) (hi : PY X pre k iter ty) (hg : PG X tg g) (hb : PSs X body tb)
    (hp : PassesOwn (model X.prog X.w) X.A X.env X.xe) (hs : ∀ x, foldedSetIterable iter X.env x = pure x := by intro _; rfl) : PS X (.For tg iter body [] pos) (tForY ty g tb) := by
  refine ⟨fun pins s σ H D I h => wpAny_For (thn (hi.run pins s σ H _ I h) fun v s1 ⟨H1, sc, J, Isc, made, W, w0, turn⟩ => ?_) hs⟩
  obtain ⟨a, gi, B, rfl, rfl, hgen, C, I1, rd, low⟩ := cons_def hc hpre hr Isc made
  refine wpAny_pyIter_gen hgen ?_
  refine codeAny_forLoop_any (fun n s' => ∃ i σ' H', i ≤ J.n ∧ n = J.n - i ∧ Inv X pins σ' H' s' ∧ Ready B J [] gi i H' s' ∧ W i σ' H') ?_ J.n ⟨0, σ, H1, Nat.zero_le _, rfl, I1, rd, w0⟩
  rintro n s3 ⟨i, σ3, H3, hin, rfl, I3, rd3, w3⟩
  obtain ⟨fin, step⟩ := turn i σ3 H3 hin w3
  refine wpAny_passesOwn hp (thn (cons_next (E := X.xe) C I3 (low H3) rd3 hin) fun r s4 h4 => ?_)
  cases r with
  | none =>
    obtain ⟨hi', HE, hZ, I4⟩ := h4
    exact wpAny_passesOwn hp (wpAny_execs_nil ⟨σ3, HE, I4, fin hi' HE hZ⟩)
  | some v =>
    obtain ⟨hlt, x, HY, rv, hY, hgen4, I4, next⟩ := h4
    refine wpAny_passesOwn hp (go_gen (C.gen _ hgen4) ?_)
    have one : wpAny (model X.prog X.w) X.A (assign tg X.env v) (fun _ z => Sleep s4.gens z.gens ∧ AllBare z.gens ∧ ∃ G, ∃ σ6 H6, Inv X (pins ++ pinsS B.L [] s4.heap HY) σ6 H6 (K1.regen z G) ∧ tb { D with nx := fun σ' H' => KT HY H' ∧ W (i + 1) σ' H', ct := fun σ' H' => KT HY H' ∧ W (i + 1) σ' H', bk := D.nx } σ6 H6) X.xe s4 :=
      sleepP (Q := fun _ z => ∃ σ6 H6, Inv X (pins ++ pinsS B.L [] s4.heap HY) σ6 H6 z ∧ tb { D with nx := fun σ' H' => KT HY H' ∧ W (i + 1) σ' H', ct := fun σ' H' => KT HY H' ∧ W (i + 1) σ' H', bk := D.nx } σ6 H6) I4.bare hx (fun _ z ⟨_, _, I6, _⟩ => I6.bare) fun G hG => thn (hg.run _ (K1.regen s4 G) σ3 HY x v _ (Inv.regen I4 hG) rv (step hlt x HY hY)) fun _ s6 ⟨σ6, H6, I6, q6⟩ => ⟨σ6, H6, I6, q6⟩
    refine wpAny_passesOwn hp (thn one fun _ s6 ⟨sl6, b6, G6, σ6, H6, I6, q6⟩ => ?_)
    have I6 := Inv.ungen I6 b6
    have two := sleepP I6.bare hx (fun f z hz => SP_bare hz) fun G hG => hb.run _ (K1.regen s6 G) σ6 H6 _ (Inv.regen I6 hG) q6
    refine wpAny_passesOwn hp (thn two fun f s7 ⟨sl7, b7, G7, q7⟩ => ?_)
    have q7 := SP_ungen q7 b7
    have again : ∀ {σ7 : L2.St} {H7 : Hp}, Inv X (pins ++ pinsS B.L [] s4.heap HY) σ7 H7 s7 → KT HY H7 → W (i + 1) σ7 H7 → ∃ m, m < J.n - i ∧ ∃ i' σ' H', i' ≤ J.n ∧ m = J.n - i' ∧ Inv X pins σ' H' s7 ∧ Ready B J [] gi i' H' s7 ∧ W i' σ' H' := fun {σ7 H7} I7 kt w7 => by
      obtain ⟨I8, rd8⟩ := next s7 σ7 H7 I7 (sl6.trans sl7) kt
      exact ⟨J.n - (i + 1), by omega, i + 1, σ7, H7, hlt, rfl, I8, rd8, w7⟩
    cases f with
    | next => obtain ⟨σ7, H7, I7, kt, w7⟩ := q7; exact again I7 kt w7
    | cont => obtain ⟨σ7, H7, I7, kt, w7⟩ := q7; exact again I7 kt w7
    | brk => obtain ⟨σ7, H7, I7, q7⟩ := q7; exact ⟨σ7, H7, I7.unpinned, q7⟩
    | ret v => obtain ⟨x7, σ7, H7, I7, r7, q7⟩ := q7; exact ⟨x7, σ7, H7, I7.unpinned, r7, q7⟩
end
end K1

namespace K1
open PySem PySem.Spec PyProof.Rows L2
open Sem (wp)
/-! ### a list comprehension over a generator -/
section
variable {X : Cx}
def tLcY (ty : TGI) (g : TG) (tt : TT) (te : TE) (vs : List Nat) : TE := fun σ H Q => ty σ H fun J H1 => ∀ D, H1 D = none → ∃ W : Nat → Hp → Prop, W 0 (upd H1 D (.lst [])) ∧ ∀ i H, i ≤ J.n → W i H → (∃ acc, H D = some (.lst acc)) ∧ (i = J.n → ∀ HE, J.Z H HE → Q (.ref D) HE) ∧
  (i < J.n → ∀ x HY, J.Y i H x HY → g x (wipe σ vs) HY fun σ2 H2 => wipe σ2 vs = wipe σ vs ∧ tt σ2 H2 fun b H3 => if b = true then te σ2 H3 fun y H4 => ∃ acc, H4 D = some (.lst acc) ∧ acc.length < sizeLine ∧ KT HY (upd H4 D (.lst (acc ++ [y]))) ∧ W (i + 1) (upd H4 D (.lst (acc ++ [y])))
    else KT HY H3 ∧ W (i + 1) H3)
theorem pushCells_id : ∀ {names : List (Str × NameKind)} {h : Heap}, (∀ y ∈ names, y.2 ≠ .cell) → pushCells h names = h
  | [], _, _ => rfl
  | (n, k) :: r, h, hn => by
    unfold pushCells
    rw [if_neg (by
      have q := hn (n, k) (List.mem_cons_self ..)
      intro z
      exact q (by simpa using z))]
    exact pushCells_id fun y hy => hn y (List.mem_cons_of_mem _ hy)
theorem lcY_core {pre : Around → Prop} {k : Nat} {pins : List (Addr × Obj)} {s : Shared} {σ : L2.St} {H : Hp} {Q : VK} {elt tg iter : Expr} {ifs : List Expr} {scope : Scope} {own : List (Str × Nat)} {pos pos' : Pos} {ty : TGI} {g : TG} {tt : TT} {te : TE} {use : Option (Value → Sem Unit)} {Qf : Value → Shared → Prop}
    (hpre : pre X.A.in1) (hr : Room (k + 1) X.A) (hc : X.calm = true) (hN : X.N.Nodup) (I : Inv X pins σ H s) (hi : PY X pre k iter ty) (ok : BlkOk X.N X.env.scope scope own) (hnoc : ∀ y ∈ scope.names, y.2 ≠ .cell)
    (hg : ∀ (s : Shared) (H : Hp) (C : Addr) (cl : List (Str × Addr)) (fp : List Addr), PG (X.blk s H scope (compEnvC scope cl C X.env) fp) tg g) (ht : ∀ (s : Shared) (H : Hp) (C : Addr) (cl : List (Str × Addr)) (fp : List Addr), PTs (X.blk s H scope (compEnvC scope cl C X.env) fp) ifs tt)
    (he : ∀ (s : Shared) (H : Hp) (C : Addr) (cl : List (Str × Addr)) (fp : List Addr), PE (X.blk s H scope (compEnvC scope cl C X.env) fp) elt te) (hs : ∀ x, foldedSetIterable iter X.env x = pure x)
    (h : tLcY ty g tt te (own.map (·.2)) σ H Q)
    (hRR : ∀ D C s' m H', Inv X pins σ H' s' → Q (.ref D) H' → s'.heap.Ns C m → FpOk X pins H' C → compPost (model X.prog X.w) X.A X.xe use Qf (.ref D) C (.ok .next) s') :
    wpAny (model X.prog X.w) X.A (comprehension (.ListComp elt [⟨tg, iter, ifs, 0⟩] scope pos) scope X.env pos' (newList []) false (eval iter X.env) use) Qf X.xe s := by
  have hfree : ∀ y ∈ scope.names, y.2 = .free → ∃ c, X.env.cells.lookup y.1 = some c := fun y hy e => (ok.free y hy e).elim (fun z => I.ok.has _ (.inl z)) fun z => I.ok.has _ (.inr z)
  refine wpAny_comprehension_free (use := use) rfl hs (closure_ok hfree) ok.kind (fun y hy e => by rw [ok.uniq y hy, e]) (thn (hi.run pins s σ H _ I h) fun xv s1 ⟨H1, sc, J, Isc, made, q⟩ => ?_)
  obtain ⟨a, gi, c0, rfl, ha1, ha2, hgs, hos, hbare, hkp, hgen, begin_⟩ := made
  refine wpAny_pyIter_gen hgen ?_
  have I1 : Inv X pins σ H1 s1 := Isc.call' (ch := []) hos (Un.kept hkp) (Isc.hok.kept hkp) hbare fun b z => nomatch z
  have scle : sc.heap.objs.size ≤ s1.heap.objs.size := Nat.le_of_lt (Nat.lt_trans ha1 ha2)
  refine wpAny_newObj_type (newEnv_comp ?_) (by show 0 ≤ sizeLine; decide)
  generalize hD : s1.heap.objs.size = D
  have hDn : H1 D = none := I1.hok.fresh (Nat.le_of_eq hD)
  obtain ⟨W, w0, turn⟩ := q D hDn
  generalize hs3 : ({ s1 with heap := s1.heap.push { cls := .type "list", data := .seq ([] : List Value).toArray } } : Shared) = s3
  have h3 : s3.heap = s1.heap.push { cls := .type "list", data := .seq ([] : List Value).toArray } := by rw [← hs3]
  have I3 : Inv X pins σ (upd H1 D (.lst [])) s3 := by
    rw [← hs3]
    refine I1.laid (t' := s1.toks) (fun b o e => Heap.get?_push_of_some _ e) (Nat.le_of_eq hD) ⟨Nat.zero_le _, [], 0, .nil, ?_⟩
    rw [← hD]
    exact Heap.get?_push_size _ rfl
  have sz3 : s3.heap.objs.size = D + 1 := by rw [h3, Heap.size_push, hD]
  generalize hfp : ((List.range D).filter fun b => decide (sc.heap.objs.size ≤ b)) = fp
  have mfp : ∀ b, b ∈ fp ↔ b < D ∧ sc.heap.objs.size ≤ b := fun b => by
    rw [← hfp, List.mem_filter, List.mem_range, decide_eq_true_eq]
  have f3 : ∀ b ∈ fp, FpOk X pins (upd H1 D (.lst [])) b ∧ b < s3.heap.objs.size := fun b hb => by
    obtain ⟨m1, m2⟩ := (mfp b).mp hb
    have hn : upd H1 D (.lst []) b = none := by
      rw [upd_ne (Nat.ne_of_lt m1)]
      exact Isc.hok.fresh m2
    exact ⟨Isc.fpOk m2 hn, by omega⟩
  have I4 := block_start I3 ok hN f3
  have pg := hg s3 (upd H1 D (.lst [])) s3.heap.objs.size (cellsFrom (s3.heap.objs.size + 1) scope.names (cloFrom X.env.cells scope.names [])) fp
  have pt := ht s3 (upd H1 D (.lst [])) s3.heap.objs.size (cellsFrom (s3.heap.objs.size + 1) scope.names (cloFrom X.env.cells scope.names [])) fp
  have pe := he s3 (upd H1 D (.lst [])) s3.heap.objs.size (cellsFrom (s3.heap.objs.size + 1) scope.names (cloFrom X.env.cells scope.names [])) fp
  have ccl : ∀ x c, (compEnvC scope (cellsFrom (s3.heap.objs.size + 1) scope.names (cloFrom X.env.cells scope.names [])) s3.heap.objs.size X.env).cells.lookup x = some c → c < sc.heap.objs.size := fun x c e => by
    have hm : (x, c) ∈ cellsFrom (s3.heap.push { cls := .type "dict", data := .dict #[] }).objs.size scope.names (cloFrom X.env.cells scope.names []) := by
      rw [Heap.size_push]
      exact PySem.mem_of_lookup e
    rcases cells_mem hm with z | ⟨z, _, _⟩
    · rcases cloFrom_mem z with z | ⟨z1, z2⟩
      · cases z
      · obtain ⟨c', hc'⟩ := hfree _ z1 rfl
        rw [hc'] at z2
        obtain ⟨v, q⟩ := Isc.cell _ _ hc'
        rw [z2]
        exact q.lt
    · exact absurd rfl (hnoc _ z)
  show codeAny _ _ (.compStart (.ListComp elt [⟨tg, iter, ifs, 0⟩] scope pos) 0 (.ref a) (.ref D) (compEnvC scope (cellsFrom (s3.heap.objs.size + 1) scope.names (cloFrom X.env.cells scope.names [])) s3.heap.objs.size X.env)) (compPost (model X.prog X.w) X.A X.xe use Qf (.ref D) s3.heap.objs.size) { s3 with heap := pushCells (s3.heap.push { cls := .type "dict", data := .dict #[] }) scope.names }
  generalize hce : compEnvC scope (cellsFrom (s3.heap.objs.size + 1) scope.names (cloFrom X.env.cells scope.names [])) s3.heap.objs.size X.env = ce at I4 pg pt pe ccl ⊢
  have cL : ce.locals = s3.heap.objs.size := by subst hce; rfl
  generalize hH3 : upd H1 D (.lst []) = H3 at I3 I4 pg pt pe w0 f3
  have sub3 : ∀ b o, H1 b = some o → H3 b = some o := fun b o e => by
    rw [← hH3, upd_ne (ne_of_none e hDn)]
    exact e
  generalize hs4 : ({ s3 with heap := pushCells (s3.heap.push { cls := .type "dict", data := .dict #[] }) scope.names } : Shared) = s4 at I4 ⊢
  have kp4 : ∀ b o, s1.heap.get? b = some o → s4.heap.get? b = some o := fun b o e => by
    rw [← hs4]
    refine pushCells_keeps _ _ _ _ (Heap.get?_push_of_some _ ?_)
    rw [h3]
    exact Heap.get?_push_of_some _ e
  have gen4 : s4.gens = s1.gens := by rw [← hs4, ← hs3]
  have os4 : s4.os = s1.os := by rw [← hs4, ← hs3]
  have e0 := I4.env0
  obtain ⟨B, b1, b2, b3, b4, b5, b6, b7, b8, b9, b10, b11, b12, W', w1, w2, w3⟩ := begin_ X.A.in1 (s4.setGen gi .running) H3 [ce.locals] hpre hr.in1 ⟨e0.frames, e0.mod, e0.bs, e0.bsz, e0.funs, e0.frf, e0.hok, allBare_setGen e0.bare rfl⟩ (os4.trans hos) kp4 sub3
    (fun b hb hb2 => by
      rw [← hH3, upd_ne (by rw [← hD]; exact Nat.ne_of_lt hb2)]
      exact Isc.hok.fresh hb) fun b hb => by
      rw [List.mem_singleton.mp hb]
      refine ⟨by rw [cL, sz3, ← hD]; exact Nat.le_succ _, I4.free, ?_⟩
      obtain ⟨mm, ⟨o, es, ep, ho, hdat, _⟩, _⟩ := I4.loc
      exact ⟨o, ho, isCell_no fun v z => by rw [hdat] at z; cases z⟩
  have C : Cons (X.blk s3 H3 scope ce fp) B [ce.locals] [] gi := by
    refine ⟨b1, b2, b3, b4, b5, b6, b7, hc, hr.depth, .inr rfl, fun x c e => by rw [b8]; exact ccl x c e, fun p hp => (nomatch (show p ∈ ([] : List (Addr × Obj)) from hp)), fun b hb => ?_, by rw [b9]; exact b10, by rw [b8, b9]; exact ha1, ?_, b11⟩
    · rw [b8]
      obtain ⟨_, o, ho, _⟩ := Isc.stack.mem (show b ∈ frs X.stack from hb)
      exact Heap.lt_size ho
    · rw [b9]
      intro z
      have z := List.mem_singleton.mp z
      have hl : a < s3.heap.objs.size := by
        rw [sz3, ← hD]
        exact Nat.lt_succ_of_lt ha2
      rw [cL] at z
      exact absurd z (Nat.ne_of_lt hl)
  have rd4 : Ready B J [ce.locals] gi 0 H3 s4 := ⟨by rw [b9]; exact b12, _, W', by rw [gen4]; exact hgs, w1, w2, w3⟩
  have low : ∀ (Hc : Hp) (acc : List V), Hc D = some (.lst acc) → ∀ b, B.L ≤ b → Hc b = none → b ∈ (X.blk s3 H3 scope ce fp).ex ∨ (X.blk s3 H3 scope ce fp).s_0.heap.objs.size ≤ b := fun Hc acc hacc b hb hn => by
    rw [b8] at hb
    by_cases hlt : b < D
    · exact .inl ((mfp b).mpr ⟨hlt, hb⟩)
    · have hne : b ≠ D := fun z => by rw [z, hacc] at hn; cases hn
      exact .inr (by show s3.heap.objs.size ≤ b; omega)
  have loop : codeAny (model X.prog X.w) X.A (.compLoop (.ListComp elt [⟨tg, iter, ifs, 0⟩] scope pos) 0 (.ref a) (.ref D) ce) (compPost (model X.prog X.w) X.A X.xe use Qf (.ref D) s3.heap.objs.size) s4 := by
    refine compLoop_any (fun n s' => ∃ i H', i ≤ J.n ∧ n = J.n - i ∧ Inv (X.blk s3 H3 scope ce fp) [] (wipe σ (own.map (·.2))) H' s' ∧ Ready B J [ce.locals] gi i H' s' ∧ W i H') ?_ J.n ⟨0, H3, Nat.zero_le _, rfl, I4, rd4, w0⟩
    rintro n s5 ⟨i, H5, hin, rfl, I5, rd5, w5⟩
    obtain ⟨⟨acc5, hacc5⟩, fin, step⟩ := turn i H5 hin w5
    have cn := cons_next (E := fun _ _ => False) C I5 (low H5 acc5 hacc5) rd5 hin
    rw [b9] at cn
    refine thnF cn fun r s6 h6 => ?_
    cases r with
    | none =>
      obtain ⟨hi', HE, hZ, I6⟩ := h6
      have I7 : Inv X pins σ HE s6 := I3.call' (ch := fp) I6.os I6.base I6.hok I6.bare fun b hb => ⟨(f3 b hb).1.2.2.2.1, (f3 b hb).1.2.1, (f3 b hb).1.2.2.2.2.1, (f3 b hb).1.2.2.2.2.2⟩
      have nC : HE s3.heap.objs.size = none := by
        rw [← cL]
        exact I6.free
      obtain ⟨m, hn, _⟩ := I6.loc
      have hn : s6.heap.Ns ce.locals m := hn
      rw [cL] at hn
      exact hRR D s3.heap.objs.size s6 m HE I7 (fin hi' HE hZ) hn (I3.fpOk (Nat.le_refl _) nC)
    | some v =>
      obtain ⟨hlt, x, HY, rv, hY, hgen6, I6, next⟩ := h6
      have hgen6 : s6.heap.IsGen a gi := by
        have z := C.gen s6.heap (by rw [b9]; exact hgen6)
        rw [b9] at z
        exact z
      refine go_gen hgen6 ?_
      have nox : ∀ (e : Value) (z : Shared), (fun (_ : Value) (_ : Shared) => False) e z → False := fun _ _ z => z
      have fin2 : ∀ {σ8 : L2.St} {s' : Shared} {H' : Hp}, wipe σ8 (own.map (·.2)) = wipe σ (own.map (·.2)) → Sleep s6.gens s'.gens → Inv (X.blk s3 H3 scope ce fp) ([] ++ pinsS B.L [ce.locals] s6.heap HY) σ8 H' s' → KT HY H' → W (i + 1) H' →
          ∃ m, m < J.n - i ∧ ∃ i' H', i' ≤ J.n ∧ m = J.n - i' ∧ Inv (X.blk s3 H3 scope ce fp) [] (wipe σ (own.map (·.2))) H' s' ∧ Ready B J [ce.locals] gi i' H' s' ∧ W i' H' := fun {σ8 s' H'} hw sl I' kt w' => by
        obtain ⟨I8, rd8⟩ := next s' σ8 H' I' sl kt
        have hl : (wipe σ (own.map (·.2))).length = σ8.length := by rw [← hw, wipe_length]
        refine ⟨J.n - (i + 1), by omega, i + 1, H', hlt, rfl, I8.weak hl fun j u e => ?_, rd8, w'⟩
        rw [← hw] at e
        exact (wipe_some e).1
      have t1 := sleepP (Q := fun _ z => ∃ σ' H', Inv (X.blk s3 H3 scope ce fp) ([] ++ pinsS B.L [ce.locals] s6.heap HY) σ' H' z ∧ _) I6.bare nox (fun _ z ⟨_, _, Iz, _⟩ => Iz.bare) fun G hG => pg.run _ (K1.regen s6 G) _ HY x v _ (Inv.regen I6 hG) rv (step hlt x HY hY)
      refine thnF t1 fun _ s8 ⟨sl8, bb8, G8, σ8, H8, I8, hw8, q8⟩ => ?_
      have I8 := Inv.ungen I8 bb8
      have t2 := sleepP (Q := TP (X.blk s3 H3 scope ce fp) ([] ++ pinsS B.L [ce.locals] s6.heap HY) σ8 _) I8.bare nox (fun _ z ⟨_, Iz, _⟩ => Iz.bare) fun G hG => pt.run _ (K1.regen s8 G) σ8 H8 _ (Inv.regen I8 hG) q8
      refine thnF t2 fun b s9 ⟨sl9, bb9, G9, H9, I9, q9⟩ => ?_
      have I9 := Inv.ungen I9 bb9
      cases b with
      | false =>
        simp only [Bool.false_eq_true, if_false] at q9 ⊢
        exact fin2 hw8 (sl8.trans sl9) I9 q9.1 q9.2
      | true =>
        simp only [if_true] at q9 ⊢
        have t3 := sleepP (Q := EP (X.blk s3 H3 scope ce fp) ([] ++ pinsS B.L [ce.locals] s6.heap HY) σ8 _) I9.bare nox (fun _ z ⟨_, _, Iz, _⟩ => Iz.bare) fun G hG => pe.run _ (K1.regen s9 G) σ8 H9 _ (Inv.regen I9 hG) q9
        refine thnF t3 fun z s10 ⟨sl10, bb10, G10, yv, H10, I10, r10, acc, hD10, hz10, kt, w10⟩ => ?_
        have I10 := Inv.ungen I10 bb10
        have t4 := sleepP (Q := fun _ z => Inv (X.blk s3 H3 scope ce fp) ([] ++ pinsS B.L [ce.locals] s6.heap HY) σ8 (upd H10 D (.lst (acc ++ [yv]))) z) I10.bare nox (fun _ z Iz => Iz.bare) fun G hG => app_ok (E := fun _ _ => False) (X := X.blk s3 H3 scope ce fp) (Inv.regen I10 hG) hD10 hz10 r10 fun s11 I11 => I11
        refine thnF t4 fun _ s11 ⟨sl11, bb11, G11, I11⟩ => ?_
        exact fin2 hw8 (((sl8.trans sl9).trans sl10).trans sl11) (Inv.ungen I11 bb11) kt w10
  exact codeAny_compStart_list loop (wpAny_pyIter_gen (hgen.keeps kp4) loop)
/-- as a value -/
theorem pe_lcY {pre : Around → Prop} {k : Nat} {elt tg iter : Expr} {ifs : List Expr} {scope : Scope} {own : List (Str × Nat)} {pos : Pos} {ty : TGI} {g : TG} {tt : TT} {te : TE} (hpre : pre X.A.in1) (hr : Room (k + 1) X.A) (hc : X.calm = true) (hN : X.N.Nodup) (hi : PY X pre k iter ty) (ok : BlkOk X.N X.env.scope scope own) (hnoc : ∀ y ∈ scope.names, y.2 ≠ .cell)
    (hg : ∀ (s : Shared) (H : Hp) (C : Addr) (cl : List (Str × Addr)) (fp : List Addr), PG (X.blk s H scope (compEnvC scope cl C X.env) fp) tg g) (ht : ∀ (s : Shared) (H : Hp) (C : Addr) (cl : List (Str × Addr)) (fp : List Addr), PTs (X.blk s H scope (compEnvC scope cl C X.env) fp) ifs tt)
    (he : ∀ (s : Shared) (H : Hp) (C : Addr) (cl : List (Str × Addr)) (fp : List Addr), PE (X.blk s H scope (compEnvC scope cl C X.env) fp) elt te) (hs : ∀ x, foldedSetIterable iter X.env x = pure x := by intro _; rfl) :
    PE X (.ListComp elt [⟨tg, iter, ifs, 0⟩] scope pos) (tLcY ty g tt te (own.map (·.2))) := by
  refine ⟨fun pins s σ H Q I h => ?_⟩
  rw [eval_ListComp]
  refine lcY_core hpre hr hc hN I hi ok hnoc hg ht he hs h fun D C z m H' Iz hq hn ⟨f0, f1, f2, f3, f4, f5⟩ => ⟨m, hn, fun h'' sb => ?_⟩
  exact ⟨.ref D, H', Iz.turned (t' := z.toks) (fun b o hb e => (sb.2 b hb).trans e) f0 f1 f3 f4 f5, rfl, hq⟩
/-- name = [..] on one line, the name a local -/
theorem ps_setLcY {pre : Around → Prop} {k i : Nat} {y : Str} {py : Pos} {elt tg iter : Expr} {ifs : List Expr} {scope : Scope} {own : List (Str × Nat)} {pos spos : Pos} {ty : TGI} {g : TG} {tt : TT} {te : TE} (hpre : pre X.A.in1) (hr : Room (k + 1) X.A) (hc : X.calm = true) (hN : X.N.Nodup) (hy : X.N[i]? = some y) (hyl : X.env.scope.names.lookup y = some .local)
    (hsw : swapsWith (.ListComp elt [⟨tg, iter, ifs, 0⟩] scope pos) (some (.Name y py)) spos.line X.env = pure true) (hi : PY X pre k iter ty) (ok : BlkOk X.N X.env.scope scope own) (hnoc : ∀ y ∈ scope.names, y.2 ≠ .cell)
    (hg : ∀ (s : Shared) (H : Hp) (C : Addr) (cl : List (Str × Addr)) (fp : List Addr), PG (X.blk s H scope (compEnvC scope cl C X.env) fp) tg g) (ht : ∀ (s : Shared) (H : Hp) (C : Addr) (cl : List (Str × Addr)) (fp : List Addr), PTs (X.blk s H scope (compEnvC scope cl C X.env) fp) ifs tt)
    (he : ∀ (s : Shared) (H : Hp) (C : Addr) (cl : List (Str × Addr)) (fp : List Addr), PE (X.blk s H scope (compEnvC scope cl C X.env) fp) elt te) (hs : ∀ x, foldedSetIterable iter X.env x = pure x := by intro _; rfl) :
    PS X (.Assign [.Name y py] (.ListComp elt [⟨tg, iter, ifs, 0⟩] scope pos) spos) (tAsg (tLcY ty g tt te (own.map (·.2))) (gName i)) := by
  refine ⟨fun pins s σ H D I h => ?_⟩
  rw [exec_Assign_Name_used _ _ _ _ hsw]
  refine wpAny_bind (wpAny_standAt (wpAny_bind ?_))
  show wpAny _ X.A (do let _ ← comprehension (.ListComp elt [⟨tg, iter, ifs, 0⟩] scope pos) scope X.env (firstIterPos [⟨tg, iter, ifs, 0⟩] pos) (newList []) false (eval iter X.env) (some (assign (.Name y py) X.env))) _ _ s
  have h : tLcY ty g tt te (own.map (·.2)) σ H (fun x H1 => gName i x σ H1 D.nx) := h
  refine wpAny_bind (thn (lcY_core (Qf := fun _ z => SP X pins D .next z) hpre hr hc hN I hi ok hnoc hg ht he hs h fun L C z m H' Iz hq hn fpk => ?_) fun _ z hz => wpAny_pure (wpAny_pure hz))
  show wpAny _ _ (assign (.Name y py) X.env (.ref L)) _ _ _
  refine wpAny_assign_Name (store_ok2 (v := V.ref L) Iz hN hy (.inl hyl) rfl (fun s2 I2 ⟨a, sb, ha⟩ => ?_) (.inr hyl))
  obtain ⟨f0, f1, f2, f3, f4, f5⟩ := fpk
  have haC : C ≠ a := ha.elim (fun z => by rw [z]; exact f1) fun z e => f4 y a z e.symm
  exact ⟨m, hn.sameBut sb haC, fun h3 sb3 => ⟨_, H', I2.turned (t' := s2.toks) (fun b o hb e => (sb3.2 b hb).trans e) f0 f1 f3 f4 f5, hq⟩⟩
end
end K1

namespace K1
open PySem PySem.Spec PyProof.Rows L2
open Sem (wp)
/-! ### list(g) -/
abbrev atA (X : Cx) (A : Around) : Cx := { X with A := A }
theorem Inv.atA {X : Cx} {pins : List (Addr × Obj)} {σ : L2.St} {H : Hp} {s : Shared} {A : Around} (I : Inv X pins σ H s) (h1 : A.handled = X.A.handled) (h2 : A.frames = X.A.frames) : Inv (K1.atA X A) pins σ H s :=
  ⟨⟨I.ok.mod, I.ok.kind, I.ok.glob, I.ok.blt, I.ok.above, I.ok.inj, I.ok.has, I.ok.cab, fun z => h1.trans (I.ok.hd z), h2.trans I.ok.frames, I.ok.stk, I.ok.exf, I.ok.bs, I.ok.bsz, I.ok.noex, I.ok.exfs, I.ok.funs, I.ok.frf⟩, I.os, I.bare, I.base, I.loc, I.cell, I.free, I.freeC, I.pin, I.hok, I.len⟩
theorem Inv.ofA {X : Cx} {pins : List (Addr × Obj)} {σ : L2.St} {H : Hp} {s : Shared} {A : Around} (I : Inv (K1.atA X A) pins σ H s) (h1 : A.handled = X.A.handled) (h2 : A.frames = X.A.frames) : Inv X pins σ H s :=
  ⟨⟨I.ok.mod, I.ok.kind, I.ok.glob, I.ok.blt, I.ok.above, I.ok.inj, I.ok.has, I.ok.cab, fun z => h1.symm.trans (I.ok.hd z), h2.symm.trans I.ok.frames, I.ok.stk, I.ok.exf, I.ok.bs, I.ok.bsz, I.ok.noex, I.ok.exfs, I.ok.funs, I.ok.frf⟩, I.os, I.bare, I.base, I.loc, I.cell, I.free, I.freeC, I.pin, I.hok, I.len⟩
def tListY (ty : TGI) : TE := fun σ H Q => ty σ H fun J H1 => ∀ D, H1 D = none → ∃ W : Nat → List V → Hp → Prop, W 0 [] (upd H1 D (.lst [])) ∧ ∀ i acc H, i ≤ J.n → W i acc H → H D = some (.lst acc) ∧ (i = J.n → ∀ HE, J.Z H HE → Q (.ref D) HE) ∧
  (i < J.n → ∀ x HY, J.Y i H x HY → HY D = some (.lst acc) ∧ acc.length < sizeLine ∧ W (i + 1) (acc ++ [x]) (upd HY D (.lst (acc ++ [x]))))
section
variable {X : Cx}
theorem pe_listY {pre : Around → Prop} {k : Nat} {e : Expr} {ty : TGI} {nm : Str} {p pos : Pos} (hc : X.calm = true) (hpre : pre X.A.in1.in1.in1) (hr : Room (k + 3) X.A) (h : PY X pre k e ty) (hg : Gl X nm) (hmg : X.mg nm = none) (hv : bootBuiltins nm = some (.type "list")) (hnm : nm ≠ "__name__" := by decide) (hdb : (nm == ("__debug__" : Str)) = false := by decide)
    (he : starEach [e] X.env = (false, eval e X.env) :: starEach [] X.env := by rfl) : PE X (.Call (.Name nm p) [e] [] pos) (tListY ty) := by
  refine ⟨fun pins s0 σ H Q I0 hq => wpAny_Call_Name_kw (ld_blt I0 hg hmg hv (PyProof.Rows.callWith_type1 ?_ he rfl) hnm hdb)⟩
  rw [he]
  show wpAny _ _ (spliced ((false, eval e X.env) :: backTo pos (starEach [] X.env))) _ _ s0
  refine Calls.spliced_cons (thn (h.run pins s0 σ H _ I0 hq) fun u s ⟨H1, sc, J, Isc, made, q⟩ => Calls.spliced_nil ?_)
  obtain ⟨a, gi, c0, rfl, ha1, ha2, hgs, hos, hbare, hkp, hgen, begin_⟩ := made
  have I1 : Inv X pins σ H1 s := Isc.call' (ch := []) hos (Un.kept hkp) (Isc.hok.kept hkp) hbare fun b z => nomatch z
  obtain ⟨W, w0, turn⟩ := q s.heap.objs.size (I1.hok.fresh (Nat.le_refl _))
  have away : s.heap.objs.size ≠ a := Nat.ne_of_gt ha2
  refine callType_codes (Q₁ := fun obj z => obj = .ref s.heap.objs.size ∧ z = { s with heap := s.heap.push { cls := .type "list", data := .seq #[] } }) F.called_list (F.typeCall_list_1 _) F.entry_list_init (code_list_new _ ⟨rfl, rfl⟩) fun obj z hz => ?_
  obtain ⟨rfl, rfl⟩ := hz
  have born : (s.heap.push { cls := .type "list", data := .seq #[] }).get? s.heap.objs.size = some { cls := .type "list", data := .seq #[] } := Heap.get?_push_size s.heap rfl
  have stays : ∀ (h : Heap) (f : Obj → Obj), (∀ b o, s.heap.get? b = some o → h.get? b = some o) → ∀ b o, s.heap.get? b = some o → (h.update s.heap.objs.size f).get? b = some o := fun h f q b o e => by
    rw [Heap.get?_update_other _ _ (Nat.ne_of_gt (Heap.lt_size e))]
    exact q b o e
  have old1 : ∀ b o, s.heap.get? b = some o → (s.heap.push { cls := .type "list", data := .seq #[] }).get? b = some o := fun b o => Heap.get?_push_of_some _
  have old2 := stays _ (Obj.mapSeq (fun _ => (#[] : Array Value))) old1
  have is2 : ({ s with heap := (s.heap.push { cls := .type "list", data := .seq #[] }).update s.heap.objs.size (Obj.mapSeq (fun _ => (#[] : Array Value))) } : Shared).heap.IsGen a gi := hgen.keeps old2
  refine ⟨⟨_, born, rfl⟩, F.args_list_init_2 _ _, ?_⟩
  show wpAny _ X.A.in1.in1 (Builtin.List.listItems (.ref s.heap.objs.size) >>= fun old => updateSeq s.heap.objs.size (fun _ => #[]) >>= fun _ => letGo old.toList.reverse >>= fun _ => Builtin.List.listExtendWith (.ref s.heap.objs.size) (.ref a) .none) _ _ _
  unfold Builtin.List.listItems
  refine wpAny_bind (wpAny_bind (wpAny_seqItems born rfl (wpAny_pure ?_)))
  refine wpAny_bind (wpAny_updateSeq born rfl (wpAny_bind (wpAny_letGo ?_)))
  have born2 := Heap.get?_update_self (Obj.mapSeq (fun _ => (#[] : Array Value))) born (by rfl)
  have n1 : Builtin.List.listSameRef (.ref s.heap.objs.size) (.ref a) = false := by simp [Builtin.List.listSameRef, away]
  have n2 : (Value.type "generator" == Value.type "list") = false ∧ (Value.type "generator" == Value.type "tuple") = false := by decide
  unfold Builtin.List.listExtendWith
  refine wpAny_bind (wpAny_typeOf is2.typeIs ?_)
  simp only [n1, n2.1, n2.2, Bool.or_false, Bool.false_eq_true, if_false]
  refine wpAny_bind (wpAny_pyIter_gen is2 (wpAny_bind (wpAny_holding ?_)))
  unfold Builtin.List.listLengthHint
  refine wpAny_bind (wpAny_specialOf is2.typeIs F.gen_no_len (wpAny_bind (m := specialOf (Value.ref a) (Str.ofString "__length_hint__")) (wpAny_specialOf is2.typeIs F.gen_no_hint (wpAny_pure ?_))))
  have born3 := Heap.get?_update_self (Obj.mapSeq (·.push Value.none)) born2 (by rfl)
  have born4 := Heap.get?_update_self (Obj.mapSeq (·.pop)) born3 (by rfl)
  have old4 := stays _ (Obj.mapSeq (·.pop)) (stays _ (Obj.mapSeq (·.push Value.none)) old2)
  show wpAny _ X.A.in1.in1 (rule "list.extend.makes-room" >>= fun _ => (updateSeq s.heap.objs.size (·.push .none) >>= fun _ => updateSeq s.heap.objs.size (·.pop)) >>= fun _ => again (.builtin "list.extend.loop" ⟨[.ref s.heap.objs.size, .ref a, .none], []⟩)) _ _ _
  refine wpAny_bind (wpAny_rule (wpAny_bind (wpAny_bind (wpAny_updateSeq born2 rfl (wpAny_updateSeq (hz := by seq_fits) born3 rfl (wpAny_pure ⟨plainId_quiet F.plain_extend_loop _, ?_⟩))))))
  suffices main : ∀ s4 : Shared, s4.gens = s.gens → s4.os = s.os → (∀ b o, s.heap.get? b = some o → s4.heap.get? b = some o) → (∃ n, s4.heap.get? s.heap.objs.size = some (lstObj #[] n)) →
      codeAny (model X.prog X.w) X.A.in1 (.builtin "list.extend.loop" ⟨[.ref s.heap.objs.size, .ref a, .none], []⟩) (wants (fun r z => r = Value.none ∧ EP X pins σ Q (Value.ref s.heap.objs.size) z) X.xe) s4 from main _ rfl rfl old4 ⟨_, born4⟩
  intro s4 hg4 ho4 kp4 ⟨n4, hS4'⟩
  clear born4 old4 born3 born2 is2 old2 old1 stays born
  have hn1 : H1 s.heap.objs.size = none := I1.hok.fresh (Nat.le_refl _)
  have I4 : Inv (K1.atA X X.A.in1.in1) pins σ (upd H1 s.heap.objs.size (.lst [])) s4 := by
    refine Inv.atA ?_ rfl rfl
    refine I1.call' (ch := []) ho4 (Un.laid kp4 (Nat.le_refl _) hn1) (I1.hok.laid kp4 (Nat.le_refl _) ⟨Nat.zero_le _, [], n4, .nil, hS4'⟩) (by rw [hg4]; exact I1.bare) fun b z => nomatch z
  have e0 := I4.env0
  obtain ⟨B, b1, b2, b3, b4, b5, b6, b7, b8, b9, b10, b11, b12, W', w1, w2, w3⟩ := begin_ X.A.in1.in1.in1 (s4.setGen gi .running) (upd H1 s.heap.objs.size (.lst [])) [] hpre hr.in1.in1.in1 ⟨e0.frames, e0.mod, e0.bs, e0.bsz, e0.funs, e0.frf, e0.hok, allBare_setGen e0.bare rfl⟩ (ho4.trans hos) kp4
    (fun b o e => by
      rw [upd_ne (ne_of_none e hn1)]
      exact e)
    (fun b hb hb2 => by
      rw [upd_ne (Nat.ne_of_lt hb2)]
      exact Isc.hok.fresh hb) fun b hb => nomatch hb
  have C : Cons (K1.atA X X.A.in1.in1) B [] pins gi := by
    refine ⟨b1, b2, b3, b4, b5, b6, b7, hc, hr.in1.in1.depth, .inl ⟨by rw [b8]; exact Isc.lt, rfl⟩, fun x c e => ?_, fun p hp => ?_, fun b hb => ?_, by rw [b9]; exact b10, by rw [b8, b9]; exact ha1, List.not_mem_nil, b11⟩
    · rw [b8]
      obtain ⟨v, q⟩ := Isc.cell x c e
      exact q.lt
    · rw [b8]
      exact Heap.lt_size (Isc.pin p hp).1
    · rw [b8]
      obtain ⟨_, o, ho, _⟩ := Isc.funs.mem hb
      exact Heap.lt_size ho
  have rd4 : Ready B J [] gi 0 (upd H1 s.heap.objs.size (.lst [])) s4 := ⟨by rw [b9]; exact b12, _, W', by rw [hg4]; exact hgs, w1, w2, w3⟩
  have low : ∀ (Hc : Hp) b, B.L ≤ b → Hc b = none → b ∈ (K1.atA X X.A.in1.in1).ex ∨ (K1.atA X X.A.in1.in1).s_0.heap.objs.size ≤ b := fun Hc b hb _ => .inr (Nat.le_trans Isc.sz (by rw [b8] at hb; exact hb))
  generalize hSS : s.heap.objs.size = S at *
  have loop : ∀ (m i : Nat) (acc : List V) (Hc : Hp) (z : Shared), m = J.n - i → i ≤ J.n → Inv (K1.atA X X.A.in1.in1) pins σ Hc z → Ready B J [] gi i Hc z → W i acc Hc →
      codeAny (model X.prog X.w) X.A.in1 (.builtin "list.extend.loop" ⟨[.ref S, .ref a, .none], []⟩) (wants (fun r z => r = Value.none ∧ EP X pins σ Q (Value.ref S) z) X.xe) z := by
    intro m
    induction m with
    | zero =>
      intro i acc Hc z hm hi Iz rd wi
      refine codeAny_builtin F.entry_extend_loop ((Around.under_plainId F.plain_extend_loop _).symm ▸ ?_)
      show wpAny (model X.prog X.w) X.A.in1.in1 (pyNext (.ref a) >>= _) _ _ z
      obtain ⟨_, fin, _⟩ := turn i acc Hc hi wi
      have cn := cons_next (E := fun _ _ => False) C Iz (low Hc) rd hi
      rw [b9] at cn
      refine wpAny_bind (thnF cn fun r z1 h1 => ?_)
      cases r with
      | none =>
        obtain ⟨hi', HE, hZ, I2⟩ := h1
        exact wpAny_pure ⟨rfl, .ref S, HE, Inv.ofA I2 rfl rfl, rfl, fin hi' HE hZ⟩
      | some v =>
        obtain ⟨hlt, _⟩ := h1
        omega
    | succ m ih =>
      intro i acc Hc z hm hi Iz rd wi
      refine codeAny_builtin F.entry_extend_loop ((Around.under_plainId F.plain_extend_loop _).symm ▸ ?_)
      show wpAny (model X.prog X.w) X.A.in1.in1 (pyNext (.ref a) >>= _) _ _ z
      obtain ⟨_, fin, step⟩ := turn i acc Hc hi wi
      have cn := cons_next (E := fun _ _ => False) C Iz (low Hc) rd hi
      rw [b9] at cn
      refine wpAny_bind (thnF cn fun r z1 h1 => ?_)
      cases r with
      | none =>
        obtain ⟨hi', HE, hZ, I2⟩ := h1
        exact wpAny_pure ⟨rfl, .ref S, HE, Inv.ofA I2 rfl rfl, rfl, fin hi' HE hZ⟩
      | some v =>
        obtain ⟨hlt, x, HY, rv, hY, _, I2, next⟩ := h1
        obtain ⟨hD, hlen, w2⟩ := step hlt x HY hY
        obtain ⟨hz', its, n, ri, eo⟩ := I2.hok S _ hD
        have hl := ri.length
        have hsz : its.toArray.size < sizeLine := by rw [List.size_toArray]; omega
        show wpAny (model X.prog X.w) X.A.in1.in1 (updateSeq S (·.push v) >>= _) _ _ z1
        refine wpAny_bind (wpAny_updateSeq eo rfl (wpAny_pure ⟨plainId_quiet F.plain_extend_loop _, ?_⟩) (Nat.le_of_lt hsz) (by show (its.toArray.push v).size ≤ sizeLine + 1; rw [Array.size_push]; omega))
        have I3 : Inv (K1.atA X X.A.in1.in1) (pins ++ pinsS B.L [] z1.heap HY) σ (upd HY S (.lst (acc ++ [x]))) { z1 with heap := z1.heap.update S (Obj.mapSeq (·.push v)) } := by
          refine I2.write (t' := z1.toks) (x := S) (e := S) (by rw [hD]; trivial) (.inl rfl) (fun b u hb q => (Heap.get?_update_other _ _ (Ne.symm hb)).trans q) ⟨_, Heap.get?_update_self _ eo rfl⟩ ⟨by rw [List.length_append]; exact hlen, its ++ [v], n + 1, ri.append (.cons rv .nil), ?_⟩
          rw [Heap.get?_update_self _ eo rfl]
          simp [Obj.mapSeq]
        obtain ⟨I5, rd5⟩ := next _ σ _ I3 (Sleep.refl _) fun b o f e => by
          rw [upd_ne fun q => by
            rw [q, hD] at e
            cases e
            rcases f with ⟨_, z⟩ | ⟨_, _, z⟩ <;> cases z]
          exact e
        exact ih (i + 1) _ _ _ (by omega) hlt I5 rd5 w2
  exact loop (J.n - 0) 0 [] _ s4 rfl (Nat.zero_le _) I4 rd4 w0
end
end K1

namespace K1
open PySem PySem.Spec PyProof.Rows L2 Own
/-! ### what goes on while a generator sleeps; a written list -/
theorem KT.of {H H' : Hp} (h : Same H H') : KT H H' := fun b o _ e => h b o e
theorem sqT_kt {K : PySem.W.Frag} {H H' : Hp} (s : KT H H') {a : Addr} {xs : List V} (h : SqT K H a xs) : SqT K H' a xs := by
  rcases h with (e | ⟨o, e⟩) | h
  · exact .inl (.inl (s a _ (.inl ⟨_, rfl⟩) e))
  · exact .inl (.inr ⟨o, s a _ (.inr ⟨_, _, rfl⟩) e⟩)
  · exact .inr h
def flatD : PyData → Bool
  | .list _ => false
  | .tuple ds => flatL ds
  | _ => true
where flatL : List PyData → Bool
  | [] => true
  | d :: r => flatD d && flatL r
section
variable {K : PySem.W.Frag} {H H' : Hp}
mutual
theorem dp_ktF (s : KT H H') : ∀ {v : V} {d : PyData}, Dp K H v d → flatD d = true → Dp K H' v d
  | _, _, .non, _ => .non
  | _, _, .bl b, _ => .bl b
  | _, _, .int i, _ => .int i
  | _, _, .str z, _ => .str z
  | _, _, .lst _ _, n => absurd n (fun z => nomatch z)
  | _, _, .tup h a, n => .tup (sqT_kt s h) (dpAll_ktF s a n)
theorem dpAll_ktF (s : KT H H') : ∀ {vs : List V} {ds : List PyData}, DpAll K H vs ds → flatD.flatL ds = true → DpAll K H' vs ds
  | _, _, .nil, _ => .nil
  | _, _, .cons a r, n => .cons (dp_ktF s a (Bool.and_eq_true_iff.mp n).1) (dpAll_ktF s r (Bool.and_eq_true_iff.mp n).2)
end
end
/-- a written list: where it stands -/
def tLstA (L : Nat) (t : TA) : TE := fun σ H Q => t σ H fun xs H1 => xs.length ≤ sizeLine ∧ ∀ p, L < p → H1 p = none → Q (.ref p) (upd H1 p (.lst xs))
theorem pe_lstA {X : Cx} {es : List Expr} {pos : Pos} {t : TA} (h : PA X es t) : PE X (.List es pos) (tLstA X.env.locals t) :=
  ⟨fun pins s σ H Q I h0 => wpAny_List_spliced (thn (h.run pos pins s σ H _ I h0) fun us z ⟨xs, Hz, Iz, rv, few, goal⟩ => ⟨by rw [← rv.length]; exact few, .ref z.heap.objs.size, upd Hz z.heap.objs.size (.lst xs),
    Iz.laid (t' := z.toks) (fun b o => Heap.get?_push_of_some _) (Nat.le_refl _) ⟨few, us, 0, rv, Heap.get?_push_size _ rfl⟩, rfl, goal z.heap.objs.size Iz.lt (Iz.hok.fresh (Nat.le_refl _))⟩)⟩
end K1

namespace K1
open PySem PySem.Spec PyProof.Rows L2
open Sem (wp)
/-! ### for, in a generator's own body, over what does not sleep -/
theorem run2_bw {M : Model} {A : Around} {Φ : EndP} {c : Code} {fs : List Frame} {s : Shared} {α β : Type} {m : Sem α} {f : α → Sem β} {K1 : β → Sem PySem.Fin} {J1 : Value → Sem PySem.Fin} {gd : Bool → Bool} {lv : List Value → List Value}
    (h : wpAny M (A.over c fs) m (fun a z => Run2 M A Φ c ((f a).wrap K1 J1 gd lv) fs z) (fun _ _ => False) s) : Run2 M A Φ c ((m >>= f).wrap K1 J1 gd lv) fs s := by
  rw [Sem.bind_eq_wrap', Sem.wrap_wrap]
  exact run2_wrap h
theorem run2_forLoop {P : Program} {w : World} {A : Around} {Φ : EndP} {tg : Expr} {it : Value} {body : List Stmt} {env : Env} {fs : List Frame} {s : Shared}
    (h : wpAny (model P w) (A.over (.forLoop tg it body [] env) fs) (pyNext it) (fun r z => match r with
      | none => Run2 (model P w) A Φ (.block [] env) (leafOf (.ok .next)) fs z
      | some v => wpAny (model P w) (A.over (.forLoop tg it body [] env) fs) (letOwnedTupleGo tg it v) (fun _ z1 => wpAny (model P w) (A.over (.forLoop tg it body [] env) fs) (assign tg env v) (fun _ z2 =>
          ∀ J1 : Value → Sem PySem.Fin, Run2 (model P w) A Φ (.forLoop tg it body [] env) ((execs body env).wrap (fun f => match f with
            | .next | .cont => .pure (.again (.forLoop tg it body [] env))
            | .brk => leafOf (.ok .next)
            | .ret v => leafOf (.ok (.ret v))) J1 id id) fs z2) (fun _ _ => False) z1) (fun _ _ => False) z) (fun _ _ => False) s) :
    Run2 (model P w) A Φ (.forLoop tg it body [] env) ((model P w).den (.forLoop tg it body [] env)) fs s := by
  show Run2 _ A Φ _ (Sem.onRaise (forTurn tg it body [] env) fun x => do noteFrame x env; theTreesLotGoes x) fs s
  rw [Sem.onRaise_eq_wrap]
  unfold forTurn
  refine run2_bw (wpAny_standAt (run2_bw (wpAny_onRaise (wpAny_mono h (fun r z hr => ?_) fun _ _ x => x.elim))))
  cases r with
  | none => exact run2_again rfl hr
  | some v =>
    refine run2_bw (wpAny_mono hr (fun _ z1 h1 => run2_bw (wpAny_mono h1 (fun _ z2 h2 => ?_) fun _ _ x => x)) fun _ _ x => x)
    rw [Sem.bind_eq_wrap', Sem.wrap_wrap]
    refine Eq.mpr (congrArg (fun t => Run2 (model P w) A Φ (.forLoop tg it body [] env) t fs z2) (Sem.wrap_congr (execs body env) id id (fun f => ?_) (fun x => rfl))) (h2 fun x => (do noteFrame x env; theTreesLotGoes x : Sem Unit).bind fun _ => .raise x)
    cases f <;> rfl
theorem GI.less {B : GB} {W : Wk} {ip more : List (Addr × Obj)} {σ : L2.St} {H : Hp} {s : Shared} (g : GI B W (ip ++ more) σ H s) : GI B W ip σ H s := ⟨g.1, fun p hp => g.2 p (List.mem_append_left _ hp)⟩
def tFor2 (wi : TI) (g : TG) (tb : TG2) : TG2 := fun D i Hc σ H => wi σ H fun J H1 => ∃ Wv : Nat → Nat → Nat → Hp → L2.St → Hp → Prop, (∃ r, Wv 0 r i Hc σ H1) ∧ ∀ j r i Hc σ H, Wv j r i Hc σ H →
  (J.stop j H ∧ D.nx i Hc σ H) ∨ (J.go j H ∧ ∃ N : Nat → Hp → L2.St → Hp → Prop, (∀ i' Hc' σ' H', N i' Hc' σ' H' → ∃ r', r' < r ∧ Wv (j + 1) r' i' Hc' σ' H') ∧ ∀ x H', J.yld j H x H' → g x σ H' fun σ2 H2 => tb { D with nx := N, ct := N, bk := D.nx } i Hc σ2 H2)
theorem g2_for {B : GB} {J : GJ} {pl : List Addr} (ok : B.Ok) {tg iter : Expr} {body : List Stmt} {pos : Pos} {wi : TI} {g : TG} {tb : TG2} (hi : ∀ s0 H0, PI (B.X s0 H0) tg iter wi) (hg : ∀ s0 H0, PG (B.X s0 H0) tg g) (hb : G2s B J pl body tb)
    (hs : ∀ x, foldedSetIterable iter B.env x = pure x := by intro _; rfl) : G2 B J pl (.For tg iter body [] pos) (tFor2 wi g tb) := by
  refine ⟨fun ip c fs K1 J1 gd lv m i W s σ H D g0 hm wo k gi ht => ?_⟩
  rw [exec_For]
  refine run2_bw (wpAny_standAt (run2_bw ?_))
  rw [g0.over]
  refine wpAny_mono ((hi _ _).run _ s σ H _ (gi.pinned ok) ht) (fun v s1 h1 => run2_bw ?_) fun _ _ x => x
  rw [hs v]
  refine wpAny_pure (run2_bw (wpAny_standAt (run2_bw ?_)))
  rw [g0.over]
  refine wpAny_holding (wpAny_mono h1 (fun itv s2 h2 => ?_) fun _ _ x => x)
  obtain ⟨it, fp, tn, It, H2, rfl, I2, T, st2, f2, Wv, ⟨r0, w0⟩, turn⟩ := h2
  have gi2 := gi.unpin I2
  refine run2_call fun p => ?_
  generalize hkk : (fun r : Result => ((match r with | .ok f => (.pure f : Sem Flow) | .error e => .raise e).onRaise fun (x : Value) => (do
        if (← field x 1) == Value.none then unsupported "frame.own-activation:exception-without-traceback"
        setFlight x B.env.frame : Sem Unit)).wrap K1 J1 gd lv) = kk
  have okk : ∀ f, kk (.ok f) = K1 f := fun f => by rw [← hkk]; rfl
  have gl := gc2_loop (k := kk) (d := .forLoop tg (.ref it) body [] B.env) (l := lv []) (kp := []) (p := p) g0 rfl rfl
  have gl2 := gc2_loop (k := kk) (d := .block [] B.env) (l := lv []) (kp := []) (p := p) g0 rfl rfl
  have hL : ∀ b ∈ fp, B.L < b ∧ ∀ q ∈ ip, q.1 ≠ b := fun b hb' => by
    obtain ⟨q0, q1, q2, q3, q4, q5⟩ := f2 b hb'
    refine ⟨?_, fun q hq => q5 q (List.mem_append_right _ (List.mem_append_right _ hq))⟩
    rcases q3 with q3 | q3
    · cases q3
    · have e : (truncS B.L W.s).heap.objs.size = B.L := by
        show (W.s.heap.objs.extract 0 B.L).size = B.L
        have := wo.lt
        rw [Array.size_extract]
        omega
      have q3 : B.L ≤ b := by rw [← e]; exact q3
      exact Nat.lt_of_le_of_ne q3 (Ne.symm q1)
  have stat : ∀ {W : Wk} {H' : Hp}, B.L < W.s.heap.objs.size → (∀ b ∈ fp, H' b = none ∧ ∀ q ∈ B.pW W, q.1 ≠ b) → ∀ b ∈ fp, FpOk (B.XW W) (B.pW W ++ ip) H' b := fun {W H'} hlt hn b hb' => by
    obtain ⟨l1, l2⟩ := hL b hb'
    refine ⟨(hn b hb').1, Nat.ne_of_gt l1, fun z => Nat.lt_asymm l1 (ok.fs b z), .inr ?_, fun x c e => ?_, fun q hq => ?_⟩
    · show (W.s.heap.objs.extract 0 B.L).size ≤ b
      rw [Array.size_extract]
      omega
    · have e : B.env.cells.lookup x = some c := e
      rw [ok.nc] at e
      cases e
    · rcases List.mem_append.mp (show q ∈ B.pW W ++ ip from hq) with z | z
      · exact (hn b hb').2 q z
      · exact l2 q z
  have loop : ∀ (r j m i : Nat) (W : Wk) (s : Shared) (σ : L2.St) (H : Hp), m + i = J.n → WkOk B pl W → Wv j r i W.Hc σ H → GI B W ip σ H s → tn j s.heap → (∀ b ∈ fp, H b = none ∧ ∀ q ∈ B.pW W, q.1 ≠ b) →
      Run2 B.M B.A (Phi B J pl m W) (.forLoop tg (.ref it) body [] B.env) (B.M.den (.forLoop tg (.ref it) body [] B.env)) (.ret kk none (gd false) (lv []) c p [] :: fs) s := by
    intro r
    induction r using Nat.strongRecOn with
    | ind r ih =>
      intro j m i W s σ H hm wo w gi st fr
      refine run2_forLoop ?_
      rw [gl.over]
      rcases turn j r i W.Hc σ H w with ⟨stop, qn⟩ | ⟨go, N, hN, step⟩
      · refine wpAny_mono (T.done (B.XW W) rfl rfl rfl rfl j _ s σ H (fun _ _ => False) (gi.pinned ok) (stat wo.lt fr) st stop) (fun r s4 ⟨hr, I4⟩ => ?_) fun _ _ x => x
        subst hr
        refine run2_leaf (.ok .next) ?_
        rw [okk]
        exact k m i W s4 .next hm wo ⟨σ, H, gi.unpin I4, qn⟩
      · refine wpAny_mono (T.item (B.XW W) rfl rfl rfl rfl j _ s σ H (fun _ _ => False) (gi.pinned ok) (stat wo.lt fr) st go) (fun r s4 ⟨u, hr, h4⟩ => ?_) fun _ _ x => x
        subst hr
        refine wpAny_mono h4 (fun _ s5 ⟨x, H5, I5, r5, y5, st5, fr5⟩ => ?_) fun _ _ x => x
        have gi5 := gi.unpin I5
        have gi5' : GI B W (ip ++ pinsAt fp s5.heap) σ H5 s5 := ⟨gi5.1, fun q hq => by
          rcases List.mem_append.mp hq with z | z
          · exact gi5.2 q z
          · obtain ⟨hb', e⟩ := of_pinsAt z
            obtain ⟨o, e', d⟩ := T.obj _ _ st5 q.1 hb'
            rw [e] at e'
            cases e'
            exact ⟨e, fr5 _ hb', (hL _ hb').1, isCell_no d, fun q' hq' => (fr _ hb').2 q' hq'⟩⟩
        refine wpAny_mono ((hg _ _).run _ s5 σ H5 x u _ (gi5'.pinned ok) r5 (step x H5 y5)) (fun _ s6 ⟨σ6, H6, I6, q6⟩ => ?_) fun _ _ x => x
        have gi6 := gi5'.unpin I6
        intro J2
        have again : ∀ {m' i' : Nat} {W' : Wk} {s7 : Shared} {σ7 : L2.St} {H7 : Hp}, m' + i' = J.n → WkOk B pl W' → GI B W' (ip ++ pinsAt fp s5.heap) σ7 H7 s7 → N i' W'.Hc σ7 H7 → Run2 B.M B.A (Phi B J pl m' W') (.forLoop tg (.ref it) body [] B.env) (B.M.den (.forLoop tg (.ref it) body [] B.env)) (.ret kk none (gd false) (lv []) c p [] :: fs) s7 := fun {m' i' W' s7 σ7 H7} hm' wo' gi7 n7 => by
          obtain ⟨r', hr', w7⟩ := hN i' W'.Hc σ7 H7 n7
          refine ih r' hr' (j + 1) m' i' W' s7 σ7 H7 hm' wo' w7 gi7.less (T.keep _ _ _ st5 fun b hb' o e => (gi7.2 (b, o) (List.mem_append_right _ (mem_pinsAt hb' e))).1) fun b hb' => ?_
          obtain ⟨o, e, d⟩ := T.obj _ _ st5 b hb'
          obtain ⟨z0, z1, _, _, z2⟩ := gi7.2 (b, o) (List.mem_append_right _ (mem_pinsAt hb' e))
          exact ⟨z1, z2⟩
        refine hb.run (ip ++ pinsAt fp s5.heap) _ _ _ J2 id id m i W s6 σ6 H6 { D with nx := N, ct := N, bk := D.nx } gl hm wo (fun m' i' W' s3 f hm' wo' hs => ?_) gi6 q6
        cases f with
        | next =>
          obtain ⟨σ3, H3, gi3, n3⟩ := hs
          exact run2_again rfl (again hm' wo' gi3 n3)
        | cont =>
          obtain ⟨σ3, H3, gi3, n3⟩ := hs
          exact run2_again rfl (again hm' wo' gi3 n3)
        | brk =>
          obtain ⟨σ3, H3, gi3, n3⟩ := hs
          refine run2_leaf (.ok .next) ?_
          rw [okk]
          exact k m' i' W' s3 .next hm' wo' ⟨σ3, H3, gi3.less, n3⟩
        | ret v =>
          obtain ⟨x3, σ3, H3, gi3, n3⟩ := hs
          refine run2_leaf (.ok (.ret v)) ?_
          rw [okk]
          exact k m' i' W' s3 (.ret v) hm' wo' ⟨x3, σ3, H3, gi3.less, n3⟩
  exact loop r0 0 m i W s2 σ H2 hm wo w0 gi2 st2 fun b hb' => ⟨(f2 b hb').1, fun q hq => (f2 b hb').2.2.2.2.2 q (List.mem_append_right _ (List.mem_append_left _ hq))⟩
end K1

namespace K1
open PySem PySem.Spec PyProof.Rows L2 Own
/-! ### a generator's own lists; a slice, where it stands -/
theorem kt_upd {H : Hp} {q : Addr} {xs : List V} {o : HO} (h : H q = some (.lst xs)) : KT H (upd H q o) := fun b u f e => by
  rw [upd_ne fun z => by
    rw [z, h] at e
    cases e
    rcases f with ⟨_, z⟩ | ⟨_, _, z⟩ <;> cases z]
  exact e
theorem kt_hide {H : Hp} {q : Addr} {xs : List V} (h : H q = some (.lst xs)) : KT H (hideL H [q]) := fun b u f e => by
  rw [hideL_out fun z => by
    rw [List.mem_singleton.mp z, h] at e
    cases e
    rcases f with ⟨_, z⟩ | ⟨_, _, z⟩ <;> cases z]
  exact e
theorem kt_merge {H Hc : Hp} {q : Addr} {xs : List V} (h : H q = some (.lst xs)) (k : KT (hideL H [q]) Hc) : KT H (mergeL H [q] Hc) := fun b u f e => by
  have nb : b ∉ [q] := fun z => by
    rw [List.mem_singleton.mp z, h] at e
    cases e
    rcases f with ⟨_, z⟩ | ⟨_, _, z⟩ <;> cases z
  rw [mergeL_out nb]
  exact k b u f (by rw [hideL_out nb]; exact e)
def rSlA (L : Nat) (K : PySem.W.Frag) : V → Option Int → Option Int → Hp → VK → Prop := fun x lo hi H Q => ∃ a xs, x = .ref a ∧ SqL K H a xs ∧ ∀ p, L < p → H p = none → Q (.ref p) (upd H p (.lst (cutV xs lo hi)))
theorem sl_listA {X : Cx} : SlR X (rSlA X.env.locals X.K) := by
  intro pins s σ H x v vl vu lo hi sl Q I rx hs pl pu ⟨a, xs, ex, hx, q⟩
  subst ex
  cases rx
  obtain ⟨its, rv, ht, few⟩ := I.list hx
  have len := rv.length
  refine ⟨"list", _, slot_list_getitem.lookup, ht.isList.typeIs, wpAny_getItem_list_slice ht.isList hs pl pu .none (by simp) ?_ (by rw [List.size_toArray] <;> omega)⟩
  rw [slicePick_cut, ← len]
  have laid := I.laid (t' := s.toks) (o := .lst (cutV xs lo hi)) (fun b ob q => Heap.get?_push_of_some _ q) (Nat.le_refl _) ⟨Nat.le_trans (cutV_length xs lo hi) few, _, 0, (rv.drop (HT.sIx xs.length 0 lo)).take (HT.sIx xs.length xs.length hi - HT.sIx xs.length 0 lo), Heap.get?_push_size _ rfl⟩
  exact ⟨.ref s.heap.objs.size, _, laid, rfl, q _ I.lt (I.hok.fresh (Nat.le_refl _))⟩
theorem cutV_one (x : V) (r : List V) : cutV (x :: r) (some 1) none = r := by
  have e1 : HT.sIx (x :: r).length 0 (some 1) = 1 := by
    rw [show (some 1 : Option Int) = some ((1 : Nat) : Int) from rfl, HT.sIx_nat]
    show min 1 (r.length + 1) = 1
    omega
  unfold cutV
  rw [e1, HT.sIx_none]
  show List.take (r.length + 1 - 1) r = r
  rw [Nat.add_sub_cancel, List.take_length]
end K1

namespace K1
open PySem PySem.Spec PyProof.Rows L2 Own
/-! ### data while a generator sleeps -/
mutual
theorem flatD_of : ∀ (d : PyData), noList d = true → flatD d = true
  | .none, _ => rfl
  | .bool _, _ => rfl
  | .int _, _ => rfl
  | .str _, _ => rfl
  | .tuple ds, h => flatL_of ds h
  | .list _, h => absurd h (fun z => nomatch z)
  | .dict _, _ => rfl
theorem flatL_of : ∀ (ds : List PyData), noListAll ds = true → flatD.flatL ds = true
  | [], _ => rfl
  | d :: r, h => by
    obtain ⟨h1, h2⟩ := Bool.and_eq_true_iff.mp h
    show (flatD d && flatD.flatL r) = true
    rw [flatD_of d h1, flatL_of r h2]
    rfl
end
theorem dp_kt {K : PySem.W.Frag} {H H' : Hp} (s : KT H H') {v : V} {d : PyData} (h : Dp K H v d) (n : noList d = true) : Dp K H' v d := dp_ktF s h (flatD_of d n)
theorem dpAll_kt {K : PySem.W.Frag} {H H' : Hp} (s : KT H H') {vs : List V} {ds : List PyData} (h : DpAll K H vs ds) (n : noListAll ds = true) : DpAll K H' vs ds := dpAll_ktF s h (flatL_of ds n)
end K1

namespace K1
open PySem PySem.Spec PyProof.Rows L2 Own LamX
/-! ### passage -/
theorem stat_tree {ns : List Str} {T : Tb} {f : Int} {n : Nat} : ∀ (gs : List (List Clause)) (d : PyData) (zs : List Str), (∀ cs ∈ gs, GuardK ns n cs) → TreeK ns d → ∀ o ∈ (statD T f n gs d zs).1, ∀ y, o = some y → TreeK ns y
  | [], _, _, _, _ => fun o h => nomatch h
  | cs :: r, d, zs, hg, td => fun o ho y hy => by
    subst hy
    cases e : outD (runD T f n cs d zs).1.1 (runD T f n cs d zs).1.2 with
    | none =>
      rw [stat_none e] at ho
      cases List.mem_singleton.mp ho
    | some x =>
      have tx := run_out (hg cs (List.mem_cons_self ..)) td e
      rw [stat_some e] at ho
      rcases List.mem_cons.mp ho with z | z
      · cases z
        exact tx
      · exact stat_tree r x _ (fun c hc => hg c (List.mem_cons_of_mem _ hc)) tx _ z y rfl
def optDp_kt {K : PySem.W.Frag} {H H' : Hp} (s : KT H H') {v : V} : ∀ {o : Option PyData}, OptDp K H v o → flatO o → OptDp K H' v o
  | none, h, _ => h
  | some _, h, n => dp_kt s h n
theorem tabs_hide {TT : List (Addr × Str)} {H : Hp} {p : Addr} {xs : List V} (t : Tabs TT H) (h : H p = some (.lst xs)) : Tabs TT (hideL H [p]) := fun q hq => by
  have out : ∀ {b : Addr} {o : HO}, H b = some o → (∀ xs, o ≠ .lst xs) → hideL H [p] b = some o := fun {b o} e n => by
    rw [hideL_out fun z => by
      rw [List.mem_singleton.mp z, h] at e
      cases e
      exact n xs rfl]
    exact e
  obtain ⟨ps, h1, h2, h3⟩ := t q hq
  refine ⟨ps, out h1 (fun _ z => nomatch z), h2, fun pos cv e => ?_⟩
  obtain ⟨c, e1, e2⟩ := h3 pos cv e
  exact ⟨c, e1, out e2 fun xs z => by
    unfold CodeO at z
    cases z⟩
/-- what passage gives, in order -/
def pasJ (TT : List (Addr × Str)) (K : PySem.W.Frag) (T : Tb) (n : Nat) (gs : List (List Clause)) (d : PyData) : GJ :=
  ⟨(statD T 0 n gs d []).1.length, fun i H x H' => KeepW (fun _ => False) H H' ∧ (Tabs TT H → Tabs TT H') ∧ ∃ o, (statD T 0 n gs d []).1[i]? = some o ∧ OptDp K H' x o, fun H H' => KeepW (fun _ => False) H H' ∧ (Tabs TT H → Tabs TT H')⟩
def spPsg (C : Addr) (TT : List (Addr × Str)) (K : PySem.W.Frag) (n : Nat) : SpY := fun vs H J => ∃ x vg vt ls ls' T gs d, vs = [.ref x, vg, vt] ∧ KIn C H x ls ls' T ∧ Tabs TT H ∧ star ∉ nms ls ∧ (nms ls).length ≤ 60 ∧ Dp K H vg (.tuple (gs.map encG)) ∧ Fit (.tuple (gs.map encG)) ∧ ndD (.tuple (gs.map encG)) ≤ 10000000 ∧ stackD (nms ls) (.tuple (gs.map encG)) = true ∧ (∀ cs ∈ gs, GuardK (nms ls) n cs) ∧ gs.length ≤ 1000 ∧
  Dp K H vt d ∧ TreeK (nms ls) d ∧ Fit d ∧ ndD d ≤ 1000000 ∧ treeD (nms ls) d = true ∧ SizeOk T 0 n gs d [] ∧ J = pasJ TT K T n gs d
abbrev nPas : List Str := ["kinds", "stack", "tree", "outcome"]
theorem scPas : GScope nPas ["kinds", "stack", "tree"] (defScope sPassage) := ⟨rfl, rfl, rfl, by decide +kernel, rfl, by decide +kernel, by decide +kernel⟩
section
variable {P : Program} {w : World} {K : PySem.W.Frag} {mg : Str → Option Value} {base : Heap}
/-- the body, read -/
def tPas (C C2 : Addr) (TT : List (Addr × Str)) (K : PySem.W.Frag) (n : Nat) (L : Nat) (J : GJ) : TG2 :=
  tThen2 (tPl (tDrop (tCall (spCheckRun C K) [] E0 (tCons (tVar 0) (tCons (tVar 1) (tCons (tVar 2) tNil))))))
  (tThen2 (tFor2 (iList K (tSl (rSlA L K) (tCall (spRunStack C C2 TT K n) [] E0 (tCons (tVar 0) (tCons (tVar 1) (tCons (tVar 2) (tCons (tMake C2 (spNumInit C2) [] E0 (tCons (tC (.int 0)) tNil)) tNil))))) (tPart (tC (.int 1))) tNoPart)) (gName 3)
    (tThen2 (tYield2 J L (tVar 3)) tN2)) tN2)
theorem pas_body {C C2 f fK fS fI : Addr} {cdv : Value} {dK dS dI : FuncData} {TT : List (Addr × Str)} {n j : Nat} (hj : 6 ≤ j) {A : Around} {outer : List Env} {L a : Addr} {go : Obj} {J : GJ} {pl : List Addr} (hc : Calm A) (hr : Room j (A.deeper (envOfC "passage" (defScope sPassage) L f cdv)))
    (ok : GB.Ok ⟨P, w, K, mg, base, nPas, "passage", defScope sPassage, f, cdv, A, outer, L, a, go⟩)
    (GK : FnOk P w K mg base CX0 6 fK dK ["kinds", "stack", "tree"] (spCheckRun C K)) (kK : PySem.W.keepIn K (.ref fK) = true) (bK : Binds K dK ["kinds", "stack", "tree"] []) (mK : mg "_check" = some (.ref fK))
    (GS : FnG P w K mg base j fS dS ["kinds", "stack", "tree", "numbers"] (spRunStack C C2 TT K n)) (kS : PySem.W.keepIn K (.ref fS) = true) (bS : Binds K dS ["kinds", "stack", "tree", "numbers"] []) (mS : mg "run_stack" = some (.ref fS))
    (M : Mk K C2 fI) (GI : FnOk P w K mg base CX0 1 fI dI ["self", "first"] (spNumInit C2)) (bI : Binds K dI ["self", "first"] []) (mI : mg "Numbers" = some (.ref C2)) :
    G2s ⟨P, w, K, mg, base, nPas, "passage", defScope sPassage, f, cdv, A, outer, L, a, go⟩ J pl (defBody sPassage) (tPas C C2 TT K n L J) :=
  have hr2 : Room 2 _ := hr.mono (by omega)
  have hr6 : Room 6 _ := hr.mono (by omega)
  g2s_cons (g2_ps ok fun s0 H0 => ps_expr (pe_call GK hr6 (by rfl) mK kK bK .nil pass0 (pa_cons (pv 0) (pa_cons (pv 1) (pa_cons (pv 2) pa_nil)))))
  (g2s_one (g2_for ok (fun s0 H0 => pi_list (pe_slice sl_listA (pe_callG (E := fun _ _ _ => False) GS (hc.deeper _) hr (by rfl) mS kS bS (pa_cons (pv 0) (pa_cons (pv 1) (pa_cons (pv 2) (pa_cons (pe_make M GI hr2 (by rfl) mI bI .nil pass0 (pa_cons pe_int pa_nil)) pa_nil))))) (po_some pe_int) po_none)) (fun s0 H0 => pg_name (i := 3) scPas.nd rfl (Or.inl rfl))
    (g2s_one (g2_yield ok (fun s0 H0 => pv 3) rfl rfl))))
theorem pas_spec {C C2 : Addr} {TT : List (Addr × Str)} {n L : Nat} {x : Addr} {vg vt : V} {ls ls' : List Ln} {T : Tb} {gs : List (List Clause)} {d : PyData} {Hw : Hp} (kin : KIn C Hw x ls ls' T) (tabs : Tabs TT Hw) (nst : star ∉ nms ls) (few : (nms ls).length ≤ 60) (hg : Dp K Hw vg (.tuple (gs.map encG)))
    (fg : Fit (.tuple (gs.map encG))) (bg : ndD (.tuple (gs.map encG)) ≤ 10000000) (sg : stackD (nms ls) (.tuple (gs.map encG)) = true) (gk : ∀ cs ∈ gs, GuardK (nms ls) n cs) (lg : gs.length ≤ 1000) (hd : Dp K Hw vt d) (td : TreeK (nms ls) d) (fd_ : Fit d) (bd : ndD d ≤ 1000000) (ttd : treeD (nms ls) d = true) (so : SizeOk T 0 n gs d []) :
    tPas C C2 TT K n L (pasJ TT K T n gs d) (endE (pasJ TT K T n gs d)) 0 Hw (L2.start nPas [.ref x, vg, vt]) Hw := by
  refine ⟨_, rfl, _, rfl, _, rfl, x, vg, vt, ls, ls', T, _, d, rfl, kin, hg, fg, bg, sg, hd, fd_, bd, ttd, fun H2 s12 => ?_⟩
  refine ⟨_, rfl, _, rfl, _, rfl, fun y dx ny ndx nxy => ?_⟩
  have sm : Same H2 (upd (upd H2 dx (.own y)) y (.ins C2 dx [])) := (same_upd ndx).trans (same_upd (by rw [upd_ne (fun z => nxy z.symm)]; exact ny))
  have hy := upd_same (H := upd H2 dx (.own y)) (a := y) (o := .ins C2 dx [])
  generalize upd (upd H2 dx (.own y)) y (.ins C2 dx []) = Hm at sm hy ⊢
  refine ⟨y, 0, dx, rfl, hy, fun H3 l keep nl num => ⟨rfl, ?_⟩⟩
  have s3 : Same H2 H3 := fun b o e => keep b o (fun z => by rw [z, ny] at e; cases e) (sm b o e)
  have s13 := s12.trans s3
  have nl2 : H2 l = none := sm.free nl
  refine ⟨x, vg, vt, y, ls, ls', T, K1.noT H2, l, 0, [], gs, d, rfl, (kin.same s12).kb s3 nl2, tabs_same tabs s13, nst, few, dp_same s13 hg, gk, lg, dp_same s13 hd, td, so, num, fun H4 q us kw tb nu hq hus oq => ?_⟩
  have kw4 : KeepW (fun _ => False) Hw H4 := kw.own s13 fun b hb => .inr (by rw [show b = l from hb]; exact s12.free nl2)
  obtain ⟨u0, outs, rfl, hou⟩ : ∃ u0 outs, us = u0 :: outs ∧ Paired (OptDp K H4) outs (statD T 0 n gs d []).1 := by
    cases hus with
    | cons _ h => exact ⟨_, _, rfl, h⟩
  refine ⟨1, rfl, q, _, rfl, SqL.of hq, fun p hLp np => ?_⟩
  rw [cutV_one]
  have s5 := same_upd (o := .lst outs) np
  have hp5 := upd_same (H := H4) (a := p) (o := .lst outs)
  generalize upd H4 p (.lst outs) = H5 at s5 hp5 ⊢
  have kw5 : KeepW (fun _ => False) Hw H5 := kw4.trans (KeepW.of s5)
  have tb5 := tabs_same tb s5
  have own : ∀ o, Hw p = some o → ∃ ps, o = .tbl ps := fun o e => Classical.byContradiction fun h => by
    have z := kw4.all p o e (fun ps z => h ⟨ps, z⟩) (.inl id)
    rw [np] at z
    cases z
  have st := stat_tree (T := T) (f := 0) gs d [] gk td
  have ou5 : Paired (OptDp K H5) outs (statD T 0 n gs d []).1 := paired_impM (fun _ o m z => optDp_kt (KT.of s5) z (flatO_tree (st o m))) hou
  have lo : outs.length = (statD T 0 n gs d []).1.length := Paired.length ou5
  generalize hS : (statD T 0 n gs d []).1 = S at st ou5 lo
  have hide : ∀ {Hc H : Hp}, H p = some (.lst outs) → (∀ o, Hc p = some o → ∃ ps, o = .tbl ps) → KeepW (fun _ => False) Hc H → (Tabs TT Hc → Tabs TT H) → SRel Hc H ∧ KeepW (fun _ => False) Hc (hideL H [p]) ∧ (Tabs TT Hc → Tabs TT (hideL H [p])) := fun {Hc H} hp ho kw tb => by
    have ne : ∀ {b : Addr} {o : HO}, Hc b = some o → (∀ ps, o ≠ .tbl ps) → b ∉ [p] := fun {b o} e n z => by
      rw [List.mem_singleton.mp z] at e
      obtain ⟨ps, z⟩ := ho o e
      exact n ps z
    refine ⟨fun b o e n => kw.all b o e n (.inl id), ⟨fun b o e n m => ?_, fun b xs e => ?_⟩, fun t => tabs_hide (tb t) hp⟩
    · rw [hideL_out (ne e n)]
      exact kw.all b o e n m
    · rw [hideL_out (ne e fun _ z => nomatch z)]
      exact kw.lists b xs e
  refine ⟨p, rfl, ⟨_, SqL.of hp5⟩, fun j r i Hc σ H => ∃ v3, σ = [some (.ref x), some vg, some vt, v3] ∧ i = j ∧ j + r = S.length ∧ H p = some (.lst outs) ∧ (∀ o, Hc p = some o → ∃ ps, o = .tbl ps) ∧ KeepW (fun _ => False) Hc H ∧ (Tabs TT Hc → Tabs TT H) ∧ Paired (OptDp K H) outs S,
    ⟨S.length, none, rfl, rfl, Nat.zero_add _, hp5, own, kw5, fun _ => tb5, ou5⟩, ?_⟩
  rintro j r i Hc σ H ⟨v3, rfl, rfl, hr, hp, ho, kw, tb, ou⟩
  obtain ⟨sr, kwh, tbh⟩ := hide hp ho kw tb
  cases r with
  | zero =>
    refine .inl ⟨⟨_, SqL.of hp, by omega⟩, ?_, sr, [p], fun b hb => ?_, kwh, tbh⟩
    · show i = (statD T 0 n gs d []).1.length
      rw [hS]
      omega
    · rw [List.mem_singleton.mp hb]
      exact ⟨⟨_, hp⟩, ho⟩
  | succ r =>
    have hlt : i < outs.length := by omega
    refine .inr ⟨⟨_, outs[i], SqL.of hp, List.getElem?_eq_getElem hlt⟩, _, fun i' Hc' σ' H' z => ⟨r, Nat.lt_succ_self r, z⟩, ?_⟩
    rintro u H' ⟨rfl, hu⟩
    have hu := hu _ (SqL.of hp)
    obtain ⟨o, hs, hod⟩ := paired_getB ou hu
    have fo := flatO_tree (st o (List.mem_of_getElem? hs))
    refine ⟨_, rfl, ?_, sr, [p], fun b hb => ?_, ⟨kwh, tbh, o, ?_, optDp_kt (kt_hide hp) hod fo⟩, fun Hc2 kt hz => ?_⟩
    · show i < (statD T 0 n gs d []).1.length
      rw [hS]
      omega
    · rw [List.mem_singleton.mp hb]
      exact ⟨⟨_, hp⟩, ho, hLp⟩
    · rw [hS]
      exact hs
    have zp := hz p (List.mem_singleton.mpr rfl)
    have sm2 : Same Hc2 (mergeL H' [p] Hc2) := fun b o e => by
      rw [mergeL_out fun z => by
        rw [List.mem_singleton.mp z, zp] at e
        cases e]
      exact e
    refine ⟨_, rfl, rfl, by omega, ?_, fun o e => ?_, KeepW.of sm2, fun t => tabs_same t sm2, paired_impM (fun _ o m z => optDp_kt (kt_merge hp kt) z (flatO_tree (st o m))) ou⟩
    · rw [mergeL_in (List.mem_singleton.mpr rfl)]
      exact hp
    · rw [zp] at e
      cases e
theorem ok_passage {C C2 f fK fS fI : Addr} {fd dK dS dI : FuncData} {TT : List (Addr × Str)} {n j : Nat} (hj : 6 ≤ j) (F : Fun K "passage" "passage" sPassage f fd)
    (GK : FnOk P w K mg base CX0 6 fK dK ["kinds", "stack", "tree"] (spCheckRun C K)) (kK : PySem.W.keepIn K (.ref fK) = true) (bK : Binds K dK ["kinds", "stack", "tree"] []) (mK : mg "_check" = some (.ref fK))
    (GS : FnG P w K mg base j fS dS ["kinds", "stack", "tree", "numbers"] (spRunStack C C2 TT K n)) (kS : PySem.W.keepIn K (.ref fS) = true) (bS : Binds K dS ["kinds", "stack", "tree", "numbers"] []) (mS : mg "run_stack" = some (.ref fS))
    (M : Mk K C2 fI) (GI : FnOk P w K mg base CX0 1 fI dI ["self", "first"] (spNumInit C2)) (bI : Binds K dI ["self", "first"] []) (mI : mg "Numbers" = some (.ref C2)) :
    GFn2 P w K mg base Calm (j + 1) f fd ["kinds", "stack", "tree"] (spPsg C TT K n) := by
  obtain ⟨oc, od, kV, doc, pm, an, cdv, ct, osl, rfl, lk, hcd⟩ := F.ex
  refine gfn2_of lk hcd scPas (fun n => rfl) (fun vs H J h => ?_) fun A outer L a go vs H J pl hc hr ok h => ?_
  · obtain ⟨x, vg, vt, ls, ls', T, gs, d, rfl, _⟩ := h
    rfl
  · obtain ⟨x, vg, vt, ls, ls', T, gs, d, rfl, kin, tabs, nst, few, hg, fg, bg, sg, gk, lg, hd, td, fd_, bd, ttd, so, rfl⟩ := h
    exact ⟨tPas C C2 TT K n L _, pas_body hj hc hr ok GK kK bK mK GS kS bS mS M GI bI mI, fun Hw hw => pas_spec (kin.same hw) (tabs_same tabs hw) nst few (dp_same hw hg) fg bg sg gk lg (dp_same hw hd) td fd_ bd ttd so⟩
end
end K1

namespace K1
open PySem PySem.Spec PyProof.Rows L2 Own
section
variable {P : Program} {w : World} {K : PySem.W.Frag} {mg : Str → Option Value} {base : Heap}
end
end K1

namespace K1
open PySem PySem.Spec PyProof.Rows L2 Own
/-! ### tuples cut and joined -/
def rCatW (K : PySem.W.Frag) : R2 := fun x y H Q => ∃ a b xs ys, x = .ref a ∧ y = .ref b ∧ SqT K H a xs ∧ SqT K H b ys ∧ xs.length + ys.length ≤ 1000 ∧ ∀ p H', Same H H' → SqT K H' p (xs ++ ys) → Q (.ref p) H'
def rSlW (K : PySem.W.Frag) : V → Option Int → Option Int → Hp → VK → Prop := fun x lo hi H Q => ∃ a xs, x = .ref a ∧ SqT K H a xs ∧ ∀ p H', Same H H' → SqT K H' p (cutV xs lo hi) → Q (.ref p) H'
section
variable {X : Cx}
theorem op_catW : OpR X (binaryOp .Add) (rCatW X.K) := by
  intro pins s σ H x y v u Q I rx ry h
  obtain ⟨a, b, xs, ys, ex, ey, ha, hb, hz, q⟩ := h
  refine op_catA pins s σ H x y v u Q I rx ry ⟨a, b, xs, ys, ex, ey, ha, hb, by rw [sizeLine_eq]; omega, fun e => ?_, fun _ e => ?_, fun _ _ p np => q p _ (same_upd np) (SqT.of upd_same)⟩
  · subst e
    exact q b H (Same.refl H) hb
  · subst e
    exact q a H (Same.refl H) (by rw [List.append_nil]; exact ha)
theorem sl_tupW : SlR X (rSlW X.K) := by
  intro pins s σ H x v vl vu lo hi sl Q I rx hs pl pu h
  obtain ⟨a, xs, ex, ha, q⟩ := h
  refine sl_tupA pins s σ H x v vl vu lo hi sl Q I rx hs pl pu ⟨a, xs, ex, ha, fun e => ?_, fun _ p np => q p _ (same_upd np) (SqT.of upd_same)⟩
  refine q a H (Same.refl H) ?_
  have c : cutV xs lo hi = xs := by
    unfold cutV
    rw [e.1, e.2, List.drop_zero, Nat.sub_zero, List.take_length]
  rw [c]
  exact ha
end
theorem cut_to (xs : List V) (k : Nat) (h : k ≤ xs.length) : cutV xs none (some ((k : Nat) : Int)) = xs.take k := cutV_lo xs k h
theorem cut_from (xs : List V) (k : Nat) (h : k ≤ xs.length) : cutV xs (some ((k : Nat) : Int)) none = xs.drop k := by
  unfold cutV
  rw [HT.sIx_none, HT.sIx_nat, Nat.min_eq_left h, List.take_of_length_le]
  rw [List.length_drop]
  exact Nat.le_refl _
end K1

namespace K1
open PySem PySem.Spec PyProof.Rows L2 Own
/-! ### a generator's def called by names -/
def yCallK (n : Nat) (sp : SpY) (gV : List V → List V) (tk : TA) : TGI := fun σ H R => tk σ H fun zs H1 => zs.length = n ∧ ∃ J, sp (gV zs) H1 J ∧ R J H1
section
variable {X : Cx} {pre : Around → Prop} {k : Nat} {f : Addr} {fd : FuncData} {ps ks : List Str} {sp : SpY} {x : Str} {p pos : Pos}
theorem py_callK {kws : List Keyword} {g : List Value → List Value → List Value} {gV : List V → List V → List V} {tk : TA} (F : GFn2 X.prog X.w X.K X.mg X.base pre k f fd ps sp) (hr : X.A.depth < recursionLimit) (hg : Gl X x) (hm : X.mg x = some (.ref f)) (hk : PySem.W.keepIn X.K (.ref f) = true) (hb : KBn X.K fd ps 0 ks g gV) (hkw : PK X kws tk)
    (hal : (backToKw pos (keywordEach kws X.env)).all (·.1.isSome) = true := by rfl) (hks : (backToKw pos (keywordEach kws X.env)).filterMap (·.1) = ks := by rfl) (hdb : (x == ("__debug__" : Str)) = false := by decide)
    (hno : ((backTo pos (starEach [] X.env)).any (·.1) || (backToKw pos (keywordEach kws X.env)).any (·.1.isNone)) = false := by rfl) : PY X pre k (.Call (.Name x p) [] kws pos) (yCallK ks.length sp (gV []) tk) := by
  refine ⟨fun pins s σ H R I h => wpAny_Call_Name_kw (ld_glob I hg hm ?_ hdb)⟩
  refine PySem.W.callWith_KW0 (h₀ := X.base) (first := []) I.ok.mod.kin hk hal (thn (hkw.run pos pins s σ H _ I h) fun ws s2 hw => ?_) hno
  obtain ⟨zs, H2, I2, rz, l, J, q, hR⟩ := hw
  refine ⟨I2.kIn, ?_⟩
  rw [hks]
  refine wpAny_call (codeAny_mono (F.run X.A X.stack s2 H2 _ (g [] ws) (gV [] zs) J hr I2.env0 (hb.to s2 [] ws I2.kIn rfl (rz.length.symm.trans l)) (hb.rel .nil rz) q) fun z s' hz => ?_)
  match z, hz with
  | .error _, hz => exact hz.elim
  | .ok (.ret u), hz => exact ⟨H2, s2, J, I2, hz, hR⟩
  | .ok .next, hz => exact hz.elim
  | .ok .brk, hz => exact hz.elim
  | .ok .cont, hz => exact hz.elim
end
end K1

namespace K1
open PySem PySem.Spec PyProof.Rows L2 Own LamX
/-! ### stations and the pieces of a stack -/
section
variable {T : Tb} {f : Int} {n : Nat}
theorem stat_at : ∀ (gs : List (List Clause)) (d : PyData) (zs : List Str) (i : Nat), i < (statD T f n gs d zs).1.length → (statD T f n gs d zs).1[i]? = some (handD T f n (gs.take (i + 1)) d zs)
  | [], d, zs, i, h => absurd h (Nat.not_lt_zero _)
  | cs :: r, d, zs, i, h => by
    rw [List.take_succ_cons, handD]
    cases e : outD (runD T f n cs d zs).1.1 (runD T f n cs d zs).1.2 with
    | none =>
      rw [stat_none e] at h ⊢
      have h : i < 1 := h
      obtain rfl : i = 0 := by omega
      rfl
    | some y =>
      rw [stat_some e] at h ⊢
      cases i with
      | zero =>
        show some (some y) = some (handD T f n (r.take 0) y _)
        rw [List.take_zero, handD]
      | succ i => exact stat_at r y _ i (Nat.lt_of_succ_lt_succ h)
theorem stat_len : ∀ (gs : List (List Clause)) (d : PyData) (zs : List Str), (statD T f n gs d zs).1.length ≤ gs.length
  | [], d, zs => Nat.le_refl _
  | cs :: r, d, zs => by
    cases e : outD (runD T f n cs d zs).1.1 (runD T f n cs d zs).1.2 with
    | none =>
      rw [stat_none e]
      show 1 ≤ r.length + 1
      omega
    | some y =>
      rw [stat_some e]
      exact Nat.succ_le_succ (stat_len r y _)
theorem stat_short : ∀ (gs : List (List Clause)) (d : PyData) (zs : List Str), (statD T f n gs d zs).1.length < gs.length → none ∈ (statD T f n gs d zs).1
  | [], d, zs, h => absurd h (Nat.lt_irrefl _)
  | cs :: r, d, zs, h => by
    cases e : outD (runD T f n cs d zs).1.1 (runD T f n cs d zs).1.2 with
    | none =>
      rw [stat_none e]
      exact List.mem_singleton.mpr rfl
    | some y =>
      rw [stat_some e] at h ⊢
      exact List.mem_cons_of_mem _ (stat_short r y _ (Nat.lt_of_succ_lt_succ h))
theorem stat_before : ∀ (gs : List (List Clause)) (d : PyData) (zs : List Str) (i : Nat), i < (statD T f n gs d zs).1.length → none ∉ (statD T f n gs d zs).1.take i
  | [], d, zs, i, h => absurd h (Nat.not_lt_zero _)
  | cs :: r, d, zs, i, h => by
    cases e : outD (runD T f n cs d zs).1.1 (runD T f n cs d zs).1.2 with
    | none =>
      rw [stat_none e] at h ⊢
      have h : i < 1 := h
      obtain rfl : i = 0 := by omega
      exact fun z => nomatch z
    | some y =>
      rw [stat_some e] at h ⊢
      cases i with
      | zero => exact fun z => nomatch z
      | succ i =>
        intro z
        rcases List.mem_cons.mp (show none ∈ some y :: (statD T f n r y _).1.take i from z) with z | z
        · cases z
        · exact stat_before r y _ i (Nat.lt_of_succ_lt_succ h) z
theorem size_take : ∀ (gs : List (List Clause)) (d : PyData) (zs : List Str) (k : Nat), SizeOk T f n gs d zs → SizeOk T f n (gs.take k) d zs
  | [], d, zs, k, h => by rw [List.take_nil]; exact h
  | cs :: r, d, zs, 0, h => trivial
  | cs :: r, d, zs, k + 1, h => ⟨h.1, h.2.1, fun e he => size_take r e _ k (h.2.2 e he)⟩
end
def optD (o : Option PyData) : PyData := o.getD .none
theorem optD_dp {K : PySem.W.Frag} {H : Hp} {v : V} {o : Option PyData} (h : OptDp K H v o) : Dp K H v (optD o) := by
  cases o with
  | none =>
    obtain rfl : v = .non := h
    exact .non
  | some d => exact h
theorem pair_optD {K : PySem.W.Frag} {H : Hp} : ∀ {us : List V} {os : List (Option PyData)}, Paired (OptDp K H) us os → DpAll K H us (os.map optD)
  | _, _, .nil => .nil
  | _, _, .cons h r => .cons (optD_dp h) (pair_optD r)
/-- not too deep -/
def Sh (D : Nat) (o : Option PyData) : Prop := ∀ e, o = some e → okD e = true ∧ e.depth ≤ D
theorem shOpt {D : Nat} {o : Option PyData} (h : Sh D o) : okD (optD o) = true ∧ (optD o).depth ≤ D := by
  cases o with
  | none => exact ⟨rfl, Nat.zero_le _⟩
  | some e => exact h e rfl
theorem shaped_opts {D : Nat} (D6 : D + 1 ≤ 60) {os : List (Option PyData)} (l : os.length ≤ 1000) (h : ∀ o ∈ os, Sh D o) : okD (.list (os.map optD)) = true ∧ SeqAt.shaped (.list (os.map optD)) = true := by
  have h1 : okD (.list (os.map optD)) = true := by
    show (decide ((os.map optD).length ≤ 1000) && okAll (os.map optD)) = true
    rw [List.length_map, decide_eq_true l]
    exact okAll_of fun e he => by
      obtain ⟨o, ho, rfl⟩ := List.mem_map.mp he
      exact (shOpt (h o ho)).1
  refine ⟨h1, shaped_of h1 ?_⟩
  show PyData.depthAll (os.map optD) + 1 ≤ 60
  have : PyData.depthAll (os.map optD) ≤ D := depAll_le fun e he => by
    obtain ⟨o, ho, rfl⟩ := List.mem_map.mp he
    exact (shOpt (h o ho)).2
  omega
theorem none_in {os : List (Option PyData)} (h : none ∈ os) : ((os.map optD).any fun z => PyData.eqv z .none) = true := by
  rw [List.any_map, List.any_eq_true]
  exact ⟨none, h, rfl⟩
theorem none_out {ns : List Str} {os : List (Option PyData)} (t : ∀ o ∈ os, ∀ e, o = some e → TreeK ns e) (h : none ∉ os) : ((os.map optD).any fun z => PyData.eqv z .none) = false := by
  rw [List.any_map, Bool.eq_false_iff]
  intro z
  obtain ⟨o, ho, q⟩ := List.any_eq_true.mp z
  cases o with
  | none => exact h ho
  | some e =>
    rcases (t _ ho e rfl).split with ⟨z, i, rfl, _⟩ | ⟨m, cs, rfl, _⟩ <;> cases q
end K1

namespace K1
open PySem PySem.Spec PyProof.Rows L2 Own LamX
/-! ### guards that raise a leaf of their own for what is left -/
/-- for kinds without bases -/
def plainL (ns : List Str) : List Ln := ns.map fun z => (z, [])
theorem nms_plain {ns : List Str} : nms (plainL ns) = ns := by
  unfold plainL nms
  rw [List.map_map]
  exact List.map_id _
theorem plain_ok {ns : List Str} (ok : ∀ z ∈ ns, NameOk z) (nd : ns.Nodup) (few : ns.length ≤ 7) : LnsOk (plainL ns) := by
  refine ⟨fun l hl => ?_, by rw [nms_plain]; exact nd, by unfold plainL; rw [List.length_map]; exact few, fun i l h => ?_⟩
  · obtain ⟨z, hz, rfl⟩ := List.mem_map.mp hl
    exact ok z hz
  · unfold plainL at h
    rw [List.getElem?_map] at h
    obtain ⟨z, _, rfl⟩ := Option.map_eq_some_iff.mp h
    exact ⟨List.nodup_nil, (fun b hb => nomatch hb), Nat.zero_le _⟩
theorem plain_und {ns : List Str} {TP : Tb} {S : List Str → Prop} {ls' : List Ln} (nd : ns.Nodup) (a : Alike (plainL ns) ls') (h : Tab S ls' TP) : ∀ z ∈ ns, ∀ ws, underD TP ws z = memB ws z := fun z hz ws => by
  obtain ⟨i, hi⟩ := List.mem_iff_getElem?.mp hz
  have hl : (plainL ns)[i]? = some (z, []) := by
    unfold plainL
    rw [List.getElem?_map, hi]
    rfl
  obtain ⟨l', hl', e1, e2⟩ := paired_at a hl
  obtain ⟨y, hy, _, _, u⟩ := h.row i l' hl'
  have ndT : (TP.map (·.1)).Nodup := by rw [h.nms, ← a.nms, nms_plain]; exact nd
  have lk := look_at ndT hy
  have e1 : z = l'.1 := e1
  rw [← e1] at lk
  have m : ∀ x, x ∈ look TP z ↔ x = z := fun x => by
    rw [lk, u x, ← e1]
    refine ⟨fun q => q.elim id fun ⟨b, hb, _⟩ => ?_, .inl⟩
    exact absurd ((e2 b).mpr hb) (fun q => nomatch q)
  unfold underD memB
  rw [Bool.eq_iff_iff, List.any_eq_true, decide_eq_true_iff]
  constructor
  · rintro ⟨x, hx, q⟩
    rw [← (m x).mp (of_decide_eq_true q)]
    exact hx
  · intro q
    exact ⟨z, q, decide_eq_true ((m z).mpr rfl)⟩
def lf (z : Str) (i : Int) : PyData := .tuple [.str z, .int i]
def allD (zs : List Str) : Option PyData := grp "all" (zs.map fun z => lf z 1)
/-- m new leaves around -/
def tow (w : Str) : Nat → Option PyData → Option PyData
  | 0, o => o
  | m + 1, o => some (.tuple [.str "", .tuple (lf w 0 :: (tow w m o).toList)])
/-- m groups around -/
def wrO : Nat → Option PyData → Option PyData
  | 0, o => o
  | m + 1, o => grp "" (wrO m o).toList
def lotG (w : Str) (lot : List Str) : List Clause := [(lot, .tuple [.str "raise", .str w])]
def dropG (w : Str) : List Clause := [([w], .str "drop")]
theorem e_star : ("" : Str) ≠ star := by decide +kernel
theorem all_star : ("all" : Str) ≠ star := by decide +kernel
section
variable {ns : List Str} {w : Str}
theorem tree_lf {z : Str} (i : Int) (h : z ∈ ns) : TreeK ns (lf z i) := .leaf z i h
theorem all_some {zs : List Str} (h : zs ≠ []) : allD zs = some (.tuple [.str "all", .tuple (zs.map fun z => lf z 1)]) := by
  unfold allD grp
  rw [if_neg]
  cases zs with
  | nil => exact absurd rfl h
  | cons z r => exact Bool.false_ne_true
theorem all_tree {zs : List Str} (h : ∀ z ∈ zs, z ∈ ns) : ∀ e, allD zs = some e → TreeK ns e := fun e he => by
  cases zs with
  | nil => cases he
  | cons z r =>
    rw [all_some (List.cons_ne_nil _ _)] at he
    cases he
    exact .group _ _ all_star (fun q => nomatch q) fun c hc => by
      obtain ⟨y, hy, rfl⟩ := List.mem_map.mp hc
      exact tree_lf 1 (h y hy)
theorem kinds_lfs : ∀ zs : List Str, (zs.map fun z => lf z 1).flatMap kindsL = zs
  | [] => rfl
  | z :: r => by
    rw [List.map_cons, List.flatMap_cons, kinds_lfs r]
    show kindsL (.tuple [.str z, .int 1]) ++ r = _
    rw [kinds_leaf]
    rfl
theorem all_kinds {zs : List Str} : ∀ e, allD zs = some e → kindsL e = zs := fun e he => by
  cases zs with
  | nil => cases he
  | cons z r =>
    rw [all_some (List.cons_ne_nil _ _)] at he
    cases he
    rw [kinds_group all_star, kinds_lfs]
theorem tow_tree (hw : w ∈ ns) {o : Option PyData} (ho : ∀ e, o = some e → TreeK ns e) : ∀ m e, tow w m o = some e → TreeK ns e
  | 0, e, he => ho e he
  | m + 1, e, he => by
    cases he
    exact .group _ _ e_star (fun q => nomatch q) fun c hc => by
      rcases List.mem_cons.mp hc with q | q
      · rw [q]
        exact tree_lf 0 hw
      · exact tow_tree hw ho m c (Option.mem_toList.mp q)
theorem tow_kinds {o : Option PyData} {zs : List Str} (ho : ∀ e, o = some e → kindsL e = zs) (hn : o = none → zs = []) : ∀ m e, tow w m o = some e → kindsL e = List.replicate m w ++ zs
  | 0, e, he => ho e he
  | m + 1, e, he => by
    cases he
    rw [kinds_group e_star, List.flatMap_cons]
    show kindsL (.tuple [.str w, .int 0]) ++ _ = _
    rw [kinds_leaf, List.replicate_succ]
    show w :: ((tow w m o).toList.flatMap kindsL) = w :: (List.replicate m w ++ zs)
    congr 1
    cases q : tow w m o with
    | none =>
      cases m with
      | zero =>
        rw [hn q]
        rfl
      | succ m => cases q
    | some y =>
      show kindsL y ++ [] = _
      rw [List.append_nil]
      exact tow_kinds ho hn m y q
theorem fm_opt (p : Str → Bool) (o : Option PyData) : o.toList.filterMap (cutB p) = (o.bind (cutB p)).toList := by
  cases o with
  | none => rfl
  | some y =>
    show List.filterMap (cutB p) [y] = (cutB p y).toList
    rw [List.filterMap_cons]
    cases cutB p y <;> rfl
theorem cut_lf (p : Str → Bool) (z : Str) (i : Int) : cutB p (lf z i) = if p z = true then some (lf z i) else none := cutB_leaf p z i
theorem cut_tow {p : Str → Bool} (hp : p w = true) (o : Option PyData) : ∀ m, (tow w m o).bind (cutB p) = tow w m (o.bind (cutB p))
  | 0 => rfl
  | m + 1 => by
    show cutB p (.tuple [.str "", .tuple (lf w 0 :: (tow w m o).toList)]) = _
    have e : (lf w 0 :: (tow w m o).toList).filterMap (cutB p) = lf w 0 :: (tow w m (o.bind (cutB p))).toList := by
      rw [List.filterMap_cons, cut_lf, if_pos hp, fm_opt, cut_tow hp o m]
    rw [cutB_group, e, if_neg (fun q => nomatch q)]
    rfl
theorem drop_tow {p : Str → Bool} (hp : p w = false) (o : Option PyData) : ∀ m, (tow w m o).bind (cutB p) = wrO m (o.bind (cutB p))
  | 0 => rfl
  | m + 1 => by
    show cutB p (.tuple [.str "", .tuple (lf w 0 :: (tow w m o).toList)]) = _
    have e : (lf w 0 :: (tow w m o).toList).filterMap (cutB p) = (wrO m (o.bind (cutB p))).toList := by
      rw [List.filterMap_cons, cut_lf, if_neg (by rw [hp]; exact Bool.false_ne_true), fm_opt, drop_tow hp o m]
    rw [cutB_group, e]
    show _ = grp "" (wrO m (o.bind (cutB p))).toList
    unfold grp
    cases wrO m (o.bind (cutB p)) <;> rfl
theorem cut_alls (p : Str → Bool) (zs : List Str) : (allD zs).bind (cutB p) = allD (zs.filter p) := by
  have e : ∀ zs : List Str, (zs.map fun z => lf z 1).filterMap (cutB p) = (zs.filter p).map fun z => lf z 1 := by
    intro zs
    induction zs with
    | nil => rfl
    | cons z r ih =>
      rw [List.map_cons, List.filterMap_cons, cut_lf]
      cases h : p z with
      | true =>
        rw [if_pos rfl, List.filter_cons_of_pos h, List.map_cons, ih]
      | false =>
        rw [if_neg Bool.false_ne_true, List.filter_cons_of_neg (by rw [h]; exact Bool.false_ne_true), ih]
  cases zs with
  | nil => rfl
  | cons z r =>
    rw [all_some (List.cons_ne_nil _ _)]
    show cutB p _ = _
    rw [cutB_group, e]
    cases q : (z :: r).filter p with
    | nil => rfl
    | cons y t => rfl
theorem wrap_id {m : Str} {cs : List PyData} {b : Bool} : wrapD b (.tuple [.str m, .tuple cs]) = .tuple [.str m, .tuple cs] := by
  unfold wrapD
  rw [if_neg]
  show ¬ (b && bareD (.tuple [.str m, .tuple cs])) = true
  rw [show bareD (.tuple [.str m, .tuple cs]) = false from rfl, Bool.and_false]
  exact Bool.false_ne_true
theorem tow_grp {zs : List Str} : ∀ m e, tow w m (allD zs) = some e → ∃ a cs, e = .tuple [.str a, .tuple cs]
  | 0, e, he => by
    cases zs with
    | nil => cases he
    | cons z r =>
      have he : allD (z :: r) = some e := he
      rw [all_some (List.cons_ne_nil _ _)] at he
      cases he
      exact ⟨_, _, rfl⟩
  | m + 1, e, he => by
    cases he
    exact ⟨_, _, rfl⟩
theorem all_none {zs : List Str} (h : allD zs = none) : zs = [] := by
  cases zs with
  | nil => rfl
  | cons z r => cases h
variable {T : Tb} (plain : ∀ z ∈ ns, ∀ ws, underD T ws z = memB ws z) (nst : star ∉ ns) (hw : w ∈ ns)
include plain nst hw
/-- one guard that raises a leaf -/
theorem lot_step {lot zs us : List Str} (hz : ∀ z ∈ zs, z ∈ ns) (wl : w ∉ lot) {m : Nat} {e : PyData} (he : tow w m (allD zs) = some e) :
    outD (runD T 0 1 (lotG w lot) e us).1.1 (runD T 0 1 (lotG w lot) e us).1.2 = if zs.filter (memB lot) = [] then some e else tow w (m + 1) (allD (zs.filter fun z => !memB lot z)) := by
  have tre := tow_tree hw (all_tree hz) m e he
  have kin := tow_kinds (w := w) (fun e he => all_kinds (zs := zs) e he) all_none m e he
  obtain ⟨a, cs, rfl⟩ := tow_grp m e he
  have inn : ∀ z ∈ kindsL (.tuple [.str a, .tuple cs]), z ∈ ns := tre.kinds.1
  have t1 : (kindsL (.tuple [.str a, .tuple cs])).filter (underD T lot) = zs.filter (memB lot) := by
    rw [List.filter_congr fun z hz' => plain z (inn z hz') lot, kin, List.filter_append, List.filter_eq_nil_iff.mpr, List.nil_append]
    intro z hz'
    rw [List.eq_of_mem_replicate hz']
    exact fun q => wl (of_decide_eq_true q)
  rw [runD]
  unfold lotG
  have fr : fireD T [(lot, PyData.tuple [.str "raise", .str w])] (kindsL (.tuple [.str a, .tuple cs])) = (if (zs.filter (memB lot)).isEmpty = true then [] else [(PyData.tuple [.str "raise", .str w], zs.filter (memB lot))], (kindsL (.tuple [.str a, .tuple cs])).filter fun z => decide (z ∉ zs.filter (memB lot))) := by
    unfold fireD
    rw [t1]
    rfl
  rw [fr]
  by_cases c : zs.filter (memB lot) = []
  · rw [c]
    simp only [List.isEmpty_nil, if_true]
    rw [wrap_id]
    show outD [] (cutB _ _) = _
    rw [cutB_all tre fun z hz' => ?_]
    · rfl
    · show (memB ((kindsL (.tuple [.str a, .tuple cs])).filter fun z => decide (z ∉ ([] : List Str))) z || noneB z) = true
      rw [Bool.or_eq_true]
      exact .inl (decide_eq_true (List.mem_filter.mpr ⟨hz', decide_eq_true (fun q => nomatch q)⟩))
  · have ne : (zs.filter (memB lot)).isEmpty = false := by
      cases q : zs.filter (memB lot) with
      | nil => exact absurd q c
      | cons _ _ => rfl
    rw [ne, if_neg c]
    simp only [Bool.false_eq_true, if_false]
    rw [wrap_id]
    obtain ⟨z0, hz0⟩ := List.exists_mem_of_ne_nil _ c
    have z0k : z0 ∈ kindsL (.tuple [.str a, .tuple cs]) := by
      rw [kin]
      exact List.mem_append_right _ (List.mem_filter.mp hz0).1
    obtain ⟨y, hy⟩ := cutB_some tre z0k (p := memB (zs.filter (memB lot))) (decide_eq_true hz0)
    have act : actO T 0 (runD T 0 0) (PyData.tuple [.str "raise", .str w]) (cutB (memB (zs.filter (memB lot))) (.tuple [.str a, .tuple cs])) us = (([lf w 0], noneB), us ++ [w]) := by
      rw [hy]
      show actD T 0 (runD T 0 0) (PyData.tuple [.str "raise", .str w]) y us = _
      rw [act_raise, rebS_piece rfl]
      have ws : w ≠ star := fun q => nst (by rw [← q]; exact hw)
      show (((builtG 0 y us (.str w)).2.toList, noneB), (builtG 0 y us (.str w)).1) = _
      unfold builtG
      simp only [if_neg ws]
      rfl
    rw [goF, act, goF]
    show outD ([lf w 0] ++ []) (cutB _ _) = _
    rw [cutB_ext tre (q := fun z => !memB lot z) fun z hz' => ?_]
    · have q := cut_tow (w := w) (p := fun z => !memB lot z) (by
        show (!decide (w ∈ lot)) = true
        rw [decide_eq_false wl]
        rfl) (allD zs) m
      rw [he] at q
      have q : cutB (fun z => !memB lot z) (.tuple [.str a, .tuple cs]) = _ := q
      rw [q, cut_alls]
      rfl
    · show (memB ((kindsL (.tuple [.str a, .tuple cs])).filter fun z => decide (z ∉ zs.filter (memB lot))) z || (noneB z || noneB z)) = !memB lot z
      rw [show (noneB z || noneB z) = false from rfl, Bool.or_false, Bool.eq_iff_iff]
      unfold memB
      rw [decide_eq_true_iff, List.mem_filter, Bool.not_eq_true', decide_eq_true_iff, List.mem_filter, decide_eq_false_iff_not]
      constructor
      · rintro ⟨_, q⟩ r
        rw [kin] at hz'
        rcases List.mem_append.mp hz' with s | s
        · rw [List.eq_of_mem_replicate s] at r
          exact wl r
        · exact q ⟨s, decide_eq_true r⟩
      · exact fun r => ⟨hz', fun q => r (of_decide_eq_true q.2)⟩
/-- the last guard -/
theorem drop_step {zs us : List Str} (hz : ∀ z ∈ zs, z ∈ ns) (wz : w ∉ zs) {m : Nat} {e : PyData} (he : tow w m (allD zs) = some e) :
    outD (runD T 0 1 (dropG w) e us).1.1 (runD T 0 1 (dropG w) e us).1.2 = wrO m (allD zs) := by
  have tre := tow_tree hw (all_tree hz) m e he
  have kin := tow_kinds (w := w) (fun e he => all_kinds (zs := zs) e he) all_none m e he
  obtain ⟨a, cs, rfl⟩ := tow_grp m e he
  have inn : ∀ z ∈ kindsL (.tuple [.str a, .tuple cs]), z ∈ ns := tre.kinds.1
  have t1 : (kindsL (.tuple [.str a, .tuple cs])).filter (underD T [w]) = List.replicate m w := by
    rw [List.filter_congr fun z hz' => plain z (inn z hz') [w], kin, List.filter_append, List.filter_eq_self.mpr, List.filter_eq_nil_iff.mpr, List.append_nil]
    · intro z hz' q
      have q := List.mem_singleton.mp (of_decide_eq_true q)
      rw [q] at hz'
      exact wz hz'
    · intro z hz'
      rw [List.eq_of_mem_replicate hz']
      exact decide_eq_true (List.mem_singleton.mpr rfl)
  have zall : zs.filter (fun z => decide (z ≠ w)) = zs := List.filter_eq_self.mpr fun z hz' => decide_eq_true fun q => wz (by rw [← q]; exact hz')
  rw [runD]
  unfold dropG
  have fr : fireD T [([w], PyData.str "drop")] (kindsL (.tuple [.str a, .tuple cs])) = (if (List.replicate m w).isEmpty = true then [] else [(PyData.str "drop", List.replicate m w)], (kindsL (.tuple [.str a, .tuple cs])).filter fun z => decide (z ∉ List.replicate m w)) := by
    unfold fireD
    rw [t1]
    rfl
  rw [fr]
  cases m with
  | zero =>
    simp only [List.replicate_zero, List.isEmpty_nil, if_true]
    rw [wrap_id]
    show outD [] (cutB _ _) = _
    rw [cutB_all tre fun z hz' => ?_]
    · exact he.symm
    · show (memB ((kindsL (.tuple [.str a, .tuple cs])).filter fun z => decide (z ∉ ([] : List Str))) z || noneB z) = true
      rw [Bool.or_eq_true]
      exact .inl (decide_eq_true (List.mem_filter.mpr ⟨hz', decide_eq_true (fun q => nomatch q)⟩))
  | succ m =>
    simp only [List.replicate_succ, List.isEmpty_cons, Bool.false_eq_true, if_false]
    rw [wrap_id, goF, goF]
    have act : ∀ o, actO T 0 (runD T 0 0) (PyData.str "drop") o us = (([], noneB), us) := fun o => by
      cases o with
      | none => rfl
      | some y =>
        show actD T 0 (runD T 0 0) (PyData.str "drop") y us = _
        rw [act_str, if_pos rfl]
    rw [act]
    show outD ([] ++ []) (cutB _ _) = _
    rw [cutB_ext tre (q := fun z => decide (z ≠ w)) fun z hz' => ?_]
    · have q := drop_tow (w := w) (p := fun z => decide (z ≠ w)) (decide_eq_false fun q => q rfl) (allD zs) (m + 1)
      rw [he] at q
      have q : cutB (fun z => decide (z ≠ w)) (.tuple [.str a, .tuple cs]) = _ := q
      rw [q, cut_alls, zall]
      rfl
    · show (memB ((kindsL (.tuple [.str a, .tuple cs])).filter fun z => decide (z ∉ w :: List.replicate m w)) z || (noneB z || noneB z)) = decide (z ≠ w)
      rw [show (noneB z || noneB z) = false from rfl, Bool.or_false, Bool.eq_iff_iff]
      unfold memB
      rw [decide_eq_true_iff, List.mem_filter, decide_eq_true_iff, decide_eq_true_iff]
      constructor
      · rintro ⟨_, q⟩ r
        exact q (by rw [r]; exact List.mem_cons_self ..)
      · exact fun r => ⟨hz', fun q => by
          rcases List.mem_cons.mp q with s | s
          · exact r s
          · exact r (List.eq_of_mem_replicate s)⟩
end
/-- how many guards take something, and what is left -/
def stepL (lot : List Str) (q : Nat × List Str) : Nat × List Str := (q.1 + (if q.2.filter (memB lot) = [] then 0 else 1), q.2.filter fun z => !memB lot z)
def foldL : List (List Str) → Nat × List Str → Nat × List Str
  | [], q => q
  | lot :: r, q => foldL r (stepL lot q)
theorem foldL_app : ∀ (a b : List (List Str)) (q : Nat × List Str), foldL (a ++ b) q = foldL b (foldL a q)
  | [], _, _ => rfl
  | x :: a, b, q => foldL_app a b (stepL x q)
theorem foldL_sub : ∀ (a : List (List Str)) (q : Nat × List Str), ∀ z ∈ (foldL a q).2, z ∈ q.2
  | [], _, _, h => h
  | x :: a, q, z, h => (List.mem_filter.mp (foldL_sub a (stepL x q) z h)).1
theorem foldL_keep {y : Str} : ∀ (a : List (List Str)) (q : Nat × List Str), (∀ l ∈ a, y ∉ l) → y ∈ q.2 → y ∈ (foldL a q).2
  | [], _, _, h => h
  | x :: a, q, hl, h => foldL_keep a (stepL x q) (fun l hm => hl l (List.mem_cons_of_mem _ hm)) (List.mem_filter.mpr ⟨h, by
    show (!decide (y ∈ x)) = true
    rw [decide_eq_false (hl x (List.mem_cons_self ..))]
    rfl⟩)
section
variable {ns : List Str} {w : Str} {T : Tb} (plain : ∀ z ∈ ns, ∀ ws, underD T ws z = memB ws z) (nst : star ∉ ns) (hw : w ∈ ns)
include plain nst hw
theorem lots_hand : ∀ (lots : List (List Str)) (m : Nat) (zs us : List Str) (e : PyData), (∀ l ∈ lots, w ∉ l) → (∀ z ∈ zs, z ∈ ns) → tow w m (allD zs) = some e →
    (∃ y, handD T 0 1 (lots.map (lotG w)) e us = some y ∧ tow w (foldL lots (m, zs)).1 (allD (foldL lots (m, zs)).2) = some y) ∧ (w ∉ zs → handD T 0 1 (lots.map (lotG w) ++ [dropG w]) e us = wrO (foldL lots (m, zs)).1 (allD (foldL lots (m, zs)).2))
  | [], m, zs, us, e, _, hz, he => by
    refine ⟨⟨e, rfl, he⟩, fun wz => ?_⟩
    show handD T 0 1 [dropG w] e us = wrO m (allD zs)
    rw [handD, drop_step plain nst hw hz wz he]
    cases wrO m (allD zs) <;> rfl
  | lot :: r, m, zs, us, e, hl, hz, he => by
    have st := lot_step plain nst hw (us := us) hz (hl lot (List.mem_cons_self ..)) he
    have hr : ∀ l ∈ r, w ∉ l := fun l hm => hl l (List.mem_cons_of_mem _ hm)
    have hz2 : ∀ z ∈ zs.filter fun z => !memB lot z, z ∈ ns := fun z h => hz z (List.mem_filter.mp h).1
    rw [List.map_cons, List.cons_append, handD, handD, st]
    have eq : ∃ y, (if zs.filter (memB lot) = [] then some e else tow w (m + 1) (allD (zs.filter fun z => !memB lot z))) = some y ∧ tow w (stepL lot (m, zs)).1 (allD (stepL lot (m, zs)).2) = some y := by
      by_cases c : zs.filter (memB lot) = []
      · refine ⟨e, if_pos c, ?_⟩
        unfold stepL
        simp only [if_pos c, Nat.add_zero]
        rw [List.filter_eq_self.mpr fun z hz' => ?_]
        · exact he
        · have q := List.filter_eq_nil_iff.mp c z hz'
          cases h : memB lot z with
          | true => exact absurd h q
          | false => rfl
      · refine ⟨_, if_neg c, ?_⟩
        unfold stepL
        simp only [if_neg c]
        rfl
    obtain ⟨y, e1, e2⟩ := eq
    rw [e1]
    obtain ⟨h1, h2⟩ := lots_hand r (stepL lot (m, zs)).1 (stepL lot (m, zs)).2 (runD T 0 1 (lotG w lot) e us).2 y hr hz2 e2
    exact ⟨h1, fun wz => h2 fun q => wz (List.mem_filter.mp q).1⟩
end
end K1

namespace K1
open PySem PySem.Spec PyProof.Rows L2 Own LamX
/-! ### what is drawn is well formed; what a law holds -/
theorem foldL_one {y : Str} : ∀ (a : List (List Str)) (m : Nat) (zs : List Str), (∀ l ∈ a, y ∉ l) → foldL a (m, zs ++ [y]) = ((foldL a (m, zs)).1, (foldL a (m, zs)).2 ++ [y])
  | [], _, _, _ => rfl
  | x :: a, m, zs, h => by
    have hx := h x (List.mem_cons_self ..)
    have e : stepL x (m, zs ++ [y]) = ((stepL x (m, zs)).1, (stepL x (m, zs)).2 ++ [y]) := by
      unfold stepL
      have f1 : (zs ++ [y]).filter (memB x) = zs.filter (memB x) := by
        rw [List.filter_append, List.filter_cons_of_neg (by show ¬ decide (y ∈ x) = true; rw [decide_eq_false hx]; exact Bool.false_ne_true), List.filter_nil, List.append_nil]
      have f2 : (zs ++ [y]).filter (fun z => !memB x z) = zs.filter (fun z => !memB x z) ++ [y] := by
        rw [List.filter_append, List.filter_cons_of_pos (by show (!decide (y ∈ x)) = true; rw [decide_eq_false hx]; rfl), List.filter_nil]
      simp only [f1, f2]
    show foldL a (stepL x (m, zs ++ [y])) = _
    rw [e]
    exact foldL_one a _ _ fun l hl => h l (List.mem_cons_of_mem _ hl)
theorem foldL_filter : ∀ (a : List (List Str)) (m : Nat) (zs : List Str), ∃ q : Str → Bool, (foldL a (m, zs)).2 = zs.filter q
  | [], _, zs => ⟨fun _ => true, (List.filter_eq_self.mpr fun _ _ => rfl).symm⟩
  | x :: a, m, zs => by
    obtain ⟨q, h⟩ := foldL_filter a (stepL x (m, zs)).1 (stepL x (m, zs)).2
    refine ⟨fun z => q z && !memB x z, ?_⟩
    show (foldL a ((stepL x (m, zs)).1, (stepL x (m, zs)).2)).2 = _
    rw [h]
    show (zs.filter fun z => !memB x z).filter q = _
    rw [List.filter_filter]
theorem filter_back {y : Str} {zs : List Str} (hy : y ∉ zs) (q : Str → Bool) : (zs ++ [y]).filter (memB (zs.filter q ++ [y])) = zs.filter q ++ [y] := by
  rw [List.filter_append, List.filter_cons_of_pos (by show decide (y ∈ zs.filter q ++ [y]) = true; exact decide_eq_true (List.mem_append_right _ (List.mem_singleton.mpr rfl))), List.filter_nil]
  congr 1
  refine List.filter_congr fun z hz => ?_
  show decide (z ∈ zs.filter q ++ [y]) = q z
  rw [Bool.eq_iff_iff, decide_eq_true_iff, List.mem_append, List.mem_filter, List.mem_singleton]
  exact ⟨fun h => h.elim (·.2) fun e => absurd (by rw [← e]; exact hz) hy, fun h => .inl ⟨hz, h⟩⟩
theorem foldL_le : ∀ (a : List (List Str)) (q : Nat × List Str), (foldL a q).1 ≤ q.1 + a.length
  | [], _ => Nat.le_refl _
  | x :: a, q => by
    have h := foldL_le a (stepL x q)
    have h2 : (stepL x q).1 ≤ q.1 + 1 := by
      unfold stepL
      show q.1 + (if _ then 0 else 1) ≤ _
      split <;> omega
    show (foldL a (stepL x q)).1 ≤ q.1 + (a.length + 1)
    omega
def stkG (w : Str) (lts : List (List Str)) : List (List Clause) := lts.map (lotG w) ++ [dropG w]
section
variable {ns : List Str} {w : Str}
theorem base_of (hw : w ∈ ns) : BaseN ns false (.str w) := by
  unfold BaseN
  rw [if_neg Bool.false_ne_true]
  exact ⟨w, hw, rfl⟩
theorem stk_g (nok : ∀ z ∈ ns, NameOk z) (hw : w ∈ ns) {lts : List (List Str)} (each : ∀ l ∈ lts, 1 ≤ l.length ∧ l.length ≤ 5 ∧ ∀ z ∈ l, z ∈ ns) : ∀ cs ∈ stkG w lts, GuardG ns 1 9 65 cs ∧ GuardC ns 1 1 cs ∧ GuardB 2 1 cs := fun cs hcs => by
  have a1 : ActG ns (GuardK ns 0) 7 41 (.tuple [.str "raise", .str w]) := act_g nok (R := fun _ => False) (D := 1) (N := 1) (by decide) (fun _ h => h.elim) (.inr (.inr (.inr (.inl ⟨false, .str w, FormN.base (base_of hw) 2, rfl⟩))))
  have a2 : ActG ns (GuardK ns 0) 7 41 (.str "drop") := act_g nok (R := fun _ => False) (D := 1) (N := 1) (by decide) (fun _ h => h.elim) (.inl rfl)
  have okw := name_ok (nok w hw)
  rcases List.mem_append.mp hcs with q | q
  · obtain ⟨l, hl, rfl⟩ := List.mem_map.mp q
    obtain ⟨l1, l5, lz⟩ := each l hl
    refine ⟨guard_g (n := 0) (D := 7) (N := 41) (cs := lotG w l) nok (by show 1 ≤ 900; decide) fun c hc => ?_, ⟨Nat.le_refl _, fun c hc => ?_⟩, ⟨by show 1 ≤ 900; decide, fun c hc => ?_⟩⟩ <;> rw [List.mem_singleton.mp hc]
    · exact ⟨l1, by show l.length ≤ 20; omega, lz, a1⟩
    · exact ⟨fun x e => ⟨false, by
        have e := PyData.tuple.inj e
        rw [← (List.cons.inj (List.cons.inj e).2).1]
        exact FormN.base (base_of hw) 2⟩, fun cs e => by
        have e := PyData.tuple.inj e
        cases (List.cons.inj (List.cons.inj e).2).1⟩
    · exact ⟨fun x e => by
        have e := PyData.tuple.inj e
        rw [← (List.cons.inj (List.cons.inj e).2).1]
        exact ⟨okw, Nat.zero_le _⟩, fun cs e => by
        have e := PyData.tuple.inj e
        cases (List.cons.inj (List.cons.inj e).2).1⟩
  · rw [List.mem_singleton.mp q]
    refine ⟨guard_g (n := 0) (D := 7) (N := 41) (cs := dropG w) nok (by show 1 ≤ 900; decide) fun c hc => ?_, ⟨Nat.le_refl _, fun c hc => ?_⟩, ⟨by show 1 ≤ 900; decide, fun c hc => ?_⟩⟩ <;> rw [List.mem_singleton.mp hc]
    · exact ⟨Nat.le_refl _, by show 1 ≤ 20; decide, fun z hz => by rw [List.mem_singleton.mp hz]; exact hw, a2⟩
    · exact ⟨(fun x e => nomatch e), (fun cs e => nomatch e)⟩
    · exact ⟨(fun x e => nomatch e), (fun cs e => nomatch e)⟩
theorem all_g (nok : ∀ z ∈ ns, NameOk z) {zs : List Str} (h : ∀ z ∈ zs, z ∈ ns) (l1 : 1 ≤ zs.length) (l9 : zs.length ≤ 900) : TreeG ns 3 (zs.length * 3 + 3) (.tuple [.str "all", .tuple (zs.map fun z => lf z 1)]) := by
  have g := group_gL (ns := ns) (D := 1) (N := 3) (m := "all") (cs := zs.map fun z => lf z 1) (by decide +kernel) (by decide +kernel) all_star (by rw [List.length_map]; exact l1) (by rw [List.length_map]; omega) fun c hc => by
    obtain ⟨z, hz, rfl⟩ := List.mem_map.mp hc
    exact leaf_g nok (h z hz) (by decide)
  rw [List.length_map] at g
  exact g
end
/-- what handled and passage ask of these stacks -/
theorem stk_runs {C : Addr} {TT : List (Addr × Str)} {K : PySem.W.Frag} {H : Hp} {x : Addr} {vg vt : V} {ls ls' : List Ln} {T : Tb} {lts : List (List Str)} {zs : List Str} {w : Str} (nok : ∀ z ∈ nms ls, NameOk z) (l7 : (nms ls).length ≤ 7) (kin : KIn C H x ls ls' T) (tabs : Tabs TT H)
    (hw : w ∈ nms ls) (each : ∀ l ∈ lts, 1 ≤ l.length ∧ l.length ≤ 5 ∧ ∀ z ∈ l, z ∈ nms ls) (l5 : lts.length ≤ 5) (hg : Dp K H vg (.tuple ((stkG w lts).map encG))) (hz : ∀ z ∈ zs, z ∈ nms ls) (z1 : 1 ≤ zs.length) (z7 : zs.length ≤ 7) (hd : Dp K H vt (.tuple [.str "all", .tuple (zs.map fun z => lf z 1)])) :
    (KIn C H x ls ls' T ∧ Tabs TT H ∧ star ∉ nms ls ∧ (nms ls).length ≤ 60 ∧ Dp K H vg (.tuple ((stkG w lts).map encG)) ∧ Fit (.tuple ((stkG w lts).map encG)) ∧ ndD (.tuple ((stkG w lts).map encG)) ≤ 10000000 ∧ stackD (nms ls) (.tuple ((stkG w lts).map encG)) = true ∧ (∀ cs ∈ stkG w lts, GuardK (nms ls) 1 cs) ∧ (stkG w lts).length ≤ 1000) ∧
    (Dp K H vt (.tuple [.str "all", .tuple (zs.map fun z => lf z 1)]) ∧ TreeK (nms ls) (.tuple [.str "all", .tuple (zs.map fun z => lf z 1)]) ∧ Fit (.tuple [.str "all", .tuple (zs.map fun z => lf z 1)]) ∧ ndD (.tuple [.str "all", .tuple (zs.map fun z => lf z 1)]) ≤ 1000000 ∧ treeD (nms ls) (.tuple [.str "all", .tuple (zs.map fun z => lf z 1)]) = true ∧ SizeOk T 0 1 (stkG w lts) (.tuple [.str "all", .tuple (zs.map fun z => lf z 1)]) []) ∧
    BSz 40 (handD T 0 1 (stkG w lts) (.tuple [.str "all", .tuple (zs.map fun z => lf z 1)]) []) ∧ noList (.tuple ((stkG w lts).map encG)) = true ∧ (stkG w lts).length = lts.length + 1 := by
  have gg := stk_g nok hw each
  have len : (stkG w lts).length = lts.length + 1 := by
    unfold stkG
    rw [List.length_append, List.length_map]
    rfl
  obtain ⟨a, b, c, e⟩ := stack_g (ns := nms ls) (gs := stkG w lts) (by omega) fun cs hcs => (gg cs hcs).1
  have ag := all_g nok hz z1 (by omega)
  have nst := nms_star nok
  have and_ := ag.nd
  have lvz : lv (.tuple [.str "all", .tuple (zs.map fun z => lf z 1)]) = zs.length := by
    unfold lv
    rw [kinds_group all_star, kinds_lfs]
  have q : 3 * (7 + (stkG w lts).length * (9 * 1 ^ 1)) * (3 + (stkG w lts).length * (2 + 2 * 1) + 1) ≤ 800000 ∧ 0 + (stkG w lts).length * (9 * 1 ^ 1) ≤ 400000 ∧ 3 + (stkG w lts).length * (2 + 2 * 1) ≤ 40 := by
    rw [len]
    generalize lts.length = z at l5 ⊢
    obtain rfl | rfl | rfl | rfl | rfl | rfl : z = 0 ∨ z = 1 ∨ z = 2 ∨ z = 3 ∨ z = 4 ∨ z = 5 := by omega
    all_goals exact ⟨by decide, by decide, by decide⟩
  obtain ⟨n1, n2, _⟩ := stack_num2 nst (T := T) (f := 0) (c := 1) (n := 1) (F := 2) (by decide) (by decide) (stkG w lts) (.tuple [.str "all", .tuple (zs.map fun z => lf z 1)]) [] 3 7 0 (fun cs hcs => ⟨(gg cs hcs).1.k, (gg cs hcs).2⟩) ag.tree ag.ok ag.dep (by decide) (by rw [lvz]; exact z7) (Nat.le_refl _) q.1 q.2.1
  have m65 : (stkG w lts).length * 65 ≤ 6 * 65 := Nat.mul_le_mul_right _ (by omega)
  refine ⟨⟨kin, tabs, nst, by omega, hg, ⟨a, by omega⟩, by omega, e, fun cs hcs => (gg cs hcs).1.k, by omega⟩, ⟨hd, ag.tree, ag.fit (by decide), by omega, ag.is, NumOk.size _ _ _ n1 fun cs hcs => ?_⟩, fun y hy => ?_, ?_, len⟩
  · have z := (gg cs hcs).1.nd
    have z : ndAll (cs.map encC) + 1 ≤ 65 := z
    omega
  · obtain ⟨b1, b2⟩ := n2 y hy
    exact ⟨b1, by omega⟩
  · exact noListAll_of fun e he => by
      obtain ⟨cs, hcs, rfl⟩ := List.mem_map.mp he
      exact (gg cs hcs).1.flat
/-- what goes on through the turns: the source, the labels, the program's table of kinds -/
structure Hd (K : PySem.W.Frag) (C : Addr) (TT : List (Addr × Str)) (B : Hp) (s L x : Addr) (ls ls' : List Ln) (T : Tb) (H : Hp) : Prop where
  src : Src H s
  tabs : Tabs TT H
  lab : H L = some (.lst ((nms ls).map V.str))
  kin : KIn C B x ls ls' T
  sub : Same B H
  nt : ∀ b o, B b = some o → ∀ ps, o ≠ HO.tbl ps
  ns : B s = none
section
variable {K : PySem.W.Frag} {C : Addr} {TT : List (Addr × Str)} {B : Hp} {s L x : Addr} {ls ls' : List Ln} {T : Tb} {H H' : Hp}
theorem Hd.kinH (h : Hd K C TT B s L x ls ls' T H) : KIn C H x ls ls' T := h.kin.same h.sub
theorem Hd.go (h : Hd K C TT B s L x ls ls' T H) (k : KeepS s H H') (q : Src H' s) (t : Tabs TT H') : Hd K C TT B s L x ls ls' T H' :=
  { h with src := q, tabs := t, lab := k L _ (h.src.ne h.lab) (fun _ z => nomatch z) h.lab, sub := fun b o e => k b o (fun z => by rw [z, h.ns] at e; cases e) (h.nt b o e) (h.sub b o e) }
theorem Hd.draw (h : Hd K C TT B s L x ls ls' T H) (k : Keep s H H') (q : Src H' s) : Hd K C TT B s L x ls ls' T H' := h.go (KeepS.of k) q (tabs_draw h.tabs k h.src)
theorem Hd.same (h : Hd K C TT B s L x ls ls' T H) (k : Same H H') : Hd K C TT B s L x ls ls' T H' := h.go (KeepS.ofS k) (h.src.same k) (tabs_same h.tabs k)
theorem Hd.ran (h : Hd K C TT B s L x ls ls' T H) (k : KeepW (fun _ => False) H H') (t : Tabs TT H') : Hd K C TT B s L x ls ls' T H' := h.go (KeepS.ofW k) (src_keepW h.src k) t
theorem fresh_src {D : Addr} (h : Src H s) (n : H D = none) : D ≠ s := fun e => by
  obtain ⟨u, v, z, _⟩ := h
  rw [e, z] at n
  cases n
end
theorem lfs_flat (zs : List Str) : noListAll (zs.map fun z => lf z 1) = true := noListAll_of fun e he => by
  obtain ⟨z, _, rfl⟩ := List.mem_map.mp he
  rfl
theorem q_seqJ {t u : TS} {D : Ends} {σ : L2.St} {H : Hp} (R : L2.St → Hp → Prop) (done : ∀ σ' H', R σ' H' → u D σ' H') (h : ∀ N : L2.St → Hp → Prop, (∀ σ' H', R σ' H' → N σ' H') → t { D with nx := N } σ H) : tSeq t u D σ H := h _ done
end K1

namespace K1
open PySem PySem.Spec PyProof.Rows L2 Own LamX
/-! ### what comes out -/
theorem allD_one {zs : List Str} {y : Str} : allD (zs ++ [y]) = some (.tuple [.str "all", .tuple ((zs ++ [y]).map fun z => lf z 1)]) := all_some (fun h => by
  have := congrArg List.length h
  rw [List.length_append] at this
  cases this)
theorem wrO_some {zs : List Str} {y : Str} (m : Nat) : wrO m (allD (zs ++ [y])) ≠ none := by
  rw [allD_one]
  induction m with
  | zero => exact fun h => nomatch h
  | succ m ih =>
    intro h
    have h : grp "" (wrO m (some (PyData.tuple [.str "all", .tuple ((zs ++ [y]).map fun z => lf z 1)]))).toList = none := h
    cases e : wrO m (some (PyData.tuple [.str "all", .tuple ((zs ++ [y]).map fun z => lf z 1)])) with
    | none => exact ih e
    | some v =>
      rw [e] at h
      cases h
section
variable {ns : List Str} {w : Str} {T : Tb} (plain : ∀ z ∈ ns, ∀ ws, underD T ws z = memB ws z) (nst : star ∉ ns) (hw : w ∈ ns)
include plain nst hw
theorem stk_hand {lts : List (List Str)} {zs : List Str} {y : Str} (hl : ∀ l ∈ lts, w ∉ l) (hy : ∀ l ∈ lts, y ∉ l) (hz : ∀ z ∈ zs ++ [y], z ∈ ns) (wz : w ∉ zs ++ [y]) :
    handD T 0 1 (stkG w lts) (.tuple [.str "all", .tuple ((zs ++ [y]).map fun z => lf z 1)]) [] = wrO (foldL lts (0, zs)).1 (allD ((foldL lts (0, zs)).2 ++ [y])) := by
  have h := (lots_hand plain nst hw lts 0 (zs ++ [y]) [] _ hl hz allD_one).2 wz
  rw [foldL_one lts 0 zs hy] at h
  exact h
theorem stk_bare {lts : List (List Str)} {zs : List Str} (hl : ∀ l ∈ lts, w ∉ l) (hz : ∀ z ∈ zs, z ∈ ns) (wz : w ∉ zs) (ne : zs ≠ []) (no : (foldL lts (0, zs)).2 = []) :
    handD T 0 1 (stkG w lts) (.tuple [.str "all", .tuple (zs.map fun z => lf z 1)]) [] = none := by
  have h := (lots_hand plain nst hw lts 0 zs [] _ hl hz (all_some ne)).2 wz
  rw [no] at h
  refine h.trans ?_
  show wrO _ none = none
  generalize (foldL lts (0, zs)).1 = m
  induction m with
  | zero => rfl
  | succ m ih =>
    show grp "" (wrO m none).toList = none
    rw [ih]
    rfl
theorem stk_full {lts : List (List Str)} {zs : List Str} {y : Str} (hl : ∀ l ∈ lts, w ∉ l) (hy : ∀ l ∈ lts, y ∉ l) (hz : ∀ z ∈ zs ++ [y], z ∈ ns) (wz : w ∉ zs ++ [y]) :
    (statD T 0 1 (stkG w lts) (.tuple [.str "all", .tuple ((zs ++ [y]).map fun z => lf z 1)]) []).1.length = (stkG w lts).length := by
  refine Nat.le_antisymm (stat_len _ _ _) (Nat.le_of_not_lt fun h => ?_)
  have nn := stat_short _ _ _ h
  obtain ⟨i, hi, e⟩ := List.mem_iff_getElem.mp nn
  have a := stat_at _ _ _ i hi
  rw [List.getElem?_eq_getElem hi, e] at a
  have a := (Option.some.inj a).symm
  by_cases c : i + 1 ≤ lts.length
  · unfold stkG at a
    rw [List.take_append_of_le_length (by rw [List.length_map]; exact c), ← List.map_take] at a
    obtain ⟨v, q, _⟩ := (lots_hand plain nst hw (lts.take (i + 1)) 0 (zs ++ [y]) [] _ (fun l hm => hl l (List.mem_of_mem_take hm)) hz allD_one).1
    rw [q] at a
    cases a
  · rw [List.take_of_length_le (by unfold stkG; rw [List.length_append, List.length_map]; show lts.length + 1 ≤ _; omega), stk_hand plain nst hw hl hy hz wz] at a
    exact wrO_some _ a
end
theorem eqv_nilL {l : List Str} (ok : okD (.list (l.map .str)) = true) : PyData.eqv (.list (l.map .str)) (.list []) = decide (l = []) := by
  cases l with
  | nil => exact eqv_self ok
  | cons z r => rfl
end K1

namespace K1
open PySem PySem.Spec PyProof.Rows L2 Own LamX
def RowP (J : Hp) (v : V) (l : Ln) : Prop := ∃ t b, v = .ref t ∧ J t = some (.tup [.str l.1, .ref b]) ∧ J b = some (.tup []) ∧ l.2 = []
def lotD (l : List Str) : PyData := .tuple (l.map .str)
theorem strsA_flat (l : List Str) : noList (lotD l) = true := noListAll_of fun d hd => by
  obtain ⟨z, _, rfl⟩ := List.mem_map.mp hd
  rfl
theorem lots_flat (ls : List (List Str)) : noListAll (ls.map lotD) = true := noListAll_of fun d hd => by
  obtain ⟨z, _, rfl⟩ := List.mem_map.mp hd
  exact strsA_flat z
theorem dpAll_strsA {K : PySem.W.Frag} {H : Hp} : ∀ l : List Str, DpAll K H (l.map V.str) (l.map .str)
  | [] => .nil
  | z :: r => .cons (.str z) (dpAll_strsA r)
theorem KeepS.put {s q : Addr} {o : HO} {H J : Hp} (k : KeepS s H J) (n : H q = none) : KeepS s H (upd J q o) := fun b u ns nt e => by
  rw [upd_ne fun z => by
    rw [z, n] at e
    cases e]
  exact k b u ns nt e
theorem Hd.put {K : PySem.W.Frag} {C : Addr} {TT : List (Addr × Str)} {B : Hp} {s L x : Addr} {ls ls' : List Ln} {T : Tb} {H H' : Hp} (h : Hd K C TT B s L x ls ls' T H) (h5 : Hd K C TT B s L x ls ls' T H') {q : Addr} {xs ys : List V} (n : H' q = none) (e : H q = some (.lst xs)) : Hd K C TT B s L x ls ls' T (upd H q (.lst ys)) :=
  { h with
    src := h.src.put (fresh_src h5.src n)
    tabs := tabs_mine (H0 := fun _ => none) h.tabs (Mine.upd (fun ⟨_, z, _⟩ => nomatch z) e)
    lab := by
      rw [upd_ne fun z => by
        have l := h5.lab
        rw [z, n] at l
        cases l]
      exact h.lab
    sub := fun b o eb => by
      rw [upd_ne fun z => by
        have l := h5.sub b o eb
        rw [z, n] at l
        cases l]
      exact h.sub b o eb }
/-! ### _law_wrapped -/
def wrD (y : PyData) : Nat → PyData
  | 0 => y
  | m + 1 => .tuple [.str "", .tuple [wrD y m]]
theorem wr_some (y : PyData) : ∀ m, wrO m (some y) = some (wrD y m)
  | 0 => rfl
  | m + 1 => by
    show grp "" (wrO m (some y)).toList = _
    rw [wr_some y m]
    rfl
theorem wr_none : ∀ m, wrO m none = none
  | 0 => rfl
  | m + 1 => by
    show grp "" (wrO m none).toList = _
    rw [wr_none m]
    rfl
def spWr (K : PySem.W.Frag) : Sp := fun vs H Q _ => ∃ (v : V) (m : Nat) (y : PyData), vs = [v, .int (m : Nat)] ∧ m ≤ 100 ∧ Dp K H v y ∧ ∀ H' u, Same H H' → Dp K H' u (wrD y m) → Q u H'
section
variable {P : Program} {w : World} {K : PySem.W.Frag} {mg : Str → Option Value} {base : Heap}
theorem scWr : FnScope ["item", "many", "turn"] ["item", "many"] (defScope sLawWrapped) := ⟨rfl, rfl, rfl, by decide +kernel, rfl, by decide +kernel, by decide +kernel⟩
theorem ok_wrapped {f : Addr} {fd : FuncData} (F : Fun K "_law_wrapped" "_law_wrapped" sLawWrapped f fd) (mr : mg "range" = none) : FnOk P w K mg base CX0 2 f fd ["item", "many"] (spWr K) := by
  refine F.ok scWr (fun vs H Q E h => ?_) (fun cdv A outer s_ H vs Q E hr h => ?_)
  · obtain ⟨v, m, y, rfl, _⟩ := h
    rfl
  · obtain ⟨v, m, y, rfl, hm, hv, k⟩ := h
    refine ⟨_, pss_cons (ps_for PassesOwn.never rfl (pi_range1 (by rfl) mr (pa_cons (pv 1) pa_nil)) (pg_name (i := 2) scWr.nd rfl (Or.inl rfl))
        (pss_one (ps_set (i := 0) scWr.nd rfl (Or.inl rfl) (pe_tup (pa_cons pe_str (pa_cons (pe_tup (pa_cons (pv 0) pa_nil)) pa_nil))))))
      (pss_one (ps_ret (pv 0))), ?_⟩
    refine ⟨_, rfl, _, rfl, (by omega), (by omega), ?_⟩
    refine for_range (lo := 0) (fun i σ J => ∃ u v2, σ = [some u, some (.int (m : Nat)), v2] ∧ Same H J ∧ Dp K J u (wrD y i)) ⟨v, none, rfl, Same.refl H, hv⟩ ?_ ?_
    · rintro i σ J hi ⟨u, v2, rfl, sm, hu⟩
      refine ⟨_, rfl, (by show 1 ≤ sizeLine; decide), fun p np => ?_⟩
      have s1 := same_upd (o := .tup [u]) np
      have h1 := upd_same (H := J) (a := p) (o := .tup [u])
      generalize upd J p (.tup [u]) = J1 at s1 h1 ⊢
      refine ⟨(by show 2 ≤ sizeLine; decide), fun q nq => ?_⟩
      have s2 := same_upd (o := .tup [.str "", .ref p]) nq
      exact ⟨_, _, rfl, (sm.trans s1).trans s2, .tup (SqT.of upd_same) (.cons (.str _) (.cons (.tup (SqT.of (s2 _ _ h1)) (.cons (dp_same (s1.trans s2) hu) .nil)) .nil))⟩
    · rintro σ J ⟨u, v2, rfl, sm, hu⟩
      exact ⟨_, rfl, k J u sm (by simpa using hu)⟩
end
/-! ### the law -/
def spLaw (TT : List (Addr × Str)) (K : PySem.W.Frag) : Sp := fun vs H Q _ => ∃ (a : Addr) (ns : List Int), vs = [.ref a] ∧ SqL K H a (ns.map V.int) ∧ ns.length ≤ 63 ∧ Tabs TT H ∧ ∀ H', Q (.bl true) H'
abbrev nL : List Str := ["script", "k", "source", "turn", "labels", "sorts", "new", "free", "lots", "one", "lot", "layers", "more", "some", "item", "present", "many", "left", "bare", "label"]
section
variable {P : Program} {w : World} {K : PySem.W.Frag} {mg : Str → Option Value} {base : Heap}
theorem scLaw : FnScope nL ["script"] (defScope sLaw) := ⟨rfl, rfl, rfl, by decide +kernel, rfl, by decide +kernel, by decide +kernel⟩
theorem ok_law {C C2 f fS fN fD fO fW fH fP p : Addr} {mc : Value} {fd dS dN dD dO dW dH dP : FuncData} {TT : List (Addr × Str)} {dsH : List Value} (F : Fun K "law" "law" sLaw f fd) (T : KTxt K mg C)
    (GS : FnOk P w K mg base CX0 1 fS dS ["script", "at"] (spSource K)) (kS : PySem.W.keepIn K (.ref fS) = true) (bS : Binds K dS ["script", "at"] []) (mS : mg "_law_source" = some (.ref fS))
    (GN : FnOk P w K mg base CX0 2 fN dN ["source", "many"] spNames) (kN : PySem.W.keepIn K (.ref fN) = true) (bN : Binds K dN ["source", "many"] []) (mN : mg "_law_random_names" = some (.ref fN))
    (GD : FnOk P w K mg base CX0 1 fD dD ["source", "many"] spDraw) (kD : PySem.W.keepIn K (.ref fD) = true) (bD : Binds K dD ["source", "many"] []) (mD : mg "_law_draw" = some (.ref fD))
    (cr : ClX.CRead K C mc) (cm : ClX.CMet K C mc "of" p fO) (GO : FnOk P w K mg base CX0 6 fO dO ["cls", "rows"] (spOf C)) (bO : Binds K dO ["cls", "rows"] [])
    (GW : FnOk P w K mg base CX0 2 fW dW ["item", "many"] (spWr K)) (kW : PySem.W.keepIn K (.ref fW) = true) (bW : Binds K dW ["item", "many"] []) (mW : mg "_law_wrapped" = some (.ref fW))
    (GH : FnG P w K mg base 9 fH dH ["kinds", "stack", "tree", "first"] (spHandled C C2 TT K 1)) (kH : PySem.W.keepIn K (.ref fH) = true) (bH : Binds K dH ["kinds", "stack", "tree", "first"] dsH) (vH : Vals [V.int 0] dsH) (mH : mg "handled" = some (.ref fH))
    (GP : GFn2 P w K mg base Calm 9 fP dP ["kinds", "stack", "tree"] (spPsg C TT K 1)) (kP : PySem.W.keepIn K (.ref fP) = true) (bP : Binds K dP ["kinds", "stack", "tree"] []) (mP : mg "passage" = some (.ref fP))
    (mr : mg "range" = none) (mmax : mg "max" = none) (mmin : mg "min" = none) (mli : mg "list" = none) (mt : mg "tuple" = none) (mint : mg "int" = none) : FnG P w K mg base 13 f fd ["script"] (spLaw TT K) := by
  refine okG F scLaw (fun vs H Q E h => ?_) (fun cdv A outer s_ H vs Q E hc hr h => ?_)
  · obtain ⟨a, ns, rfl, _⟩ := h
    rfl
  · obtain ⟨a, ns, rfl, hS, h63, tb0, k⟩ := h
    have ml := T.len
    have hr1 : Room 1 _ := hr.mono (by decide)
    have hr2 : Room 2 _ := hr.mono (by decide)
    have hr6 : Room 6 _ := hr.mono (by decide)
    have hr9 : Room 9 _ := hr.mono (by decide)
    have GOR := GO.raw bO (dvs := []) .nil
    refine ⟨_, (pss_cons (ps_for PassesOwn.never rfl (pi_range1 (by rfl) mr (pa_cons (pe_callB (call_max2 rfl) (by rfl) mmax (by decide +kernel) (pa_cons pe_int (pa_cons (pe_callB (call_min2 rfl) (by rfl) mmin (by decide +kernel) (pa_cons pe_int (pa_cons (pe_callB call_len_seq (by rfl) ml PySem.boot_len (pa_cons (pv 0) pa_nil)) pa_nil))) pa_nil))) pa_nil)) (pg_name (i := 1) scLaw.nd rfl (Or.inl rfl)) (pss_cons (ps_set (i := 2) scLaw.nd rfl (Or.inr rfl) (pe_call GS hr1 (by rfl) mS kS bS .nil pass0 (pa_cons (pv 0) (pa_cons (pv 1) pa_nil))))
      (pss_one (ps_for PassesOwn.never rfl (pi_range1 (by rfl) mr (pa_cons pe_int pa_nil)) (pg_name (i := 3) scLaw.nd rfl (Or.inl rfl)) (pss_cons (ps_set (i := 4) scLaw.nd rfl (Or.inl rfl) (pe_call GN hr2 (by rfl) mN kN bN .nil pass0 (pa_cons (pv 2) (pa_cons pe_int pa_nil))))
      (pss_cons (ps_set (i := 5) scLaw.nd rfl (Or.inl rfl) (ClX.pe_cmeth (pe_glob (v := .ref C) (by rfl) T.mgC rfl) cr cm GOR hr6 pass0 (pa_cons (pe_lc (own := [("label", 19)]) (g := gName 19) (tt := tYes) (te := tTup (tCons (tVar 19) (tCons (tTup tNil) tNil))) rfl scLaw.nd (pi_list (pv 4)) (blkOk_by (N := nL) (sc := defScope sLaw) (by decide +kernel)) (fun _ _ _ _ _ => pg_name (i := 19) scLaw.nd rfl (Or.inl rfl)) (fun _ _ _ _ _ => pts_nil) (fun _ _ _ _ _ => (pe_tup (pa_cons (pv 19) (pa_cons (pe_tup pa_nil) pa_nil))))) pa_nil)))
      (pss_cons (ps_set (i := 6) scLaw.nd rfl (Or.inr rfl) (pe_ix ix_list (pv 4) pe_int (fun _ _ => rfl)))
      (pss_cons (ps_set (i := 7) scLaw.nd rfl (Or.inr rfl) (pe_ix ix_list (pv 4) pe_int (fun _ _ => rfl)))
      (pss_cons (ps_set (i := 8) scLaw.nd rfl (Or.inl rfl) (pe_lst pa_nil))
      (pss_cons (ps_for PassesOwn.never rfl (pi_range1 (by rfl) mr (pa_cons (pe_op op_add pe_int (pe_call GD hr1 (by rfl) mD kD bD .nil pass0 (pa_cons (pv 2) (pa_cons pe_int pa_nil)))) pa_nil)) (pg_name (i := 9) scLaw.nd rfl (Or.inl rfl)) (pss_one (ps_expr (pe_bm PySem.F.plainAttrs_list PySem.F.slot_list_append PySem.F.type_list_append mt_append (pv 8) (pa_cons (pe_orT (pe_callTy call_tuple_of (by rfl) mt (by decide +kernel) (pa_cons (pe_lc (own := [("label", 19)]) (g := gName 19) (tt := tTest (tOp rEq (tCall spDraw [] E0 (tCons (tVar 2) (tCons (tC (.int 3)) tNil))) (tC (.int 0)))) (te := tVar 19) rfl scLaw.nd (pi_list (pe_slice sl_list (pv 4) po_none (po_some pe_int))) (blkOk_by (N := nL) (sc := defScope sLaw) (by decide +kernel)) (fun _ _ _ _ _ => pg_name (i := 19) scLaw.nd rfl (Or.inl rfl)) (fun _ _ _ _ _ => pts_one (pt_cmpR op_eq (pe_call GD hr1 (by rfl) mD kD bD .nil pass0 (pa_cons (pv 2) (pa_cons pe_int pa_nil))) pe_int (nomark _))) (fun _ _ _ _ _ => pv 19)) pa_nil)) (pe_one (pe_tup (pa_cons (pe_ix ix_list (pv 4) pe_int (fun _ _ => rfl)) pa_nil)))) pa_nil)))))
      (pss_cons (ps_set (i := 11) scLaw.nd rfl (Or.inl rfl) (pe_op op_catW (pe_callTy call_tuple_of (by rfl) mt (by decide +kernel) (pa_cons (pe_lc (own := [("lot", 10)]) (g := gName 10) (tt := tYes) (te := tTup (tCons (tTup (tCons (tVar 10) (tCons (tTup (tCons (tC (.str "raise")) (tCons (tVar 6) tNil))) tNil))) tNil)) rfl scLaw.nd (pi_list (pv 8)) (blkOk_by (N := nL) (sc := defScope sLaw) (by decide +kernel)) (fun _ _ _ _ _ => pg_name (i := 10) scLaw.nd rfl (Or.inl rfl)) (fun _ _ _ _ _ => pts_nil) (fun _ _ _ _ _ => pe_tup (pa_cons (pe_tup (pa_cons (pv 10) (pa_cons (pe_tup (pa_cons pe_str (pa_cons (pv 6) pa_nil))) pa_nil))) pa_nil))) pa_nil)) (pe_tup (pa_cons (pe_tup (pa_cons (pe_tup (pa_cons (pe_tup (pa_cons (pv 6) pa_nil)) (pa_cons pe_str pa_nil))) pa_nil)) pa_nil))))
      (pss_one (ps_for PassesOwn.never rfl (pi_range1 (by rfl) mr (pa_cons pe_int pa_nil)) (pg_name (i := 12) scLaw.nd rfl (Or.inl rfl)) (pss_cons (ps_setLc (i := 13) (own := [("label", 19)]) (g := gName 19) (tt := tTest (tOp rEq (tCall spDraw [] E0 (tCons (tVar 2) (tCons (tC (.int 2)) tNil))) (tC (.int 0)))) (te := tVar 19) rfl scLaw.nd rfl rfl (by rfl) (pi_list (pe_slice sl_list (pv 4) po_none (po_some pe_int))) (blkOk_by (N := nL) (sc := defScope sLaw) (by decide +kernel)) (fun _ _ _ _ _ => pg_name (i := 19) scLaw.nd rfl (Or.inl rfl)) (fun _ _ _ _ _ => pts_one (pt_cmpR op_eq (pe_call GD hr1 (by rfl) mD kD bD .nil pass0 (pa_cons (pv 2) (pa_cons pe_int pa_nil))) pe_int (nomark _))) (fun _ _ _ _ _ => pv 19))
      (pss_cons (ps_set (i := 14) scLaw.nd rfl (Or.inl rfl) (pe_tup (pa_cons pe_str (pa_cons (pe_callTy call_tuple_of (by rfl) mt (by decide +kernel) (pa_cons (pe_lc (own := [("label", 19)]) (g := gName 19) (tt := tYes) (te := tTup (tCons (tVar 19) (tCons (tC (.int 1)) tNil))) rfl scLaw.nd (pi_list (pe_op op_cat (pv 13) (pe_lst (pa_cons (pv 7) pa_nil)))) (blkOk_by (N := nL) (sc := defScope sLaw) (by decide +kernel)) (fun _ _ _ _ _ => pg_name (i := 19) scLaw.nd rfl (Or.inl rfl)) (fun _ _ _ _ _ => pts_nil) (fun _ _ _ _ _ => pe_tup (pa_cons (pv 19) (pa_cons pe_int pa_nil)))) pa_nil)) pa_nil))))
      (pss_cons (ps_set (i := 15) scLaw.nd rfl (Or.inr rfl) (pe_callTy call_list_of (by rfl) mli (by decide +kernel) (pa_cons (pv 13) pa_nil)))
      (pss_cons (ps_set (i := 16) scLaw.nd rfl (Or.inl rfl) pe_int)
      (pss_cons (ps_for PassesOwn.never rfl (pi_list (pv 8)) (pg_name (i := 10) scLaw.nd rfl (Or.inr rfl)) (pss_cons (ps_set (i := 16) scLaw.nd rfl (Or.inl rfl) (pe_op op_add (pv 16) (pe_callTy call_int1 (by rfl) mint (by decide +kernel) (pa_cons (pe_cmpR (op_neD hr.units) (pe_lc (own := [("label", 19)]) (g := gName 19) (tt := tTest (tOp (rIn K false) (tVar 19) (tVar 10))) (te := tVar 19) rfl scLaw.nd (pi_list (pv 15)) (blkOk_by (N := nL) (sc := defScope sLaw) (by decide +kernel)) (fun _ _ _ _ _ => pg_name (i := 19) scLaw.nd rfl (Or.inl rfl)) (fun _ _ _ _ _ => pts_one (pt_cmpR op_in_seq (pv 19) (pv 10) (by rfl))) (fun _ _ _ _ _ => pv 19)) (pe_lst pa_nil) (nomark _)) pa_nil))))
      (pss_one (ps_set (i := 15) scLaw.nd rfl (Or.inr rfl) (pe_lc (own := [("label", 19)]) (g := gName 19) (tt := tTest (tOp (rIn K true) (tVar 19) (tVar 10))) (te := tVar 19) rfl scLaw.nd (pi_list (pv 15)) (blkOk_by (N := nL) (sc := defScope sLaw) (by decide +kernel)) (fun _ _ _ _ _ => pg_name (i := 19) scLaw.nd rfl (Or.inl rfl)) (fun _ _ _ _ _ => pts_one (pt_cmpR op_notIn_seq (pv 19) (pv 10) (by rfl))) (fun _ _ _ _ _ => pv 19))))))
      (pss_cons (ps_set (i := 17) scLaw.nd rfl (Or.inl rfl) (pe_tup (pa_cons pe_str (pa_cons (pe_callTy call_tuple_of (by rfl) mt (by decide +kernel) (pa_cons (pe_lc (own := [("label", 19)]) (g := gName 19) (tt := tTest (tOp (rIn K false) (tVar 19) (tOp rCat (tVar 15) (tLst (tCons (tVar 7) tNil))))) (te := tTup (tCons (tVar 19) (tCons (tC (.int 1)) tNil))) rfl scLaw.nd (pi_list (pe_op op_cat (pv 13) (pe_lst (pa_cons (pv 7) pa_nil)))) (blkOk_by (N := nL) (sc := defScope sLaw) (by decide +kernel)) (fun _ _ _ _ _ => pg_name (i := 19) scLaw.nd rfl (Or.inl rfl)) (fun _ _ _ _ _ => pts_one (pt_cmpR op_in_seq (pv 19) (pe_op op_cat (pv 15) (pe_lst (pa_cons (pv 7) pa_nil))) (by rfl))) (fun _ _ _ _ _ => pe_tup (pa_cons (pv 19) (pa_cons pe_int pa_nil)))) pa_nil)) pa_nil))))
      (pss_cons (ps_if (pt_cmpR (op_neD hr.units) (pe_callGD (E := fun _ _ _ => False) GH hc hr9 (by rfl) mH kH bH vH (pa_cons (pv 5) (pa_cons (pv 11) (pa_cons (pv 14) pa_nil)))) (pe_call GW hr2 (by rfl) mW kW bW .nil pass0 (pa_cons (pv 17) (pa_cons (pv 16) pa_nil))) (nomark _)) (pss_one (ps_ret pe_bl)) pss_nil)
      (pss_cons (ps_set (i := 18) scLaw.nd rfl (Or.inl rfl) (pe_tup (pa_cons pe_str (pa_cons (pe_callTy call_tuple_of (by rfl) mt (by decide +kernel) (pa_cons (pe_lc (own := [("label", 19)]) (g := gName 19) (tt := tYes) (te := tTup (tCons (tVar 19) (tCons (tC (.int 1)) tNil))) rfl scLaw.nd (pi_list (pv 13)) (blkOk_by (N := nL) (sc := defScope sLaw) (by decide +kernel)) (fun _ _ _ _ _ => pg_name (i := 19) scLaw.nd rfl (Or.inl rfl)) (fun _ _ _ _ _ => pts_nil) (fun _ _ _ _ _ => pe_tup (pa_cons (pv 19) (pa_cons pe_int pa_nil)))) pa_nil)) pa_nil))))
      (pss_cons (ps_if (PW.pt (pw_and (pt_cmpR (op_neD hr.units) (pv 13) (pe_lst pa_nil) (nomark _)) (pw_and (pt_cmpR (op_eqD hr.units) (pv 15) (pe_lst pa_nil) (nomark _)) (pw_and1 (pt_cmpR op_notN (pe_callGD (E := fun _ _ _ => False) GH hc hr9 (by rfl) mH kH bH vH (pa_cons (pv 5) (pa_cons (pv 11) (pa_cons (pv 18) pa_nil)))) pe_non (nomark _)))))) (pss_one (ps_ret pe_bl)) pss_nil)
      (pss_one (ps_if (pt_cmpR op_ne (pe_callB call_len_seq (by rfl) ml PySem.boot_len (pa_cons (pe_listY rfl hc.in1.in1.in1 hr (py_call (dvs := []) GP hr.depth (by rfl) mP kP bP .nil (pa_cons (pv 5) (pa_cons (pv 11) (pa_cons (pv 14) pa_nil)))) (by rfl) mli (by decide +kernel)) pa_nil)) (pe_callB call_len_seq (by rfl) ml PySem.boot_len (pa_cons (pv 11) pa_nil)) (nomark _)) (pss_one (ps_ret pe_bl)) pss_nil))))))))))))))))))))))))
      (pss_one (ps_ret pe_bl))), ?_⟩
    have hl : (ns.map V.int).length = ns.length := List.length_map _
    have cm_ : ∀ z : Nat, z ≤ 63 → (1 : Int) ≤ (if (if ((z : Nat) : Int) < 4 then ((z : Nat) : Int) else 4) > 1 then (if ((z : Nat) : Int) < 4 then ((z : Nat) : Int) else 4) else 1) ∧ (if (if ((z : Nat) : Int) < 4 then ((z : Nat) : Int) else 4) > 1 then (if ((z : Nat) : Int) < 4 then ((z : Nat) : Int) else 4) else 1) ≤ 4 := fun z hz => by
      split <;> split at * <;> omega
    have cb := cm_ (ns.map V.int).length (by omega)
    refine ⟨_, rfl, a, _, rfl, .inl hS, _, _, rfl, _, _, rfl, _, rfl, (by omega), (by omega), ?_⟩
    generalize (if (if (((ns.map V.int).length : Nat) : Int) < 4 then (((ns.map V.int).length : Nat) : Int) else 4) > 1 then (if (((ns.map V.int).length : Nat) : Int) < 4 then (((ns.map V.int).length : Nat) : Int) else 4) else 1) = many at cb ⊢
    have seqK : ∀ {J : Hp}, LamX.ExtN H J → SqL K J a (ns.map V.int) := fun {J} e => hS.elim (fun r => .inl (r.elim (fun z => .inl (e _ _ z (fun _ z => nomatch z))) fun ⟨o, z⟩ => .inr ⟨o, e _ _ z (fun _ z => nomatch z)⟩)) .inr
    refine for_range (lo := 0) (fun i σ H' => ∃ v1 v2 v3 v4 v5 v6 v7 v8 v9 v10 v11 v12 v13 v14 v15 v16 v17 v18 v19, σ = [some (.ref a), v1, v2, v3, v4, v5, v6, v7, v8, v9, v10, v11, v12, v13, v14, v15, v16, v17, v18, v19] ∧ LamX.ExtN H H' ∧ Tabs TT H') ⟨_, _, _, _, _, _, _, _, _, _, _, _, _, _, _, _, _, _, _, rfl, LamX.ExtN.refl H, tb0⟩ ?_ ?_
    · rintro i σ H0 hi ⟨v1, v2, v3, v4, v5, v6, v7, v8, v9, v10, v11, v12, v13, v14, v15, v16, v17, v18, v19, rfl, sm, tb⟩
      refine ⟨_, rfl, _, rfl, a, ns, (0 + (i : Int)), rfl, seqK sm, h63, (by omega), fun s H1 s1 nS sr1 => ?_⟩
      refine ⟨6, rfl, (by decide), (by decide), ?_⟩
      refine for_range (lo := 0) (fun t σ H' => ∃ v3 v4 v5 v6 v7 v8 v9 v10 v11 v12 v13 v14 v15 v16 v17 v18 v19, σ = [some (.ref a), some (.int (0 + (i : Int))), some (.ref s), v3, v4, v5, v6, v7, v8, v9, v10, v11, v12, v13, v14, v15, v16, v17, v18, v19] ∧ KeepS s H1 H' ∧ Src H' s ∧ Tabs TT H') ⟨_, _, _, _, _, _, _, _, _, _, _, _, _, _, _, _, _, rfl, KeepS.refl s H1, sr1, tabs_same tb s1⟩ ?_ ?_
      · rintro t σ H2 ht ⟨v3, v4, v5, v6, v7, v8, v9, v10, v11, v12, v13, v14, v15, v16, v17, v18, v19, rfl, kp, sr2, tb2⟩
        refine ⟨_, rfl, s, 7, rfl, sr2, (by decide), fun H3 L nm k3 sr3 nLf hL ln dr => ?_⟩
        have nok : ∀ z ∈ nm, NameOk z := fun z hz => (dr.2 z hz).1
        have pok := plain_ok nok dr.1 (by omega)
        -- the table
        refine ⟨rfl, _, rfl, L, rfl, ⟨_, SqL.of hL⟩, fun D nD => ?_⟩
        refine lc_list (K := K) (a := L) (xs := nm.map V.str) (fun j J => Same H3 J ∧ ∃ us, J D = some (.lst us) ∧ Paired (RowP J) us (plainL (nm.take j))) ⟨same_upd nD, [], upd_same, .nil⟩ (fun j J hj z => SqL.of (z.1 _ _ hL)) ?_ ?_
        · rintro j u J hu ⟨sm, us, hD, hus⟩
          rw [List.getElem?_map] at hu
          obtain ⟨z, hz, rfl⟩ := Option.map_eq_some_iff.mp hu
          have hj := (List.getElem?_eq_some_iff.mp hz).1
          have lus := paired_len hus
          unfold plainL at lus
          rw [List.length_map, List.length_take] at lus
          refine ⟨rfl, _, rfl, Nat.zero_le _, fun b nb => ?_⟩
          have s1 := same_upd (o := .tup []) nb
          have h1 := upd_same (H := J) (a := b) (o := .tup [])
          generalize upd J b (.tup []) = J1 at s1 h1 ⊢
          refine ⟨(by show 2 ≤ sizeLine; decide), fun t nt => ?_⟩
          have s2 := same_upd (o := .tup [.str z, .ref b]) nt
          have h2 := upd_same (H := J1) (a := t) (o := .tup [.str z, .ref b])
          generalize upd J1 t (.tup [.str z, .ref b]) = J2 at s2 h2 ⊢
          have s12 := s1.trans s2
          have hD2 := s12 _ _ hD
          refine ⟨us, hD2, small1000 (by omega), same_past nD (sm.trans s12), us ++ [.ref t], upd_same, ?_⟩
          have ne : ∀ {c : Addr} {o : HO}, (∀ xs, o ≠ HO.lst xs) → J2 c = some o → (upd J2 D (.lst (us ++ [.ref t]))) c = some o := fun no e => by
            rw [upd_ne (fun z => by rw [z, hD2] at e; exact no _ (Option.some.inj e).symm)]
            exact e
          have e : plainL (nm.take (j + 1)) = plainL (nm.take j) ++ [(z, [])] := by
            unfold plainL
            rw [List.take_add_one, hz, List.map_append]
            rfl
          rw [e]
          exact paired_appB (paired_imp (fun v l ⟨t, b, e, e1, e2, e3⟩ => ⟨t, b, e, ne (fun _ z => nomatch z) (s12 _ _ e1), ne (fun _ z => nomatch z) (s12 _ _ e2), e3⟩) hus) (.cons ⟨t, b, rfl, ne (fun _ z => nomatch z) h2, ne (fun _ z => nomatch z) (s2 _ _ h1), rfl⟩ .nil)
        rintro JB ⟨smJ, usJ, hDJ, husJ⟩
        rw [List.length_map, List.take_of_length_le (Nat.le_refl _)] at husJ
        refine ⟨D, plainL nm, rfl, ⟨usJ, .inl hDJ, paired_imp (fun v l ⟨t, b, e, e1, e2, e3⟩ => ⟨t, b, e, e1, by rw [e3]; exact .inr e2⟩) husJ⟩, pok, fun H5 x s5 ka => ?_⟩
        obtain ⟨ls', T2, kin⟩ := (ka.same fun a o z e => fr_of (H := JB) (H' := H5) z e).kin
        have enP : nms (plainL nm) = nm := nms_plain
        have s35 := smJ.trans s5
        have hd5 : Hd K C TT (K1.noT (K1.fr JB H5)) s L x (plainL nm) ls' T2 H5 := ⟨sr3.same s35, tabs_same (tabs_draw tb2 k3 sr2) s35, by rw [enP]; exact s35 _ _ hL, kin.noT, fun b o e => (fr_at (noT_at e).1).2, fun b o e => (noT_at e).2, by
          cases e : K1.noT (K1.fr JB H5) s with
          | none => rfl
          | some o =>
            obtain ⟨u, v, z, _⟩ := sr3.same smJ
            rw [(fr_at (noT_at e).1).1] at z
            cases z⟩
        have kk5 := (kp.trans (KeepS.of k3)).trans (KeepS.ofS s35)
        clear husJ hDJ
        obtain ⟨z0, z1, z2, z3, z4, fr, nw, rfl⟩ : ∃ z0 z1 z2 z3 z4 fr nw, nm = [z0, z1, z2, z3, z4, fr, nw] := by
          match nm, ln with
          | [b0, b1, b2, b3, b4, b5, b6], _ => exact ⟨b0, b1, b2, b3, b4, b5, b6, rfl⟩
        have und : ∀ z ∈ [z0, z1, z2, z3, z4, fr, nw], ∀ ws, underD T2 ws z = memB ws z := plain_und dr.1 kin.srt.alike kin.tab
        have hL5 := s35 _ _ hL
        generalize hfive : [z0, z1, z2, z3, z4] = five
        have enm : [z0, z1, z2, z3, z4, fr, nw] = five ++ [fr, nw] := by rw [← hfive]; rfl
        have f5 : five.length = 5 := by rw [← hfive]; rfl
        have nd := dr.1
        rw [enm] at nd hL5 nok und enP hd5
        have fiveIn : ∀ z ∈ five, z ∈ five ++ [fr, nw] := fun z hz => List.mem_append_left _ hz
        have frIn : fr ∈ five ++ [fr, nw] := List.mem_append_right _ (List.mem_cons_self ..)
        have nwIn : nw ∈ five ++ [fr, nw] := List.mem_append_right _ (List.mem_cons_of_mem _ (List.mem_cons_self ..))
        obtain ⟨ndF, ndR, ndX⟩ := List.nodup_append.mp nd
        have frOut : fr ∉ five := fun h => ndX fr h fr (List.mem_cons_self ..) rfl
        have nwOut : nw ∉ five := fun h => ndX nw h nw (List.mem_cons_of_mem _ (List.mem_cons_self ..)) rfl
        have nwfr : nw ≠ fr := fun h => by
          rw [h] at ndR
          exact (List.nodup_cons.mp ndR).1 (List.mem_cons_self ..)
        refine ⟨_, rfl, L, _, 6, .str nw, rfl, rfl, SqL.of hL5, (by rw [← hfive]; exact atI_nat (xs := [V.str z0, .str z1, .str z2, .str z3, .str z4, .str fr, .str nw]) (j := 6) rfl), ?_⟩
        refine ⟨_, rfl, L, _, 5, .str fr, rfl, rfl, SqL.of hL5, (by rw [← hfive]; exact atI_nat (xs := [V.str z0, .str z1, .str z2, .str z3, .str z4, .str fr, .str nw]) (j := 5) rfl), ?_⟩
        refine ⟨Nat.zero_le _, fun q nq => ?_⟩
        have s6 := same_upd (o := .lst []) nq
        have hq6 := upd_same (H := H5) (a := q) (o := .lst [])
        generalize upd H5 q (.lst []) = H6 at s6 hq6 ⊢
        have qs := fresh_src hd5.src nq
        have hd6 := hd5.same s6
        -- the lots
        refine ⟨_, rfl, s, 5, rfl, hd6.src, (by decide), (by decide), fun dm H7 dm0 dm1 sr7 k7 => ⟨_, _, rfl, rfl, _, rfl, (by omega), (by omega), ?_⟩⟩
        have hd7 := hd6.draw k7 sr7
        have hq7 := k7 q _ qs hq6
        have kk7 := (kk5.trans (KeepS.ofS s6)).trans (KeepS.of k7)
        have nq5 : H5 q = none := nq
        refine for_range (lo := 0) (fun m σ J => ∃ v9 us lts, σ = [some (.ref a), some (.int (0 + (i : Int))), some (.ref s), some (.int (0 + (t : Int))), some (.ref L), some (.ref x), some (.str nw), some (.str fr), some (.ref q), v9, v10, v11, v12, v13, v14, v15, v16, v17, v18, v19] ∧ KeepS s H5 J ∧ Hd K C TT (K1.noT (K1.fr JB H5)) s L x (plainL (five ++ [fr, nw])) ls' T2 J ∧ J q = some (.lst us) ∧ DpAll K J us (lts.map lotD) ∧ lts.length = m ∧ ∀ l ∈ lts, 1 ≤ l.length ∧ l.length ≤ 5 ∧ ∀ z ∈ l, z ∈ five)
          ⟨v9, [], [], rfl, (KeepS.ofS s6).trans (KeepS.of k7), hd7, hq7, .nil, rfl, fun _ h => nomatch h⟩ ?_ ?_
        · rintro m σ J hm ⟨v9, us, lts, rfl, kk, hd, hq, hlots, len, each⟩
          have hLJ := hd.lab
          rw [enP] at hLJ
          have lus := dpAll_len hlots
          rw [List.length_map] at lus
          refine ⟨_, rfl, .inl ⟨rfl, _, SqL.of hq⟩, _, rfl, 5, rfl, L, _, rfl, SqL.of hLJ, fun b nb => ?_⟩
          rw [show cutV ((five ++ [fr, nw]).map V.str) none (some (5 : Int)) = five.map V.str from by
            have h := cut_to ((five ++ [fr, nw]).map V.str) 5 (by rw [List.length_map, List.length_append, f5]; exact Nat.le_add_right _ _)
            have h2 : cutV ((five ++ [fr, nw]).map V.str) none (some (5 : Int)) = ((five ++ [fr, nw]).map V.str).take 5 := h
            rw [h2, ← List.map_take, List.take_append_of_le_length (by omega), List.take_of_length_le (by omega)]]
          have c1 := same_upd (o := .lst (five.map V.str)) nb
          have hb1 := upd_same (H := J) (a := b) (o := .lst (five.map V.str))
          generalize upd J b (.lst (five.map V.str)) = J1 at c1 hb1 ⊢
          have bs := fresh_src hd.src nb
          have hd1 := hd.same c1
          refine ⟨b, rfl, ⟨_, SqL.of hb1⟩, fun D nD => ?_⟩
          have Ds := fresh_src hd1.src nD
          refine lc_list (K := K) (a := b) (xs := five.map V.str) (fun j J' => Keep s J1 J' ∧ Src J' s ∧ ∃ zs, J' D = some (.lst (zs.map V.str)) ∧ zs.length ≤ j ∧ ∀ z ∈ zs, z ∈ five)
            ⟨(Keep.of (same_upd nD)), hd1.src.put Ds, [], upd_same, Nat.le_refl _, fun _ h => nomatch h⟩ (fun j J' hj z => SqL.of (z.1 b _ bs hb1)) ?_ ?_
          · rintro j u J' hu ⟨kj, srj, zs, hD, lz, iz⟩
            rw [List.getElem?_map] at hu
            obtain ⟨z, hz, rfl⟩ := Option.map_eq_some_iff.mp hu
            have jl := (List.getElem?_eq_some_iff.mp hz).1
            refine ⟨rfl, _, rfl, s, 3, rfl, srj, (by decide), (by decide), fun d J2 d0 d1 sr2 k2 => ⟨rfl, _, rfl, ?_⟩⟩
            have hD2 := k2 D _ Ds hD
            by_cases c : V.int d = V.int 0
            · rw [decide_eq_true c]
              refine iteT ⟨_, rfl, _, hD2, small1000 (by rw [List.length_map]; omega), (kj.trans k2).put nD, sr2.put Ds, zs ++ [z], ?_, by rw [List.length_append]; exact Nat.succ_le_succ lz, fun y hy => ?_⟩
              · rw [upd_same, List.map_append]
                rfl
              · rcases List.mem_append.mp hy with h | h
                · exact iz y h
                · rw [List.mem_singleton.mp h]
                  exact List.mem_of_getElem? hz
            · rw [decide_eq_false c]
              exact iteF ⟨kj.trans k2, sr2, zs, hD2, Nat.le_succ_of_le lz, iz⟩
          rintro J2 ⟨k12, sr2, zs, hD2, lz, iz⟩
          rw [List.length_map, f5] at lz
          have hd2 := hd1.draw k12 sr2
          have hq2 := k12 q _ (qs) (c1 _ _ hq)
          refine ⟨D, _, rfl, .inl ⟨SqL.of hD2, fun tp ntp => ?_⟩⟩
          have c3 := same_upd (o := .tup (zs.map V.str)) ntp
          have h3 := upd_same (H := J2) (a := tp) (o := .tup (zs.map V.str))
          generalize upd J2 tp (.tup (zs.map V.str)) = J3 at c3 h3 ⊢
          have hd3 := hd2.same c3
          have hq3 := c3 _ _ hq2
          have kk3 := ((kk.trans (KeepS.ofS c1)).trans (KeepS.of k12)).trans (KeepS.ofS c3)
          have stJ0 : StayT J J3 := ((StayT.of (Stay.of c1)).trans (StayT.of (k12.stay hd1.src))).trans (StayT.of (Stay.of c3))
          refine ⟨_, .inr (.inl ⟨_, SqT.of h3, rfl⟩), ?_⟩
          have lm : lts.length ≤ 900 := by omega
          cases zs with
          | nil =>
            refine iteF ?_
            have hL3 := hd3.lab
            rw [enP] at hL3
            obtain ⟨y0, y1, ey⟩ : ∃ y0 y1, five = y0 :: y1 := ⟨z0, [z1, z2, z3, z4], hfive.symm⟩
            refine ⟨_, rfl, L, _, 0, .str y0, rfl, rfl, SqL.of hL3, (by rw [ey]; exact atI_nat (xs := V.str y0 :: (y1 ++ [fr, nw]).map V.str) (j := 0) rfl), (by show 1 ≤ sizeLine; decide), fun tq ntq => ?_⟩
            have c4 := same_upd (o := .tup [.str y0]) ntq
            have h4 := upd_same (H := J3) (a := tq) (o := .tup [.str y0])
            generalize upd J3 tq (.tup [.str y0]) = J4 at c4 h4 ⊢
            have hq4 := c4 _ _ hq3
            have stJ : StayT J J4 := stJ0.trans (StayT.of (Stay.of c4))
            refine ⟨q, us, .ref tq, rfl, rfl, hq4, by rw [sizeLine_eq]; omega, ?_⟩
            have stc := stay_upd (o := .lst (us ++ [.ref tq])) (hq4)
            refine ⟨_, us ++ [.ref tq], lts ++ [[y0]], rfl, (kk3.trans (KeepS.ofS c4)).put nq5, (hd3.same c4).put hd5 nq5 hq4, upd_same, ?_, by rw [List.length_append, len]; rfl, fun l' hl' => ?_⟩
            · rw [List.map_append]
              exact dpAll_app (dpAll_stayT (StayT.of stc) (dpAll_stayT stJ hlots (lots_flat lts)) (lots_flat lts)) (.cons (dp_stay stc (.tup (SqT.of h4) (.cons (.str _) .nil)) (strsA_flat _)) .nil)
            · rcases List.mem_append.mp hl' with z | z
              · exact each l' z
              · rw [List.mem_singleton.mp z]
                exact ⟨Nat.le_refl _, by show 1 ≤ 5; decide, fun y hy => by rw [List.mem_singleton.mp hy, ey]; exact List.mem_cons_self ..⟩
            
          | cons y0 y1 =>
            refine iteT ?_
            have stJ : StayT J J3 := stJ0
            refine ⟨q, us, .ref tp, rfl, rfl, hq3, by rw [sizeLine_eq]; omega, ?_⟩
            have stc := stay_upd (o := .lst (us ++ [.ref tp])) (hq3)
            refine ⟨_, us ++ [.ref tp], lts ++ [(y0 :: y1)], rfl, kk3.put nq5, hd3.put hd5 nq5 hq3, upd_same, ?_, by rw [List.length_append, len]; rfl, fun l' hl' => ?_⟩
            · rw [List.map_append]
              exact dpAll_app (dpAll_stayT (StayT.of stc) (dpAll_stayT stJ hlots (lots_flat lts)) (lots_flat lts)) (.cons (dp_stay stc (.tup (SqT.of h3) (dpAll_strsA (y0 :: y1))) (strsA_flat _)) .nil)
            · rcases List.mem_append.mp hl' with z | z
              · exact each l' z
              · rw [List.mem_singleton.mp z]
                exact ⟨by show 1 ≤ y1.length + 1; omega, lz, iz⟩
            
        rintro σ J7 ⟨v9, us, lts, rfl, kk8, hd8, hq8, hlots, len, each⟩
        have l5 : lts.length ≤ 5 := by omega
        have hlt : ∀ l ∈ lts, 1 ≤ l.length ∧ l.length ≤ 5 ∧ ∀ z ∈ l, z ∈ nms (plainL (five ++ [fr, nw])) := fun l hl => ⟨(each l hl).1, (each l hl).2.1, fun z hz => by rw [enP]; exact fiveIn z ((each l hl).2.2 z hz)⟩
        have lus := dpAll_len hlots
        rw [List.length_map] at lus
        refine ⟨_, rfl, q, rfl, ⟨_, SqL.of hq8⟩, fun D nD => ?_⟩
        refine lc_list (K := K) (a := q) (xs := us) (fun j J => Same J7 J ∧ ∃ ws, J D = some (.lst ws) ∧ DpAll K J ws ((lts.take j).map fun l => encG (lotG nw l))) ⟨same_upd nD, [], upd_same, .nil⟩ (fun j J hj z => SqL.of (z.1 _ _ hq8)) ?_ ?_
        · rintro j u J hu ⟨sm, ws, hD, hws⟩
          obtain ⟨e0, he0, hud⟩ := dpAll_at hlots hu
          rw [List.getElem?_map] at he0
          obtain ⟨l, hl, rfl⟩ := Option.map_eq_some_iff.mp he0
          have jl := (List.getElem?_eq_some_iff.mp hl).1
          have lw := dpAll_len hws
          rw [List.length_map, List.length_take] at lw
          refine ⟨rfl, _, rfl, _, rfl, (by show 2 ≤ sizeLine; decide), fun t1 nt1 => ?_⟩
          have c1 := same_upd (o := .tup [.str "raise", .str nw]) nt1
          have h1 := upd_same (H := J) (a := t1) (o := .tup [.str "raise", .str nw])
          generalize upd J t1 (.tup [.str "raise", .str nw]) = J1 at c1 h1 ⊢
          refine ⟨(by show 2 ≤ sizeLine; decide), fun t2 nt2 => ?_⟩
          have c2 := same_upd (o := .tup [u, .ref t1]) nt2
          have h2 := upd_same (H := J1) (a := t2) (o := .tup [u, .ref t1])
          generalize upd J1 t2 (.tup [u, .ref t1]) = J2 at c2 h2 ⊢
          refine ⟨(by show 1 ≤ sizeLine; decide), fun t3 nt3 => ?_⟩
          have c3 := same_upd (o := .tup [.ref t2]) nt3
          have h3 := upd_same (H := J2) (a := t3) (o := .tup [.ref t2])
          generalize upd J2 t3 (.tup [.ref t2]) = J3 at c3 h3 ⊢
          have c13 := (c1.trans c2).trans c3
          have hD3 := c13 _ _ hD
          have stc := stay_upd (o := .lst (ws ++ [.ref t3])) hD3
          have new : Dp K J3 (.ref t3) (encG (lotG nw l)) := .tup (SqT.of h3) (.cons (.tup (SqT.of (c3 _ _ h2)) (.cons (dp_same (sm.trans c13) hud) (.cons (.tup (SqT.of ((c2.trans c3) _ _ h1)) (.cons (.str _) (.cons (.str _) .nil))) .nil))) .nil)
          have fln : ∀ l : List Str, noList (encG (lotG nw l)) = true := fun l => by
            show ((noList (lotD l) && (true && true)) && true) = true
            rw [strsA_flat]
            rfl
          refine ⟨ws, hD3, small1000 (by omega), same_past nD (sm.trans c13), ws ++ [.ref t3], upd_same, ?_⟩
          rw [List.take_add_one, hl, List.map_append]
          exact dpAll_app (dpAll_stay stc (dpAll_same c13 hws) (noListAll_of fun e he => by
            obtain ⟨l', _, rfl⟩ := List.mem_map.mp he
            exact fln l')) (.cons (dp_stay stc new (fln l)) .nil)
        rintro J8 ⟨s78, ws, hD8, hws⟩
        rw [lus, List.take_length] at hws
        have lws := dpAll_len hws
        rw [List.length_map] at lws
        refine ⟨D, _, rfl, .inl ⟨SqL.of hD8, fun t9 nt9 => ?_⟩⟩
        have c9 := same_upd (o := .tup ws) nt9
        have h9 := upd_same (H := J8) (a := t9) (o := .tup ws)
        generalize upd J8 t9 (.tup ws) = J9 at c9 h9 ⊢
        refine ⟨_, rfl, (by show 1 ≤ sizeLine; decide), fun g1 ng1 => ?_⟩
        have d1 := same_upd (o := .tup [.str nw]) ng1
        have e1 := upd_same (H := J9) (a := g1) (o := .tup [.str nw])
        generalize upd J9 g1 (.tup [.str nw]) = G1 at d1 e1 ⊢
        refine ⟨(by show 2 ≤ sizeLine; decide), fun g2 ng2 => ?_⟩
        have d2 := same_upd (o := .tup [.ref g1, .str "drop"]) ng2
        have e2 := upd_same (H := G1) (a := g2) (o := .tup [.ref g1, .str "drop"])
        generalize upd G1 g2 (.tup [.ref g1, .str "drop"]) = G2 at d2 e2 ⊢
        refine ⟨(by show 1 ≤ sizeLine; decide), fun g3 ng3 => ?_⟩
        have d3 := same_upd (o := .tup [.ref g2]) ng3
        have e3 := upd_same (H := G2) (a := g3) (o := .tup [.ref g2])
        generalize upd G2 g3 (.tup [.ref g2]) = G3 at d3 e3 ⊢
        refine ⟨(by show 1 ≤ sizeLine; decide), fun g4 ng4 => ?_⟩
        have d4 := same_upd (o := .tup [.ref g3]) ng4
        have e4 := upd_same (H := G3) (a := g4) (o := .tup [.ref g3])
        generalize upd G3 g4 (.tup [.ref g3]) = G4 at d4 e4 ⊢
        have d14 := ((d1.trans d2).trans d3).trans d4
        refine ⟨t9, g4, ws, [.ref g3], rfl, rfl, SqT.of (d14 _ _ h9), SqT.of e4, by show ws.length + 1 ≤ 1000; omega, fun LY H8 s8 hLY => ?_⟩
        have s98 := d14.trans s8
        have s7H := (s78.trans c9).trans s98
        have hdrop : Dp K H8 (.ref g3) (encG (dropG nw)) := dp_same ((d4.trans s8)) (.tup (SqT.of e3) (.cons (.tup (SqT.of (d3 _ _ e2)) (.cons (.tup (SqT.of ((d2.trans d3) _ _ e1)) (.cons (.str _) .nil)) (.cons (.str _) .nil))) .nil))
        have hlay : Dp K H8 (.ref LY) (.tuple ((stkG nw lts).map encG)) := by
          refine .tup hLY ?_
          unfold stkG
          rw [List.map_append, List.map_map]
          exact dpAll_app (dpAll_same (c9.trans s98) hws) (.cons hdrop .nil)
        have hd9 := hd8.same s7H
        have kk9 := kk8.trans (KeepS.ofS s7H)
        have hq9 := s7H _ _ hq8
        have hl9 := dpAll_same s7H hlots
        clear hws hD8
        refine ⟨5, rfl, (by decide), (by decide), ?_⟩
        refine for_range (lo := 0) (fun e σ J => ∃ v10 v12 v13 v14 v15 v16 v17 v18 v19, σ = [some (.ref a), some (.int (0 + (i : Int))), some (.ref s), some (.int (0 + (t : Int))), some (.ref L), some (.ref x), some (.str nw), some (.str fr), some (.ref q), v9, v10, some (.ref LY), v12, v13, v14, v15, v16, v17, v18, v19] ∧ KeepS s H8 J ∧ Hd K C TT (K1.noT (K1.fr JB H5)) s L x (plainL (five ++ [fr, nw])) ls' T2 J)
          ⟨_, _, _, _, _, _, _, _, _, rfl, KeepS.refl s H8, hd9⟩ ?_ ?_
        · rintro e σ M0 he ⟨v10, v12, v13, v14, v15, v16, v17, v18, v19, rfl, kM0, hM0⟩
          have stM0 : StayT H8 M0 := kM0.stay hd9.src
          have hqM := kM0 q (.lst us) qs (fun _ z => nomatch z) hq9
          have hLp := hM0.lab
          rw [enP] at hLp
          refine ⟨_, rfl, 5, rfl, L, _, rfl, SqL.of hLp, fun b nb => ?_⟩
          rw [show cutV ((five ++ [fr, nw]).map V.str) none (some (5 : Int)) = five.map V.str from by
            have h := cut_to ((five ++ [fr, nw]).map V.str) 5 (by rw [List.length_map, List.length_append, f5]; exact Nat.le_add_right _ _)
            have h2 : cutV ((five ++ [fr, nw]).map V.str) none (some (5 : Int)) = ((five ++ [fr, nw]).map V.str).take 5 := h
            rw [h2, ← List.map_take, List.take_append_of_le_length (by omega), List.take_of_length_le (by omega)]]
          have c1 := same_upd (o := .lst (five.map V.str)) nb
          have hb1 := upd_same (H := M0) (a := b) (o := .lst (five.map V.str))
          generalize upd M0 b (.lst (five.map V.str)) = M1 at c1 hb1 ⊢
          have bs := fresh_src hM0.src nb
          have hdp := hM0.same c1
          refine ⟨b, rfl, ⟨_, SqL.of hb1⟩, fun S nD => ?_⟩
          have Ds := fresh_src hdp.src nD
          refine lc_list (K := K) (a := b) (xs := five.map V.str) (fun j J' => Keep s M1 J' ∧ Src J' s ∧ ∃ zs, J' S = some (.lst (zs.map V.str)) ∧ zs.length ≤ j ∧ ∀ z ∈ zs, z ∈ five)
            ⟨(Keep.of (same_upd nD)), hdp.src.put Ds, [], upd_same, Nat.le_refl _, fun _ h => nomatch h⟩ (fun j J' hj z => SqL.of (z.1 b _ bs hb1)) ?_ ?_
          · rintro j u J' hu ⟨kj, srj, zs, hD, lz, iz⟩
            rw [List.getElem?_map] at hu
            obtain ⟨z, hz, rfl⟩ := Option.map_eq_some_iff.mp hu
            have jl := (List.getElem?_eq_some_iff.mp hz).1
            refine ⟨rfl, _, rfl, s, 2, rfl, srj, (by decide), (by decide), fun d J2 d0 d1 sr2 k2 => ⟨rfl, _, rfl, ?_⟩⟩
            have hD2 := k2 S _ Ds hD
            by_cases c : V.int d = V.int 0
            · rw [decide_eq_true c]
              refine iteT ⟨_, rfl, _, hD2, small1000 (by rw [List.length_map]; omega), (kj.trans k2).put nD, sr2.put Ds, zs ++ [z], ?_, by rw [List.length_append]; exact Nat.succ_le_succ lz, fun y hy => ?_⟩
              · rw [upd_same, List.map_append]
                rfl
              · rcases List.mem_append.mp hy with h | h
                · exact iz y h
                · rw [List.mem_singleton.mp h]
                  exact List.mem_of_getElem? hz
            · rw [decide_eq_false c]
              exact iteF ⟨kj.trans k2, sr2, zs, hD2, Nat.le_succ_of_le lz, iz⟩
          rintro M2 ⟨k2, sr2, zs, hS2, lz, iz⟩
          rw [List.length_map, f5] at lz
          have hM2 := hdp.draw k2 sr2
          have k02 : Keep s M0 M2 := (Keep.of c1).trans k2
          have Ss := Ds
          have zNm : ∀ z ∈ zs, z ∈ nms (plainL (five ++ [fr, nw])) := fun z hz => by rw [enP]; exact fiveIn z (iz z hz)
          have zfr : fr ∉ zs := fun h => frOut (iz _ h)
          have znw : nw ∉ zs := fun h => nwOut (iz _ h)
          refine ⟨_, rfl, _, rfl, (by show 1 ≤ sizeLine; decide), fun e1 ne1 => ?_⟩
          have c3 := same_upd (o := .lst [.str fr]) ne1
          have h3 := upd_same (H := M2) (a := e1) (o := .lst [.str fr])
          generalize upd M2 e1 (.lst [.str fr]) = M3 at c3 h3 ⊢
          have hS3 := c3 _ _ hS2
          refine ⟨S, e1, _, _, rfl, rfl, hS3, h3, by rw [List.length_map, sizeLine_eq]; show zs.length + 1 ≤ _; omega, fun b2 nb2 => ?_⟩
          have ezf : zs.map V.str ++ [V.str fr] = (zs ++ [fr]).map V.str := by
            rw [List.map_append]
            rfl
          rw [ezf]
          have c4 := same_upd (o := .lst ((zs ++ [fr]).map V.str)) nb2
          have h4 := upd_same (H := M3) (a := b2) (o := .lst ((zs ++ [fr]).map V.str))
          generalize upd M3 b2 (.lst ((zs ++ [fr]).map V.str)) = M4 at c4 h4 ⊢
          have lzf : (zs ++ [fr]).length ≤ 6 := by rw [List.length_append]; show zs.length + 1 ≤ 6; omega
          refine ⟨b2, rfl, ⟨_, SqL.of h4⟩, fun D2 nD2 => ?_⟩
          refine lc_list (K := K) (a := b2) (xs := (zs ++ [fr]).map V.str) (fun j J => Same M4 J ∧ ∃ us, J D2 = some (.lst us) ∧ DpAll K J us (((zs ++ [fr]).take j).map fun z => lf z 1)) ⟨same_upd nD2, [], upd_same, .nil⟩ (fun j J hj z => SqL.of (z.1 _ _ h4)) ?_ ?_
          · rintro j u J hu ⟨sm, us, hD, ha⟩
            rw [List.getElem?_map] at hu
            obtain ⟨z, hz, rfl⟩ := Option.map_eq_some_iff.mp hu
            have jl := (List.getElem?_eq_some_iff.mp hz).1
            have lu := dpAll_len ha
            rw [List.length_map, List.length_take] at lu
            refine ⟨rfl, _, rfl, (by show 2 ≤ sizeLine; decide), fun t nt => ?_⟩
            have s1 := same_upd (o := .tup [.str z, .int 1]) nt
            have h1 := upd_same (H := J) (a := t) (o := .tup [.str z, .int 1])
            generalize upd J t (.tup [.str z, .int 1]) = J1 at s1 h1 ⊢
            have hD1 := s1 _ _ hD
            have stc := stay_upd (o := .lst (us ++ [.ref t])) hD1
            refine ⟨us, hD1, small1000 (by have := lzf; omega), same_past nD2 (sm.trans s1), us ++ [.ref t], upd_same, ?_⟩
            rw [List.take_add_one, hz, List.map_append]
            exact dpAll_app (dpAll_stay stc (dpAll_same s1 ha) (lfs_flat _)) (.cons (dp_stay stc (.tup (SqT.of h1) (.cons (.str _) (.cons (.int _) .nil))) rfl) .nil)
          rintro M5 ⟨s45, ws5, hD5, ha5⟩
          rw [List.length_map, List.take_length] at ha5
          refine ⟨D2, _, rfl, .inl ⟨SqL.of hD5, fun t6 nt6 => ?_⟩⟩
          have c6 := same_upd (o := .tup ws5) nt6
          have h6 := upd_same (H := M5) (a := t6) (o := .tup ws5)
          generalize upd M5 t6 (.tup ws5) = M6 at c6 h6 ⊢
          refine ⟨(by show 2 ≤ sizeLine; decide), fun it nit => ?_⟩
          have c7 := same_upd (o := .tup [.str "all", .ref t6]) nit
          have h7 := upd_same (H := M6) (a := it) (o := .tup [.str "all", .ref t6])
          generalize upd M6 it (.tup [.str "all", .ref t6]) = M7 at c7 h7 ⊢
          have s27 := (((c3.trans c4).trans s45).trans c6).trans c7
          have hitem : Dp K M7 (.ref it) (.tuple [.str "all", .tuple ((zs ++ [fr]).map fun z => lf z 1)]) := .tup (SqT.of h7) (.cons (.str _) (.cons (.tup (SqT.of (c7 _ _ h6)) (dpAll_same (c6.trans c7) ha5)) .nil))
          have hS7 := s27 _ _ hS2
          refine ⟨_, rfl, S, _, rfl, .inl (SqL.of hS7), fun pl npl => ?_⟩
          have c8 := same_upd (o := .lst (zs.map V.str)) npl
          have h8 := upd_same (H := M7) (a := pl) (o := .lst (zs.map V.str))
          generalize upd M7 pl (.lst (zs.map V.str)) = M8 at c8 h8 ⊢
          have s28 := s27.trans c8
          have hM8 := hM2.same s28
          have hq8' : M8 q = some (.lst us) := s28 _ _ (k02 q _ qs hqM)
          have hl8 : DpAll K M8 us (lts.map lotD) := dpAll_stayT ((stM0.trans (StayT.of (k02.stay hM0.src))).trans (StayT.of (Stay.of s28))) hl9 (lots_flat lts)
          have lus8 := dpAll_len hl8
          rw [List.length_map] at lus8
          -- many, present
          refine ⟨_, rfl, q, rfl, ⟨_, SqL.of hq8'⟩, ?_⟩
          refine for_list (K := K) (a := q) (xs := us) (fun j σ J => ∃ v10 P mv, σ = [some (.ref a), some (.int (0 + (i : Int))), some (.ref s), some (.int (0 + (t : Int))), some (.ref L), some (.ref x), some (.str nw), some (.str fr), some (.ref q), v9, v10, some (.ref LY), some (.int (0 + (e : Int))), some (.ref S), some (.ref it), some (.ref P), some (.int mv), v17, v18, v19] ∧ Same M8 J ∧ mv = ((foldL (lts.take j) (0, zs)).1 : Nat) ∧ J P = some (.lst ((foldL (lts.take j) (0, zs)).2.map V.str)))
            ⟨v10, pl, 0, rfl, Same.refl M8, rfl, h8⟩ (fun j σ J hj ⟨_, _, _, _, sm, _⟩ => SqL.of (sm _ _ hq8')) ?_ ?_
          · rintro j u σ J hu ⟨v10, P, mv, rfl, sm, hmv, hP⟩
            obtain ⟨e0, he0, hud⟩ := dpAll_at hl8 hu
            rw [List.getElem?_map] at he0
            obtain ⟨l, hl, rfl⟩ := Option.map_eq_some_iff.mp he0
            have hud := dp_same sm hud
            obtain ⟨lt_, xs_, rfl, hlt_, hxs_⟩ : ∃ a xs, u = .ref a ∧ SqT K J a xs ∧ xs = l.map V.str := by
              obtain ⟨a, e, hs⟩ := dp_strs hud
              exact ⟨a, _, e, hs, rfl⟩
            subst hxs_
            generalize hfz : foldL (lts.take j) (0, zs) = fz at hP ⊢
            have nxt : foldL (lts.take (j + 1)) (0, zs) = stepL l fz := by
              rw [List.take_add_one, hl, ← hfz, foldL_app]
              rfl
            have lfz : fz.2.length ≤ 5 := by
              obtain ⟨qq, hqq⟩ := foldL_filter (lts.take j) 0 zs
              rw [← hfz, hqq]
              exact Nat.le_trans (List.length_filter_le _ _) lz
            refine ⟨_, rfl, _, rfl, P, rfl, ⟨_, SqL.of hP⟩, fun D nD => ?_⟩
            refine lc_list (K := K) (a := P) (xs := fz.2.map V.str) (fun j J' => Same J J' ∧ J' D = some (.lst (((fz.2.take j).filter (memB l)).map V.str))) ⟨same_upd nD, upd_same⟩ (fun j J' hj z => SqL.of (z.1 _ _ hP)) ?_ ?_
            · rintro j2 u2 J' hu2 ⟨sm2, hD⟩
              rw [List.getElem?_map] at hu2
              obtain ⟨z, hz, rfl⟩ := Option.map_eq_some_iff.mp hu2
              have jl := (List.getElem?_eq_some_iff.mp hz).1
              refine ⟨rfl, _, rfl, _, rfl, lt_, _, rfl, .inr (Same.tup sm2 hlt_), rfl, flat_strs _, _, rfl, ?_⟩
              rw [show (if false = true then !inV (V.str z) (l.map V.str) else inV (V.str z) (l.map V.str)) = memB l z from by rw [if_neg Bool.false_ne_true, inV_str]; rfl]
              rw [List.take_add_one, hz, List.filter_append]
              cases hm : memB l z with
              | true =>
                refine iteT ⟨_, rfl, _, hD, small1000 ?_, same_past nD sm2, ?_⟩
                · rw [List.length_map]
                  exact Nat.le_trans (List.length_filter_le _ _) (by rw [List.length_take]; omega)
                · rw [upd_same, show (some z).toList = [z] from rfl, List.filter_cons_of_pos hm, List.map_append]
                  rfl
              | false =>
                refine iteF ⟨sm2, ?_⟩
                rw [show (some z).toList = [z] from rfl, List.filter_cons_of_neg (by rw [hm]; exact Bool.false_ne_true), List.filter_nil, List.append_nil]
                exact hD
            rintro J' ⟨smj, hDj⟩
            rw [List.length_map, List.take_length] at hDj
            refine ⟨Nat.zero_le _, fun e2 ne2 => ?_⟩
            have c2 := same_upd (o := .lst []) ne2
            have h2 := upd_same (H := J') (a := e2) (o := .lst [])
            generalize upd J' e2 (.lst []) = J2 at c2 h2 ⊢
            have shv : ∀ l : List Str, (∀ z ∈ l, z ∈ five) → l.length ≤ 900 → okD (.list (l.map .str)) = true ∧ SeqAt.shaped (.list (l.map .str)) = true := fun l h ll => by
              have o1 : okD (.list (l.map .str)) = true := by
                show (decide ((l.map PyData.str).length ≤ 1000) && okAll (l.map PyData.str)) = true
                rw [List.length_map, decide_eq_true (by omega)]
                exact okAll_of fun d hd => by
                  obtain ⟨z, hz, rfl⟩ := List.mem_map.mp hd
                  exact name_ok (nok z (fiveIn z (h z hz)))
              refine ⟨o1, shaped_of o1 ?_⟩
              show PyData.depthAll (l.map PyData.str) + 1 ≤ 60
              have : PyData.depthAll (l.map PyData.str) ≤ 0 := depAll_le fun d hd => by
                obtain ⟨z, _, rfl⟩ := List.mem_map.mp hd
                exact Nat.le_refl _
              omega
            have fsub : ∀ z ∈ fz.2, z ∈ five := fun z hz => iz z (by
              have h := foldL_sub (lts.take j) (0, zs) z
              rw [hfz] at h
              exact h hz)
            have shF := shv (fz.2.filter (memB l)) (fun z hz => fsub z (List.mem_filter.mp hz).1) (Nat.le_trans (List.length_filter_le _ _) (by omega))
            refine ⟨_, _, .lst (SqL.of (c2 _ _ hDj)) (dpAll_strsA _), .lst (SqL.of h2) .nil, shF.2, by decide +kernel, .inr ⟨_, rfl, _, _, rfl, rfl, ?_⟩⟩
            rw [eqv_nilL shF.1]
            have s2 := smj.trans c2
            refine ⟨_, rfl, P, rfl, ⟨_, SqL.of (s2 _ _ hP)⟩, fun D2 nD2 => ?_⟩
            refine lc_list (K := K) (a := P) (xs := fz.2.map V.str) (fun j J' => Same J2 J' ∧ J' D2 = some (.lst (((fz.2.take j).filter (fun z => !memB l z)).map V.str))) ⟨same_upd nD2, upd_same⟩ (fun j J' hj z => SqL.of (z.1 _ _ (s2 _ _ hP))) ?_ ?_
            · rintro j2 u2 J' hu2 ⟨sm2, hD⟩
              rw [List.getElem?_map] at hu2
              obtain ⟨z, hz, rfl⟩ := Option.map_eq_some_iff.mp hu2
              have jl := (List.getElem?_eq_some_iff.mp hz).1
              refine ⟨rfl, _, rfl, _, rfl, lt_, _, rfl, .inr (Same.tup (s2.trans sm2) hlt_), rfl, flat_strs _, _, rfl, ?_⟩
              rw [show (if true = true then !inV (V.str z) (l.map V.str) else inV (V.str z) (l.map V.str)) = !memB l z from by rw [if_pos rfl, inV_str]; rfl]
              rw [List.take_add_one, hz, List.filter_append]
              cases hm : memB l z with
              | false =>
                refine iteT ⟨_, rfl, _, hD, small1000 ?_, same_past nD2 sm2, ?_⟩
                · rw [List.length_map]
                  exact Nat.le_trans (List.length_filter_le _ _) (by rw [List.length_take]; omega)
                · rw [upd_same, show (some z).toList = [z] from rfl, List.filter_cons_of_pos (by show (!memB l z) = true; rw [hm]; rfl), List.map_append]
                  rfl
              | true =>
                refine iteF ⟨sm2, ?_⟩
                rw [show (some z).toList = [z] from rfl, List.filter_cons_of_neg (by show ¬ (!memB l z) = true; rw [hm]; exact Bool.false_ne_true), List.filter_nil, List.append_nil]
                exact hD
            rintro J3 ⟨sm3, hD3⟩
            rw [List.length_map, List.take_length] at hD3
            refine ⟨_, D2, _, rfl, (sm.trans s2).trans sm3, ?_, ?_⟩
            · rw [nxt, hmv, hfz]
              unfold stepL
              by_cases c : fz.2.filter (memB l) = []
              · rw [decide_eq_true c, if_pos c]
                rfl
              · rw [decide_eq_false c, if_neg c]
                show ((fz.1 : Nat) : Int) + 1 = ((fz.1 + 1 : Nat) : Int)
                omega
            · rw [nxt]
              exact hD3
          · rintro σ J ⟨v10, P, mv, rfl, sm, hmv, hP⟩
            rw [lus8, List.take_length] at hP hmv
            generalize hfz : foldL lts (0, zs) = fz at hP hmv
            obtain ⟨qf, hqf⟩ := foldL_filter lts 0 zs
            rw [hfz] at hqf
            have fsub : ∀ z ∈ fz.2, z ∈ zs := fun z hz => by
              rw [hqf] at hz
              exact (List.mem_filter.mp hz).1
            have lfz : fz.2.length ≤ 5 := by
              rw [hqf]
              exact Nat.le_trans (List.length_filter_le _ _) lz
            have mfz : fz.1 ≤ 5 := by
              have h := foldL_le lts (0, zs)
              rw [hfz] at h
              omega
            have eback : (zs ++ [fr]).filter (memB (fz.2 ++ [fr])) = fz.2 ++ [fr] := by
              rw [hqf]
              exact filter_back zfr qf
            have hSJ := (c8.trans sm) _ _ hS7
            have hMJ := hM8.same sm
            -- left
            refine ⟨_, rfl, _, rfl, (by show 1 ≤ sizeLine; decide), fun e5 ne5 => ?_⟩
            have d1 := same_upd (o := .lst [.str fr]) ne5
            have g1 := upd_same (H := J) (a := e5) (o := .lst [.str fr])
            generalize upd J e5 (.lst [.str fr]) = N1 at d1 g1 ⊢
            refine ⟨S, e5, _, _, rfl, rfl, d1 _ _ hSJ, g1, by rw [List.length_map, sizeLine_eq]; show zs.length + 1 ≤ _; omega, fun b5 nb5 => ?_⟩
            rw [ezf]
            have d2 := same_upd (o := .lst ((zs ++ [fr]).map V.str)) nb5
            have g2 := upd_same (H := N1) (a := b5) (o := .lst ((zs ++ [fr]).map V.str))
            generalize upd N1 b5 (.lst ((zs ++ [fr]).map V.str)) = N2 at d2 g2 ⊢
            have hP2 := (d1.trans d2) _ _ hP
            refine ⟨b5, rfl, ⟨_, SqL.of g2⟩, fun D5 nD5 => ?_⟩
            refine lc_list (K := K) (a := b5) (xs := (zs ++ [fr]).map V.str) (fun j J => Same N2 J ∧ ∃ us, J D5 = some (.lst us) ∧ DpAll K J us ((((zs ++ [fr]).take j).filter (memB (fz.2 ++ [fr]))).map fun z => lf z 1)) ⟨same_upd nD5, [], upd_same, .nil⟩ (fun j J hj z => SqL.of (z.1 _ _ g2)) ?_ ?_
            · rintro j u J hu ⟨sm, us, hD, ha⟩
              rw [List.getElem?_map] at hu
              obtain ⟨z, hz, rfl⟩ := Option.map_eq_some_iff.mp hu
              have jl := (List.getElem?_eq_some_iff.mp hz).1
              have lu := dpAll_len ha
              rw [List.length_map] at lu
              have lu2 : ((((zs ++ [fr]).take j).filter (memB (fz.2 ++ [fr])))).length ≤ 6 := Nat.le_trans (List.length_filter_le _ _) (by rw [List.length_take]; omega)
              refine ⟨rfl, _, rfl, _, rfl, _, rfl, (by show 1 ≤ sizeLine; decide), fun e6 ne6 => ?_⟩
              have s1 := same_upd (o := .lst [.str fr]) ne6
              have h1 := upd_same (H := J) (a := e6) (o := .lst [.str fr])
              generalize upd J e6 (.lst [.str fr]) = J1 at s1 h1 ⊢
              refine ⟨P, e6, _, _, rfl, rfl, (sm.trans s1) _ _ hP2, h1, by rw [List.length_map, sizeLine_eq]; show fz.2.length + 1 ≤ _; omega, fun b6 nb6 => ?_⟩
              rw [show fz.2.map V.str ++ [V.str fr] = (fz.2 ++ [fr]).map V.str from by
                rw [List.map_append]
                rfl]
              have s2 := same_upd (o := .lst ((fz.2 ++ [fr]).map V.str)) nb6
              have h2 := upd_same (H := J1) (a := b6) (o := .lst ((fz.2 ++ [fr]).map V.str))
              generalize upd J1 b6 (.lst ((fz.2 ++ [fr]).map V.str)) = J2 at s2 h2 ⊢
              have s02 := s1.trans s2
              refine ⟨b6, _, rfl, .inl (SqL.of h2), rfl, flat_strs _, _, rfl, ?_⟩
              rw [show (if false = true then !inV (V.str z) ((fz.2 ++ [fr]).map V.str) else inV (V.str z) ((fz.2 ++ [fr]).map V.str)) = memB (fz.2 ++ [fr]) z from by rw [if_neg Bool.false_ne_true, inV_str]; rfl]
              rw [List.take_add_one, hz, List.filter_append]
              have hD2 := s02 _ _ hD
              cases hm : memB (fz.2 ++ [fr]) z with
              | true =>
                refine iteT ⟨_, rfl, (by show 2 ≤ sizeLine; decide), fun t nt => ?_⟩
                have s3 := same_upd (o := .tup [.str z, .int 1]) nt
                have h3 := upd_same (H := J2) (a := t) (o := .tup [.str z, .int 1])
                generalize upd J2 t (.tup [.str z, .int 1]) = J3 at s3 h3 ⊢
                have s03 := s02.trans s3
                have hD3 := s3 _ _ hD2
                have stc := stay_upd (o := .lst (us ++ [.ref t])) hD3
                refine ⟨us, hD3, small1000 (by omega), same_past nD5 (sm.trans s03), us ++ [.ref t], upd_same, ?_⟩
                rw [show (some z).toList = [z] from rfl, List.filter_cons_of_pos hm, List.map_append]
                exact dpAll_app (dpAll_stay stc (dpAll_same s03 ha) (lfs_flat _)) (.cons (dp_stay stc (.tup (SqT.of h3) (.cons (.str _) (.cons (.int _) .nil))) rfl) .nil)
              | false =>
                refine iteF ⟨sm.trans s02, us, hD2, ?_⟩
                rw [show (some z).toList = [z] from rfl, List.filter_cons_of_neg (by rw [hm]; exact Bool.false_ne_true), List.filter_nil, List.append_nil]
                exact dpAll_same s02 ha
            rintro N3 ⟨d3, us3, hD3, ha3⟩
            rw [List.length_map, List.take_length, eback] at ha3
            refine ⟨D5, _, rfl, .inl ⟨SqL.of hD3, fun t7 nt7 => ?_⟩⟩
            have d4 := same_upd (o := .tup us3) nt7
            have g4 := upd_same (H := N3) (a := t7) (o := .tup us3)
            generalize upd N3 t7 (.tup us3) = N4 at d4 g4 ⊢
            refine ⟨(by show 2 ≤ sizeLine; decide), fun lf_ nlf_ => ?_⟩
            have d5 := same_upd (o := .tup [.str "all", .ref t7]) nlf_
            have g5 := upd_same (H := N4) (a := lf_) (o := .tup [.str "all", .ref t7])
            generalize upd N4 lf_ (.tup [.str "all", .ref t7]) = N5 at d5 g5 ⊢
            have d15 := (((d1.trans d2).trans d3).trans d4).trans d5
            have hleft : Dp K N5 (.ref lf_) (.tuple [.str "all", .tuple ((fz.2 ++ [fr]).map fun z => lf z 1)]) := .tup (SqT.of g5) (.cons (.str _) (.cons (.tup (SqT.of (d5 _ _ g4)) (dpAll_same (d4.trans d5) ha3)) .nil))
            have s85 := (c8.trans sm).trans d15
            have hN5 := hMJ.same d15
            have st95 : StayT H8 N5 := ((stM0.trans (StayT.of (k02.stay hM0.src))).trans (StayT.of (Stay.of s27))).trans (StayT.of (Stay.of s85))
            have nokP : ∀ z ∈ nms (plainL (five ++ [fr, nw])), NameOk z := by rw [enP]; exact nok
            have nst := nms_star nok
            have l7P : (nms (plainL (five ++ [fr, nw]))).length ≤ 7 := by rw [enP, List.length_append, f5]; exact Nat.le_refl _
            have nwP : nw ∈ nms (plainL (five ++ [fr, nw])) := by rw [enP]; exact nwIn
            have zin : ∀ z ∈ zs ++ [fr], z ∈ five ++ [fr, nw] := fun z hz => by
              rcases List.mem_append.mp hz with h | h
              · exact fiveIn z (iz z h)
              · rw [List.mem_singleton.mp h]
                exact frIn
            have nwl : ∀ l ∈ lts, nw ∉ l := fun l hl h => nwOut ((each l hl).2.2 nw h)
            have frl : ∀ l ∈ lts, fr ∉ l := fun l hl h => frOut ((each l hl).2.2 fr h)
            have nwz : nw ∉ zs ++ [fr] := fun h => by
              rcases List.mem_append.mp h with h | h
              · exact znw h
              · exact nwfr (List.mem_singleton.mp h)
            obtain ⟨⟨p1, p2, p3, p4, p5, p6, p7, p8, p9, p10⟩, ⟨q1, q2, q3, q4, q5, q6⟩, bsz, flG, lenG⟩ := stk_runs (C := C) (TT := TT) (zs := zs ++ [fr]) (w := nw) nokP l7P hN5.kinH hN5.tabs nwP hlt l5 (dp_stayT st95 hlay (noListAll_of fun e he => by
              obtain ⟨cs, hcs, rfl⟩ := List.mem_map.mp he
              exact (stk_g nok nwIn (fun l hl => ⟨(each l hl).1, (each l hl).2.1, fun z hz => fiveIn z ((each l hl).2.2 z hz)⟩) cs hcs).1.flat)) (fun z hz => by rw [enP]; exact zin z hz) (by rw [List.length_append]; exact Nat.le_add_left _ _) (by omega) (dp_same s85 hitem)
            have hh := stk_hand (T := T2) und nst nwIn nwl frl zin nwz
            rw [hfz, allD_one, wr_some] at hh
            refine ⟨_, rfl, _, rfl, _, rfl, x, .ref LY, .ref it, plainL (five ++ [fr, nw]), ls', T2, 0, stkG nw lts, _, rfl, p1, p2, p3, p4, p5, p6, p7, p8, p9, p10, q1, q2, q3, q4, q5, q6, Int.le_refl _, fun J5 u5 k5 tb5 hu5 => ?_⟩
            rw [hh] at hu5 bsz
            have hJ5 := hN5.ran k5 tb5
            obtain ⟨bo, bd⟩ := bsz _ rfl
            refine ⟨_, rfl, _, rfl, .ref lf_, fz.1, _, (by rw [hmv]; rfl), by omega, dp_stayT k5.stay hleft (by show (true && (noListAll ((fz.2 ++ [fr]).map fun z => lf z 1) && true)) = true; rw [lfs_flat]; rfl), fun J6 u6 s6 hu6 => ?_⟩
            have shW := shaped_of bo (by omega)
            refine ⟨_, _, dp_same s6 hu5, hu6, shW, shW, _, rfl, ?_⟩
            rw [eqv_self bo]
            refine iteF ?_
            have hJ6 := hJ5.same s6
            -- bare
            have kS6 : KeepS s N5 J6 := (KeepS.ofW k5).trans (KeepS.ofS s6)
            have hS6 := kS6 S (.lst (zs.map V.str)) Ss (fun _ z => nomatch z) (d15 _ _ hSJ)
            have hP6 := kS6 P (.lst (fz.2.map V.str)) (fun z => by
              have l := hMJ.src.ne hP
              exact l z) (fun _ z => nomatch z) (d15 _ _ hP)
            refine ⟨_, rfl, S, rfl, ⟨_, SqL.of hS6⟩, fun D6 nD6 => ?_⟩
            refine lc_list (K := K) (a := S) (xs := (zs).map V.str) (fun j J => Same J6 J ∧ ∃ us, J D6 = some (.lst us) ∧ DpAll K J us (((zs).take j).map fun z => lf z 1)) ⟨same_upd nD6, [], upd_same, .nil⟩ (fun j J hj z => SqL.of (z.1 _ _ hS6)) ?_ ?_
            · rintro j u J hu ⟨sm, us, hD, ha⟩
              rw [List.getElem?_map] at hu
              obtain ⟨z, hz, rfl⟩ := Option.map_eq_some_iff.mp hu
              have jl := (List.getElem?_eq_some_iff.mp hz).1
              have lu := dpAll_len ha
              rw [List.length_map, List.length_take] at lu
              refine ⟨rfl, _, rfl, (by show 2 ≤ sizeLine; decide), fun t nt => ?_⟩
              have s1 := same_upd (o := .tup [.str z, .int 1]) nt
              have h1 := upd_same (H := J) (a := t) (o := .tup [.str z, .int 1])
              generalize upd J t (.tup [.str z, .int 1]) = J1 at s1 h1 ⊢
              have hD1 := s1 _ _ hD
              have stc := stay_upd (o := .lst (us ++ [.ref t])) hD1
              refine ⟨us, hD1, small1000 (by have := lz; omega), same_past nD6 (sm.trans s1), us ++ [.ref t], upd_same, ?_⟩
              rw [List.take_add_one, hz, List.map_append]
              exact dpAll_app (dpAll_stay stc (dpAll_same s1 ha) (lfs_flat _)) (.cons (dp_stay stc (.tup (SqT.of h1) (.cons (.str _) (.cons (.int _) .nil))) rfl) .nil)
            rintro J7_ ⟨s67, us7, hD7, ha7⟩
            rw [List.length_map, List.take_length] at ha7
            refine ⟨D6, _, rfl, .inl ⟨SqL.of hD7, fun t8 nt8 => ?_⟩⟩
            have c8_ := same_upd (o := .tup us7) nt8
            have h8_ := upd_same (H := J7_) (a := t8) (o := .tup us7)
            generalize upd J7_ t8 (.tup us7) = J8_ at c8_ h8_ ⊢
            refine ⟨(by show 2 ≤ sizeLine; decide), fun br nbr => ?_⟩
            have c9_ := same_upd (o := .tup [.str "all", .ref t8]) nbr
            have h9_ := upd_same (H := J8_) (a := br) (o := .tup [.str "all", .ref t8])
            generalize upd J8_ br (.tup [.str "all", .ref t8]) = J9_ at c9_ h9_ ⊢
            have s69 := (s67.trans c8_).trans c9_
            have hbare : Dp K J9_ (.ref br) (.tuple [.str "all", .tuple (zs.map fun z => lf z 1)]) := .tup (SqT.of h9_) (.cons (.str _) (.cons (.tup (SqT.of (c9_ _ _ h8_)) (dpAll_same (c8_.trans c9_) ha7)) .nil))
            have hJ9 := hJ6.same s69
            have shv : ∀ l : List Str, (∀ z ∈ l, z ∈ five) → l.length ≤ 900 → okD (.list (l.map .str)) = true ∧ SeqAt.shaped (.list (l.map .str)) = true := fun l h ll => by
              have o1 : okD (.list (l.map .str)) = true := by
                show (decide ((l.map PyData.str).length ≤ 1000) && okAll (l.map PyData.str)) = true
                rw [List.length_map, decide_eq_true (by omega)]
                exact okAll_of fun d hd => by
                  obtain ⟨z, hz, rfl⟩ := List.mem_map.mp hd
                  exact name_ok (nok z (fiveIn z (h z hz)))
              refine ⟨o1, shaped_of o1 ?_⟩
              show PyData.depthAll (l.map PyData.str) + 1 ≤ 60
              have : PyData.depthAll (l.map PyData.str) ≤ 0 := depAll_le fun d hd => by
                obtain ⟨z, _, rfl⟩ := List.mem_map.mp hd
                exact Nat.le_refl _
              omega
            have shZ := shv zs iz (by omega)
            have shF := shv fz.2 (fun z hz => iz z (fsub z hz)) (by omega)
            refine q_nxsB (r := _) (b := _) (c := _) ?_
            refine q_joinB (R := fun σ' J => σ' = [some (.ref a), some (.int (0 + (i : Int))), some (.ref s), some (.int (0 + (t : Int))), some (.ref L), some (.ref x), some (.str nw), some (.str fr), some (.ref q), v9, v10, some (.ref LY), some (.int (0 + (e : Int))), some (.ref S), some (.ref it), some (.ref P), some (.int mv), some (.ref lf_), some (.ref br), v19] ∧ KeepW (fun _ => False) J9_ J ∧ Tabs TT J) ?_ ?_
            · rintro σ' JA ⟨rfl, kA, tbA⟩
              have hJA := hJ9.ran kA tbA
              have st9A : StayT N5 JA := (((k5.stay).trans (StayT.of (Stay.of s6))).trans (StayT.of (Stay.of s69))).trans kA.stay
              have hpas : spPsg C TT K 1 [.ref x, .ref LY, .ref it] JA (pasJ TT K T2 1 (stkG nw lts) (.tuple [.str "all", .tuple ((zs ++ [fr]).map fun z => lf z 1)])) :=
                ⟨x, .ref LY, .ref it, plainL (five ++ [fr, nw]), ls', T2, stkG nw lts, _, rfl, hJA.kinH, tbA, p3, p4, dp_stayT st9A p5 flG, p6, p7, p8, p9, p10, dp_stayT st9A q1 q2.flat, q2, q3, q4, q5, q6, rfl⟩
              have full := stk_full (T := T2) und nst nwIn nwl frl zin nwz
              refine ⟨_, rfl, _, rfl, _, rfl, _, hpas, fun D nD => ⟨fun j acc J => KeepW (fun _ => False) JA J ∧ Tabs TT J ∧ J D = some (.lst acc) ∧ acc.length = j, ⟨KeepW.of (same_upd nD), tabs_same tbA (same_upd nD), upd_same, rfl⟩, ?_⟩⟩
              rintro j acc J hj ⟨kw, tbj, hD, lacc⟩
              refine ⟨hD, fun e HE ⟨kE, tE⟩ => ?_, fun hlt u HY ⟨ky, ty, o, ho, hod⟩ => ?_⟩
              · have e : j = (statD T2 0 1 (stkG nw lts) (.tuple [.str "all", .tuple ((zs ++ [fr]).map fun z => lf z 1)]) []).1.length := e
                have kwE := kw.trans kE
                have lyE := dp_stayT (st9A.trans kwE.stay) p5 flG
                obtain ⟨xs9, hxs9, hxl⟩ : ∃ xs, SqT K HE LY xs ∧ xs.length = (stkG nw lts).length := by
                  cases lyE with
                  | tup hs ha =>
                    have l := dpAll_len ha
                    rw [List.length_map] at l
                    exact ⟨_, hs, l⟩
                refine ⟨D, acc, rfl, .inl (SqL.of (kE.lst hD id)), _, rfl, LY, xs9, rfl, .inr hxs9, rfl, _, rfl, ?_⟩
                rw [hxl, lacc, e, full, decide_eq_true rfl]
                refine iteF ?_
                have kAll : KeepS s M0 HE := ((((KeepS.of k02).trans (KeepS.ofS (s27.trans s85))).trans kS6).trans (KeepS.ofS s69)).trans (KeepS.ofW (kA.trans kwE))
                exact ⟨_, _, _, _, _, _, _, _, _, rfl, kM0.trans kAll, hJA.ran kwE (tE tbj)⟩
              · have hDY := ky.lst hD id
                have hlt : j < (statD T2 0 1 (stkG nw lts) (.tuple [.str "all", .tuple ((zs ++ [fr]).map fun z => lf z 1)]) []).1.length := hlt
                refine ⟨hDY, by rw [sizeLine_eq]; omega, ?_⟩
                have kp := KeepW.updL (W := fun b => b = D) (ys := acc ++ [u]) rfl hDY
                have tbu := tabs_mine (H0 := fun _ => none) (ty tbj) (Mine.upd (o := .lst (acc ++ [u])) (fun ⟨_, z, _⟩ => nomatch z) hDY)
                exact ⟨KeepW.own (((kw.trans ky).weak (W' := fun b => b = D) fun _ z => z.elim).trans kp) (Same.refl JA) fun b hb => .inr (by rw [show b = D from hb]; exact nD), tbu, upd_same, by rw [List.length_append, lacc]; rfl⟩
            · intro N hN
              have hS9 := s69 _ _ hS6
              have hP9 := s69 _ _ hP6
              refine ⟨_, rfl, Nat.zero_le _, fun e7 ne7 => ?_⟩
              have f1 := same_upd (o := .lst []) ne7
              have i1 := upd_same (H := J9_) (a := e7) (o := .lst [])
              generalize upd J9_ e7 (.lst []) = K1_ at f1 i1 ⊢
              refine ⟨_, _, .lst (SqL.of (f1 _ _ hS9)) (dpAll_strsA _), .lst (SqL.of i1) .nil, shZ.2, by decide +kernel, _, rfl, ?_⟩
              rw [eqv_nilL shZ.1]
              by_cases cz : zs = []
              · rw [decide_eq_true cz]
                exact iteF (iteF (hN _ _ ⟨rfl, KeepW.of f1, tabs_same hJ9.tabs f1⟩))
              rw [decide_eq_false cz]
              refine iteT ⟨_, rfl, Nat.zero_le _, fun e8 ne8 => ?_⟩
              have f2 := same_upd (o := .lst []) ne8
              have i2 := upd_same (H := K1_) (a := e8) (o := .lst [])
              generalize upd K1_ e8 (.lst []) = K2_ at f2 i2 ⊢
              have f12 := f1.trans f2
              refine ⟨_, _, .lst (SqL.of (f12 _ _ hP9)) (dpAll_strsA _), .lst (SqL.of i2) .nil, shF.2, by decide +kernel, _, rfl, ?_⟩
              rw [eqv_nilL shF.1]
              by_cases cf : fz.2 = []
              · rw [decide_eq_true cf]
                have hK2 := hJ9.same f12
                have st9K : StayT N5 K2_ := (((k5.stay).trans (StayT.of (Stay.of s6))).trans (StayT.of (Stay.of s69))).trans (StayT.of (Stay.of f12))
                obtain ⟨⟨r1, r2, r3, r4, r5, r6, r7, r8, r9, r10⟩, ⟨t1, t2, t3, t4, t5, t6⟩, _, _, _⟩ := stk_runs (C := C) (TT := TT) (zs := zs) (w := nw) nokP l7P hK2.kinH hK2.tabs nwP hlt l5 (dp_stayT st9K p5 flG) zNm (List.length_pos_iff.mpr cz) (by omega) (dp_same f12 hbare)
                have hb := stk_bare (T := T2) und nst nwIn nwl (fun z hz => fiveIn z (iz z hz)) znw cz (by rw [hfz]; exact cf)
                refine iteT ⟨_, rfl, _, rfl, _, rfl, x, .ref LY, .ref br, plainL (five ++ [fr, nw]), ls', T2, 0, stkG nw lts, _, rfl, r1, r2, r3, r4, r5, r6, r7, r8, r9, r10, t1, t2, t3, t4, t5, t6, Int.le_refl _, fun JB u kB tbB huB => ?_⟩
                rw [hb] at huB
                obtain rfl : u = .non := huB
                exact ⟨rfl, _, rfl, iteF (hN _ _ ⟨rfl, (KeepW.of f12).trans kB, tbB⟩)⟩
              · rw [decide_eq_false cf]
                exact iteF (iteF (hN _ _ ⟨rfl, KeepW.of f12, tabs_same hJ9.tabs f12⟩))
        · rintro σ J ⟨v10, v12, v13, v14, v15, v16, v17, v18, v19, rfl, kM, hM⟩
          exact ⟨_, _, _, _, _, _, _, _, _, _, _, _, _, _, _, _, _, rfl, (kk5.trans kk9).trans kM, hM.src, hM.tabs⟩
      · rintro σ H2 ⟨v3, v4, v5, v6, v7, v8, v9, v10, v11, v12, v13, v14, v15, v16, v17, v18, v19, rfl, kp, sr2, tb2⟩
        exact ⟨_, _, _, _, _, _, _, _, _, _, _, _, _, _, _, _, _, _, _, rfl, fun b o e n => kp b o (ne_of_none (sm b o e n) nS) n (s1 _ _ (sm b o e n)), tb2⟩
    · rintro σ H0 ⟨v1, v2, v3, v4, v5, v6, v7, v8, v9, v10, v11, v12, v13, v14, v15, v16, v17, v18, v19, rfl, sm, tb⟩
      exact k _
end
end K1

namespace Own
open PySem PySem.Spec PyProof.Rows L2 LamX
/-! the end of a law where defs make lambdas: their tables of code objects are empty at first -/
abbrev Tabs0 := List (Addr × Addr)
def Tabs0.In (cs : Tabs0) (H : Hp) : Prop := ∀ p ∈ cs, H p.2 = some (.tbl #[])
/-- what is tracked at first: the script, perhaps, and the tables -/
def First (cs : Tabs0) (a : Addr) (o : Obj) (u : HO) (b : Addr) (x : Option HO) : Prop :=
  x = none ∨ (b = a ∧ x = some (.frz o u)) ∨ ((∃ p ∈ cs, p.2 = b) ∧ x = some (.tbl #[]))
section
variable {P : Program} {w : World} {K : PySem.W.Frag} {mg mb : Str → Option Value} {k : Nat} {fa a : Addr} {fd : FuncData} {x : Str} {sp : Sp} {s : Shared} {vs : List Value} {ns : List Int} {cs : Tabs0}
theorem scriptObj_ne (vs : List Value) (ps : Array Value) : scriptObj vs ≠ PySem.W.tabObj ps := fun z => by
  have z2 : (scriptObj vs).cls = (PySem.W.tabObj ps).cls := by rw [z]
  cases z2
theorem end_tabs {H : Hp} (kin : K.In s.heap) (hns : s.heap.Ns mainGlobals mg) (hb : s.heap.Ns builtinsNs mb) (hbb : ∀ x : Str, x ≠ "__name__" → mb x = bootBuiltins x) (nl : s.heap.NoLimit) (hg : s.gens = #[])
    (tabs : ∀ p ∈ cs, PySem.W.CodeHd s.heap p.1 p.2 ∧ s.heap.get? p.2 = some (PySem.W.tabObj #[])) (tabK : ∀ p ∈ cs, K.lookup p.2 = none)
    (bm : ∃ (m : Addr) (o : Obj), mg "__builtins__" = some (.ref m) ∧ m ≠ builtinsNs ∧ s.heap.get? m = some o ∧ o.cls = .type "module" ∧ o.dict = some builtinsNs ∧ o.data = .plain)
    (ha : s.heap.get? a = some (scriptObj vs)) (only : ∀ b, First cs a (scriptObj vs) (.lst (ns.map V.int)) b (H b)) (hcs : cs.In H) (out : H a ≠ none → K.lookup a = none) (hok : HOk P w H s.heap) (hr : Room k callerA)
    (F : ∀ base : Heap, K.In base → base.Ns mainGlobals mg → (∀ p ∈ cs, TabB base mg p.1 p.2) → FnG P w K mg base k fa fd [x] sp) (bind : ∀ (s : Shared) (u : Value), BindsTo s fd ⟨[u], []⟩ [(x, u)])
    (q : sp [.ref a] H (fun v _ => v = .bl true) fun _ _ _ => False) :
    codeAny (model P w) callerA (.call (.ref fa) ⟨[.ref a], []⟩) (fun r z => r = .ok (.ret (.bool true)) ∧ OldK s.heap z.heap ∧ z.os = s.os ∧ AllBare z.gens) s := by
  have away : ∀ {b : Addr} {o : Obj}, s.heap.get? b = some o → o ≠ scriptObj vs → o ≠ PySem.W.tabObj #[] → H b = none := fun {b o} e n1 n2 => by
    rcases only b with z | ⟨z1, z2⟩ | ⟨⟨p, hp, z1⟩, z2⟩
    · exact z
    · rw [z1, ha] at e
      exact absurd (Option.some.inj e).symm n1
    · rw [← z1, (tabs p hp).2] at e
      exact absurd (Option.some.inj e).symm n2
  have dict : ∀ {b : Addr} {m : Str → Option Value}, s.heap.Ns b m → (hidT s.heap H).Ns b m := fun ⟨o, es, ep, e, d, r⟩ =>
    ⟨o, es, ep, hidT_get e (away e (fun c => by rw [c] at d; exact nomatch d) fun c => by rw [c] at d; exact nomatch d), d, r⟩
  have kinB : K.In (hidT s.heap H) := fun b o e => hidT_get (kin b o e) (by
    rcases only b with z | ⟨z1, z2⟩ | ⟨⟨p, hp, z1⟩, z2⟩
    · exact z
    · rw [z1] at e z2
      rw [out (by rw [z2]; exact fun h => nomatch h)] at e
      cases e
    · rw [← z1, tabK p hp] at e
      cases e)
  obtain ⟨mc, n1, n2⟩ := nl
  have TB : ∀ p ∈ cs, TabB (hidT s.heap H) mg p.1 p.2 := fun p hp => by
    obtain ⟨hd, hP⟩ := tabs p hp
    refine ⟨?_, ?_, fun z => ?_⟩
    · obtain ⟨o, us, file, tf, fl, tg, inF, tx, tt, e, r1, r2, r3, r⟩ := hd
      exact ⟨o, us, file, tf, fl, tg, inF, tx, tt, hidT_get e (away e (fun c => by rw [c] at r2; exact nomatch r2) fun c => by rw [c] at r1; exact nomatch r1), r1, r2, r3, r⟩
    · obtain ⟨m, o, b1, b2, b3, b4, b5, b6⟩ := bm
      have nP : m ≠ p.2 := fun z => by
        rw [z, hP] at b3
        cases b3
        cases b4
      have nG : m ≠ mainGlobals := fun z => by
        obtain ⟨o', es, ep, e, d, _⟩ := hns
        rw [z, e] at b3
        cases b3
        rw [d] at b6
        cases b6
      exact ⟨m, o, b1, b2, nG, nP, hidT_get b3 (away b3 (fun c => by rw [c] at b6; exact nomatch b6) fun c => by rw [c] at b6; exact nomatch b6), b4, b5, b6⟩
    · obtain ⟨o', es, ep, e, d, _⟩ := hns
      rw [z, hP] at e
      cases e
      cases d
  have env : Env0 P w K mg (hidT s.heap H) callerA [] s H :=
    ⟨rfl, ⟨kinB, dict hns, ⟨mb, dict hb, hbb⟩, ⟨mc, dict n1, n2⟩⟩, fun _ _ e => of_hidT e, Nat.le_of_eq (hidT_size _ _), trivial, (fun b h => nomatch (show b ∈ ([] : List Addr) from h)), hok, .of_eq hg⟩
  refine codeAny_mono ((F _ kinB (dict hns) TB).run callerA [] s H ⟨[.ref a], []⟩ [.ref a] [.ref a] _ _ rfl hr env (bind s (.ref a)) (.cons rfl .nil) q) fun r z hz => ?_
  match r, hz with
  | .error _, hz => exact hz.elim
  | .ok .next, hz => exact hz.elim
  | .ok .brk, hz => exact hz.elim
  | .ok .cont, hz => exact hz.elim
  | .ok (.ret u), ⟨v, H', os, bare, un, hok', rv, qv⟩ =>
    have qv' : v = .bl true := qv
    subst qv'
    have ru : u = Value.bool true := rv
    subst ru
    have key : ∀ b o, s.heap.get? b = some o → z.heap.get? b = some o ∨ ((∃ p ∈ cs, p.2 = b) ∧ ∃ more : Array Value, z.heap.get? b = some (PySem.W.tabObj more)) := fun b o e => by
      rcases only b with z1 | ⟨z1, z2⟩ | ⟨z1, z2⟩
      · exact .inl (un.keep b o e z1 (fun h => nomatch (show b ∈ ([] : List Addr) from h)) fun h => nomatch h)
      · obtain ⟨e1, _⟩ := hok b _ z2
        obtain ⟨e2, _⟩ := hok' b _ (un.frzs b _ _ z2)
        have e3 := e1.symm.trans e
        cases e3
        exact .inl e2
      · obtain ⟨more, z3⟩ := un.tbls b #[] z2
        exact .inr ⟨z1, _, hok' b _ z3⟩
    refine ⟨rfl, ⟨fun b o e => ?_, fun b o e => ?_⟩, os, bare⟩
    · rcases key b o e with e2 | ⟨⟨p, hp, z1⟩, more, e2⟩
      · exact .inl e2
      · obtain ⟨hd, hP⟩ := tabs p hp
        rw [← z1, hP] at e
        obtain rfl := Option.some.inj e
        rw [← z1] at e2 ⊢
        exact .inr (.inl ⟨(hd.tab hP).isCodeTable, rfl, #[], more, rfl, by rw [Array.empty_append]; exact e2⟩)
    · rcases key b o e with e2 | ⟨_, more, e2⟩
      · exact ⟨_, e2⟩
      · exact ⟨_, e2⟩
theorem end_callT (kin : K.In s.heap) (hns : s.heap.Ns mainGlobals mg) (hb : s.heap.Ns builtinsNs mb) (hbb : ∀ x : Str, x ≠ "__name__" → mb x = bootBuiltins x) (nl : s.heap.NoLimit) (hg : s.gens = #[])
    (tabs : ∀ p ∈ cs, PySem.W.CodeHd s.heap p.1 p.2 ∧ s.heap.get? p.2 = some (PySem.W.tabObj #[])) (tabK : ∀ p ∈ cs, K.lookup p.2 = none)
    (bm : ∃ (m : Addr) (o : Obj), mg "__builtins__" = some (.ref m) ∧ m ≠ builtinsNs ∧ s.heap.get? m = some o ∧ o.cls = .type "module" ∧ o.dict = some builtinsNs ∧ o.data = .plain)
    (ha : s.heap.get? a = some (scriptObj vs)) (hi : IntsAre vs ns) (hl : ns.length ≤ sizeLine) (hr : Room k callerA)
    (F : ∀ base : Heap, K.In base → base.Ns mainGlobals mg → (∀ p ∈ cs, TabB base mg p.1 p.2) → FnG P w K mg base k fa fd [x] sp) (bind : ∀ (s : Shared) (u : Value), BindsTo s fd ⟨[u], []⟩ [(x, u)])
    (q : ∀ H : Hp, cs.In H → SqL K H a (ns.map V.int) → sp [.ref a] H (fun v _ => v = .bl true) fun _ _ _ => False) :
    codeAny (model P w) callerA (.call (.ref fa) ⟨[.ref a], []⟩) (fun r z => r = .ok (.ret (.bool true)) ∧ OldK s.heap z.heap ∧ z.os = s.os ∧ AllBare z.gens) s := by
  have rv := vals_ints hi
  have lv := hi.length
  have nT : ∀ p ∈ cs, p.2 ≠ a := fun p hp z => by
    have e := (tabs p hp).2
    rw [z, ha] at e
    exact scriptObj_ne vs #[] (Option.some.inj e)
  classical
  by_cases c : K.lookup a = none
  · have at1 : ∀ b, First cs a (scriptObj vs) (.lst (ns.map V.int)) b ((fun b => if b = a then some (HO.frz (scriptObj vs) (.lst (ns.map V.int))) else if (∃ p ∈ cs, p.2 = b) then some (.tbl #[]) else none) b) := fun b => by
      by_cases e : b = a
      · exact .inr (.inl ⟨e, if_pos e⟩)
      · by_cases e2 : ∃ p ∈ cs, p.2 = b
        · exact .inr (.inr ⟨e2, (if_neg e).trans (if_pos e2)⟩)
        · exact .inl ((if_neg e).trans (if_neg e2))
    have inT : cs.In fun b => if b = a then some (HO.frz (scriptObj vs) (.lst (ns.map V.int))) else if (∃ p ∈ cs, p.2 = b) then some (.tbl #[]) else none := fun p hp => (if_neg (nT p hp)).trans (if_pos ⟨p, hp, rfl⟩)
    refine end_tabs (ns := ns) kin hns hb hbb nl hg tabs tabK bm ha at1 inT (fun _ => c) (fun b u z => ?_) hr F bind (q _ inT (.inl (.inr ⟨scriptObj vs, if_pos rfl⟩)))
    rcases at1 b with e | ⟨e1, e2⟩ | ⟨⟨p, hp, e1⟩, e2⟩
    · have z2 := e.symm.trans z
      cases z2
    · have z2 := e2.symm.trans z
      cases z2
      subst e1
      exact ⟨ha, by rw [List.length_map]; exact hl, vs, _, rv, ha⟩
    · have z2 := e2.symm.trans z
      cases z2
      rw [← e1]
      exact (tabs p hp).2
  · obtain ⟨o, ho⟩ := Option.ne_none_iff_exists'.mp c
    have e := (kin a o ho).symm.trans ha
    cases e
    have at1 : ∀ b, First cs a (scriptObj vs) (.lst (ns.map V.int)) b ((fun b => if (∃ p ∈ cs, p.2 = b) then some (HO.tbl #[]) else none) b) := fun b => by
      by_cases e2 : ∃ p ∈ cs, p.2 = b
      · exact .inr (.inr ⟨e2, if_pos e2⟩)
      · exact .inl (if_neg e2)
    have inT : cs.In fun b => if (∃ p ∈ cs, p.2 = b) then some (HO.tbl #[]) else none := fun p hp => if_pos ⟨p, hp, rfl⟩
    have noa : ¬ ∃ p ∈ cs, p.2 = a := fun ⟨p, hp, z⟩ => nT p hp z
    refine end_tabs (ns := ns) kin hns hb hbb nl hg tabs tabK bm ha at1 inT (fun z => absurd (if_neg noa) z) (fun b u z => ?_) hr F bind (q _ inT (.inr ⟨_, vs.toArray, _, ho, rfl, rfl, rfl, by rw [List.size_toArray, lv]; exact hl, by simpa using rv⟩))
    rcases at1 b with e | ⟨e1, e2⟩ | ⟨⟨p, hp, e1⟩, e2⟩
    · have z2 := e.symm.trans z
      cases z2
    · by_cases h : ∃ p ∈ cs, p.2 = b
      · have z2 := (if_pos h).symm.trans e2
        cases z2
      · have z2 := (if_neg h).symm.trans e2
        cases z2
    · have z2 := e2.symm.trans z
      cases z2
      rw [← e1]
      exact (tabs p hp).2
end
/-- the tables of the defs that stand at the program's top -/
def TopTabs (q : Program) (K : PySem.W.Frag) (h : Heap) : Prop := ∀ (x : Str) (c P : Addr), ((recsOf q).find? fun e => e.name == x).isSome = true → PySem.W.tabIn K x = some (c, P) → PySem.W.CodeHd h c P ∧ h.get? P = some (PySem.W.tabObj #[])
theorem walk_ofT {l : PySem.W.OpenLaw} {n k : Nat} {q : Program} {loose : List Str} {XP : (Str → Option Value) → Heap → Prop} {YP : World → Heap → Prop} {d : DefRec} {K : Params → PySem.W.Frag} {sp : Tabs0 → World → Sp} {x : Str} (hn : l.most = some n) (hn2 : n ≤ sizeLine) (hdf : d.params.defaults = []) (hr : Room k callerA)
    (hY : ∀ (w : World) (h : Heap), YP w h → (K w.params).In h)
    (F : ∀ (w : World) (mg : Str → Option Value) (fa : Addr) (h : Heap), (K w.params).In h → TopTabs q (K w.params) h → h.Ns mainGlobals mg → mg d.name = some (.ref fa) → ∃ (fd : FuncData) (cs : Tabs0), (∀ p ∈ cs, (K w.params).lookup p.2 = none ∧ PySem.W.CodeHd h p.1 p.2 ∧ h.get? p.2 = some (PySem.W.tabObj #[])) ∧
      (∀ (s : Shared) (u : Value), BindsTo s fd ⟨[u], []⟩ [(x, u)]) ∧ (∀ (H : Hp) (a : Addr) (ns : List Int), ns.length ≤ n → cs.In H → SqL (K w.params) H a (ns.map V.int) → sp cs w [.ref a] H (fun v _ => v = .bl true) fun _ _ _ => False) ∧
      ∀ base : Heap, (K w.params).In base → base.Ns mainGlobals mg → (∀ p ∈ cs, TabB base mg p.1 p.2) → FnG l.prog w (K w.params) mg base k fa fd [x] (sp cs w)) : PySem.W.WalkO q loose XP YP l.row.toRowW d [] (fun f vs => PySem.call f vs) := by
  refine Att.attach_call hn hdf fun w s0 s1 mg mb fa o pm cd doc a vs ns G Y ho hd hcd hmg hobj hints hlen hg => ?_
  have kin := hY w _ Y
  have top : TopTabs q (K w.params) s1.heap := fun y c P e t => by
    obtain ⟨r, hr⟩ := Option.isSome_iff_exists.mp e
    exact PySem.W.tab_of G.T kin hr t
  obtain ⟨fd, cs, tabs, bind, hsp, hF⟩ := F w mg fa _ kin top G.T.g hmg
  exact end_callT kin G.T.g G.T.b G.T.builtins G.T.nolimit hg (fun p hp => (tabs p hp).2) (fun p hp => (tabs p hp).1) G.T.bmain hobj hints (Nat.le_trans hlen hn2) hr hF bind fun H hH hS => hsp H a ns hlen hH hS
end Own

namespace K1
open PySem PySem.Spec PyProof.Rows L2 Own LamX
/-! ### what the top has written -/
theorem tabIn_of {K : PySem.W.Frag} {x : Str} {f c P : Addr} {oc : Value} {od : Option Addr} {fd : FuncData} {sl : Array (Option Value)} {uc : Value} {ud : Option Addr} {uv : Array Value} {us : Array (Option Value)} (a : PySem.W.nsIn K mainGlobals x = some (some (.ref f))) (l : K.lookup f = some ⟨oc, od, .func fd, sl⟩) (cd : fd.code = .ref c) (u : K.lookup c = some ⟨uc, ud, .fields uv, us⟩) (w : uv[11]? = some (.ref P)) : PySem.W.tabIn K x = some (c, P) := by
  unfold PySem.W.tabIn
  rw [a]
  simp only [l, cd, u, w]
theorem kbn_handled {K : PySem.W.Frag} {f : Addr} {fd : FuncData} (F : FunD K "handled" "handled" (defArgs sHandled) (defBody sHandled) (defScope sHandled) [] [("first", V.int 0)] f fd) : ∃ mv : List Value, KBn K fd ["kinds", "stack", "tree", "first"] 0 ["tree", "stack", "kinds"] (fun us ws => ws.reverse ++ mv) fun _ zs => zs.reverse ++ [V.int 0] := by
  refine kbinds0 F 0 ["tree", "stack", "kinds"] [("first", V.int 0)] (fun _ mv ws => ws.reverse ++ mv) (fun z => nomatch z) (fun q h => h) (fun r1 r2 r3 => r3.reverse.append r2) ?_
  intro D doc pm an cdv ct us mv ws l1 l2 l3
  match us, mv, ws, l1, l2, l3 with
  | [], [m], [x, y, z], _, _, _ => exact ⟨_, _, _, _, _, _, rfl, rfl, rfl⟩
theorem kbn_handled3 {K : PySem.W.Frag} {f : Addr} {fd : FuncData} (F : FunD K "handled" "handled" (defArgs sHandled) (defBody sHandled) (defScope sHandled) [] [("first", V.int 0)] f fd) : ∃ mv : List Value, KBn K fd ["kinds", "stack", "tree", "first"] 3 ["first"] (fun us ws => us ++ ws) fun vs zs => vs ++ zs := by
  refine kbinds0 F 3 ["first"] [] (fun us _ ws => us ++ ws) (fun z => nomatch z) (fun q h => nomatch h) (fun r1 r2 r3 => r1.append r3) ?_
  intro D doc pm an cdv ct us mv ws l1 l2 l3
  match us, mv, ws, l1, l2, l3 with
  | [x, y, z], [], [f], _, _, _ => exact rfl
theorem bind_handled {K : PySem.W.Frag} {f : Addr} {fd : FuncData} (F : FunD K "handled" "handled" (defArgs sHandled) (defBody sHandled) (defScope sHandled) [] [("first", V.int 0)] f fd) : ∃ ds, Vals [V.int 0] ds ∧ Binds K fd ["kinds", "stack", "tree", "first"] ds := by
  refine F.binds0 (ps := ["kinds", "stack", "tree", "first"]) 3 (fun z => nomatch z) rfl ?_
  intro D doc pm an cdv ct us ks l1 l2
  match us, ks, l1, l2 with
  | [x, y, z], [m], _, _ => exact ⟨_, _, _, _, _, _, rfl, rfl, rfl⟩
/-- the tables and the names of the code objects in them -/
def ttOf (cs : Tabs0) : List (Addr × Str) := (cs.map (·.2)).zip ["cut" ++ ".<locals>." ++ "<lambda>", "_built" ++ ".<locals>." ++ "<lambda>"]
theorem all_mk {l : PySem.W.OpenLaw} {q : Program} {w : World} {K : PySem.W.Frag} {h : Heap} {mg : Str → Option Value} {fa C C2 pF co17 pt17 kD co29 pt29 f1 f2 f3 f4 f5 f6 f7 f8 f9 f10 f11 f12 f13 f14 f15 f16 f17 f18 f19 f20 f21 f22 f23 f24 f25 f26 f27 f28 f29 f30 f31 f32 f33 f34 f35 f36 f37 f38 f39 f40 f41 f42 f43 f44 f45 f46 f47 : Addr} (X : K.In h) (TP : TopTabs q K h) (G : h.Ns mainGlobals mg) (hfa : mg "law" = some (.ref fa))
    (rc1 : ((recsOf q).find? fun e => e.name == ("cut" : Str)).isSome = true) (rc2 : ((recsOf q).find? fun e => e.name == ("_built" : Str)).isSome = true)
    {restF : List Value} {tM tL tA tK : Tok} {od1 an1 od2 an2 od3 an3 od4 an4 od5 an5 od6 an6 od7 an7 od8 an8 od9 an9 od10 an10 od11 an11 od12 an12 od13 an13 od14 an14 od15 an15 od16 an16 od17 an17 od18 an18 od19 an19 od20 an20 od21 an21 od22 an22 od23 an23 od24 an24 od25 an25 od26 an26 od27 an27 od28 an28 od29 an29 od30 an30 od31 an31 od32 an32 od33 an33 od34 an34 od35 an35 od36 an36 od37 an37 od38 an38 od39 an39 od40 an40 od41 an41 od42 an42 od43 an43 od44 an44 od45 an45 od46 an46 od47 an47 ud17 ud29 : Option Addr} {sl1 sl2 sl3 sl4 sl5 sl6 sl7 sl8 sl9 sl10 sl11 sl12 sl13 sl14 sl15 sl16 sl17 sl18 sl19 sl20 sl21 sl22 sl23 sl24 sl25 sl26 sl27 sl28 sl29 sl30 sl31 sl32 sl33 sl34 sl35 sl36 sl37 sl38 sl39 sl40 sl41 sl42 sl43 sl44 sl45 sl46 sl47 us17 us29 : Array (Option Value)} {uv17 uv29 : Array Value}
    {oc1 dc1 pm1 ct1 kV1 cd1 oc2 dc2 pm2 ct2 kV2 cd2 oc3 dc3 pm3 ct3 kV3 cd3 oc4 dc4 pm4 ct4 kV4 cd4 oc5 dc5 pm5 ct5 kV5 cd5 oc6 dc6 pm6 ct6 kV6 cd6 oc7 dc7 pm7 ct7 kV7 cd7 oc8 dc8 pm8 ct8 kV8 cd8 oc9 dc9 pm9 ct9 kV9 cd9 oc10 dc10 pm10 ct10 kV10 cd10 oc11 dc11 pm11 ct11 kV11 cd11 oc12 dc12 pm12 ct12 kV12 cd12 oc13 dc13 pm13 ct13 kV13 cd13 oc14 dc14 pm14 ct14 kV14 cd14 oc15 dc15 pm15 ct15 kV15 cd15 oc16 dc16 pm16 ct16 kV16 cd16 oc17 dc17 pm17 ct17 kV17 oc18 dc18 pm18 ct18 kV18 cd18 oc19 dc19 pm19 ct19 kV19 cd19 oc20 dc20 pm20 ct20 kV20 cd20 oc21 dc21 pm21 ct21 cd21 oc22 dc22 pm22 ct22 kV22 cd22 oc23 dc23 pm23 ct23 kV23 cd23 oc24 dc24 pm24 ct24 kV24 cd24 oc25 dc25 pm25 ct25 kV25 cd25 oc26 dc26 pm26 ct26 kV26 cd26 oc27 dc27 pm27 ct27 kV27 cd27 oc28 dc28 pm28 ct28 kV28 cd28 oc29 dc29 pm29 ct29 kV29 oc30 dc30 pm30 ct30 kV30 cd30 oc31 dc31 pm31 ct31 kV31 cd31 oc32 dc32 pm32 ct32 kV32 cd32 oc33 dc33 pm33 ct33 kV33 cd33 oc34 dc34 pm34 ct34 kV34 cd34 oc35 dc35 pm35 ct35 kV35 cd35 oc36 dc36 pm36 ct36 kV36 cd36 oc37 dc37 pm37 ct37 kV37 cd37 oc38 dc38 pm38 ct38 kV38 cd38 oc39 dc39 pm39 ct39 kV39 cd39 oc40 dc40 pm40 ct40 kV40 cd40 oc41 dc41 pm41 ct41 kV41 cd41 oc42 dc42 pm42 ct42 kV42 cd42 oc43 dc43 pm43 ct43 kV43 cd43 oc44 dc44 pm44 ct44 kV44 cd44 oc45 dc45 pm45 ct45 kV45 cd45 oc46 dc46 pm46 ct46 kV46 cd46 oc47 dc47 pm47 ct47 kV47 cd47 uc17 uc29 : Value}
    (aC : PySem.W.nsIn K mainGlobals "Kinds" = some (some (.ref C)))
    (aC2 : PySem.W.nsIn K mainGlobals "Numbers" = some (some (.ref C2)))
    (a1 : PySem.W.nsIn K mainGlobals "is_name" = some (some (.ref f1)))
    (l1 : K.lookup f1 = some ⟨oc1, od1, .func (PySem.W.fnOf "is_name" "is_name" (defArgs sIsName) (defBody sIsName) (defScope sIsName) .none kV1 dc1 pm1 an1 cd1 ct1), sl1⟩)
    (c1 : PySem.W.codeIn K cd1 "is_name" = true)
    (k1 : PySem.W.keepIn K (.ref f1) = true)
    (a2 : PySem.W.nsIn K mainGlobals "is_number" = some (some (.ref f2)))
    (l2 : K.lookup f2 = some ⟨oc2, od2, .func (PySem.W.fnOf "is_number" "is_number" (defArgs sIsNumber) (defBody sIsNumber) (defScope sIsNumber) .none kV2 dc2 pm2 an2 cd2 ct2), sl2⟩)
    (c2 : PySem.W.codeIn K cd2 "is_number" = true)
    (k2 : PySem.W.keepIn K (.ref f2) = true)
    (a3 : PySem.W.nsIn K mainGlobals "is_pair" = some (some (.ref f3)))
    (l3 : K.lookup f3 = some ⟨oc3, od3, .func (PySem.W.fnOf "is_pair" "is_pair" (defArgs sIsPair) (defBody sIsPair) (defScope sIsPair) .none kV3 dc3 pm3 an3 cd3 ct3), sl3⟩)
    (c3 : PySem.W.codeIn K cd3 "is_pair" = true)
    (k3 : PySem.W.keepIn K (.ref f3) = true)
    (a4 : PySem.W.nsIn K mainGlobals "is_group" = some (some (.ref f4)))
    (l4 : K.lookup f4 = some ⟨oc4, od4, .func (PySem.W.fnOf "is_group" "is_group" (defArgs sIsGroup) (defBody sIsGroup) (defScope sIsGroup) .none kV4 dc4 pm4 an4 cd4 ct4), sl4⟩)
    (c4 : PySem.W.codeIn K cd4 "is_group" = true)
    (k4 : PySem.W.keepIn K (.ref f4) = true)
    (a5 : PySem.W.nsIn K mainGlobals "is_form" = some (some (.ref f5)))
    (l5 : K.lookup f5 = some ⟨oc5, od5, .func (PySem.W.fnOf "is_form" "is_form" (defArgs sIsForm) (defBody sIsForm) (defScope sIsForm) .none kV5 dc5 pm5 an5 cd5 ct5), sl5⟩)
    (c5 : PySem.W.codeIn K cd5 "is_form" = true)
    (k5 : PySem.W.keepIn K (.ref f5) = true)
    (a6 : PySem.W.nsIn K mainGlobals "is_stack" = some (some (.ref f6)))
    (l6 : K.lookup f6 = some ⟨oc6, od6, .func (PySem.W.fnOf "is_stack" "is_stack" (defArgs sIsStack) (defBody sIsStack) (defScope sIsStack) .none kV6 dc6 pm6 an6 cd6 ct6), sl6⟩)
    (c6 : PySem.W.codeIn K cd6 "is_stack" = true)
    (k6 : PySem.W.keepIn K (.ref f6) = true)
    (a7 : PySem.W.nsIn K mainGlobals "_are_kinds" = some (some (.ref f7)))
    (l7 : K.lookup f7 = some ⟨oc7, od7, .func (PySem.W.fnOf "_are_kinds" "_are_kinds" (defArgs sAreKinds) (defBody sAreKinds) (defScope sAreKinds) .none kV7 dc7 pm7 an7 cd7 ct7), sl7⟩)
    (c7 : PySem.W.codeIn K cd7 "_are_kinds" = true)
    (k7 : PySem.W.keepIn K (.ref f7) = true)
    (a8 : PySem.W.nsIn K mainGlobals "_passes" = some (some (.ref f8)))
    (l8 : K.lookup f8 = some ⟨oc8, od8, .func (PySem.W.fnOf "_passes" "_passes" (defArgs sPasses) (defBody sPasses) (defScope sPasses) .none kV8 dc8 pm8 an8 cd8 ct8), sl8⟩)
    (c8 : PySem.W.codeIn K cd8 "_passes" = true)
    (k8 : PySem.W.keepIn K (.ref f8) = true)
    (a9 : PySem.W.nsIn K mainGlobals "_is_plain_action" = some (some (.ref f9)))
    (l9 : K.lookup f9 = some ⟨oc9, od9, .func (PySem.W.fnOf "_is_plain_action" "_is_plain_action" (defArgs sIsPlain) (defBody sIsPlain) (defScope sIsPlain) .none kV9 dc9 pm9 an9 cd9 ct9), sl9⟩)
    (c9 : PySem.W.codeIn K cd9 "_is_plain_action" = true)
    (k9 : PySem.W.keepIn K (.ref f9) = true)
    (a10 : PySem.W.nsIn K mainGlobals "is_tree" = some (some (.ref f10)))
    (l10 : K.lookup f10 = some ⟨oc10, od10, .func (PySem.W.fnOf "is_tree" "is_tree" (defArgs sIsTree) (defBody sIsTree) (defScope sIsTree) .none kV10 dc10 pm10 an10 cd10 ct10), sl10⟩)
    (c10 : PySem.W.codeIn K cd10 "is_tree" = true)
    (k10 : PySem.W.keepIn K (.ref f10) = true)
    (a11 : PySem.W.nsIn K mainGlobals "_is_leaf" = some (some (.ref f11)))
    (l11 : K.lookup f11 = some ⟨oc11, od11, .func (PySem.W.fnOf "_is_leaf" "_is_leaf" (defArgs sIsLeaf) (defBody sIsLeaf) (defScope sIsLeaf) .none kV11 dc11 pm11 an11 cd11 ct11), sl11⟩)
    (c11 : PySem.W.codeIn K cd11 "_is_leaf" = true)
    (k11 : PySem.W.keepIn K (.ref f11) = true)
    (a12 : PySem.W.nsIn K mainGlobals "is_leaf" = some (some (.ref f12)))
    (l12 : K.lookup f12 = some ⟨oc12, od12, .func (PySem.W.fnOf "is_leaf" "is_leaf" (defArgs sTmLeaf) (defBody sTmLeaf) (defScope sTmLeaf) .none kV12 dc12 pm12 an12 cd12 ct12), sl12⟩)
    (c12 : PySem.W.codeIn K cd12 "is_leaf" = true)
    (k12 : PySem.W.keepIn K (.ref f12) = true)
    (a13 : PySem.W.nsIn K mainGlobals "is_hole" = some (some (.ref f13)))
    (l13 : K.lookup f13 = some ⟨oc13, od13, .func (PySem.W.fnOf "is_hole" "is_hole" (defArgs sIsHole) (defBody sIsHole) (defScope sIsHole) .none kV13 dc13 pm13 an13 cd13 ct13), sl13⟩)
    (c13 : PySem.W.codeIn K cd13 "is_hole" = true)
    (k13 : PySem.W.keepIn K (.ref f13) = true)
    (a14 : PySem.W.nsIn K mainGlobals "pieces" = some (some (.ref f14)))
    (l14 : K.lookup f14 = some ⟨oc14, od14, .func (PySem.W.fnOf "pieces" "pieces" (defArgs sPieces) (defBody sPieces) (defScope sPieces) .none kV14 dc14 pm14 an14 cd14 ct14), sl14⟩)
    (c14 : PySem.W.codeIn K cd14 "pieces" = true)
    (k14 : PySem.W.keepIn K (.ref f14) = true)
    (a15 : PySem.W.nsIn K mainGlobals "rebuilt" = some (some (.ref f15)))
    (l15 : K.lookup f15 = some ⟨oc15, od15, .func (PySem.W.fnOf "rebuilt" "rebuilt" (defArgs sRebuilt) (defBody sRebuilt) (defScope sRebuilt) .none kV15 dc15 pm15 an15 cd15 ct15), sl15⟩)
    (c15 : PySem.W.codeIn K cd15 "rebuilt" = true)
    (k15 : PySem.W.keepIn K (.ref f15) = true)
    (a16 : PySem.W.nsIn K mainGlobals "kinds_in" = some (some (.ref f16)))
    (l16 : K.lookup f16 = some ⟨oc16, od16, .func (PySem.W.fnOf "kinds_in" "kinds_in" (defArgs sKindsIn) (defBody sKindsIn) (defScope sKindsIn) .none kV16 dc16 pm16 an16 cd16 ct16), sl16⟩)
    (c16 : PySem.W.codeIn K cd16 "kinds_in" = true)
    (k16 : PySem.W.keepIn K (.ref f16) = true)
    (a17 : PySem.W.nsIn K mainGlobals "cut" = some (some (.ref f17)))
    (l17 : K.lookup f17 = some ⟨oc17, od17, .func (PySem.W.fnOf "cut" "cut" (defArgs sTmCut) (defBody sTmCut) (defScope sTmCut) .none kV17 dc17 pm17 an17 (.ref co17) ct17), sl17⟩)
    (c17 : PySem.W.codeIn K (.ref co17) "cut" = true)
    (k17 : PySem.W.keepIn K (.ref f17) = true)
    (u17 : K.lookup co17 = some ⟨uc17, ud17, .fields uv17, us17⟩)
    (w17 : uv17[11]? = some (.ref pt17))
    (x17 : K.lookup pt17 = none)
    (a18 : PySem.W.nsIn K mainGlobals "_has_children" = some (some (.ref f18)))
    (l18 : K.lookup f18 = some ⟨oc18, od18, .func (PySem.W.fnOf "_has_children" "_has_children" (defArgs sHasChildren) (defBody sHasChildren) (defScope sHasChildren) .none kV18 dc18 pm18 an18 cd18 ct18), sl18⟩)
    (c18 : PySem.W.codeIn K cd18 "_has_children" = true)
    (k18 : PySem.W.keepIn K (.ref f18) = true)
    (a19 : PySem.W.nsIn K mainGlobals "_ended" = some (some (.ref f19)))
    (l19 : K.lookup f19 = some ⟨oc19, od19, .func (PySem.W.fnOf "_ended" "_ended" (defArgs sEnded) (defBody sEnded) (defScope sEnded) .none kV19 dc19 pm19 an19 cd19 ct19), sl19⟩)
    (c19 : PySem.W.codeIn K cd19 "_ended" = true)
    (k19 : PySem.W.keepIn K (.ref f19) = true)
    (a20 : PySem.W.nsIn K mainGlobals "_cut_piece" = some (some (.ref f20)))
    (l20 : K.lookup f20 = some ⟨oc20, od20, .func (PySem.W.fnOf "_cut_piece" "_cut_piece" (defArgs sCutPiece) (defBody sCutPiece) (defScope sCutPiece) .none kV20 dc20 pm20 an20 cd20 ct20), sl20⟩)
    (c20 : PySem.W.codeIn K cd20 "_cut_piece" = true)
    (k20 : PySem.W.keepIn K (.ref f20) = true)
    (a21 : PySem.W.nsIn K mainGlobals "handled" = some (some (.ref f21)))
    (l21 : K.lookup f21 = some ⟨oc21, od21, .func (PySem.W.fnOf "handled" "handled" (defArgs sHandled) (defBody sHandled) (defScope sHandled) .none (.ref kD) dc21 pm21 an21 cd21 ct21), sl21⟩)
    (c21 : PySem.W.codeIn K cd21 "handled" = true)
    (k21 : PySem.W.keepIn K (.ref f21) = true)
    (kw0 : PySem.W.nsIn K kD "first" = some (some (.int 0 tK)))
    (a22 : PySem.W.nsIn K mainGlobals "run_stack" = some (some (.ref f22)))
    (l22 : K.lookup f22 = some ⟨oc22, od22, .func (PySem.W.fnOf "run_stack" "run_stack" (defArgs sRunStack) (defBody sRunStack) (defScope sRunStack) .none kV22 dc22 pm22 an22 cd22 ct22), sl22⟩)
    (c22 : PySem.W.codeIn K cd22 "run_stack" = true)
    (k22 : PySem.W.keepIn K (.ref f22) = true)
    (a23 : PySem.W.nsIn K mainGlobals "_check" = some (some (.ref f23)))
    (l23 : K.lookup f23 = some ⟨oc23, od23, .func (PySem.W.fnOf "_check" "_check" (defArgs sCheck) (defBody sCheck) (defScope sCheck) .none kV23 dc23 pm23 an23 cd23 ct23), sl23⟩)
    (c23 : PySem.W.codeIn K cd23 "_check" = true)
    (k23 : PySem.W.keepIn K (.ref f23) = true)
    (a24 : PySem.W.nsIn K mainGlobals "_run_guard" = some (some (.ref f24)))
    (l24 : K.lookup f24 = some ⟨oc24, od24, .func (PySem.W.fnOf "_run_guard" "_run_guard" (defArgs sRunGuard) (defBody sRunGuard) (defScope sRunGuard) .none kV24 dc24 pm24 an24 cd24 ct24), sl24⟩)
    (c24 : PySem.W.codeIn K cd24 "_run_guard" = true)
    (k24 : PySem.W.keepIn K (.ref f24) = true)
    (a25 : PySem.W.nsIn K mainGlobals "_guard_outcome" = some (some (.ref f25)))
    (l25 : K.lookup f25 = some ⟨oc25, od25, .func (PySem.W.fnOf "_guard_outcome" "_guard_outcome" (defArgs sGuardOutcome) (defBody sGuardOutcome) (defScope sGuardOutcome) .none kV25 dc25 pm25 an25 cd25 ct25), sl25⟩)
    (c25 : PySem.W.codeIn K cd25 "_guard_outcome" = true)
    (k25 : PySem.W.keepIn K (.ref f25) = true)
    (a26 : PySem.W.nsIn K mainGlobals "_firing" = some (some (.ref f26)))
    (l26 : K.lookup f26 = some ⟨oc26, od26, .func (PySem.W.fnOf "_firing" "_firing" (defArgs sFiring) (defBody sFiring) (defScope sFiring) .none kV26 dc26 pm26 an26 cd26 ct26), sl26⟩)
    (c26 : PySem.W.codeIn K cd26 "_firing" = true)
    (k26 : PySem.W.keepIn K (.ref f26) = true)
    (a27 : PySem.W.nsIn K mainGlobals "_is_under" = some (some (.ref f27)))
    (l27 : K.lookup f27 = some ⟨oc27, od27, .func (PySem.W.fnOf "_is_under" "_is_under" (defArgs sIsUnder) (defBody sIsUnder) (defScope sIsUnder) .none kV27 dc27 pm27 an27 cd27 ct27), sl27⟩)
    (c27 : PySem.W.codeIn K cd27 "_is_under" = true)
    (k27 : PySem.W.keepIn K (.ref f27) = true)
    (a28 : PySem.W.nsIn K mainGlobals "_act" = some (some (.ref f28)))
    (l28 : K.lookup f28 = some ⟨oc28, od28, .func (PySem.W.fnOf "_act" "_act" (defArgs sAct) (defBody sAct) (defScope sAct) .none kV28 dc28 pm28 an28 cd28 ct28), sl28⟩)
    (c28 : PySem.W.codeIn K cd28 "_act" = true)
    (k28 : PySem.W.keepIn K (.ref f28) = true)
    (a29 : PySem.W.nsIn K mainGlobals "_built" = some (some (.ref f29)))
    (l29 : K.lookup f29 = some ⟨oc29, od29, .func (PySem.W.fnOf "_built" "_built" (defArgs sBuilt) (defBody sBuilt) (defScope sBuilt) .none kV29 dc29 pm29 an29 (.ref co29) ct29), sl29⟩)
    (c29 : PySem.W.codeIn K (.ref co29) "_built" = true)
    (k29 : PySem.W.keepIn K (.ref f29) = true)
    (u29 : K.lookup co29 = some ⟨uc29, ud29, .fields uv29, us29⟩)
    (w29 : uv29[11]? = some (.ref pt29))
    (x29 : K.lookup pt29 = none)
    (a30 : PySem.W.nsIn K mainGlobals "_are_rows" = some (some (.ref f30)))
    (l30 : K.lookup f30 = some ⟨oc30, od30, .func (PySem.W.fnOf "_are_rows" "_are_rows" (defArgs sAreRows) (defBody sAreRows) (defScope sAreRows) .none kV30 dc30 pm30 an30 cd30 ct30), sl30⟩)
    (c30 : PySem.W.codeIn K cd30 "_are_rows" = true)
    (k30 : PySem.W.keepIn K (.ref f30) = true)
    (a31 : PySem.W.nsIn K mainGlobals "_check_names" = some (some (.ref f31)))
    (l31 : K.lookup f31 = some ⟨oc31, od31, .func (PySem.W.fnOf "_check_names" "_check_names" (defArgs sCkNames) (defBody sCkNames) (defScope sCkNames) .none kV31 dc31 pm31 an31 cd31 ct31), sl31⟩)
    (c31 : PySem.W.codeIn K cd31 "_check_names" = true)
    (k31 : PySem.W.keepIn K (.ref f31) = true)
    (a32 : PySem.W.nsIn K mainGlobals "_check_bases" = some (some (.ref f32)))
    (l32 : K.lookup f32 = some ⟨oc32, od32, .func (PySem.W.fnOf "_check_bases" "_check_bases" (defArgs sCkBases) (defBody sCkBases) (defScope sCkBases) .none kV32 dc32 pm32 an32 cd32 ct32), sl32⟩)
    (c32 : PySem.W.codeIn K cd32 "_check_bases" = true)
    (k32 : PySem.W.keepIn K (.ref f32) = true)
    (a33 : PySem.W.nsIn K mainGlobals "_are_bases" = some (some (.ref f33)))
    (l33 : K.lookup f33 = some ⟨oc33, od33, .func (PySem.W.fnOf "_are_bases" "_are_bases" (defArgs sAreBases) (defBody sAreBases) (defScope sAreBases) .none kV33 dc33 pm33 an33 cd33 ct33), sl33⟩)
    (c33 : PySem.W.codeIn K cd33 "_are_bases" = true)
    (k33 : PySem.W.keepIn K (.ref f33) = true)
    (a34 : PySem.W.nsIn K mainGlobals "_all_above" = some (some (.ref f34)))
    (l34 : K.lookup f34 = some ⟨oc34, od34, .func (PySem.W.fnOf "_all_above" "_all_above" (defArgs sAllAbove) (defBody sAllAbove) (defScope sAllAbove) .none kV34 dc34 pm34 an34 cd34 ct34), sl34⟩)
    (c34 : PySem.W.codeIn K cd34 "_all_above" = true)
    (k34 : PySem.W.keepIn K (.ref f34) = true)
    (a35 : PySem.W.nsIn K mainGlobals "_law_source" = some (some (.ref f35)))
    (l35 : K.lookup f35 = some ⟨oc35, od35, .func (PySem.W.fnOf "_law_source" "_law_source" (defArgs sSource) (defBody sSource) (defScope sSource) .none kV35 dc35 pm35 an35 cd35 ct35), sl35⟩)
    (c35 : PySem.W.codeIn K cd35 "_law_source" = true)
    (k35 : PySem.W.keepIn K (.ref f35) = true)
    (a36 : PySem.W.nsIn K mainGlobals "_law_draw" = some (some (.ref f36)))
    (l36 : K.lookup f36 = some ⟨oc36, od36, .func (PySem.W.fnOf "_law_draw" "_law_draw" (defArgs sDraw) (defBody sDraw) (defScope sDraw) .none kV36 dc36 pm36 an36 cd36 ct36), sl36⟩)
    (c36 : PySem.W.codeIn K cd36 "_law_draw" = true)
    (k36 : PySem.W.keepIn K (.ref f36) = true)
    (a37 : PySem.W.nsIn K mainGlobals "_law_random_names" = some (some (.ref f37)))
    (l37 : K.lookup f37 = some ⟨oc37, od37, .func (PySem.W.fnOf "_law_random_names" "_law_random_names" (defArgs sNames) (defBody sNames) (defScope sNames) .none kV37 dc37 pm37 an37 cd37 ct37), sl37⟩)
    (c37 : PySem.W.codeIn K cd37 "_law_random_names" = true)
    (k37 : PySem.W.keepIn K (.ref f37) = true)
    (a38 : PySem.W.nsIn K mainGlobals "passage" = some (some (.ref f38)))
    (l38 : K.lookup f38 = some ⟨oc38, od38, .func (PySem.W.fnOf "passage" "passage" (defArgs sPassage) (defBody sPassage) (defScope sPassage) .none kV38 dc38 pm38 an38 cd38 ct38), sl38⟩)
    (c38 : PySem.W.codeIn K cd38 "passage" = true)
    (k38 : PySem.W.keepIn K (.ref f38) = true)
    (a39 : PySem.W.nsIn K mainGlobals "_law_wrapped" = some (some (.ref f39)))
    (l39 : K.lookup f39 = some ⟨oc39, od39, .func (PySem.W.fnOf "_law_wrapped" "_law_wrapped" (defArgs sLawWrapped) (defBody sLawWrapped) (defScope sLawWrapped) .none kV39 dc39 pm39 an39 cd39 ct39), sl39⟩)
    (c39 : PySem.W.codeIn K cd39 "_law_wrapped" = true)
    (k39 : PySem.W.keepIn K (.ref f39) = true)
    (a40 : PySem.W.nsIn K mainGlobals "law" = some (some (.ref f40)))
    (l40 : K.lookup f40 = some ⟨oc40, od40, .func (PySem.W.fnOf "law" "law" (defArgs sLaw) (defBody sLaw) (defScope sLaw) .none kV40 dc40 pm40 an40 cd40 ct40), sl40⟩)
    (c40 : PySem.W.codeIn K cd40 "law" = true)
    (k40 : PySem.W.keepIn K (.ref f40) = true)
    (ptn : pt17 ≠ pt29)
    (a41 : PySem.W.findIn K (.ref C) "__init__" = some (some (.ref f41)))
    (i41 : PySem.W.isFn K (.ref f41) = true)
    (l41 : K.lookup f41 = some ⟨oc41, od41, .func (PySem.W.fnOf "__init__" "Kinds.__init__" (defArgs sInit) (defBody sInit) (defScope sInit) .none kV41 dc41 pm41 an41 cd41 ct41), sl41⟩)
    (c41 : PySem.W.codeIn K cd41 "Kinds.__init__" = true)
    (k41 : PySem.W.keepIn K (.ref f41) = true)
    (a42 : PySem.W.findIn K (.ref C) "_take" = some (some (.ref f42)))
    (i42 : PySem.W.isFn K (.ref f42) = true)
    (l42 : K.lookup f42 = some ⟨oc42, od42, .func (PySem.W.fnOf "_take" "Kinds._take" (defArgs sTake) (defBody sTake) (defScope sTake) .none kV42 dc42 pm42 an42 cd42 ct42), sl42⟩)
    (c42 : PySem.W.codeIn K cd42 "Kinds._take" = true)
    (k42 : PySem.W.keepIn K (.ref f42) = true)
    (a43 : PySem.W.findIn K (.ref C) "__contains__" = some (some (.ref f43)))
    (i43 : PySem.W.isFn K (.ref f43) = true)
    (l43 : K.lookup f43 = some ⟨oc43, od43, .func (PySem.W.fnOf "__contains__" "Kinds.__contains__" (defArgs sIn) (defBody sIn) (defScope sIn) .none kV43 dc43 pm43 an43 cd43 ct43), sl43⟩)
    (c43 : PySem.W.codeIn K cd43 "Kinds.__contains__" = true)
    (k43 : PySem.W.keepIn K (.ref f43) = true)
    (a44 : PySem.W.findIn K (.ref C) "above" = some (some (.ref f44)))
    (i44 : PySem.W.isFn K (.ref f44) = true)
    (l44 : K.lookup f44 = some ⟨oc44, od44, .func (PySem.W.fnOf "above" "Kinds.above" (defArgs sAbove) (defBody sAbove) (defScope sAbove) .none kV44 dc44 pm44 an44 cd44 ct44), sl44⟩)
    (c44 : PySem.W.codeIn K cd44 "Kinds.above" = true)
    (k44 : PySem.W.keepIn K (.ref f44) = true)
    (a45 : PySem.W.findIn K (.ref C2) "__init__" = some (some (.ref f45)))
    (i45 : PySem.W.isFn K (.ref f45) = true)
    (l45 : K.lookup f45 = some ⟨oc45, od45, .func (PySem.W.fnOf "__init__" "Numbers.__init__" (defArgs sNumbers_init) (defBody sNumbers_init) (defScope sNumbers_init) .none kV45 dc45 pm45 an45 cd45 ct45), sl45⟩)
    (c45 : PySem.W.codeIn K cd45 "Numbers.__init__" = true)
    (k45 : PySem.W.keepIn K (.ref f45) = true)
    (a46 : PySem.W.findIn K (.ref C2) "leaf" = some (some (.ref f46)))
    (i46 : PySem.W.isFn K (.ref f46) = true)
    (l46 : K.lookup f46 = some ⟨oc46, od46, .func (PySem.W.fnOf "leaf" "Numbers.leaf" (defArgs sNumbers_leaf) (defBody sNumbers_leaf) (defScope sNumbers_leaf) .none kV46 dc46 pm46 an46 cd46 ct46), sl46⟩)
    (c46 : PySem.W.codeIn K cd46 "Numbers.leaf" = true)
    (k46 : PySem.W.keepIn K (.ref f46) = true)
    (rd : PySem.W.readsIn K C (.type "type") = true)
    (ga : PySem.W.specialIn K (.ref C) "__getattribute__" = some (some (.builtin "type.__getattribute__")))
    (a47 : PySem.W.findCls K (.ref C) (.type "type") "of" = some (.get (.builtin "classmethod.__get__") (.ref pF) .none (.ref C)))
    (r47 : PySem.W.recIn K pF "classmethod" = some (.ref f47 :: restF))
    (i47 : PySem.W.fnIn K f47 = true)
    (l47 : K.lookup f47 = some ⟨oc47, od47, .func (PySem.W.fnOf "of" "Kinds.of" (defArgs sOf) (defBody sOf) (defScope sOf) .none kV47 dc47 pm47 an47 cd47 ct47), sl47⟩)
    (c47 : PySem.W.codeIn K cd47 "Kinds.of" = true)
    (k47 : PySem.W.keepIn K (.ref f47) = true)
    (pg : PySem.W.plainGet K C Str.empty = true)
    (hd : PySem.W.hasDictIn K C = true)
    (po : PySem.W.plainOver K C = true)
    (sa : PySem.W.findIn K (.ref C) "__setattr__" = some (some (.builtin "object.__setattr__")))
    (mk : PySem.W.makesIn K C = true)
    (kc : PySem.W.keepIn K (.ref C) = true)
    (nR : PySem.W.findIn K (.ref C) "_rows" = some none)
    (nA : PySem.W.findIn K (.ref C) "_above" = some none)
    (lm : PySem.W.findIn K (.ref C) "LIMIT" = some (some (.int 7 tM)))
    (lg : PySem.W.specialIn K (.int 7 tM) "__get__" = some none)
    (pgN : PySem.W.plainGet K C2 Str.empty = true)
    (hdN : PySem.W.hasDictIn K C2 = true)
    (poN : PySem.W.plainOver K C2 = true)
    (saN : PySem.W.findIn K (.ref C2) "__setattr__" = some (some (.builtin "object.__setattr__")))
    (mkN : PySem.W.makesIn K C2 = true)
    (kcN : PySem.W.keepIn K (.ref C2) = true)
    (nFi : PySem.W.findIn K (.ref C2) "_first" = some none)
    (nRa : PySem.W.findIn K (.ref C2) "raised" = some none)
    (vL : PySem.W.nsIn K mainGlobals "LONGEST_NAME" = some (some (.int 8 tL)))
    (vA : PySem.W.nsIn K mainGlobals "LETTERS" = some (some (.str abc tA)))
    (z_len : PySem.W.nsIn K mainGlobals "len" = some none)
    (z_isinstance : PySem.W.nsIn K mainGlobals "isinstance" = some none)
    (z_str : PySem.W.nsIn K mainGlobals "str" = some none)
    (z_all : PySem.W.nsIn K mainGlobals "all" = some none)
    (z_any : PySem.W.nsIn K mainGlobals "any" = some none)
    (z_tuple : PySem.W.nsIn K mainGlobals "tuple" = some none)
    (z_list : PySem.W.nsIn K mainGlobals "list" = some none)
    (z_sorted : PySem.W.nsIn K mainGlobals "sorted" = some none)
    (z_abs : PySem.W.nsIn K mainGlobals "abs" = some none)
    (z_range : PySem.W.nsIn K mainGlobals "range" = some none)
    (z_min : PySem.W.nsIn K mainGlobals "min" = some none)
    (z_max : PySem.W.nsIn K mainGlobals "max" = some none)
    (z_int : PySem.W.nsIn K mainGlobals "int" = some none)
    (z_bool : PySem.W.nsIn K mainGlobals "bool" = some none)
    (z_reversed : PySem.W.nsIn K mainGlobals "reversed" = some none) :
    ∃ (fd : FuncData) (cs : Tabs0), (∀ p ∈ cs, K.lookup p.2 = none ∧ PySem.W.CodeHd h p.1 p.2 ∧ h.get? p.2 = some (PySem.W.tabObj #[])) ∧ (∀ (s : Shared) (v : Value), BindsTo s fd ⟨[v], []⟩ [("script", v)]) ∧
      (∀ (H : Hp) (a : Addr) (ns : List Int), ns.length ≤ 63 → cs.In H → SqL K H a (ns.map V.int) → spLaw (ttOf cs) K [.ref a] H (fun v _ => v = .bl true) fun _ _ _ => False) ∧
      ∀ base : Heap, K.In base → base.Ns mainGlobals mg → (∀ p ∈ cs, TabB base mg p.1 p.2) → FnG l.prog w K mg base 13 fa fd ["script"] (spLaw (ttOf cs) K) := by
  have e := hfa.symm.trans (PySem.W.mg_of X G a40)
  cases e
  have F1 := fun_mk (st := sIsName) l1 c1 k1
  have b1 := F1.binds (ps := ["thing"]) fun _ _ _ _ _ _ us hl => match us, hl with | [_], _ => rfl
  have F2 := fun_mk (st := sIsNumber) l2 c2 k2
  have b2 := F2.binds (ps := ["thing"]) fun _ _ _ _ _ _ us hl => match us, hl with | [_], _ => rfl
  have F3 := fun_mk (st := sIsPair) l3 c3 k3
  have b3 := F3.binds (ps := ["thing"]) fun _ _ _ _ _ _ us hl => match us, hl with | [_], _ => rfl
  have F4 := fun_mk (st := sIsGroup) l4 c4 k4
  have b4 := F4.binds (ps := ["thing"]) fun _ _ _ _ _ _ us hl => match us, hl with | [_], _ => rfl
  have F5 := fun_mk (st := sIsForm) l5 c5 k5
  have b5 := F5.binds (ps := ["kinds", "thing"]) fun _ _ _ _ _ _ us hl => match us, hl with | [_, _], _ => rfl
  have F6 := fun_mk (st := sIsStack) l6 c6 k6
  have b6 := F6.binds (ps := ["kinds", "thing"]) fun _ _ _ _ _ _ us hl => match us, hl with | [_, _], _ => rfl
  have F7 := fun_mk (st := sAreKinds) l7 c7 k7
  have b7 := F7.binds (ps := ["kinds", "thing"]) fun _ _ _ _ _ _ us hl => match us, hl with | [_, _], _ => rfl
  have F8 := fun_mk (st := sPasses) l8 c8 k8
  have b8 := F8.binds (ps := ["clause"]) fun _ _ _ _ _ _ us hl => match us, hl with | [_], _ => rfl
  have F9 := fun_mk (st := sIsPlain) l9 c9 k9
  have b9 := F9.binds (ps := ["kinds", "thing"]) fun _ _ _ _ _ _ us hl => match us, hl with | [_, _], _ => rfl
  have F10 := fun_mk (st := sIsTree) l10 c10 k10
  have b10 := F10.binds (ps := ["kinds", "thing"]) fun _ _ _ _ _ _ us hl => match us, hl with | [_, _], _ => rfl
  have F11 := fun_mk (st := sIsLeaf) l11 c11 k11
  have b11 := F11.binds (ps := ["kinds", "thing"]) fun _ _ _ _ _ _ us hl => match us, hl with | [_, _], _ => rfl
  have F12 := fun_mk (st := sTmLeaf) l12 c12 k12
  have b12 := F12.binds (ps := ["tree"]) fun _ _ _ _ _ _ us hl => match us, hl with | [_], _ => rfl
  have F13 := fun_mk (st := sIsHole) l13 c13 k13
  have b13 := F13.binds (ps := ["piece"]) fun _ _ _ _ _ _ us hl => match us, hl with | [_], _ => rfl
  have F14 := fun_mk (st := sPieces) l14 c14 k14
  have b14 := F14.binds (ps := ["root"]) fun _ _ _ _ _ _ us hl => match us, hl with | [_], _ => rfl
  have F15 := fun_mk (st := sRebuilt) l15 c15 k15
  have b15 := F15.binds (ps := ["root", "change"]) fun _ _ _ _ _ _ us hl => match us, hl with | [_, _], _ => rfl
  have F16 := fun_mk (st := sKindsIn) l16 c16 k16
  have b16 := F16.binds (ps := ["tree"]) fun _ _ _ _ _ _ us hl => match us, hl with | [_], _ => rfl
  have F17 := fun_mk (st := sTmCut) l17 c17 k17
  have FC17 : FunC K "cut" "cut" sTmCut f17 _ co17 := ⟨_, _, _, _, _, _, _, _, rfl, l17, c17⟩
  have ti17 := tabIn_of a17 l17 rfl u17 w17
  have b17 := F17.binds (ps := ["tree", "wanted"]) fun _ _ _ _ _ _ us hl => match us, hl with | [_, _], _ => rfl
  have F18 := fun_mk (st := sHasChildren) l18 c18 k18
  have b18 := F18.binds (ps := ["node"]) fun _ _ _ _ _ _ us hl => match us, hl with | [_], _ => rfl
  have F19 := fun_mk (st := sEnded) l19 c19 k19
  have b19 := F19.binds (ps := ["group"]) fun _ _ _ _ _ _ us hl => match us, hl with | [_], _ => rfl
  have F20 := fun_mk (st := sCutPiece) l20 c20 k20
  have b20 := F20.binds (ps := ["piece", "wanted"]) fun _ _ _ _ _ _ us hl => match us, hl with | [_, _], _ => rfl
  have F21 : FunD K "handled" "handled" (defArgs sHandled) (defBody sHandled) (defScope sHandled) [] [("first", V.int 0)] f21 _ := ⟨⟨_, _, _, _, _, _, _, _, _, _, rfl, l21, c21, .inl ⟨rfl, rfl⟩, .inr ⟨kD, rfl, fun q hq => by rw [List.mem_singleton.mp hq]; exact ⟨_, kw0, ⟨_, rfl⟩⟩⟩⟩, k21⟩
  have F22 := fun_mk (st := sRunStack) l22 c22 k22
  have b22 := F22.binds (ps := ["kinds", "stack", "tree", "numbers"]) fun _ _ _ _ _ _ us hl => match us, hl with | [_, _, _, _], _ => rfl
  have F23 := fun_mk (st := sCheck) l23 c23 k23
  have b23 := F23.binds (ps := ["kinds", "stack", "tree"]) fun _ _ _ _ _ _ us hl => match us, hl with | [_, _, _], _ => rfl
  have F24 := fun_mk (st := sRunGuard) l24 c24 k24
  have b24 := F24.binds (ps := ["kinds", "guard", "tree", "numbers"]) fun _ _ _ _ _ _ us hl => match us, hl with | [_, _, _, _], _ => rfl
  have F25 := fun_mk (st := sGuardOutcome) l25 c25 k25
  have b25 := F25.binds (ps := ["raised", "left"]) fun _ _ _ _ _ _ us hl => match us, hl with | [_, _], _ => rfl
  have F26 := fun_mk (st := sFiring) l26 c26 k26
  have b26 := F26.binds (ps := ["kinds", "guard", "present"]) fun _ _ _ _ _ _ us hl => match us, hl with | [_, _, _], _ => rfl
  have F27 := fun_mk (st := sIsUnder) l27 c27 k27
  have b27 := F27.binds (ps := ["kinds", "kind", "names"]) fun _ _ _ _ _ _ us hl => match us, hl with | [_, _, _], _ => rfl
  have F28 := fun_mk (st := sAct) l28 c28 k28
  have b28 := F28.binds (ps := ["kinds", "action", "tree", "numbers"]) fun _ _ _ _ _ _ us hl => match us, hl with | [_, _, _, _], _ => rfl
  have F29 := fun_mk (st := sBuilt) l29 c29 k29
  have FC29 : FunC K "_built" "_built" sBuilt f29 _ co29 := ⟨_, _, _, _, _, _, _, _, rfl, l29, c29⟩
  have ti29 := tabIn_of a29 l29 rfl u29 w29
  have b29 := F29.binds (ps := ["form", "tree", "numbers"]) fun _ _ _ _ _ _ us hl => match us, hl with | [_, _, _], _ => rfl
  have F30 := fun_mk (st := sAreRows) l30 c30 k30
  have b30 := F30.binds (ps := ["thing"]) fun _ _ _ _ _ _ us hl => match us, hl with | [_], _ => rfl
  have F31 := fun_mk (st := sCkNames) l31 c31 k31
  have b31 := F31.binds (ps := ["rows"]) fun _ _ _ _ _ _ us hl => match us, hl with | [_], _ => rfl
  have F32 := fun_mk (st := sCkBases) l32 c32 k32
  have b32 := F32.binds (ps := ["rows"]) fun _ _ _ _ _ _ us hl => match us, hl with | [_], _ => rfl
  have F33 := fun_mk (st := sAreBases) l33 c33 k33
  have b33 := F33.binds (ps := ["thing", "before"]) fun _ _ _ _ _ _ us hl => match us, hl with | [_, _], _ => rfl
  have F34 := fun_mk (st := sAllAbove) l34 c34 k34
  have b34 := F34.binds (ps := ["rows"]) fun _ _ _ _ _ _ us hl => match us, hl with | [_], _ => rfl
  have F35 := fun_mk (st := sSource) l35 c35 k35
  have b35 := F35.binds (ps := ["script", "at"]) fun _ _ _ _ _ _ us hl => match us, hl with | [_, _], _ => rfl
  have F36 := fun_mk (st := sDraw) l36 c36 k36
  have b36 := F36.binds (ps := ["source", "many"]) fun _ _ _ _ _ _ us hl => match us, hl with | [_, _], _ => rfl
  have F37 := fun_mk (st := sNames) l37 c37 k37
  have b37 := F37.binds (ps := ["source", "many"]) fun _ _ _ _ _ _ us hl => match us, hl with | [_, _], _ => rfl
  have F38 := fun_mk (st := sPassage) l38 c38 k38
  have b38 := F38.binds (ps := ["kinds", "stack", "tree"]) fun _ _ _ _ _ _ us hl => match us, hl with | [_, _, _], _ => rfl
  have F39 := fun_mk (st := sLawWrapped) l39 c39 k39
  have b39 := F39.binds (ps := ["item", "many"]) fun _ _ _ _ _ _ us hl => match us, hl with | [_, _], _ => rfl
  have F40 := fun_mk (st := sLaw) l40 c40 k40
  have F41 := fun_mk (st := sInit) l41 c41 k41
  have F42 := fun_mk (st := sTake) l42 c42 k42
  have b42 := F42.binds (ps := ["self", "rows"]) fun _ _ _ _ _ _ us hl => match us, hl with | [_, _], _ => rfl
  have F43 := fun_mk (st := sIn) l43 c43 k43
  have b43 := F43.binds (ps := ["self", "x"]) fun _ _ _ _ _ _ us hl => match us, hl with | [_, _], _ => rfl
  have F44 := fun_mk (st := sAbove) l44 c44 k44
  have b44 := F44.binds (ps := ["self", "name"]) fun _ _ _ _ _ _ us hl => match us, hl with | [_, _], _ => rfl
  have F45 := fun_mk (st := sNumbers_init) l45 c45 k45
  have b45 := F45.binds (ps := ["self", "first"]) fun _ _ _ _ _ _ us hl => match us, hl with | [_, _], _ => rfl
  have F46 := fun_mk (st := sNumbers_leaf) l46 c46 k46
  have b46 := F46.binds (ps := ["self", "kind"]) fun _ _ _ _ _ _ us hl => match us, hl with | [_, _], _ => rfl
  have F47 := fun_mk (st := sOf) l47 c47 k47
  have b47 := F47.binds (ps := ["cls", "rows"]) fun _ _ _ _ _ _ us hl => match us, hl with | [_, _], _ => rfl
  have m1 := PySem.W.mg_of X G a1
  have m2 := PySem.W.mg_of X G a2
  have m3 := PySem.W.mg_of X G a3
  have m4 := PySem.W.mg_of X G a4
  have m5 := PySem.W.mg_of X G a5
  have m6 := PySem.W.mg_of X G a6
  have m7 := PySem.W.mg_of X G a7
  have m8 := PySem.W.mg_of X G a8
  have m9 := PySem.W.mg_of X G a9
  have m10 := PySem.W.mg_of X G a10
  have m11 := PySem.W.mg_of X G a11
  have m12 := PySem.W.mg_of X G a12
  have m13 := PySem.W.mg_of X G a13
  have m14 := PySem.W.mg_of X G a14
  have m15 := PySem.W.mg_of X G a15
  have m16 := PySem.W.mg_of X G a16
  have m17 := PySem.W.mg_of X G a17
  have m18 := PySem.W.mg_of X G a18
  have m19 := PySem.W.mg_of X G a19
  have m20 := PySem.W.mg_of X G a20
  have m21 := PySem.W.mg_of X G a21
  have m22 := PySem.W.mg_of X G a22
  have m23 := PySem.W.mg_of X G a23
  have m24 := PySem.W.mg_of X G a24
  have m25 := PySem.W.mg_of X G a25
  have m26 := PySem.W.mg_of X G a26
  have m27 := PySem.W.mg_of X G a27
  have m28 := PySem.W.mg_of X G a28
  have m29 := PySem.W.mg_of X G a29
  have m30 := PySem.W.mg_of X G a30
  have m31 := PySem.W.mg_of X G a31
  have m32 := PySem.W.mg_of X G a32
  have m33 := PySem.W.mg_of X G a33
  have m34 := PySem.W.mg_of X G a34
  have m35 := PySem.W.mg_of X G a35
  have m36 := PySem.W.mg_of X G a36
  have m37 := PySem.W.mg_of X G a37
  have m38 := PySem.W.mg_of X G a38
  have m39 := PySem.W.mg_of X G a39
  have y_len := PySem.W.mg_none_of X G z_len
  have y_isinstance := PySem.W.mg_none_of X G z_isinstance
  have y_str := PySem.W.mg_none_of X G z_str
  have y_all := PySem.W.mg_none_of X G z_all
  have y_any := PySem.W.mg_none_of X G z_any
  have y_tuple := PySem.W.mg_none_of X G z_tuple
  have y_list := PySem.W.mg_none_of X G z_list
  have y_sorted := PySem.W.mg_none_of X G z_sorted
  have y_abs := PySem.W.mg_none_of X G z_abs
  have y_range := PySem.W.mg_none_of X G z_range
  have y_min := PySem.W.mg_none_of X G z_min
  have y_max := PySem.W.mg_none_of X G z_max
  have y_int := PySem.W.mg_none_of X G z_int
  have y_bool := PySem.W.mg_none_of X G z_bool
  have y_reversed := PySem.W.mg_none_of X G z_reversed
  obtain ⟨dsH, vH, b21⟩ := bind_handled F21
  obtain ⟨mvH, nH⟩ := kbn_handled F21
  obtain ⟨mvH3, nH3⟩ := kbn_handled3 F21
  have T : KTxt K mg C := ⟨⟨pg, hd, po, sa⟩, nR, nA, ⟨_, lm, ⟨_, rfl⟩, lg, rfl⟩, PySem.W.mg_of X G aC, y_len, y_sorted, y_list⟩
  have NT : NumTxt K C2 := ⟨⟨pgN, hdN, poN, saN⟩, nFi, nRa⟩
  have mNum := PySem.W.mg_of X G aC2
  have M : Mk K C f41 := ⟨mk, a41, i41, kc⟩
  have MN : Mk K C2 f45 := ⟨mkN, a45, i45, kcN⟩
  have mT : Meth K C "_take" f42 := ⟨a42, i42, k42⟩
  have mAb : Meth K C "above" f44 := ⟨a44, i44, k44⟩
  have mLf : Meth K C2 "leaf" f46 := ⟨a46, i46, k46⟩
  have cI : Spc K C "__contains__" f43 := ⟨a43, i43⟩
  have cr : ClX.CRead K C (.type "type") := ⟨rd, ga⟩
  have cm : ClX.CMet K C (.type "type") "of" pF f47 := ⟨a47, ⟨_, r47⟩, i47⟩
  refine ⟨PySem.W.fnOf "law" "law" (defArgs sLaw) (defBody sLaw) (defScope sLaw) .none kV40 dc40 pm40 an40 cd40 ct40, [(co17, pt17), (co29, pt29)], fun p hp => ?_, fun s v => .of_eq rfl, fun H a ns hn hin hS => ?_, fun base _ _ hTB => ?_⟩
  · rcases List.mem_cons.mp hp with e | hp
    · rw [e]
      exact ⟨x17, TP _ _ _ rc1 ti17⟩
    · rw [List.mem_singleton.mp hp]
      exact ⟨x29, TP _ _ _ rc2 ti29⟩
  · refine ⟨a, ns, rfl, hS, hn, fun p hp => ?_, fun _ => rfl⟩
    have empty : ∀ (P : Addr) (s : Str), H P = some (.tbl #[]) → TabS H P s := fun P s e => ⟨#[], e, trivial, fun pos cv z => by cases z⟩
    rcases List.mem_cons.mp hp with e | hp
    · rw [e]
      exact empty _ _ (hin (co17, pt17) (List.mem_cons_self ..))
    · rw [List.mem_singleton.mp hp]
      exact empty _ _ (hin (co29, pt29) (List.mem_cons_of_mem _ (List.mem_cons_self ..)))
  have TB1 := hTB (co17, pt17) (List.mem_cons_self ..)
  have TB2 := hTB (co29, pt29) (List.mem_cons_of_mem _ (List.mem_cons_self ..))
  have hT1 : TabT [(pt17, "cut" ++ ".<locals>." ++ "<lambda>"), (pt29, "_built" ++ ".<locals>." ++ "<lambda>")] pt17 ("cut" ++ ".<locals>." ++ "<lambda>") := ⟨List.mem_cons_self .., fun p hp e => by
    rcases List.mem_cons.mp hp with z | hp
    · rw [z]
    · rw [List.mem_singleton.mp hp] at e
      exact absurd e.symm ptn⟩
  have hT2 : TabT [(pt17, "cut" ++ ".<locals>." ++ "<lambda>"), (pt29, "_built" ++ ".<locals>." ++ "<lambda>")] pt29 ("_built" ++ ".<locals>." ++ "<lambda>") := ⟨List.mem_cons_of_mem _ (List.mem_cons_self ..), fun p hp e => by
    rcases List.mem_cons.mp hp with z | hp
    · rw [z] at e
      exact absurd e ptn
    · rw [List.mem_singleton.mp hp]⟩
  have GisName := ok_isName (P := l.prog) (w := w) (mg := mg) (base := base) F1 y_len y_isinstance y_str y_all (PySem.W.mg_of X G vL) (PySem.W.mg_of X G vA)
  have GisNameD := ok_isNameD (P := l.prog) (w := w) (mg := mg) (base := base) F1 y_len y_isinstance y_str y_all (PySem.W.mg_of X G vL) (PySem.W.mg_of X G vA)
  have GisPair := ok_isPair (P := l.prog) (w := w) (mg := mg) (base := base) F3 y_len y_isinstance y_tuple
  have GisPairD := ok_isPairD (P := l.prog) (w := w) (mg := mg) (base := base) F3 y_len y_isinstance y_tuple
  have GisNumD := ok_isNumD (P := l.prog) (w := w) (mg := mg) (base := base) F2 y_isinstance y_int y_bool
  have GisGroup := ok_isGroup (P := l.prog) (w := w) (mg := mg) (base := base) F4 GisPairD k3 b3 m3 GisNameD k1 b1 m1 y_len y_isinstance y_tuple
  have Gin := ok_in (P := l.prog) (w := w) (mg := mg) (base := base) F43 T y_isinstance y_str
  have Gabove := ok_above (P := l.prog) (w := w) (mg := mg) (base := base) F44 T cI Gin b43
  have GisLeaf := ok_isLeaf (P := l.prog) (w := w) (mg := mg) (base := base) F11 GisPairD k3 b3 m3 GisNumD k2 b2 m2 cI Gin b43
  have GisTree := ok_isTree (P := l.prog) (w := w) (mg := mg) (base := base) F10 GisGroup k4 b4 m4 GisLeaf k11 b11 m11
  have GisForm := ok_isForm (P := l.prog) (w := w) (mg := mg) (base := base) F5 GisGroup k4 b4 m4 cI Gin b43
  have GareK := ok_areKinds (P := l.prog) (w := w) (mg := mg) (base := base) F7 cI Gin b43 y_len y_isinstance y_tuple y_all
  have Gpasses := ok_passes (P := l.prog) (w := w) (mg := mg) (base := base) F8 GisPairD k3 b3 m3
  have Gplain := ok_isPlain (P := l.prog) (w := w) (mg := mg) (base := base) F9 GisPairD k3 b3 m3 GareK k7 b7 m7 GisForm k5 b5 m5
  have GisStack := ok_isStack (P := l.prog) (w := w) (mg := mg) (base := base) F6 GisPairD k3 b3 m3 GareK k7 b7 m7 Gpasses k8 b8 m8 Gplain k9 b9 m9 y_isinstance y_tuple y_list
  have GareRows := ok_areRows (P := l.prog) (w := w) (mg := mg) (base := base) F30 GisPair k3 b3 m3 y_isinstance y_all y_list y_tuple
  have GckNames := ok_ckNames (P := l.prog) (w := w) (mg := mg) (base := base) F31 GisName k1 b1 m1
  have GareBases := ok_areBases (P := l.prog) (w := w) (mg := mg) (base := base) F33 y_isinstance y_list y_tuple
  have GckBases := ok_ckBases (P := l.prog) (w := w) (mg := mg) (base := base) F32 GareBases k33 b33 m33
  have GallAbove := ok_allAbove (P := l.prog) (w := w) (mg := mg) (base := base) F34 y_sorted
  have Gtake := ok_take (P := l.prog) (w := w) (mg := mg) (base := base) F42 T GckNames k31 b31 m31 GckBases k32 b32 m32 GallAbove k34 b34 m34
  have Ginit := ok_init (P := l.prog) (w := w) (mg := mg) (base := base) F41 T Gtake mT b42
  have Gof := ok_of (P := l.prog) (w := w) (mg := mg) (base := base) F47 T M Ginit Gtake mT b42 GareRows k30 b30 m30
  have GhasK := ok_hasKids (P := l.prog) (w := w) (mg := mg) (base := base) F18 y_isinstance y_tuple
  have GisHole := ok_isHole (P := l.prog) (w := w) (mg := mg) (base := base) F13
  have Gended := ok_ended (P := l.prog) (w := w) (mg := mg) (base := base) F19 y_tuple
  have GcutP := ok_cutPiece (P := l.prog) (w := w) (mg := mg) (base := base) F20 GisHole k13 b13 m13
  have GtmCut := ok_tmCut (P := l.prog) (w := w) (mg := mg) (base := base) FC17 TB1 hT1 F15 m15 b15 GhasK k18 b18 m18 Gended k19 b19 m19 GcutP k20 b20 m20
  have GtmLeaf := ok_tmLeaf (P := l.prog) (w := w) (mg := mg) (base := base) F12 y_isinstance y_int
  have Gpieces := ok_pieces (P := l.prog) (w := w) (mg := mg) (base := base) F14 GhasK k18 b18 m18
  have GkindsIn := ok_kindsIn (P := l.prog) (w := w) (mg := mg) (base := base) F16 Gpieces k14 b14 m14 GisHole k13 b13 m13 y_sorted
  have Gunder := ok_isUnder (P := l.prog) (w := w) (mg := mg) (base := base) F27 T mAb Gabove b44 y_any
  have Goutc := ok_outcome (P := l.prog) (w := w) (mg := mg) (base := base) F25 y_tuple
  have Gfiring := ok_firing (P := l.prog) (w := w) (mg := mg) (base := base) F26 Gunder k27 b27 m27
  have GnumLeaf := ok_numLeaf (P := l.prog) (w := w) (mg := mg) (base := base) F46 NT y_len
  have GnumInit := ok_numInit (P := l.prog) (w := w) (mg := mg) (base := base) F45 NT
  have Gbuilt := ok_built (P := l.prog) (w := w) (mg := mg) (base := base) FC29 TB2 hT2 F15 m15 b15 GhasK k18 b18 m18 Gended k19 b19 m19 NT mLf GnumLeaf b46
  have GrunG := rg_all (P := l.prog) (w := w) (mg := mg) (base := base) (C := C) F24 F28 GkindsIn k16 b16 m16 Gunder k27 b27 m27 Gbuilt k29 b29 m29 b24 m24 Goutc k25 b25 m25 Gfiring k26 b26 m26 GtmLeaf k12 b12 m12 GtmCut k17 b17 m17 b28 m28
  have GrunS := fun n => ok_runStack (P := l.prog) (w := w) (mg := mg) (base := base) (n := n) (j := 5 + 2 * n) (by omega) F22 (GrunG n) k24 b24 m24 Goutc k25 b25 m25
  have GckRun := ok_checkRun (P := l.prog) (w := w) (mg := mg) (base := base) F23 GisStack k6 b6 m6 GisTree k10 b10 m10
  have Ghandled := fun n => ok_handled (P := l.prog) (w := w) (mg := mg) (base := base) (n := n) (j := 5 + 2 * n + 1) (by omega) F21 GckRun k23 b23 m23 GisNumD k2 b2 m2 (GrunS n) k22 b22 m22 MN GnumInit b45 mNum
  have Gsource := ok_source (P := l.prog) (w := w) (mg := mg) (base := base) F35 y_len y_abs y_range y_min
  have Gdraw := ok_draw (P := l.prog) (w := w) (mg := mg) (base := base) F36
  have Gnames := ok_names (P := l.prog) (w := w) (mg := mg) (base := base) F37 Gdraw k36 b36 m36 y_range y_len
  have Gpas := ok_passage (P := l.prog) (w := w) (mg := mg) (base := base) (n := 1) (j := 8) (by decide) F38 GckRun k23 b23 m23 (GrunS 1) k22 b22 m22 MN GnumInit b45 mNum
  have Gwr := ok_wrapped (P := l.prog) (w := w) (mg := mg) (base := base) F39 y_range
  exact ok_law (P := l.prog) (w := w) (mg := mg) (base := base) F40 T Gsource k35 b35 m35 Gnames k37 b37 m37 Gdraw k36 b36 m36 cr cm Gof b47 Gwr k39 b39 m39 (Ghandled 1) k21 b21 vH m21 Gpas k38 b38 m38 y_range y_max y_min y_list y_tuple y_int
theorem walk {l : PySem.W.OpenLaw} {q : Program} {loose : List Str} {XP : (Str → Option Value) → Heap → Prop} {YP : World → Heap → Prop} {d : DefRec} {K : Params → PySem.W.Frag} (hn : l.most = some 63) (hdf : d.params.defaults = [])
    (hY : ∀ (w : World) (h : Heap), YP w h → (K w.params).In h)
    (F : ∀ (w : World) (mg : Str → Option Value) (fa : Addr) (h : Heap), (K w.params).In h → TopTabs q (K w.params) h → h.Ns mainGlobals mg → mg d.name = some (.ref fa) →
      ∃ (fd : FuncData) (cs : Tabs0), (∀ p ∈ cs, (K w.params).lookup p.2 = none ∧ PySem.W.CodeHd h p.1 p.2 ∧ h.get? p.2 = some (PySem.W.tabObj #[])) ∧ (∀ (s : Shared) (u : Value), BindsTo s fd ⟨[u], []⟩ [("script", u)]) ∧
        (∀ (H : Hp) (a : Addr) (ns : List Int), ns.length ≤ 63 → cs.In H → SqL (K w.params) H a (ns.map V.int) → spLaw (ttOf cs) (K w.params) [.ref a] H (fun v _ => v = .bl true) fun _ _ _ => False) ∧
        ∀ base : Heap, (K w.params).In base → base.Ns mainGlobals mg → (∀ p ∈ cs, TabB base mg p.1 p.2) → FnG l.prog w (K w.params) mg base 13 fa fd ["script"] (spLaw (ttOf cs) (K w.params))) :
    PySem.W.WalkO q loose XP YP l.row.toRowW d [] (fun f vs => PySem.call f vs) :=
  walk_ofT (n := 63) (k := 13) (x := "script") (sp := fun cs w => spLaw (ttOf cs) (K w.params)) hn (by decide) hdf ⟨rfl, by decide, by decide⟩ hY F
end K1

open PySem PySem.W PyProof.Rows in
set_option maxRecDepth 100000 in
set_option maxHeartbeats 0 in
theorem PySem.Challenge.cw_errorplaces_k85_whole_wrappers_counted_holds : PySem.Challenge.rw_errorplaces_k85_whole_wrappers_counted.Holds := by
  w_on; o_law; k_head; (case hw => w_witness2)
  k_fill
  refine K1.walk (l := PySem.Challenge.rw_errorplaces_k85_whole_wrappers_counted) rfl rfl (fun w h Y => PySem.W.km_in_of Y) ?F
  case F =>
    intro w mg fa h KX TP G hmg
    refine' K1.all_mk KX TP G hmg ?rc1 ?rc2 ?aC ?aC2 ?a1 ?l1 ?c1 ?k1 ?a2 ?l2 ?c2 ?k2 ?a3 ?l3 ?c3 ?k3 ?a4 ?l4 ?c4 ?k4 ?a5 ?l5 ?c5 ?k5 ?a6 ?l6 ?c6 ?k6 ?a7 ?l7 ?c7 ?k7 ?a8 ?l8 ?c8 ?k8 ?a9 ?l9 ?c9 ?k9 ?a10 ?l10 ?c10 ?k10 ?a11 ?l11 ?c11 ?k11 ?a12 ?l12 ?c12 ?k12 ?a13 ?l13 ?c13 ?k13 ?a14 ?l14 ?c14 ?k14 ?a15 ?l15 ?c15 ?k15 ?a16 ?l16 ?c16 ?k16 ?a17 ?l17 ?c17 ?k17 ?u17 ?w17 ?x17 ?a18 ?l18 ?c18 ?k18 ?a19 ?l19 ?c19 ?k19 ?a20 ?l20 ?c20 ?k20 ?a21 ?l21 ?c21 ?k21 ?kw0 ?a22 ?l22 ?c22 ?k22 ?a23 ?l23 ?c23 ?k23 ?a24 ?l24 ?c24 ?k24 ?a25 ?l25 ?c25 ?k25 ?a26 ?l26 ?c26 ?k26 ?a27 ?l27 ?c27 ?k27 ?a28 ?l28 ?c28 ?k28 ?a29 ?l29 ?c29 ?k29 ?u29 ?w29 ?x29 ?a30 ?l30 ?c30 ?k30 ?a31 ?l31 ?c31 ?k31 ?a32 ?l32 ?c32 ?k32 ?a33 ?l33 ?c33 ?k33 ?a34 ?l34 ?c34 ?k34 ?a35 ?l35 ?c35 ?k35 ?a36 ?l36 ?c36 ?k36 ?a37 ?l37 ?c37 ?k37 ?a38 ?l38 ?c38 ?k38 ?a39 ?l39 ?c39 ?k39 ?a40 ?l40 ?c40 ?k40 ?ptn ?a41 ?i41 ?l41 ?c41 ?k41 ?a42 ?i42 ?l42 ?c42 ?k42 ?a43 ?i43 ?l43 ?c43 ?k43 ?a44 ?i44 ?l44 ?c44 ?k44 ?a45 ?i45 ?l45 ?c45 ?k45 ?a46 ?i46 ?l46 ?c46 ?k46 ?rd ?ga ?a47 ?r47 ?i47 ?l47 ?c47 ?k47 ?pg ?hd ?po ?sa ?mk ?kc ?nR ?nA ?lm ?lg ?pgN ?hdN ?poN ?saN ?mkN ?kcN ?nFi ?nRa ?vL ?vA ?z_len ?z_isinstance ?z_str ?z_all ?z_any ?z_tuple ?z_list ?z_sorted ?z_abs ?z_range ?z_min ?z_max ?z_int ?z_bool ?z_reversed
    (case rc1 => decide +kernel)
    (case rc2 => decide +kernel)
    (case aC => k_is)
    (case aC2 => k_is)
    (case a1 => k_is)
    (case l1 => k_is)
    (case c1 => k_is)
    (case k1 => k_is)
    (case a2 => k_is)
    (case l2 => k_is)
    (case c2 => k_is)
    (case k2 => k_is)
    (case a3 => k_is)
    (case l3 => k_is)
    (case c3 => k_is)
    (case k3 => k_is)
    (case a4 => k_is)
    (case l4 => k_is)
    (case c4 => k_is)
    (case k4 => k_is)
    (case a5 => k_is)
    (case l5 => k_is)
    (case c5 => k_is)
    (case k5 => k_is)
    (case a6 => k_is)
    (case l6 => k_is)
    (case c6 => k_is)
    (case k6 => k_is)
    (case a7 => k_is)
    (case l7 => k_is)
    (case c7 => k_is)
    (case k7 => k_is)
    (case a8 => k_is)
    (case l8 => k_is)
    (case c8 => k_is)
    (case k8 => k_is)
    (case a9 => k_is)
    (case l9 => k_is)
    (case c9 => k_is)
    (case k9 => k_is)
    (case a10 => k_is)
    (case l10 => k_is)
    (case c10 => k_is)
    (case k10 => k_is)
    (case a11 => k_is)
    (case l11 => k_is)
    (case c11 => k_is)
    (case k11 => k_is)
    (case a12 => k_is)
    (case l12 => k_is)
    (case c12 => k_is)
    (case k12 => k_is)
    (case a13 => k_is)
    (case l13 => k_is)
    (case c13 => k_is)
    (case k13 => k_is)
    (case a14 => k_is)
    (case l14 => k_is)
    (case c14 => k_is)
    (case k14 => k_is)
    (case a15 => k_is)
    (case l15 => k_is)
    (case c15 => k_is)
    (case k15 => k_is)
    (case a16 => k_is)
    (case l16 => k_is)
    (case c16 => k_is)
    (case k16 => k_is)
    (case a17 => k_is)
    (case l17 => k_is)
    (case c17 => k_is)
    (case k17 => k_is)
    (case u17 => k_is)
    (case w17 => exact rfl)
    (case x17 => first | k_is | decide +kernel | rfl)
    (case a18 => k_is)
    (case l18 => k_is)
    (case c18 => k_is)
    (case k18 => k_is)
    (case a19 => k_is)
    (case l19 => k_is)
    (case c19 => k_is)
    (case k19 => k_is)
    (case a20 => k_is)
    (case l20 => k_is)
    (case c20 => k_is)
    (case k20 => k_is)
    (case a21 => k_is)
    (case l21 => k_is)
    (case c21 => k_is)
    (case k21 => k_is)
    (case kw0 => k_is)
    (case a22 => k_is)
    (case l22 => k_is)
    (case c22 => k_is)
    (case k22 => k_is)
    (case a23 => k_is)
    (case l23 => k_is)
    (case c23 => k_is)
    (case k23 => k_is)
    (case a24 => k_is)
    (case l24 => k_is)
    (case c24 => k_is)
    (case k24 => k_is)
    (case a25 => k_is)
    (case l25 => k_is)
    (case c25 => k_is)
    (case k25 => k_is)
    (case a26 => k_is)
    (case l26 => k_is)
    (case c26 => k_is)
    (case k26 => k_is)
    (case a27 => k_is)
    (case l27 => k_is)
    (case c27 => k_is)
    (case k27 => k_is)
    (case a28 => k_is)
    (case l28 => k_is)
    (case c28 => k_is)
    (case k28 => k_is)
    (case a29 => k_is)
    (case l29 => k_is)
    (case c29 => k_is)
    (case k29 => k_is)
    (case u29 => k_is)
    (case w29 => exact rfl)
    (case x29 => first | k_is | decide +kernel | rfl)
    (case a30 => k_is)
    (case l30 => k_is)
    (case c30 => k_is)
    (case k30 => k_is)
    (case a31 => k_is)
    (case l31 => k_is)
    (case c31 => k_is)
    (case k31 => k_is)
    (case a32 => k_is)
    (case l32 => k_is)
    (case c32 => k_is)
    (case k32 => k_is)
    (case a33 => k_is)
    (case l33 => k_is)
    (case c33 => k_is)
    (case k33 => k_is)
    (case a34 => k_is)
    (case l34 => k_is)
    (case c34 => k_is)
    (case k34 => k_is)
    (case a35 => k_is)
    (case l35 => k_is)
    (case c35 => k_is)
    (case k35 => k_is)
    (case a36 => k_is)
    (case l36 => k_is)
    (case c36 => k_is)
    (case k36 => k_is)
    (case a37 => k_is)
    (case l37 => k_is)
    (case c37 => k_is)
    (case k37 => k_is)
    (case a38 => k_is)
    (case l38 => k_is)
    (case c38 => k_is)
    (case k38 => k_is)
    (case a39 => k_is)
    (case l39 => k_is)
    (case c39 => k_is)
    (case k39 => k_is)
    (case a40 => k_is)
    (case l40 => k_is)
    (case c40 => k_is)
    (case k40 => k_is)
    (case ptn => decide +kernel)
    (case a41 => k_is)
    (case i41 => k_is)
    (case l41 => k_is)
    (case c41 => k_is)
    (case k41 => k_is)
    (case a42 => k_is)
    (case i42 => k_is)
    (case l42 => k_is)
    (case c42 => k_is)
    (case k42 => k_is)
    (case a43 => k_is)
    (case i43 => k_is)
    (case l43 => k_is)
    (case c43 => k_is)
    (case k43 => k_is)
    (case a44 => k_is)
    (case i44 => k_is)
    (case l44 => k_is)
    (case c44 => k_is)
    (case k44 => k_is)
    (case a45 => k_is)
    (case i45 => k_is)
    (case l45 => k_is)
    (case c45 => k_is)
    (case k45 => k_is)
    (case a46 => k_is)
    (case i46 => k_is)
    (case l46 => k_is)
    (case c46 => k_is)
    (case k46 => k_is)
    (case rd => k_is)
    (case ga => k_is)
    (case a47 => k_is)
    (case r47 => k_is)
    (case i47 => k_is)
    (case l47 => k_is)
    (case c47 => k_is)
    (case k47 => k_is)
    (case pg => k_is)
    (case hd => k_is)
    (case po => k_is)
    (case sa => k_is)
    (case mk => k_is)
    (case kc => k_is)
    (case nR => k_is)
    (case nA => k_is)
    (case lm => k_is)
    (case lg => k_is)
    (case pgN => k_is)
    (case hdN => k_is)
    (case poN => k_is)
    (case saN => k_is)
    (case mkN => k_is)
    (case kcN => k_is)
    (case nFi => k_is)
    (case nRa => k_is)
    (case vL => k_is)
    (case vA => k_is)
    (case z_len => k_is)
    (case z_isinstance => k_is)
    (case z_str => k_is)
    (case z_all => k_is)
    (case z_any => k_is)
    (case z_tuple => k_is)
    (case z_list => k_is)
    (case z_sorted => k_is)
    (case z_abs => k_is)
    (case z_range => k_is)
    (case z_min => k_is)
    (case z_max => k_is)
    (case z_int => k_is)
    (case z_bool => k_is)
    (case z_reversed => k_is)
