import PyProof.Rows.All
import Wide.All
import OpenK.AllK
import Wide.FinOn
import HandS.ForMost
import PyProof.InstNe
import HandS.OwnEq
import HandS.Star
import HandS.ClsMeth
import HandS.Property
import HandS.FStr
import HandS.ListItems
import HandS.IsInst
import HandS.Wide
import HandS.Sort
import HandS.More
import HandS.CallLocal
import KE.KParD
import HandS.Codes
import HandS.Walk
import HandS.TupLen
import HandS.List
import HandS.Text
import HandS.Ends
import PyProof.ReprRoads
import PyProof.AutoSeq1
import HandS.Style
import KE.KRevSl
import HandS.Defaults
import HandS.Deep
import HandS.GenList
import HandS.Zip
import PyProof.EnumMake
import HandS.DictComp
import HandS.Comp
import HandS.Iter
import HandS.TupAny
import HandS.SetFor
import HandS.Strs
import PyProof.SetRoads
import PyProof.FactsAll.subtypes
import PyProof.StrLawsRepr
import PyProof.Rows.StrFit
import PyProof.Rows.RegStrFacts
import PySem.Challenge.RW_errorplaces_k30_is_template
set_option Elab.async false
set_option linter.all false
set_option maxRecDepth 100000
set_option maxHeartbeats 8000000
namespace Own
open PySem PySem.Spec PyProof.Rows L2
section
variable {X : Cx} {k : Nat} {f g C : Addr} {fd : FuncData} {ps : List Str} {sp : Sp} {E : XK} {pins : List (Addr × Obj)} {σ : L2.St} {H : Hp} {s : Shared}
/-- a def that raises nothing, called somewhere below the body -/
theorem run_sub {Q : VK} {us : List Value} {vs : List V} {E' : Value → Shared → Prop} {A : Around} (hA : A.frames = X.A.frames) (F : FnOk X.prog X.w X.K X.mg X.base CX0 k f fd ps sp) (hr : Room k A) (hb : Binds X.K fd ps []) (I : Inv X pins σ H s) (r : Vals vs us) (h : sp vs H Q E) :
    wpAny (model X.prog X.w) A (call (.ref f) us) (EP X pins σ Q) E' s := by
  have hl : (us ++ []).length = ps.length := by rw [List.append_nil, ← r.length]; exact F.len _ _ _ _ h
  have e := I.env0
  have e0 : Env0 X.prog X.w X.K X.mg X.base A X.stack s H := ⟨by rw [hA]; exact e.frames, e.mod, e.bs, e.bsz, e.funs, e.frf, e.hok, e.bare⟩
  have hb' : BindsTo s fd ⟨us, []⟩ (ps.zip us) := by
    have q := hb s us I.kIn hl
    rw [List.append_nil] at q
    exact q
  refine wpAny_call (codeAny_mono (F.run A X.stack s H ⟨us, []⟩ us vs Q E hr e0 hb' r h) fun r s' hq => ?_)
  cases r with
  | error e => exact False.elim hq
  | ok fl =>
    cases fl with
    | ret u => exact I.after hq
    | next => exact False.elim hq
    | brk => exact False.elim hq
    | cont => exact False.elim hq
theorem inst_of {C dx a : Addr} {fs : List (Str × V)} (I : Inv X pins σ H s) (e : H a = some (.ins C dx fs)) : ∃ od, PySem.W.InstAt s.heap a (PySem.W.instObj C dx) C (some od) := by
  obtain ⟨mA, J, _⟩ := ins_get I.hok e
  obtain ⟨od, J, _⟩ := J.look
  exact ⟨od, J⟩
/-- the class's own special method -/
structure Spc (K : PySem.W.Frag) (C : Addr) (m : Str) (f : Addr) : Prop where
  at_ : PySem.W.findIn K (.ref C) m = some (some (.ref f))
  fn : PySem.W.isFn K (.ref f) = true

/-- len(o) -/
theorem call_lenO (c : Spc X.K C "__len__" f) (F : FnOk X.prog X.w X.K X.mg X.base CX0 k f fd ["self"] sp) (hr : Room (k + 1) X.A) (hb : Binds X.K fd ["self"] []) :
    CallR X (.builtin "len") (fun xs H Q => ∃ a dx fs, xs = [.ref a] ∧ H a = some (.ins C dx fs) ∧ sp [.ref a] H (fun v H1 => ∃ n : Int, v = .int n ∧ 0 ≤ n ∧ n < 2 ^ 63 ∧ Q (.int n) H1) E0) := by
  intro pins s σ H xs us Q I r h
  obtain ⟨a, dx, fs, rfl, ha, q⟩ := h
  obtain rfl := Vals.ref1 r
  obtain ⟨od, J⟩ := inst_of I ha
  obtain ⟨m, hF⟩ := I.fr
  refine PySem.W.len_K hF I.ok.mod.kin J c.at_ c.fn (thn (run_sub (A := X.A.in1) rfl F hr.in1 hb I r q) fun u s1 ⟨v, H1, I1, rv, n, ev, h0, h1, q1⟩ => ?_)
  subst ev
  obtain ⟨t, rfl⟩ := rv
  exact ⟨⟨h0, h1⟩, .int n, H1, I1.tok _, ⟨_, rfl⟩, q1⟩
/-- repr(o) -/
theorem call_reprO (c : Spc X.K C "__repr__" f) (F : FnOk X.prog X.w X.K X.mg X.base CX0 k f fd ["self"] sp) (hr : Room (k + 1) X.A) (hb : Binds X.K fd ["self"] []) :
    CallR X (.builtin "repr") (fun xs H Q => ∃ a dx fs, xs = [.ref a] ∧ H a = some (.ins C dx fs) ∧ sp [.ref a] H (fun v H1 => ∃ z : Str, v = .str z ∧ Q (.str z) H1) E0) := by
  intro pins s σ H xs us Q I r h
  obtain ⟨a, dx, fs, rfl, ha, q⟩ := h
  obtain rfl := Vals.ref1 r
  obtain ⟨od, J⟩ := inst_of I ha
  obtain ⟨m, hF⟩ := I.fr
  refine PySem.W.repr_K hr.in1.units0 hF I.ok.mod.kin J c.at_ c.fn (thn (run_sub (A := X.A.in1) rfl F hr.in1 hb I r q) fun u s1 ⟨v, H1, I1, rv, z, ev, q1⟩ => ?_)
  subst ev
  obtain ⟨t, rfl⟩ := rv
  exact ⟨.str z, H1, I1, ⟨_, rfl⟩, q1⟩
/-- x in o, x not in o -/
theorem op_inO (c : Spc X.K C "__contains__" f) (F : FnOk X.prog X.w X.K X.mg X.base CX0 k f fd ["self", "x"] sp) (hr : Room k X.A) (hb : Binds X.K fd ["self", "x"] []) :
    OpR X (compareOp .In) (fun x y H Q => ∃ a dx fs, y = .ref a ∧ H a = some (.ins C dx fs) ∧ sp [.ref a, x] H (fun v H1 => ∃ b, v = .bl b ∧ Q (.bl b) H1) E0) := by
  intro pins s σ H x y v u Q I rx ry h
  obtain ⟨a, dx, fs, rfl, ha, q⟩ := h
  cases ry
  obtain ⟨od, J⟩ := inst_of I ha
  obtain ⟨m, hF⟩ := I.fr
  refine PySem.W.in_K hF I.ok.mod.kin J c.at_ c.fn (thn (run_sub (vs := [.ref a, x]) rfl F hr hb I (.cons rfl (.cons rx .nil)) q) fun u s1 ⟨v, H1, I1, rv, b, ev, q1⟩ => ?_)
  subst ev
  cases rv
  exact wpAny_truthy_bool ⟨.bl b, H1, I1, rfl, q1⟩
theorem op_notInO (c : Spc X.K C "__contains__" f) (F : FnOk X.prog X.w X.K X.mg X.base CX0 k f fd ["self", "x"] sp) (hr : Room k X.A) (hb : Binds X.K fd ["self", "x"] []) :
    OpR X (compareOp .NotIn) (fun x y H Q => ∃ a dx fs, y = .ref a ∧ H a = some (.ins C dx fs) ∧ sp [.ref a, x] H (fun v H1 => ∃ b, v = .bl b ∧ Q (.bl (!b)) H1) E0) := by
  intro pins s σ H x y v u Q I rx ry h
  obtain ⟨a, dx, fs, rfl, ha, q⟩ := h
  cases ry
  obtain ⟨od, J⟩ := inst_of I ha
  obtain ⟨m, hF⟩ := I.fr
  refine PySem.W.notIn_K hF I.ok.mod.kin J c.at_ c.fn (thn (run_sub (vs := [.ref a, x]) rfl F hr hb I (.cons rfl (.cons rx .nil)) q) fun u s1 ⟨v, H1, I1, rv, b, ev, q1⟩ => ?_)
  subst ev
  cases rv
  exact wpAny_truthy_bool ⟨.bl (!b), H1, I1, rfl, q1⟩
/-- len(o) asked below a built-in's body -/
theorem len_body (c : Spc X.K C "__len__" f) (F : FnOk X.prog X.w X.K X.mg X.base CX0 k f fd ["self"] sp) {A : Around} (hA : A.frames = X.A.frames) (hr : Room k A) (hb : Binds X.K fd ["self"] []) {Q : Int → Shared → Prop} {E' : Value → Shared → Prop} {R : Int → Hp → Prop}
    {a dx : Addr} {fs : List (Str × V)} (I : Inv X pins σ H s) (ha : H a = some (.ins C dx fs)) (q : sp [.ref a] H (fun v H1 => ∃ n : Int, v = .int n ∧ 0 ≤ n ∧ n < 2 ^ 63 ∧ R n H1) E0) (hR : ∀ n H1 s', Inv X pins σ H1 s' → R n H1 → Q n s') :
    wpAny (model X.prog X.w) A (Builtin.«len» ⟨[.ref a], []⟩) (fun z s' => ∃ n t, z = Fin.done (.ret (.int n t)) ∧ Q n s') E' s := by
  obtain ⟨od, J⟩ := inst_of I ha
  have KX := I.kIn
  unfold Builtin.«len»
  refine wpAny_bind (m := oneArg "len" _) (wpAny_pure ?_)
  refine wpAny_bind (m := callSpecial? (.ref a) (Str.ofString "__len__")) (PySem.W.special_fn KX J c.at_ (beq_iff_eq.mp c.fn) ?_)
  refine thn (run_sub (vs := [.ref a]) hA F hr hb I (.cons rfl .nil) q) fun u s1 ⟨v, H1, I1, rv, n, ev, h0, h1, q1⟩ => ?_
  subst ev
  obtain ⟨t, rfl⟩ := rv
  refine wpAny_bind (wpAny_holding (wpAny_pure (wpAny_bind (wpAny_letGo ?_))))
  show wpAny _ _ (if n < 0 then _ else _) _ _ _
  rw [if_neg (by omega)]
  show wpAny _ _ (if n ≥ 2 ^ 63 then _ else _) _ _ _
  rw [if_neg (by omega)]
  exact wpAny_bind (wpAny_mkInt (wpAny_pure ⟨n, _, rfl, hR n H1 _ (I1.tok _) q1⟩))
/-- truth by __len__ -/
theorem truthy_len (hn : PySem.W.findIn X.K (.ref C) "__bool__" = some none) (c : Spc X.K C "__len__" f) (F : FnOk X.prog X.w X.K X.mg X.base CX0 k f fd ["self"] sp) {A : Around} (hA : A.frames = X.A.frames) (hr : Room (k + 1) A) (hb : Binds X.K fd ["self"] []) {Q : Bool → Shared → Prop} {E' : Value → Shared → Prop} {R : Int → Hp → Prop}
    {a dx : Addr} {fs : List (Str × V)} (I : Inv X pins σ H s) (ha : H a = some (.ins C dx fs)) (q : sp [.ref a] H (fun v H1 => ∃ n : Int, v = .int n ∧ 0 ≤ n ∧ n < 2 ^ 63 ∧ R n H1) E0) (hR : ∀ n H1 s', Inv X pins σ H1 s' → R n H1 → Q (n != 0) s') :
    wpAny (model X.prog X.w) A (truthy (.ref a)) Q E' s := by
  obtain ⟨od, J⟩ := inst_of I ha
  have KX := I.kIn
  unfold truthy
  refine wpAny_bind (m := callSpecial? (.ref a) (Str.ofString "__bool__")) (wpAny_bind (wpAny_bind (J.type.here ((PySem.W.looks_findIn KX hn).here (wpAny_pure ?_)))))
  refine wpAny_bind (wpAny_bind (J.type.here ((PySem.W.looks_findIn KX c.at_).here ?_)))
  have key : wpAny (model X.prog X.w) A (runValue (.builtin "len" ⟨[.ref a], []⟩)) (fun r s' => ∃ n t, r = .int n t ∧ Q (n != 0) s') E' s := by
    refine wpAny_runValue (codeAny_builtin entry_len ?_)
    rw [Around.under_plainId plain_len _]
    refine wpAny_mono (len_body (Q := fun n s' => Q (n != 0) s') (A := A.in1) c F hA hr.in1 hb I ha q hR) (fun z s' hz => ?_) fun _ _ e => e
    obtain ⟨n, t, rfl, hq⟩ := hz
    exact ⟨n, t, rfl, hq⟩
  refine wpAny_bind (wpAny_mono key (fun r s' hv => ?_) fun _ _ e => e)
  obtain ⟨n, t, rfl, hq⟩ := hv
  exact wpAny_pure hq
end
end Own

namespace Own
open PySem PySem.Spec PyProof.Rows L2
/-! bool(o): the constructor of a built-in type whose own code is known in this model alone -/
section
variable {prog : Program} {w : World} {A : Around} {E : Value → Shared → Prop} {s : Shared}
theorem typeMade_in {T nid iid : String} {Bn Bi : Builtin} {as : List Value} {S : PySem.Spec} {Q Q1 : Value → Shared → Prop} (tc : TypeCalled T nid iid) (c1 : checkTypeCall T ⟨as, []⟩ = pure ()) (c2 : checkBuiltinCall nid ⟨.type T :: as, []⟩ = pure ())
    (e1 : entryFor table nid = some Bn) (e2 : entryFor table iid = some Bi) (g1 : MeetsIn prog w (Bn ⟨.type T :: as, []⟩) S) (h1 : S A.in1 (wants Q1 E) s)
    (h2 : ∀ o s1, Q1 o s1 → s1.TypeIs o T ∧ argsOk iid ⟨o :: as, []⟩ ∧ ∃ S2, Meets (Bi ⟨o :: as, []⟩) S2 ∧ S2 A.in1 (wants (fun r s2 => r = .none ∧ Q o s2) E) s1) : wpAny (model prog w) A (call (.type T) as) Q E s := by
  obtain ⟨mc, ml, mr⟩ := tc.mro
  have m1 := tc.made
  have m2 := tc.sub
  refine wpAny_call (codeAny_of_tree ?_)
  show wpAny _ _ (callAny (.type T) _) _ _ _
  refine wpAny_pure ⟨Code.quiet_builtin _ (by decide +kernel), codeAny_builtin PySem.F.entry_type_call ?_⟩
  rw [Around.under_plain (weight_type_call_type T as []) (units_type_call_type T as [])]
  have m3 := tc.notType
  have m4 := tc.canCreate
  repeat (any_goals (first | assumption | wp_step))
  refine codeAny_mono (codeAny_call_builtin tc.plain e1 (wpAny_of_eq c2 (g1 A.in1 _ s h1))) fun z s1 hz => ?_
  cases z with
  | error _ => exact hz
  | ok fl =>
    cases fl with
    | next => exact hz.elim
    | brk => exact hz.elim
    | cont => exact hz.elim
    | ret o =>
      obtain ⟨hT, hok, S2, g2, q2⟩ := h2 _ _ hz
      have l1 := tc.init.lookup
      have l2 := tc.init.bind o
      repeat (any_goals (first | assumption | wp_step))
      refine codeAny_mono (codeAny_call_builtin tc.init.plain e2 (tc.init.check _ _ _ _ _ _ _ _ hT hok (g2 prog w A.in1 _ s1 q2))) fun z2 s2 hz2 => ?_
      cases z2 with
      | error _ => exact hz2
      | ok fl2 =>
        cases fl2 with
        | next => exact hz2.elim
        | brk => exact hz2.elim
        | cont => exact hz2.elim
        | ret r =>
          obtain ⟨rfl, hq⟩ := hz2
          repeat (any_goals (first | assumption | wp_step))
end
section
variable {X : Cx} {k : Nat} {f g C : Addr} {fd : FuncData} {sp : Sp}
theorem call_boolO (hn : PySem.W.findIn X.K (.ref C) "__bool__" = some none) (c : Spc X.K C "__len__" f) (F : FnOk X.prog X.w X.K X.mg X.base CX0 k f fd ["self"] sp) (hr : Room (k + 4) X.A) (hb : Binds X.K fd ["self"] []) :
    CallR X (.type "bool") (fun xs H Q => ∃ a dx fs, xs = [.ref a] ∧ H a = some (.ins C dx fs) ∧ sp [.ref a] H (fun v H1 => ∃ n : Int, v = .int n ∧ 0 ≤ n ∧ n < 2 ^ 63 ∧ Q (.bl (n != 0)) H1) E0) := by
  intro pins s σ H xs us Q I r h
  obtain ⟨a, dx, fs, rfl, ha, q⟩ := h
  obtain rfl := Vals.ref1 r
  have g1 : MeetsIn X.prog X.w (Builtin.«bool.__new__» ⟨[.type "bool", .ref a], []⟩) (fun A' R s0 => A' = X.A.in1 ∧ s0 = s ∧ ∀ (b : Bool) (s' : Shared), EP X pins σ Q (.bool b) s' → R (.ok (.ret (.bool b))) s') := by
    rintro A' R s0 ⟨rfl, rfl, hR⟩
    have f1 := PySem.F.conv_sub_bool
    obtain ⟨hp, gg, d, tk, os⟩ := s0
    have tr : wpAny (model X.prog X.w) X.A.in1.in1 (truthy (.ref a)) (fun b s' => EP X pins σ Q (.bool b) s') (fun e s' => R (.error e) s') ⟨hp, gg, d, tk, os⟩ := by
      exact truthy_len (A := X.A.in1.in1) hn c F rfl (hr.mono (by omega : k + 1 + 1 + 1 ≤ k + 4)).in1.in1 hb I ha q fun n H1 s' I1 q1 => ⟨.bl (n != 0), H1, I1, rfl, q1⟩
    repeat (any_goals (first | assumption | (with_reducible refine thn tr fun b s' hb => ?_) | wp_step))
    exact hR _ _ (by assumption)
  exact typeMade_in (Q1 := fun o s1 => s1.TypeIs o "bool" ∧ EP X pins σ Q o s1) PySem.F.called_bool (PySem.F.typeCall_bool_1 _) (PySem.F.newCall_bool_1 _) PySem.F.entry_bool_new PySem.F.entry_object_init g1 ⟨rfl, rfl, fun b s' hb => ⟨PySem.typeIs_bool _ _, hb⟩⟩ fun o s1 hq => ⟨hq.1, PySem.F.args_object_init_2 _ _, _, object_init_meets PySem.F.called_bool.init.lookup PySem.F.called_bool.made PySem.F.newNe_bool, hq.1, rfl, hq.2⟩
end
end Own

namespace Own
open PySem PySem.Spec PyProof.Rows L2
/-! a != b by the own __eq__ (the class has no __ne__ of its own) -/
section
variable {X : Cx} {k : Nat} {f C : Addr} {fd : FuncData} {sp : Sp} {pins : List (Addr × Obj)} {σ : L2.St} {H : Hp} {s : Shared}
theorem ne_bind (self : Value) : bindSpecial (.builtin "object.__ne__") self = pure (.builtin "object.__ne__", [self]) := PySem.F.slot_tuple_iterator_ne.bind self
theorem cmp_eqO (c : Spc X.K C "__eq__" f) (F : FnOk X.prog X.w X.K X.mg X.base CX0 k f fd ["self", "other"] sp) (hr : Room k X.A) (hb : Binds X.K fd ["self", "other"] []) :
    OpR X (compareOp .Eq) (fun x y H Q => ∃ a b dx fs dy gs, x = .ref a ∧ y = .ref b ∧ H a = some (.ins C dx fs) ∧ H b = some (.ins C dy gs) ∧ sp [.ref a, .ref b] H (fun v H1 => ∃ z, v = .bl z ∧ Q (.bl z) H1) E0) := by
  intro pins s σ H x y v u Q I rx ry h
  obtain ⟨a, b, dx, fs, dy, gs, rfl, rfl, ha, hb', q⟩ := h
  cases rx
  cases ry
  obtain ⟨od, J⟩ := inst_of I ha
  obtain ⟨od', J'⟩ := inst_of I hb'
  obtain ⟨m, hF⟩ := I.fr
  refine PySem.W.cmp_ofEq (PySem.W.cmp_K (op := .Eq) (tb := .ref C) hr.units0 hF I.ok.mod.kin J J'.type (by simp [PySem.W.notFirst]) c.at_ c.fn ?_)
  refine thn (run_sub (vs := [.ref a, .ref b]) rfl F hr hb I (.cons rfl (.cons rfl .nil)) q) fun u s1 ⟨v, H1, I1, rv, z, ev, q1⟩ => ?_
  subst ev
  cases rv
  exact ⟨.bl z, H1, I1, rfl, q1⟩
/-- the class takes != from object -/
structure NeO (K : PySem.W.Frag) (C : Addr) : Prop where
  at_ : PySem.W.findIn K (.ref C) "__ne__" = some (some (.builtin "object.__ne__"))
  ob : PySem.W.mroIn K C (.type "object") = some true
theorem cmp_neO (n : NeO X.K C) (c : Spc X.K C "__eq__" f) (F : FnOk X.prog X.w X.K X.mg X.base CX0 k f fd ["self", "other"] sp) (hr : Room (k + 4) X.A) (hb : Binds X.K fd ["self", "other"] []) :
    OpR X (compareOp .NotEq) (fun x y H Q => ∃ a b dx fs dy gs, x = .ref a ∧ y = .ref b ∧ H a = some (.ins C dx fs) ∧ H b = some (.ins C dy gs) ∧ sp [.ref a, .ref b] H (fun v H1 => ∃ z, v = .bl z ∧ Q (.bl (!z)) H1) E0) := by
  intro pins s σ H x y v u Q I rx ry h
  obtain ⟨a, b, dx, fs, dy, gs, rfl, rfl, ha, hb', q⟩ := h
  cases rx
  cases ry
  obtain ⟨od, J⟩ := inst_of I ha
  obtain ⟨od', J'⟩ := inst_of I hb'
  have KX := I.kIn
  have inner : wpAny (model X.prog X.w) X.A.in1 (Builtin.«object.__ne__» ⟨[.ref a, .ref b], []⟩) (fun z s' => ∃ t, z = Fin.done (.ret (.bool t)) ∧ EP X pins σ Q (.bool t) s') X.xe s := by
    unfold Builtin.«object.__ne__»
    refine wpAny_bind (m := slotArgs "__ne__" 1 _) (wpAny_pure ?_)
    refine wpAny_bind (wpAny_cRoomFor (hr.mono (by omega : k + 3 + 1 ≤ k + 4)).in1.units0 ?_)
    refine wpAny_bind (m := callSpecialIfBound? (.ref a) (Str.ofString "__eq__") [.ref b]) (PySem.W.ifBound_K KX J c.at_ c.fn ?_)
    refine thn (run_sub (A := X.A.in1) (vs := [.ref a, .ref b]) rfl F (hr.mono (by omega : k + 1 ≤ k + 4)).in1 hb I (.cons rfl (.cons rfl .nil)) q) fun u s1 ⟨v, H1, I1, rv, z, ev, q1⟩ => ?_
    subst ev
    cases rv
    refine wpAny_bind (wpAny_truthy_bool (wpAny_pure ⟨_, rfl, .bl (!z), H1, I1, rfl, q1⟩))
  have one : wpAny (model X.prog X.w) X.A (tryCompare (.ref a) "__ne__" (.ref b)) (fun r s' => ∃ t, r = some (.bool t) ∧ EP X pins σ Q (.bool t) s') X.xe s := by
    have cl : wpAny (model X.prog X.w) X.A (call (.builtin "object.__ne__") [.ref a, .ref b]) (fun r s' => ∃ t, r = .bool t ∧ EP X pins σ Q (.bool t) s') X.xe s := by
      refine wpAny_call (codeAny_call_builtin PySem.F.slot_tuple_iterator_ne.plain PySem.F.cmpEntry_ne ?_)
      refine @PySem.W.check_slot (model X.prog X.w) _ _ s "object.__ne__" "object" "__ne__" (.ref a) [.ref b] [] _ PySem.F.cmpKind_ne PySem.F.cmpSplit_ne (J.type.andThen (PySem.W.looks_mroIn KX n.ob)) (PySem.F.cmpArgs_ne _ _) ?_
      refine wpAny_mono inner (fun z s' hz => ?_) fun _ _ e => e
      obtain ⟨t, rfl, hq⟩ := hz
      exact ⟨t, rfl, hq⟩
    simp only [tryCompare, callSpecialIfBound?, bindSpecialIfBound?]
    refine wpAny_bind (wpAny_holding (wpAny_bind (wpAny_bind (wpAny_bind (J.type.here ((PySem.W.looks_findIn KX n.at_).here ?_))))))
    refine wpAny_bind (wpAny_askSetting (wpAny_ite ?_))
    have fin : wpAny (model X.prog X.w) X.A (call (.builtin "object.__ne__") ([.ref a] ++ [.ref b]) >>= fun v => pure (some v)) (fun r s' => ∃ t, r = some (.bool t) ∧ EP X pins σ Q (.bool t) s') X.xe s :=
      wpAny_bind (wpAny_mono cl (fun v s' ⟨t, e, hq⟩ => wpAny_pure ⟨t, by rw [e], hq⟩) fun _ _ e => e)
    have fin2 : wpAny (model X.prog X.w) X.A (call (.builtin "object.__ne__") ([.ref a] ++ [.ref b]) >>= fun v => pure (some v)) (fun r s' => wpAny (model X.prog X.w) X.A (match r with | some .notImplemented | none => pure none | some v => pure (some v)) (fun r s' => ∃ t, r = some (.bool t) ∧ EP X pins σ Q (.bool t) s') X.xe s') X.xe s :=
      wpAny_mono fin (fun r s' ⟨t, e, hq⟩ => by subst e; exact wpAny_pure ⟨t, rfl, hq⟩) fun _ _ e => e
    split
    · exact wpAny_bind ((PySem.W.Looks.of_pure (ne_bind _)).here (wpAny_pure (by exact fin2)))
    · exact wpAny_tryCatch (wpAny_bind ((PySem.W.Looks.of_pure (ne_bind _)).here (wpAny_pure (by exact fin2))))
  show wpAny _ _ (richCompare .NotEq (.ref a) (.ref b)) _ _ _
  unfold richCompare
  simp only [oneThing_ref]
  refine wpAny_holding (wpAny_bind (wpAny_cRoomFor hr.units0 ?_))
  refine wpAny_bind (J.type.here (wpAny_bind (J'.type.here ?_)))
  rw [show (Value.ref C != Value.ref C) = false from by simp]
  simp only [Bool.false_eq_true, if_false]
  refine wpAny_bind (wpAny_pure ?_)
  simp only [Bool.false_eq_true, if_false]
  refine wpAny_bind (wpAny_mono one (fun r s' ⟨t, e, hq⟩ => ?_) fun _ _ e => e)
  subst e
  exact wpAny_pure hq
end
end Own

namespace Own
open PySem PySem.Spec PyProof.Rows L2
/-! a def that takes all keywords: f(self, **bases) -/
section
variable {prog : Program} {w : World} {A : Around} {E : Value → Shared → Prop} {d : Addr}
theorem put_one {s : Shared} {es : List DictEntry} {n : Nat} {k : Str} {v : Value} {Q : Unit → Shared → Prop} (D : s.heap.get? d = some (PySem.W.dictOf es n)) (hs : ∀ e ∈ es, e.key.isStr k = false) (hr : ∀ e ∈ es, e.refKey = false)
    (h : ∀ h', h'.get? d = some (PySem.W.dictOf (es ++ [⟨PyData.keyHash w.params k, .str k s.toks, v⟩]) (n + 1)) → (∀ b o, b ≠ d → s.heap.get? b = some o → h'.get? b = some o) → Q () { s with heap := h', toks := s.toks + 1 }) :
    wpAny (model prog w) A (nsSet d k v) Q E s := by
  have a1 : es.any (·.key.isStr k) = false := List.any_eq_false.mpr fun e he => by rw [hs e he]; decide
  have a2 : es.any (·.refKey) = false := List.any_eq_false.mpr fun e he => by rw [hr e he]; decide
  have a3 : Obj.putName k (PyData.keyHash w.params k) (.str k s.toks) v (PySem.W.dictOf es n) = PySem.W.dictOf (es ++ [⟨PyData.keyHash w.params k, .str k s.toks, v⟩]) (n + 1) := by
    rw [PySem.W.putName_dict, PySem.W.putL_new hs]
    show PySem.W.dictOf _ (if es.any (·.key.isStr k) then n else n + 1) = _
    rw [a1, if_neg Bool.false_ne_true]
  have a4 : aRefKeyMayBeTheName k es.toArray = false := by
    rw [aRefKeyMayBeTheName_at, ← Array.any_toList, ← Array.any_toList]
    show (!es.any (·.key.isStr k) && es.any (·.refKey)) = false
    rw [a2, Bool.and_false]
  unfold nsSet
  refine wpAny_bind (wpAny_bind (wpAny_askSetting (wpAny_pure (wpAny_bind (wpAny_mkText (wpAny_bind (wpAny_loadPart D ?_)))))))
  dsimp only
  rw [a4]
  refine wpAny_updatePart D (h _ ?_ fun b o hb e => ?_)
  · rw [← a3]
    exact Heap.get?_update_self _ D ((congrArg Obj.isFreed a3).trans rfl)
  · exact (Heap.get?_update_ne _ b d _ hb).trans e
def putAll (d : Addr) (l : List (Str × Value)) : Sem PUnit := forIn l PUnit.unit fun x _ => (nsSet d x.1 x.2 >>= fun _ => pure (ForInStep.yield PUnit.unit))
theorem put_all {Q : PUnit → Shared → Prop} : ∀ (l : List (Str × Value)) (s : Shared) (es : List DictEntry) (n : Nat), s.heap.get? d = some (PySem.W.dictOf es n) → (∀ e ∈ es, ∀ x ∈ l, e.key.isStr x.1 = false) → (∀ e ∈ es, e.refKey = false) → (l.map (·.1)).Nodup →
    (∀ h', h'.get? d = some (PySem.W.dictOf (es ++ PySem.W.kwEs w.params s.toks l) (n + l.length)) → (∀ b o, b ≠ d → s.heap.get? b = some o → h'.get? b = some o) → Q ⟨⟩ { s with heap := h', toks := s.toks + l.length }) → wpAny (model prog w) A (putAll d l) Q E s
  | [], s, es, n, D, _, _, _, h => by
    unfold putAll
    rw [List.forIn_nil]
    refine wpAny_pure (h s.heap ?_ fun _ _ _ e => e)
    show s.heap.get? d = some (PySem.W.dictOf (es ++ []) n)
    rw [List.append_nil]
    exact D
  | x :: r, s, es, n, D, hs, hr, hn, h => by
    obtain ⟨n1, n2⟩ := List.nodup_cons.mp (show (x.1 :: r.map (·.1)).Nodup from hn)
    unfold putAll
    rw [List.forIn_cons]
    refine wpAny_bind (wpAny_bind (put_one D (fun e he => hs e he x (.head _)) hr fun h' D' k' => wpAny_pure ?_))
    refine put_all r { s with heap := h', toks := s.toks + 1 } _ _ D' (fun e he y hy => ?_) (fun e he => ?_) n2 fun h2 D2 k2 => ?_
    · rcases List.mem_append.mp he with z | z
      · exact hs e z y (.tail _ hy)
      · obtain rfl := List.mem_singleton.mp z
        exact beq_eq_false_iff_ne.mpr fun q => n1 (by rw [q]; exact List.mem_map_of_mem hy)
    · rcases List.mem_append.mp he with z | z
      · exact hr e z
      · obtain rfl := List.mem_singleton.mp z
        rfl
    · have t1 : s.toks + 1 + r.length = s.toks + (r.length + 1) := by omega
      have t2 : n + 1 + r.length = n + (r.length + 1) := by omega
      show Q ⟨⟩ { s with heap := h2, toks := s.toks + 1 + r.length }
      rw [t1]
      refine h h2 ?_ fun b o hb e => k2 b o hb (k' b o hb e)
      rw [t2, List.append_assoc] at D2
      exact D2
/-- the keys are texts -/
def keyed {α : Type} (l : List (Str × α)) : List (Key × α) := l.map fun p => (.inr p.1, p.2)
theorem keyed_pairs : ∀ (l : List (Str × Value)) (t : Tok), Pairs (mixKind prog w) (PySem.W.kwEs w.params t l) (keyed l)
  | [], _ => Pairs.nil
  | x :: r, t => Pairs.cons (mixKind_str prog w x.1 t) rfl (keyed_pairs r (t + 1))
theorem keyed_keys {α : Type} (l : List (Str × α)) : (keyed l).map (·.1) = (l.map (·.1)).map Sum.inr := by
  unfold keyed
  rw [List.map_map, List.map_map]
  rfl
theorem keyed_nodup {α : Type} {l : List (Str × α)} (h : (l.map (·.1)).Nodup) : ((keyed l).map (·.1)).Nodup := by
  rw [keyed_keys]
  exact List.Pairwise.map _ (fun a b n e => n (Sum.inr.inj e)) h
theorem put_dict {h : Heap} {l : List (Str × Value)} {t : Tok} {n : Nat} (D : h.get? d = some (PySem.W.dictOf (PySem.W.kwEs w.params t l) n)) (hn : (l.map (·.1)).Nodup) : h.DictOf (mixKind prog w) d (keyed l) := by
  refine ⟨_, (PySem.W.kwEs w.params t l).toArray, n, D, ⟨rfl, rfl, rfl⟩, rfl, fun e he => ?_, keyed_pairs l t, keyed_nodup hn⟩
  obtain ⟨k, u, hk, hh⟩ := PySem.W.kwEs_key l t e (List.mem_toArray.mp he)
  exact ⟨.inr k, by rw [hk]; exact mixKind_str prog w k u, hh.trans rfl⟩
theorem keyed_kv : ∀ {ks : List Str} {vs : List V} {ws : List Value}, Vals vs ws → KV (keyed (ks.zip vs)) (keyed (ks.zip ws))
  | [], _, _, _ => by
    rw [List.zip_nil_left, List.zip_nil_left]
    exact .nil
  | _ :: _, _, _, .nil => .nil
  | k :: ks, _, _, .cons r t => .cons ⟨rfl, r⟩ (keyed_kv t)
end
end Own

namespace Own
open PySem PySem.Spec PyProof.Rows L2
section
variable {P : Program} {w : World} {K : PySem.W.Frag} {mg : Str → Option Value} {base : Heap} {A : Around} {outer : List Env} {s : Shared} {H : Hp}
theorem env0_grown {h' : Heap} {d : Addr} {u : HO} {t : Nat} (e0 : Env0 P w K mg base A outer s H) (kp : ∀ b x, s.heap.get? b = some x → h'.get? b = some x) (hd : s.heap.objs.size ≤ d) (sz : s.heap.objs.size ≤ h'.objs.size) (new : ObjOk P w (upd H d u) h' d u) :
    Env0 P w K mg base A outer { s with heap := h', toks := t } (upd H d u) := by
  refine ⟨e0.frames, e0.mod, fun b x e => ⟨kp b x (e0.bs b x e).1, ?_⟩, Nat.le_trans e0.bsz sz, Heap.FunFrames.of_keeps (fun b x e _ => ⟨x, kp b x e, rfl⟩) e0.funs, fun b hb => ?_, e0.hok.laid kp hd new, e0.bare⟩
  · rw [upd_ne (Nat.ne_of_lt (Nat.lt_of_lt_of_le (Heap.lt_size (e0.bs b x e).1) hd))]
    exact (e0.bs b x e).2
  · obtain ⟨_, x, hx, _⟩ := e0.funs.mem hb
    rw [upd_ne (Nat.ne_of_lt (Nat.lt_of_lt_of_le (Heap.lt_size hx) hd))]
    exact e0.frf b hb
/-- a promise of a def f(self, **bases): the object, the names, their values -/
abbrev SpK := Addr → List Str → List V → Hp → VK → Prop
def FnKw (P : Program) (w : World) (K : PySem.W.Frag) (mg : Str → Option Value) (base : Heap) (k : Nat) (f : Addr) (sp : SpK) : Prop :=
  ∀ (A : Around) (outer : List Env) (s : Shared) (H : Hp) (x : Addr) (ks : List Str) (ws : List Value) (vs : List V) (Q : VK) (E : XK), Room k A → Env0 P w K mg base A outer s H → Vals vs ws → vs.length = ks.length → sp x ks vs H Q →
    codeAny (model P w) A (.call (.ref f) ⟨[.ref x], ks.zip ws⟩) (CR CX0 outer P w H s Q E) s
theorem fn_kw {k : Nat} {f : Addr} {name qual : Str} {params : Arguments} {body : List Stmt} {scope : Scope} {dV kV doc pm cdv ct oc : Value} {an od : Option Addr} {osl : Array (Option Value)} {N : List Str} {sp : SpK} {p1 p2 : Str}
    (lk : K.lookup f = some ⟨oc, od, .func (PySem.W.fnOf name qual params body scope dV kV doc pm an cdv ct), osl⟩) (hcd : PySem.W.codeIn K cdv qual = true) (S : FnScope N [p1, p2] scope)
    (nd : ∀ x ks vs H Q, sp x ks vs H Q → ks.Nodup ∧ ks.length ≤ 1000)
    (hb : ∀ x ks vs H Q (ws : List Value), sp x ks vs H Q → ws.length = ks.length → bindArgs (PySem.W.fnOf name qual params body scope dV kV doc pm an cdv ct) ⟨[.ref x], ks.zip ws⟩ =
      (alloc ({ cls := .type "dict", data := .dict #[] } : Obj) >>= fun d => putAll d (ks.zip ws) >>= fun _ => pure [(p1, Value.ref x), (p2, Value.ref d)]))
    (hbody : ∀ (A : Around) (outer : List Env) (s : Shared) (H : Hp) (x d : Addr) (ks : List Str) (vs : List V) (Q : VK) (E : XK), Room k (A.deeper (envOfC qual scope s.heap.objs.size f cdv)) → sp x ks vs H Q → H d = none →
      ∃ t, PSs (cxOf CX0 P w K mg base N qual scope f cdv A outer s (upd H d (.dK (keyed (ks.zip vs)))) E).nox body t ∧ t { nx := fun _ H' => Q .non H', rt := Q } (start N [.ref x, .ref d]) (upd H d (.dK (keyed (ks.zip vs))))) :
    FnKw P w K mg base (k + 1) f sp := by
  intro A outer s H x ks ws vs Q E hr e0 r hl hsp
  have hlw : ws.length = ks.length := r.length.symm.trans hl
  have hn : H s.heap.objs.size = Option.none := e0.hok.fresh (Nat.le_refl _)
  obtain ⟨nd1, nd2⟩ := nd _ _ _ _ _ hsp
  have keysE : ((ks.zip ws).map (·.1)) = ks := by
    rw [List.map_fst_zip]
    omega
  refine StX.run_bnd (ps := [p1, p2]) lk hcd S hr e0 (G := fun xs H2 => ∃ d, H d = Option.none ∧ xs = [V.ref x, V.ref d] ∧ H2 = upd H d (.dK (keyed (ks.zip vs)))) (fun A' Ex Q' h => ?_) fun s2 H2 xs ⟨d, hd, ex, eH⟩ hr' => ?_
  · rw [hb x ks vs H Q ws hsp hlw]
    refine wpAny_bind (wpAny_alloc (wpAny_bind ?_))
    refine put_all (ks.zip ws) { s with heap := s.heap.push ({ cls := .type "dict", data := .dict #[] } : Obj) } [] 0 (Heap.get?_push_size _ rfl) (fun _ z => nomatch z) (fun _ z => nomatch z) (by rw [keysE]; exact nd1) fun h' D' kp' => wpAny_pure ?_
    have kp : ∀ b o, s.heap.get? b = some o → h'.get? b = some o := fun b o e => kp' b o (Nat.ne_of_lt (Heap.lt_size e)) (Heap.get?_push_of_some _ e)
    have dct : h'.DictOf (mixKind P w) s.heap.objs.size (keyed (ks.zip ws)) := put_dict (t := s.toks) (n := 0 + (ks.zip ws).length) (by simpa using D') (by rw [keysE]; exact nd1)
    have kv : KV (keyed (ks.zip vs)) (keyed (ks.zip ws)) := keyed_kv r
    have z : (keyed (ks.zip vs)).length ≤ sizeLine := by
      unfold keyed
      rw [List.length_map, List.length_zip]
      exact Nat.le_of_lt (small1000 (by omega))
    have big := StX.env0_big e0
    have new : ObjOk P w (upd H s.heap.objs.size (.dK (keyed (ks.zip vs)))) h' s.heap.objs.size (.dK (keyed (ks.zip vs))) := ⟨z, beq_eq_false_iff_ne.mpr (Ne.symm (Nat.ne_of_lt big)), _, kv, dct⟩
    have un : Un (frs outer) [] H (upd H s.heap.objs.size (.dK (keyed (ks.zip vs)))) s.heap h' := Un.laid kp (Nat.le_refl _) hn
    exact h { s with heap := h', toks := s.toks + (ks.zip ws).length } _ [V.ref x, V.ref s.heap.objs.size] [Value.ref x, Value.ref s.heap.objs.size] (env0_grown e0 kp (Nat.le_refl _) (Nat.le_of_lt (by
      obtain ⟨o, es, ep, ho, _⟩ := dct
      exact Heap.lt_size ho)) new) un rfl (fun e s' hh => hh) (.cons rfl (.cons rfl .nil)) rfl ⟨_, hn, rfl, rfl⟩
  · subst ex eH
    obtain ⟨t, ht, q⟩ := hbody A outer s2 H x d ks vs Q E hr' hsp hd
    exact ⟨t, ht.nox, q⟩
end
/-- C(k = v, ..), no positional argument -/
def tMakeKw (C : Addr) (ks : List Str) (sp : SpK) (tk : TA) : TE := fun σ H Q => tk σ H fun zs H2 => zs.length = ks.length ∧
  ∀ x dx, H2 x = none → H2 dx = none → dx ≠ x → sp x ks zs (upd (upd H2 dx (.own x)) x (.ins C dx [])) (fun v H3 => v = .non ∧ Q (.ref x) H3)
section
variable {X : Cx} {k i : Nat} {f C : Addr} {ks : List Str} {sp : SpK} {x : Str} {p pos : Pos} {kws : List Keyword} {tk : TA}
theorem run_makeKw {pins : List (Addr × Obj)} {σ : L2.St} {H : Hp} {s : Shared} {Q : VK} {ws : List Value} {zs : List V} (M : Mk X.K C f) (F : FnKw X.prog X.w X.K X.mg X.base k f sp) (hr : Room (k + 1) X.A) (I : Inv X pins σ H s) (rz : Vals zs ws) (l : zs.length = ks.length)
    (h : ∀ x dx, H x = none → H dx = none → dx ≠ x → sp x ks zs (upd (upd H dx (.own x)) x (.ins C dx [])) (fun v H3 => v = .non ∧ Q (.ref x) H3)) :
    wpAny (model X.prog X.w) X.A (call (.ref C) [] (ks.zip ws)) (EP X pins σ Q) X.xe s := by
  have hq := h (s.heap.objs.size + 1) s.heap.objs.size (I.hok.fresh (Nat.le_succ _)) (I.hok.fresh (Nat.le_refl _)) (Nat.ne_of_lt (Nat.lt_succ_self _))
  have I2 := Inv.made (C := C) I
  refine wpAny_call (make_map (f := f) I.kIn M.makes M.init (beq_iff_eq.mp M.fn) (codeAny_mono (F _ X.stack _ _ (s.heap.objs.size + 1) ks ws zs _ E0 (hr.make C [] (ks.zip ws)) (I2.env0.make C [] (ks.zip ws)) rz l hq) fun r s' z => ?_))
  cases r with
  | error e => exact False.elim z
  | ok fl =>
    cases fl with
    | next => exact False.elim z
    | brk => exact False.elim z
    | cont => exact False.elim z
    | ret u =>
      obtain ⟨v, H3, I3, rv, ev, q3⟩ := I2.after z
      subst ev
      exact ⟨rv, V.ref (s.heap.objs.size + 1), H3, I3, rfl, q3⟩
theorem pe_makeKw (M : Mk X.K C f) (F : FnKw X.prog X.w X.K X.mg X.base k f sp) (hr : Room (k + 1) X.A) (hg : Gl X x) (hm : X.mg x = some (.ref C)) (hkw : PK X kws tk)
    (hall : (backToKw pos (keywordEach kws X.env)).all (·.1.isSome) = true := by rfl) (hks : (backToKw pos (keywordEach kws X.env)).filterMap (·.1) = ks := by rfl) (hdb : (x == ("__debug__" : Str)) = false := by decide)
    (hpl : ((backTo pos (starEach [] X.env)).any (·.1) || (backToKw pos (keywordEach kws X.env)).any (·.1.isNone)) = false := by rfl) : PE X (.Call (.Name x p) [] kws pos) (tMakeKw C ks sp tk) := by
  refine ⟨fun pins s σ H Q I h => ?_⟩
  refine wpAny_Call_Name_kw (ld_glob I hg hm ?_ hdb)
  refine PySem.W.callWith_KW0 (h₀ := X.base) (first := []) I.ok.mod.kin M.kp hall (thn (hkw.run pos pins s σ H _ I h) fun ws s2 ⟨zs, H2, I2, rz, l, q⟩ => ⟨I2.kIn, ?_⟩) hpl
  rw [hks]
  exact run_makeKw M F hr I2 rz l q
/-- x(), x a local name that holds the class -/
def tMakeL (i : Nat) (C : Addr) (sp : SpK) : TE := fun σ H Q => σ[i]? = some (some (.ref C)) ∧ ∀ x dx, H x = none → H dx = none → dx ≠ x → sp x [] [] (upd (upd H dx (.own x)) x (.ins C dx [])) (fun v H3 => v = .non ∧ Q (.ref x) H3)
theorem pe_makeL (M : Mk X.K C f) (F : FnKw X.prog X.w X.K X.mg X.base k f sp) (hr : Room (k + 1) X.A) (hN : X.N[i]? = some x) (hv : Vis X.env.scope x) (hdb : (x == ("__debug__" : Str)) = false := by decide) (hcd : (x == ("__classdict__" : Str)) = false := by decide) :
    PE X (.Call (.Name x p) [] [] pos) (tMakeL i C sp) := by
  refine ⟨fun pins s σ H Q I h => ?_⟩
  obtain ⟨hs, h⟩ := h
  refine wpAny_Call_Name_kw (thn ((pe_var (pos := p) hN hv hdb hcd).run pins s σ H (fun v H1 => v = .ref C ∧ H1 = H) I ⟨.ref C, hs, rfl, rfl⟩) fun u s1 ⟨v, H1, I1, r1, q1⟩ => ?_)
  obtain ⟨rfl, rfl⟩ := q1
  cases r1
  exact PySem.W.callWith_K0 I1.kIn M.kp (run_makeKw (ks := []) M F hr I1 .nil rfl h)
end
end Own

namespace Own
open PySem PySem.Spec PyProof.Rows L2
/-- one value by place, one by its name -/
structure BK1 (fd : FuncData) (ps : List Str) (kw : Str) : Prop where
  to : ∀ (s : Shared) (u w : Value), BindsTo s fd ⟨[u], [(kw, w)]⟩ (ps.zip [u, w])
theorem bk1_of {K : PySem.W.Frag} {x qual : Str} {st : Stmt} {f : Addr} {fd : FuncData} {ps : List Str} {kw : Str} (F : Fun K x qual st f fd)
    (h : ∀ (kV doc pm : Value) (an : Option Addr) (cdv ct u w : Value), bindArgs (PySem.W.fnOf x qual (defArgs st) (defBody st) (defScope st) .none kV doc pm an cdv ct) ⟨[u], [(kw, w)]⟩ = pure (ps.zip [u, w])) : BK1 fd ps kw := by
  obtain ⟨oc, od, kV, doc, pm, an, cdv, ct, osl, rfl, lk, hcd⟩ := F.ex
  exact ⟨fun s u w => .of_eq (h kV doc pm an cdv ct u w)⟩
section
variable {X : Cx} {k : Nat} {f g C p : Addr} {fd : FuncData} {ps : List Str} {sp : Sp} {E : XK} {m kw : Str} {o e : Expr} {kpos pos apos : Pos} {ta te : TE} {mc : Value} {pl : Sem Bool}
theorem code_k1 {pins : List (Addr × Obj)} {σ : L2.St} {H : Hp} {s : Shared} {Q : VK} {u w : Value} {x y : V} (F : FnOk X.prog X.w X.K X.mg X.base CX0 k f fd ps sp) (hr : Room k X.A) (hb : BK1 fd ps kw) (I : Inv X pins σ H s) (rx : RelV x u) (ry : RelV y w) (h : sp [x, y] H Q E)
    {E' : Value → Shared → Prop} : codeAny (model X.prog X.w) X.A (.call (.ref f) ⟨[u], [(kw, w)]⟩) (wants (EP X pins σ Q) E') s := by
  refine codeAny_mono (F.run X.A X.stack s H ⟨[u], [(kw, w)]⟩ [u, w] [x, y] Q E hr I.env0 (hb.to s u w) (.cons rx (.cons ry .nil)) h) fun r s' hq => ?_
  cases r with
  | error e => exact False.elim hq
  | ok fl =>
    cases fl with
    | next => exact False.elim hq
    | brk => exact False.elim hq
    | cont => exact False.elim hq
    | ret u => exact I.after hq
/-- o.m(k = e) -/
def tMethK (C : Addr) (m : Str) (sp : Sp) (E : XK) (ta te : TE) : TE := fun σ H Q => ta σ H fun x H1 => ∃ a dx fs, x = .ref a ∧ H1 a = some (.ins C dx fs) ∧ fs.lookup m = none ∧ te σ H1 fun y H2 => sp [.ref a, y] H2 Q E
theorem pe_methK (he : PE X o ta) (c : Cls X.K C) (hm : Meth X.K C m f) (F : FnOk X.prog X.w X.K X.mg X.base CX0 k f fd ps sp) (hr : Room k X.A) (hb : BK1 fd ps kw) (hv : PE X e te)
    (hall : (backToKw pos (keywordEach [⟨some kw, e, kpos⟩] X.env)).all (·.1.isSome) = true := by rfl) (hks : (backToKw pos (keywordEach [⟨some kw, e, kpos⟩] X.env)).filterMap (·.1) = [kw] := by rfl)
    (hpl : ((backTo pos (starEach [] X.env)).any (·.1) || (backToKw pos (keywordEach [⟨some kw, e, kpos⟩] X.env)).any (·.1.isNone)) = false := by rfl)
    (ht : eval (.Call (.Attribute o m apos) [] [⟨some kw, e, kpos⟩] pos) X.env = (do
      let ov ← eval o X.env
      standAt apos.atName
      let (f, first) ← holding [ov] (getMethod ov m pl)
      callWith pos f first (backTo pos (starEach [] X.env)) (backToKw pos (keywordEach [⟨some kw, e, kpos⟩] X.env))) := by rfl) :
    PE X (.Call (.Attribute o m apos) [] [⟨some kw, e, kpos⟩] pos) (tMethK C m sp E ta te) := by
  refine ⟨fun pins s σ H Q I h => ?_⟩
  refine PySem.W.methodCall_KW (pl := pl) (thn (he.run pins s σ H _ I h) fun u s1 ⟨x, H1, I1, rx, a, dx, fs, ex, ea, l, q⟩ => ?_) ht
  subst ex
  obtain rfl : u = Value.ref a := rx
  refine getmeth_ok I1 ea c hm l ?_
  have pk : PK X [⟨some kw, e, kpos⟩] (tCons te tNil) := pk_cons hv pk_nil
  refine PySem.W.callWith_KW0 (first := [.ref a]) (h₀ := X.base) I.ok.mod.kin hm.kp hall (thn (pk.run pos pins s1 σ H1 (fun zs H2 => ∃ y, zs = [y] ∧ sp [.ref a, y] H2 Q E) I1 (show te σ H1 (fun y H2 => ∃ z, [y] = [z] ∧ sp [.ref a, z] H2 Q E) from ?_)) fun ws s2 ⟨zs, H2, I2, rz, y, ez, q2⟩ => ⟨I2.kIn, ?_⟩) hpl
  · have e2 : (fun (y : V) (H2 : Hp) => ∃ z, [y] = [z] ∧ sp [.ref a, z] H2 Q E) = fun y H2 => sp [.ref a, y] H2 Q E := by
      funext y H2
      exact propext ⟨fun ⟨z, ez, q⟩ => by cases ez; exact q, fun q => ⟨y, rfl, q⟩⟩
    rw [e2]
    exact q
  · subst ez
    obtain ⟨w, rfl, rw'⟩ := vals1 rz
    rw [hks]
    exact wpAny_call (code_k1 (x := V.ref a) F hr hb I2 rfl rw' q2)
/-- C.m(k = e), a classmethod -/
def tCMethK (C : Addr) (sp : Sp) (E : XK) (ta te : TE) : TE := fun σ H Q => ta σ H fun x H1 => x = .ref C ∧ te σ H1 fun y H2 => sp [.ref C, y] H2 Q E
theorem pe_cmethK (he : PE X o ta) (r : ClX.CRead X.K C mc) (c : ClX.CMet X.K C mc m p g) (F : FnOk X.prog X.w X.K X.mg X.base CX0 k g fd ps sp) (hr : Room k X.A) (hb : BK1 fd ps kw) (hv : PE X e te)
    (hall : (backToKw pos (keywordEach [⟨some kw, e, kpos⟩] X.env)).all (·.1.isSome) = true := by rfl) (hks : (backToKw pos (keywordEach [⟨some kw, e, kpos⟩] X.env)).filterMap (·.1) = [kw] := by rfl)
    (hpl : ((backTo pos (starEach [] X.env)).any (·.1) || (backToKw pos (keywordEach [⟨some kw, e, kpos⟩] X.env)).any (·.1.isNone)) = false := by rfl)
    (ht : eval (.Call (.Attribute o m apos) [] [⟨some kw, e, kpos⟩] pos) X.env = (do
      let ov ← eval o X.env
      standAt apos.atName
      let (f, first) ← holding [ov] (getMethod ov m pl)
      callWith pos f first (backTo pos (starEach [] X.env)) (backToKw pos (keywordEach [⟨some kw, e, kpos⟩] X.env))) := by rfl) :
    PE X (.Call (.Attribute o m apos) [] [⟨some kw, e, kpos⟩] pos) (tCMethK C sp E ta te) := by
  refine ⟨fun pins s σ H Q I h => ?_⟩
  refine PySem.W.methodCall_KW (pl := pl) (thn (he.run pins s σ H _ I h) fun u s1 ⟨x, H1, I1, rx, ex, q⟩ => ?_) ht
  subst ex
  obtain rfl : u = Value.ref C := rx
  refine ClX.getmethcm_ok I1 r c fun s2 I2 => ?_
  have pk : PK X [⟨some kw, e, kpos⟩] (tCons te tNil) := pk_cons hv pk_nil
  refine PySem.W.callWith_of hpl (PySem.W.keeps_M c.fi) (PyProof.Rows.evalArgs_kw2_nil hall (thn (pk.run pos _ s2 σ H1 (fun zs H2 => ∃ y, zs = [y] ∧ sp [.ref C, y] H2 Q E) I2 (show te σ H1 (fun y H2 => ∃ z, [y] = [z] ∧ sp [.ref C, z] H2 Q E) from ?_)) fun ws s3 ⟨zs, H2, I3, rz, y, ez, q2⟩ => ⟨⟨ClX.pin_at I3, I3.kIn⟩, ?_⟩))
  · have e2 : (fun (y : V) (H2 : Hp) => ∃ z, [y] = [z] ∧ sp [.ref C, z] H2 Q E) = fun y H2 => sp [.ref C, y] H2 Q E := by
      funext y H2
      exact propext ⟨fun ⟨z, ez, q⟩ => by cases ez; exact q, fun q => ⟨y, rfl, q⟩⟩
    rw [e2]
    exact q
  · subst ez
    obtain ⟨w, rfl, rw'⟩ := vals1 rz
    rw [hks]
    have z : wpAny (model X.prog X.w) X.A (call (.ref s1.heap.objs.size) [] [(kw, w)]) (EP X _ σ Q) X.xe s3 := wpAny_call (PySem.W.method_call (ClX.pin_at I3) (code_k1 (x := V.ref C) F hr hb I3 rfl rw' q2))
    exact thn z fun _ _ y => ClX.unpinE y
end
end Own

namespace K1
open PySem PySem.Spec PyProof.Rows L2
def top (i : Nat) : Stmt := PySem.Challenge.pw_errorplaces_k30_is_template.main.body.getD i (.Pass ⟨0, 0, 0, 0⟩)
abbrev sIsName : Stmt := top 3
abbrev sIsNumber : Stmt := top 4
abbrev sIsPair : Stmt := top 5
abbrev sIsGroup : Stmt := top 6
abbrev sSpread : Stmt := top 7
abbrev sCopied : Stmt := top 8
abbrev sTakenApart : Stmt := top 9
abbrev sPutTogether : Stmt := top 10
abbrev sInside : Stmt := top 11
abbrev sNoName_init : Stmt := inClass (top 13) 0
abbrev sNoBases_init : Stmt := inClass (top 14) 0
abbrev sNoRows_init : Stmt := inClass (top 15) 0
abbrev sNoKind_init : Stmt := inClass (top 16) 0
abbrev sTooMany_init : Stmt := inClass (top 17) 0
abbrev sIsTemplate : Stmt := top 19
abbrev sIsHoleOf : Stmt := top 20
abbrev sIsNewLeaf : Stmt := top 21
abbrev sInit : Stmt := inClass (top 23) 1
abbrev sOf : Stmt := inClass (top 23) 2
abbrev sTake : Stmt := inClass (top 23) 3
abbrev sEq : Stmt := inClass (top 23) 4
abbrev sLen : Stmt := inClass (top 23) 5
abbrev sRepr : Stmt := inClass (top 23) 6
abbrev sIn : Stmt := inClass (top 23) 7
abbrev sOrder : Stmt := inClass (top 23) 8
abbrev sBelow : Stmt := inClass (top 23) 9
abbrev sAbove : Stmt := inClass (top 23) 10
abbrev sAreRows : Stmt := top 24
abbrev sCkNames : Stmt := top 25
abbrev sCkBases : Stmt := top 26
abbrev sAreBases : Stmt := top 27
abbrev sAllAbove : Stmt := top 28
abbrev sLawBag : Stmt := top 30
abbrev sLawTake : Stmt := top 31
abbrev sLawRows : Stmt := top 32
abbrev sLawTemplate : Stmt := top 33
abbrev sLawOdd : Stmt := top 34
abbrev sLawBent : Stmt := top 35
abbrev sLawIsOne : Stmt := top 36
abbrev sLaw : Stmt := top 37
end K1

namespace Own
open PySem PySem.Spec PyProof.Rows L2
/-! sorted lists of texts -/
def notAbove (a b : List Nat) : Prop := ltCps b a = false
theorem na_trans : ∀ {a b c : List Nat}, notAbove a b → notAbove b c → notAbove a c
  | [], _, [], _, _ => rfl
  | [], _, _ :: _, _, _ => rfl
  | x :: r, [], _, h, _ => by simp [notAbove, ltCps] at h
  | x :: r, y :: t, [], _, h => by simp [notAbove, ltCps] at h
  | x :: r, y :: t, z :: u, h1, h2 => by
    simp only [notAbove, ltCps, Bool.or_eq_false_iff, Bool.and_eq_false_iff, decide_eq_false_iff_not, beq_eq_false_iff_ne] at h1 h2 ⊢
    refine ⟨by omega, ?_⟩
    by_cases e : z = x
    · refine .inr ?_
      have e1 : y = x := by omega
      have q1 : ltCps t r = false := h1.2.elim (fun n => absurd e1 n) id
      have q2 : ltCps u t = false := h2.2.elim (fun n => absurd (by omega) n) id
      exact na_trans (show notAbove r t from q1) (show notAbove t u from q2)
    · exact .inl e
theorem na_antisymm : ∀ {a b : List Nat}, notAbove a b → notAbove b a → a = b
  | [], [], _, _ => rfl
  | [], y :: t, _, h => by simp [notAbove, ltCps] at h
  | x :: r, [], h, _ => by simp [notAbove, ltCps] at h
  | x :: r, y :: t, h1, h2 => by
    simp only [notAbove, ltCps, Bool.or_eq_false_iff, Bool.and_eq_false_iff, decide_eq_false_iff_not, beq_eq_false_iff_ne] at h1 h2
    have e : x = y := by omega
    subst e
    have q1 : ltCps t r = false := h1.2.elim (fun n => absurd rfl n) id
    have q2 : ltCps r t = false := h2.2.elim (fun n => absurd rfl n) id
    rw [na_antisymm (show notAbove r t from q1) (show notAbove t r from q2)]
theorem str_ext {a b : Str} (h : a.cps.toList = b.cps.toList) : a = b := by
  cases a with
  | mk x =>
    cases b with
    | mk y =>
      have e : x = y := Array.toList_inj.mp h
      rw [e]
theorem rising_all : ∀ (p : Str) (l : List Str), risingS p l = true → (∀ x ∈ l, notAbove p.cps.toList x.cps.toList) ∧ l.Pairwise fun a b => notAbove a.cps.toList b.cps.toList
  | _, [], _ => ⟨(fun _ h => nomatch h), List.Pairwise.nil⟩
  | p, x :: r, h => by
    obtain ⟨h1, h2⟩ := Bool.and_eq_true_iff.mp (show (!ltCps x.cps.toList p.cps.toList && risingS x r) = true from h)
    obtain ⟨i1, i2⟩ := rising_all x r h2
    have n1 : notAbove p.cps.toList x.cps.toList := by
      unfold notAbove
      simpa using h1
    refine ⟨fun y hy => ?_, List.pairwise_cons.mpr ⟨i1, i2⟩⟩
    rcases List.mem_cons.mp hy with e | e
    · rw [e]
      exact n1
    · exact na_trans n1 (i1 y e)
theorem sorted_pw {l : List Str} (h : sortedS l = true) : l.Pairwise fun a b => notAbove a.cps.toList b.cps.toList := by
  cases l with
  | nil => exact .nil
  | cons x r =>
    obtain ⟨a, b⟩ := rising_all x r h
    exact List.pairwise_cons.mpr ⟨a, b⟩
theorem sorted_one {xs ys : List Str} (p : xs.Perm ys) (hx : sortedS xs = true) (hy : sortedS ys = true) : xs = ys :=
  List.Perm.eq_of_pairwise (le := fun a b => notAbove a.cps.toList b.cps.toList) (fun a b _ _ h1 h2 => str_ext (na_antisymm h1 h2)) (sorted_pw hx) (sorted_pw hy) p

/-! a list or a tuple -/
def SeqOf (H : Hp) (a : Addr) (xs : List V) : Prop := H a = some (.lst xs) ∨ H a = some (.tup xs)
theorem SeqOf.same {H H' : Hp} {a : Addr} {xs : List V} (h : SeqOf H a xs) (k : Same H H') : SeqOf H' a xs := h.elim (fun e => .inl (k _ _ e)) fun e => .inr (k _ _ e)
theorem SeqOf.lt {K : PySem.W.Frag} {H : Hp} {a : Addr} {xs : List V} (h : SeqOf H a xs) : SqL K H a xs ∨ SqT K H a xs := h.elim (fun e => .inl (SqL.of e)) fun e => .inr (SqT.of e)
def iSeq (K : PySem.W.Frag) (i : Nat) : TI := fun σ H R => ∃ a, σ[i]? = some (some (.ref a)) ∧ (((∃ xs, H a = some (.lst xs)) ∧ R (Itl K a) H) ∨ ((∃ xs, H a = some (.tup xs)) ∧ R (Itt K a) H))
section
variable {X : Cx} {tg : Expr}
theorem pi_seq (i : Nat) {x : Str} {pos : Pos} (hN : X.N[i]? = some x := by rfl) (hv : Vis X.env.scope x := by first | exact Or.inl rfl | exact Or.inr (Or.inl rfl) | exact Or.inr (Or.inr rfl)) (hd : (x == ("__debug__" : Str)) = false := by decide)
    (hcd : (x == ("__classdict__" : Str)) = false := by decide) : PI X tg (.Name x pos) (iSeq X.K i) := by
  refine ⟨fun pins s σ H R I h => ?_⟩
  obtain ⟨a, e, h⟩ := h
  rcases h with ⟨⟨xs, hs⟩, q⟩ | ⟨⟨xs, hs⟩, q⟩
  · exact (pi_list (pe_var hN hv hd hcd)).run pins s σ H R I ⟨_, e, a, rfl, ⟨xs, SqL.of hs⟩, q⟩
  · exact (pi_tup (pe_var hN hv hd hcd)).run pins s σ H R I ⟨_, e, a, rfl, ⟨xs, SqT.of hs⟩, q⟩
end
theorem for_seq {K : PySem.W.Frag} {i : Nat} {a : Addr} {xs : List V} {g : TG} {tb : TS} {D : Ends} {σ : L2.St} {H : Hp} (e : σ[i]? = some (some (.ref a))) (hs : SeqOf H a xs) (Pv : Nat → L2.St → Hp → Prop) (h0 : Pv 0 σ H) (hk : ∀ i σ H', i ≤ xs.length → Pv i σ H' → ∀ o, H a = some o → H' a = some o)
    (turn : ∀ i x σ H, xs[i]? = some x → Pv i σ H → g x σ H fun σ2 H2 => tb { D with nx := Pv (i + 1), ct := Pv (i + 1), bk := D.nx } σ2 H2) (hd : ∀ σ H, Pv xs.length σ H → D.nx σ H) : tFor (iSeq K i) g tb D σ H := by
  refine ⟨a, e, ?_⟩
  rcases hs with h | h
  · exact .inl ⟨⟨xs, h⟩, for_list Pv h0 (fun j σ' H' hj p => SqL.of (hk j σ' H' hj p _ h)) turn hd⟩
  · exact .inr ⟨⟨xs, h⟩, for_tup Pv h0 (fun j σ' H' hj p => SqT.of (hk j σ' H' hj p _ h)) turn hd⟩
theorem lc_seq {K : PySem.W.Frag} {j : Nat} {a : Addr} {xs : List V} {g : TG} {tt : TT} {te : TE} {vs : List Nat} {σ : L2.St} {H : Hp} {Q : VK} (e : σ[j]? = some (some (.ref a))) (hs : SeqOf H a xs) (Pv : Addr → Nat → Hp → Prop) (h0 : ∀ D, H D = none → Pv D 0 (upd H D (.lst [])))
    (hk : ∀ D i H', H D = none → i ≤ xs.length → Pv D i H' → ∀ o, H a = some o → H' a = some o)
    (turn : ∀ D i x H', H D = none → xs[i]? = some x → Pv D i H' → g x (wipe σ vs) H' fun σ2 H2 => wipe σ2 vs = wipe σ vs ∧ tt σ2 H2 fun b H3 =>
      if b = true then te σ2 H3 fun y H4 => ∃ acc, H4 D = some (.lst acc) ∧ acc.length < sizeLine ∧ Pv D (i + 1) (upd H4 D (.lst (acc ++ [y]))) else Pv D (i + 1) H3) (hd : ∀ D H', H D = none → Pv D xs.length H' → Q (.ref D) H') : tLc (iSeq K j) g tt te vs σ H Q := by
  refine ⟨a, e, ?_⟩
  rcases hs with h | h
  · exact .inl ⟨⟨xs, h⟩, fun D nD => lc_list (Pv D) (h0 D nD) (fun i H' hi p => SqL.of (hk D i H' nD hi p _ h)) (fun i x H' hx p => turn D i x H' nD hx p) fun H' p => hd D H' nD p⟩
  · exact .inr ⟨⟨xs, h⟩, fun D nD => lc_tup (Pv D) (h0 D nD) (fun i H' hi p => SqT.of (hk D i H' nD hi p _ h)) (fun i x H' hx p => turn D i x H' nD hx p) fun H' p => hd D H' nD p⟩
/-! sorted of a tuple, of a list or tuple -/
section
variable {X : Cx}
theorem cr_sortedT : CallR X (.builtin "sorted") (fun vs H Q => ∃ (a : Addr) (xs : List Str), vs = [V.ref a] ∧ H a = some (.tup (xs.map V.str)) ∧ xs.length < 64 ∧ ∀ (ys : List Str) (p : Addr), ys.Perm xs → sortedS ys = true → H p = none → Q (.ref p) (upd H p (.lst (ys.map V.str)))) := by
  intro pins s σ H vs us Q I r h
  obtain ⟨a, xs, rfl, ha, h64, q⟩ := h
  obtain rfl := Vals.ref1 r
  obtain ⟨z0, its, rv, o, ho, hc, n, hd⟩ := (show ObjOk X.prog X.w H s.heap a (.tup (xs.map V.str)) from I.hok a _ ha)
  have hS := rv.strs
  have hal : its.length = xs.length := by
    have z := rv.length
    rw [List.length_map] at z
    exact z.symm
  have hsz : its.length ≤ sizeLine := by rw [hal, sizeLine_eq]; omega
  refine Calls.call_function_entry PyProof.Rows.kind_sorted PyProof.Rows.plain_sorted PyProof.Rows.entry_sorted (PyProof.Rows.args_sorted1 _) ?_
  unfold Builtin.«sorted»
  refine wpAny_bind (m := checkCount "sorted" 1 1 _) (wpAny_pure ?_)
  refine wpAny_bind (wpAny_collect_seq a (.inr rfl) ho hc hd (fun h' hk => ?_) (by rw [List.size_toArray]; exact hsz))
  rw [show its.toArray.toList = its from by simp]
  have I1 : Inv X pins σ H { s with heap := h' } := I.kept (t' := s.toks) hk
  refine wpAny_bind (wpAny_newList ?_ hsz)
  have hoL : (h'.push (seqObj "list" its.toArray 0)).get? h'.objs.size = some (seqObj "list" its.toArray 0) := Heap.get?_push_size _ rfl
  show wpAny _ _ _ _ _ { s with heap := h'.push (seqObj "list" its.toArray 0) }
  refine wpAny_bind (wpAny_holding (wpAny_call_entry PyProof.Rows.slot_list_sort ⟨_, hoL, rfl⟩ PyProof.Rows.entry_list_sort
    (list_sort_treeK strKind_oneLt (s := { s with heap := h'.push (seqObj "list" its.toArray 0) }) hoL hS.keysOf (fun v₁ v₂ rest e => keyKind_strs (by rw [← e]; exact hS)) (by rw [hal]; exact h64) fun st' hp hs => ⟨_, rfl, ?_⟩)
    (PyProof.Rows.args_list_sort _)))
  obtain ⟨ys, g1, g2, g3⟩ := sorted_out_str hS hp hs
  obtain ⟨e', he'⟩ := PyProof.Rows.sortedHeap_at (vs := its) (out := (arrOf st').map (·.2)) hoL
  have hlen : (ys.map V.str).length ≤ sizeLine := by
    rw [List.length_map, g2.length_eq, sizeLine_eq]
    omega
  refine wpAny_pure ⟨_, rfl, .ref h'.objs.size, upd H h'.objs.size (.lst (ys.map V.str)), I1.laid (t' := s.toks) (fun b u e => ?_) (Nat.le_refl _)
    (show ObjOk X.prog X.w _ _ _ (.lst (ys.map V.str)) from ⟨hlen, ((arrOf st').map (·.2)).toList, e', vals_of_strs g1, by rw [Array.toArray_toList]; exact he'⟩), rfl, q ys _ g2 g3 (I1.hok.fresh (Nat.le_refl _))⟩
  have hb : b < h'.objs.size := Heap.lt_size e
  rw [PyProof.Rows.sortedHeap_old (Nat.ne_of_lt hb) (by rw [size_push']; exact Nat.lt_succ_of_lt hb)]
  exact Heap.get?_push_of_some _ e
/-- sorted of a list or a tuple of texts -/
def rSortedQ : List V → Hp → VK → Prop := fun vs H Q => ∃ (a : Addr) (xs : List Str), vs = [V.ref a] ∧ SeqOf H a (xs.map V.str) ∧ xs.length < 64 ∧ ∀ (ys : List Str) (p : Addr), ys.Perm xs → sortedS ys = true → H p = none → Q (.ref p) (upd H p (.lst (ys.map V.str)))
theorem cr_sortedQ : CallR X (.builtin "sorted") rSortedQ := by
  intro pins s σ H vs us Q I r h
  obtain ⟨a, xs, ev, ha, h64, q⟩ := h
  rcases ha with ha | ha
  · exact cr_sortedS pins s σ H vs us Q I r ⟨a, xs, ev, SqL.of ha, h64, q⟩
  · exact cr_sortedT pins s σ H vs us Q I r ⟨a, xs, ev, ha, h64, q⟩
end
end Own

namespace K1
open PySem PySem.Spec PyProof.Rows L2
/-! ### a source of draws -/
theorem same_upd {H : Hp} {p : Addr} {o : HO} (h : H p = none) : Same H (upd H p o) := fun b x e => by
  rw [upd_ne (ne_of_none e h)]
  exact e
/-- all but what stands at s stays -/
def Keep (s : Addr) (H H' : Hp) : Prop := ∀ b o, b ≠ s → H b = some o → H' b = some o
theorem Keep.of {s : Addr} {H H' : Hp} (h : Same H H') : Keep s H H' := fun b o _ e => h b o e
theorem Keep.trans {s : Addr} {H H1 H2 : Hp} (a : Keep s H H1) (b : Keep s H1 H2) : Keep s H H2 := fun c o n e => b c o n (a c o n e)
theorem Keep.refl (s : Addr) (H : Hp) : Keep s H H := fun _ _ _ e => e
theorem Keep.upd {s : Addr} {H : Hp} {o : HO} : Keep s H (upd H s o) := fun b x n e => by
  rw [upd_ne n]
  exact e
theorem Keep.new {s p : Addr} {H H' : Hp} {o : HO} (a : Keep s H H') (h : H' p = none) : Keep s H (L2.upd H' p o) := a.trans (.of (same_upd h))
/-- a bag: what is left of a large number, and a seed -/
def SrcOk (a b : Int) : Prop := 0 ≤ a ∧ 0 ≤ b ∧ b < 2147483648
def Src (H : Hp) (s : Addr) : Prop := ∃ a b : Int, H s = some (.lst [.int a, .int b]) ∧ SrcOk a b
/-- where s is a source, a place that is free later was free before -/
theorem Keep.free {s p : Addr} {H H' : Hp} (k : Keep s H H') (q : Src H' s) (h : H' p = none) : H p = none := by
  by_cases e : p = s
  · subst e
    obtain ⟨a, b, z, _⟩ := q
    rw [z] at h
    cases h
  · cases z : H p with
    | none => rfl
    | some o =>
      rw [k p o e z] at h
      cases h
theorem Src.new {s p : Addr} {H : Hp} {o : HO} (q : Src H s) (h : H p = none) : Src (upd H p o) s := by
  obtain ⟨a, b, z, ok⟩ := q
  exact ⟨a, b, by rw [upd_ne (ne_of_none z h)]; exact z, ok⟩
theorem Src.same {s : Addr} {H H' : Hp} (q : Src H s) (h : Same H H') : Src H' s := by
  obtain ⟨a, b, z, ok⟩ := q
  exact ⟨a, b, h _ _ z, ok⟩
theorem mod_lt {a m : Int} (h : 0 < m) : 0 ≤ a % m ∧ a % m < m := ⟨Int.emod_nonneg _ (by omega), Int.emod_lt_of_pos _ h⟩
theorem fmod_pos {a m : Int} (h : 0 < m) : 0 ≤ a.fmod m ∧ a.fmod m < m := by
  rw [Int.fmod_eq_emod_of_nonneg _ (by omega)]
  exact mod_lt h
/-- draw: a number below many -/
def spDraw : Sp := fun vs H Q _ => ∃ (s : Addr) (m : Int), vs = [.ref s, .int m] ∧ Src H s ∧ 0 < m ∧ m < 1073741824 ∧ ∀ (d : Int) (H' : Hp), 0 ≤ d → d < m → Src H' s → Keep s H H' → Q (.int d) H'
section
variable {P : Program} {w : World} {K : PySem.W.Frag} {mg : Str → Option Value} {base : Heap}
theorem scDraw : FnScope ["bag", "many", "digit"] ["bag", "many"] (defScope sLawTake) := ⟨rfl, rfl, rfl, by decide +kernel, rfl, by decide +kernel, by decide +kernel⟩
theorem ok_draw {f : Addr} {fd : FuncData} (F : Fun K "_law_take" "_law_take" sLawTake f fd) : FnOk P w K mg base CX0 1 f fd ["bag", "many"] spDraw := by
  refine F.ok scDraw (fun vs H Q E h => ?_) (fun cdv A outer s H vs Q E hr h => ?_)
  · obtain ⟨a, m, rfl, _⟩ := h
    rfl
  · obtain ⟨s, m, rfl, ⟨a, b, hs, a0, b0, b1⟩, m0, m1, k⟩ := h
    refine ⟨_, pss_cons (ps_if (pt_cmpR op_gt (pe_ix ix_list (pv 0) pe_int (fun _ _ => rfl)) pe_int (nomark _))
        (pss_cons (ps_set (i := 2) scDraw.nd rfl (Or.inl rfl) (pe_op op_modN (pe_ix ix_list (pv 0) pe_int (fun _ _ => rfl)) (pv 1)))
          (pss_cons (ps_asg (pe_op op_fdivN (pe_ix ix_list (pv 0) pe_int (fun _ _ => rfl)) (pv 1)) (pg_sub (pv 0) pe_int set_list))
            (pss_one (ps_ret (pv 2))))) pss_nil)
      (pss_cons (ps_asg (pe_op op_mod (pe_op op_mul (pe_ix ix_list (pv 0) pe_int (fun _ _ => rfl)) pe_int) pe_int) (pg_sub (pv 0) pe_int set_list))
      (pss_one (ps_ret (pe_op op_modN (pe_op op_fdiv (pe_op op_mod (pe_op op_mul (pe_ix ix_list (pv 0) pe_int (fun _ _ => rfl)) pe_int) pe_int) pe_int) (pv 1))))), ?_⟩
    refine ⟨_, rfl, s, _, 0, _, rfl, rfl, SqL.of hs, atI_nat (j := 0) rfl, _, _, rfl, rfl, _, rfl, ite2 (fun e => ?_) (fun e => ?_)⟩
    · refine ⟨_, rfl, s, _, 0, _, rfl, rfl, SqL.of hs, atI_nat (j := 0) rfl, _, rfl, _, _, rfl, rfl, (by omega), ?_⟩
      refine ⟨_, rfl, s, _, 0, _, rfl, rfl, SqL.of hs, atI_nat (j := 0) rfl, _, rfl, _, _, rfl, rfl, ⟨by omega, by omega⟩, ?_⟩
      refine ⟨_, rfl, s, _, 0, 0, rfl, rfl, hs, rfl, ?_⟩
      refine ⟨_, rfl, ?_⟩
      have q := fmod_pos (a := a) m0
      refine k _ _ q.1 q.2 ⟨_, _, upd_same, ?_, b0, b1⟩ Keep.upd
      rw [Int.fdiv_eq_ediv_of_nonneg _ (by omega)]
      exact Int.ediv_nonneg a0 (by omega)
    · refine ⟨_, rfl, s, _, 1, _, rfl, rfl, SqL.of hs, atI_nat (j := 1) rfl, _, _, rfl, rfl, .inr ⟨by decide, by decide⟩, _, _, rfl, rfl, (by decide : (0 : Int) < 2147483647), ?_⟩
      refine ⟨_, rfl, s, _, 1, 1, rfl, rfl, hs, rfl, ?_⟩
      have q := mod_lt (a := b * 48271) (m := 2147483647) (by decide)
      refine ⟨_, rfl, s, _, 1, _, rfl, rfl, SqL.of upd_same, atI_nat (j := 1) rfl, _, _, rfl, rfl, .inr ⟨by decide, by decide⟩, _, _, rfl, rfl, (by decide : (0 : Int) < 2147483629), _, _, rfl, rfl, ⟨by decide, by decide⟩, _, rfl, _, _, rfl, rfl, (by omega), ?_⟩
      exact k _ _ (fmod_pos m0).1 (fmod_pos m0).2 ⟨_, _, upd_same, a0, q.1, by omega⟩ Keep.upd
end
end K1

namespace K1
open PySem PySem.Spec PyProof.Rows L2 Own
theorem iteTD {p A B : Prop} [Decidable p] (hp : p) (h : A) : if decide p = true then A else B := by
  rw [if_pos (decide_eq_true hp)]
  exact h
theorem iteFD {p A B : Prop} [Decidable p] (hp : ¬ p) (h : B) : if decide p = true then A else B := by
  rw [if_neg (by rw [decide_eq_false hp]; decide)]
  exact h
theorem iteNF {p A B : Prop} [Decidable p] (hp : ¬ p) (h : A) : if (!decide p) = true then A else B := by
  rw [decide_eq_false hp]
  exact iteT h
/-! ### names -/
def NameOk (z : Str) : Prop := 1 ≤ z.length ∧ z.length ≤ 8 ∧ ∀ c ∈ z.cps.toList, 97 ≤ c ∧ c ≤ 122
def abc : Str := "abcdefghijklmnopqrstuvwxyz"
theorem in_abc {c : Nat} (h0 : 97 ≤ c) (h1 : c ≤ 122) : c ∈ abc.cps.toList := by
  have h : ∀ d : Fin 26, (97 + d.val) ∈ abc.cps.toList := by decide +kernel
  have q := h ⟨c - 97, by omega⟩
  have e : 97 + (c - 97) = c := by omega
  simpa [e] using q
def spIsName : Sp := fun vs H Q _ => ∃ z, vs = [.str z] ∧ NameOk z ∧ ∀ H', Same H H' → Q (.bl true) H'
def spIsPair : Sp := fun vs H Q _ => ∃ t x y, vs = [.ref t] ∧ H t = some (.tup [x, y]) ∧ Q (.bl true) H
section
variable {P : Program} {w : World} {K : PySem.W.Frag} {mg : Str → Option Value} {base : Heap}
theorem scIsName : FnScope ["thing", "letter"] ["thing"] (defScope sIsName) := ⟨rfl, rfl, rfl, by decide +kernel, rfl, by decide +kernel, by decide +kernel⟩
theorem ok_isName {f : Addr} {fd : FuncData} {tL : Tok} {tA : Tok} (F : Fun K "is_name" "is_name" sIsName f fd) (ml : mg "len" = none) (mi : mg "isinstance" = none) (ms : mg "str" = none) (ma : mg "all" = none) (mL : mg "LONGEST_NAME" = some (.int 8 tL)) (mA : mg "LETTERS" = some (.str abc tA)) :
    FnOk P w K mg base CX0 1 f fd ["thing"] spIsName := by
  refine F.ok scIsName (fun vs H Q E h => ?_) (fun cdv A outer s H vs Q E hr h => ?_)
  · obtain ⟨z, rfl, _⟩ := h
    rfl
  · obtain ⟨z, rfl, ⟨z1, z2, z3⟩, k⟩ := h
    refine ⟨_, pss_cons (ps_if (PW.pt (pw_or (pt_not (pt_val (pe_callB call_isi (by rfl) mi (by decide +kernel) (pa_cons (pv 0) (pa_cons (pe_bltn (v := .ty "str") (u := .type "str") (by rfl) ms (by decide +kernel) rfl) pa_nil)))))
        (pw_or1 (pt_not (pt_chain op_le op_le pe_int (pe_callB call_len_str (by rfl) ml PySem.boot_len (pa_cons (pv 0) pa_nil)) (pe_glob (v := .int 8) (by rfl) mL ⟨_, rfl⟩)))))) (pss_one (ps_ret pe_bl)) pss_nil)
      (pss_one (ps_ret (pe_callB (cr_all rfl) (by rfl) ma (by decide +kernel) (pa_cons (pe_lc (own := [("letter", 1)]) (g := gName 1) (tt := tYes) rfl scIsName.nd (pi_str (pv 0)) (blkOk_by (N := ["thing", "letter"]) (sc := defScope sIsName) (by decide +kernel))
        (fun _ _ _ _ _ => pg_name (i := 1) scIsName.nd rfl (Or.inl rfl)) (fun _ _ _ _ _ => pts_nil) (fun _ _ _ _ _ => pe_cmpR op_in_sign (pv 1) (pe_glob (v := .str abc) (by rfl) mA ⟨_, rfl⟩) rfl)) pa_nil)))), ?_⟩
    have zs : z.length ≤ sizeLine := by rw [sizeLine_eq]; omega
    refine ⟨_, rfl, _, _, _, _, true, rfl, .ty "str", .base (.str z), kit_ty (by decide +kernel), true, rfl, ?_⟩
    refine ⟨_, rfl, _, rfl, zs, _, _, rfl, rfl, _, rfl, ?_⟩
    refine iteTD (by omega) ⟨_, _, rfl, rfl, _, rfl, iteNS (by omega) ?_⟩
    refine ⟨_, rfl, z, rfl, fun D nD => lc_it walk_str (fun i H' => Same H H' ∧ H' D = some (.lst (List.replicate i (V.bl true)))) ⟨same_upd nD, upd_same⟩ (fun _ _ _ _ => trivial) ?_ ?_⟩
    · rintro i x H1 H' hi ⟨sm, hD⟩ ⟨rfl, c, hc, rfl⟩
      have cm : c ∈ z.cps.toList := by
        have q := Array.mem_of_getElem? hc
        exact Array.mem_toList_iff.mpr q
      have cb := z3 c cm
      have ca : decide (c ∈ abc.cps.toList) = true := decide_eq_true (in_abc cb.1 cb.2)
      have hz : z.cps.size ≤ 8 := z2
      refine ⟨rfl, _, rfl, c, abc, rfl, rfl, _, hD, ?_, ?_, ?_⟩
      · rw [List.length_replicate]
        exact small1000 (by omega)
      · intro b o e
        rw [upd_ne (ne_of_none e nD)]
        exact sm _ _ e
      · show upd H' D _ D = _
        rw [upd_same, ca, ← List.replicate_succ']
    · rintro H' ⟨sm, hD⟩
      refine ⟨D, List.replicate z.cps.size true, rfl, SqL.of (by rw [List.map_replicate]; exact hD), ?_⟩
      have e : (List.replicate z.cps.size true).all id = true := by simp
      rw [e]
      exact k _ sm
theorem scIsPair : FnScope ["thing"] ["thing"] (defScope sIsPair) := ⟨rfl, rfl, rfl, by decide +kernel, rfl, by decide +kernel, by decide +kernel⟩
theorem ok_isPair {f : Addr} {fd : FuncData} (F : Fun K "is_pair" "is_pair" sIsPair f fd) (ml : mg "len" = none) (mi : mg "isinstance" = none) (mt : mg "tuple" = none) : FnOk P w K mg base CX0 1 f fd ["thing"] spIsPair := by
  refine F.ok scIsPair (fun vs H Q E h => ?_) (fun cdv A outer s H vs Q E hr h => ?_)
  · obtain ⟨t, x, y, rfl, _⟩ := h
    rfl
  · obtain ⟨t, x, y, rfl, ht, k⟩ := h
    refine ⟨_, pss_one (ps_ret (pe_and (pe_callB call_isi (by rfl) mi (by decide +kernel) (pa_cons (pv 0) (pa_cons (pe_bltn (v := .ty "tuple") (u := .type "tuple") (by rfl) mt (by decide +kernel) rfl) pa_nil)))
      (pe_one (pe_cmpR op_eq (pe_callB call_len_seq (by rfl) ml PySem.boot_len (pa_cons (pv 0) pa_nil)) pe_int (nomark _))))), ?_⟩
    refine ⟨_, rfl, _, _, _, _, true, rfl, .ty "tuple", .base (.tup ht), kit_ty (by decide +kernel), true, rfl, iteT ?_⟩
    exact ⟨_, rfl, t, _, rfl, .inr (SqT.of ht), rfl, k⟩
end
end K1

namespace K1
open PySem PySem.Spec PyProof.Rows L2 Own
/-! ### rows -/
abbrev Ln := Str × List Str
abbrev nms (ls : List Ln) : List Str := ls.map (·.1)
def RowAt (H : Hp) (v : V) (l : Ln) : Prop := ∃ t b, v = .ref t ∧ H t = some (.tup [.str l.1, .ref b]) ∧ SeqOf H b (l.2.map V.str)
def RowsAt (H : Hp) (a : Addr) (ls : List Ln) : Prop := ∃ vs, SeqOf H a vs ∧ Paired (RowAt H) vs ls
theorem RowAt.same {H H' : Hp} {v : V} {l : Ln} (k : Same H H') (h : RowAt H v l) : RowAt H' v l := by
  obtain ⟨t, b, e, ht, hb⟩ := h
  exact ⟨t, b, e, k _ _ ht, hb.same k⟩
theorem paired_imp {α β : Type} {F G : α → β → Prop} (h : ∀ a b, F a b → G a b) : ∀ {xs : List α} {ys : List β}, Paired F xs ys → Paired G xs ys
  | _, _, .nil => .nil
  | _, _, .cons a r => .cons (h _ _ a) (paired_imp h r)
theorem RowsAt.same {H H' : Hp} {a : Addr} {ls : List Ln} (k : Same H H') (h : RowsAt H a ls) : RowsAt H' a ls := by
  obtain ⟨vs, hs, p⟩ := h
  exact ⟨vs, hs.same k, paired_imp (fun _ _ => RowAt.same k) p⟩
theorem paired_at {α β : Type} {F : α → β → Prop} : ∀ {xs : List α} {ys : List β}, Paired F xs ys → ∀ {i : Nat} {x : α}, xs[i]? = some x → ∃ y, ys[i]? = some y ∧ F x y
  | _, _, .nil, _, _, h => by simp at h
  | _, _, .cons a r, 0, x, h => by
    have e := Option.some.inj h
    subst e
    exact ⟨_, rfl, a⟩
  | _, _, .cons a r, i + 1, x, h => by
    obtain ⟨y, e, q⟩ := paired_at r (i := i) (x := x) (by simpa using h)
    exact ⟨y, by simpa using e, q⟩
theorem paired_at' {α β : Type} {F : α → β → Prop} : ∀ {xs : List α} {ys : List β}, Paired F xs ys → ∀ {i : Nat} {y : β}, ys[i]? = some y → ∃ x, xs[i]? = some x ∧ F x y
  | _, _, .nil, _, _, h => by simp at h
  | _, _, .cons a r, 0, x, h => by
    have e := Option.some.inj h
    subst e
    exact ⟨_, rfl, a⟩
  | _, _, .cons a r, i + 1, x, h => by
    obtain ⟨y, e, q⟩ := paired_at' r (i := i) (y := x) (by simpa using h)
    exact ⟨y, by simpa using e, q⟩
theorem paired_len {α β : Type} {F : α → β → Prop} : ∀ {xs : List α} {ys : List β}, Paired F xs ys → xs.length = ys.length
  | _, _, .nil => rfl
  | _, _, .cons _ r => by rw [List.length_cons, List.length_cons, paired_len r]
structure LnsOk (ls : List Ln) : Prop where
  names : ∀ l ∈ ls, NameOk l.1
  nd : (nms ls).Nodup
  few : ls.length ≤ 7
  base : ∀ (i : Nat) l, ls[i]? = some l → l.2.Nodup ∧ (∀ b ∈ l.2, b ∈ nms (ls.take i)) ∧ l.2.length ≤ 7
theorem inV_str (x : Str) (ss : List Str) : inV (.str x) (ss.map V.str) = decide (x ∈ ss) := by
  unfold inV
  rw [List.any_map]
  rw [Bool.eq_iff_iff, List.any_eq_true]
  simp only [Function.comp, eqV, decide_eq_true_eq]
  exact ⟨fun ⟨y, hy, e⟩ => by rw [← beq_iff_eq.mp e]; exact hy, fun h => ⟨x, h, beq_self_eq_true x⟩⟩
theorem flat_strs (ss : List Str) : (ss.map V.str).all flatV = true := by
  rw [List.all_map, List.all_eq_true]
  intro x _
  rfl
theorem take_succ_map {α β : Type} {f : α → β} {l : List α} {i : Nat} {x : α} (h : l[i]? = some x) : (l.take (i + 1)).map f = (l.take i).map f ++ [f x] := by
  rw [List.take_add_one, h, List.map_append]
  rfl
theorem not_before {ls : List Ln} {i : Nat} {l : Ln} (nd : (nms ls).Nodup) (h : ls[i]? = some l) : l.1 ∉ nms (ls.take i) := by
  intro hm
  obtain ⟨x, hx, e⟩ := List.mem_map.mp hm
  obtain ⟨j, hj⟩ := List.mem_iff_getElem?.mp hx
  rw [List.getElem?_take] at hj
  split at hj
  · rename_i hji
    have h1 : (nms ls)[j]? = some l.1 := by rw [List.getElem?_map, hj]; simp [e]
    have h2 : (nms ls)[i]? = some l.1 := by rw [List.getElem?_map, h]; rfl
    have := nd_ix nd h1 h2
    omega
  · cases hj
theorem isi_lt {K : PySem.W.Frag} {H : Hp} {a : Addr} {xs : List V} (h : SeqOf H a xs) : ∃ t, TyX K H (.ref a) t ∧ PySem.W.kitAny K t [.type "list", .type "tuple"] = some true := by
  rcases h with h | h
  · exact ⟨_, .base (.lst h), kitAny_cons (b := true) (kit_ty (by decide +kernel)) (fun z => nomatch z) fun _ => rfl⟩
  · exact ⟨_, .base (.tup h), kitAny_cons (b := false) (kit_ty (by decide +kernel)) (fun _ => kitAny_cons (b := true) (kit_ty (by decide +kernel)) (fun z => nomatch z) fun _ => rfl) fun z => nomatch z⟩
theorem q_cb1 {r : List V → Hp → VK → Prop} {te : TE} {σ : L2.St} {H : Hp} {Q : VK} (h : te σ H fun x H1 => r [x] H1 Q) : tCB r (tCons te tNil) σ H Q := h
def spAreRows : Sp := fun vs H Q _ => ∃ a ls, vs = [.ref a] ∧ RowsAt H a ls ∧ ls.length ≤ 1000 ∧ ∀ H', Same H H' → Q (.bl true) H'
def spCkNames : Sp := fun vs H Q _ => ∃ a ls, vs = [.ref a] ∧ RowsAt H a ls ∧ LnsOk ls ∧ ∀ H', Same H H' → Q .non H'
section
variable {P : Program} {w : World} {K : PySem.W.Frag} {mg : Str → Option Value} {base : Heap}
theorem scAreRows : FnScope ["thing", "row"] ["thing"] (defScope sAreRows) := ⟨rfl, rfl, rfl, by decide +kernel, rfl, by decide +kernel, by decide +kernel⟩
theorem ok_areRows {f g : Addr} {fd gd : FuncData} (F : Fun K "_are_rows" "_are_rows" sAreRows f fd) (G : FnOk P w K mg base CX0 1 g gd ["thing"] spIsPair) (kG : PySem.W.keepIn K (.ref g) = true) (bG : Binds K gd ["thing"] []) (mG : mg "is_pair" = some (.ref g))
    (mi : mg "isinstance" = none) (ma : mg "all" = none) (ml : mg "list" = none) (mt : mg "tuple" = none) : FnOk P w K mg base CX0 2 f fd ["thing"] spAreRows := by
  refine F.ok scAreRows (fun vs H Q E h => ?_) (fun cdv A outer s H vs Q E hr h => ?_)
  · obtain ⟨a, ls, rfl, _⟩ := h
    rfl
  · obtain ⟨a, ls, rfl, ⟨rs, hs, pr⟩, h1000, k⟩ := h
    refine ⟨_, pss_one (ps_ret (pe_and (pe_callB call_isiT (by rfl) mi (by decide +kernel) (pa_cons (pv 0) (pa_cons (pe_tup (pa_cons (pe_bltn (v := .ty "list") (u := .type "list") (by rfl) ml (by decide +kernel) rfl) (pa_cons (pe_bltn (v := .ty "tuple") (u := .type "tuple") (by rfl) mt (by decide +kernel) rfl) pa_nil))) pa_nil)))
      (pe_one (pe_callB (cr_all rfl) (by rfl) ma (by decide +kernel) (pa_cons (pe_lc (own := [("row", 1)]) (g := gName 1) (tt := tYes) rfl scAreRows.nd (pi_seq 0) (blkOk_by (N := ["thing", "row"]) (sc := defScope sAreRows) (by decide +kernel))
        (fun _ _ _ _ _ => pg_name (i := 1) scAreRows.nd rfl (Or.inl rfl)) (fun _ _ _ _ _ => pts_nil) (fun _ _ _ _ _ => pe_call G hr (by rfl) mG kG bG .nil pass0 (pa_cons (pv 1) pa_nil))) pa_nil))))), ?_⟩
    refine ⟨_, rfl, (by show 2 ≤ sizeLine; decide), fun tp ntp => ?_⟩
    have s1 : Same H (upd H tp (.tup [.ty "list", .ty "tuple"])) := same_upd ntp
    obtain ⟨t, ty, kt⟩ := isi_lt (K := K) (hs.same s1)
    refine ⟨_, tp, _, t, _, true, rfl, upd_same, .cons (.ty "list") (.cons (.ty "tuple") .nil), ty, kt, true, rfl, iteT ?_⟩
    have hl := paired_len pr
    generalize upd H tp (.tup [.ty "list", .ty "tuple"]) = H0 at s1
    refine q_cb1 ?_
    refine lc_seq (a := a) (xs := rs) (by rfl) (hs.same s1) (fun D i H' => Same H0 H' ∧ H' D = some (.lst (List.replicate i (V.bl true)))) (fun D nD => ⟨same_upd nD, upd_same⟩) (fun D i H' nD hi p => p.1 _) ?_ ?_
    · rintro D i x H' nD hx ⟨sm, hD⟩
      obtain ⟨l, hl2, t, b, rfl, ht, _⟩ := paired_at pr hx
      have hi : i < ls.length := (List.getElem?_eq_some_iff.mp hl2).1
      refine ⟨rfl, _, rfl, t, _, _, rfl, sm _ _ (s1 _ _ ht), _, hD, ?_, ?_, ?_⟩
      · rw [List.length_replicate]
        exact small1000 (by omega)
      · intro c o e
        rw [upd_ne (ne_of_none e nD)]
        exact sm _ _ e
      · show upd H' D _ D = _
        rw [upd_same, ← List.replicate_succ']
    · rintro D H' nD ⟨sm, hD⟩
      refine ⟨D, List.replicate rs.length true, rfl, SqL.of (by rw [List.map_replicate]; exact hD), ?_⟩
      have e : (List.replicate rs.length true).all id = true := by simp
      rw [e]
      exact k _ (s1.trans sm)
theorem scCkNames : FnScope ["rows", "before", "name", "_"] ["rows"] (defScope sCkNames) := ⟨rfl, rfl, rfl, by decide +kernel, rfl, by decide +kernel, by decide +kernel⟩
theorem ok_ckNames {f g : Addr} {fd gd : FuncData} (F : Fun K "_check_names" "_check_names" sCkNames f fd) (G : FnOk P w K mg base CX0 1 g gd ["thing"] spIsName) (kG : PySem.W.keepIn K (.ref g) = true) (bG : Binds K gd ["thing"] []) (mG : mg "is_name" = some (.ref g)) :
    FnOk P w K mg base CX0 2 f fd ["rows"] spCkNames := by
  refine F.ok scCkNames (fun vs H Q E h => ?_) (fun cdv A outer s H vs Q E hr h => ?_)
  · obtain ⟨a, ls, rfl, _⟩ := h
    rfl
  · obtain ⟨a, ls, rfl, ⟨rs, hs, pr⟩, ok, k⟩ := h
    refine ⟨_, pss_cons (ps_set (i := 1) scCkNames.nd rfl (Or.inl rfl) (pe_lst pa_nil))
      (pss_one (ps_for PassesOwn.never rfl (pi_seq 0) (pg_tup rfl (pgs_cons (pg_name (i := 2) scCkNames.nd rfl (Or.inl rfl)) (pgs_cons (pg_name (i := 3) scCkNames.nd rfl (Or.inl rfl)) pgs_nil)))
        (pss_cons (ps_if (PW.pt (pw_or (pt_not (pt_val (pe_call G hr (by rfl) mG kG bG .nil pass0 (pa_cons (pv 2) pa_nil)))) (pw_or1 (pt_cmpR op_in_seq (pv 2) (pv 1) (by rfl))))) (pss_one ps_never) pss_nil)
          (pss_one (ps_expr (pe_bm PySem.F.plainAttrs_list PySem.F.slot_list_append PySem.F.type_list_append mt_append (pv 1) (pa_cons (pv 2) pa_nil))))))), ?_⟩
    refine ⟨Nat.zero_le _, fun p np => ?_⟩
    have s1 : Same H (upd H p (.lst [])) := same_upd np
    have hl := paired_len pr
    refine for_seq (a := a) (xs := rs) (by rfl) (hs.same s1) (fun i σ H' => ∃ v2 v3, σ = [some (.ref a), some (.ref p), v2, v3] ∧ Same H H' ∧ H' p = some (.lst ((nms (ls.take i)).map V.str))) ⟨none, none, rfl, s1, upd_same⟩ ?_ ?_ ?_
    · rintro i σ H' hi ⟨v2, v3, rfl, sm, _⟩ o e
      rcases hs with e' | e'
      · rw [s1 _ _ e'] at e
        rw [← e]
        exact sm _ _ e'
      · rw [s1 _ _ e'] at e
        rw [← e]
        exact sm _ _ e'
    · rintro i x σ H' hx ⟨v2, v3, rfl, sm, hp⟩
      obtain ⟨l, hl2, t, b, rfl, ht, _⟩ := paired_at pr hx
      have hi : i < ls.length := (List.getElem?_eq_some_iff.mp hl2).1
      have few := ok.few
      refine ⟨t, _, rfl, SqT.of (sm _ _ ht), rfl, _, _, rfl, _, _, rfl, rfl, ?_⟩
      refine ⟨_, rfl, l.1, rfl, ok.names l (List.mem_of_getElem? hl2), fun H2 s2 => ⟨true, rfl, ?_⟩⟩
      have hp2 := s2 _ _ hp
      refine ⟨_, rfl, _, rfl, p, _, rfl, .inl (SqL.of hp2), rfl, flat_strs _, _, rfl, ?_⟩
      rw [show (if false = true then !inV (V.str l.1) ((nms (ls.take i)).map V.str) else inV (V.str l.1) ((nms (ls.take i)).map V.str)) = false from by
        rw [if_neg Bool.false_ne_true, inV_str]
        exact decide_eq_false (not_before ok.nd hl2)]
      refine ⟨_, rfl, .inl ⟨rfl, _, SqL.of hp2⟩, _, rfl, p, _, _, rfl, rfl, hp2, ?_, ?_⟩
      · rw [List.length_map, List.length_map, List.length_take]
        exact small1000 (by omega)
      · refine ⟨_, _, rfl, fun c o e => ?_, ?_⟩
        · rw [upd_ne (ne_of_none e np)]
          exact s2 _ _ (sm _ _ e)
        · rw [upd_same, show nms (ls.take (i + 1)) = nms (ls.take i) ++ [l.1] from take_succ_map hl2, List.map_append]
          rfl
    · rintro σ H' ⟨v2, v3, rfl, sm, _⟩
      exact k _ sm
end
end K1

namespace K1
open PySem PySem.Spec PyProof.Rows L2 Own
/-! ### what is above a kind -/
def grow (o : List Str) (x : Str) : List Str := if x ∈ o then o else o ++ [x]
theorem grow_mem {o : List Str} {x y : Str} : y ∈ grow o x ↔ y ∈ o ∨ y = x := by
  unfold grow
  split
  · rename_i h
    exact ⟨.inl, fun q => q.elim id fun e => by rw [e]; exact h⟩
  · simp
theorem grow_nd {o : List Str} {x : Str} (h : o.Nodup) : (grow o x).Nodup := by
  unfold grow
  split
  · exact h
  · rename_i n
    exact List.nodup_append.mpr ⟨h, List.nodup_cons.mpr ⟨List.not_mem_nil, List.nodup_nil⟩, fun a ha b hb => by
      rw [List.mem_singleton.mp hb]
      exact fun e => n (e ▸ ha)⟩
theorem grow_len (o : List Str) (x : Str) : (grow o x).length ≤ o.length + 1 := by
  unfold grow
  split
  · omega
  · rw [List.length_append, List.length_singleton]
    omega
abbrev Tb := List (Str × List Str)
def look (T : Tb) (n : Str) : List Str := (T.lookup n).getD []
theorem look_at : ∀ {T : Tb} {j : Nat} {n : Str} {y : List Str}, (T.map (·.1)).Nodup → T[j]? = some (n, y) → look T n = y
  | [], _, _, _, _, h => by simp at h
  | (m, z) :: r, 0, n, y, _, h => by
    have e := Option.some.inj h
    cases e
    unfold look
    rw [List.lookup_cons, beq_self_eq_true]
    rfl
  | (m, z) :: r, j + 1, n, y, nd, h => by
    have h' : r[j]? = some (n, y) := by simpa using h
    obtain ⟨n1, n2⟩ := List.nodup_cons.mp (show (m :: r.map (·.1)).Nodup from nd)
    have ne : ¬ n = m := fun e => n1 (by
      rw [← e]
      exact List.mem_map.mpr ⟨(n, y), List.mem_of_getElem? h', rfl⟩)
    have ih := look_at n2 h'
    unfold look at ih ⊢
    rw [List.lookup_cons, beq_eq_false_iff_ne.mpr ne]
    exact ih
/-- y is what is above the kind of this row, given what is above its bases -/
def UpsIs (F : Str → List Str) (l : Ln) (y : List Str) : Prop := y.Nodup ∧ ∀ x, x ∈ y ↔ x = l.1 ∨ ∃ b ∈ l.2, x ∈ F b
structure Tab (S : List Str → Prop) (ls : List Ln) (T : Tb) : Prop where
  len : T.length = ls.length
  row : ∀ (i : Nat) l, ls[i]? = some l → ∃ y, T[i]? = some (l.1, y) ∧ S y ∧ UpsIs (look (T.take i)) l y
theorem Tab.nms {S : List Str → Prop} {ls : List Ln} {T : Tb} (h : Tab S ls T) : T.map (·.1) = nms ls := by
  refine List.ext_getElem? fun i => ?_
  rw [List.getElem?_map, List.getElem?_map]
  cases e : ls[i]? with
  | none =>
    have q := List.getElem?_eq_none_iff.mp e
    rw [List.getElem?_eq_none_iff.mpr (by rw [h.len]; exact q)] <;> rfl
  | some l =>
    obtain ⟨y, hy, _⟩ := h.row i l e
    rw [hy]
    rfl
theorem Tab.nil {S : List Str → Prop} : Tab S [] [] := ⟨rfl, fun i l h => by simp at h⟩
theorem Tab.snoc {S : List Str → Prop} {ls : List Ln} {T : Tb} {l : Ln} {y : List Str} (h : Tab S ls T) (u : UpsIs (look T) l y) (s : S y) : Tab S (ls ++ [l]) (T ++ [(l.1, y)]) := by
  refine ⟨by rw [List.length_append, List.length_append, h.len]; rfl, fun i k hk => ?_⟩
  by_cases hi : i < ls.length
  · rw [List.getElem?_append_left hi] at hk
    obtain ⟨z, h1, h2, h3⟩ := h.row i k hk
    have hT : i < T.length := by rw [h.len]; exact hi
    refine ⟨z, by rw [List.getElem?_append_left hT]; exact h1, h2, ?_⟩
    rw [List.take_append_of_le_length (Nat.le_of_lt hT)]
    exact h3
  · have e : i = ls.length := by
      have q := (List.getElem?_eq_some_iff.mp hk).1
      rw [List.length_append, List.length_singleton] at q
      omega
    subst e
    rw [List.getElem?_append_right (Nat.le_refl _), Nat.sub_self] at hk
    have ek : l = k := Option.some.inj hk
    subst ek
    refine ⟨y, ?_, s, ?_⟩
    · rw [← h.len, List.getElem?_append_right (Nat.le_refl _), Nat.sub_self]
      rfl
    · rw [← h.len, List.take_append_of_le_length (Nat.le_refl _), List.take_length]
      exact u
theorem take_nodup {α : Type} {l : List α} (h : l.Nodup) (i : Nat) : (l.take i).Nodup := h.sublist (List.take_sublist _ _)
theorem mem_take {ls : List Ln} {i : Nat} {b : Str} (h : b ∈ nms (ls.take i)) : ∃ j l, j < i ∧ ls[j]? = some l ∧ l.1 = b := by
  obtain ⟨l, hl, e⟩ := List.mem_map.mp h
  obtain ⟨j, hj⟩ := List.mem_iff_getElem?.mp hl
  rw [List.getElem?_take] at hj
  split at hj
  · exact ⟨j, l, by assumption, hj, e⟩
  · cases hj
/-- the same names, the same bases in some order -/
def Alike (ls ls' : List Ln) : Prop := Paired (fun (l l' : Ln) => l.1 = l'.1 ∧ ∀ b, b ∈ l.2 ↔ b ∈ l'.2) ls ls'
theorem Alike.nms : ∀ {ls ls' : List Ln}, Alike ls ls' → nms ls = nms ls'
  | _, _, .nil => rfl
  | x :: xs, y :: ys, .cons a r => by
    have e : K1.nms xs = K1.nms ys := Alike.nms r
    show x.1 :: K1.nms xs = y.1 :: K1.nms ys
    rw [a.1, e]
theorem tab_alike {S S' : List Str → Prop} {ls ls' : List Ln} {T T' : Tb} (ok : LnsOk ls) (a : Alike ls ls') (h : Tab S ls T) (h' : Tab S' ls' T') :
    ∀ (i : Nat) (n n' : Str) (y y' : List Str), T[i]? = some (n, y) → T'[i]? = some (n', y') → n = n' ∧ ∀ x, x ∈ y ↔ x ∈ y' := by
  have ndT : (T.map (·.1)).Nodup := by rw [h.nms]; exact ok.nd
  have ndT' : (T'.map (·.1)).Nodup := by rw [h'.nms, ← a.nms]; exact ok.nd
  intro i
  induction i using Nat.strongRecOn with
  | ind i ih =>
    intro n n' y y' hy hy'
    have hi : i < ls.length := by
      rw [← h.len]
      exact (List.getElem?_eq_some_iff.mp hy).1
    obtain ⟨l', hl', e1, e2⟩ := paired_at a (List.getElem?_eq_getElem hi)
    obtain ⟨z, hz, _, _, uz⟩ := h.row i _ (List.getElem?_eq_getElem hi)
    obtain ⟨z', hz', _, _, uz'⟩ := h'.row i _ hl'
    rw [hy] at hz
    rw [hy'] at hz'
    cases hz
    cases hz'
    refine ⟨e1, fun x => ?_⟩
    have each : ∀ b ∈ (ls[i]).2, ∀ x, x ∈ look (T.take i) b ↔ x ∈ look (T'.take i) b := fun b hb x => by
      obtain ⟨j, k, hj, hk, ek⟩ := mem_take ((ok.base i _ (List.getElem?_eq_getElem hi)).2.1 b hb)
      subst ek
      obtain ⟨k', hk', f1, f2⟩ := paired_at a hk
      obtain ⟨u, hu, _, _⟩ := h.row j k hk
      obtain ⟨u', hu', _, _⟩ := h'.row j k' hk'
      have q := (ih j hj _ _ _ _ hu hu').2 x
      have g : (T.take i)[j]? = some (k.1, u) := by rw [List.getElem?_take_of_lt hj]; exact hu
      have g' : (T'.take i)[j]? = some (k.1, u') := by rw [List.getElem?_take_of_lt hj, f1]; exact hu'
      rw [look_at (by rw [List.map_take]; exact take_nodup ndT i) g, look_at (by rw [List.map_take]; exact take_nodup ndT' i) g']
      exact q
    rw [uz x, uz' x, e1]
    constructor
    · rintro (q | ⟨b, hb, q⟩)
      · exact .inl q
      · exact .inr ⟨b, (e2 b).mp hb, (each b hb x).mp q⟩
    · rintro (q | ⟨b, hb, q⟩)
      · exact .inl q
      · have hb' := (e2 b).mpr hb
        exact .inr ⟨b, hb', (each b hb' x).mpr q⟩
end K1

namespace K1
open PySem PySem.Spec PyProof.Rows L2 Own
def spAreBases : Sp := fun vs H Q _ => ∃ (b p : Addr) (bs ns : List Str), vs = [.ref b, .ref p] ∧ SeqOf H b (bs.map V.str) ∧ H p = some (.lst (ns.map V.str)) ∧ bs.Nodup ∧ (∀ x ∈ bs, x ∈ ns) ∧ bs.length ≤ 7 ∧ ∀ H', Same H H' → Q (.bl true) H'
theorem seq_keep {H H' : Hp} {a : Addr} {xs : List V} (h : SeqOf H a xs) (s : Same H H') : ∀ o, H a = some o → H' a = some o := fun o e => s _ _ e
theorem nd_not {ss : List Str} {i : Nat} {x : Str} (nd : ss.Nodup) (h : ss[i]? = some x) : x ∉ ss.take i := by
  intro hm
  obtain ⟨j, hj⟩ := List.mem_iff_getElem?.mp hm
  rw [List.getElem?_take] at hj
  split at hj
  · have := nd_ix nd hj h
    omega
  · cases hj
theorem same_past {H H' : Hp} {p : Addr} {o : HO} (np : H p = none) (s : Same H H') : Same H (upd H' p o) := fun b x e => by
  rw [upd_ne (ne_of_none e np)]
  exact s _ _ e
section
variable {P : Program} {w : World} {K : PySem.W.Frag} {mg : Str → Option Value} {base : Heap}
theorem scAreBases : FnScope ["thing", "before", "found", "base"] ["thing", "before"] (defScope sAreBases) := ⟨rfl, rfl, rfl, by decide +kernel, rfl, by decide +kernel, by decide +kernel⟩
theorem ok_areBases {f : Addr} {fd : FuncData} (F : Fun K "_are_bases" "_are_bases" sAreBases f fd) (mi : mg "isinstance" = none) (ml : mg "list" = none) (mt : mg "tuple" = none) : FnOk P w K mg base CX0 1 f fd ["thing", "before"] spAreBases := by
  refine F.ok scAreBases (fun vs H Q E h => ?_) (fun cdv A outer s H vs Q E hr h => ?_)
  · obtain ⟨b, p, bs, ns, rfl, _⟩ := h
    rfl
  · obtain ⟨b, p, bs, ns, rfl, hb, hp, nd, sub, few, k⟩ := h
    refine ⟨_, pss_cons (ps_if (pt_not (pt_val (pe_callB call_isiT (by rfl) mi (by decide +kernel) (pa_cons (pv 0) (pa_cons (pe_tup (pa_cons (pe_bltn (v := .ty "list") (u := .type "list") (by rfl) ml (by decide +kernel) rfl) (pa_cons (pe_bltn (v := .ty "tuple") (u := .type "tuple") (by rfl) mt (by decide +kernel) rfl) pa_nil))) pa_nil)))))
        (pss_one (ps_ret pe_bl)) pss_nil)
      (pss_cons (ps_set (i := 2) scAreBases.nd rfl (Or.inl rfl) (pe_lst pa_nil))
      (pss_cons (ps_for PassesOwn.never rfl (pi_seq 0) (pg_name (i := 3) scAreBases.nd rfl (Or.inl rfl))
        (pss_cons (ps_if (PW.pt (pw_or (pt_cmpR op_notIn_seq (pv 3) (pv 1) (by rfl)) (pw_or1 (pt_cmpR op_in_seq (pv 3) (pv 2) (by rfl))))) (pss_one (ps_ret pe_bl)) pss_nil)
          (pss_one (ps_expr (pe_bm PySem.F.plainAttrs_list PySem.F.slot_list_append PySem.F.type_list_append mt_append (pv 2) (pa_cons (pv 3) pa_nil))))))
      (pss_one (ps_ret pe_bl)))), ?_⟩
    refine ⟨_, rfl, (by show 2 ≤ sizeLine; decide), fun tp ntp => ?_⟩
    have s1 : Same H (upd H tp (.tup [.ty "list", .ty "tuple"])) := same_upd ntp
    obtain ⟨t, ty, kt⟩ := isi_lt (K := K) (hb.same s1)
    refine ⟨_, tp, _, t, _, true, rfl, upd_same, .cons (.ty "list") (.cons (.ty "tuple") .nil), ty, kt, true, rfl, iteF ?_⟩
    generalize upd H tp (.tup [.ty "list", .ty "tuple"]) = H0 at s1
    refine ⟨Nat.zero_le _, fun q nq => ?_⟩
    have s2 : Same H0 (upd H0 q (.lst [])) := same_upd nq
    refine for_seq (a := b) (xs := bs.map V.str) (by rfl) ((hb.same s1).same s2) (fun i σ H' => ∃ v3, σ = [some (.ref b), some (.ref p), some (.ref q), v3] ∧ Same H0 H' ∧ H' q = some (.lst ((bs.take i).map V.str))) ⟨none, rfl, s2, upd_same⟩ ?_ ?_ ?_
    · rintro i σ H' hi ⟨v3, rfl, sm, _⟩ o e
      have hb0 := hb.same s1
      rcases hb0 with e' | e'
      · rw [s2 _ _ e'] at e
        rw [← e]
        exact sm _ _ e'
      · rw [s2 _ _ e'] at e
        rw [← e]
        exact sm _ _ e'
    · rintro i x σ H' hx ⟨v3, rfl, sm, hq⟩
      rw [List.getElem?_map] at hx
      obtain ⟨y, hy, rfl⟩ := Option.map_eq_some_iff.mp hx
      have hi : i < bs.length := (List.getElem?_eq_some_iff.mp hy).1
      refine ⟨_, rfl, _, rfl, p, _, rfl, .inl (SqL.of (sm _ _ (s1 _ _ hp))), rfl, flat_strs _, _, rfl, ?_⟩
      rw [show (if true = true then !inV (V.str y) (ns.map V.str) else inV (V.str y) (ns.map V.str)) = false from by
        rw [if_pos rfl, inV_str, decide_eq_true (sub y (List.mem_of_getElem? hy))]
        rfl]
      refine iteF ⟨_, rfl, _, rfl, q, _, rfl, .inl (SqL.of hq), rfl, flat_strs _, _, rfl, ?_⟩
      rw [show (if false = true then !inV (V.str y) ((bs.take i).map V.str) else inV (V.str y) ((bs.take i).map V.str)) = false from by
        rw [if_neg Bool.false_ne_true, inV_str]
        exact decide_eq_false (nd_not nd hy)]
      refine iteF ⟨_, rfl, .inl ⟨rfl, _, SqL.of hq⟩, _, rfl, q, _, _, rfl, rfl, hq, ?_, ?_⟩
      · rw [List.length_map, List.length_take]
        exact small1000 (by omega)
      · refine ⟨_, rfl, same_past nq sm, ?_⟩
        rw [upd_same, List.take_add_one, hy, List.map_append]
        rfl
    · rintro σ H' ⟨v3, rfl, sm, _⟩
      exact k _ (s1.trans sm)
theorem scCkBases : FnScope ["rows", "before", "name", "bases"] ["rows"] (defScope sCkBases) := ⟨rfl, rfl, rfl, by decide +kernel, rfl, by decide +kernel, by decide +kernel⟩
theorem ok_ckBases {f g : Addr} {fd gd : FuncData} (F : Fun K "_check_bases" "_check_bases" sCkBases f fd) (G : FnOk P w K mg base CX0 1 g gd ["thing", "before"] spAreBases) (kG : PySem.W.keepIn K (.ref g) = true) (bG : Binds K gd ["thing", "before"] []) (mG : mg "_are_bases" = some (.ref g)) :
    FnOk P w K mg base CX0 2 f fd ["rows"] spCkNames := by
  refine F.ok scCkBases (fun vs H Q E h => ?_) (fun cdv A outer s H vs Q E hr h => ?_)
  · obtain ⟨a, ls, rfl, _⟩ := h
    rfl
  · obtain ⟨a, ls, rfl, ⟨rs, hs, pr⟩, ok, k⟩ := h
    refine ⟨_, pss_cons (ps_set (i := 1) scCkBases.nd rfl (Or.inl rfl) (pe_lst pa_nil))
      (pss_one (ps_for PassesOwn.never rfl (pi_seq 0) (pg_tup rfl (pgs_cons (pg_name (i := 2) scCkBases.nd rfl (Or.inl rfl)) (pgs_cons (pg_name (i := 3) scCkBases.nd rfl (Or.inl rfl)) pgs_nil)))
        (pss_cons (ps_if (pt_not (pt_val (pe_call G hr (by rfl) mG kG bG .nil pass0 (pa_cons (pv 3) (pa_cons (pv 1) pa_nil))))) (pss_one ps_never) pss_nil)
          (pss_one (ps_expr (pe_bm PySem.F.plainAttrs_list PySem.F.slot_list_append PySem.F.type_list_append mt_append (pv 1) (pa_cons (pv 2) pa_nil))))))), ?_⟩
    refine ⟨Nat.zero_le _, fun p np => ?_⟩
    have s1 : Same H (upd H p (.lst [])) := same_upd np
    refine for_seq (a := a) (xs := rs) (by rfl) (hs.same s1) (fun i σ H' => ∃ v2 v3, σ = [some (.ref a), some (.ref p), v2, v3] ∧ Same H H' ∧ H' p = some (.lst ((nms (ls.take i)).map V.str))) ⟨none, none, rfl, s1, upd_same⟩ ?_ ?_ ?_
    · rintro i σ H' hi ⟨v2, v3, rfl, sm, _⟩ o e
      rcases hs with e' | e'
      · rw [s1 _ _ e'] at e
        rw [← e]
        exact sm _ _ e'
      · rw [s1 _ _ e'] at e
        rw [← e]
        exact sm _ _ e'
    · rintro i x σ H' hx ⟨v2, v3, rfl, sm, hp⟩
      obtain ⟨l, hl2, t, b, rfl, ht, hb⟩ := paired_at pr hx
      have hi : i < ls.length := (List.getElem?_eq_some_iff.mp hl2).1
      have few := ok.few
      obtain ⟨b1, b2, b3⟩ := ok.base i l hl2
      refine ⟨t, _, rfl, SqT.of (sm _ _ ht), rfl, _, _, rfl, _, _, rfl, rfl, ?_⟩
      refine ⟨_, rfl, _, rfl, b, p, l.2, nms (ls.take i), rfl, hb.same sm, hp, b1, b2, b3, fun H2 s2 => ⟨true, rfl, iteF ?_⟩⟩
      have hp2 := s2 _ _ hp
      refine ⟨_, rfl, .inl ⟨rfl, _, SqL.of hp2⟩, _, rfl, p, _, _, rfl, rfl, hp2, ?_, ?_⟩
      · rw [List.length_map, List.length_map, List.length_take]
        exact small1000 (by omega)
      · refine ⟨_, _, rfl, same_past np (sm.trans s2), ?_⟩
        rw [upd_same, show nms (ls.take (i + 1)) = nms (ls.take i) ++ [l.1] from take_succ_map hl2, List.map_append]
        rfl
    · rintro σ H' ⟨v2, v3, rfl, sm, _⟩
      exact k _ sm
end
end K1

namespace K1
open PySem PySem.Spec PyProof.Rows L2 Own
/-! ### a dict of lists of names -/
def EntAt (N : Addr → Prop) (H : Hp) (kv : Key × V) (t : Str × List Str) : Prop := kv.1 = Sum.inr t.1 ∧ ∃ p, N p ∧ kv.2 = .ref p ∧ H p = some (.lst (t.2.map V.str))
def DictAt (N : Addr → Prop) (H : Hp) (d : Addr) (T : Tb) : Prop := N d ∧ ∃ kvs, H d = some (.dK kvs) ∧ Paired (EntAt N H) kvs T
theorem DictAt.same {N : Addr → Prop} {H H' : Hp} {d : Addr} {T : Tb} (s : Same H H') (h : DictAt N H d T) : DictAt N H' d T := by
  obtain ⟨n, kvs, e, p⟩ := h
  exact ⟨n, kvs, s _ _ e, paired_imp (fun _ _ ⟨a, q, b, c, z⟩ => ⟨a, q, b, c, s _ _ z⟩) p⟩
theorem ent_get {N : Addr → Prop} {H : Hp} {n : Str} {y : List Str} : ∀ {kvs : List (Key × V)} {T : Tb}, Paired (EntAt N H) kvs T → T.lookup n = some y → ∃ q, N q ∧ valV kvs (Sum.inr n) = some (.ref q) ∧ H q = some (.lst (y.map V.str))
  | _, _, .nil, h => by simp at h
  | kv :: kvs, t :: T, .cons a r, h => by
    obtain ⟨e, q, nq, ev, hq⟩ := a
    rw [show t = (t.1, t.2) from rfl, List.lookup_cons] at h
    by_cases c : n = t.1
    · rw [beq_iff_eq.mpr c] at h
      have h' : t.2 = y := Option.some.inj h
      exact ⟨q, nq, by rw [valV_pos (by rw [e, c]), ev], by rw [← h']; exact hq⟩
    · rw [beq_eq_false_iff_ne.mpr c] at h
      obtain ⟨q', n', e', h'⟩ := ent_get r h
      exact ⟨q', n', by rw [valV_neg (by rw [e]; exact fun z => c (Sum.inr.inj z).symm), e'], h'⟩
theorem ent_none {N : Addr → Prop} {H : Hp} {n : Str} : ∀ {kvs : List (Key × V)} {T : Tb}, Paired (EntAt N H) kvs T → n ∉ T.map (·.1) → valV kvs (Sum.inr n) = none
  | _, _, .nil, h => rfl
  | kv :: kvs, t :: T, .cons a r, h => by
    obtain ⟨e, _⟩ := a
    have h1 : ¬ n = t.1 ∧ n ∉ T.map (·.1) := by simpa using h
    rw [valV_neg (by rw [e]; exact fun z => h1.1 (Sum.inr.inj z).symm)]
    exact ent_none r h1.2
theorem look_in : ∀ {T : Tb} {n : Str}, n ∈ T.map (·.1) → T.lookup n = some (look T n)
  | [], _, h => by simp at h
  | (m, z) :: r, n, h => by
    unfold look
    rw [List.lookup_cons]
    by_cases c : n = m
    · rw [beq_iff_eq.mpr c]
      rfl
    · rw [beq_eq_false_iff_ne.mpr c]
      have h' : n ∈ r.map (·.1) := by
        rcases List.mem_cons.mp (show n ∈ m :: r.map (·.1) from h) with e | e
        · exact absurd e c
        · exact e
      have ih := look_in h'
      show r.lookup n = some ((r.lookup n).getD [])
      rw [ih]
      rfl
/-- the keys of a dict of Trues -/
def keysOf (o : List Str) : List (Key × V) := o.map fun x => (Sum.inr x, V.bl true)
theorem keysOf_keys (o : List Str) : (keysOf o).map (·.1) = o.map Sum.inr := by
  unfold keysOf
  rw [List.map_map]
  rfl
theorem keysOf_any (o : List Str) (x : Str) : ((keysOf o).any fun kv => decide (kv.1 = Sum.inr x)) = decide (x ∈ o) := by
  unfold keysOf
  rw [List.any_map, Bool.eq_iff_iff, List.any_eq_true]
  simp only [Function.comp, decide_eq_true_eq]
  exact ⟨fun ⟨y, hy, e⟩ => by rw [← Sum.inr.inj e]; exact hy, fun h => ⟨x, h, rfl⟩⟩
theorem put_keys (o : List Str) (x : Str) : putK (keysOf o) (Sum.inr x) (.bl true) = keysOf (grow o x) := by
  unfold putK grow
  rw [keysOf_any]
  by_cases h : x ∈ o
  · rw [if_pos (decide_eq_true h), if_pos h]
    unfold keysOf
    rw [List.map_map]
    refine List.map_congr_left fun y _ => ?_
    simp only [Function.comp]
    split <;> rfl
  · rw [if_neg (by rw [decide_eq_false h]; decide), if_neg h]
    unfold keysOf
    rw [List.map_append]
    rfl
theorem grows_mem : ∀ {ys o : List Str} {x : Str}, x ∈ ys.foldl grow o ↔ x ∈ o ∨ x ∈ ys
  | [], o, x => by simp
  | y :: r, o, x => by
    rw [List.foldl_cons, grows_mem, grow_mem, List.mem_cons]
    exact ⟨fun h => h.elim (fun h => h.elim .inl fun e => .inr (.inl e)) fun h => .inr (.inr h), fun h => h.elim (fun h => .inl (.inl h)) fun h => h.elim (fun e => .inl (.inr e)) .inr⟩
theorem grows_nd : ∀ {ys o : List Str}, o.Nodup → (ys.foldl grow o).Nodup
  | [], _, h => h
  | _ :: r, _, h => grows_nd (ys := r) (grow_nd h)
theorem nd_len : ∀ {xs ys : List Str}, xs.Nodup → (∀ x ∈ xs, x ∈ ys) → xs.length ≤ ys.length
  | [], _, _, _ => Nat.zero_le _
  | x :: r, ys, nd, h => by
    obtain ⟨n1, n2⟩ := List.nodup_cons.mp nd
    have hx := h x (List.mem_cons_self ..)
    have q := nd_len (xs := r) (ys := ys.erase x) n2 fun z hz => (List.mem_erase_of_ne (fun (e : z = x) => n1 (by rw [← e]; exact hz))).mpr (h z (List.mem_cons_of_mem _ hz))
    have l := List.length_erase_of_mem hx
    have l0 : 0 < ys.length := List.length_pos_of_mem hx
    rw [List.length_cons]
    omega
theorem take_sub {ls : List Ln} {i j : Nat} (h : i ≤ j) {x : Str} (hx : x ∈ nms (ls.take i)) : x ∈ nms (ls.take j) := by
  obtain ⟨k, l, hk, hl, e⟩ := mem_take hx
  subst e
  have g : (ls.take j)[k]? = some l := by rw [List.getElem?_take_of_lt (by omega)]; exact hl
  exact List.mem_map.mpr ⟨l, List.mem_of_getElem? g, rfl⟩
theorem tab_sub {S : List Str → Prop} {ls : List Ln} {T : Tb} (ok : LnsOk ls) (h : Tab S ls T) : ∀ (i : Nat) (n : Str) (y : List Str), T[i]? = some (n, y) → ∀ x ∈ y, x ∈ nms (ls.take (i + 1)) := by
  have ndT : (T.map (·.1)).Nodup := by rw [h.nms]; exact ok.nd
  intro i
  induction i using Nat.strongRecOn with
  | ind i ih =>
    intro n y hy x hx
    have hi : i < ls.length := by
      rw [← h.len]
      exact (List.getElem?_eq_some_iff.mp hy).1
    obtain ⟨z, hz, _, _, uz⟩ := h.row i _ (List.getElem?_eq_getElem hi)
    rw [hy] at hz
    cases hz
    rcases (uz x).mp hx with e | ⟨b, hb, q⟩
    · have g : (ls.take (i + 1))[i]? = some ls[i] := by rw [List.getElem?_take_of_lt (Nat.lt_succ_self _)]; exact List.getElem?_eq_getElem hi
      exact List.mem_map.mpr ⟨_, List.mem_of_getElem? g, e.symm⟩
    · obtain ⟨j, k, hj, hk, ek⟩ := mem_take ((ok.base i _ (List.getElem?_eq_getElem hi)).2.1 b hb)
      subst ek
      obtain ⟨u, hu, _, _⟩ := h.row j k hk
      have g : (T.take i)[j]? = some (k.1, u) := by rw [List.getElem?_take_of_lt hj]; exact hu
      rw [look_at (by rw [List.map_take]; exact take_nodup ndT i) g] at q
      exact take_sub (by omega) (ih j hj _ _ hu x q)
theorem look_sub {S : List Str → Prop} {ls : List Ln} {T : Tb} (ok : LnsOk ls) (h : Tab S ls T) {n x : Str} (hx : x ∈ look T n) : x ∈ nms ls := by
  by_cases c : n ∈ T.map (·.1)
  · have e := look_in c
    generalize look T n = y at e hx
    obtain ⟨l1, l2, e2, _⟩ := List.lookup_eq_some_iff.mp e
    have g : T[l1.length]? = some (n, y) := by rw [e2, List.getElem?_append_right (Nat.le_refl _), Nat.sub_self]; rfl
    have q := tab_sub ok h _ _ _ g x hx
    exact take_sub (ls := ls) (j := ls.length + (l1.length + 1)) (by omega) q |> fun z => by rwa [List.take_of_length_le (by omega)] at z
  · have e : T.lookup n = none := by
      cases e : T.lookup n with
      | none => rfl
      | some y =>
        obtain ⟨l1, l2, e2, _⟩ := List.lookup_eq_some_iff.mp e
        exact absurd (by rw [e2]; simp) c
    unfold look at hx
    rw [e] at hx
    exact nomatch hx
theorem look_nd {S : List Str → Prop} {ls : List Ln} {T : Tb} (h : Tab S ls T) (n : Str) : (look T n).Nodup := by
  cases e : T.lookup n with
  | none =>
    unfold look
    rw [e]
    exact List.nodup_nil
  | some y =>
    obtain ⟨l1, l2, e2, _⟩ := List.lookup_eq_some_iff.mp e
    have g : T[l1.length]? = some (n, y) := by rw [e2, List.getElem?_append_right (Nat.le_refl _), Nat.sub_self]; rfl
    have hi : l1.length < ls.length := by
      rw [← h.len]
      exact (List.getElem?_eq_some_iff.mp g).1
    obtain ⟨z, hz, _, u, _⟩ := h.row _ _ (List.getElem?_eq_getElem hi)
    rw [g] at hz
    cases hz
    unfold look
    rw [e]
    exact u
theorem look_len {S : List Str → Prop} {ls : List Ln} {T : Tb} (ok : LnsOk ls) (h : Tab S ls T) (n : Str) : (look T n).length ≤ 7 := by
  have q := nd_len (look_nd h n) fun x hx => look_sub ok h hx
  rw [List.length_map] at q
  have := ok.few
  omega
theorem grows_len : ∀ (ys o : List Str), (ys.foldl grow o).length ≤ o.length + ys.length
  | [], o => Nat.le_refl _
  | y :: r, o => by
    have a := grows_len r (grow o y)
    have b := grow_len o y
    rw [List.foldl_cons, List.length_cons]
    omega
theorem LnsOk.take {ls : List Ln} (ok : LnsOk ls) (i : Nat) : LnsOk (ls.take i) := by
  refine ⟨fun l hl => ok.names l (List.mem_of_mem_take hl), ?_, ?_, fun j l hl => ?_⟩
  · have e : nms (ls.take i) = (nms ls).take i := List.map_take ..
    rw [e]
    exact take_nodup ok.nd i
  · have := ok.few
    rw [List.length_take]
    omega
  · rw [List.getElem?_take] at hl
    split at hl
    · obtain ⟨a, b, c⟩ := ok.base j l hl
      refine ⟨a, fun x hx => ?_, c⟩
      rw [List.take_take, Nat.min_eq_left (Nat.le_of_lt (by assumption))]
      exact b x hx
    · cases hl
end K1

namespace K1
open PySem PySem.Spec PyProof.Rows L2 Own
abbrev Srt (y : List Str) : Prop := sortedS y = true
def spAllAbove : Sp := fun vs H Q _ => ∃ r ls, vs = [.ref r] ∧ RowsAt H r ls ∧ LnsOk ls ∧ ∀ H' d T, Same H H' → DictAt (fun p => H p = none) H' d T → Tab Srt ls T → Q (.ref d) H'
theorem seqs_keep {H H' : Hp} {a : Addr} {xs : List V} (h : SeqOf H a xs) {H0 : Hp} (s0 : Same H H0) (s : Same H H') : ∀ o, H0 a = some o → H' a = some o := fun o e => by
  rcases h with e' | e'
  · rw [s0 _ _ e'] at e
    rw [← e]
    exact s _ _ e'
  · rw [s0 _ _ e'] at e
    rw [← e]
    exact s _ _ e'
theorem merge_one (n : Str) (v : V) : mergeK [] [((Sum.inr n : Key), v)] = [((Sum.inr n : Key), v)] := rfl
theorem small_of {S : List Str → Prop} {ls : List Ln} {i : Nat} {l : Ln} {T : Tb} {o : List Str} (ok : LnsOk ls) (hl : ls[i]? = some l) (tab : Tab S (ls.take i) T) (no : o.Nodup) (h : ∀ x ∈ o, x = l.1 ∨ ∃ c, x ∈ look T c) : o.length ≤ 7 := by
  have q := nd_len (ys := nms ls) no fun x hx => by
    rcases h x hx with e | ⟨c, hc⟩
    · exact List.mem_map.mpr ⟨l, List.mem_of_getElem? hl, e.symm⟩
    · have z := look_sub (ok.take i) tab hc
      obtain ⟨m, hm, e⟩ := List.mem_map.mp z
      exact List.mem_map.mpr ⟨m, List.mem_of_mem_take hm, e⟩
  rw [List.length_map] at q
  have := ok.few
  omega
section
variable {P : Program} {w : World} {K : PySem.W.Frag} {mg : Str → Option Value} {base : Heap}
theorem scAllAbove : FnScope ["rows", "above", "name", "bases", "over", "base", "far"] ["rows"] (defScope sAllAbove) := ⟨rfl, rfl, rfl, by decide +kernel, rfl, by decide +kernel, by decide +kernel⟩
theorem ok_allAbove {f : Addr} {fd : FuncData} (F : Fun K "_all_above" "_all_above" sAllAbove f fd) (ms : mg "sorted" = none) : FnOk P w K mg base CX0 1 f fd ["rows"] spAllAbove := by
  refine F.ok scAllAbove (fun vs H Q E h => ?_) (fun cdv A outer s H vs Q E hr h => ?_)
  · obtain ⟨r, ls, rfl, _⟩ := h
    rfl
  · obtain ⟨r, ls, rfl, ⟨rs, hs, pr⟩, ok, k⟩ := h
    have hu := hu_of hr
    refine ⟨_, pss_cons (ps_set (i := 1) scAllAbove.nd rfl (Or.inl rfl) pe_dnewK)
      (pss_cons (ps_for PassesOwn.never rfl (pi_seq 0) (pg_tup rfl (pgs_cons (pg_name (i := 2) scAllAbove.nd rfl (Or.inl rfl)) (pgs_cons (pg_name (i := 3) scAllAbove.nd rfl (Or.inl rfl)) pgs_nil)))
        (pss_cons (ps_set (i := 4) scAllAbove.nd rfl (Or.inl rfl) (pe_disp (pps_cons (pv 2) pe_bl pps_nil) (by rfl) (by rfl) (fun z => by cases z) (by decide)))
        (pss_cons (ps_for PassesOwn.never rfl (pi_seq 3) (pg_name (i := 5) scAllAbove.nd rfl (Or.inl rfl))
          (pss_one (ps_for PassesOwn.never rfl (pi_list (pe_dget hu (pv 1) (pv 5) (fun _ _ => rfl))) (pg_name (i := 6) scAllAbove.nd rfl (Or.inl rfl))
            (pss_one (ps_dput hu (pv 4) (pv 6) pe_bl rfl)))))
        (pss_one (ps_dput hu (pv 1) (pv 2) (pe_callB (call_sortedD rfl) (by rfl) ms (by decide +kernel) (pa_cons (pv 4) pa_nil)) rfl)))))
      (pss_one (ps_ret (pv 1)))), ?_⟩
    intro d nd
    have s1 : Same H (upd H d (.dK [])) := same_upd nd
    refine for_seq (a := r) (xs := rs) (by rfl) (hs.same s1) (fun i σ H' => ∃ v2 v3 v4 v5 v6 T, σ = [some (.ref r), some (.ref d), v2, v3, v4, v5, v6] ∧ Same H H' ∧ DictAt (fun p => H p = none) H' d T ∧ Tab Srt (ls.take i) T)
      ⟨none, none, none, none, none, [], rfl, s1, ⟨nd, [], upd_same, .nil⟩, Tab.nil⟩ (fun i σ H' hi ⟨_, _, _, _, _, _, _, sm, _⟩ => seqs_keep hs s1 sm) ?_ ?_
    · rintro i x σ H' hx ⟨v2, v3, v4, v5, v6, T, rfl, sm, dT, tab⟩
      obtain ⟨l, hl2, t, b, rfl, ht, hb⟩ := paired_at pr hx
      have hi : i < ls.length := (List.getElem?_eq_some_iff.mp hl2).1
      have few := ok.few
      obtain ⟨b1, b2, b3⟩ := ok.base i l hl2
      refine ⟨t, _, rfl, SqT.of (sm _ _ ht), rfl, _, _, rfl, _, _, rfl, rfl, ?_⟩
      intro p np
      refine ⟨_, rfl, upd_same, [(Sum.inr l.1, .bl true)], rfl, (by show 1 ≤ 15; decide), ?_⟩
      rw [merge_one, upd_upd]
      have s2 : Same H' (upd H' p (.dK [(Sum.inr l.1, .bl true)])) := same_upd np
      -- the bases
      refine for_seq (a := b) (xs := l.2.map V.str) (by rfl) ((hb.same sm).same s2) (fun j σ H2 => ∃ v5 v6 o, σ = [some (.ref r), some (.ref d), some (.str l.1), some (.ref b), some (.ref p), v5, v6] ∧ Same H' H2 ∧ H2 p = some (.dK (keysOf o)) ∧ o.Nodup ∧ ∀ x, x ∈ o ↔ x = l.1 ∨ ∃ c ∈ l.2.take j, x ∈ look T c)
        ⟨v5, v6, [l.1], rfl, s2, upd_same, by simp, fun x => by simp⟩ (fun j σ H2 hj ⟨_, _, _, _, sm2, _⟩ => seqs_keep (hb.same sm) s2 sm2) ?_ ?_
      · rintro j x σ H2 hx ⟨v5, v6, o, rfl, sm2, hp, no, mo⟩
        rw [List.getElem?_map] at hx
        obtain ⟨c, hc, rfl⟩ := Option.map_eq_some_iff.mp hx
        have cl : c ∈ l.2 := List.mem_of_getElem? hc
        have cT : c ∈ T.map (·.1) := by rw [tab.nms]; exact b2 c cl
        have dT2 := dT.same sm2
        obtain ⟨_, kvs, hd, pk⟩ := dT2
        obtain ⟨q, nq, eq, hq⟩ := ent_get pk (look_in cT)
        have npq : p ≠ q := ne_of hp hq (by intro z; cases z)
        have g : DGet H2 d (.str c) (some (.ref q)) := by
          rw [← eq]
          exact DGet.k (k := Sum.inr c) hd
        refine ⟨_, rfl, _, rfl, d, _, rfl, g, q, rfl, ⟨_, SqL.of hq⟩, ?_⟩
        have lk := look_len (ok.take i) tab c
        have ol := small_of ok hl2 tab no fun x hx => (mo x).mp hx |>.imp id fun ⟨c, h1, h2⟩ => ⟨c, h2⟩
        refine for_list (K := K) (a := q) (xs := (look T c).map V.str) (fun m σ H3 => ∃ v6, σ = [some (.ref r), some (.ref d), some (.str l.1), some (.ref b), some (.ref p), some (.str c), v6] ∧ (∀ a u, a ≠ p → H2 a = some u → H3 a = some u) ∧ H3 p = some (.dK (keysOf (((look T c).take m).foldl grow o))))
          ⟨v6, rfl, fun _ _ _ e => e, hp⟩ (fun m σ H3 hm ⟨_, _, e, _⟩ => SqL.of (e q _ npq.symm hq)) ?_ ?_
        · rintro m x σ H3 hx ⟨v6, rfl, kp, hp3⟩
          rw [List.getElem?_map] at hx
          obtain ⟨z, hz, rfl⟩ := Option.map_eq_some_iff.mp hx
          have put := DPut.k (k := Sum.inr z) (v := .bl true) hp3 (by
            unfold keysOf
            rw [List.length_map]
            have a := grows_len ((look T c).take m) o
            have b : ((look T c).take m).length ≤ (look T c).length := by rw [List.length_take]; omega
            exact small1000 (by omega))
          rw [put_keys] at put
          refine ⟨_, rfl, _, rfl, p, _, rfl, put, ?_⟩
          refine ⟨_, rfl, fun a u ne e => by rw [upd_ne ne]; exact kp a u ne e, ?_⟩
          rw [upd_same, List.take_add_one, hz, List.foldl_append]
          rfl
        · rintro σ H3 ⟨v6, rfl, kp, hp3⟩
          rw [List.length_map, List.take_of_length_le (Nat.le_refl _)] at hp3
          refine ⟨_, _, _, rfl, fun a u e => kp a u (ne_of_none e np) (sm2 a u e), hp3, grows_nd no, fun x => ?_⟩
          rw [grows_mem, mo x, List.take_add_one, hc]
          simp only [Option.toList, List.mem_append, List.mem_singleton]
          constructor
          · rintro ((e | ⟨c', h1, h2⟩) | h2)
            · exact .inl e
            · exact .inr ⟨c', .inl h1, h2⟩
            · exact .inr ⟨c, .inr rfl, h2⟩
          · rintro (e | ⟨c', h1 | h1, h2⟩)
            · exact .inl (.inl e)
            · exact .inl (.inr ⟨c', h1, h2⟩)
            · subst h1
              exact .inr h2
      · rintro σ H2 ⟨v5, v6, o, rfl, sm2, hp, no, mo⟩
        rw [List.length_map, List.take_of_length_le (Nat.le_refl _)] at mo
        have ol := small_of ok hl2 tab no fun x hx => (mo x).mp hx |>.imp id fun ⟨c, h1, h2⟩ => ⟨c, h2⟩
        obtain ⟨nD, kvs, hd, pk⟩ := dT.same sm2
        refine ⟨_, rfl, p, _, o, rfl, .inl hp, keysOf_keys o, (by omega), fun ys q pe so nq => ?_⟩
        have s3 : Same H2 (upd H2 q (.lst (ys.map V.str))) := same_upd nq
        have nlT : l.1 ∉ T.map (·.1) := by
          rw [tab.nms]
          exact not_before ok.nd hl2
        have kl : kvs.length = T.length := paired_len pk
        have Tl : T.length ≤ 7 := by
          rw [tab.len, List.length_take]
          omega
        have put := DPut.k (k := Sum.inr l.1) (v := .ref q) (s3 _ _ hd) (small1000 (by omega))
        rw [putK_new _ (ent_none pk nlT)] at put
        refine ⟨_, rfl, _, rfl, d, _, rfl, put, ?_⟩
        have qH : H q = none := (sm.trans sm2).free nq
        have dq : q ≠ d := (ne_of_none hd nq).symm
        have ups : UpsIs (look T) l ys := ⟨pe.nodup_iff.mpr no, fun x => by rw [pe.mem_iff]; exact mo x⟩
        have e4 : ∀ a u, a ≠ d → H2 a = some u → (upd (upd H2 q (.lst (ys.map V.str))) d (.dK (kvs ++ [(Sum.inr l.1, .ref q)]))) a = some u := fun a u ne e => by
          rw [upd_ne ne]
          exact s3 _ _ e
        refine ⟨_, _, _, _, _, T ++ [(l.1, ys)], rfl, fun a u e => e4 a u (ne_of_none e nd) (sm2 _ _ (sm _ _ e)), ⟨nd, _, upd_same, ?_⟩, ?_⟩
        · refine Paired.snoc (paired_imp (fun kv t => ?_) pk) ⟨rfl, q, qH, rfl, ?_⟩
          · rintro ⟨a1, a2, a3, a4, a5⟩
            exact ⟨a1, a2, a3, a4, e4 _ _ (ne_of a5 hd (by intro z; cases z)) a5⟩
          · rw [upd_ne dq, upd_same]
        · rw [List.take_add_one, hl2]
          exact tab.snoc ups so
    · rintro σ H' ⟨v2, v3, v4, v5, v6, T, rfl, sm, dT, tab⟩
      rw [paired_len pr, List.take_of_length_le (Nat.le_refl _)] at tab
      exact ⟨_, rfl, k _ d T sm dT tab⟩
end
end K1

namespace K1
open PySem PySem.Spec PyProof.Rows L2 Own
/-! ### a table of kinds -/
theorem ra : ¬ (("_rows" : Str) = "_above") := by decide +kernel
theorem ar : ¬ (("_above" : Str) = "_rows") := by decide +kernel
def kf (r d : Addr) : List (Str × V) := [(("_rows" : Str), V.ref r), (("_above" : Str), V.ref d)]
theorem kf_rows (r d : Addr) : (kf r d).lookup ("_rows" : Str) = some (.ref r) := by
  unfold kf
  rw [List.lookup_cons, beq_self_eq_true]
theorem kf_above (r d : Addr) : (kf r d).lookup ("_above" : Str) = some (.ref d) := by
  unfold kf
  rw [List.lookup_cons, beq_eq_false_iff_ne.mpr ar, List.lookup_cons, beq_self_eq_true]
theorem kf_no (r d : Addr) {m : Str} (h1 : ¬ m = "_rows") (h2 : ¬ m = "_above") : (kf r d).lookup m = none := by
  unfold kf
  rw [List.lookup_cons, beq_eq_false_iff_ne.mpr h1, List.lookup_cons, beq_eq_false_iff_ne.mpr h2]
  rfl
/-- the fields of an object ahead of _take: none, or those of a table -/
def FsOk (fs : List (Str × V)) : Prop := fs = [] ∨ ∃ r d, fs = kf r d
theorem put_rows {fs : List (Str × V)} (h : FsOk fs) (r : Addr) : (putF "_rows" (.ref r) fs).lookup ("_rows" : Str) = some (.ref r) ∧ (putF "_rows" (.ref r) fs).length < 1000 ∧ ∀ d, putF "_above" (.ref d) (putF "_rows" (.ref r) fs) = kf r d := by
  refine ⟨by rw [lookup_putF, if_pos rfl], ?_, fun d => ?_⟩
  · have q := length_putF ("_rows" : Str) (.ref r) fs
    rcases h with e | ⟨r0, d0, e⟩
    · rw [e] at q ⊢
      exact Nat.lt_of_le_of_lt q (by decide)
    · rw [e] at q ⊢
      exact Nat.lt_of_le_of_lt q (by show 3 < 1000; decide)
  · rcases h with e | ⟨r0, d0, e⟩
    · subst e
      show (if ("_rows" : Str) = "_above" then [(("_rows" : Str), V.ref d)] else (("_rows" : Str), V.ref r) :: putF "_above" (V.ref d) []) = _
      rw [if_neg ra]
      rfl
    · subst e
      have e1 : putF "_rows" (.ref r) (kf r0 d0) = kf r d0 := by
        show (if ("_rows" : Str) = "_rows" then (("_rows" : Str), V.ref r) :: [(("_above" : Str), V.ref d0)] else _) = _
        rw [if_pos rfl]
        rfl
      rw [e1]
      show (if ("_rows" : Str) = "_above" then _ else (("_rows" : Str), V.ref r) :: (if ("_above" : Str) = "_above" then [(("_above" : Str), V.ref d)] else _)) = _
      rw [if_neg ra, if_pos rfl]
      rfl
theorem fs_limit {fs : List (Str × V)} (h : FsOk fs) : fs.lookup ("LIMIT" : Str) = none ∧ fs.length < 1000 := by
  rcases h with e | ⟨r, d, e⟩
  · subst e
    exact ⟨rfl, by decide⟩
  · subst e
    exact ⟨kf_no _ _ (by decide +kernel) (by decide +kernel), by show 2 < 1000; decide⟩
def RowIn (N : Addr → Prop) (H : Hp) (v : V) (l : Ln) : Prop := ∃ t b, v = .ref t ∧ N t ∧ N b ∧ H t = some (.tup [.str l.1, .ref b]) ∧ H b = some (.lst (l.2.map V.str))
theorem RowIn.row {N : Addr → Prop} {H : Hp} {v : V} {l : Ln} (h : RowIn N H v l) : RowAt H v l := by
  obtain ⟨t, b, e, _, _, h1, h2⟩ := h
  exact ⟨t, b, e, h1, .inl h2⟩
/-- the same rows with their bases in order -/
def SrtRel (l l' : Ln) : Prop := l.1 = l'.1 ∧ l'.2.Perm l.2 ∧ sortedS l'.2 = true
def SrtOf (ls ls' : List Ln) : Prop := Paired SrtRel ls ls'
theorem SrtOf.alike {ls ls' : List Ln} (h : SrtOf ls ls') : Alike ls ls' := paired_imp (fun _ _ a => ⟨a.1, fun b => (a.2.1.mem_iff (a := b)).symm⟩) h
theorem SrtOf.ok {ls ls' : List Ln} (h : SrtOf ls ls') (ok : LnsOk ls) : LnsOk ls' := by
  have en := h.alike.nms
  refine ⟨fun l' hl' => ?_, by rw [← en]; exact ok.nd, by rw [← paired_len h]; exact ok.few, fun i l' hl' => ?_⟩
  · obtain ⟨i, hi⟩ := List.mem_iff_getElem?.mp hl'
    obtain ⟨l, hl, a⟩ := paired_at' h hi
    rw [← a.1]
    exact ok.names l (List.mem_of_getElem? hl)
  · obtain ⟨l, hl, a1, a2, a3⟩ := paired_at' h hl'
    obtain ⟨b1, b2, b3⟩ := ok.base i l hl
    refine ⟨a2.nodup_iff.mpr b1, fun b hb => ?_, by rw [a2.length_eq]; exact b3⟩
    have q := b2 b (a2.mem_iff.mp hb)
    rw [show nms (ls'.take i) = (nms ls').take i from List.map_take .., ← en, ← List.map_take]
    exact q
theorem SrtOf.one {ls l1 l2 : List Ln} (h1 : SrtOf ls l1) (h2 : SrtOf ls l2) : l1 = l2 := by
  refine List.ext_getElem? fun i => ?_
  cases e : l1[i]? with
  | none =>
    have q := List.getElem?_eq_none_iff.mp e
    rw [List.getElem?_eq_none_iff.mpr (by rw [← paired_len h2, paired_len h1]; exact q)]
  | some a =>
    obtain ⟨l, hl, a1, a2, a3⟩ := paired_at' h1 e
    obtain ⟨b, hb, b1, b2, b3⟩ := paired_at h2 hl
    have e2 : a.2 = b.2 := sorted_one (a2.trans b2.symm) a3 b3
    have e3 : a = b := by
      cases a
      cases b
      simp only at e2 a1 b1
      rw [e2, ← a1, ← b1]
    rw [hb, e3]
def KObj (N : Addr → Prop) (C : Addr) (H : Hp) (x dx : Addr) (ls : List Ln) : Prop :=
  ∃ r d ls' T rs, H x = some (.ins C dx (kf r d)) ∧ N r ∧ H r = some (.lst rs) ∧ Paired (RowIn N H) rs ls' ∧ SrtOf ls ls' ∧ DictAt N H d T ∧ Tab Srt ls' T
theorem KObj.keep {N : Addr → Prop} {C : Addr} {H H' : Hp} {x dx : Addr} {ls : List Ln} (h : KObj N C H x dx ls) (k : ∀ a o, N a ∨ a = x → H a = some o → H' a = some o) : KObj N C H' x dx ls := by
  obtain ⟨r, d, ls', T, rs, hx, nr, hr, pr, so, ⟨nd, kvs, hd, pk⟩, tab⟩ := h
  refine ⟨r, d, ls', T, rs, k _ _ (.inr rfl) hx, nr, k _ _ (.inl nr) hr, paired_imp (fun _ _ ⟨t, b, e, nt, nb, h1, h2⟩ => ⟨t, b, e, nt, nb, k _ _ (.inl nt) h1, k _ _ (.inl nb) h2⟩) pr, so, ⟨nd, kvs, k _ _ (.inl nd) hd, ?_⟩, tab⟩
  exact paired_imp (fun _ _ ⟨a, q, nq, c, z⟩ => ⟨a, q, nq, c, k _ _ (.inl nq) z⟩) pk
theorem KObj.mono {N N' : Addr → Prop} {C : Addr} {H : Hp} {x dx : Addr} {ls : List Ln} (h : KObj N C H x dx ls) (k : ∀ a, N a → N' a) : KObj N' C H x dx ls := by
  obtain ⟨r, d, ls', T, rs, hx, nr, hr, pr, so, ⟨nd, kvs, hd, pk⟩, tab⟩ := h
  exact ⟨r, d, ls', T, rs, hx, k _ nr, hr, paired_imp (fun _ _ ⟨t, b, e, nt, nb, h1, h2⟩ => ⟨t, b, e, k _ nt, k _ nb, h1, h2⟩) pr, so, ⟨k _ nd, kvs, hd, paired_imp (fun _ _ ⟨a, q, nq, c, z⟩ => ⟨a, q, k _ nq, c, z⟩) pk⟩, tab⟩
/-- a table at x, its parts among N -/
def KAt (N : Addr → Prop) (C : Addr) (H : Hp) (x : Addr) (ls : List Ln) : Prop := N x ∧ ∃ dx, KObj N C H x dx ls
theorem KAt.same {N : Addr → Prop} {C : Addr} {H H' : Hp} {x : Addr} {ls : List Ln} (h : KAt N C H x ls) (k : ∀ a o, N a → H a = some o → H' a = some o) : KAt N C H' x ls := by
  obtain ⟨nx, dx, o⟩ := h
  exact ⟨nx, dx, o.keep fun a u e => k a u (e.elim id fun z => z ▸ nx)⟩
theorem q_seq {t u : TS} {D : Ends} {σ : L2.St} {H : Hp} (h : t { D with nx := u D } σ H) : tSeq t u D σ H := h
theorem q_fld {K : PySem.W.Frag} {ta tv : TE} {f : Str} {D : Ends} {σ : L2.St} {H : Hp} (h : tv σ H fun y H1 => ta σ H1 fun x H2 => ∃ a C dx fs, x = .ref a ∧ H2 a = some (.ins C dx fs) ∧ Cls K C ∧ NoAttr K C f ∧ fs.length < 1000 ∧ D.nx σ (upd H2 a (.ins C dx (putF f y fs)))) : sFld K ta tv f D σ H := h
structure KTxt (K : PySem.W.Frag) (mg : Str → Option Value) (C : Addr) : Prop where
  cl : Cls K C
  nR : NoAttr K C "_rows"
  nA : NoAttr K C "_above"
  lim : ∃ u, Con K C "LIMIT" (.int 7) u
  mgC : mg "Kinds" = some (.ref C)
  len : mg "len" = none
  sorted : mg "sorted" = none
  list : mg "list" = none
def spTake (C : Addr) : Sp := fun vs H Q _ => ∃ x a dx fs ls, vs = [.ref x, .ref a] ∧ H x = some (.ins C dx fs) ∧ FsOk fs ∧ RowsAt H a ls ∧ LnsOk ls ∧ ∀ H', (∀ b o, b ≠ x → H b = some o → H' b = some o) → KObj (fun p => H p = none) C H' x dx ls → Q .non H'
section
variable {P : Program} {w : World} {K : PySem.W.Frag} {mg : Str → Option Value} {base : Heap}
theorem scTake : FnScope ["self", "rows", "name", "bases"] ["self", "rows"] (defScope sTake) := ⟨rfl, rfl, rfl, by decide +kernel, rfl, by decide +kernel, by decide +kernel⟩
theorem ok_take {C f fN fB fA : Addr} {fd dN dB dA : FuncData} (F : Fun K "_take" "Kinds._take" sTake f fd) (T : KTxt K mg C)
    (GN : FnOk P w K mg base CX0 2 fN dN ["rows"] spCkNames) (kN : PySem.W.keepIn K (.ref fN) = true) (bN : Binds K dN ["rows"] []) (mN : mg "_check_names" = some (.ref fN))
    (GB : FnOk P w K mg base CX0 2 fB dB ["rows"] spCkNames) (kB : PySem.W.keepIn K (.ref fB) = true) (bB : Binds K dB ["rows"] []) (mB : mg "_check_bases" = some (.ref fB))
    (GA : FnOk P w K mg base CX0 1 fA dA ["rows"] spAllAbove) (kA : PySem.W.keepIn K (.ref fA) = true) (bA : Binds K dA ["rows"] []) (mA : mg "_all_above" = some (.ref fA)) : FnOk P w K mg base CX0 3 f fd ["self", "rows"] (spTake C) := by
  refine F.ok scTake (fun vs H Q E h => ?_) (fun cdv A outer s H vs Q E hr h => ?_)
  · obtain ⟨x, a, dx, fs, ls, rfl, _⟩ := h
    rfl
  · obtain ⟨x, a, dx, fs, ls, rfl, hx, fo, ⟨rs, hs, pr⟩, ok, k⟩ := h
    have hr1 : Room 1 _ := hr.mono (by decide)
    obtain ⟨uL, cL⟩ := T.lim
    refine ⟨_, pss_cons (ps_if (pt_cmpR op_gt (pe_callB call_len_seq (by rfl) T.len PySem.boot_len (pa_cons (pv 1) pa_nil)) (pe_con (pv 0) rfl) (nomark _)) (pss_one ps_never) pss_nil)
      (pss_cons (ps_expr (pe_call GN hr (by rfl) mN kN bN .nil pass0 (pa_cons (pv 1) pa_nil)))
      (pss_cons (ps_expr (pe_call GB hr (by rfl) mB kB bB .nil pass0 (pa_cons (pv 1) pa_nil)))
      (pss_cons (ps_fld (pv 0) (pe_lc (own := [("name", 2), ("bases", 3)]) (g := gTup K 2 (gCons (gName 2) (gCons (gName 3) gNil))) (tt := tYes) rfl scTake.nd (pi_seq 1) (blkOk_by (N := ["self", "rows", "name", "bases"]) (sc := defScope sTake) (by decide +kernel))
          (fun _ _ _ _ _ => pg_tup rfl (pgs_cons (pg_name (i := 2) scTake.nd rfl (Or.inl rfl)) (pgs_cons (pg_name (i := 3) scTake.nd rfl (Or.inl rfl)) pgs_nil))) (fun _ _ _ _ _ => pts_nil)
          (fun _ _ _ _ _ => pe_tup (pa_cons (pv 2) (pa_cons (pe_callB cr_sortedQ (by rfl) T.sorted (by decide +kernel) (pa_cons (pv 3) pa_nil)) pa_nil)))) rfl)
      (pss_one (ps_fld (pv 0) (pe_call GA hr1 (by rfl) mA kA bA .nil pass0 (pa_cons (pe_fld (pv 0) rfl) pa_nil)) rfl))))), ?_⟩
    have few := ok.few
    have hl := paired_len pr
    refine ⟨_, rfl, a, rs, rfl, hs.lt, _, rfl, x, C, dx, fs, .int 7, uL, rfl, hx, T.cl, cL, (fs_limit fo).1, _, _, rfl, rfl, _, rfl, iteFD (by omega) ?_⟩
    refine ⟨_, rfl, a, ls, rfl, ⟨rs, hs, pr⟩, ok, fun H1 s1 => ?_⟩
    refine ⟨_, rfl, a, ls, rfl, RowsAt.same s1 ⟨rs, hs, pr⟩, ok, fun H2 s2 => ?_⟩
    have s12 := s1.trans s2
    have pr2 : Paired (RowAt H2) rs ls := paired_imp (fun _ _ => RowAt.same s12) pr
    dsimp only
    refine q_seq (q_fld ?_)
    refine lc_seq (a := a) (xs := rs) (by rfl) (hs.same s12) (fun D i H' => Same H2 H' ∧ ∃ vs' ls', H' D = some (.lst vs') ∧ Paired (RowIn (fun p => H p = none ∧ p ≠ D) H') vs' ls' ∧ SrtOf (ls.take i) ls') (fun D nD => ⟨same_upd nD, [], [], upd_same, .nil, .nil⟩) (fun D i H' nD hi p => p.1 _) ?_ ?_
    · rintro D i v H' nD hv ⟨sm, vs', ls', hD, pk, so⟩
      obtain ⟨l, hl2, t, b, rfl, ht, hb⟩ := paired_at pr2 hv
      have hi : i < ls.length := (List.getElem?_eq_some_iff.mp hl2).1
      obtain ⟨b1, b2, b3⟩ := ok.base i l hl2
      refine ⟨t, _, rfl, SqT.of (sm _ _ ht), rfl, _, _, rfl, _, _, rfl, rfl, rfl, ?_⟩
      refine ⟨_, rfl, _, rfl, b, l.2, rfl, hb.same sm, (by omega), fun ys q pe sy nq => ?_⟩
      refine ⟨(by show 2 ≤ sizeLine; decide), fun p np => ?_⟩
      have e1 : Same H' (upd H' q (.lst (ys.map V.str))) := same_upd nq
      have e2 : Same (upd H' q (.lst (ys.map V.str))) (upd (upd H' q (.lst (ys.map V.str))) p (.tup [.str l.1, .ref q])) := same_upd np
      have hD2 := e2 _ _ (e1 _ _ hD)
      have lv : vs'.length ≤ 7 := by
        rw [paired_len pk, ← paired_len so, List.length_take]
        omega
      have nqH : H q = none := (s12.trans sm).free nq
      have npH : H p = none := (s12.trans sm).free (e1.free np)
      have nDq : D ≠ q := ne_of_none hD nq
      have nDp : D ≠ p := ne_of_none (e1 _ _ hD) np
      have e3 : ∀ a u, a ≠ D → H' a = some u → (upd (upd (upd H' q (.lst (ys.map V.str))) p (.tup [.str l.1, .ref q])) D (.lst (vs' ++ [V.ref p]))) a = some u := fun a u ne e => by
        rw [upd_ne ne]
        exact e2 _ _ (e1 _ _ e)
      refine ⟨_, hD2, small1000 (by omega), fun a u e => e3 a u (ne_of_none e nD) (sm _ _ e), vs' ++ [V.ref p], ls' ++ [(l.1, ys)], upd_same, ?_, ?_⟩
      · refine Paired.snoc (paired_imp (fun v l ⟨t', b', e, nt, nb, g1, g2⟩ => ⟨t', b', e, nt, nb, e3 _ _ nt.2 g1, e3 _ _ nb.2 g2⟩) pk) ⟨p, q, rfl, ⟨npH, nDp.symm⟩, ⟨nqH, nDq.symm⟩, ?_, ?_⟩
        · rw [upd_ne nDp.symm, upd_same]
        · rw [upd_ne nDq.symm]
          exact e2 _ _ upd_same
      · rw [List.take_add_one, hl2]
        exact Paired.snoc so ⟨rfl, pe, sy⟩
    · rintro D H' nD ⟨sm, vs', ls', hD, pk, so⟩
      rw [hl, List.take_of_length_le (Nat.le_refl _)] at so
      have nDH : H D = none := s12.free nD
      have hx2 : H' x = some (.ins C dx fs) := sm _ _ (s12 _ _ hx)
      obtain ⟨p1, p2, p3⟩ := put_rows fo D
      refine ⟨_, rfl, x, C, dx, fs, rfl, hx2, T.cl, T.nR, (fs_limit fo).2, ?_⟩
      have e1 : ∀ a u, a ≠ x → H' a = some u → (upd H' x (.ins C dx (putF "_rows" (.ref D) fs))) a = some u := fun a u ne e => by
        rw [upd_ne ne]
        exact e
      have nxa : ∀ {a : Addr} {u : HO}, H' a = some u → u ≠ .ins C dx fs → a ≠ x := fun e d => ne_of e hx2 d
      have pk1 : Paired (RowIn (fun p => H p = none) (upd H' x (.ins C dx (putF "_rows" (.ref D) fs)))) vs' ls' :=
        paired_imp (fun v l ⟨t', b', e, nt, nb, g1, g2⟩ => ⟨t', b', e, nt.1, nb.1, e1 _ _ (nxa g1 (by intro z; cases z)) g1, e1 _ _ (nxa g2 (by intro z; cases z)) g2⟩) pk
      have hD1 := e1 _ _ (nxa hD (by intro z; cases z)) hD
      refine ⟨_, rfl, x, C, dx, _, _, rfl, upd_same, T.cl, T.nR, p1, D, ls', rfl, ⟨vs', .inl hD1, paired_imp (fun _ _ => RowIn.row) pk1⟩, so.ok ok, fun H3 d TT s3 dT tab => ?_⟩
      have hx3 := s3 _ _ (upd_same (H := H') (a := x) (o := .ins C dx (putF "_rows" (.ref D) fs)))
      refine ⟨_, rfl, x, C, dx, _, rfl, hx3, T.cl, T.nA, p2, ?_⟩
      rw [p3 d]
      have e2 : ∀ a u, a ≠ x → H3 a = some u → (upd H3 x (.ins C dx (kf D d))) a = some u := fun a u ne e => by
        rw [upd_ne ne]
        exact e
      have nxb : ∀ {a : Addr} {u : HO}, H3 a = some u → u ≠ .ins C dx (putF "_rows" (.ref D) fs) → a ≠ x := fun e d => ne_of e hx3 d
      have back : ∀ a, (upd H' x (.ins C dx (putF "_rows" (.ref D) fs))) a = none → H a = none := fun a e => by
        by_cases c : a = x
        · rw [c, upd_same] at e
          cases e
        · rw [upd_ne c] at e
          exact (s12.trans sm).free e
      refine k _ (fun a u ne e => e2 a u ne (s3 _ _ (e1 a u ne (sm _ _ (s12 _ _ e))))) ⟨D, d, ls', TT, vs', upd_same, nDH, e2 _ _ (nxb (s3 _ _ hD1) (by intro z; cases z)) (s3 _ _ hD1), ?_, so, ?_, tab⟩
      · exact paired_imp (fun v l ⟨t', b', e, nt, nb, g1, g2⟩ => ⟨t', b', e, nt, nb, e2 _ _ (nxb (s3 _ _ g1) (by intro z; cases z)) (s3 _ _ g1), e2 _ _ (nxb (s3 _ _ g2) (by intro z; cases z)) (s3 _ _ g2)⟩) pk1
      · obtain ⟨n1, kvs, n2, n3⟩ := dT
        exact ⟨back _ n1, kvs, e2 _ _ (nxb n2 (by intro z; cases z)) n2, paired_imp (fun kv t ⟨a1, a2, a3, a4, a5⟩ => ⟨a1, a2, back _ a3, a4, e2 _ _ (nxb a5 (by intro z; cases z)) a5⟩) n3⟩
end
end K1

namespace K1
open PySem PySem.Spec PyProof.Rows L2 Own
/-! ### making tables -/
def k4 : List Str := ["io", "net", "disk", "both"]
def k6 : List Str := ["rows", "kinds", "name", "names", "of", "tree"]
def k1a : List Str := ["a"]
def BasAt (H : Hp) (v : V) (l : Ln) : Prop := ∃ b, v = .ref b ∧ SeqOf H b (l.2.map V.str)
def spInit (C : Addr) : SpK := fun x ks vs H Q => ∃ dx ls, H x = some (.ins C dx []) ∧ nms ls = ks ∧ Paired (BasAt H) vs ls ∧ LnsOk ls ∧ (ks = [] ∨ ks = k4 ∨ ks = k6 ∨ ks = k1a) ∧ ∀ H', (∀ b o, b ≠ x → H b = some o → H' b = some o) → KObj (fun p => H p = none) C H' x dx ls → Q .non H'
theorem rows_of {H' : Hp} : ∀ {ts : List Addr} {vs : List V} {ls : List Ln}, Paired (fun (t : Addr) (q : Key × V) => H' t = some (.tup [kV q.1, q.2])) ts (keyed ((nms ls).zip vs)) → Paired (BasAt H') vs ls → Paired (RowAt H') (ts.map V.ref) ls
  | [], _, [], _, _ => .nil
  | [], _, _ :: _, p, .cons _ _ => nomatch p
  | _ :: _, _, [], p, .nil => nomatch p
  | t :: ts, v :: vs, l :: ls, .cons a r, .cons ⟨b, e, hb⟩ s => .cons ⟨t, b, rfl, by rw [← e]; exact a, hb⟩ (rows_of r s)
def spOf (C : Addr) : Sp := fun vs H Q _ => ∃ a ls, vs = [.ref C, .ref a] ∧ RowsAt H a ls ∧ LnsOk ls ∧ ∀ H' x, Same H H' → KAt (fun p => H p = none) C H' x ls → Q (.ref x) H'
theorem lnsOk_nil : LnsOk [] := ⟨fun _ h => (nomatch h), List.nodup_nil, Nat.zero_le _, fun i l h => by simp at h⟩
section
variable {P : Program} {w : World} {K : PySem.W.Frag} {mg : Str → Option Value} {base : Heap}
theorem scInit : FnScope ["self", "bases"] ["self", "bases"] (defScope sInit) := ⟨rfl, rfl, rfl, by decide +kernel, rfl, by decide +kernel, by decide +kernel⟩
theorem ok_init {C f fT : Addr} {fd dT : FuncData} (F : Fun K "__init__" "Kinds.__init__" sInit f fd) (T : KTxt K mg C) (GT : FnOk P w K mg base CX0 3 fT dT ["self", "rows"] (spTake C)) (mT : Meth K C "_take" fT) (bT : Binds K dT ["self", "rows"] []) : FnKw P w K mg base 4 f (spInit C) := by
  obtain ⟨oc, od, kV, doc, pm, an, cdv, ct, osl, rfl, lk, hcd⟩ := F.ex
  refine fn_kw lk hcd scInit (fun x ks vs H Q h => ?_) (fun x ks vs H Q ws h hl => ?_) (fun A outer s H x d ks vs Q E hr h hd => ?_)
  · obtain ⟨dx, ls, _, e, _, ok, _⟩ := h
    subst e
    have := ok.few
    exact ⟨ok.nd, by rw [List.length_map]; omega⟩
  · obtain ⟨dx, ls, _, e, _, ok, he, _⟩ := h
    rcases he with he | he | he | he
    · subst he
      match ws, hl with
      | [], _ => rfl
    · subst he
      match ws, hl with
      | [a, b, c, d], _ => rfl
    · subst he
      match ws, hl with
      | [a, b, c, d, e, f], _ => rfl
    · subst he
      match ws, hl with
      | [a], _ => rfl
  · obtain ⟨dx, ls, hx, e, pb, ok, he, k⟩ := h
    subst e
    refine ⟨_, pss_one (ps_expr (pe_meth (pv 0) T.cl mT GT hr bT .nil pass0 (pa_cons (LiI.pe_listItems rfl (pv 1) (by rfl) T.list (by decide +kernel)) pa_nil))), ?_⟩
    have s1 : Same H (upd H d (.dK (keyed ((nms ls).zip vs)))) := same_upd hd
    refine ⟨_, rfl, x, dx, [], rfl, s1 _ _ hx, rfl, _, rfl, d, _, rfl, upd_same, fun H' p ts s2 np nts pn hp pt => ?_⟩
    have pb2 : Paired (BasAt H') vs ls := paired_imp (fun _ _ ⟨b, e, hb⟩ => ⟨b, e, (hb.same s1).same s2⟩) pb
    refine ⟨x, p, dx, [], ls, rfl, s2 _ _ (s1 _ _ hx), .inl rfl, ⟨_, .inl hp, rows_of pt pb2⟩, ok, fun H3 s3 ko => ?_⟩
    exact k _ (fun b o ne e => s3 b o ne (s2 _ _ (s1 _ _ e))) (ko.mono fun a e => s1.free (Same.free s2 e))
theorem scOf : FnScope ["cls", "rows", "made"] ["cls", "rows"] (defScope sOf) := ⟨rfl, rfl, rfl, by decide +kernel, rfl, by decide +kernel, by decide +kernel⟩
theorem ok_of {C f fT fI fR : Addr} {fd dT dR : FuncData} (F : Fun K "of" "Kinds.of" sOf f fd) (T : KTxt K mg C) (M : Mk K C fI) (GI : FnKw P w K mg base 4 fI (spInit C)) (GT : FnOk P w K mg base CX0 3 fT dT ["self", "rows"] (spTake C)) (mT : Meth K C "_take" fT) (bT : Binds K dT ["self", "rows"] [])
    (GR : FnOk P w K mg base CX0 2 fR dR ["thing"] spAreRows) (kR : PySem.W.keepIn K (.ref fR) = true) (bR : Binds K dR ["thing"] []) (mR : mg "_are_rows" = some (.ref fR)) : FnOk P w K mg base CX0 6 f fd ["cls", "rows"] (spOf C) := by
  refine F.ok scOf (fun vs H Q E h => ?_) (fun cdv A outer s H vs Q E hr h => ?_)
  · obtain ⟨a, ls, rfl, _⟩ := h
    rfl
  · obtain ⟨a, ls, rfl, ra, ok, k⟩ := h
    refine ⟨_, pss_cons (ps_if (pt_not (pt_val (pe_call GR (hr.mono (by decide)) (by rfl) mR kR bR .nil pass0 (pa_cons (pv 1) pa_nil)))) (pss_one ps_never) pss_nil)
      (pss_cons (ps_set (i := 2) scOf.nd rfl (Or.inl rfl) (pe_makeL (i := 0) M GI hr rfl (Or.inl rfl)))
      (pss_cons (ps_expr (pe_meth (pv 2) T.cl mT GT (hr.mono (by decide)) bT .nil pass0 (pa_cons (pv 1) pa_nil)))
      (pss_one (ps_ret (pv 2))))), ?_⟩
    have few := ok.few
    refine ⟨_, rfl, a, ls, rfl, ra, (by omega), fun H1 s1 => ⟨true, rfl, iteF ?_⟩⟩
    refine ⟨rfl, fun x dx nx ndx ne => ?_⟩
    have s2 : Same H1 (upd (upd H1 dx (.own x)) x (.ins C dx [])) := fun b o e => by
      rw [upd_ne (ne_of_none e nx), upd_ne (ne_of_none e ndx)]
      exact e
    refine ⟨dx, [], upd_same, rfl, .nil, lnsOk_nil, .inl rfl, fun H3 s3 ko => ⟨rfl, ?_⟩⟩
    obtain ⟨r, d, ls', TT, rs, hx3, _⟩ := ko
    have s13 : Same H1 H3 := fun b o e => s3 b o (ne_of_none e nx) (s2 _ _ e)
    refine ⟨_, rfl, x, dx, _, rfl, hx3, kf_no _ _ (by decide +kernel) (by decide +kernel), _, rfl, x, a, dx, _, ls, rfl, hx3, .inr ⟨_, _, rfl⟩, (ra.same s1).same s13, ok, fun H4 s4 ko => ?_⟩
    have s14 : Same H1 H4 := fun b o e => s4 b o (ne_of_none e nx) (s13 _ _ e)
    refine ⟨_, rfl, k _ x (s1.trans s14) ⟨s1.free nx, dx, ko.mono fun p e => s1.free (s13.free e)⟩⟩
end
end K1

namespace K1
open PySem PySem.Spec PyProof.Rows L2 Own
/-! ### reading tables -/
def reprOf (ns : List Str) : Str := (("Kinds(" : Str) ++ Txt.join ", " ns) ++ (")" : Str)
/-- what stands in a table's object -/
structure KIn (C : Addr) (H : Hp) (x : Addr) (ls ls' : List Ln) (T : Tb) : Prop where
  ex : ∃ dx r d rs kvs, H x = some (.ins C dx (kf r d)) ∧ H r = some (.lst rs) ∧ Paired (RowIn (fun _ => True) H) rs ls' ∧ H d = some (.dK kvs) ∧ Paired (EntAt (fun _ => True) H) kvs T
  srt : SrtOf ls ls'
  tab : Tab Srt ls' T
theorem KAt.kin {N : Addr → Prop} {C : Addr} {H : Hp} {x : Addr} {ls : List Ln} (h : KAt N C H x ls) : ∃ ls' T, KIn C H x ls ls' T := by
  obtain ⟨_, dx, r, d, ls', T, rs, hx, _, hr, pr, so, ⟨_, kvs, hd, pk⟩, tab⟩ := h
  exact ⟨ls', T, ⟨dx, r, d, rs, kvs, hx, hr, paired_imp (fun _ _ ⟨t, b, e, _, _, h1, h2⟩ => ⟨t, b, e, trivial, trivial, h1, h2⟩) pr, hd, paired_imp (fun _ _ ⟨a, q, _, c, z⟩ => ⟨a, q, trivial, c, z⟩) pk⟩, so, tab⟩
theorem KIn.same {C : Addr} {H H' : Hp} {x : Addr} {ls ls' : List Ln} {T : Tb} (h : KIn C H x ls ls' T) (s : Same H H') : KIn C H' x ls ls' T := by
  obtain ⟨⟨dx, r, d, rs, kvs, hx, hr, pr, hd, pk⟩, so, tab⟩ := h
  exact ⟨⟨dx, r, d, rs, kvs, s _ _ hx, s _ _ hr, paired_imp (fun _ _ ⟨t, b, e, _, _, h1, h2⟩ => ⟨t, b, e, trivial, trivial, s _ _ h1, s _ _ h2⟩) pr, s _ _ hd, paired_imp (fun _ _ ⟨a, q, _, c, z⟩ => ⟨a, q, trivial, c, s _ _ z⟩) pk⟩, so, tab⟩
theorem srt_len {ls ls' : List Ln} (h : SrtOf ls ls') : ls.length = ls'.length := paired_len h
def spOrder (C : Addr) : Sp := fun vs H Q _ => ∃ x ls ls' T, vs = [.ref x] ∧ KIn C H x ls ls' T ∧ ls.length ≤ 1000 ∧ ∀ H' p, Same H H' → H p = none → H' p = some (.lst ((nms ls).map V.str)) → Q (.ref p) H'
def spLen (C : Addr) : Sp := fun vs H Q _ => ∃ x ls ls' T, vs = [.ref x] ∧ KIn C H x ls ls' T ∧ Q (.int ls.length) H
def spIn (C : Addr) (K : PySem.W.Frag) : Sp := fun vs H Q _ => ∃ x v ls ls' T, vs = [.ref x, v] ∧ KIn C H x ls ls' T ∧ ((∃ z, v = .str z ∧ Q (.bl (decide (z ∈ nms ls))) H) ∨ (∃ t, TyX K H v t ∧ PySem.W.kitOne K t (.type "str") = some false ∧ Q (.bl false) H))
theorem ent_has {N : Addr → Prop} {H : Hp} {n : Str} {kvs : List (Key × V)} {T : Tb} (p : Paired (EntAt N H) kvs T) : (valV kvs (Sum.inr n)).isSome = decide (n ∈ T.map (·.1)) := by
  by_cases h : n ∈ T.map (·.1)
  · obtain ⟨q, _, e, _⟩ := ent_get p (look_in h)
    rw [e, decide_eq_true h]
    rfl
  · rw [ent_none p h, decide_eq_false h]
    rfl
theorem KIn.names {C : Addr} {H : Hp} {x : Addr} {ls ls' : List Ln} {T : Tb} (h : KIn C H x ls ls' T) : T.map (·.1) = nms ls := by
  rw [h.tab.nms, ← h.srt.alike.nms]
section
variable {P : Program} {w : World} {K : PySem.W.Frag} {mg : Str → Option Value} {base : Heap}
theorem scOrder : FnScope ["self", "name", "_"] ["self"] (defScope sOrder) := ⟨rfl, rfl, rfl, by decide +kernel, rfl, by decide +kernel, by decide +kernel⟩
theorem ok_order {C f : Addr} {fd : FuncData} (F : Fun K "order" "Kinds.order" sOrder f fd) (T : KTxt K mg C) : FnOk P w K mg base CX0 1 f fd ["self"] (spOrder C) := by
  refine F.ok scOrder (fun vs H Q E h => ?_) (fun cdv A outer s H vs Q E hr h => ?_)
  · obtain ⟨x, ls, ls', TT, rfl, _⟩ := h
    rfl
  · obtain ⟨x, ls, ls', TT, rfl, ⟨⟨dx, r, d, rs, kvs, hx, hR, pr, hd, pk⟩, so, tab⟩, hl, k⟩ := h
    refine ⟨_, pss_one (ps_ret (pe_lc (own := [("name", 1), ("_", 2)]) (g := gTup K 2 (gCons (gName 1) (gCons (gName 2) gNil))) (tt := tYes) rfl scOrder.nd (pi_list (pe_fld (pv 0) rfl)) (blkOk_by (N := ["self", "name", "_"]) (sc := defScope sOrder) (by decide +kernel))
      (fun _ _ _ _ _ => pg_tup rfl (pgs_cons (pg_name (i := 1) scOrder.nd rfl (Or.inl rfl)) (pgs_cons (pg_name (i := 2) scOrder.nd rfl (Or.inl rfl)) pgs_nil))) (fun _ _ _ _ _ => pts_nil) (fun _ _ _ _ _ => pv 1))), ?_⟩
    have len := paired_len pr
    have len2 := srt_len so
    refine ⟨_, rfl, x, C, dx, _, _, rfl, hx, T.cl, T.nR, kf_rows _ _, r, rfl, ⟨_, SqL.of hR⟩, fun D nD => lc_list (K := K) (a := r) (xs := rs) (fun i H' => Same H H' ∧ H' D = some (.lst ((nms (ls'.take i)).map V.str))) ⟨same_upd nD, upd_same⟩ (fun i H' hi p => SqL.of (p.1 _ _ hR)) ?_ ?_⟩
    · rintro i v H' hv ⟨sm, hD⟩
      obtain ⟨l, hl2, t, b, rfl, _, _, ht, hb⟩ := paired_at pr hv
      have hi : i < ls'.length := (List.getElem?_eq_some_iff.mp hl2).1
      refine ⟨t, _, rfl, SqT.of (sm _ _ ht), rfl, _, _, rfl, _, _, rfl, rfl, rfl, _, rfl, _, hD, ?_, ?_, ?_⟩
      · rw [List.length_map, List.length_map, List.length_take]
        exact small1000 (by omega)
      · exact same_past nD sm
      · show upd H' D _ D = _
        rw [upd_same, show nms (ls'.take (i + 1)) = nms (ls'.take i) ++ [l.1] from take_succ_map hl2, List.map_append]
        rfl
    · rintro H' ⟨sm, hD⟩
      rw [len, List.take_of_length_le (Nat.le_refl _), ← so.alike.nms] at hD
      exact k _ D sm nD hD
theorem scLen : FnScope ["self"] ["self"] (defScope sLen) := ⟨rfl, rfl, rfl, by decide +kernel, rfl, by decide +kernel, by decide +kernel⟩
theorem ok_len {C f : Addr} {fd : FuncData} (F : Fun K "__len__" "Kinds.__len__" sLen f fd) (T : KTxt K mg C) : FnOk P w K mg base CX0 1 f fd ["self"] (spLen C) := by
  refine F.ok scLen (fun vs H Q E h => ?_) (fun cdv A outer s H vs Q E hr h => ?_)
  · obtain ⟨x, ls, ls', TT, rfl, _⟩ := h
    rfl
  · obtain ⟨x, ls, ls', TT, rfl, ⟨⟨dx, r, d, rs, kvs, hx, hR, pr, hd, pk⟩, so, tab⟩, k⟩ := h
    refine ⟨_, pss_one (ps_ret (pe_callB call_len_seq (by rfl) T.len PySem.boot_len (pa_cons (pe_fld (pv 0) rfl) pa_nil))), ?_⟩
    refine ⟨_, rfl, x, C, dx, _, _, rfl, hx, T.cl, T.nR, kf_rows _ _, r, _, rfl, .inl (SqL.of hR), ?_⟩
    rw [paired_len pr, ← srt_len so]
    exact k
theorem scIn : FnScope ["self", "x"] ["self", "x"] (defScope sIn) := ⟨rfl, rfl, rfl, by decide +kernel, rfl, by decide +kernel, by decide +kernel⟩
theorem ok_in {C f : Addr} {fd : FuncData} (F : Fun K "__contains__" "Kinds.__contains__" sIn f fd) (T : KTxt K mg C) (mi : mg "isinstance" = none) (ms : mg "str" = none) : FnOk P w K mg base CX0 1 f fd ["self", "x"] (spIn C K) := by
  refine F.ok scIn (fun vs H Q E h => ?_) (fun cdv A outer s H vs Q E hr h => ?_)
  · obtain ⟨x, v, ls, ls', TT, rfl, _⟩ := h
    rfl
  · obtain ⟨x, v, ls, ls', TT, rfl, kin, k⟩ := h
    have en := kin.names
    obtain ⟨⟨dx, r, d, rs, kvs, hx, hR, pr, hd, pk⟩, so, tab⟩ := kin
    have hu := hu_of hr
    refine ⟨_, pss_one (ps_ret (pe_and (pe_callB call_isi (by rfl) mi (by decide +kernel) (pa_cons (pv 1) (pa_cons (pe_bltn (v := .ty "str") (u := .type "str") (by rfl) ms (by decide +kernel) rfl) pa_nil)))
      (pe_one (pe_cmp (pc_din hu (pv 1) (pe_fld (pv 0) rfl)) rfl)))), ?_⟩
    rcases k with ⟨z, rfl, k⟩ | ⟨t, ty, kt, k⟩
    · refine ⟨_, rfl, _, _, _, _, true, rfl, .ty "str", .base (.str z), kit_ty (by decide +kernel), true, rfl, iteT ?_⟩
      refine ⟨_, rfl, _, rfl, x, C, dx, _, _, rfl, hx, T.cl, T.nA, kf_above _ _, d, _, rfl, DGet.k (k := Sum.inr z) hd, ?_⟩
      rw [ent_has pk, en]
      exact k
    · exact ⟨_, rfl, _, _, _, _, false, rfl, .ty "str", ty, kt, false, rfl, iteF k⟩
end
end K1

namespace K1
open PySem PySem.Spec PyProof.Rows L2 Own
def spBelow (C : Addr) : Sp := fun vs H Q _ => ∃ x n ls ls' T, vs = [.ref x, .str n] ∧ KIn C H x ls ls' T ∧ LnsOk ls ∧ n ∈ nms ls ∧ ∀ H' p ys, Same H H' → ys.Perm ((nms ls).filter fun m => decide (n ∈ look T m)) → Srt ys → H p = none → H' p = some (.lst (ys.map V.str)) → Q (.ref p) H'
def spAbove (C : Addr) : Sp := fun vs H Q _ => ∃ x n ls ls' T, vs = [.ref x, .str n] ∧ KIn C H x ls ls' T ∧ n ∈ nms ls ∧ ∀ H' p, Same H H' → H p = none → H' p = some (.lst ((look T n).map V.str)) → Q (.ref p) H'
def spEq (C : Addr) : Sp := fun vs H Q _ => ∃ x y l1 l2 l' T T', vs = [.ref x, .ref y] ∧ KIn C H x l1 l' T ∧ KIn C H y l2 l' T' ∧ LnsOk l1 ∧ Q (.bl true) H
structure Ord (K : PySem.W.Frag) (mg : Str → Option Value) (C : Addr) (p g : Addr) : Prop where
  of : PropOf K C "order" p g
theorem filter_len (f : Str → Bool) (xs : List Str) : (xs.filter f).length ≤ xs.length := List.length_filter_le f xs
section
variable {P : Program} {w : World} {K : PySem.W.Frag} {mg : Str → Option Value} {base : Heap}
theorem scBelow : FnScope ["self", "name", "kind"] ["self", "name"] (defScope sBelow) := ⟨rfl, rfl, rfl, by decide +kernel, rfl, by decide +kernel, by decide +kernel⟩
theorem ok_below {C f fI p fO : Addr} {fd dI dO : FuncData} (F : Fun K "below" "Kinds.below" sBelow f fd) (T : KTxt K mg C) (cI : Spc K C "__contains__" fI) (GI : FnOk P w K mg base CX0 1 fI dI ["self", "x"] (spIn C K)) (bI : Binds K dI ["self", "x"] [])
    (po : PropOf K C "order" p fO) (GO : FnOk P w K mg base CX0 1 fO dO ["self"] (spOrder C)) (bO : Binds K dO ["self"] []) : FnOk P w K mg base CX0 3 f fd ["self", "name"] (spBelow C) := by
  refine F.ok scBelow (fun vs H Q E h => ?_) (fun cdv A outer s H vs Q E hr h => ?_)
  · obtain ⟨x, n, ls, ls', TT, rfl, _⟩ := h
    rfl
  · obtain ⟨x, n, ls, ls', TT, rfl, kin, ok, hn, k⟩ := h
    have hu := hu_of hr
    have en := kin.names
    have few := ok.few
    obtain ⟨dx, r, d, rs, kvs, hx, hR, pr, hd, pk⟩ := kin.ex
    refine ⟨_, pss_cons (ps_if (pt_cmpR (op_notInO cI GI (hr.mono (by decide)) bI) (pv 1) (pv 0) (by rfl)) (pss_one ps_never) pss_nil)
      (pss_one (ps_ret (pe_callB cr_sortedQ (by rfl) T.sorted (by decide +kernel) (pa_cons (pe_lc (own := [("kind", 2)]) (g := gName 2) (tt := tTest (tOp (rIn K false) (tVar 1) (tDGet (tFld K (tVar 0) "_above") (tVar 2)))) rfl scBelow.nd (pi_list (pe_prop (pv 0) T.cl po GO hr bO .nil pass0 rfl)) (blkOk_by (N := ["self", "name", "kind"]) (sc := defScope sBelow) (by decide +kernel))
        (fun _ _ _ _ _ => pg_name (i := 2) scBelow.nd rfl (Or.inl rfl)) (fun _ _ _ _ _ => pts_one (pt_cmpR op_in_seq (pv 1) (pe_dget hu (pe_fld (pv 0) rfl) (pv 2) (fun _ _ => rfl)) (by rfl))) (fun _ _ _ _ _ => pv 2)) pa_nil)))), ?_⟩
    refine ⟨_, rfl, _, rfl, x, dx, _, rfl, hx, x, _, ls, ls', TT, rfl, kin, .inl ⟨n, rfl, _, rfl, _, rfl, iteNS hn ?_⟩⟩
    refine ⟨_, rfl, x, dx, _, rfl, hx, x, ls, ls', TT, rfl, kin, (by omega), fun H1 o s1 no ho => ⟨o, rfl, ⟨_, SqL.of ho⟩, fun D nD => ?_⟩⟩
    refine lc_list (K := K) (a := o) (xs := (nms ls).map V.str) (fun i H' => Same H1 H' ∧ H' D = some (.lst ((((nms ls).take i).filter fun m => decide (n ∈ look TT m)).map V.str))) ⟨same_upd nD, upd_same⟩ (fun i H' hi p => SqL.of (p.1 _ _ ho)) ?_ ?_
    · rintro i v H' hv ⟨sm, hD⟩
      rw [List.getElem?_map] at hv
      obtain ⟨m, hm, rfl⟩ := Option.map_eq_some_iff.mp hv
      have sH : Same H H' := s1.trans sm
      have mT : m ∈ TT.map (·.1) := by
        rw [en]
        exact List.mem_of_getElem? hm
      obtain ⟨q, _, eq, hq⟩ := ent_get pk (look_in mT)
      have g : DGet H' d (.str m) (some (.ref q)) := by
        rw [← eq]
        exact DGet.k (k := Sum.inr m) (sH _ _ hd)
      refine ⟨rfl, _, rfl, _, rfl, x, C, dx, _, _, rfl, sH _ _ hx, T.cl, T.nA, kf_above _ _, _, rfl, d, _, rfl, g, q, _, rfl, .inl (SqL.of (sH _ _ hq)), rfl, flat_strs _, _, rfl, ?_⟩
      rw [show (if false = true then !inV (V.str n) ((look TT m).map V.str) else inV (V.str n) ((look TT m).map V.str)) = decide (n ∈ look TT m) from by
        rw [if_neg Bool.false_ne_true, inV_str]]
      have tk : (((nms ls).take (i + 1)).filter fun m => decide (n ∈ look TT m)) = (((nms ls).take i).filter fun m => decide (n ∈ look TT m)) ++ [m].filter fun m => decide (n ∈ look TT m) := by
        rw [List.take_add_one, hm, List.filter_append]
        rfl
      refine ite2 (fun c => ?_) (fun c => ?_)
      · refine ⟨_, rfl, _, hD, ?_, same_past nD sm, ?_⟩
        · have a := filter_len (fun m => decide (n ∈ look TT m)) ((nms ls).take i)
          rw [List.length_take, List.length_map] at a
          rw [List.length_map]
          exact small1000 (by omega)
        · show upd H' D _ D = _
          rw [upd_same, tk, List.filter_cons, if_pos c, List.map_append]
          rfl
      · refine ⟨sm, ?_⟩
        rw [tk, List.filter_cons, if_neg c, List.filter_nil, List.append_nil]
        exact hD
    · rintro H' ⟨sm, hD⟩
      rw [List.length_map, List.take_of_length_le (Nat.le_refl _)] at hD
      have a := filter_len (fun m => decide (n ∈ look TT m)) (nms ls)
      rw [List.length_map] at a
      refine ⟨D, _, rfl, .inl hD, (by omega), fun ys p pe so np => ?_⟩
      exact k _ p ys ((s1.trans sm).trans (same_upd np)) pe so ((s1.trans sm).free np) upd_same
theorem scAbove : FnScope ["self", "name"] ["self", "name"] (defScope sAbove) := ⟨rfl, rfl, rfl, by decide +kernel, rfl, by decide +kernel, by decide +kernel⟩
theorem ok_above {C f fI : Addr} {fd dI : FuncData} (F : Fun K "above" "Kinds.above" sAbove f fd) (T : KTxt K mg C) (cI : Spc K C "__contains__" fI) (GI : FnOk P w K mg base CX0 1 fI dI ["self", "x"] (spIn C K)) (bI : Binds K dI ["self", "x"] []) : FnOk P w K mg base CX0 3 f fd ["self", "name"] (spAbove C) := by
  refine F.ok scAbove (fun vs H Q E h => ?_) (fun cdv A outer s H vs Q E hr h => ?_)
  · obtain ⟨x, n, ls, ls', TT, rfl, _⟩ := h
    rfl
  · obtain ⟨x, n, ls, ls', TT, rfl, kin, hn, k⟩ := h
    have hu := hu_of hr
    have en := kin.names
    obtain ⟨dx, r, d, rs, kvs, hx, hR, pr, hd, pk⟩ := kin.ex
    refine ⟨_, pss_cons (ps_if (pt_cmpR (op_notInO cI GI (hr.mono (by decide)) bI) (pv 1) (pv 0) (by rfl)) (pss_one ps_never) pss_nil)
      (pss_one (ps_ret (pe_callTy call_list_of (by rfl) T.list (by decide +kernel) (pa_cons (pe_dget hu (pe_fld (pv 0) rfl) (pv 1) (fun _ _ => rfl)) pa_nil)))), ?_⟩
    refine ⟨_, rfl, _, rfl, x, dx, _, rfl, hx, x, _, ls, ls', TT, rfl, kin, .inl ⟨n, rfl, _, rfl, _, rfl, iteNS hn ?_⟩⟩
    have nT : n ∈ TT.map (·.1) := by rw [en]; exact hn
    obtain ⟨q, _, eq, hq⟩ := ent_get pk (look_in nT)
    have g : DGet H d (.str n) (some (.ref q)) := by
      rw [← eq]
      exact DGet.k (k := Sum.inr n) hd
    refine ⟨_, rfl, x, C, dx, _, _, rfl, hx, T.cl, T.nA, kf_above _ _, _, rfl, d, _, rfl, g, q, _, rfl, .inl (SqL.of hq), fun l nl => ?_⟩
    exact k _ l (same_upd nl) nl upd_same
end
end K1

namespace K1
open PySem PySem.Spec PyProof.Rows L2 Own
theorem join_le (sep : Str) : ∀ ys : List Str, (Str.join sep ys).length ≤ (ys.map (·.length)).sum + ys.length * sep.length
  | [] => Nat.zero_le _
  | [y] => by
    show y.length ≤ (y.length + 0) + 1 * sep.length
    omega
  | y :: z :: r => by
    have ih := join_le sep (z :: r)
    show (y ++ sep ++ Str.join sep (z :: r)).length ≤ _
    rw [Str.length_append, Str.length_append, List.map_cons, List.sum_cons, List.length_cons, Nat.succ_mul]
    omega
theorem txt_join (sep : Str) (ys : List Str) : Txt.join sep ys = Str.join sep ys := PySem.StrLaws.glued_eq_join sep ys
theorem names_sum : ∀ ns : List Str, (∀ n ∈ ns, n.length ≤ 8) → (ns.map (·.length)).sum ≤ 8 * ns.length
  | [], _ => Nat.le_refl _
  | n :: r, h => by
    have ih := names_sum r fun m hm => h m (List.mem_cons_of_mem _ hm)
    have h0 := h n (List.mem_cons_self ..)
    rw [List.map_cons, List.sum_cons, List.length_cons]
    omega
theorem LnsOk.short {ls : List Ln} (ok : LnsOk ls) : ∀ n ∈ nms ls, n.length ≤ 8 := fun n hn => by
  obtain ⟨l, hl, e⟩ := List.mem_map.mp hn
  rw [← e]
  exact (ok.names l hl).2.1
theorem join_fits {ls : List Ln} (ok : LnsOk ls) : ((nms ls).map (·.length)).sum + (nms ls).length * (", " : Str).length ≤ 1000 ∧ (Txt.join ", " (nms ls)).length ≤ 1000 := by
  have a := names_sum (nms ls) ok.short
  have b := join_le ", " (nms ls)
  have c := ok.few
  have d : (nms ls).length = ls.length := List.length_map _
  have e : (", " : Str).length = 2 := by decide +kernel
  rw [txt_join]
  rw [e] at b ⊢
  omega
def spRepr (C : Addr) : Sp := fun vs H Q _ => ∃ x ls ls' T, vs = [.ref x] ∧ KIn C H x ls ls' T ∧ LnsOk ls ∧ ∀ H', Same H H' → Q (.str (reprOf (nms ls))) H'
/-- rows as data -/
def rowD (l : Ln) : PyData := .tuple [.str l.1, .list (l.2.map .str)]
def rowsD (ls : List Ln) : PyData := .list (ls.map rowD)
def strsD (ss : List Str) : PyData := .list (ss.map .str)
def Low (z : Str) : Prop := PyData.strOk z = true
theorem strs_lay : ∀ ss : List Str, (∀ s ∈ ss, Low s) → PyData.canLayAll0 (ss.map .str) = true ∧ PyData.depthAll (ss.map .str) = 0
  | [], _ => ⟨rfl, rfl⟩
  | s :: r, h => by
    obtain ⟨a, b⟩ := strs_lay r fun x hx => h x (List.mem_cons_of_mem _ hx)
    have h0 : PyData.strOk s = true := h s (List.mem_cons_self ..)
    constructor
    · show (PyData.canLay0 (.str s) && PyData.canLayAll0 (r.map .str)) = true
      rw [a]
      show (PyData.strOk s && true) = true
      rw [h0]
      rfl
    · show max (PyData.depth (.str s)) (PyData.depthAll (r.map .str)) = 0
      rw [b]
      rfl
theorem strs_shaped {ss : List Str} (h : ∀ s ∈ ss, Low s) : SeqAt.shaped (strsD ss) = true := by
  obtain ⟨a, b⟩ := strs_lay ss h
  show (PyData.canLayAll0 (ss.map .str) && decide (PyData.depthAll (ss.map .str) + 1 ≤ 64)) = true
  rw [a, b]
  rfl
theorem rows_lay : ∀ ls : List Ln, (∀ l ∈ ls, Low l.1 ∧ ∀ s ∈ l.2, Low s) → PyData.canLayAll0 (ls.map rowD) = true ∧ PyData.depthAll (ls.map rowD) ≤ 2
  | [], _ => ⟨rfl, Nat.zero_le _⟩
  | l :: r, h => by
    obtain ⟨a, b⟩ := rows_lay r fun x hx => h x (List.mem_cons_of_mem _ hx)
    obtain ⟨h1, h2⟩ := h l (List.mem_cons_self ..)
    obtain ⟨c, d⟩ := strs_lay l.2 h2
    constructor
    · show (PyData.canLay0 (rowD l) && PyData.canLayAll0 (r.map rowD)) = true
      rw [a]
      show ((PyData.strOk l.1 && (PyData.canLayAll0 (l.2.map .str) && true)) && true) = true
      rw [c, show PyData.strOk l.1 = true from h1]
      rfl
    · show max (max 0 (max (PyData.depthAll (l.2.map .str) + 1) 0) + 1) (PyData.depthAll (r.map rowD)) ≤ 2
      rw [d]
      omega
theorem rows_shaped {ls : List Ln} (h : ∀ l ∈ ls, Low l.1 ∧ ∀ s ∈ l.2, Low s) : SeqAt.shaped (rowsD ls) = true := by
  obtain ⟨a, b⟩ := rows_lay ls h
  show (PyData.canLayAll0 (ls.map rowD) && decide (PyData.depthAll (ls.map rowD) + 1 ≤ 64)) = true
  rw [a, decide_eq_true (by omega)]
  rfl
theorem name_low {z : Str} (h : NameOk z) : Low z := by
  show z.cps.all (· < 0x110000) = true
  rw [← Array.all_toList, List.all_eq_true]
  intro c hc
  have := h.2.2 c hc
  exact decide_eq_true (by omega)
theorem LnsOk.low {ls : List Ln} (ok : LnsOk ls) : ∀ n ∈ nms ls, Low n := fun n hn => by
  obtain ⟨l, hl, e⟩ := List.mem_map.mp hn
  rw [← e]
  exact name_low (ok.names l hl)
theorem LnsOk.lows {ls : List Ln} (ok : LnsOk ls) : ∀ l ∈ ls, Low l.1 ∧ ∀ s ∈ l.2, Low s := fun l hl => by
  refine ⟨name_low (ok.names l hl), fun s hs => ?_⟩
  obtain ⟨i, hi⟩ := List.mem_iff_getElem?.mp hl
  have q := (ok.base i l hi).2.1 s hs
  obtain ⟨k, hk, e⟩ := List.mem_map.mp q
  exact ok.low s (List.mem_map.mpr ⟨k, List.mem_of_mem_take hk, e⟩)
theorem strs_dp {K : PySem.W.Frag} {H : Hp} : ∀ ss : List Str, DpAll K H (ss.map V.str) (ss.map PyData.str)
  | [] => .nil
  | s :: r => .cons (.str s) (strs_dp r)
theorem rows_dp {K : PySem.W.Frag} {N : Addr → Prop} {H : Hp} : ∀ {rs : List V} {ls : List Ln}, Paired (RowIn N H) rs ls → DpAll K H rs (ls.map rowD)
  | _, _, .nil => .nil
  | _, l :: _, .cons ⟨t, b, e, _, _, h1, h2⟩ r => .cons (by rw [e]; exact .tup (SqT.of h1) (.cons (.str _) (.cons (.lst (SqL.of h2) (strs_dp _)) .nil))) (rows_dp r)
section
variable {P : Program} {w : World} {K : PySem.W.Frag} {mg : Str → Option Value} {base : Heap}
theorem scRepr : FnScope ["self"] ["self"] (defScope sRepr) := ⟨rfl, rfl, rfl, by decide +kernel, rfl, by decide +kernel, by decide +kernel⟩
theorem ok_repr {C f p fO : Addr} {fd dO : FuncData} (F : Fun K "__repr__" "Kinds.__repr__" sRepr f fd) (T : KTxt K mg C) (po : PropOf K C "order" p fO) (GO : FnOk P w K mg base CX0 1 fO dO ["self"] (spOrder C)) (bO : Binds K dO ["self"] []) : FnOk P w K mg base CX0 3 f fd ["self"] (spRepr C) := by
  refine F.ok scRepr (fun vs H Q E h => ?_) (fun cdv A outer s H vs Q E hr h => ?_)
  · obtain ⟨x, ls, ls', TT, rfl, _⟩ := h
    rfl
  · obtain ⟨x, ls, ls', TT, rfl, kin, ok, k⟩ := h
    obtain ⟨dx, r, d, rs, kvs, hx, hR, pr, hd, pk⟩ := kin.ex
    obtain ⟨f1, f2⟩ := join_fits ok
    have few := ok.few
    have l6 : ("Kinds(" : Str).length = 6 := by decide +kernel
    have l1 : (")" : Str).length = 1 := by decide +kernel
    refine ⟨_, pss_one (ps_ret (pe_joined (PJ.cons pe_str (PJ.cons (pe_fmt (pe_join pe_str (pe_prop (pv 0) T.cl po GO hr bO .nil pass0 rfl))) (PJ.cons pe_str PJ.nil))))), ?_⟩
    refine ⟨_, rfl, ?_, ⟨_, rfl⟩, _, rfl, x, dx, _, rfl, hx, x, ls, ls', TT, rfl, kin, (by omega), fun H1 o s1 no ho => ⟨_, o, nms ls, rfl, rfl, .inl (SqL.of ho), (by omega), ?_⟩⟩
    · rw [Str.empty_append, l6]
      decide
    · refine .inl ⟨_, rfl, small1000 f2 |> Nat.le_of_lt, _, rfl, ?_, _, rfl, ?_, ?_⟩
      · rw [Str.empty_append, Str.length_append, l6]
        exact Nat.le_of_lt (Nat.lt_of_le_of_lt (show _ ≤ 1006 by omega) (by decide))
      · rw [Str.empty_append, Str.length_append, Str.length_append, l6, l1]
        exact Nat.le_of_lt (Nat.lt_of_le_of_lt (show _ ≤ 1007 by omega) (by decide))
      · rw [Str.empty_append]
        exact k _ s1
theorem scEq : FnScope ["self", "other"] ["self", "other"] (defScope sEq) := ⟨rfl, rfl, rfl, by decide +kernel, rfl, by decide +kernel, by decide +kernel⟩
theorem ok_eq {C f : Addr} {fd : FuncData} (F : Fun K "__eq__" "Kinds.__eq__" sEq f fd) (T : KTxt K mg C) (ic : C8.InsC K C) (mi : mg "isinstance" = none) : FnOk P w K mg base CX0 1 f fd ["self", "other"] (spEq C) := by
  refine F.ok scEq (fun vs H Q E h => ?_) (fun cdv A outer s H vs Q E hr h => ?_)
  · obtain ⟨x, y, l1, l2, l', TT, T', rfl, _⟩ := h
    rfl
  · obtain ⟨x, y, l1, l2, l', TT, T', rfl, kx, ky, ok, k⟩ := h
    have ok' := kx.srt.ok ok
    obtain ⟨dx, r, d, rs, kvs, hx, hR, pr, hd, pk⟩ := kx.ex
    obtain ⟨dy, r2, d2, rs2, kvs2, hy, hR2, pr2, hd2, pk2⟩ := ky.ex
    refine ⟨_, pss_one (ps_ret (pe_and (pe_callB (C8.call_isC ic) (by rfl) mi (by decide +kernel) (pa_cons (pv 1) (pa_cons (pe_glob (v := .ref C) (by rfl) T.mgC rfl) pa_nil)))
      (pe_one (pe_cmpR (op_eqD hr.units) (pe_fld (pv 0) rfl) (pe_fld (pv 1) rfl) (nomark _))))), ?_⟩
    refine ⟨_, rfl, y, dy, _, rfl, hy, true, rfl, iteT ?_⟩
    refine ⟨_, rfl, x, C, dx, _, _, rfl, hx, T.cl, T.nR, kf_rows _ _, _, rfl, y, C, dy, _, _, rfl, hy, T.cl, T.nR, kf_rows _ _, rowsD l', rowsD l', .lst (SqL.of hR) (rows_dp pr), .lst (SqL.of hR2) (rows_dp pr2), rows_shaped ok'.lows, rows_shaped ok'.lows, ?_⟩
    rw [SeqAt.eqv_refl _ (SeqAt.canLay_of_shaped (rows_shaped ok'.lows))]
    exact k
end
end K1

namespace K1
open PySem PySem.Spec PyProof.Rows L2
/-- source: from the script and a place, a new source -/
def spSource (K : PySem.W.Frag) : Sp := fun vs H Q _ => ∃ (a : Addr) (ns : List Int) (k : Int), vs = [.ref a, .int k] ∧ SqL K H a (ns.map V.int) ∧ ns.length ≤ 63 ∧ 0 ≤ k ∧ k < 1000 ∧ ∀ (p : Addr) (H' : Hp), Same H H' → H p = none → Src H' p → Q (.ref p) H'
theorem int_at {ns : List Int} {k : Int} (h0 : 0 ≤ k) (h : k < (ns.length : Int)) : ∃ v : Int, atI (ns.map V.int) k = some (.int v) := by
  have hk : k.toNat < ns.length := by omega
  have ek : k = ((k.toNat : Nat) : Int) := by omega
  have q : atI (ns.map V.int) ((k.toNat : Nat) : Int) = some (.int ns[k.toNat]) := atI_nat (by rw [List.getElem?_map, List.getElem?_eq_getElem hk] <;> rfl)
  rw [← ek] at q
  exact ⟨_, q⟩
theorem primes_at {i : Int} (h0 : 0 ≤ i) (h1 : i < 8) : ∃ p : Int, atI [V.int 2147483629, .int 2147483587, .int 2147483579, .int 2147483563, .int 2147483549, .int 2147483543, .int 2147483497, .int 2147483489] i = some (.int p) ∧ 0 < p ∧ p ≤ 2147483629 := by
  have c : i = 0 ∨ i = 1 ∨ i = 2 ∨ i = 3 ∨ i = 4 ∨ i = 5 ∨ i = 6 ∨ i = 7 := by omega
  rcases c with rfl | rfl | rfl | rfl | rfl | rfl | rfl | rfl
  all_goals exact ⟨_, rfl, by decide, by decide⟩
section
variable {P : Program} {w : World} {K : PySem.W.Frag} {mg : Str → Option Value} {base : Heap}
abbrev nSource : List Str := ["script", "at", "primes", "cell", "far", "mixed"]
theorem scSource : FnScope nSource ["script", "at"] (defScope sLawBag) := ⟨rfl, rfl, rfl, by decide +kernel, rfl, by decide +kernel, by decide +kernel⟩
theorem ok_source {f : Addr} {fd : FuncData} (F : Fun K "_law_bag" "_law_bag" sLawBag f fd) (ml : mg "len" = none) (ma : mg "abs" = none) : FnOk P w K mg base CX0 1 f fd ["script", "at"] (spSource K) := by
  refine F.ok scSource (fun vs H Q E h => ?_) (fun cdv A outer s H vs Q E hr h => ?_)
  · obtain ⟨a, ns, k, rfl, _⟩ := h
    rfl
  · obtain ⟨a, ns, k, rfl, hS, h63, k0, k1, q⟩ := h
    have hl : (ns.map V.int).length = ns.length := List.length_map _
    refine ⟨_, pss_cons (ps_set (i := 2) scSource.nd rfl (Or.inl rfl) (pe_tup (pa_cons pe_int (pa_cons pe_int (pa_cons pe_int (pa_cons pe_int (pa_cons pe_int (pa_cons pe_int (pa_cons pe_int (pa_cons pe_int pa_nil))))))))))
      (C8.pss_cut (ps_set (i := 3) scSource.nd rfl (Or.inl rfl) (pe_ifExp (pt_cmpR op_lt (pv 1) (pe_callB call_len_seq (by rfl) ml PySem.boot_len (pa_cons (pv 0) pa_nil)) (nomark _)) (pe_ix ix_list (pv 0) (pv 1) (fun _ _ => rfl)) pe_int))
      (C8.pss_cut (ps_set (i := 4) scSource.nd rfl (Or.inl rfl) (pe_ifExp (pt_cmpR op_ge (pe_callB call_abs (by rfl) ma (by decide +kernel) (pa_cons (pv 3) pa_nil)) (pe_op op_pow pe_int pe_int) (nomark _)) (pe_callB call_abs (by rfl) ma (by decide +kernel) (pa_cons (pv 3) pa_nil)) pe_int))
      (pss_cons (ps_set (i := 5) scSource.nd rfl (Or.inl rfl) (pe_op op_mod (pe_op op_pow (pe_op op_add (pe_op op_add (pe_op op_mod (pv 3) pe_int) (pe_op op_mul pe_int (pv 1))) pe_int) pe_int) (pe_ix ix_tup (pv 2) (pe_op op_mod (pv 1) pe_int) (fun _ _ => rfl))))
      (pss_one (ps_ret (pe_lst (pa_cons (pv 4) (pa_cons (pe_op op_add (pe_op op_mod (pe_op op_mulW (pv 5) (pe_op op_add (pe_op op_add (pe_op op_fdiv (pv 5) pe_int) (pe_op op_mul pe_int (pv 1))) pe_int)) (pe_ix ix_tup (pv 2) (pe_op op_mod (pe_op op_add (pv 1) pe_int) pe_int) (fun _ _ => rfl))) pe_int) pa_nil)))))))), ?_⟩
    refine ⟨(by show 8 ≤ sizeLine; decide), fun t nt => ?_⟩
    have s1 : Same H (upd H t (.tup [.int 2147483629, .int 2147483587, .int 2147483579, .int 2147483563, .int 2147483549, .int 2147483543, .int 2147483497, .int 2147483489])) := same_upd nt
    have hT := SqT.of (K := K) (upd_same (H := H) (a := t) (o := .tup [.int 2147483629, .int 2147483587, .int 2147483579, .int 2147483563, .int 2147483549, .int 2147483543, .int 2147483497, .int 2147483489]))
    have hS1 : SqL K (upd H t (.tup [.int 2147483629, .int 2147483587, .int 2147483579, .int 2147483563, .int 2147483549, .int 2147483543, .int 2147483497, .int 2147483489])) a (ns.map V.int) := hS.imp (fun r => r.elim (fun e => .inl (s1 _ _ e)) fun ⟨u, e⟩ => .inr ⟨u, s1 _ _ e⟩) id
    generalize upd H t (.tup [.int 2147483629, .int 2147483587, .int 2147483579, .int 2147483563, .int 2147483549, .int 2147483543, .int 2147483497, .int 2147483489]) = H1 at s1 hT hS1 ⊢
    refine ⟨fun σ H2 => H2 = H1 ∧ ∃ c : Int, σ = [some (.ref a), some (.int k), some (.ref t), some (.int c), none, none], ?_, ?_⟩
    · refine ⟨_, rfl, _, rfl, a, _, rfl, .inl hS1, _, _, rfl, rfl, _, rfl, ite2 (fun e => ?_) (fun e => ?_)⟩
      · have e1 : k < (((ns.map V.int).length : Nat) : Int) := of_decide_eq_true e
        rw [hl] at e1
        obtain ⟨v, hv⟩ := int_at (ns := ns) k0 e1
        exact ⟨_, rfl, _, rfl, a, _, _, _, rfl, rfl, hS1, hv, rfl, _, rfl⟩
      · exact ⟨rfl, 0, rfl⟩
    rintro σ H2 ⟨rfl, c, rfl⟩
    refine ⟨fun σ H3 => H3 = H2 ∧ ∃ f : Int, 0 ≤ f ∧ σ = [some (.ref a), some (.int k), some (.ref t), some (.int c), some (.int f), none], ?_, ?_⟩
    · have ab : 0 ≤ (if c < 0 then -c else c) := by split <;> omega
      refine ⟨_, rfl, _, rfl, _, _, rfl, rfl, ⟨by decide, by decide, by decide⟩, _, _, rfl, rfl, _, rfl, ite2 (fun e => ?_) (fun e => ?_)⟩
      · exact ⟨_, rfl, _, rfl, rfl, _, ab, rfl⟩
      · exact ⟨rfl, 0, by decide, rfl⟩
    rintro σ H3 ⟨rfl, f, f0, rfl⟩
    have m1 := mod_lt (a := c) (m := 2305843009213693951) (by decide)
    have k8 := mod_lt (a := k) (m := 8) (by decide)
    have k9 := mod_lt (a := k + 2) (m := 8) (by decide)
    obtain ⟨p, hp, p0, p1⟩ := primes_at k8.1 k8.2
    obtain ⟨p', hp', p0', p1'⟩ := primes_at k9.1 k9.2
    refine ⟨_, rfl, _, _, rfl, rfl, (by decide : (0 : Int) < 2305843009213693951), _, rfl, _, _, rfl, rfl, .inl ⟨by decide, by decide⟩, _, _, rfl, rfl, _, _, rfl, rfl, _, _, rfl, rfl, ⟨by decide, by decide, by omega⟩, ?_⟩
    refine ⟨_, rfl, _, rfl, _, _, rfl, rfl, (by decide : (0 : Int) < 8), t, _, _, _, rfl, rfl, hT, hp, _, _, rfl, rfl, p0, ?_⟩
    have mx := mod_lt (a := (c % 2305843009213693951 + 30011 * k + 71) ^ (3 : Int).toNat) p0
    generalize hX : (c % 2305843009213693951 + 30011 * k + 71) ^ (3 : Int).toNat % p = x at mx
    have xw : ∀ y : Int, 0 ≤ y → y < 2147483648 → y.natAbs.log2 < 32 := fun y h0 h1 => by
      by_cases z : y.natAbs = 0
      · rw [z]; decide
      · exact (Nat.log2_lt z).mpr (by omega)
    have d0 : 0 ≤ x / 9 ∧ x / 9 ≤ x := ⟨Int.ediv_nonneg mx.1 (by decide), Int.ediv_le_self 9 mx.1⟩
    have yw : (x / 9 + 4 * k + 5).natAbs.log2 < 33 := by
      by_cases z : (x / 9 + 4 * k + 5).natAbs = 0
      · rw [z]; decide
      · exact (Nat.log2_lt z).mpr (by omega)
    have xx := xw x mx.1 (by omega)
    have nw := mod_lt (a := x * (x / 9 + 4 * k + 5)) p0'
    have ww : CMulW x (x / 9 + 4 * k + 5) := by show _ + _ < 1000000; omega
    have n0 : 0 ≤ x * (x / 9 + 4 * k + 5) % p' + 1 ∧ x * (x / 9 + 4 * k + 5) % p' + 1 < 2147483648 := by omega
    subst hX
    refine ⟨_, rfl, _, rfl, _, rfl, _, _, rfl, rfl, ⟨by decide, by decide⟩, _, rfl, _, _, rfl, rfl, .inl ⟨by decide, by decide⟩, _, _, rfl, rfl, _, _, rfl, rfl, _, _, rfl, rfl, ww, ?_⟩
    refine ⟨_, rfl, _, rfl, _, _, rfl, rfl, _, _, rfl, rfl, (by decide : (0 : Int) < 8), t, _, _, _, rfl, rfl, hT, hp', _, _, rfl, rfl, p0', _, _, rfl, rfl, ?_⟩
    refine ⟨(by show 2 ≤ sizeLine; decide), fun b nb => ?_⟩
    exact q b _ (s1.trans (same_upd nb)) (by
      cases z : H b with
      | none => rfl
      | some o =>
        rw [s1 _ _ z] at nb
        cases nb) ⟨_, _, upd_same, f0, n0.1, n0.2⟩
end
end K1

namespace K1
open PySem PySem.Spec PyProof.Rows L2 Own
/-! ### names drawn -/
def sg (c : Nat) : Str := ⟨#[c]⟩
theorem sg_list (c : Nat) : (sg c).cps.toList = [c] := rfl
theorem abc_at {i : Int} (h0 : 0 ≤ i) (h1 : i < 26) : atI abc.cps.toList i = some (97 + i.toNat) := by
  have h : ∀ d : Fin 26, atI abc.cps.toList ((d.val : Nat) : Int) = some (97 + d.val) := by decide +kernel
  have e : i = ((i.toNat : Nat) : Int) := by omega
  have q := h ⟨i.toNat, by omega⟩
  rw [← e] at q
  exact q
theorem app_list (a b : Str) : (a ++ b).cps.toList = a.cps.toList ++ b.cps.toList := by
  show (a.cps ++ b.cps).toList = _
  rw [Array.toList_append]
theorem len_list (a : Str) : a.length = a.cps.toList.length := by
  show a.cps.size = _
  rw [Array.length_toList]
theorem join_list : ∀ cs : List Nat, (Str.join Str.empty (cs.map sg)).cps.toList = cs
  | [] => rfl
  | [c] => rfl
  | c :: d :: r => by
    have ih := join_list (d :: r)
    show (sg c ++ Str.empty ++ Str.join Str.empty ((d :: r).map sg)).cps.toList = _
    rw [app_list, app_list, ih]
    rfl
theorem cut_lo (z : Str) (a : Nat) (h : a ≤ z.length) : (cutS z none (some ((a : Nat) : Int))).cps.toList = z.cps.toList.take a := by
  unfold cutS
  rw [HT.sIx_none, HT.sIx_nat, List.drop_zero, Nat.sub_zero, Nat.min_eq_left h]
theorem cut_hi (z : Str) (a : Nat) (h : a ≤ z.length) : (cutS z (some ((a : Nat) : Int)) none).cps.toList = z.cps.toList.drop a := by
  unfold cutS
  rw [HT.sIx_none, HT.sIx_nat, Nat.min_eq_left h]
  show (z.cps.toList.drop a).take (z.length - a) = _
  rw [List.take_of_length_le]
  rw [List.length_drop, ← len_list]
  exact Nat.le_refl _
/-- the name that turn k makes -/
def nameK (z : Str) (a b k : Nat) : Str := cutS z none (some ((a : Nat) : Int)) ++ sg (97 + (b + 5 * k) % 26) ++ cutS z (some ((a : Nat) : Int)) none
theorem nameK_list (z : Str) (a b k : Nat) (h : a ≤ z.length) : (nameK z a b k).cps.toList = z.cps.toList.take a ++ (97 + (b + 5 * k) % 26) :: z.cps.toList.drop a := by
  unfold nameK
  rw [app_list, app_list, cut_lo z a h, cut_hi z a h, sg_list, List.append_assoc]
  rfl
theorem nameK_len (z : Str) (a b k : Nat) (h : a ≤ z.length) : (nameK z a b k).length = z.length + 1 := by
  rw [len_list, nameK_list z a b k h, len_list z] at *
  rw [List.length_append, List.length_cons, List.length_take, List.length_drop]
  omega
theorem nameK_one {z : Str} {a b j k : Nat} (h : a ≤ z.length) (hj : j < 8) (hk : k < 8) (e : nameK z a b j = nameK z a b k) : j = k := by
  have q : (nameK z a b j).cps.toList = (nameK z a b k).cps.toList := by rw [e]
  rw [nameK_list z a b j h, nameK_list z a b k h] at q
  have q2 := (List.cons.inj (List.append_cancel_left q)).1
  omega
theorem nameK_ok {z : Str} {a b k : Nat} (h : a ≤ z.length) (h7 : z.length ≤ 7) (hz : ∀ c ∈ z.cps.toList, 97 ≤ c ∧ c ≤ 122) : NameOk (nameK z a b k) := by
  refine ⟨by rw [nameK_len z a b k h]; omega, by rw [nameK_len z a b k h]; omega, fun c hc => ?_⟩
  rw [nameK_list z a b k h] at hc
  rcases List.mem_append.mp hc with q | q
  · exact hz c (List.mem_of_mem_take q)
  · rcases List.mem_cons.mp q with q | q
    · omega
    · exact hz c (List.mem_of_mem_drop q)
/-- drawn names -/
def Drawn (ns : List Str) : Prop := ns.Nodup ∧ ∀ n ∈ ns, NameOk n ∧ n.length ≠ 4
theorem drawn_of {z : Str} {a b : Nat} (m : Nat) (h : a ≤ z.length) (hm : m ≤ 8) (h7 : z.length ≤ 7) (h3 : z.length ≠ 3) (hz : ∀ c ∈ z.cps.toList, 97 ≤ c ∧ c ≤ 122) : Drawn ((List.range m).map (nameK z a b)) := by
  refine ⟨?_, fun n hn => ?_⟩
  · have r : (List.range m).Pairwise (fun j k => j ≠ k ∧ j < 8 ∧ k < 8) := by
      refine List.Pairwise.imp_of_mem (R := fun j k => j ≠ k) (fun ha hb q => ⟨q, ?_, ?_⟩) List.nodup_range
      · have := List.mem_range.mp ha
        omega
      · have := List.mem_range.mp hb
        omega
    exact List.Pairwise.map _ (fun j k q e => q.1 (nameK_one h q.2.1 q.2.2 e)) r
  · obtain ⟨k, hk, rfl⟩ := List.mem_map.mp hn
    exact ⟨nameK_ok h h7 hz, by rw [nameK_len z a b k h]; omega⟩
theorem four {d : Int} (h0 : 0 ≤ d) (h1 : d < 4) : ∃ n : Nat, atI [V.int 0, V.int 1, V.int 2, V.int 7] d = some (V.int (n : Int)) ∧ n ≤ 7 ∧ n ≠ 3 := by
  have c : d = 0 ∨ d = 1 ∨ d = 2 ∨ d = 3 := by omega
  rcases c with e | e | e | e
  · subst e
    exact ⟨0, rfl, by decide, by decide⟩
  · subst e
    exact ⟨1, rfl, by decide, by decide⟩
  · subst e
    exact ⟨2, rfl, by decide, by decide⟩
  · subst e
    exact ⟨7, rfl, by decide, by decide⟩
theorem Keep.put {s p : Addr} {H H' : Hp} {o : HO} (a : Keep s H H') (h : H p = none) : Keep s H (L2.upd H' p o) := fun b x n e => by
  rw [upd_ne (ne_of_none e h)]
  exact a b x n e
theorem Src.put {s p : Addr} {H : Hp} {o : HO} (q : Src H s) (h : p ≠ s) : Src (upd H p o) s := by
  obtain ⟨a, b, z, ok⟩ := q
  exact ⟨a, b, by rw [upd_ne h.symm]; exact z, ok⟩
theorem Src.ne {s p : Addr} {H : Hp} {ss : List Str} (q : Src H s) (h : H p = some (.lst (ss.map V.str))) : p ≠ s := fun e => by
  obtain ⟨a, b, z, _⟩ := q
  rw [e, z] at h
  have h' := HO.lst.inj (Option.some.inj h)
  cases ss with
  | nil => cases h'
  | cons x r => cases h'
def spNames : Sp := fun vs H Q _ => ∃ (s : Addr) (m : Nat), vs = [.ref s, .int (m : Nat)] ∧ Src H s ∧ m ≤ 8 ∧ ∀ H' p ns, Keep s H H' → Src H' s → H p = none → H' p = some (.lst (ns.map V.str)) → ns.length = m → Drawn ns → Q (.ref p) H'
section
variable {P : Program} {w : World} {K : PySem.W.Frag} {mg : Str → Option Value} {base : Heap}
end
end K1

namespace K1
open PySem PySem.Spec PyProof.Rows L2 Own
/-! ### rows drawn -/
def LinAt (H : Hp) (v : V) (l : Ln) : Prop := ∃ t b, v = .ref t ∧ H t = some (.tup [.str l.1, .ref b]) ∧ H b = some (.tup (l.2.map V.str))
def LinsAt (H : Hp) (a : Addr) (ls : List Ln) : Prop := ∃ vs, H a = some (.lst vs) ∧ Paired (LinAt H) vs ls
theorem LinAt.same {H H' : Hp} {v : V} {l : Ln} (h : LinAt H v l) (k : ∀ a xs, H a = some (.tup xs) → H' a = some (.tup xs)) : LinAt H' v l := by
  obtain ⟨t, b, e, h1, h2⟩ := h
  exact ⟨t, b, e, k _ _ h1, k _ _ h2⟩
theorem LinsAt.keep {H H' : Hp} {a : Addr} {ls : List Ln} (h : LinsAt H a ls) (k : ∀ b xs, H b = some (.tup xs) → H' b = some (.tup xs)) (ka : ∀ xs, H a = some (.lst xs) → H' a = some (.lst xs)) : LinsAt H' a ls := by
  obtain ⟨vs, h1, h2⟩ := h
  exact ⟨vs, ka _ h1, paired_imp (fun _ _ q => q.same k) h2⟩
theorem LinsAt.same {H H' : Hp} {a : Addr} {ls : List Ln} (h : LinsAt H a ls) (s : Same H H') : LinsAt H' a ls := h.keep (fun _ _ e => s _ _ e) fun _ e => s _ _ e
theorem LinsAt.rows {H : Hp} {a : Addr} {ls : List Ln} (h : LinsAt H a ls) : RowsAt H a ls := by
  obtain ⟨vs, h1, h2⟩ := h
  exact ⟨vs, .inl h1, paired_imp (fun _ _ ⟨t, b, e, z1, z2⟩ => ⟨t, b, e, z1, .inr z2⟩) h2⟩
theorem Src.neL {s p : Addr} {H H0 : Hp} {rs : List V} {ls : List Ln} (q : Src H s) (h : H p = some (.lst rs)) (pl : Paired (LinAt H0) rs ls) : p ≠ s := fun e => by
  obtain ⟨a, b, z, _⟩ := q
  rw [e, z] at h
  have h' := HO.lst.inj (Option.some.inj h)
  subst h'
  cases pl with
  | cons c r =>
    obtain ⟨t, b, e, _⟩ := c
    cases e
theorem four2 {d : Int} (h0 : 0 ≤ d) (h1 : d < 4) : ∃ n : Nat, atI [V.int 0, V.int 1, V.int 1, V.int 2] d = some (V.int (n : Int)) ∧ n ≤ 2 := by
  have c : d = 0 ∨ d = 1 ∨ d = 2 ∨ d = 3 := by omega
  rcases c with e | e | e | e
  · subst e
    exact ⟨0, rfl, by decide⟩
  · subst e
    exact ⟨1, rfl, by decide⟩
  · subst e
    exact ⟨1, rfl, by decide⟩
  · subst e
    exact ⟨2, rfl, by decide⟩
theorem cutV_lo (xs : List V) (k : Nat) (h : k ≤ xs.length) : cutV xs none (some ((k : Nat) : Int)) = xs.take k := by
  unfold cutV
  rw [HT.sIx_none, HT.sIx_nat, Nat.min_eq_left h]
  rfl
theorem ne_nil_eq (xs : List Str) : (!PyData.eqv (strsD xs) (strsD [])) = !decide (xs = []) := by
  cases xs with
  | nil => rfl
  | cons x r => rfl
theorem erase_map : ∀ (xs : List Str) (u : Nat), (xs.map V.str).eraseIdx u = (xs.eraseIdx u).map V.str
  | [], _ => rfl
  | x :: r, 0 => rfl
  | x :: r, u + 1 => by
    show V.str x :: (r.map V.str).eraseIdx u = V.str x :: (r.eraseIdx u).map V.str
    rw [erase_map r u]
theorem erase_perm : ∀ (xs : List Str) (u : Nat) (h : u < xs.length), (xs[u] :: xs.eraseIdx u).Perm xs
  | x :: r, 0, _ => .refl _
  | x :: r, u + 1, h => by
    have ih := erase_perm r u (Nat.lt_of_succ_lt_succ h)
    show (r[u]'(Nat.lt_of_succ_lt_succ h) :: x :: r.eraseIdx u).Perm (x :: r)
    exact (List.Perm.swap ..).trans (List.Perm.cons x ih)
/-- the rows so far -/
structure Far (ns : List Str) (i : Nat) (ls : List Ln) : Prop where
  nms : nms ls = ns.take i
  base : ∀ (j : Nat) l, ls[j]? = some l → l.2.Nodup ∧ (∀ b ∈ l.2, b ∈ ns.take j) ∧ l.2.length ≤ 7
theorem Far.ok {ns : List Str} {ls : List Ln} (f : Far ns ns.length ls) (d : Drawn ns) (h7 : ns.length ≤ 7) : LnsOk ls := by
  have e : K1.nms ls = ns := by rw [f.nms, List.take_of_length_le (Nat.le_refl _)]
  refine ⟨fun l hl => ?_, by rw [e]; exact d.1, ?_, fun j l hl => ?_⟩
  · have q : l.1 ∈ ns := by
      rw [← e]
      exact List.mem_map.mpr ⟨l, hl, rfl⟩
    exact (d.2 _ q).1
  · have q : (K1.nms ls).length = ns.length := by rw [e]
    rw [List.length_map] at q
    omega
  · obtain ⟨a, b, c⟩ := f.base j l hl
    refine ⟨a, fun x hx => ?_, c⟩
    rw [show K1.nms (ls.take j) = (K1.nms ls).take j from List.map_take .., e]
    exact b x hx
def spLines : Sp := fun vs H Q _ => ∃ (s a : Addr) (ns : List Str), vs = [.ref s, .ref a] ∧ Src H s ∧ H a = some (.lst (ns.map V.str)) ∧ ns.length ≤ 7 ∧ Drawn ns ∧ ∀ H' p ls, Keep s H H' → Src H' s → LinsAt H' p ls → nms ls = ns → LnsOk ls → Q (.ref p) H'
section
variable {P : Program} {w : World} {K : PySem.W.Frag} {mg : Str → Option Value} {base : Heap}
end
end K1

namespace K1
open PySem PySem.Spec PyProof.Rows L2 Own
/-! ### what stands above, reckoned by the law -/
abbrev Any1 (y : List Str) : Prop := True
abbrev All1 (a : Addr) : Prop := True
def spOver : Sp := fun vs H Q _ => ∃ r ls, vs = [.ref r] ∧ LinsAt H r ls ∧ LnsOk ls ∧ ∀ H' d T, Same H H' → DictAt All1 H' d T → Tab Any1 ls T → Q (.ref d) H'
theorem more_nd {o y : List Str} (no : o.Nodup) (ny : y.Nodup) : (o ++ y.filter fun x => decide (x ∉ o)).Nodup := by
  refine List.nodup_append.mpr ⟨no, ny.sublist List.filter_sublist, fun a ha b hb e => ?_⟩
  have q := (List.mem_filter.mp hb).2
  exact of_decide_eq_true q (e ▸ ha)
theorem more_mem {o y : List Str} {x : Str} : x ∈ o ++ (y.filter fun x => decide (x ∉ o)) ↔ x ∈ o ∨ x ∈ y := by
  rw [List.mem_append, List.mem_filter]
  by_cases h : x ∈ o
  · exact ⟨fun _ => .inl h, fun _ => .inl h⟩
  · constructor
    · rintro (q | ⟨q, _⟩)
      · exact .inl q
      · exact .inr q
    · rintro (q | q)
      · exact .inl q
      · exact .inr ⟨q, decide_eq_true h⟩
section
variable {P : Program} {w : World} {K : PySem.W.Frag} {mg : Str → Option Value} {base : Heap}
end
end K1

namespace Own
open PySem PySem.Spec PyProof.Rows L2
/-! a def's promise where it is known that no repr is under way -/
def Calm (A : Around) : Prop := A.guards = some []
theorem Calm.deeper {A : Around} (h : Calm A) (env : Env) : Calm (A.deeper env) := h
theorem Calm.in1 {A : Around} (h : Calm A) : Calm A.in1 := h
structure FnG (P : Program) (w : World) (K : PySem.W.Frag) (mg : Str → Option Value) (base : Heap) (k : Nat) (f : Addr) (fd : FuncData) (ps : List Str) (sp : Sp) : Prop where
  len : ∀ vs H Q E, sp vs H Q E → vs.length = ps.length
  run : ∀ (A : Around) (out : List Env) (s : Shared) (H : Hp) (args : Args) (us : List Value) (vs : List V) (Q : VK) (E : XK), Calm A → Room k A → Env0 P w K mg base A out s H → BindsTo s fd args (ps.zip us) → Vals vs us → sp vs H Q E →
    codeAny (model P w) A (.call (.ref f) args) (CR CX0 out P w H s Q E) s
section
variable {P : Program} {w : World} {K : PySem.W.Frag} {mg : Str → Option Value} {base : Heap} {j k : Nat} {f : Addr} {fd : FuncData} {ps : List Str} {sp : Sp}
theorem fnG_ok (F : FnOk P w K mg base CX0 k f fd ps sp) : FnG P w K mg base k f fd ps sp :=
  ⟨F.len, fun A out s H args us vs Q E _ hr e0 hb r h => F.run A out s H args us vs Q E hr e0 hb r h⟩
theorem FnG.mono (F : FnG P w K mg base j f fd ps sp) (h : j ≤ k) : FnG P w K mg base k f fd ps sp :=
  ⟨F.len, fun A out s H args us vs Q E c hr => F.run A out s H args us vs Q E c (hr.mono h)⟩
end
section
variable {X : Cx} {k : Nat} {f : Addr} {fd : FuncData} {ps : List Str} {sp : Sp} {ds : List Value} {dvs : List V} {E : XK} {x : Str} {p pos : Pos} {e : Expr} {es : List Expr} {t : TA}
theorem run_g {pins : List (Addr × Obj)} {σ : L2.St} {H : Hp} {s : Shared} {Q : VK} {us : List Value} {vs : List V} (F : FnG X.prog X.w X.K X.mg X.base k f fd ps sp) (hc : Calm X.A) (hr : Room k X.A) (hb : Binds X.K fd ps []) (I : Inv X pins σ H s) (r : Vals vs us) (h : sp vs H Q E) :
    wpAny (model X.prog X.w) X.A (call (.ref f) us) (EP X pins σ Q) X.xe s := by
  have hl : us.length = ps.length := r.length.symm.trans (F.len _ _ _ _ h)
  have b := hb s us I.kIn (by rw [List.append_nil]; exact hl)
  rw [List.append_nil] at b
  refine wpAny_call (codeAny_mono (F.run X.A X.stack s H ⟨us, []⟩ us vs Q E hc hr I.env0 b r h) fun z s' hz => ?_)
  match z, hz with
  | .error _, hz => exact hz.elim
  | .ok (.ret _), hz => exact I.after hz
  | .ok .next, hz => exact hz.elim
  | .ok .brk, hz => exact hz.elim
  | .ok .cont, hz => exact hz.elim
theorem pe_callG (F : FnG X.prog X.w X.K X.mg X.base k f fd ps sp) (hc : Calm X.A) (hr : Room k X.A) (hg : Gl X x) (hm : X.mg x = some (.ref f)) (hk : PySem.W.keepIn X.K (.ref f) = true) (hb : Binds X.K fd ps []) (ha : PA X (e :: es) t)
    (hdb : (x == ("__debug__" : Str)) = false := by decide) (hst : starEach (e :: es) X.env = (false, eval e X.env) :: starEach es X.env := by rfl) (hno : (backTo pos (starEach es X.env)).any (·.1) = false := by rfl) :
    PE X (.Call (.Name x p) (e :: es) [] pos) (tCall sp [] E t) := by
  refine ⟨fun pins s σ H Q I q => wpAny_Call_Name_kw (ld_glob I hg hm (PySem.W.callWith_K (h₀ := X.base) I.ok.mod.kin hk (thn (ha.run pos pins s σ H _ I q) fun us s1 hq => ?_) hst hno) hdb)⟩
  obtain ⟨vs, H1, I1, r1, q1⟩ := hq
  rw [List.append_nil] at q1
  exact ⟨I1.kIn, run_g F hc hr hb I1 r1 q1⟩
end
theorem okG {P : Program} {w : World} {K : PySem.W.Frag} {mg : Str → Option Value} {base : Heap} {x qual : Str} {st : Stmt} {f : Addr} {fd : FuncData} {N ps : List Str} {k : Nat} {sp : Sp} (F : Fun K x qual st f fd) (S : FnScope N ps (defScope st)) (len : ∀ vs H Q E, sp vs H Q E → vs.length = ps.length)
    (hbody : ∀ (cdv : Value) (A : Around) (out : List Env) (s : Shared) (H : Hp) (vs : List V) (Q : VK) (E : XK), Calm (A.deeper (envOfC qual (defScope st) s.heap.objs.size f cdv)) → Room k (A.deeper (envOfC qual (defScope st) s.heap.objs.size f cdv)) → sp vs H Q E →
      ∃ t, PSs (cxOf CX0 P w K mg base N qual (defScope st) f cdv A out s H E).nox (defBody st) t ∧ t { nx := fun _ H' => Q .non H', rt := Q } (start N vs) H) : FnG P w K mg base (k + 1) f fd ps sp := by
  obtain ⟨oc, od, kV, doc, pm, an, cdv, ct, osl, rfl, lk, hcd⟩ := F.ex
  refine ⟨len, fun A out s H args us vs Q E hc hr e0 hb r h => ?_⟩
  have kin := e0.mod.kin.keeps fun b o q => (e0.bs b o q).1
  have nolim := e0.mod.nolimit.keeps fun b o q => (e0.bs b o q).1
  have names : ∀ y ∈ ps.zip us, (defScope st).names.lookup y.1 = some .local ∨ ((defScope st).names.lookup y.1 = some .cell ∧ ((cellsFrom (s.heap.objs.size + 1) (defScope st).names []).lookup y.1).isSome = true) := fun y hy =>
    (S.par y.1 (List.of_mem_zip (a := y.1) (b := y.2) hy).1).imp id fun q => ⟨q, PySem.W.cellsFrom_some _ _ _ (.inl q)⟩
  refine codeAny_call_function hr.depth (kin _ _ lk) rfl S.co S.gen rfl (PySem.W.codeRec_of kin hcd) (hb _ _ _ _ (wpAny_newFunctionEnv_cells S.kind names fun env he s1 c => ?_))
  subst he
  obtain ⟨t, ht, q⟩ := hbody cdv A out s H vs Q E (hc.deeper _) (hr.deeper _) h
  refine ⟨nolim.keeps c.toInCall.keep, codeAny_func (wpAny_mono (ht.nox.run [] s1 (start N vs) H _ (inv_start S hr.hd e0 (len _ _ _ _ h) r c) q) (fun fl s' z => ?_) fun _ _ z => z)⟩
  match fl, z with
  | .ret u, ⟨v, σ', H', J, rv, q⟩ => exact ⟨v, H', J.os, J.bare, J.base, J.hok, rv, q⟩
  | .next, ⟨σ', H', J, q⟩ => exact ⟨V.non, H', J.os, J.bare, J.base, J.hok, rfl, q⟩
  | .brk, ⟨_, _, _, q⟩ => exact q.elim
  | .cont, ⟨_, _, _, q⟩ => exact q.elim
end Own

namespace Own
open PySem PySem.Spec PyProof.Rows L2
/-! the end of a law whose promise asks that no repr is under way -/
section
variable {P : Program} {w : World} {K : PySem.W.Frag} {mg mb : Str → Option Value} {k : Nat} {fa a : Addr} {fd : FuncData} {x : Str} {sp : Sp} {s : Shared} {vs : List Value} {ns : List Int}
def scriptObj (vs : List Value) : Obj := { cls := .type "list", data := .seq vs.toArray }
/-- from a heap in which at most the script is tracked -/
theorem end_from {H : Hp} (kin : K.In s.heap) (hns : s.heap.Ns mainGlobals mg) (hb : s.heap.Ns builtinsNs mb) (hbb : ∀ x : Str, x ≠ "__name__" → mb x = bootBuiltins x) (nl : s.heap.NoLimit) (hg : s.gens = #[])
    (ha : s.heap.get? a = some (scriptObj vs)) (only : ∀ b, H b = none ∨ b = a ∧ H b = some (.frz (scriptObj vs) (.lst (ns.map V.int)))) (out : H a ≠ none → K.lookup a = none) (hok : HOk P w H s.heap) (hr : Room k callerA)
    (F : ∀ base : Heap, K.In base → base.Ns mainGlobals mg → FnG P w K mg base k fa fd [x] sp) (bind : ∀ (s : Shared) (u : Value), BindsTo s fd ⟨[u], []⟩ [(x, u)]) (q : sp [.ref a] H (fun v _ => v = .bl true) fun _ _ _ => False) :
    codeAny (model P w) callerA (.call (.ref fa) ⟨[.ref a], []⟩) (fun r z => r = .ok (.ret (.bool true)) ∧ OldK s.heap z.heap ∧ z.os = s.os ∧ AllBare z.gens) s := by
  have away : ∀ {b : Addr} {o : Obj}, s.heap.get? b = some o → (H b ≠ none → o ≠ scriptObj vs) → H b = none := fun {b o} e n => by
    rcases only b with z | ⟨z1, z2⟩
    · exact z
    · subst z1
      rw [ha] at e
      exact absurd (Option.some.inj e).symm (n (by rw [z2]; exact fun c => nomatch c))
  have put : ∀ {b : Addr} {m : Str → Option Value}, s.heap.Ns b m → (hidT s.heap H).Ns b m := fun ⟨o, es, ep, e, d, r⟩ => ⟨o, es, ep, hidT_get e (away e fun _ c => by
    rw [c] at d
    exact nomatch d), d, r⟩
  have kinB : K.In (hidT s.heap H) := fun b o e => hidT_get (kin b o e) (by
    cases c : H b with
    | none => rfl
    | some u =>
      rcases only b with z | ⟨z, _⟩
      · rw [z] at c
        cases c
      · subst z
        rw [out (by rw [c]; exact fun h => nomatch h)] at e
        cases e)
  obtain ⟨mc, n1, n2⟩ := nl
  have env : Env0 P w K mg (hidT s.heap H) callerA [] s H :=
    ⟨rfl, ⟨kinB, put hns, ⟨mb, put hb, hbb⟩, ⟨mc, put n1, n2⟩⟩, fun _ _ e => of_hidT e, Nat.le_of_eq (hidT_size _ _), trivial, (fun b h => nomatch (show b ∈ ([] : List Addr) from h)), hok, .of_eq hg⟩
  refine codeAny_mono ((F _ kinB (put hns)).run callerA [] s H ⟨[.ref a], []⟩ [.ref a] [.ref a] _ _ rfl hr env (bind s (.ref a)) (.cons rfl .nil) q) fun r z hz => ?_
  match r, hz with
  | .error _, hz => exact hz.elim
  | .ok .next, hz => exact hz.elim
  | .ok .brk, hz => exact hz.elim
  | .ok .cont, hz => exact hz.elim
  | .ok (.ret u), ⟨v, H', os, bare, un, hok', rv, qv⟩ =>
    have qv' : v = .bl true := qv
    subst qv'
    have ru : u = Value.bool true := rv
    subst ru
    refine ⟨rfl, OldK.of_keep fun b o e => ?_, os, bare⟩
    rcases only b with z1 | ⟨z1, z2⟩
    · exact un.keep b o e z1 (fun h => nomatch (show b ∈ ([] : List Addr) from h)) (fun h => nomatch h)
    · obtain ⟨e1, _⟩ := hok b _ z2
      obtain ⟨e2, _⟩ := hok' b _ (un.frzs b _ _ z2)
      have e3 := e1.symm.trans e
      cases e3
      exact e2
theorem end_call (kin : K.In s.heap) (hns : s.heap.Ns mainGlobals mg) (hb : s.heap.Ns builtinsNs mb) (hbb : ∀ x : Str, x ≠ "__name__" → mb x = bootBuiltins x) (nl : s.heap.NoLimit) (hg : s.gens = #[])
    (ha : s.heap.get? a = some (scriptObj vs)) (hi : IntsAre vs ns) (hl : ns.length ≤ sizeLine) (hr : Room k callerA)
    (F : ∀ base : Heap, K.In base → base.Ns mainGlobals mg → FnG P w K mg base k fa fd [x] sp) (bind : ∀ (s : Shared) (u : Value), BindsTo s fd ⟨[u], []⟩ [(x, u)]) (q : ∀ H : Hp, SqL K H a (ns.map V.int) → sp [.ref a] H (fun v _ => v = .bl true) fun _ _ _ => False) :
    codeAny (model P w) callerA (.call (.ref fa) ⟨[.ref a], []⟩) (fun r z => r = .ok (.ret (.bool true)) ∧ OldK s.heap z.heap ∧ z.os = s.os ∧ AllBare z.gens) s := by
  have rv := vals_ints hi
  have lv := hi.length
  by_cases c : K.lookup a = none
  · have at1 : ∀ b, (fun b => if b = a then some (HO.frz (scriptObj vs) (.lst (ns.map V.int))) else none) b = none ∨ b = a ∧ (fun b => if b = a then some (HO.frz (scriptObj vs) (.lst (ns.map V.int))) else none) b = some (.frz (scriptObj vs) (.lst (ns.map V.int))) := fun b => by
      by_cases e : b = a
      · exact .inr ⟨e, if_pos e⟩
      · exact .inl (if_neg e)
    refine end_from (H := fun b => if b = a then some (.frz (scriptObj vs) (.lst (ns.map V.int))) else none) kin hns hb hbb nl hg ha at1 (fun _ => c) (fun b u z => ?_) hr F bind (q _ (.inl (.inr ⟨scriptObj vs, if_pos rfl⟩)))
    rcases at1 b with e | ⟨e1, e2⟩
    · have z2 := e.symm.trans z
      cases z2
    · have z2 := e2.symm.trans z
      cases z2
      subst e1
      exact ⟨ha, by rw [List.length_map]; exact hl, vs, _, rv, ha⟩
  · obtain ⟨o, ho⟩ := Option.ne_none_iff_exists'.mp c
    have e := (kin a o ho).symm.trans ha
    cases e
    exact end_from (ns := ns) (H := fun _ => none) kin hns hb hbb nl hg ha (fun _ => .inl rfl) (fun z => absurd rfl z) (fun b u z => nomatch z) hr F bind (q _ (.inr ⟨_, vs.toArray, _, ho, rfl, rfl, rfl, by rw [List.size_toArray, lv]; exact hl, by simpa using rv⟩))
end
theorem walk_ofG {l : PySem.W.OpenLaw} {n k : Nat} {q : Program} {loose : List Str} {XP : (Str → Option Value) → Heap → Prop} {YP : World → Heap → Prop} {d : DefRec} {K : Params → PySem.W.Frag} {sp : World → Sp} {x : Str} (hn : l.most = some n) (hn2 : n ≤ sizeLine) (hdf : d.params.defaults = []) (hr : Room k callerA)
    (hY : ∀ (w : World) (h : Heap), YP w h → (K w.params).In h)
    (F : ∀ (w : World) (mg : Str → Option Value) (fa : Addr) (h : Heap), (K w.params).In h → h.Ns mainGlobals mg → mg d.name = some (.ref fa) → ∃ fd : FuncData, (∀ (s : Shared) (u : Value), BindsTo s fd ⟨[u], []⟩ [(x, u)]) ∧ ∀ base : Heap, (K w.params).In base → base.Ns mainGlobals mg → FnG l.prog w (K w.params) mg base k fa fd [x] (sp w))
    (hsp : ∀ (w : World) (H : Hp) (a : Addr) (ns : List Int), ns.length ≤ n → SqL (K w.params) H a (ns.map V.int) → sp w [.ref a] H (fun v _ => v = .bl true) fun _ _ _ => False) : PySem.W.WalkO q loose XP YP l.row.toRowW d [] (fun f vs => PySem.call f vs) := by
  refine Att.attach_call hn hdf fun w s0 s1 mg mb fa o pm cd doc a vs ns G Y ho hd hcd hmg hobj hints hlen hg => ?_
  have kin := hY w _ Y
  obtain ⟨fd, bind, hF⟩ := F w mg fa _ kin G.T.g hmg
  exact end_call kin G.T.g G.T.b G.T.builtins G.T.nolimit hg hobj hints (Nat.le_trans hlen hn2) hr hF bind fun H hS => hsp w H a ns hlen hS
end Own

namespace Own
open PySem PySem.Spec PyProof.Rows L2
/-! data: what a value reads as -/
theorem Same.rd {H H' : Hp} {a : Addr} {o : HO} (s : Same H H') (h : Rd H a o) : Rd H' a o := h.elim (fun e => .inl (s _ _ e)) fun ⟨b, e⟩ => .inr ⟨b, s _ _ e⟩
theorem Same.tup {K : PySem.W.Frag} {H H' : Hp} {a : Addr} {xs : List V} (s : Same H H') (h : SqT K H a xs) : SqT K H' a xs := h.elim (fun e => .inl (Same.rd s e)) .inr
section
variable {K : PySem.W.Frag} {H H' : Hp}
mutual
theorem dp_same (s : Same H H') : ∀ {v : V} {d : PyData}, Dp K H v d → Dp K H' v d
  | _, _, .non => .non
  | _, _, .bl b => .bl b
  | _, _, .int i => .int i
  | _, _, .str z => .str z
  | _, _, .lst h a => .lst (s.seq h) (dpAll_same s a)
  | _, _, .tup h a => .tup (Same.tup s h) (dpAll_same s a)
theorem dpAll_same (s : Same H H') : ∀ {vs : List V} {ds : List PyData}, DpAll K H vs ds → DpAll K H' vs ds
  | _, _, .nil => .nil
  | _, _, .cons a r => .cons (dp_same s a) (dpAll_same s r)
end
theorem dpAll_len : ∀ {vs : List V} {ds : List PyData}, DpAll K H vs ds → vs.length = ds.length
  | _, _, .nil => rfl
  | _, _, .cons _ r => by rw [List.length_cons, List.length_cons, dpAll_len r]
theorem dpAll_at : ∀ {vs : List V} {ds : List PyData}, DpAll K H vs ds → ∀ {i : Nat} {v : V}, vs[i]? = some v → ∃ d, ds[i]? = some d ∧ Dp K H v d
  | _, _, .nil, i, v, e => by simp at e
  | _, _, .cons a r, 0, v, e => ⟨_, rfl, by
    have z := Option.some.inj e
    rw [← z]
    exact a⟩
  | _, _, .cons a r, i + 1, v, e => dpAll_at r (i := i) (by simpa using e)
theorem dpAll_at' : ∀ {vs : List V} {ds : List PyData}, DpAll K H vs ds → ∀ {i : Nat} {d : PyData}, ds[i]? = some d → ∃ v, vs[i]? = some v ∧ Dp K H v d
  | _, _, .nil, i, v, e => by simp at e
  | _, _, .cons a r, 0, v, e => ⟨_, rfl, by
    have z := Option.some.inj e
    rw [← z]
    exact a⟩
  | _, _, .cons a r, i + 1, v, e => dpAll_at' r (i := i) (by simpa using e)
theorem dpAll_app : ∀ {vs ws : List V} {ds es : List PyData}, DpAll K H vs ds → DpAll K H ws es → DpAll K H (vs ++ ws) (ds ++ es)
  | _, _, _, _, .nil, b => b
  | _, _, _, _, .cons a r, b => .cons a (dpAll_app r b)
theorem dpAll_take : ∀ {vs : List V} {ds : List PyData} (n : Nat), DpAll K H vs ds → DpAll K H (vs.take n) (ds.take n)
  | _, _, 0, _ => by
    rw [List.take_zero, List.take_zero]
    exact .nil
  | _, _, n + 1, .nil => .nil
  | _, _, n + 1, .cons a r => .cons a (dpAll_take n r)
theorem dpAll_drop : ∀ {vs : List V} {ds : List PyData} (n : Nat), DpAll K H vs ds → DpAll K H (vs.drop n) (ds.drop n)
  | _, _, 0, a => a
  | _, _, n + 1, .nil => .nil
  | _, _, n + 1, .cons a r => dpAll_drop n r
theorem dpAll_rev {vs : List V} {ds : List PyData} (h : DpAll K H vs ds) : DpAll K H vs.reverse ds.reverse := by
  induction vs generalizing ds with
  | nil =>
    cases h
    exact .nil
  | cons v r ih =>
    cases h with
    | cons a b =>
      rw [List.reverse_cons, List.reverse_cons]
      exact dpAll_app (ih b) (.cons a .nil)
/-- the built-in type of data -/
def tyD : PyData → String
  | .none => "NoneType"
  | .bool _ => "bool"
  | .int _ => "int"
  | .str _ => "str"
  | .list _ => "list"
  | .tuple _ => "tuple"
  | .dict _ => "dict"
theorem dp_ty {v : V} {d : PyData} (h : Dp K H v d) : TyX K H v (.type (tyD d)) := by
  cases h with
  | non => exact .base .non
  | bl b => exact .base (.bl b)
  | int i => exact .base (.int i)
  | str z => exact .base (.str z)
  | lst h _ =>
    rcases h with (h | ⟨o, h⟩) | ⟨o, _, _, h, c, _⟩
    · exact .base (.lst h)
    · exact .base (.frz h)
    · exact .kList h c
  | tup h _ =>
    rcases h with (h | ⟨o, h⟩) | ⟨o, _, _, h, c, _⟩
    · exact .base (.tup h)
    · exact .fTuple h
    · exact .kTuple h c
end
section
variable {X : Cx}
/-- repr of data -/
theorem call_reprD (hc : Calm X.A) (hr : Room 1 X.A) : CallR X (.builtin "repr") (fun xs H Q => ∃ v d, xs = [v] ∧ Dp X.K H v d ∧ d.showable = true ∧ d.canLay0 = true ∧ d.depth ≤ 100 ∧ d.shown.length ≤ sizeLine ∧ Q (.str d.shown) H) := by
  intro pins s σ H xs us Q I r h
  obtain ⟨v, d, rfl, hd, hs, hl, hp, hz, q⟩ := h
  obtain ⟨u, rfl, ru⟩ := vals1 r
  obtain ⟨as, rd⟩ := Dp.reads I d v u hd ru
  have hu : X.A.units + (d.depth + 1) < cLine := by have := hr.un; omega
  have fin : ∀ h' t tk, (∀ b o, s.heap.get? b = some o → h'.get? b = some o) → EP X pins σ Q (.str d.shown t) { s with heap := h', toks := tk } := fun h' t tk k => ⟨.str d.shown, H, I.kept (t' := tk) k, ⟨_, rfl⟩, q⟩
  cases hd with
  | non =>
    cases ru
    exact PySem.P.repr_of_none (fin _ _ _ fun _ _ e => e)
  | bl b =>
    cases ru
    exact PySem.P.repr_of_bool (fin _ _ _ fun _ _ e => e)
  | int i =>
    obtain ⟨t, rfl⟩ := ru
    exact PySem.P.repr_of_int (of_decide_eq_true hs) (fin _ _ _ fun _ _ e => e)
  | str z =>
    obtain ⟨t, rfl⟩ := ru
    exact PySem.P.repr_of_str (fin _ _ _ fun _ _ e => e) hz
  | lst h a =>
    cases ru
    exact repr_of_reads' rd hs (PyData.noDict_hsm (PyData.hasDict_of_canLay _ hl)) hc hu (fun _ _ e => e) fin hz
  | tup h a =>
    cases ru
    exact repr_of_reads' rd hs (PyData.noDict_hsm (PyData.hasDict_of_canLay _ hl)) hc hu (fun _ _ e => e) fin hz
end
end Own

namespace Own
open PySem PySem.Spec PyProof.Rows L2
/-! xs.extend(t), t a tuple -/
theorem extend_tup (l : Addr) (its : Array Value) (n : Nat) (b : Addr) (ts : Array Value) (m : Nat) (od : Option Addr) (sl : Array (Option Value)) (h0 : ¬(!its.isEmpty && Builtin.List.listTooLong (its.size + ts.size)) = true) (h1 : its.size ≤ sizeLine) (h2 : its.size + ts.size ≤ sizeLine + 1) :
    Meets (Builtin.«list.extend» ⟨[.ref l, .ref b], []⟩) (fun _ R s => s.heap.get? l = some { cls := .type "list", dict := none, data := .seq its n, slots := #[] } ∧ s.heap.get? b = some { cls := .type "tuple", dict := od, data := .seq ts m, slots := sl } ∧
      R (.ok (.ret Value.none)) { s with heap := s.heap.update l (Obj.mapSeq fun x => x ++ ts), toks := s.toks }) := by
  refine .of_wp fun prog w A R s h => ?_
  obtain ⟨hp, g, d, tk, os⟩ := s
  obtain ⟨hl, hb, h⟩ := h
  have s1 := AutoSeq1.idx_int
  have s2 := AutoSeq1.sub_tuple_tuple
  have s3 := AutoSeq1.sub_list_list
  have s4 := AutoSeq1.sub_tuple_list
  have s5 := AutoSeq1.sub_list_tuple
  have hz : (its ++ ts).size ≤ sizeLine + 1 := by
    rw [Array.size_append]
    exact h2
  wp_walk using (wpAny_updateSeq hl rfl (hz := h1) (_hz' := hz)), AutoSeq1.wpAny_loadPart' hl, AutoSeq1.wpAny_loadPart' hb
  exact ⟨_, rfl, h⟩
section
variable {X : Cx}
def rExtT (K : PySem.W.Frag) : V → List V → Hp → VK → Prop := fun x vs H Q => ∃ l b xs zs, x = .ref l ∧ vs = [.ref b] ∧ H l = some (.lst xs) ∧ SqT K H b zs ∧ xs.length + zs.length ≤ sizeLine ∧ Q .non (upd H l (.lst (xs ++ zs)))
theorem mt_extT : MtM X "list.extend" (rExtT X.K) := by
  intro pins s σ H x vs v us Q I rx rv h
  obtain ⟨l, b, xs, zs, rfl, rfl, hH, hB, hz, q⟩ := h
  cases rx
  obtain ⟨u, rfl, ru⟩ := rv.one
  cases ru
  obtain ⟨z, its, n, r, hl, e⟩ := I.lstM hH
  obtain ⟨ts, r2, ⟨⟨oc, od, dt, sl⟩, e2, c2, m, d2⟩, z2⟩ := I.tuple hB
  have c2' : oc = Value.type "tuple" := c2
  have d2' : dt = Data.seq ts.toArray m := d2
  subst c2' d2'
  have l2 := r2.length
  have sz : its.toArray.size + ts.toArray.size ≤ sizeLine := by
    rw [List.size_toArray, List.size_toArray]
    omega
  have short : ¬(!its.toArray.isEmpty && Builtin.List.listTooLong (its.toArray.size + ts.toArray.size)) = true := by
    rw [notLongL sz, Bool.and_false]
    exact Bool.false_ne_true
  refine call_meets F.slot_list_extend ⟨_, e, rfl⟩ F.entry_list_extend (F.args_list_extend_2 _ _) (extend_tup l its.toArray n b ts.toArray m od sl short (by rw [List.size_toArray]; omega) (by omega)) ⟨e, e2, ?_⟩
  exact ⟨.non, _, I.lset (its' := its ++ ts) hH e (by simp) (r.append r2) (by rw [List.length_append]; omega), rfl, q⟩
end
end Own

namespace K1
open PySem PySem.Spec PyProof.Rows L2 Own
/-! ### data: names, numbers, pairs, groups -/
def nameB (z : Str) : Bool := decide (1 ≤ z.length) && (decide (z.length ≤ 8) && z.cps.toList.all fun c => decide (c ∈ abc.cps.toList))
def isNameD : PyData → Bool
  | .str z => nameB z
  | _ => false
def isNumD : PyData → Bool
  | .int i => decide (0 ≤ i)
  | _ => false
def isPairD : PyData → Bool
  | .tuple ds => decide (ds.length = 2)
  | _ => false
mutual
/-- data of a size that a rule takes -/
def okD : PyData → Bool
  | .none => true
  | .bool _ => true
  | .int _ => true
  | .str z => PyData.strOk z && decide (z.length ≤ 1000)
  | .list ds => decide (ds.length ≤ 1000) && okAll ds
  | .tuple ds => decide (ds.length ≤ 1000) && okAll ds
  | .dict _ => false
def okAll : List PyData → Bool
  | [] => true
  | d :: r => okD d && okAll r
end
theorem okAll_mem : ∀ {ds : List PyData}, okAll ds = true → ∀ d ∈ ds, okD d = true
  | [], _, d, h => nomatch h
  | x :: r, e, d, h => by
    obtain ⟨e1, e2⟩ := Bool.and_eq_true_iff.mp (show (okD x && okAll r) = true from e)
    rcases List.mem_cons.mp h with q | q
    · rw [q]
      exact e1
    · exact okAll_mem e2 d q
mutual
theorem ok_lay : ∀ d : PyData, okD d = true → d.canLay0 = true
  | .none, _ => rfl
  | .bool _, _ => rfl
  | .int _, _ => rfl
  | .str z, h => (Bool.and_eq_true_iff.mp h).1
  | .list ds, h => okAll_lay ds (Bool.and_eq_true_iff.mp h).2
  | .tuple ds, h => okAll_lay ds (Bool.and_eq_true_iff.mp h).2
  | .dict _, h => nomatch h
theorem okAll_lay : ∀ ds : List PyData, okAll ds = true → PyData.canLayAll0 ds = true
  | [], _ => rfl
  | d :: r, h => by
    obtain ⟨e1, e2⟩ := Bool.and_eq_true_iff.mp (show (okD d && okAll r) = true from h)
    show (d.canLay0 && PyData.canLayAll0 r) = true
    rw [ok_lay d e1, okAll_lay r e2]
    rfl
end
theorem dep_mem : ∀ {ds : List PyData} {d : PyData}, d ∈ ds → d.depth ≤ PyData.depthAll ds
  | [], _, h => nomatch h
  | x :: r, d, h => by
    show d.depth ≤ max x.depth (PyData.depthAll r)
    rcases List.mem_cons.mp h with q | q
    · rw [q]
      exact Nat.le_max_left _ _
    · exact Nat.le_trans (dep_mem q) (Nat.le_max_right _ _)
structure Fit (d : PyData) : Prop where
  ok : okD d = true
  dep : d.depth ≤ 60
theorem Fit.lay {d : PyData} (h : Fit d) : d.canLay0 = true := ok_lay d h.ok
theorem Fit.str {d : PyData} (h : Fit d) : ∀ z, d = .str z → z.length ≤ sizeLine := fun z e => by
  subst e
  have q := of_decide_eq_true (Bool.and_eq_true_iff.mp h.ok).2
  rw [sizeLine_eq]
  omega
theorem Fit.shaped {d : PyData} (h : Fit d) : SeqAt.shaped d = true := by
  show (d.canLay0 && decide (d.depth ≤ 64)) = true
  rw [h.lay, decide_eq_true (by have := h.dep; omega)]
  rfl
theorem Fit.kid {ds : List PyData} (h : Fit (.tuple ds)) {d : PyData} (m : d ∈ ds) : Fit d := by
  refine ⟨okAll_mem (Bool.and_eq_true_iff.mp h.ok).2 d m, ?_⟩
  have q : PyData.depthAll ds + 1 ≤ 60 := h.dep
  have r := dep_mem m
  omega
theorem Fit.kidL {ds : List PyData} (h : Fit (.list ds)) {d : PyData} (m : d ∈ ds) : Fit d := by
  refine ⟨okAll_mem (Bool.and_eq_true_iff.mp h.ok).2 d m, ?_⟩
  have q : PyData.depthAll ds + 1 ≤ 60 := h.dep
  have r := dep_mem m
  omega
theorem Fit.few {ds : List PyData} (h : Fit (.tuple ds)) : ds.length ≤ 1000 := of_decide_eq_true (Bool.and_eq_true_iff.mp h.ok).1
def spD1 (K : PySem.W.Frag) (f : PyData → Bool) : Sp := fun vs H Q _ => ∃ v d, vs = [v] ∧ Dp K H v d ∧ Fit d ∧ ∀ H', Same H H' → Q (.bl (f d)) H'
def isStrD : PyData → Bool
  | .str _ => true
  | _ => false
def isIntD : PyData → Bool
  | .int _ => true
  | .bool _ => true
  | _ => false
def isBoolD : PyData → Bool
  | .bool _ => true
  | _ => false
def isTupD : PyData → Bool
  | .tuple _ => true
  | _ => false
def isListD : PyData → Bool
  | .list _ => true
  | _ => false
theorem kt_str (d : PyData) : kitB (tyD d) "str" = some (isStrD d) := by
  cases d with
  | none => exact (by decide +kernel : kitB "NoneType" "str" = some false)
  | bool _ => exact (by decide +kernel : kitB "bool" "str" = some false)
  | int _ => exact (by decide +kernel : kitB "int" "str" = some false)
  | str _ => exact (by decide +kernel : kitB "str" "str" = some true)
  | list _ => exact (by decide +kernel : kitB "list" "str" = some false)
  | tuple _ => exact (by decide +kernel : kitB "tuple" "str" = some false)
  | dict _ => exact (by decide +kernel : kitB "dict" "str" = some false)
theorem kt_int (d : PyData) : kitB (tyD d) "int" = some (isIntD d) := by
  cases d with
  | none => exact (by decide +kernel : kitB "NoneType" "int" = some false)
  | bool _ => exact (by decide +kernel : kitB "bool" "int" = some true)
  | int _ => exact (by decide +kernel : kitB "int" "int" = some true)
  | str _ => exact (by decide +kernel : kitB "str" "int" = some false)
  | list _ => exact (by decide +kernel : kitB "list" "int" = some false)
  | tuple _ => exact (by decide +kernel : kitB "tuple" "int" = some false)
  | dict _ => exact (by decide +kernel : kitB "dict" "int" = some false)
theorem kt_bool (d : PyData) : kitB (tyD d) "bool" = some (isBoolD d) := by
  cases d with
  | none => exact (by decide +kernel : kitB "NoneType" "bool" = some false)
  | bool _ => exact (by decide +kernel : kitB "bool" "bool" = some true)
  | int _ => exact (by decide +kernel : kitB "int" "bool" = some false)
  | str _ => exact (by decide +kernel : kitB "str" "bool" = some false)
  | list _ => exact (by decide +kernel : kitB "list" "bool" = some false)
  | tuple _ => exact (by decide +kernel : kitB "tuple" "bool" = some false)
  | dict _ => exact (by decide +kernel : kitB "dict" "bool" = some false)
theorem kt_tuple (d : PyData) : kitB (tyD d) "tuple" = some (isTupD d) := by
  cases d with
  | none => exact (by decide +kernel : kitB "NoneType" "tuple" = some false)
  | bool _ => exact (by decide +kernel : kitB "bool" "tuple" = some false)
  | int _ => exact (by decide +kernel : kitB "int" "tuple" = some false)
  | str _ => exact (by decide +kernel : kitB "str" "tuple" = some false)
  | list _ => exact (by decide +kernel : kitB "list" "tuple" = some false)
  | tuple _ => exact (by decide +kernel : kitB "tuple" "tuple" = some true)
  | dict _ => exact (by decide +kernel : kitB "dict" "tuple" = some false)
theorem kt_list (d : PyData) : kitB (tyD d) "list" = some (isListD d) := by
  cases d with
  | none => exact (by decide +kernel : kitB "NoneType" "list" = some false)
  | bool _ => exact (by decide +kernel : kitB "bool" "list" = some false)
  | int _ => exact (by decide +kernel : kitB "int" "list" = some false)
  | str _ => exact (by decide +kernel : kitB "str" "list" = some false)
  | list _ => exact (by decide +kernel : kitB "list" "list" = some true)
  | tuple _ => exact (by decide +kernel : kitB "tuple" "list" = some false)
  | dict _ => exact (by decide +kernel : kitB "dict" "list" = some false)
theorem isi_d {K : PySem.W.Frag} {H : Hp} {v : V} {d : PyData} {T : String} {b : Bool} (h : Dp K H v d) (e : kitB (tyD d) T = some b) : ∃ t, TyX K H v t ∧ PySem.W.kitOne K t (.type T) = some b := ⟨_, dp_ty h, kit_ty e⟩
theorem rep_map (z : Str) (i : Nat) (c : Nat) (f : Nat → Bool) (h : z.cps[i]? = some c) : (z.cps.toList.take (i + 1)).map f = (z.cps.toList.take i).map f ++ [f c] := by
  rw [List.take_add_one, show z.cps.toList[i]? = some c from by rw [Array.getElem?_toList]; exact h, List.map_append]
  rfl
section
variable {P : Program} {w : World} {K : PySem.W.Frag} {mg : Str → Option Value} {base : Heap}
theorem ok_isNameD {f : Addr} {fd : FuncData} {tL : Tok} {tA : Tok} (F : Fun K "is_name" "is_name" sIsName f fd) (ml : mg "len" = none) (mi : mg "isinstance" = none) (ms : mg "str" = none) (ma : mg "all" = none) (mL : mg "LONGEST_NAME" = some (.int 8 tL)) (mA : mg "LETTERS" = some (.str abc tA)) :
    FnOk P w K mg base CX0 1 f fd ["thing"] (spD1 K isNameD) := by
  refine F.ok scIsName (fun vs H Q E h => ?_) (fun cdv A outer s H vs Q E hr h => ?_)
  · obtain ⟨v, d, rfl, _⟩ := h
    rfl
  · obtain ⟨v, d, rfl, hd, fit, k⟩ := h
    refine ⟨_, pss_cons (ps_if (PW.pt (pw_or (pt_not (pt_val (pe_callB call_isi (by rfl) mi (by decide +kernel) (pa_cons (pv 0) (pa_cons (pe_bltn (v := .ty "str") (u := .type "str") (by rfl) ms (by decide +kernel) rfl) pa_nil)))))
        (pw_or1 (pt_not (pt_chain op_le op_le pe_int (pe_callB call_len_str (by rfl) ml PySem.boot_len (pa_cons (pv 0) pa_nil)) (pe_glob (v := .int 8) (by rfl) mL ⟨_, rfl⟩)))))) (pss_one (ps_ret pe_bl)) pss_nil)
      (pss_one (ps_ret (pe_callB (cr_all rfl) (by rfl) ma (by decide +kernel) (pa_cons (pe_lc (own := [("letter", 1)]) (g := gName 1) (tt := tYes) rfl scIsName.nd (pi_str (pv 0)) (blkOk_by (N := ["thing", "letter"]) (sc := defScope sIsName) (by decide +kernel))
        (fun _ _ _ _ _ => pg_name (i := 1) scIsName.nd rfl (Or.inl rfl)) (fun _ _ _ _ _ => pts_nil) (fun _ _ _ _ _ => pe_cmpR op_in_sign (pv 1) (pe_glob (v := .str abc) (by rfl) mA ⟨_, rfl⟩) rfl)) pa_nil)))), ?_⟩
    have ty := dp_ty hd
    cases hd with
    | str z =>
      refine ⟨_, rfl, _, .ty "str", _, _, true, rfl, .ty "str", ty, kit_ty (kt_str _), true, rfl, iteF ?_⟩
      refine ⟨_, rfl, z, rfl, fit.str z rfl, _, _, rfl, rfl, _, rfl, ?_⟩
      by_cases h1 : 1 ≤ z.length
      · refine iteTD (by omega) ⟨_, _, rfl, rfl, _, rfl, ?_⟩
        by_cases h2 : z.length ≤ 8
        · rw [show decide ((z.length : Int) ≤ 8) = true from decide_eq_true (by omega)]
          refine iteF ⟨_, rfl, z, rfl, fun D nD => lc_it walk_str (fun i H' => Same H H' ∧ H' D = some (.lst (((z.cps.toList.take i).map fun c => decide (c ∈ abc.cps.toList)).map V.bl))) ⟨same_upd nD, upd_same⟩ (fun _ _ _ _ => trivial) ?_ ?_⟩
          · rintro i x H1 H' hi ⟨sm, hD⟩ ⟨rfl, c, hc, rfl⟩
            have hz : z.cps.toList.length ≤ 8 := by
              rw [← len_list]
              exact h2
            refine ⟨rfl, _, rfl, c, abc, rfl, rfl, _, hD, ?_, same_past nD sm, ?_⟩
            · rw [List.length_map, List.length_map, List.length_take]
              exact small1000 (by omega)
            · rw [upd_same, rep_map z i c _ hc, List.map_append]
              rfl
          · rintro H' ⟨sm, hD⟩
            have hl : z.cps.size = z.cps.toList.length := (Array.length_toList).symm
            rw [hl, List.take_of_length_le (Nat.le_refl _)] at hD
            refine ⟨D, _, rfl, SqL.of hD, ?_⟩
            have e : ((z.cps.toList.map fun c => decide (c ∈ abc.cps.toList)).all id) = nameB z := by
              unfold nameB
              rw [decide_eq_true h1, decide_eq_true h2, List.all_map]
              rfl
            rw [e]
            exact k _ sm
        · rw [show decide ((z.length : Int) ≤ 8) = false from decide_eq_false (by omega)]
          refine iteT ?_
          have e : isNameD (.str z) = false := by
            show nameB z = false
            unfold nameB
            rw [decide_eq_false h2, Bool.false_and, Bool.and_false]
          rw [e] at k
          exact k _ (Same.refl _)
      · refine iteFD (by omega) ⟨_, rfl, iteT ?_⟩
        have e : isNameD (.str z) = false := by
          show nameB z = false
          unfold nameB
          rw [decide_eq_false h1, Bool.false_and]
        rw [e] at k
        exact k _ (Same.refl _)
    | _ => exact ⟨_, rfl, _, .ty "str", _, _, false, rfl, .ty "str", ty, kit_ty (kt_str _), false, rfl, iteT (k _ (Same.refl _))⟩
end
end K1

namespace K1
open PySem PySem.Spec PyProof.Rows L2 Own
def msgD (d : PyData) : Bool := PyData.eqv d (.str "") || isNameD d
def isGroupD : PyData → Bool
  | .tuple [m, .tuple (_ :: _)] => msgD m
  | _ => false
section
variable {P : Program} {w : World} {K : PySem.W.Frag} {mg : Str → Option Value} {base : Heap}
theorem ok_isPairD {f : Addr} {fd : FuncData} (F : Fun K "is_pair" "is_pair" sIsPair f fd) (ml : mg "len" = none) (mi : mg "isinstance" = none) (mt : mg "tuple" = none) : FnOk P w K mg base CX0 1 f fd ["thing"] (spD1 K isPairD) := by
  refine F.ok scIsPair (fun vs H Q E h => ?_) (fun cdv A outer s H vs Q E hr h => ?_)
  · obtain ⟨v, d, rfl, _⟩ := h
    rfl
  · obtain ⟨v, d, rfl, hd, fit, k⟩ := h
    refine ⟨_, pss_one (ps_ret (pe_and (pe_callB call_isi (by rfl) mi (by decide +kernel) (pa_cons (pv 0) (pa_cons (pe_bltn (v := .ty "tuple") (u := .type "tuple") (by rfl) mt (by decide +kernel) rfl) pa_nil)))
      (pe_one (pe_cmpR op_eq (pe_callB call_len_seq (by rfl) ml PySem.boot_len (pa_cons (pv 0) pa_nil)) pe_int (nomark _))))), ?_⟩
    have ty := dp_ty hd
    have k0 := k H (Same.refl H)
    cases hd with
    | tup hs ha =>
      refine ⟨_, rfl, _, .ty "tuple", _, _, true, rfl, .ty "tuple", ty, kit_ty (kt_tuple _), true, rfl, iteT ?_⟩
      refine ⟨_, rfl, _, _, rfl, .inr hs, rfl, ?_⟩
      rw [dpAll_len ha]
      rename_i ds
      have e : decide (V.int (ds.length : Int) = V.int 2) = decide (ds.length = 2) := by
        rw [decide_eq_decide]
        exact ⟨fun h => by have := V.int.inj h; omega, fun h => by rw [h]; rfl⟩
      rw [e]
      exact k0
    | _ => exact ⟨_, rfl, _, .ty "tuple", _, _, false, rfl, .ty "tuple", ty, kit_ty (kt_tuple _), false, rfl, iteF k0⟩
theorem scIsNumber : FnScope ["thing"] ["thing"] (defScope sIsNumber) := ⟨rfl, rfl, rfl, by decide +kernel, rfl, by decide +kernel, by decide +kernel⟩
theorem ok_isNumD {f : Addr} {fd : FuncData} (F : Fun K "is_number" "is_number" sIsNumber f fd) (mi : mg "isinstance" = none) (mt : mg "int" = none) (mb : mg "bool" = none) : FnOk P w K mg base CX0 1 f fd ["thing"] (spD1 K isNumD) := by
  refine F.ok scIsNumber (fun vs H Q E h => ?_) (fun cdv A outer s H vs Q E hr h => ?_)
  · obtain ⟨v, d, rfl, _⟩ := h
    rfl
  · obtain ⟨v, d, rfl, hd, fit, k⟩ := h
    refine ⟨_, pss_one (ps_ret (pe_and (pe_callB call_isi (by rfl) mi (by decide +kernel) (pa_cons (pv 0) (pa_cons (pe_bltn (v := .ty "int") (u := .type "int") (by rfl) mt (by decide +kernel) rfl) pa_nil)))
      (pe_and (pe_not (pe_callB call_isi (by rfl) mi (by decide +kernel) (pa_cons (pv 0) (pa_cons (pe_bltn (v := .ty "bool") (u := .type "bool") (by rfl) mb (by decide +kernel) rfl) pa_nil))))
      (pe_one (pe_cmpR op_ge (pv 0) pe_int (nomark _)))))), ?_⟩
    have ty := dp_ty hd
    have k0 := k H (Same.refl H)
    cases hd with
    | int i =>
      refine ⟨_, rfl, _, .ty "int", _, _, true, rfl, .ty "int", ty, kit_ty (kt_int _), true, rfl, iteT ?_⟩
      refine ⟨_, rfl, _, .ty "bool", _, _, false, rfl, .ty "bool", ty, kit_ty (kt_bool _), false, rfl, true, rfl, iteT ?_⟩
      exact ⟨_, rfl, _, _, rfl, rfl, k0⟩
    | bl b =>
      refine ⟨_, rfl, _, .ty "int", _, _, true, rfl, .ty "int", ty, kit_ty (kt_int _), true, rfl, iteT ?_⟩
      exact ⟨_, rfl, _, .ty "bool", _, _, true, rfl, .ty "bool", ty, kit_ty (kt_bool _), true, rfl, false, rfl, iteF k0⟩
    | _ => exact ⟨_, rfl, _, .ty "int", _, _, false, rfl, .ty "int", ty, kit_ty (kt_int _), false, rfl, iteF k0⟩
end
end K1

namespace K1
open PySem PySem.Spec PyProof.Rows L2 Own
theorem pair_of : ∀ {d : PyData}, isPairD d = true → ∃ m i, d = .tuple [m, i]
  | .tuple [], h => nomatch h
  | .tuple [_], h => nomatch h
  | .tuple [m, i], _ => ⟨m, i, rfl⟩
  | .tuple (_ :: _ :: _ :: r), h => by
    have q := of_decide_eq_true (show decide (r.length + 3 = 2) = true from h)
    omega
  | .none, h => nomatch h
  | .bool _, h => nomatch h
  | .int _, h => nomatch h
  | .str _, h => nomatch h
  | .list _, h => nomatch h
  | .dict _, h => nomatch h
theorem group_pair : ∀ {d : PyData}, isGroupD d = true → isPairD d = true
  | .tuple [_, .tuple (_ :: _)], _ => rfl
theorem group_no {d : PyData} (h : isPairD d = false) : isGroupD d = false := by
  cases e : isGroupD d with
  | false => rfl
  | true =>
    rw [group_pair e] at h
    cases h
theorem fit_empty : Fit (.str "") := ⟨by decide +kernel, by decide⟩
/-- a pair's two values -/
theorem dp_pair {K : PySem.W.Frag} {H : Hp} {v : V} {m i : PyData} (h : Dp K H v (.tuple [m, i])) : ∃ a x y, v = .ref a ∧ SqT K H a [x, y] ∧ Dp K H x m ∧ Dp K H y i := by
  cases h with
  | tup hs ha =>
    cases ha with
    | cons hm r =>
      cases r with
      | cons hi n =>
        cases n
        exact ⟨_, _, _, rfl, hs, hm, hi⟩
section
variable {P : Program} {w : World} {K : PySem.W.Frag} {mg : Str → Option Value} {base : Heap}
theorem scIsGroup : FnScope ["thing", "message", "inner"] ["thing"] (defScope sIsGroup) := ⟨rfl, rfl, rfl, by decide +kernel, rfl, by decide +kernel, by decide +kernel⟩
theorem ok_isGroup {f fP fN : Addr} {fd dP dN : FuncData} (F : Fun K "is_group" "is_group" sIsGroup f fd) (GP : FnOk P w K mg base CX0 1 fP dP ["thing"] (spD1 K isPairD)) (kP : PySem.W.keepIn K (.ref fP) = true) (bP : Binds K dP ["thing"] []) (mP : mg "is_pair" = some (.ref fP))
    (GN : FnOk P w K mg base CX0 1 fN dN ["thing"] (spD1 K isNameD)) (kN : PySem.W.keepIn K (.ref fN) = true) (bN : Binds K dN ["thing"] []) (mN : mg "is_name" = some (.ref fN)) (ml : mg "len" = none) (mi : mg "isinstance" = none) (mt : mg "tuple" = none) : FnOk P w K mg base CX0 2 f fd ["thing"] (spD1 K isGroupD) := by
  refine F.ok scIsGroup (fun vs H Q E h => ?_) (fun cdv A outer s H vs Q E hr h => ?_)
  · obtain ⟨v, d, rfl, _⟩ := h
    rfl
  · obtain ⟨v, d, rfl, hd, fit, k⟩ := h
    refine ⟨_, pss_cons (ps_if (pt_not (pt_val (pe_call GP hr (by rfl) mP kP bP .nil pass0 (pa_cons (pv 0) pa_nil)))) (pss_one (ps_ret pe_bl)) pss_nil)
      (pss_cons (ps_asg (pv 0) (pg_tup rfl (pgs_cons (pg_name (i := 1) scIsGroup.nd rfl (Or.inl rfl)) (pgs_cons (pg_name (i := 2) scIsGroup.nd rfl (Or.inl rfl)) pgs_nil))))
      (pss_one (ps_ret (pe_and (pe_or (pe_cmpR (op_eqD hr.units) (pv 1) pe_str (nomark _)) (pe_one (pe_call GN hr (by rfl) mN kN bN .nil pass0 (pa_cons (pv 1) pa_nil))))
        (pe_and (pe_callB call_isi (by rfl) mi (by decide +kernel) (pa_cons (pv 2) (pa_cons (pe_bltn (v := .ty "tuple") (u := .type "tuple") (by rfl) mt (by decide +kernel) rfl) pa_nil)))
          (pe_one (pe_cmpR op_gt (pe_callB call_len_seq (by rfl) ml PySem.boot_len (pa_cons (pv 2) pa_nil)) pe_int (nomark _)))))))), ?_⟩
    refine ⟨_, rfl, v, d, rfl, hd, fit, fun H1 s1 => ?_⟩
    cases ep : isPairD d with
    | false =>
      rw [group_no ep] at k
      exact ⟨_, rfl, iteT (k _ s1)⟩
    | true =>
      obtain ⟨m, i, rfl⟩ := pair_of ep
      have fm : Fit m := fit.kid (List.mem_cons_self ..)
      have fi : Fit i := fit.kid (List.mem_cons_of_mem _ (List.mem_cons_self ..))
      obtain ⟨a, x, y, rfl, hs, hm, hi⟩ := dp_pair (dp_same s1 hd)
      refine ⟨_, rfl, iteF ⟨_, rfl, a, _, rfl, hs, rfl, _, _, rfl, _, _, rfl, rfl, ?_⟩⟩
      have tail : ∀ H2, Same H1 H2 → msgD m = true → tAndV (tCB (rIsi K) (tCons (tVar 2) (tCons (tC (.ty "tuple")) tNil))) (tOp (rI0 fun i j => .bl (decide (j < i))) (tCB (fun xs H Q => ∃ p ys, xs = [V.ref p] ∧ (SqL K H p ys ∨ SqT K H p ys) ∧ Q (V.int ys.length) H) (tCons (tVar 2) tNil)) (tC (.int 0))) [some (.ref a), some x, some y] H2 Q := fun H2 s2 em => by
        have k2 := k H2 (s1.trans s2)
        have hi2 := dp_same s2 hi
        have ty := dp_ty hi2
        cases hi2 with
        | tup hs2 ha2 =>
          refine ⟨_, rfl, _, .ty "tuple", _, _, true, rfl, .ty "tuple", ty, kit_ty (kt_tuple _), true, rfl, iteT ?_⟩
          refine ⟨_, rfl, _, _, rfl, .inr hs2, _, _, rfl, rfl, ?_⟩
          rw [dpAll_len ha2]
          rename_i ds
          cases ds with
          | nil => exact k2
          | cons c r =>
            have e : isGroupD (.tuple [m, .tuple (c :: r)]) = true := em
            rw [e] at k2
            show Q (.bl (decide ((0 : Int) < (((c :: r).length : Nat) : Int)))) H2
            rw [show decide ((0 : Int) < (((c :: r).length : Nat) : Int)) = true from decide_eq_true (by rw [List.length_cons]; omega)]
            exact k2
        | _ => exact ⟨_, rfl, _, .ty "tuple", _, _, false, rfl, .ty "tuple", ty, kit_ty (kt_tuple _), false, rfl, iteF k2⟩
      have none_ : ∀ H2, Same H1 H2 → msgD m = false → Q (.bl false) H2 := fun H2 s2 em => by
        have e : isGroupD (.tuple [m, i]) = false := by
          cases i with
          | tuple ds =>
            cases ds with
            | nil => rfl
            | cons c r => exact em
          | _ => rfl
        have k2 := k H2 (s1.trans s2)
        rw [e] at k2
        exact k2
      refine ⟨_, rfl, m, .str "", hm, .str "", fm.shaped, fit_empty.shaped, ?_⟩
      cases ee : PyData.eqv m (.str "") with
      | true => exact ⟨true, rfl, iteT ⟨true, rfl, iteT (tail H1 (Same.refl H1) (by unfold msgD; rw [ee]; rfl))⟩⟩
      | false =>
        refine ⟨false, rfl, iteF ⟨_, rfl, x, m, rfl, hm, fm, fun H2 s2 => ?_⟩⟩
        cases en : isNameD m with
        | true => exact ⟨true, rfl, iteT (tail H2 s2 (by unfold msgD; rw [ee, en]; rfl))⟩
        | false => exact ⟨false, rfl, iteF (none_ H2 s2 (by unfold msgD; rw [ee, en]; rfl))⟩
end
end K1

namespace K1
open PySem PySem.Spec PyProof.Rows L2 Own
/-! ### trees -/
def inD (ns : List Str) : PyData → Bool
  | .str z => decide (z ∈ ns)
  | _ => false
def isLeafD (ns : List Str) : PyData → Bool
  | .tuple [n, i] => inD ns n && isNumD i
  | _ => false
theorem leaf_no {ns : List Str} {d : PyData} (h : isPairD d = false) : isLeafD ns d = false := by
  cases e : isLeafD ns d with
  | false => rfl
  | true =>
    match d, e with
    | .tuple [_, _], _ => cases h
def spLeaf (C : Addr) (K : PySem.W.Frag) : Sp := fun vs H Q _ => ∃ x v ls ls' T d, vs = [.ref x, v] ∧ KIn C H x ls ls' T ∧ Dp K H v d ∧ Fit d ∧ ∀ H', Same H H' → Q (.bl (isLeafD (nms ls) d)) H'
section
variable {P : Program} {w : World} {K : PySem.W.Frag} {mg : Str → Option Value} {base : Heap}
/-- what a table says of data -/
theorem in_dp {C x : Addr} {H : Hp} {v : V} {d : PyData} {ls ls' : List Ln} {T : Tb} {R : Bool → Hp → Prop} (hd : Dp K H v d) (kin : KIn C H x ls ls' T) (k : R (inD (nms ls) d) H) : spIn C K [.ref x, v] H (fun v H1 => ∃ b, v = .bl b ∧ R b H1) E0 := by
  refine ⟨x, v, ls, ls', T, rfl, kin, ?_⟩
  cases hd with
  | str z => exact .inl ⟨z, rfl, _, rfl, k⟩
  | non => exact .inr ⟨_, .base .non, kit_ty (kt_str .none), _, rfl, k⟩
  | bl b => exact .inr ⟨_, .base (.bl b), kit_ty (kt_str (.bool b)), _, rfl, k⟩
  | int i => exact .inr ⟨_, .base (.int i), kit_ty (kt_str (.int i)), _, rfl, k⟩
  | lst hs ha => exact .inr ⟨_, dp_ty (.lst hs ha), kit_ty (kt_str (.list _)), _, rfl, k⟩
  | tup hs ha => exact .inr ⟨_, dp_ty (.tup hs ha), kit_ty (kt_str (.tuple _)), _, rfl, k⟩
end
end K1

namespace K1
open PySem PySem.Spec PyProof.Rows L2 Own
mutual
/-- how many values stand in data -/
def ndD : PyData → Nat
  | .list ds => ndAll ds + 1
  | .tuple ds => ndAll ds + 1
  | _ => 1
def ndAll : List PyData → Nat
  | [] => 0
  | d :: r => ndD d + ndAll r
end
theorem nd_pos : ∀ d : PyData, 1 ≤ ndD d
  | .none => Nat.le_refl _
  | .bool _ => Nat.le_refl _
  | .int _ => Nat.le_refl _
  | .str _ => Nat.le_refl _
  | .list _ => Nat.le_add_left _ _
  | .tuple _ => Nat.le_add_left _ _
  | .dict _ => Nat.le_refl _
theorem ndAll_app : ∀ (a b : List PyData), ndAll (a ++ b) = ndAll a + ndAll b
  | [], b => (Nat.zero_add _).symm
  | d :: r, b => by
    show ndD d + ndAll (r ++ b) = ndD d + ndAll r + ndAll b
    rw [ndAll_app r b, Nat.add_assoc]
theorem ndAll_len : ∀ ds : List PyData, ds.length ≤ ndAll ds
  | [] => Nat.le_refl _
  | d :: r => by
    have a := nd_pos d
    have b := ndAll_len r
    show r.length + 1 ≤ ndD d + ndAll r
    omega
theorem nd_mem : ∀ {ds : List PyData} {d : PyData}, d ∈ ds → ndD d ≤ ndAll ds
  | [], _, h => nomatch h
  | x :: r, d, h => by
    show ndD d ≤ ndD x + ndAll r
    rcases List.mem_cons.mp h with q | q
    · rw [q]
      omega
    · have := nd_mem q
      omega
def kidsD : PyData → List PyData
  | .tuple [_, .tuple cs] => cs
  | _ => []
theorem kids_nd (d : PyData) : ndAll (kidsD d) < ndD d := by
  unfold kidsD
  split
  · rename_i m cs
    show ndAll cs < (ndD m + ((ndAll cs + 1) + 0)) + 1
    omega
  · exact nd_pos _
def treeD (ns : List Str) (d : PyData) : Bool := if isGroupD d = true then (kidsD d).attach.all fun c => treeD ns c.1 else isLeafD ns d
termination_by ndD d
decreasing_by
  have a := kids_nd d
  have b := nd_mem c.2
  omega
theorem tree_eq (ns : List Str) (d : PyData) : treeD ns d = if isGroupD d = true then (kidsD d).all (treeD ns) else isLeafD ns d := by
  rw [treeD]
  split
  · rw [Bool.eq_iff_iff, List.all_eq_true, List.all_eq_true]
    exact ⟨fun h c hc => h ⟨c, hc⟩ (List.mem_attach _ _), fun h c _ => h c.1 c.2⟩
  · rfl
theorem dpAll_snoc {K : PySem.W.Frag} {H : Hp} : ∀ {vs : List V} {ds : List PyData}, DpAll K H vs ds → vs ≠ [] → ∃ ws y es e, vs = ws ++ [y] ∧ ds = es ++ [e] ∧ DpAll K H ws es ∧ Dp K H y e
  | _, _, .nil, n => absurd rfl n
  | v :: [], d :: _, .cons a .nil, _ => ⟨[], v, [], d, rfl, rfl, .nil, a⟩
  | v :: u :: r, d :: _, .cons a b, _ => by
    obtain ⟨ws, y, es, e, h1, h2, h3, h4⟩ := dpAll_snoc b (fun z => nomatch z)
    exact ⟨v :: ws, y, d :: es, e, by rw [h1]; rfl, by rw [h2]; rfl, .cons a h3, h4⟩
theorem group_of {d : PyData} (h : isGroupD d = true) : ∃ m c r, d = .tuple [m, .tuple (c :: r)] := by
  match d, h with
  | .tuple [m, .tuple (c :: r)], _ => exact ⟨m, c, r, rfl⟩
def spTree (C : Addr) (K : PySem.W.Frag) : Sp := fun vs H Q _ => ∃ x v ls ls' T d, vs = [.ref x, v] ∧ KIn C H x ls ls' T ∧ Dp K H v d ∧ Fit d ∧ ndD d ≤ 1000000 ∧ ∀ H', Same H H' → Q (.bl (treeD (nms ls) d)) H'
section
variable {P : Program} {w : World} {K : PySem.W.Frag} {mg : Str → Option Value} {base : Heap}
end
end K1

namespace Own
open PySem PySem.Spec PyProof.Rows L2
/-! == and != of data up to a depth of 150 -/
def deepOk (d : PyData) : Bool := d.canLay0 && decide (d.depth ≤ 150)
theorem deepOk.lay {d : PyData} (h : deepOk d = true) : d.canLay0 = true := (Bool.and_eq_true_iff.mp h).1
theorem deepOk.dep {d : PyData} (h : deepOk d = true) : d.depth ≤ 150 := of_decide_eq_true (Bool.and_eq_true_iff.mp h).2
theorem deepOk.room {A : Around} {d e : PyData} (h : deepOk d = true) (hu : A.units + 150 < cLine) : A.units + min d.depth e.depth < cLine := Nat.lt_of_le_of_lt (Nat.add_le_add_left (Nat.le_trans (Nat.min_le_left _ _) (deepOk.dep h)) _) hu
theorem _root_.L2.Room.units150 {k : Nat} {A : Around} (r : Room k A) : A.units + 150 < cLine := by
  have := r.un
  omega
section
variable {X : Cx}
def rEqB (K : PySem.W.Frag) : R2 := fun x y H Q => ∃ d e, Dp K H x d ∧ Dp K H y e ∧ deepOk d = true ∧ deepOk e = true ∧ Q (.bl (PyData.eqv d e)) H
def rNeB (K : PySem.W.Frag) : R2 := fun x y H Q => ∃ d e, Dp K H x d ∧ Dp K H y e ∧ deepOk d = true ∧ deepOk e = true ∧ Q (.bl (!PyData.eqv d e)) H
theorem op_eqB (hu : X.A.units + 150 < cLine) : OpR X (compareOp .Eq) (rEqB X.K) := fun pins s σ H x y v u Q I rx ry ⟨d, e, hd, he, sd, se, q⟩ => by
  obtain ⟨bs, r2⟩ := Dp.reads I e y u he ry
  obtain ⟨as, r1⟩ := Dp.reads I d x v hd rx
  exact SeqAt.compareEq_reads r1 r2 (deepOk.lay sd) (deepOk.lay se) (deepOk.room sd hu) ⟨.bl _, H, I, rfl, q⟩
theorem op_neB (hu : X.A.units + 150 < cLine) : OpR X (compareOp .NotEq) (rNeB X.K) := fun pins s σ H x y v u Q I rx ry ⟨d, e, hd, he, sd, se, q⟩ => by
  obtain ⟨bs, r2⟩ := Dp.reads I e y u he ry
  obtain ⟨as, r1⟩ := Dp.reads I d x v hd rx
  exact SeqAt.compareNe_reads r1 r2 (deepOk.lay sd) (deepOk.lay se) (deepOk.room sd hu) ⟨.bl _, H, I, rfl, q⟩
end
end Own

/-! values as trees: what a def does, told without a heap -/
namespace Ev
open PySem PySem.Spec PyProof.Rows L2 Own
inductive PV
  | non | bl (b : Bool) | int (i : Int) | str (z : Str)
  | tup (xs : List PV) | lst (xs : List PV) | sq (xs : List PV) | tq (xs : List PV) | dic (ks : List (Str × PV))
  | cell (a : Addr) | ob (R : V → Hp → Prop)
inductive MO
  | lst (xs : List PV) | any (P : HO → Prop)
abbrev Sto := Addr → Option MO
def Sto.put (st : Sto) (a : Addr) (m : Option MO) : Sto := fun b => if b = a then m else st b
abbrev Env := List (Option PV)
/-! ### the part of the heap that stays -/
def isTbl : HO → Bool
  | .tbl _ => true
  | _ => false
/-- all but what may change -/
noncomputable def hd (N : Addr → Prop) (H : Hp) : Hp := fun a => by
  classical exact if N a then none else match H a with
    | some o => if isTbl o = true then none else some o
    | none => none
theorem hd_some {N : Addr → Prop} {H : Hp} {a : Addr} {o : HO} : hd N H a = some o ↔ ¬ N a ∧ H a = some o ∧ isTbl o = false := by
  unfold hd
  by_cases n : N a
  · rw [if_pos n]
    exact ⟨(fun z => nomatch z), fun z => absurd n z.1⟩
  · rw [if_neg n]
    cases e : H a with
    | none => exact ⟨(fun z => nomatch z), fun z => nomatch z.2.1⟩
    | some u =>
      show (if isTbl u = true then none else some u) = some o ↔ _
      cases t : isTbl u with
      | true =>
        rw [if_pos rfl]
        exact ⟨(fun z => nomatch z), fun ⟨_, z, y⟩ => by
          cases z
          rw [t] at y
          cases y⟩
      | false =>
        rw [if_neg Bool.false_ne_true]
        exact ⟨fun z => ⟨n, z, by cases z; exact t⟩, fun z => z.2.1⟩
theorem hd_same {N : Addr → Prop} {H : Hp} : Same (hd N H) H := fun _ _ e => (hd_some.mp e).2.1
section
variable {K : PySem.W.Frag}
theorem rdS {H H' : Hp} (s : Same H H') {a : Addr} {o : HO} (h : Rd H a o) : Rd H' a o := h.elim (fun e => .inl (s _ _ e)) fun ⟨u, e⟩ => .inr ⟨u, s _ _ e⟩
theorem lstS {H H' : Hp} (s : Same H H') {a : Addr} {xs : List V} (h : SqL K H a xs) : SqL K H' a xs := h.imp (rdS s) id
theorem tupS {H H' : Hp} (s : Same H H') {a : Addr} {xs : List V} (h : SqT K H a xs) : SqT K H' a xs := h.imp (rdS s) id
mutual
def Rp (K : PySem.W.Frag) (H : Hp) (v : V) : PV → Prop
  | .non => v = .non
  | .bl b => v = .bl b
  | .int i => v = .int i
  | .str z => v = .str z
  | .tup xs => ∃ a us, v = .ref a ∧ H a = some (.tup us) ∧ RpAll K H us xs
  | .tq xs => ∃ a us, v = .ref a ∧ SqT K H a us ∧ RpAll K H us xs
  | .lst xs => ∃ a us, v = .ref a ∧ H a = some (.lst us) ∧ RpAll K H us xs
  | .sq xs => ∃ a us, v = .ref a ∧ SqL K H a us ∧ RpAll K H us xs
  | .dic ks => ∃ a ws, v = .ref a ∧ H a = some (.dK ws) ∧ RpKv K H ws ks
  | .cell a => v = .ref a
  | .ob R => ∀ H', Same H H' → R v H'
def RpAll (K : PySem.W.Frag) (H : Hp) (vs : List V) : List PV → Prop
  | [] => vs = []
  | p :: r => ∃ v us, vs = v :: us ∧ Rp K H v p ∧ RpAll K H us r
def RpKv (K : PySem.W.Frag) (H : Hp) (ws : List (Key × V)) : List (Str × PV) → Prop
  | [] => ws = []
  | (k, p) :: r => ∃ v us, ws = (.inr k, v) :: us ∧ Rp K H v p ∧ RpKv K H us r
end
mutual
theorem Rp.same {H H' : Hp} (s : Same H H') : ∀ {p : PV} {v : V}, Rp K H v p → Rp K H' v p
  | .non, _, h => h
  | .bl _, _, h => h
  | .int _, _, h => h
  | .str _, _, h => h
  | .tup _, _, ⟨a, us, e, q, r⟩ => ⟨a, us, e, s _ _ q, RpAll.same s r⟩
  | .tq _, _, ⟨a, us, e, q, r⟩ => ⟨a, us, e, tupS s q, RpAll.same s r⟩
  | .lst _, _, ⟨a, us, e, q, r⟩ => ⟨a, us, e, s _ _ q, RpAll.same s r⟩
  | .sq _, _, ⟨a, us, e, q, r⟩ => ⟨a, us, e, lstS s q, RpAll.same s r⟩
  | .dic _, _, ⟨a, us, e, q, r⟩ => ⟨a, us, e, s _ _ q, RpKv.same s r⟩
  | .cell _, _, h => h
  | .ob _, _, h => fun G g => h G (s.trans g)
theorem RpAll.same {H H' : Hp} (s : Same H H') : ∀ {ps : List PV} {vs : List V}, RpAll K H vs ps → RpAll K H' vs ps
  | [], _, h => h
  | _ :: _, _, ⟨v, us, e, q, r⟩ => ⟨v, us, e, Rp.same s q, RpAll.same s r⟩
theorem RpKv.same {H H' : Hp} (s : Same H H') : ∀ {ps : List (Str × PV)} {vs : List (Key × V)}, RpKv K H vs ps → RpKv K H' vs ps
  | [], _, h => h
  | _ :: _, _, ⟨v, us, e, q, r⟩ => ⟨v, us, e, Rp.same s q, RpKv.same s r⟩
end
theorem RpAll.len {H : Hp} : ∀ {ps : List PV} {vs : List V}, RpAll K H vs ps → vs.length = ps.length
  | [], _, h => by rw [show _ = _ from h]; rfl
  | _ :: _, _, ⟨v, us, e, q, r⟩ => by rw [e, List.length_cons, RpAll.len r, List.length_cons]
theorem RpAll.ofV {H : Hp} : ∀ {ps : List PV} {vs : List V} {i : Nat} {v : V}, RpAll K H vs ps → vs[i]? = some v → ∃ p, ps[i]? = some p ∧ Rp K H v p
  | [], _, i, v, h, e => by
    rw [show _ = _ from h] at e
    cases e
  | p :: r, _, 0, v, ⟨w, us, z, q, t⟩, e => by
    rw [z] at e
    cases e
    exact ⟨p, rfl, q⟩
  | p :: r, _, i + 1, v, ⟨w, us, z, q, t⟩, e => by
    rw [z] at e
    exact RpAll.ofV (ps := r) (i := i) t e
theorem RpAll.get {H : Hp} : ∀ {ps : List PV} {vs : List V} {i : Nat} {p : PV}, RpAll K H vs ps → ps[i]? = some p → ∃ v, vs[i]? = some v ∧ Rp K H v p
  | [], _, i, v, h, e => nomatch e
  | p :: r, _, 0, v, ⟨w, us, z, q, t⟩, e => by
    cases e
    exact ⟨w, by rw [z]; rfl, q⟩
  | p :: r, _, i + 1, v, ⟨w, us, z, q, t⟩, e => by
    obtain ⟨x, hx, rx⟩ := RpAll.get t (show r[i]? = some v from e)
    exact ⟨x, by rw [z]; exact hx, rx⟩
theorem RpAll.app {H : Hp} : ∀ {ps qs : List PV} {vs us : List V}, RpAll K H vs ps → RpAll K H us qs → RpAll K H (vs ++ us) (ps ++ qs)
  | [], _, _, _, h, g => by
    rw [show _ = _ from h]
    exact g
  | p :: r, _, _, _, ⟨w, us, z, q, t⟩, g => by
    rw [z]
    exact ⟨w, _, rfl, q, RpAll.app t g⟩
theorem RpAll.take {H : Hp} : ∀ {ps : List PV} {vs : List V} (n : Nat), RpAll K H vs ps → RpAll K H (vs.take n) (ps.take n)
  | [], _, n, h => by
    rw [show _ = _ from h, List.take_nil, List.take_nil]
    exact rfl
  | p :: r, _, 0, _ => rfl
  | p :: r, _, n + 1, ⟨w, us, z, q, t⟩ => by
    rw [z]
    exact ⟨w, _, rfl, q, RpAll.take n t⟩
theorem RpAll.drop {H : Hp} : ∀ {ps : List PV} {vs : List V} (n : Nat), RpAll K H vs ps → RpAll K H (vs.drop n) (ps.drop n)
  | [], _, n, h => by
    rw [show _ = _ from h, List.drop_nil, List.drop_nil]
    exact rfl
  | p :: r, _, 0, h => h
  | p :: r, _, n + 1, ⟨w, us, z, q, t⟩ => by
    rw [z]
    exact RpAll.drop n t
theorem RpAll.set {H : Hp} {v : V} {p : PV} (h : Rp K H v p) : ∀ {ps : List PV} {vs : List V} (n : Nat), RpAll K H vs ps → RpAll K H (vs.set n v) (ps.set n p)
  | [], _, n, h => by
    rw [show _ = _ from h]
    exact rfl
  | q :: r, _, 0, ⟨w, us, z, _, t⟩ => by
    rw [z]
    exact ⟨v, us, rfl, h, t⟩
  | q :: r, _, n + 1, ⟨w, us, z, g, t⟩ => by
    rw [z]
    exact ⟨w, _, rfl, g, RpAll.set h n t⟩
theorem RpAll.one {H : Hp} {v : V} {p : PV} (h : Rp K H v p) : RpAll K H [v] [p] := ⟨v, [], rfl, h, rfl⟩
theorem RpAll.rev {H : Hp} : ∀ {ps : List PV} {vs : List V}, RpAll K H vs ps → RpAll K H vs.reverse ps.reverse
  | [], _, h => by
    rw [show _ = _ from h]
    exact rfl
  | p :: r, _, ⟨w, us, z, q, t⟩ => by
    rw [z, List.reverse_cons, List.reverse_cons]
    exact RpAll.app (RpAll.rev t) (RpAll.one q)
end
/-- a tuple that is read -/
def tupOf : PV → Option (List PV)
  | .tup xs => some xs
  | .tq xs => some xs
  | _ => none
theorem tupOf_ok {K : PySem.W.Frag} {H : Hp} {v : V} {p : PV} {xs : List PV} (r : Rp K H v p) (e : tupOf p = some xs) : ∃ a us, v = .ref a ∧ SqT K H a us ∧ RpAll K H us xs := by
  cases p with
  | tup ys =>
    cases e
    obtain ⟨a, us, e, q, r⟩ := r
    exact ⟨a, us, e, SqT.of q, r⟩
  | tq ys =>
    cases e
    exact r
  | _ => cases e
/-! ### the world: what may change, what is another's, what holds all along -/
/-- hidden: another's, or what may change -/
def Nn (F : Addr → Prop) (st : Sto) : Addr → Prop := fun a => F a ∨ st a ≠ none
def CellAt (K : PySem.W.Frag) (G H : Hp) (a : Addr) : MO → Prop
  | .lst xs => ∃ us, H a = some (.lst us) ∧ RpAll K G us xs
  | .any P => ∃ us, H a = some (.lst us) ∧ P (.lst us)
/-- what holds of the heap all along (tables of code) -/
structure Inv0 (I : Hp → Prop) : Prop where
  new : ∀ {H : Hp} {p : Addr} {o : HO}, H p = none → I H → I (upd H p o)
  put : ∀ {H : Hp} {p : Addr} {o o' : HO}, H p = some o → (∃ xs, o = .lst xs) → isTbl o' = false → I H → I (upd H p o')
  same : ∀ {H H' : Hp}, Same H H' → I H → I H'
  keep : ∀ {H H' : Hp} {p : Addr} {o : HO}, (∀ b u, b ≠ p → H b = some u → H' b = some u) → H p = some o → (∃ xs, o = .lst xs) → I H → I H'
structure Wd (I : Hp → Prop) (K : PySem.W.Frag) (F : Addr → Prop) (st : Sto) (H : Hp) : Prop where
  fr : ∀ a, F a → ∃ xs, H a = some (.lst xs)
  ap : ∀ a, F a → st a = none
  at_ : ∀ a m, st a = some m → CellAt K (hd (Nn F st) H) H a m
  inv : I H
/-- what a step leaves -/
structure Le (F : Addr → Prop) (st : Sto) (H : Hp) (st' : Sto) (H' : Hp) : Prop where
  keep : ∀ b o, ¬ Nn F st b → H b = some o → isTbl o = false → ¬ Nn F st' b ∧ H' b = some o
  fr : ∀ a o, F a → H a = some o → isTbl o = false → H' a = some o
section
variable {I : Hp → Prop} {K : PySem.W.Frag} {F : Addr → Prop} {st st' st2 : Sto} {H H' H2 : Hp}
theorem Le.refl : Le F st H st H := ⟨fun _ _ n e _ => ⟨n, e⟩, fun _ _ _ e _ => e⟩
theorem Le.trans (a : Le F st H st' H') (b : Le F st' H' st2 H2) : Le F st H st2 H2 := ⟨fun c o n e t => let ⟨n1, e1⟩ := a.keep c o n e t; b.keep c o n1 e1 t, fun c o f e t => b.fr c o f (a.fr c o f e t) t⟩
theorem Le.same (a : Le F st H st' H') : Same (hd (Nn F st) H) (hd (Nn F st') H') := fun b o e => by
  obtain ⟨n, e, t⟩ := hd_some.mp e
  obtain ⟨n1, e1⟩ := a.keep b o n e t
  exact hd_some.mpr ⟨n1, e1, t⟩
theorem Wd.fresh (w : Wd I K F st H) {p : Addr} (h : H p = none) : ¬ Nn F st p := fun z => by
  rcases z with z | z
  · obtain ⟨o, e⟩ := w.fr p z
    rw [h] at e
    cases e
  · cases e : st p with
    | none => exact z e
    | some m =>
      have q := w.at_ p m e
      cases m with
      | lst xs =>
        obtain ⟨us, e, _⟩ := q
        rw [h] at e
        cases e
      | any P =>
        obtain ⟨o, e, _⟩ := q
        rw [h] at e
        cases e
theorem Le.new {p : Addr} {o : HO} (h : H p = none) : Le F st H st (upd H p o) :=
  ⟨fun b x n e t => ⟨n, by rw [upd_ne (fun z => by rw [z, h] at e; cases e)]; exact e⟩, fun a x f e _ => by rw [upd_ne (fun z => by rw [z, h] at e; cases e)]; exact e⟩
theorem CellAt.le (l : Le F st H st' H') {a : Addr} {m : MO} (s : st a = some m) (f : ∀ o, isTbl o = false → H a = some o → H' a = some o) (c : CellAt K (hd (Nn F st) H) H a m) : CellAt K (hd (Nn F st') H') H' a m := by
  cases m with
  | lst xs =>
    obtain ⟨us, e, r⟩ := c
    exact ⟨us, f _ rfl e, RpAll.same l.same r⟩
  | any P =>
    obtain ⟨us, e, r⟩ := c
    exact ⟨us, f _ rfl e, r⟩
theorem Wd.new (i0 : Inv0 I) (w : Wd I K F st H) {p : Addr} {o : HO} (h : H p = none) : Wd I K F st (upd H p o) := by
  refine ⟨fun a f => ?_, w.ap, fun a m e => ?_, i0.new h w.inv⟩
  · obtain ⟨x, e⟩ := w.fr a f
    exact ⟨x, by rw [upd_ne (fun z => by rw [z, h] at e; cases e)]; exact e⟩
  · exact CellAt.le (Le.new h) e (fun x _ q => by rw [upd_ne (fun z => by rw [z, h] at q; cases q)]; exact q) (w.at_ a m e)
/-- a new object is seen -/
theorem hd_new (w : Wd I K F st H) {p : Addr} {o : HO} (h : H p = none) (t : isTbl o = false) : hd (Nn F st) (upd H p o) p = some o := hd_some.mpr ⟨w.fresh h, upd_same, t⟩
/-! a cell -/
theorem put_at {a : Addr} {m : Option MO} : st.put a m a = m := if_pos rfl
theorem put_ne {a b : Addr} {m : Option MO} (h : b ≠ a) : st.put a m b = st b := if_neg h
theorem Nn.put {a b : Addr} {m : MO} (h : st a ≠ none) : Nn F (st.put a (some m)) b ↔ Nn F st b := by
  unfold Nn
  by_cases e : b = a
  · subst e
    rw [put_at]
    exact ⟨fun _ => .inr h, fun _ => .inr (fun z => nomatch z)⟩
  · rw [put_ne e]
theorem Nn.put_eq {a : Addr} {m : MO} (h : st a ≠ none) : Nn F (st.put a (some m)) = Nn F st := funext fun _ => propext (Nn.put h)
/-- a cell is written -/
theorem Le.write {a : Addr} {m m' : MO} {o : HO} (w : Wd I K F st H) (h : st a = some m) : Le F st H (st.put a (some m')) (upd H a o) := by
  have hn : st a ≠ none := by rw [h]; exact fun z => nomatch z
  refine ⟨fun b x n e t => ⟨fun z => n ((Nn.put hn).mp z), ?_⟩, fun b x f e t => ?_⟩
  · rw [upd_ne (fun z => n (.inr (by rw [z]; exact hn)))]
    exact e
  · rw [upd_ne (fun z => by rw [z] at f; rw [w.ap a f] at h; cases h)]
    exact e
theorem Wd.write (i0 : Inv0 I) (w : Wd I K F st H) {a : Addr} {m : MO} {us : List V} {xs : List PV} (h : st a = some m) (r : RpAll K (hd (Nn F st) H) us xs) : Wd I K F (st.put a (some (.lst xs))) (upd H a (.lst us)) := by
  have hn : st a ≠ none := by rw [h]; exact fun z => nomatch z
  have l : Le F st H (st.put a (some (.lst xs))) (upd H a (.lst us)) := Le.write w h
  have there : ∃ o, H a = some o ∧ ∃ xs, o = .lst xs := by
    have q := w.at_ a m h
    cases m with
    | lst xs =>
      obtain ⟨us, e, _⟩ := q
      exact ⟨_, e, _, rfl⟩
    | any P =>
      obtain ⟨us, e, _⟩ := q
      exact ⟨_, e, _, rfl⟩
  obtain ⟨o, eo, to⟩ := there
  refine ⟨fun b f => ?_, fun b f => ?_, fun b n e => ?_, i0.put eo to rfl w.inv⟩
  · obtain ⟨x, e⟩ := w.fr b f
    exact ⟨x, by rw [upd_ne (fun z => by rw [z] at f; rw [w.ap a f] at h; cases h)]; exact e⟩
  · rw [put_ne (fun z => by rw [z] at f; rw [w.ap a f] at h; cases h)]
    exact w.ap b f
  · by_cases z : b = a
    · subst z
      rw [put_at] at e
      cases e
      exact ⟨us, upd_same, RpAll.same l.same r⟩
    · rw [put_ne z] at e
      exact CellAt.le l e (fun x _ q => by rw [upd_ne z]; exact q) (w.at_ b n e)
/-- a new cell -/
theorem Le.cell {a : Addr} {m : MO} {o : HO} (h : H a = none) : Le F st H (st.put a (some m)) (upd H a o) := by
  refine ⟨fun b x n e t => ?_, fun b x f e t => by rw [upd_ne (fun z => by rw [z, h] at e; cases e)]; exact e⟩
  have ba : b ≠ a := fun z => by rw [z, h] at e; cases e
  refine ⟨fun z => n ?_, by rw [upd_ne ba]; exact e⟩
  rcases z with z | z
  · exact .inl z
  · rw [put_ne ba] at z
    exact .inr z
theorem Wd.cell (i0 : Inv0 I) (w : Wd I K F st H) {a : Addr} {us : List V} {xs : List PV} (h : H a = none) (r : RpAll K (hd (Nn F st) H) us xs) : Wd I K F (st.put a (some (.lst xs))) (upd H a (.lst us)) := by
  have l : Le F st H (st.put a (some (.lst xs))) (upd H a (.lst us)) := Le.cell h
  have fa : ∀ b, F b → b ≠ a := fun b f z => by
    obtain ⟨x, e⟩ := w.fr b f
    rw [z, h] at e
    cases e
  refine ⟨fun b f => ?_, fun b f => ?_, fun b n e => ?_, i0.new h w.inv⟩
  · obtain ⟨x, e⟩ := w.fr b f
    exact ⟨x, by rw [upd_ne (fa b f)]; exact e⟩
  · rw [put_ne (fa b f)]
    exact w.ap b f
  · by_cases z : b = a
    · subst z
      rw [put_at] at e
      cases e
      exact ⟨us, upd_same, RpAll.same l.same r⟩
    · rw [put_ne z] at e
      exact CellAt.le l e (fun x _ q => by rw [upd_ne z]; exact q) (w.at_ b n e)
/-- a cell that nobody writes any more -/
theorem Le.freeze {a : Addr} : Le F st H (st.put a none) H := by
  refine ⟨fun b x n e t => ⟨fun z => n ?_, e⟩, fun b x f e t => e⟩
  rcases z with z | z
  · exact .inl z
  · by_cases q : b = a
    · rw [q, put_at] at z
      exact absurd rfl z
    · rw [put_ne q] at z
      exact .inr z
theorem Wd.freeze (w : Wd I K F st H) {a : Addr} : Wd I K F (st.put a none) H := by
  refine ⟨w.fr, fun b f => ?_, fun b n e => ?_, w.inv⟩
  · by_cases z : b = a
    · rw [z, put_at]
    · rw [put_ne z]
      exact w.ap b f
  · have z : b ≠ a := fun z => by
      rw [z, put_at] at e
      cases e
    rw [put_ne z] at e
    exact CellAt.le Le.freeze e (fun _ _ q => q) (w.at_ b n e)
theorem rp_freeze (w : Wd I K F st H) {a : Addr} {xs : List PV} (h : st a = some (.lst xs)) : Rp K (hd (Nn F (st.put a none)) H) (.ref a) (.lst xs) := by
  obtain ⟨us, e, r⟩ := w.at_ a _ h
  refine ⟨a, us, rfl, hd_some.mpr ⟨fun z => ?_, e, rfl⟩, RpAll.same (Le.same Le.freeze) r⟩
  rcases z with z | z
  · rw [w.ap a z] at h
    cases h
  · rw [put_at] at z
    exact z rfl
/-- another's cell is put aside: what is seen is the same -/
theorem Wd.aside (w : Wd I K F st H) {a : Addr} {m : MO} (h : st a = some m) : Wd I K (fun b => F b ∨ b = a) (st.put a none) H := by
  have eN : Nn (fun b => F b ∨ b = a) (st.put a none) = Nn F st := funext fun b => propext (by
    unfold Nn
    by_cases z : b = a
    · rw [z, put_at]
      exact ⟨fun _ => .inr (by rw [h]; exact fun q => nomatch q), fun _ => .inl (.inr rfl)⟩
    · rw [put_ne z]
      exact ⟨fun q => q.elim (fun q => q.elim .inl fun e => absurd e z) .inr, fun q => q.elim (fun q => .inl (.inl q)) .inr⟩)
  refine ⟨fun b f => ?_, fun b f => ?_, fun b n e => ?_, w.inv⟩
  · rcases f with f | rfl
    · exact w.fr b f
    · have q := w.at_ b m h
      cases m with
      | lst xs => exact ⟨_, q.choose_spec.1⟩
      | any P => exact ⟨_, q.choose_spec.1⟩
  · by_cases z : b = a
    · rw [z, put_at]
    · rw [put_ne z]
      exact w.ap b (f.elim id fun e => absurd e z)
  · have z : b ≠ a := fun z => by
      rw [z, put_at] at e
      cases e
    rw [put_ne z] at e
    rw [eN]
    exact w.at_ b n e
end
/-! ### slots -/
def EvR (K : PySem.W.Frag) (G : Hp) (σ : L2.St) (env : Env) : Prop := σ.length = env.length ∧ ∀ (i : Nat) (p : PV), env[i]? = some (some p) → ∃ v, σ[i]? = some (some v) ∧ Rp K G v p
section
variable {K : PySem.W.Frag} {G G' : Hp} {σ : L2.St} {env : Env}
theorem EvR.same (h : EvR K G σ env) (s : Same G G') : EvR K G' σ env := ⟨h.1, fun i p e => let ⟨v, e1, r⟩ := h.2 i p e; ⟨v, e1, Rp.same s r⟩⟩
theorem EvR.set (h : EvR K G σ env) {i : Nat} {v : V} {p : PV} (r : Rp K G v p) : EvR K G (σ.set i (some v)) (env.set i (some p)) := by
  refine ⟨by rw [List.length_set, List.length_set, h.1], fun j q e => ?_⟩
  by_cases z : j = i
  · subst z
    have hj : j < env.length := by
      have := (List.getElem?_eq_some_iff.mp e).1
      rw [List.length_set] at this
      exact this
    rw [List.getElem?_set_self hj] at e
    cases e
    exact ⟨v, List.getElem?_set_self (by rw [h.1]; exact hj), r⟩
  · rw [List.getElem?_set_ne (Ne.symm z)] at e ⊢
    exact h.2 j q e
end
end Ev

namespace Ev
open PySem PySem.Spec PyProof.Rows L2 Own
/-! ### judgements -/
abbrev QV := PV → Sto → Prop
abbrev GE := Env → Sto → QV → Prop
abbrev GT := Env → Sto → (Bool → Sto → Prop) → Prop
abbrev GA := Env → Sto → (List PV → Sto → Prop) → Prop
abbrev GF := List PV → Sto → QV → Prop
def Mono (g : GE) : Prop := ∀ env st Q Q', (∀ r s, Q r s → Q' r s) → g env st Q → g env st Q'
def MonoT (g : GT) : Prop := ∀ env st Q Q', (∀ r s, Q r s → Q' r s) → g env st Q → g env st Q'
def MonoA (g : GA) : Prop := ∀ env st Q Q', (∀ r s, Q r s → Q' r s) → g env st Q → g env st Q'
def MonoF (g : GF) : Prop := ∀ ps st Q Q', (∀ r s, Q r s → Q' r s) → g ps st Q → g ps st Q'
def finE (I : Hp → Prop) (K : PySem.W.Frag) (F : Addr → Prop) (st : Sto) (H : Hp) (Q : VK) : QV := fun r st' => ∀ v H', Le F st H st' H' → Wd I K F st' H' → Rp K (hd (Nn F st') H') v r → Q v H'
def finT (I : Hp → Prop) (K : PySem.W.Frag) (F : Addr → Prop) (st : Sto) (H : Hp) (Q : Bool → Hp → Prop) : Bool → Sto → Prop := fun r st' => ∀ H', Le F st H st' H' → Wd I K F st' H' → Q r H'
def finA (I : Hp → Prop) (K : PySem.W.Frag) (F : Addr → Prop) (st : Sto) (H : Hp) (Q : List V → Hp → Prop) : List PV → Sto → Prop := fun rs st' => ∀ vs H', Le F st H st' H' → Wd I K F st' H' → RpAll K (hd (Nn F st') H') vs rs → Q vs H'
def lE (I : Hp → Prop) (K : PySem.W.Frag) (g : GE) : TE := fun σ H Q => ∃ F st env, Wd I K F st H ∧ EvR K (hd (Nn F st) H) σ env ∧ g env st (finE I K F st H Q)
def lT (I : Hp → Prop) (K : PySem.W.Frag) (g : GT) : TT := fun σ H Q => ∃ F st env, Wd I K F st H ∧ EvR K (hd (Nn F st) H) σ env ∧ g env st (finT I K F st H Q)
def lA (I : Hp → Prop) (K : PySem.W.Frag) (g : GA) : TA := fun σ H Q => ∃ F st env, Wd I K F st H ∧ EvR K (hd (Nn F st) H) σ env ∧ g env st (finA I K F st H Q)
structure EE (I : Hp → Prop) (X : Cx) (e : Expr) (g : GE) : Prop where
  mono : Mono g
  pe : PE X e (lE I X.K g)
structure ET (I : Hp → Prop) (X : Cx) (e : Expr) (g : GT) : Prop where
  mono : MonoT g
  pt : PT X e (lT I X.K g)
structure EW (I : Hp → Prop) (X : Cx) (e : Expr) (g : GT) : Prop where
  mono : MonoT g
  pw : PW X e (lT I X.K g)
structure EA (I : Hp → Prop) (X : Cx) (es : List Expr) (g : GA) : Prop where
  mono : MonoA g
  len : ∀ env st Q, g env st Q → g env st fun xs s => xs.length = es.length ∧ Q xs s
  pa : PA X es (lA I X.K g)
theorem pe_imp {X : Cx} {e : Expr} {t t' : TE} (h : PE X e t) (i : ∀ σ H Q, t' σ H Q → t σ H Q) : PE X e t' := ⟨fun pins s σ H Q I q => h.run pins s σ H Q I (i σ H Q q)⟩
theorem pt_imp {X : Cx} {e : Expr} {t t' : TT} (h : PT X e t) (i : ∀ σ H Q, t' σ H Q → t σ H Q) : PT X e t' := ⟨fun pins s σ H Q I q => h.run pins s σ H Q I (i σ H Q q)⟩
theorem pw_imp {X : Cx} {e : Expr} {t t' : TT} (h : PW X e t) (i : ∀ σ H Q, t' σ H Q → t σ H Q) : PW X e t' := ⟨fun wh pins s σ H Q I q => h.run wh pins s σ H Q I (i σ H Q q)⟩
theorem pa_imp {X : Cx} {es : List Expr} {t t' : TA} (h : PA X es t) (i : ∀ σ H Q, t' σ H Q → t σ H Q) : PA X es t' := ⟨fun pos pins s σ H Q I q => h.run pos pins s σ H Q I (i σ H Q q)⟩
section
variable {I : Hp → Prop} {X : Cx} {K : PySem.W.Frag} {F : Addr → Prop} {st st' : Sto} {H H' : Hp} {σ : L2.St} {env : Env}
theorem EvR.le (h : EvR K (hd (Nn F st) H) σ env) (l : Le F st H st' H') : EvR K (hd (Nn F st') H') σ env := h.same l.same
/-- an expression behind a step -/
theorem lE_of {g : GE} {Q : VK} {Q1 : QV} (m : Mono g) (w : Wd I K F st H) (ev : EvR K (hd (Nn F st) H) σ env) (h : g env st Q1) (k : ∀ r s, Q1 r s → finE I K F st H Q r s) : lE I K g σ H Q := ⟨F, st, env, w, ev, m _ _ _ _ k h⟩
theorem lT_of {g : GT} {Q : Bool → Hp → Prop} {Q1 : Bool → Sto → Prop} (m : MonoT g) (w : Wd I K F st H) (ev : EvR K (hd (Nn F st) H) σ env) (h : g env st Q1) (k : ∀ r s, Q1 r s → finT I K F st H Q r s) : lT I K g σ H Q := ⟨F, st, env, w, ev, m _ _ _ _ k h⟩
theorem lA_of {g : GA} {Q : List V → Hp → Prop} {Q1 : List PV → Sto → Prop} (m : MonoA g) (w : Wd I K F st H) (ev : EvR K (hd (Nn F st) H) σ env) (h : g env st Q1) (k : ∀ r s, Q1 r s → finA I K F st H Q r s) : lA I K g σ H Q := ⟨F, st, env, w, ev, m _ _ _ _ k h⟩
theorem finE.le {Q : VK} {r : PV} {s : Sto} {st1 : Sto} {H1 : Hp} (l : Le F st H st1 H1) (h : finE I K F st H Q r s) : finE I K F st1 H1 Q r s := fun v H' l2 => h v H' (l.trans l2)
theorem finT.le {Q : Bool → Hp → Prop} {r : Bool} {s : Sto} {st1 : Sto} {H1 : Hp} (l : Le F st H st1 H1) (h : finT I K F st H Q r s) : finT I K F st1 H1 Q r s := fun H' l2 => h H' (l.trans l2)
theorem finA.le {Q : List V → Hp → Prop} {r : List PV} {s : Sto} {st1 : Sto} {H1 : Hp} (l : Le F st H st1 H1) (h : finA I K F st H Q r s) : finA I K F st1 H1 Q r s := fun v H' l2 => h v H' (l.trans l2)
end
/-! ### names, constants -/
def gVar (i : Nat) : GE := fun env st Q => match env[i]? with
  | some (some p) => Q p st
  | _ => False
def gC (p : PV) : GE := fun _ st Q => Q p st
section
variable {I : Hp → Prop} {X : Cx} {pos : Pos}
theorem gVar_mono (i : Nat) : Mono (gVar i) := fun env st Q Q' k h => by
  unfold gVar at h ⊢
  split at h
  · exact k _ _ h
  · exact h
theorem ee_var {e : Expr} {i : Nat} (h : PE X e (tVar i)) : EE I X e (gVar i) := by
  refine ⟨gVar_mono i, pe_imp h fun σ H Q ⟨F, st, env, w, ev, q⟩ => ?_⟩
  unfold gVar at q
  split at q
  · rename_i p e
    obtain ⟨v, hv, r⟩ := ev.2 i p e
    exact ⟨v, hv, q v H .refl w r⟩
  · exact q.elim
theorem ee_tC {e : Expr} {v : V} {p : PV} (h : PE X e (tC v)) (r : ∀ H, Rp X.K H v p) : EE I X e (gC p) :=
  ⟨fun _ _ _ _ k q => k _ _ q, pe_imp h fun σ H Q ⟨F, st, env, w, ev, q⟩ => q v H .refl w (r _)⟩
theorem ee_int {i : Int} {j} : EE I X (.Constant (.int i) j pos) (gC (.int i)) := ee_tC pe_int fun _ => rfl
theorem ee_bl {b : Bool} {j} : EE I X (.Constant (.bool b) j pos) (gC (.bl b)) := ee_tC pe_bl fun _ => rfl
theorem ee_non {j} : EE I X (.Constant .none j pos) (gC .non) := ee_tC pe_non fun _ => rfl
theorem ee_str {z : Str} {j} : EE I X (.Constant (.str z) j pos) (gC (.str z)) := ee_tC pe_str fun _ => rfl
end
/-! ### a cell that goes into another value is no longer written -/
def fz (p : PV) (st : Sto) (Q : QV) : Prop := match p with
  | .cell a => match st a with
    | some (.lst xs) => Q (.lst xs) (st.put a none)
    | _ => False
  | p => Q p st
theorem fz_mono {p : PV} {st : Sto} {Q Q' : QV} (k : ∀ r s, Q r s → Q' r s) (h : fz p st Q) : fz p st Q' := by
  unfold fz at h ⊢
  split at h
  · split at h
    · exact k _ _ h
    · exact h
  · exact k _ _ h
theorem fz_ok {I : Hp → Prop} {K : PySem.W.Frag} {F : Addr → Prop} {st : Sto} {H : Hp} {p : PV} {v : V} {Q : QV} (w : Wd I K F st H) (r : Rp K (hd (Nn F st) H) v p) (h : fz p st Q) :
    ∃ q st', Le F st H st' H ∧ Wd I K F st' H ∧ Rp K (hd (Nn F st') H) v q ∧ Q q st' := by
  unfold fz at h
  split at h
  · rename_i a
    split at h
    · rename_i xs e
      have e2 : v = .ref a := r
      subst e2
      exact ⟨_, _, Le.freeze, w.freeze, rp_freeze w e, h⟩
    · exact h.elim
  · exact ⟨p, st, .refl, w, r, h⟩
def fzAll : List PV → Sto → (List PV → Sto → Prop) → Prop
  | [], st, Q => Q [] st
  | p :: r, st, Q => fz p st fun q st1 => fzAll r st1 fun qs st2 => Q (q :: qs) st2
theorem fzAll_mono : ∀ {ps : List PV} {st : Sto} {Q Q' : List PV → Sto → Prop}, (∀ r s, Q r s → Q' r s) → fzAll ps st Q → fzAll ps st Q'
  | [], _, _, _, k, h => k _ _ h
  | _ :: _, _, _, _, k, h => fz_mono (fun _ _ q => fzAll_mono (fun _ _ z => k _ _ z) q) h
theorem fzAll_ok {I : Hp → Prop} {K : PySem.W.Frag} {F : Addr → Prop} {H : Hp} : ∀ {ps : List PV} {st : Sto} {vs : List V} {Q : List PV → Sto → Prop}, Wd I K F st H → RpAll K (hd (Nn F st) H) vs ps → fzAll ps st Q →
    ∃ qs st', Le F st H st' H ∧ Wd I K F st' H ∧ RpAll K (hd (Nn F st') H) vs qs ∧ qs.length = ps.length ∧ Q qs st'
  | [], st, vs, Q, w, r, h => ⟨[], st, .refl, w, r, rfl, h⟩
  | p :: t, st, vs, Q, w, ⟨v, us, e, rv, r⟩, h => by
    obtain ⟨q, s1, l1, w1, r1, h1⟩ := fz_ok w rv h
    obtain ⟨qs, s2, l2, w2, r2, n2, h2⟩ := fzAll_ok w1 (RpAll.same l1.same r) h1
    exact ⟨q :: qs, s2, l1.trans l2, w2, ⟨v, us, e, Rp.same l2.same r1, r2⟩, by rw [List.length_cons, List.length_cons, n2], h2⟩
/-! ### arguments, tuples, lists -/
def aNil : GA := fun _ st Q => Q [] st
def aCons (g : GE) (r : GA) : GA := fun env st Q => g env st fun x s1 => r env s1 fun xs s2 => Q (x :: xs) s2
def eTup (g : GA) : GE := fun env st Q => g env st fun xs s1 => fzAll xs s1 fun ys s2 => Q (.tup ys) s2
/-- a list that nobody writes; one that is written -/
def gLst (g : GA) : GE := fun env st Q => g env st fun xs s1 => fzAll xs s1 fun ys s2 => Q (.lst ys) s2
/-- a new cell -/
def newCell (xs : List PV) (st : Sto) (Q : QV) : Prop := ∀ a, st a = none → Q (.cell a) (st.put a (some (.lst xs)))
def gLstC (g : GA) : GE := fun env st Q => g env st fun xs s1 => fzAll xs s1 fun ys s2 => newCell ys s2 Q
section
variable {I : Hp → Prop} {X : Cx} {pos : Pos} {e : Expr} {es : List Expr} {g : GE} {r : GA}
theorem ea_nil : EA I X [] aNil := ⟨fun _ _ _ _ k h => k _ _ h, fun _ _ _ h => ⟨rfl, h⟩, pa_imp pa_nil fun σ H Q ⟨F, st, env, w, ev, q⟩ => q [] H .refl w rfl⟩
theorem ea_cons (ha : EE I X e g) (hr : EA I X es r) (hs : starEach (e :: es) X.env = (false, eval e X.env) :: starEach es X.env := by rfl) : EA I X (e :: es) (aCons g r) := by
  refine ⟨fun env st Q Q' k h => ha.mono _ _ _ _ (fun _ _ q => hr.mono _ _ _ _ (fun _ _ z => k _ _ z) q) h, fun _ _ _ h => ha.mono _ _ _ _ (fun _ _ q => hr.mono _ _ _ _ (fun _ _ z => ⟨by rw [List.length_cons, z.1, List.length_cons], z.2⟩) (hr.len _ _ _ q)) h, pa_imp (pa_cons ha.pe hr.pa hs) fun σ H Q ⟨F, st, env, w, ev, q⟩ => ?_⟩
  refine lE_of ha.mono w ev q fun x s1 h1 v H1 l1 w1 r1 => ?_
  refine lA_of hr.mono w1 (ev.le l1) h1 fun xs s2 h2 vs H2 l2 w2 r2 => ?_
  exact h2 (v :: vs) H2 (l1.trans l2) w2 ⟨v, vs, rfl, Rp.same l2.same r1, r2⟩
theorem few_of {h : List PV} {K : PySem.W.Frag} {G : Hp} {us : List V} (r : RpAll K G us h) {n : Nat} (l : h.length ≤ n) : us.length ≤ n := by
  rw [r.len]
  exact l
theorem ee_tup (i0 : Inv0 I) {x1} (h : EA I X es r) (few : es.length ≤ 1000 := by decide) : EE I X (.Tuple es x1 pos) (eTup r) := by
  refine ⟨fun env st Q Q' k q => h.mono _ _ _ _ (fun _ _ z => fzAll_mono (fun _ _ y => k _ _ y) z) q, pe_imp (pe_tup h.pa) fun σ H Q ⟨F, st, env, w, ev, q⟩ => ?_⟩
  refine lA_of h.mono w ev (h.len _ _ _ q) fun xs s1 ⟨n1, h1⟩ vs H1 l1 w1 r1 => ?_
  obtain ⟨qs, s2, l2, w2, r2, n2, h2⟩ := fzAll_ok w1 r1 h1
  refine ⟨?_, fun p hp => ?_⟩
  · rw [r2.len, n2, n1, sizeLine_eq]
    omega
  · have l3 : Le F s2 H1 s2 (upd H1 p (.tup vs)) := Le.new hp
    exact h2 _ _ ((l1.trans l2).trans l3) (w2.new i0 hp) ⟨p, vs, rfl, hd_new w2 hp rfl, RpAll.same l3.same r2⟩
theorem ee_lst (i0 : Inv0 I) (h : EA I X es r) (few : es.length ≤ 1000 := by decide) : EE I X (.List es pos) (gLst r) := by
  refine ⟨fun env st Q Q' k q => h.mono _ _ _ _ (fun _ _ z => fzAll_mono (fun _ _ y => k _ _ y) z) q, pe_imp (pe_lst h.pa) fun σ H Q ⟨F, st, env, w, ev, q⟩ => ?_⟩
  refine lA_of h.mono w ev (h.len _ _ _ q) fun xs s1 ⟨n1, h1⟩ vs H1 l1 w1 r1 => ?_
  obtain ⟨qs, s2, l2, w2, r2, n2, h2⟩ := fzAll_ok w1 r1 h1
  refine ⟨?_, fun p hp => ?_⟩
  · rw [r2.len, n2, n1, sizeLine_eq]
    omega
  · have l3 : Le F s2 H1 s2 (upd H1 p (.lst vs)) := Le.new hp
    exact h2 _ _ ((l1.trans l2).trans l3) (w2.new i0 hp) ⟨p, vs, rfl, hd_new w2 hp rfl, RpAll.same l3.same r2⟩
theorem not_cell {K : PySem.W.Frag} {F : Addr → Prop} {st : Sto} {H : Hp} (w : Wd I K F st H) {a : Addr} (h : H a = none) : st a = none := Classical.byContradiction fun z => w.fresh h (.inr z)
theorem ee_lstC (i0 : Inv0 I) (h : EA I X es r) (few : es.length ≤ 1000 := by decide) : EE I X (.List es pos) (gLstC r) := by
  refine ⟨fun env st Q Q' k q => h.mono _ _ _ _ (fun _ _ z => fzAll_mono (fun _ _ y a ha => k _ _ (y a ha)) z) q, pe_imp (pe_lst h.pa) fun σ H Q ⟨F, st, env, w, ev, q⟩ => ?_⟩
  refine lA_of h.mono w ev (h.len _ _ _ q) fun xs s1 ⟨n1, h1⟩ vs H1 l1 w1 r1 => ?_
  obtain ⟨qs, s2, l2, w2, r2, n2, h2⟩ := fzAll_ok w1 r1 h1
  refine ⟨?_, fun p hp => ?_⟩
  · rw [r2.len, n2, n1, sizeLine_eq]
    omega
  · have l3 : Le F s2 H1 (s2.put p (some (.lst qs))) (upd H1 p (.lst vs)) := Le.cell hp
    exact h2 p (not_cell w2 hp) _ _ ((l1.trans l2).trans l3) (w2.cell i0 hp r2) rfl
end
end Ev

namespace Ev
open PySem PySem.Spec PyProof.Rows L2 Own
/-! ### targets -/
abbrev TP := PV → Env → (Env → Prop) → Prop
abbrev TPs := List PV → Env → (Env → Prop) → Prop
def nmP (i : Nat) : TP := fun p env Q => Q (env.set i (some p))
def tpP (n : Nat) (g : TPs) : TP := fun p env Q => match tupOf p with
  | some xs => xs.length = n ∧ g xs env Q
  | none => False
def nilP : TPs := fun xs env Q => match xs with
  | [] => Q env
  | _ :: _ => False
def consP (g : TP) (r : TPs) : TPs := fun xs env Q => match xs with
  | [] => False
  | p :: ps => g p env fun e => r ps e Q
theorem wipe_set {σ : L2.St} {i : Nat} {x : V} : ∀ {vs : List Nat}, i ∈ vs → wipe (σ.set i (some x)) vs = wipe σ vs
  | v :: vs, h => by
    show (wipe (σ.set i (some x)) vs).set v none = (wipe σ vs).set v none
    by_cases e : i ∈ vs
    · rw [wipe_set e]
    · have : i = v := (List.mem_cons.mp h).elim id fun z => absurd z e
      subst this
      have : ∀ ws : List Nat, (wipe (σ.set i (some x)) ws).set i none = (wipe σ ws).set i none := fun ws => by
        induction ws with
        | nil => exact List.set_set ..
        | cons w ws ih =>
          show ((wipe (σ.set i (some x)) ws).set w none).set i none = ((wipe σ ws).set w none).set i none
          by_cases z : w = i
          · subst z
            rw [ih]
          · rw [List.set_comm _ _ z, ih, List.set_comm _ _ z]
      exact this vs
def TgOk (K : PySem.W.Frag) (t : TG) (g : TP) (sl : List Nat) : Prop := ∀ (G H : Hp), Same G H → ∀ (p : PV) (v : V) (σ : L2.St) (env : Env) (Q : Env → Prop) (vs : List Nat), EvR K G σ env → Rp K G v p → g p env Q →
  t v σ H fun σ' H' => H' = H ∧ ((∀ i ∈ sl, i ∈ vs) → wipe σ' vs = wipe σ vs) ∧ ∃ env', EvR K G σ' env' ∧ Q env'
def TgsOk (K : PySem.W.Frag) (t : TGs) (g : TPs) (sl : List Nat) : Prop := ∀ (G H : Hp), Same G H → ∀ (ps : List PV) (us : List V) (σ : L2.St) (env : Env) (Q : Env → Prop) (vs : List Nat), EvR K G σ env → RpAll K G us ps → g ps env Q →
  t us σ H fun σ' H' => H' = H ∧ ((∀ i ∈ sl, i ∈ vs) → wipe σ' vs = wipe σ vs) ∧ ∃ env', EvR K G σ' env' ∧ Q env'
structure EG (X : Cx) (tg : Expr) (t : TG) (g : TP) (sl : List Nat) : Prop where
  pg : PG X tg t
  mono : ∀ p env Q Q', (∀ e, Q e → Q' e) → g p env Q → g p env Q'
  tm : ∀ v σ H (Q Q' : L2.St → Hp → Prop), (∀ s h, Q s h → Q' s h) → t v σ H Q → t v σ H Q'
  ok : TgOk X.K t g sl
structure EGs (X : Cx) (tgs : List Expr) (t : TGs) (g : TPs) (sl : List Nat) : Prop where
  pg : PGs X tgs t
  mono : ∀ p env Q Q', (∀ e, Q e → Q' e) → g p env Q → g p env Q'
  tm : ∀ v σ H (Q Q' : L2.St → Hp → Prop), (∀ s h, Q s h → Q' s h) → t v σ H Q → t v σ H Q'
  ok : TgsOk X.K t g sl
section
variable {X : Cx} {pos : Pos}
theorem eg_name {i : Nat} {e : Expr} (h : PG X e (gName i)) : EG X e (gName i) (nmP i) [i] :=
  ⟨h, fun _ _ _ _ k q => k _ q, fun _ _ _ _ _ k q => k _ _ q, fun G H s p v σ env Q vs ev r q => ⟨rfl, fun z => wipe_set (z i (List.mem_singleton.mpr rfl)), _, ev.set r, q⟩⟩
theorem egs_nil : EGs X [] L2.gNil nilP [] := by
  refine ⟨pgs_nil, fun p env Q Q' k q => ?_, fun _ _ _ _ _ k q => ⟨q.1, k _ _ q.2⟩, fun G H s ps us σ env Q vs ev r q => ?_⟩
  · cases p with
    | nil => exact k _ q
    | cons _ _ => exact (show False from q).elim
  · cases ps with
    | nil => exact ⟨r, rfl, fun _ => rfl, env, ev, q⟩
    | cons _ _ => exact (show False from q).elim
theorem egs_cons {e : Expr} {es : List Expr} {t : TG} {u : TGs} {g : TP} {r : TPs} {a b : List Nat} (h : EG X e t g a) (hr : EGs X es u r b)
    (hs : (assignEach (e :: es) X.env).map (·.2) = assign e X.env :: (assignEach es X.env).map (·.2) := by rfl) : EGs X (e :: es) (L2.gCons t u) (consP g r) (a ++ b) := by
  refine ⟨pgs_cons h.pg hr.pg hs, fun p env Q Q' k q => ?_, fun us σ H Q Q' k ⟨v, w, e, q⟩ => ⟨v, w, e, h.tm _ _ _ _ _ (fun _ _ z => hr.tm _ _ _ _ _ k z) q⟩, fun G H s ps us σ env Q vs ev ra q => ?_⟩
  · cases p with
    | nil => exact (show False from q).elim
    | cons p ps => exact h.mono _ _ _ _ (fun _ z => hr.mono _ _ _ _ k z) (show g p env fun e => r ps e Q from q)
  · cases ps with
    | nil => exact (show False from q).elim
    | cons p ps =>
      obtain ⟨v, ws, e, rv, ra⟩ := ra
      refine ⟨v, ws, e, h.tm _ _ _ _ _ (fun σ1 H1 z => ?_) (h.ok G H s p v σ env _ vs ev rv q)⟩
      obtain ⟨rfl, w1, e1, ev1, h1⟩ := z
      refine hr.tm _ _ _ _ _ (fun σ2 H2 z => ?_) (hr.ok G _ s ps ws σ1 e1 Q vs ev1 ra h1)
      obtain ⟨eH, w2, rest⟩ := z
      exact ⟨eH, fun m => (w2 fun i hi => m i (List.mem_append.mpr (.inr hi))).trans (w1 fun i hi => m i (List.mem_append.mpr (.inl hi))), rest⟩
theorem eg_tup {es : List Expr} {k : Nat} {t : TGs} {g : TPs} {sl : List Nat} {n : Nat} (hc : X.calm = true) (h : EGs X es t g sl) (hn : (assignEach es X.env).length = n := by rfl) (hst : (assignEach es X.env).findIdx? (·.1) = none := by rfl) :
    EG X (.Tuple es k pos) (L2.gTup X.K n t) (tpP n g) sl := by
  refine ⟨pg_tup hc h.pg hn hst, fun p env Q Q' k q => ?_, fun v σ H Q Q' k ⟨a, xs, e, hs, n, q⟩ => ⟨a, xs, e, hs, n, h.tm _ _ _ _ _ k q⟩, fun G H s p v σ env Q vs ev r q => ?_⟩
  · unfold tpP at q ⊢
    cases ep : tupOf p with
    | none =>
      rw [ep] at q
      exact (show False from q).elim
    | some xs =>
      rw [ep] at q
      exact ⟨q.1, h.mono _ _ _ _ k q.2⟩
  · unfold tpP at q
    cases ep : tupOf p with
    | none =>
      rw [ep] at q
      exact (show False from q).elim
    | some xs =>
      rw [ep] at q
      obtain ⟨a, us, e, hs, ra⟩ := tupOf_ok r ep
      exact ⟨a, us, e, tupS s hs, by rw [ra.len]; exact q.1, h.ok G H s xs us σ env Q vs ev ra q.2⟩
end
/-! ### statements -/
structure GEnds where
  nx : Env → Sto → Prop
  rt : QV
  bk : Env → Sto → Prop := fun _ _ => False
  ct : Env → Sto → Prop := fun _ _ => False
structure GEnds.Sub (D D' : GEnds) : Prop where
  nx : ∀ e s, D.nx e s → D'.nx e s
  rt : ∀ e s, D.rt e s → D'.rt e s
  bk : ∀ e s, D.bk e s → D'.bk e s
  ct : ∀ e s, D.ct e s → D'.ct e s
theorem GEnds.Sub.refl (D : GEnds) : D.Sub D := ⟨fun _ _ => id, fun _ _ => id, fun _ _ => id, fun _ _ => id⟩
theorem GEnds.Sub.trans {A B C : GEnds} (a : A.Sub B) (b : B.Sub C) : A.Sub C := ⟨fun e s q => b.nx e s (a.nx e s q), fun e s q => b.rt e s (a.rt e s q), fun e s q => b.bk e s (a.bk e s q), fun e s q => b.ct e s (a.ct e s q)⟩
abbrev GS := Env → Sto → GEnds → Prop
/-- weakened at will -/
def upS (b : GS) : GS := fun env st D => ∃ D1, b env st D1 ∧ GEnds.Sub D1 D
def upE (g : GE) : GE := fun env st Q => ∃ Q1, g env st Q1 ∧ ∀ r s, Q1 r s → Q r s
def upT (g : GT) : GT := fun env st Q => ∃ Q1, g env st Q1 ∧ ∀ r s, Q1 r s → Q r s
def upP (t : TP) : TP := fun p env Q => ∃ Q1, t p env Q1 ∧ ∀ e, Q1 e → Q e
theorem upS.of {b : GS} {e : Env} {s : Sto} {D : GEnds} (h : b e s D) : upS b e s D := ⟨D, h, .refl D⟩
theorem upE.of {g : GE} {e : Env} {s : Sto} {Q : QV} (h : g e s Q) : upE g e s Q := ⟨Q, h, fun _ _ q => q⟩
theorem upT.of {g : GT} {e : Env} {s : Sto} {Q : Bool → Sto → Prop} (h : g e s Q) : upT g e s Q := ⟨Q, h, fun _ _ q => q⟩
theorem upP.of {t : TP} {p : PV} {e : Env} {Q : Env → Prop} (h : t p e Q) : upP t p e Q := ⟨Q, h, fun _ q => q⟩
theorem upP.mono {t : TP} {p : PV} {e : Env} {Q Q' : Env → Prop} (k : ∀ e, Q e → Q' e) (h : upP t p e Q) : upP t p e Q' := let ⟨Q1, a, b⟩ := h; ⟨Q1, a, fun e q => k e (b e q)⟩
theorem upE.mono {g : GE} {e : Env} {s : Sto} {Q Q' : QV} (k : ∀ r s, Q r s → Q' r s) (h : upE g e s Q) : upE g e s Q' := let ⟨Q1, a, b⟩ := h; ⟨Q1, a, fun r s q => k r s (b r s q)⟩
theorem upT.mono {g : GT} {e : Env} {s : Sto} {Q Q' : Bool → Sto → Prop} (k : ∀ r s, Q r s → Q' r s) (h : upT g e s Q) : upT g e s Q' := let ⟨Q1, a, b⟩ := h; ⟨Q1, a, fun r s q => k r s (b r s q)⟩
theorem upS.mono {b : GS} {e : Env} {s : Sto} {D D' : GEnds} (k : GEnds.Sub D D') (h : upS b e s D) : upS b e s D' := let ⟨D1, a, c⟩ := h; ⟨D1, a, c.trans k⟩
def MonoS (g : GS) : Prop := ∀ env st D D', GEnds.Sub D D' → g env st D → g env st D'
def finN (I : Hp → Prop) (K : PySem.W.Frag) (F : Addr → Prop) (st : Sto) (H : Hp) (Q : L2.St → Hp → Prop) : Env → Sto → Prop := fun env' st' => ∀ σ' H', Le F st H st' H' → Wd I K F st' H' → EvR K (hd (Nn F st') H') σ' env' → Q σ' H'
def finS (I : Hp → Prop) (K : PySem.W.Frag) (F : Addr → Prop) (st : Sto) (H : Hp) (D : Ends) : GEnds :=
  { nx := finN I K F st H D.nx, rt := finE I K F st H D.rt, bk := finN I K F st H D.bk, ct := finN I K F st H D.ct }
def lS (I : Hp → Prop) (K : PySem.W.Frag) (g : GS) : TS := fun D σ H => ∃ F st env, Wd I K F st H ∧ EvR K (hd (Nn F st) H) σ env ∧ g env st (finS I K F st H D)
structure ES (I : Hp → Prop) (X : Cx) (s : Stmt) (g : GS) : Prop where
  mono : MonoS g
  ps : PS X s (lS I X.K g)
structure ESs (I : Hp → Prop) (X : Cx) (s : List Stmt) (g : GS) : Prop where
  mono : MonoS g
  ps : PSs X s (lS I X.K g)
theorem ps_imp {X : Cx} {s : Stmt} {t t' : TS} (h : PS X s t) (i : ∀ D σ H, t' D σ H → t D σ H) : PS X s t' := ⟨fun pins s σ H D I q => h.run pins s σ H D I (i D σ H q)⟩
theorem pss_imp {X : Cx} {s : List Stmt} {t t' : TS} (h : PSs X s t) (i : ∀ D σ H, t' D σ H → t D σ H) : PSs X s t' := ⟨fun pins s σ H D I q => h.run pins s σ H D I (i D σ H q)⟩
def gSkip : GS := fun env st D => D.nx env st
def gSeq (a b : GS) : GS := fun env st D => a env st { D with nx := fun e s => b e s D }
def gRet (g : GE) : GS := fun env st D => g env st fun p s => fz p s D.rt
def gDrop (g : GE) : GS := fun env st D => g env st fun _ s => D.nx env s
def gAsg (g : GE) (t : TP) : GS := fun env st D => g env st fun p s => t p env fun e => D.nx e s
def gIf (c : GT) (a b : GS) : GS := fun env st D => c env st fun t s => match t with
  | true => a env s D
  | false => b env s D
section
variable {I : Hp → Prop} {X : Cx} {K : PySem.W.Frag} {F : Addr → Prop} {st st1 : Sto} {H H1 : Hp} {σ : L2.St} {env : Env} {pos : Pos}
theorem finN.le {Q : L2.St → Hp → Prop} {e : Env} {s : Sto} (l : Le F st H st1 H1) (h : finN I K F st H Q e s) : finN I K F st1 H1 Q e s := fun σ' H' l2 => h σ' H' (l.trans l2)
theorem finS.le {D : Ends} (l : Le F st H st1 H1) : GEnds.Sub (finS I K F st H D) (finS I K F st1 H1 D) := ⟨fun _ _ => finN.le l, fun _ _ => finE.le l, fun _ _ => finN.le l, fun _ _ => finN.le l⟩
theorem lS_of {g : GS} {D : Ends} {D1 : GEnds} (m : MonoS g) (w : Wd I K F st H) (ev : EvR K (hd (Nn F st) H) σ env) (h : g env st D1) (k : GEnds.Sub D1 (finS I K F st H D)) : lS I K g D σ H := ⟨F, st, env, w, ev, m _ _ _ _ k h⟩
theorem ess_nil : ESs I X [] gSkip := ⟨fun _ _ _ _ k h => k.nx _ _ h, pss_imp pss_nil fun D σ H ⟨F, st, env, w, ev, q⟩ => q σ H .refl w ev⟩
theorem ess_cons {s : Stmt} {r : List Stmt} {a b : GS} (h : ES I X s a) (hr : ESs I X r b) : ESs I X (s :: r) (gSeq a b) := by
  refine ⟨fun env st D D' k q => by
    refine h.mono _ _ _ _ ?_ q
    exact ⟨fun _ _ z => hr.mono _ _ _ _ k z, k.rt, k.bk, k.ct⟩, pss_imp (pss_cons h.ps hr.ps) fun D σ H ⟨F, st, env, w, ev, q⟩ => ?_⟩
  refine lS_of h.mono w ev q ⟨fun e s z σ' H' l w' ev' => ?_, fun _ _ z => z, fun _ _ z => z, fun _ _ z => z⟩
  exact lS_of hr.mono w' ev' z (finS.le l)
theorem ess_one {s : Stmt} {a : GS} (h : ES I X s a) : ESs I X [s] a := ⟨h.mono, pss_one h.ps⟩
theorem es_ret {e : Expr} {g : GE} (h : EE I X e g) : ES I X (.Return (some e) pos) (gRet g) := by
  refine ⟨fun env st D D' k q => h.mono _ _ _ _ (fun _ _ z => fz_mono k.rt z) q, ps_imp (ps_ret h.pe) fun D σ H ⟨F, st, env, w, ev, q⟩ => ?_⟩
  refine lE_of h.mono w ev q fun p s z v H' l w' r => ?_
  obtain ⟨q, s2, l2, w2, r2, h2⟩ := fz_ok w' r z
  exact h2 v H' (l.trans l2) w2 r2
theorem es_expr {e : Expr} {g : GE} (h : EE I X e g) (hs : swapsWith e none pos.line X.env = pure false := by rfl) : ES I X (.Expr e pos) (gDrop g) := by
  refine ⟨fun env st D D' k q => h.mono _ _ _ _ (fun _ _ z => k.nx _ _ z) q, ps_imp (ps_expr h.pe hs) fun D σ H ⟨F, st, env, w, ev, q⟩ => ?_⟩
  exact lE_of h.mono w ev q fun p s z v H' l w' r => z σ H' l w' (ev.le l)
theorem asg_ok {g : GE} {t : TG} {tp : TP} {sl : List Nat} {D : Ends} (hm : Mono g) (ht : ∀ v σ H (Q Q' : L2.St → Hp → Prop), (∀ s h, Q s h → Q' s h) → t v σ H Q → t v σ H Q') (ok : TgOk K t tp sl) (h : lS I K (gAsg g tp) D σ H) : tAsg (lE I K g) t D σ H := by
  obtain ⟨F, st, env, w, ev, q⟩ := h
  refine lE_of hm w ev q fun p s z v H' l w' r => ?_
  refine ht _ _ _ _ _ (fun σ2 H2 q2 => ?_) (ok _ H' hd_same p v σ env _ [] (ev.le l) r z)
  obtain ⟨rfl, _, e2, ev2, q2⟩ := q2
  exact q2 σ2 _ l w' ev2
theorem asg_mono {g : GE} {tp : TP} (hm : Mono g) (tm : ∀ p env Q Q', (∀ e, Q e → Q' e) → tp p env Q → tp p env Q') : MonoS (gAsg g tp) := fun env st D D' k q => hm _ _ _ _ (fun _ _ z => tm _ _ _ _ (fun _ y => k.nx _ _ y) z) q
theorem es_set {i : Nat} {x : Str} {e : Expr} {g : GE} {pos' : Pos} (hN : X.N.Nodup) (hi : X.N[i]? = some x) (hx : Loc X.env.scope x) (h : EE I X e g) (hs : swapsWith e (some (.Name x pos')) pos.line X.env = pure false := by rfl) (hf : X.fn x = true ∨ X.env.scope.names.lookup x = some .local := by first | exact .inl rfl | exact .inr rfl | assumption) :
    ES I X (.Assign [.Name x pos'] e pos) (gAsg g (nmP i)) :=
  ⟨asg_mono h.mono fun _ _ _ _ k q => k _ q, ps_imp (ps_set hN hi hx h.pe hs hf) fun D σ H q => asg_ok h.mono (fun _ _ _ _ _ k z => k _ _ z) (fun G H s p v σ env Q vs ev r q => ⟨rfl, fun z => wipe_set (z i (List.mem_singleton.mpr rfl)), _, ev.set r, q⟩ : TgOk X.K (gName i) (nmP i) [i]) q⟩
theorem es_asg {tg e : Expr} {g : GE} {t : TG} {tp : TP} {sl : List Nat} (h : EE I X e g) (ht : EG X tg t tp sl) (hs : swapsWithSole [tg] e pos.line X.env = pure false := by rfl) (hw : swappedStores [tg] e X.env = pure none := by rfl)
    (h1 : (assignEach [tg] X.env).map (·.2) = [assign tg X.env] := by rfl) : ES I X (.Assign [tg] e pos) (gAsg g tp) :=
  ⟨asg_mono h.mono ht.mono, ps_imp (ps_asg h.pe ht.pg hs hw h1) fun D σ H q => asg_ok h.mono ht.tm ht.ok q⟩
/-- a, b = x, y with plain names -/
def gPar (i j : Nat) (g : GA) : GS := fun env st D => g env st fun ps s => match ps with
  | [p, q] => D.nx ((env.set i (some p)).set j (some q)) s
  | _ => False
theorem es_par {i j : Nat} {x y : Str} {a b : Expr} {g : GA} {px py pt : Pos} {kt k2 pt2} (hc : X.calm = true) (hN : X.N.Nodup) (hi : X.N[i]? = some x) (hj : X.N[j]? = some y) (hij : i ≠ j)
    (hx : X.env.scope.names.lookup x = some .local) (hy : X.env.scope.names.lookup y = some .local) (ha : EA I X [a, b] g)
    (hw : swappedStores [.Tuple [.Name x px, .Name y py] kt pt] (.Tuple [a, b] k2 pt2) X.env = pure (some [x, y]))
    (hs : swapsWithSole [.Tuple [.Name x px, .Name y py] kt pt] (.Tuple [a, b] k2 pt2) pos.line X.env = pure false := by rfl) :
    ES I X (.Assign [.Tuple [.Name x px, .Name y py] kt pt] (.Tuple [a, b] k2 pt2) pos) (gPar i j g) := by
  refine ⟨fun env st D D' k q => ha.mono _ _ _ _ (fun ps s z => ?_) q, ps_imp (ps_par hc hN hi hj hij hx hy ha.pa hw hs) fun D σ H ⟨F, st, env, w, ev, q⟩ => ?_⟩
  · match ps, z with
    | [p, q], z => exact k.nx _ _ z
  · refine lA_of ha.mono w ev q fun ps s z vs H' l w' r => ?_
    match ps, z, r with
    | [p, q], z, ⟨v, _, e, rv, u, _, e2, ru, e3⟩ =>
      subst e3
      subst e2
      subst e
      exact ⟨v, u, rfl, z _ H' l w' (((ev.le l).set rv).set ru)⟩
theorem es_if {c : Expr} {a b : List Stmt} {gc : GT} {ga gb : GS} (hc : ET I X c gc) (ha : ESs I X a ga) (hb : ESs I X b gb) : ES I X (.If c a b pos) (gIf gc ga gb) := by
  refine ⟨fun env st D D' k q => hc.mono _ _ _ _ (fun t s z => ?_) q, ps_imp (ps_if hc.pt ha.ps hb.ps) fun D σ H ⟨F, st, env, w, ev, q⟩ => ?_⟩
  · cases t with
    | true => exact ha.mono _ _ _ _ k z
    | false => exact hb.mono _ _ _ _ k z
  · refine lT_of hc.mono w ev q fun t s z H' l w' => ?_
    cases t with
    | true => exact lS_of ha.mono w' (ev.le l) z (finS.le l)
    | false => exact lS_of hb.mono w' (ev.le l) z (finS.le l)
theorem es_pass : ES I X (.Pass pos) gSkip := ⟨fun _ _ _ _ k h => k.nx _ _ h, ps_imp ps_pass fun D σ H ⟨F, st, env, w, ev, q⟩ => q σ H .refl w ev⟩
theorem es_break : ES I X (.Break pos) (fun env st D => D.bk env st) := ⟨fun _ _ _ _ k h => k.bk _ _ h, ps_imp ps_break fun D σ H ⟨F, st, env, w, ev, q⟩ => q σ H .refl w ev⟩
theorem es_cont : ES I X (.Continue pos) (fun env st D => D.ct env st) := ⟨fun _ _ _ _ k h => k.ct _ _ h, ps_imp ps_continue fun D σ H ⟨F, st, env, w, ev, q⟩ => q σ H .refl w ev⟩
/-- code that the proof never comes to -/
def gNever : GS := fun _ _ _ => False
theorem es_never {s : Stmt} : ES I X s gNever := ⟨fun _ _ _ _ _ h => h, ⟨fun _ _ _ _ _ _ ⟨_, _, _, _, _, q⟩ => q.elim⟩⟩
theorem ess_never {s : List Stmt} : ESs I X s gNever := ⟨fun _ _ _ _ _ h => h, ⟨fun _ _ _ _ _ _ ⟨_, _, _, _, _, q⟩ => q.elim⟩⟩
/-! while -/
def gWh (c : GT) (b : GS) : Nat → GS
  | 0 => fun _ _ _ => False
  | n + 1 => fun env st D => upT c env st fun t s => match t with
    | true => upS b env s { D with nx := fun e s2 => gWh c b n e s2 D, ct := fun e s2 => gWh c b n e s2 D, bk := D.nx }
    | false => D.nx env s
def gWhile (c : GT) (b : GS) : GS := fun env st D => ∃ n, gWh c b n env st D
theorem gWh_mono {c : GT} {b : GS} : ∀ n, MonoS (gWh c b n)
  | 0 => fun _ _ _ _ _ h => h
  | n + 1 => fun env st D D' k h => upT.mono (fun t s z => by
    cases t with
    | true =>
      refine upS.mono ?_ z
      exact ⟨fun _ _ y => gWh_mono n _ _ _ _ k y, k.rt, fun _ _ y => k.nx _ _ y, fun _ _ y => gWh_mono n _ _ _ _ k y⟩
    | false => exact k.nx _ _ z) h
theorem es_while {c : Expr} {body : List Stmt} {gc : GT} {gb : GS} (hp : PassesOwn (model X.prog X.w) X.A X.env X.xe) (hc : ET I X c gc) (hb : ESs I X body gb) : ES I X (.While c body [] pos) (gWhile gc gb) := by
  refine ⟨fun env st D D' k ⟨n, h⟩ => ⟨n, gWh_mono n _ _ _ _ k h⟩, ps_imp (ps_while hp hc.pt hb.ps) fun D σ H ⟨F, st, env, w, ev, n, q⟩ => ?_⟩
  refine ⟨fun m σ' H' => ∃ st' env', Le F st H st' H' ∧ Wd I X.K F st' H' ∧ EvR X.K (hd (Nn F st') H') σ' env' ∧ gWh gc gb m env' st' (finS I X.K F st H D), ⟨n, st, env, .refl, w, ev, q⟩, ?_⟩
  rintro m σ1 H1 ⟨st1, env1, l1, w1, ev1, q1⟩
  cases m with
  | zero => exact q1.elim
  | succ m =>
    obtain ⟨Qc, q1, kc⟩ := q1
    refine lT_of hc.mono w1 ev1 q1 fun t s z H2 l2 w2 => ?_
    have z := kc t s z
    cases t with
    | false => exact z σ1 H2 (l1.trans l2) w2 (ev1.le l2)
    | true =>
      refine ⟨_, fun σ' H' p => ⟨m, Nat.lt_succ_self m, p⟩, ?_⟩
      have z : upS gb env1 s { finS I X.K F st H D with nx := fun e s2 => gWh gc gb m e s2 (finS I X.K F st H D), ct := fun e s2 => gWh gc gb m e s2 (finS I X.K F st H D), bk := (finS I X.K F st H D).nx } := z
      obtain ⟨D1, z, kd⟩ := z
      refine lS_of hb.mono w2 (ev1.le l2) z (kd.trans ?_)
      exact ⟨fun e s3 z σ3 H3 l3 w3 ev3 => ⟨s3, e, (l1.trans l2).trans l3, w3, ev3, z⟩, fun _ _ z => finE.le (l1.trans l2) z, fun _ _ z => finN.le (l1.trans l2) z, fun e s3 z σ3 H3 l3 w3 ev3 => ⟨s3, e, (l1.trans l2).trans l3, w3, ev3, z⟩⟩
/-! ### what a loop walks -/
/-- the iterator gives these items as long as g holds -/
def WalkE (I : Hp → Prop) (K : PySem.W.Frag) (F : Addr → Prop) (st1 : Sto) (H1 : Hp) (J : It) (items : List PV) (g : Sto → Prop) : Prop :=
  ∃ (G : Hp → Prop) (Y : Nat → Hp → V → Hp → Prop), Walk J items.length G Y ∧ (∀ st' H', Le F st1 H1 st' H' → Wd I K F st' H' → g st' → G H') ∧ (∀ s a, g (s.put a none) → g s) ∧
    ∀ i st' H' x H'', Le F st1 H1 st' H' → Wd I K F st' H' → g st' → i < items.length → Y i H' x H'' → ∃ p, items[i]? = some p ∧ Rp K (hd (Nn F st') H'') x p ∧ (H'' = H' ∨ ∃ T o, H' T = none ∧ isTbl o = false ∧ H'' = upd H' T o)
abbrev GI := Env → Sto → (List PV → (Sto → Prop) → Sto → Prop) → Prop
def MonoI (g : GI) : Prop := ∀ env st Q Q', (∀ a b c, Q a b c → Q' a b c) → g env st Q → g env st Q'
def lI (I : Hp → Prop) (K : PySem.W.Frag) (g : GI) : TI := fun σ H R => ∃ F st env, Wd I K F st H ∧ EvR K (hd (Nn F st) H) σ env ∧ g env st fun items gd s1 => ∀ J H1, Le F st H s1 H1 → Wd I K F s1 H1 → WalkE I K F s1 H1 J items gd → R J H1
structure EI (I : Hp → Prop) (X : Cx) (tg it : Expr) (g : GI) : Prop where
  mono : MonoI g
  pi : PI X tg it (lI I X.K g)
def gForL (gd : Sto → Prop) (t : TP) (b : GS) : List PV → GS
  | [] => fun env st D => gd st ∧ D.nx env st
  | p :: r => fun env st D => gd st ∧ upP t p env fun e => upS b e st { D with nx := fun e2 s2 => gForL gd t b r e2 s2 D, ct := fun e2 s2 => gForL gd t b r e2 s2 D, bk := D.nx }
def gFor (it : GI) (t : TP) (b : GS) : GS := fun env st D => it env st fun items gd s => gForL gd t b items env s D
theorem gForL_mono {gd : Sto → Prop} {t : TP} {b : GS} : ∀ ps, MonoS (gForL gd t b ps)
  | [] => fun _ _ _ _ k h => ⟨h.1, k.nx _ _ h.2⟩
  | p :: r => fun env st D D' k h => ⟨h.1, upP.mono (fun e z => by
    refine upS.mono ?_ z
    exact ⟨fun _ _ y => gForL_mono r _ _ _ _ k y, k.rt, fun _ _ y => k.nx _ _ y, fun _ _ y => gForL_mono r _ _ _ _ k y⟩) h.2⟩
theorem tbl_ok (w : Wd I K F st H) (i0 : Inv0 I) {H2 : Hp} (h : H2 = H ∨ ∃ T o, H T = none ∧ isTbl o = false ∧ H2 = upd H T o) : Le F st H st H2 ∧ Wd I K F st H2 := by
  rcases h with rfl | ⟨T, o, hT, to, rfl⟩
  · exact ⟨.refl, w⟩
  · exact ⟨Le.new hT, w.new i0 hT⟩
theorem es_for {iter tg : Expr} {body : List Stmt} {gi : GI} {t : TG} {tp : TP} {sl : List Nat} {gb : GS} (i0 : Inv0 I) (hp : PassesOwn (model X.prog X.w) X.A X.env X.xe) (hc : X.calm = true) (hi : EI I X tg iter gi) (hg : EG X tg t tp sl) (hb : ESs I X body gb)
    (hs : ∀ x, foldedSetIterable iter X.env x = pure x := by intro _; rfl) : ES I X (.For tg iter body [] pos) (gFor gi tp gb) := by
  refine ⟨fun env st D D' k h => hi.mono _ _ _ _ (fun items gd s z => gForL_mono items _ _ _ _ k z) h, ps_imp (ps_for hp hc hi.pi hg.pg hb.ps hs) fun D σ H ⟨F, st, env, w, ev, q⟩ => ?_⟩
  refine ⟨F, st, env, w, ev, hi.mono _ _ _ _ (fun items gd s1 z J H1 l1 w1 ⟨G, Y, wk, hG, _, hY⟩ => ?_) q⟩
  have gdOf : ∀ {ps : List PV} {e : Env} {s : Sto} {D : GEnds}, gForL gd tp gb ps e s D → gd s := fun {ps e s D} z => by
    cases ps with
    | nil => exact z.1
    | cons p r => exact z.1
  refine for_it wk (fun i σ' H' => ∃ st' env', Le F s1 H1 st' H' ∧ Wd I X.K F st' H' ∧ EvR X.K (hd (Nn F st') H') σ' env' ∧ gForL gd tp gb (items.drop i) env' st' (finS I X.K F st H D)) ⟨s1, env, .refl, w1, ev.le l1, z⟩ (fun i σ' H' hi ⟨st', env', l, w', ev', z'⟩ => hG st' H' l w' (gdOf z')) ?_ ?_
  · rintro i x σ' H' H'' hi ⟨st', env', l, w', ev', z'⟩ y
    obtain ⟨p, hp, rp, hx⟩ := hY i st' H' x H'' l w' (gdOf z') hi y
    obtain ⟨l2, w2⟩ := tbl_ok w' i0 hx
    have e1 : items.drop i = p :: items.drop (i + 1) := by
      rw [List.drop_eq_getElem_cons hi]
      congr 1
      rw [List.getElem?_eq_getElem hi] at hp
      exact Option.some.inj hp
    rw [e1] at z'
    obtain ⟨Qt, zt, kt⟩ := z'.2
    refine hg.tm _ _ _ _ _ (fun σ3 H3 q3 => ?_) (hg.ok _ H'' hd_same p x σ' env' _ [] (ev'.le l2) rp zt)
    obtain ⟨rfl, _, e3, ev3, q3⟩ := q3
    obtain ⟨D1, q3, kd⟩ := kt _ q3
    refine lS_of hb.mono w2 ev3 q3 (kd.trans ?_)
    exact ⟨fun e s4 z4 σ4 H4 l4 w4 ev4 => ⟨s4, e, (l.trans l2).trans l4, w4, ev4, z4⟩, fun _ _ z4 => finE.le ((l1.trans l).trans l2) z4, fun _ _ z4 => finN.le ((l1.trans l).trans l2) z4, fun e s4 z4 σ4 H4 l4 w4 ev4 => ⟨s4, e, (l.trans l2).trans l4, w4, ev4, z4⟩⟩
  · rintro σ' H' ⟨st', env', l, w', ev', z'⟩
    rw [List.drop_length] at z'
    exact z'.2 σ' H' (l1.trans l) w' ev'
end
end Ev

namespace Ev
open PySem PySem.Spec PyProof.Rows L2 Own
/-! ### tests -/
def tru (p : PV) (st : Sto) (Q : Bool → Prop) : Prop := match p with
  | .non => Q false
  | .bl b => Q b
  | .int i => Q (i != 0)
  | .str z => z.length ≤ sizeLine ∧ Q ((z.length : Int) != 0)
  | .tup xs => Q !xs.isEmpty
  | .tq xs => Q !xs.isEmpty
  | .lst xs => Q !xs.isEmpty
  | .sq xs => Q !xs.isEmpty
  | .cell a => match st a with
    | some (.lst xs) => Q !xs.isEmpty
    | _ => False
  | _ => False
def gTru (g : GE) : GT := fun env st Q => g env st fun p s => tru p s fun b => Q b s
/-- a value that is a bool -/
def gBool (g : GE) : GT := fun env st Q => g env st fun p s => match p with
  | .bl b => Q b s
  | _ => False
def gNot (g : GT) : GT := fun env st Q => g env st fun b s => Q (!b) s
def gAnd (a b : GT) : GT := fun env st Q => a env st fun t s => match t with
  | true => b env s Q
  | false => Q false s
def gOr (a b : GT) : GT := fun env st Q => a env st fun t s => match t with
  | true => Q true s
  | false => b env s Q
def gYes : GT := fun _ st Q => Q true st
theorem tru_mono {p : PV} {st : Sto} {Q Q' : Bool → Prop} (k : ∀ b, Q b → Q' b) (h : tru p st Q) : tru p st Q' := by
  unfold tru at h ⊢
  split at h <;> first
    | exact k _ h
    | exact ⟨h.1, k _ h.2⟩
    | (split at h <;> first | exact k _ h | exact h)
    | exact h
theorem empty_len {K : PySem.W.Frag} {G : Hp} {us : List V} {xs : List PV} (r : RpAll K G us xs) : (!us.isEmpty) = !xs.isEmpty := by
  cases xs with
  | nil =>
    rw [show us = [] from r]
    rfl
  | cons p ps =>
    obtain ⟨v, ws, e, _, _⟩ := r
    rw [e]
    rfl
theorem tru_ok {I : Hp → Prop} {K : PySem.W.Frag} {F : Addr → Prop} {st : Sto} {H : Hp} {p : PV} {v : V} {Q : Bool → Prop} (w : Wd I K F st H) (r : Rp K (hd (Nn F st) H) v p) (h : tru p st Q) : ∃ k, TruV K v H k ∧ Q k := by
  unfold tru at h
  split at h
  · rw [show v = .non from r]
    exact ⟨_, rfl, h⟩
  · rw [show v = .bl _ from r]
    exact ⟨_, rfl, h⟩
  · rw [show v = .int _ from r]
    exact ⟨_, rfl, h⟩
  · rw [show v = .str _ from r]
    exact ⟨_, ⟨h.1, rfl⟩, h.2⟩
  · obtain ⟨a, us, rfl, hs, ra⟩ := r
    exact ⟨_, .inr (.inl ⟨us, SqT.of (hd_same _ _ hs), (empty_len ra).symm⟩), h⟩
  · obtain ⟨a, us, rfl, hs, ra⟩ := r
    exact ⟨_, .inr (.inl ⟨us, tupS hd_same hs, (empty_len ra).symm⟩), h⟩
  · obtain ⟨a, us, rfl, hs, ra⟩ := r
    exact ⟨_, .inl ⟨us, SqL.of (hd_same _ _ hs), (empty_len ra).symm⟩, h⟩
  · obtain ⟨a, us, rfl, hs, ra⟩ := r
    exact ⟨_, .inl ⟨us, lstS hd_same hs, (empty_len ra).symm⟩, h⟩
  · rename_i a
    split at h
    · rename_i xs e
      obtain ⟨us, hs, ra⟩ := w.at_ _ _ e
      rw [show v = .ref a from r]
      exact ⟨_, .inl ⟨us, SqL.of hs, (empty_len ra).symm⟩, h⟩
    · exact h.elim
  · exact h.elim
section
variable {I : Hp → Prop} {X : Cx} {pos : Pos} {a b : Expr} {rest : List Expr} {g : GE} {ga gb : GT}
theorem et_tru (h : EE I X a g) (he : ∀ whole, isTrue a X.env whole = (do let v ← whole; standAt a.pos; holding [v] (truthy v)) := by intro _; rfl) : ET I X a (gTru g) := by
  refine ⟨fun env st Q Q' k q => h.mono _ _ _ _ (fun _ _ z => tru_mono (fun _ y => k _ _ y) z) q, pt_imp (pt_truth h.pe he) fun σ H Q ⟨F, st, env, w, ev, q⟩ => ?_⟩
  refine lE_of h.mono w ev q fun p s z v H' l w' r => ?_
  obtain ⟨k, tk, hk⟩ := tru_ok w' r z
  exact ⟨k, tk, hk H' l w'⟩
theorem gBool_mono (h : Mono g) : MonoT (gBool g) := fun env st Q Q' k q => h _ _ _ _ (fun p s z => by
  cases p with
  | bl b => exact k _ _ z
  | _ => exact (show False from z).elim) q
theorem tB_of {K : PySem.W.Frag} (h : Mono g) {σ : L2.St} {H : Hp} {Q : Bool → Hp → Prop} (q : lT I K (gBool g) σ H Q) : lE I K g σ H fun x H1 => ∃ c, x = .bl c ∧ Q c H1 := by
  obtain ⟨F, st, env, w, ev, q⟩ := q
  refine lE_of h w ev q fun p s z v H' l w' r => ?_
  cases p with
  | bl b => exact ⟨b, r, z H' l w'⟩
  | _ => exact (show False from z).elim
theorem et_val (h : EE I X a g) (he : ∀ whole, isTrue a X.env whole = (do let v ← whole; standAt a.pos; holding [v] (truthy v)) := by intro _; rfl) : ET I X a (gBool g) := ⟨gBool_mono h.mono, pt_imp (pt_val h.pe he) fun σ H Q q => tB_of h.mono q⟩
theorem et_not (h : ET I X a ga) : ET I X (.UnaryOp .Not a pos) (gNot ga) :=
  ⟨fun env st Q Q' k q => h.mono _ _ _ _ (fun _ _ z => k _ _ z) q, pt_imp (pt_not h.pt) fun σ H Q ⟨F, st, env, w, ev, q⟩ => lT_of h.mono w ev q fun _ _ z => z⟩
theorem ew_and1 (h : ET I X a ga) : EW I X (.BoolOp .And [a] pos) ga := ⟨h.mono, pw_and1 h.pt⟩
theorem ew_or1 (h : ET I X a ga) : EW I X (.BoolOp .Or [a] pos) ga := ⟨h.mono, pw_or1 h.pt⟩
theorem ew_and (h : ET I X a ga) (hr : EW I X (.BoolOp .And (b :: rest) pos) gb) : EW I X (.BoolOp .And (a :: b :: rest) pos) (gAnd ga gb) := by
  refine ⟨fun env st Q Q' k q => h.mono _ _ _ _ (fun t s z => ?_) q, pw_imp (pw_and h.pt hr.pw) fun σ H Q ⟨F, st, env, w, ev, q⟩ => ?_⟩
  · cases t with
    | true => exact hr.mono _ _ _ _ k z
    | false => exact k _ _ z
  · refine lT_of h.mono w ev q fun t s z H' l w' => ?_
    cases t with
    | true => exact lT_of hr.mono w' (ev.le l) z fun _ _ y => finT.le l y
    | false => exact z H' l w'
theorem ew_or (h : ET I X a ga) (hr : EW I X (.BoolOp .Or (b :: rest) pos) gb) : EW I X (.BoolOp .Or (a :: b :: rest) pos) (gOr ga gb) := by
  refine ⟨fun env st Q Q' k q => h.mono _ _ _ _ (fun t s z => ?_) q, pw_imp (pw_or h.pt hr.pw) fun σ H Q ⟨F, st, env, w, ev, q⟩ => ?_⟩
  · cases t with
    | false => exact hr.mono _ _ _ _ k z
    | true => exact k _ _ z
  · refine lT_of h.mono w ev q fun t s z H' l w' => ?_
    cases t with
    | false => exact lT_of hr.mono w' (ev.le l) z fun _ _ y => finT.le l y
    | true => exact z H' l w'
theorem EW.et (h : EW I X a ga) : ET I X a ga := ⟨h.mono, h.pw.pt⟩
/-! as values -/
def gAndV (a b : GE) : GE := fun env st Q => a env st fun p s => match p with
  | .bl true => b env s Q
  | .bl false => Q (.bl false) s
  | _ => False
def gOrV (a b : GE) : GE := fun env st Q => a env st fun p s => match p with
  | .bl true => Q (.bl true) s
  | .bl false => b env s Q
  | _ => False
def gNotV (a : GE) : GE := fun env st Q => a env st fun p s => match p with
  | .bl t => Q (.bl (!t)) s
  | _ => False
def gIte (c : GT) (a b : GE) : GE := fun env st Q => c env st fun t s => match t with
  | true => a env s Q
  | false => b env s Q
variable {g1 g2 : GE}
theorem ee_one {op} (h : EE I X a g) : EE I X (.BoolOp op [a] pos) g := ⟨h.mono, pe_one h.pe⟩
theorem ee_and (h : EE I X a g1) (hr : EE I X (.BoolOp .And (b :: rest) pos) g2) : EE I X (.BoolOp .And (a :: b :: rest) pos) (gAndV g1 g2) := by
  refine ⟨fun env st Q Q' k q => h.mono _ _ _ _ (fun p s z => ?_) q, pe_imp (pe_and h.pe hr.pe) fun σ H Q ⟨F, st, env, w, ev, q⟩ => ?_⟩
  · cases p with
    | bl t =>
      cases t with
      | true => exact hr.mono _ _ _ _ k z
      | false => exact k _ _ z
    | _ => exact (show False from z).elim
  · refine lE_of h.mono w ev q fun p s z v H' l w' r => ?_
    cases p with
    | bl t =>
      refine ⟨t, r, ?_⟩
      cases t with
      | true => exact lE_of hr.mono w' (ev.le l) z fun _ _ y => finE.le l y
      | false => exact z (.bl false) H' l w' rfl
    | _ => exact (show False from z).elim
theorem ee_or (h : EE I X a g1) (hr : EE I X (.BoolOp .Or (b :: rest) pos) g2) : EE I X (.BoolOp .Or (a :: b :: rest) pos) (gOrV g1 g2) := by
  refine ⟨fun env st Q Q' k q => h.mono _ _ _ _ (fun p s z => ?_) q, pe_imp (pe_or h.pe hr.pe) fun σ H Q ⟨F, st, env, w, ev, q⟩ => ?_⟩
  · cases p with
    | bl t =>
      cases t with
      | false => exact hr.mono _ _ _ _ k z
      | true => exact k _ _ z
    | _ => exact (show False from z).elim
  · refine lE_of h.mono w ev q fun p s z v H' l w' r => ?_
    cases p with
    | bl t =>
      refine ⟨t, r, ?_⟩
      cases t with
      | false => exact lE_of hr.mono w' (ev.le l) z fun _ _ y => finE.le l y
      | true => exact z (.bl true) H' l w' rfl
    | _ => exact (show False from z).elim
theorem ee_not (h : EE I X a g1) : EE I X (.UnaryOp .Not a pos) (gNotV g1) := by
  refine ⟨fun env st Q Q' k q => h.mono _ _ _ _ (fun p s z => ?_) q, pe_imp (pe_not h.pe) fun σ H Q ⟨F, st, env, w, ev, q⟩ => ?_⟩
  · cases p with
    | bl t => exact k _ _ z
    | _ => exact (show False from z).elim
  · refine lE_of h.mono w ev q fun p s z v H' l w' r => ?_
    cases p with
    | bl t => exact ⟨t, r, z _ H' l w' rfl⟩
    | _ => exact (show False from z).elim
theorem ee_ite {c : Expr} (hc : ET I X c ga) (h1 : EE I X a g1) (h2 : EE I X b g2) : EE I X (.IfExp c a b pos) (gIte ga g1 g2) := by
  refine ⟨fun env st Q Q' k q => hc.mono _ _ _ _ (fun t s z => ?_) q, pe_imp (pe_ifExp hc.pt h1.pe h2.pe) fun σ H Q ⟨F, st, env, w, ev, q⟩ => ?_⟩
  · cases t with
    | true => exact h1.mono _ _ _ _ k z
    | false => exact h2.mono _ _ _ _ k z
  · refine lT_of hc.mono w ev q fun t s z H' l w' => ?_
    cases t with
    | true => exact lE_of h1.mono w' (ev.le l) z fun _ _ y => finE.le l y
    | false => exact lE_of h2.mono w' (ev.le l) z fun _ _ y => finE.le l y
end
/-! ### comprehensions -/
structure ETs (I : Hp → Prop) (X : Cx) (ifs : List Expr) (g : GT) : Prop where
  mono : MonoT g
  pts : PTs X ifs (lT I X.K g)
section
variable {I : Hp → Prop} {X : Cx} {a b : Expr} {ga gb : GT}
theorem pts_imp {X : Cx} {es : List Expr} {t t' : TT} (h : PTs X es t) (i : ∀ σ H Q, t' σ H Q → t σ H Q) : PTs X es t' := ⟨fun pins s σ H Q I q => h.run pins s σ H Q I (i σ H Q q)⟩
theorem ets_nil : ETs I X [] gYes := ⟨fun _ _ _ _ k q => k _ _ q, pts_imp pts_nil fun σ H Q ⟨F, st, env, w, ev, q⟩ => q H .refl w⟩
theorem ets_one (h : ET I X a ga) : ETs I X [a] ga := ⟨h.mono, pts_one h.pt⟩
end
def wipeE (env : Env) : List Nat → Env
  | [] => env
  | v :: vs => (wipeE env vs).set v none
theorem wipe_twice (σ : L2.St) : ∀ vs : List Nat, wipe (wipe σ vs) vs = wipe σ vs := by
  have pull : ∀ (v : Nat) (ws : List Nat) (τ : L2.St), wipe (τ.set v none) ws = (wipe τ ws).set v none := fun v ws τ => by
    induction ws with
    | nil => rfl
    | cons w ws ih =>
      show (wipe (τ.set v none) ws).set w none = ((wipe τ ws).set w none).set v none
      rw [ih]
      by_cases z : w = v
      · subst z
        rfl
      · rw [List.set_comm _ _ z]
  intro vs
  induction vs with
  | nil => rfl
  | cons v vs ih =>
    show (wipe ((wipe σ vs).set v none) vs).set v none = (wipe σ vs).set v none
    rw [pull, ih, List.set_set]
theorem EvR.wipe {K : PySem.W.Frag} {G : Hp} {σ : L2.St} {env : Env} (h : EvR K G σ env) : ∀ vs : List Nat, EvR K G (L2.wipe σ vs) (wipeE env vs)
  | [] => h
  | v :: vs => by
    obtain ⟨h1, h2⟩ := EvR.wipe h vs
    refine ⟨by show ((L2.wipe σ vs).set v none).length = ((wipeE env vs).set v none).length; rw [List.length_set, List.length_set, h1], fun i p e => ?_⟩
    have e : ((wipeE env vs).set v none)[i]? = some (some p) := e
    show ∃ u, ((L2.wipe σ vs).set v none)[i]? = some (some u) ∧ _
    by_cases z : v = i
    · subst z
      have hj := (List.getElem?_eq_some_iff.mp e).1
      rw [List.length_set] at hj
      rw [List.getElem?_set_self hj] at e
      cases e
    · rw [List.getElem?_set_ne z] at e ⊢
      exact h2 i p e
def gLcL (gd : Sto → Prop) (t : TP) (c : GT) (g : GE) : List PV → List PV → GE
  | [], acc => fun _ st Q => gd st ∧ Q (.lst acc) st
  | p :: r, acc => fun env st Q => gd st ∧ upP t p env fun e => upT c e st fun b s2 => match b with
    | true => upE g e s2 fun y s3 => fz y s3 fun z s4 => gLcL gd t c g r (acc ++ [z]) env s4 Q
    | false => gLcL gd t c g r acc env s2 Q
def gLc (it : GI) (t : TP) (c : GT) (g : GE) (vs : List Nat) : GE := fun env st Q => it env st fun items gd s => items.length ≤ 1000000 ∧ gLcL gd t c g items [] (wipeE env vs) s Q
theorem gLcL_mono {gd : Sto → Prop} {t : TP} {c : GT} {g : GE} : ∀ ps acc, Mono (gLcL gd t c g ps acc)
  | [], _ => fun _ _ _ _ k h => ⟨h.1, k _ _ h.2⟩
  | p :: r, acc => fun env st Q Q' k h => ⟨h.1, upP.mono (fun e z => upT.mono (fun b s2 y => by
    cases b with
    | true => exact upE.mono (fun _ _ x => fz_mono (fun _ _ u => gLcL_mono r _ _ _ _ _ k u) x) y
    | false => exact gLcL_mono r _ _ _ _ _ k y) z) h.2⟩
section
variable {I : Hp → Prop} {K : PySem.W.Frag} {F : Addr → Prop} {st s2 : Sto} {H H' : Hp} {D : Addr} {m : MO}
theorem put_put {a : Addr} {m m' : Option MO} : (st.put a m).put a m' = st.put a m' := funext fun b => by
  by_cases z : b = a
  · rw [z, put_at, put_at]
  · rw [put_ne z, put_ne z, put_ne z]
theorem put_same {a : Addr} {m : Option MO} (h : st a = m) : st.put a m = st := funext fun b => by
  by_cases z : b = a
  · rw [z, put_at, h]
  · rw [put_ne z]
theorem Nn_aside (h : st D = some m) : Nn F st = Nn (fun b => F b ∨ b = D) (st.put D none) := funext fun b => propext (by
  unfold Nn
  by_cases z : b = D
  · rw [z, put_at]
    exact ⟨fun _ => .inl (.inr rfl), fun _ => .inr (by rw [h]; exact fun q => nomatch q)⟩
  · rw [put_ne z]
    exact ⟨fun q => q.elim (fun q => .inl (.inl q)) .inr, fun q => q.elim (fun q => q.elim .inl fun e => absurd e z) .inr⟩)
theorem Nn_back : Nn (fun b => F b ∨ b = D) s2 = Nn F (s2.put D (some m)) := funext fun b => propext (by
  unfold Nn
  by_cases z : b = D
  · rw [z, put_at]
    exact ⟨fun _ => .inr (fun q => nomatch q), fun _ => .inl (.inr rfl)⟩
  · rw [put_ne z]
    exact ⟨fun q => q.elim (fun q => q.elim .inl fun e => absurd e z) .inr, fun q => q.elim (fun q => .inl (.inl q)) .inr⟩)
theorem Wd.back (w : Wd I K (fun b => F b ∨ b = D) s2 H) (nF : ¬ F D) {us : List V} {xs : List PV} (h : H D = some (.lst us)) (r : RpAll K (hd (Nn (fun b => F b ∨ b = D) s2) H) us xs) : Wd I K F (s2.put D (some (.lst xs))) H := by
  refine ⟨fun b f => w.fr b (.inl f), fun b f => ?_, fun b n e => ?_, w.inv⟩
  · rw [put_ne (fun z => nF (by rw [← z]; exact f))]
    exact w.ap b (.inl f)
  · rw [← Nn_back]
    by_cases z : b = D
    · rw [z, put_at] at e
      cases e
      rw [z]
      exact ⟨us, h, r⟩
    · rw [put_ne z] at e
      exact w.at_ b n e
theorem Le.back (l : Le (fun b => F b ∨ b = D) (st.put D none) H s2 H') (h : st D = some m) {m' : MO} : Le F st H (s2.put D (some m')) H' := by
  refine ⟨fun b o n e t => ?_, fun b o f e t => l.fr b o (.inl f) e t⟩
  rw [Nn_aside h] at n
  rw [← Nn_back]
  exact l.keep b o n e t
end
section
variable {I : Hp → Prop} {X : Cx} {pos : Pos}
theorem lc_ok {K : PySem.W.Frag} {gi : GI} {t : TG} {tp : TP} {sl vs : List Nat} {gc : GT} {ge : GE} {σ : L2.St} {H : Hp} {Q : VK} (i0 : Inv0 I) (him : MonoI gi) (htm : ∀ v σ H (Q Q' : L2.St → Hp → Prop), (∀ s h, Q s h → Q' s h) → t v σ H Q → t v σ H Q') (hok : TgOk K t tp sl)
    (hcm : MonoT gc) (hgm : Mono ge) (sub : ∀ i ∈ sl, i ∈ vs) (h : lE I K (gLc gi tp gc ge vs) σ H Q) : tLc (lI I K gi) t (lT I K gc) (lE I K ge) vs σ H Q := by
  obtain ⟨F, st, env, w, ev, q⟩ := h
  refine ⟨F, st, env, w, ev, him _ _ _ _ (fun items gd s1 z0 J H1 l1 w1 ⟨G, Y, wk, hG, hgd, hY⟩ D nD => ?_) q⟩
  obtain ⟨few, z⟩ := z0
  have gdOf : ∀ {ps acc : List PV} {e : Env} {s : Sto} {Q : QV}, gLcL gd tp gc ge ps acc e s Q → gd s := fun {ps acc e s Q} z => by
    cases ps with
    | nil => exact z.1
    | cons p r => exact z.1
  have s1D : s1 D = none := not_cell w1 nD
  have nFD : ¬ F D := fun f => w1.fresh nD (.inl f)
  have evW : EvR K (hd (Nn F s1) H1) (wipe σ vs) (wipeE env vs) := (ev.le l1).wipe vs
  refine lc_it wk (fun i H' => ∃ sD acc, Le F s1 H1 sD H' ∧ Wd I K F sD H' ∧ sD D = some (.lst acc) ∧ acc.length ≤ i ∧ gLcL gd tp gc ge (items.drop i) acc (wipeE env vs) (sD.put D none) (finE I K F st H Q)) ?_ ?_ ?_ ?_
  · refine ⟨s1.put D (some (.lst [])), [], Le.cell nD, w1.cell i0 nD rfl, put_at, Nat.le_refl _, ?_⟩
    rw [put_put, put_same s1D]
    exact z
  · rintro i H' hi ⟨sD, acc, l, w', hD, _, z'⟩
    exact hG _ H' l w' (hgd _ _ (gdOf z'))
  · rintro i x H' H'' hi ⟨sD, acc, l, w', hD, la, z'⟩ y
    obtain ⟨p, hp, rp, hx⟩ := hY i sD H' x H'' l w' (hgd _ _ (gdOf z')) hi y
    obtain ⟨l2, w2⟩ := tbl_ok w' i0 hx
    have e1 : items.drop i = p :: items.drop (i + 1) := by
      rw [List.drop_eq_getElem_cons hi]
      congr 1
      rw [List.getElem?_eq_getElem hi] at hp
      exact Option.some.inj hp
    rw [e1] at z'
    obtain ⟨Qt, z', kt⟩ := z'.2
    have wA := w2.aside hD
    have evA : EvR K (hd (Nn (fun b => F b ∨ b = D) (sD.put D none)) H'') (wipe σ vs) (wipeE env vs) := by
      rw [← Nn_aside hD]
      exact evW.same ((l.trans l2).same)
    rw [Nn_aside hD] at rp
    refine htm _ _ _ _ _ (fun σ3 H3 q3 => ?_) (hok _ H'' hd_same p x (wipe σ vs) (wipeE env vs) _ vs evA rp z')
    obtain ⟨rfl, wq, e3, ev3, q3⟩ := q3
    obtain ⟨Qc, q3, kc⟩ := kt _ q3
    refine ⟨(wq sub).trans (wipe_twice σ vs), ?_⟩
    obtain ⟨us, hus, rus⟩ := w2.at_ D _ hD
    rw [Nn_aside hD] at rus
    refine lT_of hcm wA ev3 q3 fun b s4 z4 H4 l4 w4 => ?_
    have z4 := kc b s4 z4
    have hus4 := l4.fr D _ (.inr rfl) hus rfl
    cases b with
    | false =>
      have z4 : gLcL gd tp gc ge (items.drop (i + 1)) acc (wipeE env vs) s4 (finE I K F st H Q) := z4
      refine ⟨s4.put D (some (.lst acc)), acc, (l.trans l2).trans (l4.back hD), w4.back nFD hus4 (RpAll.same l4.same rus), put_at, by omega, ?_⟩
      rw [put_put, put_same (w4.ap D (.inr rfl))]
      exact z4
    | true =>
      have z4 : upE ge e3 s4 fun y s5 => fz y s5 fun u s6 => gLcL gd tp gc ge (items.drop (i + 1)) (acc ++ [u]) (wipeE env vs) s6 (finE I K F st H Q) := z4
      obtain ⟨Qg, z4, kg⟩ := z4
      refine lE_of hgm w4 (ev3.le l4) z4 fun y s5 z5 v H5 l5 w5 r5 => ?_
      have z5 := kg y s5 z5
      obtain ⟨u, s6, l6, w6, r6, z6⟩ := fz_ok w5 r5 z5
      have l46 := (l4.trans l5).trans l6
      have hus6 := l46.fr D _ (.inr rfl) hus rfl
      have rus6 := RpAll.same l46.same rus
      have wb := w6.back nFD hus6 rus6
      have lus := rus.len
      refine ⟨us, hus6, by rw [sizeLine_eq]; omega, s6.put D (some (.lst (acc ++ [u]))), acc ++ [u], ?_, ?_, put_at, by rw [List.length_append, List.length_singleton]; omega, ?_⟩
      · have lw := Le.write (o := .lst (us ++ [v])) (m' := .lst (acc ++ [u])) wb (a := D) put_at
        rw [put_put] at lw
        exact ((l.trans l2).trans (l46.back hD)).trans lw
      · have ww := wb.write i0 (a := D) (us := us ++ [v]) (xs := acc ++ [u]) put_at (by rw [← Nn_back]; exact RpAll.app rus6 (RpAll.one r6))
        rw [put_put] at ww
        exact ww
      · rw [put_put, put_same (w6.ap D (.inr rfl))]
        exact z6
  · rintro H' ⟨sD, acc, l, w', hD, _, z'⟩
    rw [List.drop_length] at z'
    exact z'.2 _ H' (l1.trans (l.trans Le.freeze)) w'.freeze (rp_freeze w' hD)
theorem ee_lc {elt tg iter : Expr} {ifs : List Expr} {scope : Scope} {own : List (Str × Nat)} {gi : GI} {t : TG} {tp : TP} {sl : List Nat} {gc : GT} {ge : GE} (i0 : Inv0 I) (hc : X.calm = true) (hN : X.N.Nodup) (hi : EI I X tg iter gi) (ok : BlkOk X.N X.env.scope scope own)
    (hg : ∀ (s : Shared) (H : Hp) (C : Addr) (cl : List (Str × Addr)) (fp : List Addr), EG (X.blk s H scope (compEnvC scope cl C X.env) fp) tg t tp sl) (ht : ∀ (s : Shared) (H : Hp) (C : Addr) (cl : List (Str × Addr)) (fp : List Addr), ETs I (X.blk s H scope (compEnvC scope cl C X.env) fp) ifs gc)
    (he : ∀ (s : Shared) (H : Hp) (C : Addr) (cl : List (Str × Addr)) (fp : List Addr), EE I (X.blk s H scope (compEnvC scope cl C X.env) fp) elt ge) (sub : ∀ i ∈ sl, i ∈ own.map (·.2) := by decide) (hs : ∀ x, foldedSetIterable iter X.env x = pure x := by intro _; rfl) :
    EE I X (.ListComp elt [⟨tg, iter, ifs, 0⟩] scope pos) (gLc gi tp gc ge (own.map (·.2))) := by
  obtain ⟨s0⟩ : Nonempty Shared := ⟨X.s_0⟩
  have g0 := hg s0 (fun _ => none) 0 [] []
  have c0 := (ht s0 (fun _ => none) 0 [] []).mono
  have e0 := (he s0 (fun _ => none) 0 [] []).mono
  refine ⟨fun env st Q Q' k q => hi.mono _ _ _ _ (fun _ _ _ z => ⟨z.1, gLcL_mono _ _ _ _ _ _ k z.2⟩) q, pe_imp (pe_lc (te := lE I X.K ge) (tt := lT I X.K gc) hc hN hi.pi ok (fun s H C cl fp => (hg s H C cl fp).pg) (fun s H C cl fp => (ht s H C cl fp).pts) (fun s H C cl fp => (he s H C cl fp).pe) hs) fun σ H Q q => ?_⟩
  exact lc_ok i0 hi.mono g0.tm g0.ok c0 e0 sub q
theorem es_setLc {i : Nat} {y : Str} {py : Pos} {elt tg iter : Expr} {ifs : List Expr} {scope : Scope} {own : List (Str × Nat)} {spos : Pos} {gi : GI} {t : TG} {tp : TP} {sl : List Nat} {gc : GT} {ge : GE} (i0 : Inv0 I) (hc : X.calm = true) (hN : X.N.Nodup) (hy : X.N[i]? = some y) (hyl : X.env.scope.names.lookup y = some .local)
    (hsw : swapsWith (.ListComp elt [⟨tg, iter, ifs, 0⟩] scope pos) (some (.Name y py)) spos.line X.env = pure true) (hi : EI I X tg iter gi) (ok : BlkOk X.N X.env.scope scope own)
    (hg : ∀ (s : Shared) (H : Hp) (C : Addr) (cl : List (Str × Addr)) (fp : List Addr), EG (X.blk s H scope (compEnvC scope cl C X.env) fp) tg t tp sl) (ht : ∀ (s : Shared) (H : Hp) (C : Addr) (cl : List (Str × Addr)) (fp : List Addr), ETs I (X.blk s H scope (compEnvC scope cl C X.env) fp) ifs gc)
    (he : ∀ (s : Shared) (H : Hp) (C : Addr) (cl : List (Str × Addr)) (fp : List Addr), EE I (X.blk s H scope (compEnvC scope cl C X.env) fp) elt ge) (sub : ∀ i ∈ sl, i ∈ own.map (·.2) := by decide) (hs : ∀ x, foldedSetIterable iter X.env x = pure x := by intro _; rfl) :
    ES I X (.Assign [.Name y py] (.ListComp elt [⟨tg, iter, ifs, 0⟩] scope pos) spos) (gAsg (gLc gi tp gc ge (own.map (·.2))) (nmP i)) := by
  obtain ⟨s0⟩ : Nonempty Shared := ⟨X.s_0⟩
  have g0 := hg s0 (fun _ => none) 0 [] []
  have c0 := (ht s0 (fun _ => none) 0 [] []).mono
  have e0 := (he s0 (fun _ => none) 0 [] []).mono
  have mn : Mono (gLc gi tp gc ge (own.map (·.2))) := fun env st Q Q' k q => hi.mono _ _ _ _ (fun _ _ _ z => ⟨z.1, gLcL_mono _ _ _ _ _ _ k z.2⟩) q
  refine ⟨asg_mono mn fun _ _ _ _ k q => k _ q, ps_imp (ps_setLc (te := lE I X.K ge) (tt := lT I X.K gc) hc hN hy hyl hsw hi.pi ok (fun s H C cl fp => (hg s H C cl fp).pg) (fun s H C cl fp => (ht s H C cl fp).pts) (fun s H C cl fp => (he s H C cl fp).pe) hs) fun D σ H q => ?_⟩
  obtain ⟨F, st, env, w, ev, q⟩ := q
  exact lc_ok (Q := fun x H1 => gName i x σ H1 D.nx) i0 hi.mono g0.tm g0.ok c0 e0 sub ⟨F, st, env, w, ev, mn _ _ _ _ (fun p s z v H' l w' r => z _ H' l w' ((ev.le l).set r)) q⟩
end
end Ev

namespace Own
open PySem PySem.Spec PyProof.Rows L2 HT
/-! t[::-1], t a tuple -/
section
variable {prog : Program} {w : World} {A : Around} {E : Value → Shared → Prop} {s : Shared}
theorem back_places (n : Nat) : Builtin.Slice.slicePlaces ((n : Int) - 1) (-1) (-1) = n := by
  unfold Builtin.Slice.slicePlaces
  rw [if_neg (by decide)]
  by_cases h : (n : Int) - 1 > -1
  · rw [if_pos h, show (- -1 : Int) = 1 by decide, Int.ediv_one]
    omega
  · rw [if_neg h]
    omega
theorem back_applied {sl : Addr} {k : Tok} {n : Nat} {Q : Int × Int × Nat → Shared → Prop} (sp : s.heap.IsSliceOf sl .none .none (.int (-1) k)) (q : Q ((n : Int) - 1, -1, n) s) : wpAny (model prog w) A (Builtin.Slice.sliceApplied (.ref sl) (pure (n : Int))) Q E s := by
  obtain ⟨o, ho, hc, hd⟩ := id sp
  unfold Builtin.Slice.sliceApplied Builtin.Slice.sliceFields
  refine wpAny_bind (wpAny_bind (wpAny_field ho hd (x := .none) rfl (wpAny_bind (wpAny_field ho hd (x := .none) rfl (wpAny_bind (wpAny_field ho hd (x := .int (-1) k) rfl (wpAny_pure ?_)))))))
  refine wpAny_bind (slicePart_ (.int (-1) k) ?_)
  show wpAny _ _ (if ((-1 : Int) == 0) = true then _ else _) _ _ s
  rw [if_neg (by decide)]
  refine wpAny_bind (slicePart_ .none (wpAny_bind (slicePart_ .none (wpAny_bind (wpAny_pure ?_)))))
  have e : Builtin.Slice.sliceAdjust none none (-1) (n : Int) = ((n : Int) - 1, -1) := rfl
  show wpAny _ _ (match Builtin.Slice.sliceAdjust none none (-1) (n : Int) with | (lo, hi) => pure (lo, (-1 : Int), Builtin.Slice.slicePlaces lo hi (-1))) _ _ s
  rw [e]
  show wpAny _ _ (pure ((n : Int) - 1, (-1 : Int), Builtin.Slice.slicePlaces ((n : Int) - 1) (-1) (-1))) _ _ s
  rw [back_places]
  exact wpAny_pure q
theorem fm_congr {α β : Type} {f g : α → Option β} : ∀ {l : List α}, (∀ m ∈ l, f m = g m) → l.filterMap f = l.filterMap g
  | [], _ => rfl
  | x :: r, h => by
    rw [List.filterMap_cons, List.filterMap_cons, h x (List.mem_cons_self ..), fm_congr fun m hm => h m (List.mem_cons_of_mem _ hm)]
theorem back_pick (xs : Array Value) : ((List.range xs.size).filterMap fun (m : Nat) => xs[(((xs.size : Int) - 1) + (m : Int) * -1).toNat]?).toArray = xs.toList.reverse.toArray := by
  have e : (List.range xs.size).filterMap (fun (m : Nat) => xs[(((xs.size : Int) - 1) + (m : Int) * -1).toNat]?) = ((List.range xs.size).map fun k => xs.size - 1 - k).filterMap (xs[·]?) := by
    rw [List.filterMap_map]
    refine fm_congr fun m hm => ?_
    have := List.mem_range.mp hm
    show xs[_]? = xs[xs.size - 1 - m]?
    congr 1
    omega
  rw [e, PySem.W.krv_range, List.filterMap_reverse, PySem.W.krv_all]
theorem back_tuple {t sl : Addr} {xs : Array Value} {k : Tok} {Q : Value → Shared → Prop} (tp : IsTup s.heap t xs) (sp : s.heap.IsSliceOf sl .none .none (.int (-1) k)) (zs : xs.size ≤ sizeLine)
    (q : Q (.ref s.heap.objs.size) { s with heap := s.heap.push { cls := .type "tuple", data := .seq xs.toList.reverse.toArray } }) : wpAny (model prog w) A (getItem (.ref t) (.ref sl)) Q E s := by
  obtain ⟨o, ho, hc, hd⟩ := id sp
  have sty : s.TypeIs (.ref sl) "slice" := ⟨o, ho, hc⟩
  have fits : sizeOk (.seq xs.toList.reverse.toArray) := by
    show xs.toList.reverse.toArray.size ≤ sizeLine
    rw [List.size_toArray, List.length_reverse, Array.length_toList]
    exact zs
  unfold getItem
  try with_reducible refine wpAny_holding ?_
  first | refine wpAny_bind (wpAny_pure ?_) | skip
  refine wpAny_bind (wpAny_sequenceKey tp.typeIs (by decide) (wpAny_bind (wpAny_callSpecial?_slot (name := Str.ofString "__getitem__") tp.typeIs PyProof.Rows.slot_tuple_getitem (wpAny_call_entry PyProof.Rows.slot_tuple_getitem tp.typeIs entry_tuple_getitem ?_ (args_tuple_getitem _ _)))))
  show wpAny _ _ (Builtin.Tuple.tupleItemsOf (.ref t) >>= _) _ _ s
  refine wpAny_bind (tupleItemsOf_ tp (wpAny_bind (wpAny_typeOf sty ?_)))
  rw [if_pos (by decide)]
  refine wpAny_bind (back_applied sp ?_)
  have no : ¬ ((((xs.size : Int) - 1) == 0 && (-1 : Int) == 1 && xs.size == xs.size) = true) := by
    intro z
    rw [Bool.and_eq_true, Bool.and_eq_true] at z
    have z1 : (-1 : Int) = 1 := eq_of_beq z.1.2
    exact absurd z1 (by decide)
  show wpAny _ _ (if (((xs.size : Int) - 1) == 0 && (-1 : Int) == 1 && xs.size == xs.size) = true then _ else _) _ _ s
  rw [if_neg no, back_pick]
  first
  | exact wpAny_bind (m := Builtin.Tuple.tupleExact _) (wpAny_newObj_type (wpAny_pure ⟨_, rfl, wpAny_pure q⟩) fits)
  | exact wpAny_bind (m := Builtin.Tuple.tupleExact _) (wpAny_newObj_type (wpAny_bind (wpAny_pure (wpAny_pure ⟨_, rfl, wpAny_pure q⟩))) fits)
  | exact wpAny_bind (wpAny_bind (m := Builtin.Tuple.tupleExact _) (wpAny_newObj_type (wpAny_pure (wpAny_pure ⟨_, rfl, wpAny_pure q⟩)) fits))
  | exact wpAny_bind (wpAny_bind (m := Builtin.Tuple.tupleExact _) (wpAny_newObj_type (wpAny_pure ⟨_, rfl, wpAny_pure q⟩) fits))
end
section
variable {X : Cx}
def tRevT (K : PySem.W.Frag) (te : TE) : TE := fun σ H Q => te σ H fun x H1 => ∃ a xs, x = .ref a ∧ SqT K H1 a xs ∧ ∀ p, H1 p = none → Q (.ref p) (upd H1 p (.tup xs.reverse))
theorem pe_revT {e : Expr} {te : TE} {k : Nat} {p1 p2 p3 pos : Pos} (he : PE X e te) : PE X (.Subscript e (.Slice none none (some (.UnaryOp .USub (.Constant (.int 1) k p1) p2)) p3) pos) (tRevT X.K te) := by
  refine ⟨fun pins s σ H Q I h => Subscript_ (thn (he.run pins s σ H _ I h) fun v s1 hv => ?_)⟩
  obtain ⟨x, H1, I1, r1, a, xs, rfl, hx, q⟩ := hv
  cases r1
  have step : PO X (some (.UnaryOp .USub (.Constant (.int 1) k p1) p2)) (tPart (tUn (rU fun i => .int (-i)) (tC (.int 1)))) := po_some (pe_un un_neg pe_int)
  refine wpAny_Slice (thn (po_none.run pins s1 σ H1 (fun o G => o = none ∧ G = H1) I1 ⟨rfl, rfl⟩) fun vl s2 h2 => ?_)
  obtain ⟨l, H2, I2, pl, rfl, rfl⟩ := h2
  refine thn (po_none.run pins s2 σ H2 (fun o G => o = none ∧ G = H2) I2 ⟨rfl, rfl⟩) fun vu s3 h3 => ?_
  obtain ⟨u, H3, I3, pu, rfl, rfl⟩ := h3
  refine thn (step.run pins s3 σ H3 (fun o G => o = some (-1) ∧ G = H3) I3 ⟨1, rfl, -1, rfl, rfl, rfl⟩) fun vs s4 h4 => ?_
  obtain ⟨o, H4, I4, ps, rfl, rfl⟩ := h4
  cases pl
  cases pu
  cases ps with
  | int _ tk =>
    have I5 := I4.kept (h' := s4.heap.push { cls := .type "slice", data := .fields #[.none, .none, .int (-1) tk] }) (t' := s4.toks) fun b ob z => Heap.get?_push_of_some _ z
    obtain ⟨its, r, tp, hz⟩ := I5.tuple hx
    have ln := r.length
    show wpAny (model X.prog X.w) X.A (subscriptTail e (.Slice none none (some (.UnaryOp .USub (.Constant (.int 1) k p1) p2)) p3) (.ref a) (.ref s4.heap.objs.size)) (EP X pins σ Q) X.xe _
    refine tail_any (ops := [.ref a, .ref s4.heap.objs.size]) tp.typeIs slot_tuple_getitem.lookup ?_ (by with_unfolding_all rfl)
    refine back_tuple tp (Heap.IsSliceOf.new _ .none .none (.int (-1) tk)) (by rw [List.size_toArray]; omega) ?_
    refine ⟨.ref _, _, I5.laid (t' := s4.toks) (o := .tup xs.reverse) (fun b ob z => Heap.get?_push_of_some _ z) (Nat.le_refl _) ?_, rfl, q _ (I5.hok.fresh (Nat.le_refl _))⟩
    refine ⟨by rw [List.length_reverse]; exact hz, its.reverse, r.reverse, _, Heap.get?_push_size _ rfl, rfl, 0, rfl⟩
end
end Own

namespace Own
open PySem PySem.Spec PyProof.Rows L2
/-! f(k = v, ..), no value by place -/
def tCallK (n : Nat) (sp : Sp) (gV : List V → List V) (E : XK) (tk : TA) : TE := fun σ H Q => tk σ H fun zs H2 => zs.length = n ∧ sp (gV zs) H2 Q E
section
variable {X : Cx} {k : Nat} {f : Addr} {fd : FuncData} {ps ks : List Str} {sp : Sp} {E : XK} {x : Str} {p pos : Pos} {kws : List Keyword} {tk : TA} {g : List Value → List Value → List Value} {gV : List V → List V → List V}
theorem pe_callK (F : FnOk X.prog X.w X.K X.mg X.base CX0 k f fd ps sp) (hr : Room k X.A) (hg : Gl X x) (hm : X.mg x = some (.ref f)) (hk : PySem.W.keepIn X.K (.ref f) = true) (hb : KBn X.K fd ps 0 ks g gV) (hkw : PK X kws tk)
    (hal : (backToKw pos (keywordEach kws X.env)).all (·.1.isSome) = true := by rfl) (hks : (backToKw pos (keywordEach kws X.env)).filterMap (·.1) = ks := by rfl) (hdb : (x == ("__debug__" : Str)) = false := by decide)
    (hno : ((backTo pos (starEach [] X.env)).any (·.1) || (backToKw pos (keywordEach kws X.env)).any (·.1.isNone)) = false := by rfl) : PE X (.Call (.Name x p) [] kws pos) (tCallK ks.length sp (gV []) E tk) := by
  refine ⟨fun pins s σ H Q I h => wpAny_Call_Name_kw (ld_glob I hg hm ?_ hdb)⟩
  refine PySem.W.callWith_KW0 (h₀ := X.base) (first := []) I.ok.mod.kin hk hal (thn (hkw.run pos pins s σ H _ I h) fun ws s2 hw => ?_) hno
  obtain ⟨zs, H2, I2, rz, l, q⟩ := hw
  refine ⟨I2.kIn, ?_⟩
  rw [hks]
  exact run_fnN (E := E) F hr hb pass0 I2 .nil rz rfl l q
end
end Own

namespace Own
open PySem PySem.Spec PyProof.Rows L2
/-! ### x in (..): data among data -/
section
variable {X : Cx}
def rInTD (K : PySem.W.Frag) : R2 := fun x y H Q => ∃ d ds, Dp K H x d ∧ Dp K H y (.tuple ds) ∧ d.canLay0 = true ∧ PyData.canLayAll0 ds = true ∧ min (PyData.depthAll ds) d.depth ≤ 60 ∧ Q (.bl (ds.any fun z => PyData.eqv z d)) H
def rNotInTD (K : PySem.W.Frag) : R2 := fun x y H Q => ∃ d ds, Dp K H x d ∧ Dp K H y (.tuple ds) ∧ d.canLay0 = true ∧ PyData.canLayAll0 ds = true ∧ min (PyData.depthAll ds) d.depth ≤ 60 ∧ Q (.bl (!ds.any fun z => PyData.eqv z d)) H
theorem op_inTD (hu : X.A.units + 64 < cLine) : OpR X (compareOp .In) (rInTD X.K) := by
  intro pins s σ H x y v u Q I rx ry h
  obtain ⟨d, ds, hd, he, sd, se, dep, q⟩ := h
  obtain ⟨as, r1⟩ := Dp.reads I d x v hd rx
  obtain ⟨bs, r2⟩ := Dp.reads I (.tuple ds) y u he ry
  exact SeqAt.in_tuple_reads r2 r1 se sd (by omega) ⟨.bl _, H, I, rfl, q⟩
theorem op_notInTD (hu : X.A.units + 64 < cLine) : OpR X (compareOp .NotIn) (rNotInTD X.K) := by
  intro pins s σ H x y v u Q I rx ry h
  obtain ⟨d, ds, hd, he, sd, se, dep, q⟩ := h
  obtain ⟨as, r1⟩ := Dp.reads I d x v hd rx
  obtain ⟨bs, r2⟩ := Dp.reads I (.tuple ds) y u he ry
  exact SeqAt.notIn_tuple_reads r2 r1 se sd (by omega) ⟨.bl _, H, I, rfl, q⟩
end
end Own

namespace Own
open PySem PySem.Spec PyProof.Rows L2
/-! xs.extend(ys), ys any list that can be read -/
theorem extend_lst (l : Addr) (its : Array Value) (n : Nat) (b : Addr) (ts : Array Value) (m : Nat) (sl : Array (Option Value)) (h0 : ¬(!its.isEmpty && Builtin.List.listTooLong (its.size + ts.size)) = true) (h1 : its.size ≤ sizeLine) (h2 : its.size + ts.size ≤ sizeLine + 1) :
    Meets (Builtin.«list.extend» ⟨[.ref l, .ref b], []⟩) (fun _ R s => s.heap.get? l = some { cls := .type "list", dict := none, data := .seq its n, slots := #[] } ∧ s.heap.get? b = some { cls := .type "list", dict := none, data := .seq ts m, slots := sl } ∧
      R (.ok (.ret Value.none)) { s with heap := s.heap.update l (Obj.mapSeq fun x => x ++ ts), toks := s.toks }) := by
  refine .of_wp fun prog w A R s h => ?_
  obtain ⟨hp, g, d, tk, os⟩ := s
  obtain ⟨hl, hb, h⟩ := h
  have s1 := AutoSeq1.idx_int
  have s2 := AutoSeq1.sub_tuple_tuple
  have s3 := AutoSeq1.sub_list_list
  have s4 := AutoSeq1.sub_tuple_list
  have s5 := AutoSeq1.sub_list_tuple
  have hz : (its ++ ts).size ≤ sizeLine + 1 := by
    rw [Array.size_append]
    exact h2
  wp_walk using (wpAny_updateSeq hl rfl (hz := h1) (_hz' := hz)), AutoSeq1.wpAny_loadPart' hl, AutoSeq1.wpAny_loadPart' hb
  exact ⟨_, rfl, h⟩
section
variable {X : Cx}
def rExtL (K : PySem.W.Frag) : V → List V → Hp → VK → Prop := fun x vs H Q => ∃ l b xs zs, x = .ref l ∧ vs = [.ref b] ∧ H l = some (.lst xs) ∧ SqL K H b zs ∧ xs.length + zs.length ≤ sizeLine ∧ Q .non (upd H l (.lst (xs ++ zs)))
theorem mt_extL : MtM X "list.extend" (rExtL X.K) := by
  intro pins s σ H x vs v us Q I rx rv h
  obtain ⟨l, b, xs, zs, rfl, rfl, hH, hB, hz, q⟩ := h
  cases rx
  obtain ⟨u, rfl, ru⟩ := rv.one
  cases ru
  obtain ⟨z, its, n, r, hl, e⟩ := I.lstM hH
  obtain ⟨ts, r2, ⟨⟨oc, od, dt, sl⟩, m, e2, c2, n2, d2⟩, z2⟩ := I.list hB
  have c2' : oc = Value.type "list" := c2
  have d2' : dt = Data.seq ts.toArray m := d2
  have n2' : od = none := n2
  subst c2' d2' n2'
  have l2 := r2.length
  have sz : its.toArray.size + ts.toArray.size ≤ sizeLine := by
    rw [List.size_toArray, List.size_toArray]
    omega
  have short : ¬(!its.toArray.isEmpty && Builtin.List.listTooLong (its.toArray.size + ts.toArray.size)) = true := by
    rw [notLongL sz, Bool.and_false]
    exact Bool.false_ne_true
  refine call_meets F.slot_list_extend ⟨_, e, rfl⟩ F.entry_list_extend (F.args_list_extend_2 _ _) (extend_lst l its.toArray n b ts.toArray m sl short (by rw [List.size_toArray]; omega) (by omega)) ⟨e, e2, ?_⟩
  exact ⟨.non, _, I.lset (its' := its ++ ts) hH e (by simp) (r.append r2) (by rw [List.length_append]; omega), rfl, q⟩
end
end Own

namespace K1
open PySem PySem.Spec PyProof.Rows L2
open Sem (wp)
/-! ### generators that sleep: a run that may not wake them leaves them as they are -/
def stopped : Resume → Sem PySem.Fin := fun _ => .unsupported ""
def bombG : GenState → GenState
  | .suspended _ l c p fs cl => .suspended stopped l c p fs cl
  | x => x
structure BR (G0 S B : Array GenState) : Prop where
  sz : B.size = S.size
  at_ : ∀ i : Nat, (∃ k l c p fs cl, G0[i]? = some (GenState.suspended k l c p fs cl) ∧ S[i]? = some (GenState.suspended k l c p fs cl) ∧ B[i]? = some (GenState.suspended stopped l c p fs cl)) ∨
    ((∀ k l c p fs cl, G0[i]? ≠ some (GenState.suspended k l c p fs cl)) ∧ B[i]? = S[i]? ∧ ∀ k l c p fs cl, S[i]? = some (GenState.suspended k l c p fs cl) → splitAtGen fs = none)
theorem bombG_bare (x : GenState) : (bombG x).bare = x.bare := by cases x <;> rfl
theorem BR.init (S : Array GenState) : BR S S (S.map bombG) := by
  refine ⟨Array.size_map .., fun i => ?_⟩
  rw [Array.getElem?_map]
  cases e : S[i]? with
  | none => exact .inr ⟨fun _ _ _ _ _ _ h => (nomatch h), rfl, fun _ _ _ _ _ _ h => (nomatch h)⟩
  | some x =>
    cases x with
    | suspended k l c p fs cl => exact .inl ⟨k, l, c, p, fs, cl, rfl, rfl, rfl⟩
    | fresh c => exact .inr ⟨fun _ _ _ _ _ _ h => (nomatch h), rfl, fun _ _ _ _ _ _ h => (nomatch h)⟩
    | running => exact .inr ⟨fun _ _ _ _ _ _ h => (nomatch h), rfl, fun _ _ _ _ _ _ h => (nomatch h)⟩
    | finished => exact .inr ⟨fun _ _ _ _ _ _ h => (nomatch h), rfl, fun _ _ _ _ _ _ h => (nomatch h)⟩
theorem BR.bare {G0 S B : Array GenState} (h : BR G0 S B) (hb : AllBare B) : AllBare S := fun y hy => by
  obtain ⟨i, hi, e⟩ := Array.mem_iff_getElem.mp hy
  have e1 : S[i]? = some y := by rw [Array.getElem?_eq_getElem hi, e]
  rcases h.at_ i with ⟨k, l, c, p, fs, cl, _, h2, h3⟩ | ⟨_, h2, _⟩
  · rw [e1] at h2
    cases h2
    exact (hb (GenState.suspended stopped l c p fs cl) (Array.mem_of_getElem? h3) : _)
  · rw [e1] at h2
    exact hb _ (Array.mem_of_getElem? h2)
theorem allBare_bomb {S : Array GenState} (h : AllBare S) : AllBare (S.map bombG) := fun y hy => by
  obtain ⟨x, hx, rfl⟩ := Array.mem_map.mp hy
  rw [bombG_bare]
  exact h x hx
/-- a state that is known to both: not one that sleeps from the start -/
theorem BR.new {G0 S B : Array GenState} {i : Nat} (h : BR G0 S B) (hn : ∀ l c p fs cl, B[i]? ≠ some (GenState.suspended stopped l c p fs cl)) : (∀ k l c p fs cl, G0[i]? ≠ some (GenState.suspended k l c p fs cl)) ∧ B[i]? = S[i]? ∧ ∀ k l c p fs cl, S[i]? = some (GenState.suspended k l c p fs cl) → splitAtGen fs = none := by
  rcases h.at_ i with ⟨k, l, c, p, fs, cl, _, _, h3⟩ | h2
  · exact absurd h3 (hn l c p fs cl)
  · exact h2
theorem BR.set {G0 S B : Array GenState} {i : Nat} {x : GenState} (h : BR G0 S B) (ho : ∀ k l c p fs cl, G0[i]? ≠ some (GenState.suspended k l c p fs cl)) (hx : ∀ k l c p fs cl, x = .suspended k l c p fs cl → splitAtGen fs = none) : BR G0 (S.setIfInBounds i x) (B.setIfInBounds i x) := by
  refine ⟨by rw [Array.size_setIfInBounds, Array.size_setIfInBounds]; exact h.sz, fun j => ?_⟩
  by_cases e : i = j
  · subst e
    refine .inr ⟨ho, ?_, fun k l c p fs cl q => ?_⟩
    · rw [Array.getElem?_setIfInBounds_self, Array.getElem?_setIfInBounds_self, h.sz]
    · rw [Array.getElem?_setIfInBounds_self] at q
      split at q
      · exact hx k l c p fs cl (Option.some.inj q)
      · cases q
  · rw [Array.getElem?_setIfInBounds_ne e, Array.getElem?_setIfInBounds_ne e]
    exact h.at_ j
theorem BR.push {G0 S B : Array GenState} {c0 : Code} (h : BR G0 S B) : BR G0 (S.push (.fresh c0)) (B.push (.fresh c0)) := by
  refine ⟨by rw [Array.size_push, Array.size_push, h.sz], fun j => ?_⟩
  rw [Array.getElem?_push, Array.getElem?_push, h.sz]
  by_cases e : j = S.size
  · rw [if_pos e, if_pos e]
    refine .inr ⟨?_, rfl, fun _ _ _ _ _ _ q => (nomatch q)⟩
    rcases h.at_ j with ⟨k, l, c, p, fs, cl, _, h2, _⟩ | h2
    · rw [e, Array.getElem?_eq_none (Nat.le_refl _)] at h2
      cases h2
    · exact h2.1
  · rw [if_neg e, if_neg e]
    exact h.at_ j
theorem BR.seen {G0 S B : Array GenState} {i : Nat} {st : GenState} (h : BR G0 S B) (e : B[i]? = some st) : ∃ st', S[i]? = some st' ∧ st'.seen = st.seen := by
  rcases h.at_ i with ⟨k, l, c, p, fs, cl, _, h2, h3⟩ | ⟨_, h2, _⟩
  · rw [e] at h3
    cases h3
    exact ⟨_, h2, rfl⟩
  · exact ⟨st, by rw [← h2]; exact e, rfl⟩
theorem runs_stopped {M : Model} {Γ : PySem.Ctx} {p : Pos} {fs : List Frame} {s s' : Shared} {e : End} {w : String} (h : Runs M Γ p (.unsupported w) fs s e s') : False := by
  generalize ht : (Sem.unsupported w : Sem PySem.Fin) = t at h
  induction h <;> first | (cases ht; done) | (rename_i ih; exact ih ht) | (rename_i ih _; exact ih ht)
def EOk : End → Prop
  | .ret _ => True
  | .susp _ _ _ _ _ _ fs => splitAtGen fs = none
theorem EOk.gen {e : End} (h : EOk e) : ∀ k l c p fs cl, e.genState = .suspended k l c p fs cl → splitAtGen fs = none := by
  cases e with
  | ret r => exact fun _ _ _ _ _ _ q => (nomatch q)
  | susp v g l k c p fs =>
    intro k' l' c' p' fs' cl' q
    cases q
    exact h
theorem split_app : ∀ {a b : List Frame}, splitAtGen a = none → splitAtGen b = none → splitAtGen (a ++ b) = none
  | [], _, _, h => h
  | .ret k h g l c p kp :: a, b, ha, hb => by
    show (splitAtGen (a ++ b)).map _ = none
    have ha : (splitAtGen a).map _ = none := ha
    rw [Option.map_eq_none_iff] at ha ⊢
    exact split_app ha hb
  | .gen .. :: a, b, ha, _ => by cases ha

theorem runs_unbomb {M : Model} {G0 : Array GenState} {Γ : PySem.Ctx} {p : Pos} {t : Sem PySem.Fin} {fs : List Frame} {sb sb' : Shared} {e : End} (h : Runs M Γ p t fs sb e sb') :
    ∀ s : Shared, sb = { s with gens := sb.gens } → BR G0 s.gens sb.gens → splitAtGen fs = none → ∃ s' : Shared, sb' = { s' with gens := sb'.gens } ∧ BR G0 s'.gens sb'.gens ∧ Runs M Γ p t fs s e s' ∧ EOk e := by
  induction h with
  | done => exact fun s hs br _ => ⟨s, hs, br, .done, trivial⟩
  | raise => exact fun s hs br _ => ⟨s, hs, br, .raise, trivial⟩
  | again q _ ih => exact fun s hs br hf => let ⟨s', h1, h2, h3, h4⟩ := ih s hs br rfl; ⟨s', h1, h2, .again q h3, h4⟩
  | rule _ ih => exact fun s hs br hf => let ⟨s', h1, h2, h3, h4⟩ := ih s hs br rfl; ⟨s', h1, h2, .rule h3, h4⟩
  | «at» _ ih => exact fun s hs br hf => let ⟨s', h1, h2, h3, h4⟩ := ih s hs br rfl; ⟨s', h1, h2, .at h3, h4⟩
  | load g _ ih => exact fun s hs br hf => let ⟨s', h1, h2, h3, h4⟩ := ih s hs br rfl; ⟨s', h1, h2, .load (by rw [hs] at g; exact g) h3, h4⟩
  | update g _ ih =>
    intro s hs br hf
    have hh := congrArg Shared.heap hs
    have hh : _ = s.heap := hh
    obtain ⟨s', h1, h2, h3, h4⟩ := ih { s with heap := s.heap.update _ _ } (by rw [hh]; rw [hs]) br rfl
    rw [hh] at g
    exact ⟨s', h1, h2, .update g h3, h4⟩
  | loadIfAlive _ ih =>
    intro s hs br hf
    have hh := congrArg Shared.heap hs
    have hh : _ = s.heap := hh
    obtain ⟨s', h1, h2, h3, h4⟩ := ih s hs br rfl
    rw [hh] at h3
    exact ⟨s', h1, h2, .loadIfAlive h3, h4⟩
  | point _ ih => exact fun s hs br hf => let ⟨s', h1, h2, h3, h4⟩ := ih s hs br rfl; ⟨s', h1, h2, .point h3, h4⟩
  | alloc _ ih =>
    intro s hs br hf
    have hh := congrArg Shared.heap hs
    have hh : _ = s.heap := hh
    obtain ⟨s', h1, h2, h3, h4⟩ := ih { s with heap := s.heap.push _ } (by rw [hh]; rw [hs]) br rfl
    rw [hh] at h3
    exact ⟨s', h1, h2, .alloc h3, h4⟩
  | fresh _ ih =>
    intro s hs br hf
    have hh := congrArg Shared.toks hs
    have hh : _ = s.toks := hh
    obtain ⟨s', h1, h2, h3, h4⟩ := ih { s with toks := s.toks + 1 } (by rw [hh]; rw [hs]) br rfl
    rw [hh] at h3
    exact ⟨s', h1, h2, .fresh h3, h4⟩
  | ask _ ih => exact fun s hs br hf => let ⟨s', h1, h2, h3, h4⟩ := ih s hs br rfl; ⟨s', h1, h2, .ask h3, h4⟩
  | choose n _ ih =>
    intro s hs br hf
    have hh := congrArg Shared.drawn hs
    have hh : _ = s.drawn := hh
    obtain ⟨s', h1, h2, h3, h4⟩ := ih { s with drawn := s.drawn.bump _ } (by rw [hh]; rw [hs]) br rfl
    rw [hh] at h3
    exact ⟨s', h1, h2, .choose n h3, h4⟩
  | os _ ih =>
    intro s hs br hf
    have hh := congrArg Shared.os hs
    have hh : _ = s.os := hh
    obtain ⟨s', h1, h2, h3, h4⟩ := ih { s with os := (Os.step s.os _).1 } (by rw [hh]; rw [hs]) br rfl
    rw [hh] at h3
    exact ⟨s', h1, h2, .os h3, h4⟩
  | handled _ ih => exact fun s hs br hf => let ⟨s', h1, h2, h3, h4⟩ := ih s hs br rfl; ⟨s', h1, h2, .handled h3, h4⟩
  | genState g _ ih =>
    intro s hs br hf
    obtain ⟨st', q1, q2⟩ := br.seen g
    obtain ⟨s', h1, h2, h3, h4⟩ := ih s hs br rfl
    exact ⟨s', h1, h2, .genState q1 (by rw [q2]; exact h3), h4⟩
  | stack _ ih => exact fun s hs br hf => let ⟨s', h1, h2, h3, h4⟩ := ih s hs br rfl; ⟨s', h1, h2, .stack h3, h4⟩
  | thread _ ih => exact fun s hs br hf => let ⟨s', h1, h2, h3, h4⟩ := ih s hs br rfl; ⟨s', h1, h2, .thread h3, h4⟩
  | newGen _ ih =>
    intro s hs br hf
    obtain ⟨s', h1, h2, h3, h4⟩ := ih { s with gens := s.gens.push (.fresh _) } (by rw [hs]) br.push rfl
    rw [br.sz] at h3
    exact ⟨s', h1, h2, .newGen h3, h4⟩
  | call _ _ ih1 ih2 =>
    intro s hs br hf
    obtain ⟨s1, h1, h2, h3, _⟩ := ih1 s hs br rfl
    obtain ⟨s', g1, g2, g3, g4⟩ := ih2 s1 h1 h2 rfl
    exact ⟨s', g1, g2, .call h3 g3, g4⟩
  | callSusp _ ih =>
    intro s hs br hf
    obtain ⟨s1, h1, h2, h3, h4⟩ := ih s hs br rfl
    exact ⟨s1, h1, h2, .callSusp h3, split_app h4 rfl⟩
  | yield => exact fun s hs br _ => ⟨s, hs, br, .yield, rfl⟩
  | resumeFresh g _ hq _ ih1 ih2 =>
    intro s hs br hf
    obtain ⟨o1, o2, _⟩ := br.new (i := _) (fun _ _ _ _ _ q => by rw [g] at q; cases q)
    obtain ⟨s1, h1, h2, h3, h4⟩ := ih1 (s.setGen _ .running) (by rw [hs]; rfl) (br.set o1 fun _ _ _ _ _ _ q => (nomatch q)) rfl
    obtain ⟨s', g1, g2, g3, g4⟩ := ih2 (s1.setGen _ _) (by rw [h1]; rfl) (h2.set o1 h4.gen) rfl
    exact ⟨s', g1, g2, .resumeFresh (by rw [← o2]; exact g) h3 hq g3, g4⟩
  | resumeSuspended g hr hq _ ih1 ih2 =>
    intro s hs br hf
    rcases br.at_ _ with ⟨k, l, c, p, fs, cl, _, _, q3⟩ | ⟨o1, o2, o3⟩
    · rw [g] at q3
      cases q3
      exact (runs_stopped hr).elim
    · have o4 := o3 _ _ _ _ _ _ (by rw [← o2]; exact g)
      obtain ⟨s1, h1, h2, h3, h4⟩ := ih1 (s.setGen _ .running) (by rw [hs]; rfl) (br.set o1 fun _ _ _ _ _ _ q => (nomatch q)) o4
      obtain ⟨s', g1, g2, g3, g4⟩ := ih2 (s1.setGen _ _) (by rw [h1]; rfl) (h2.set o1 h4.gen) rfl
      exact ⟨s', g1, g2, .resumeSuspended (by rw [← o2]; exact g) h3 hq g3, g4⟩
  | resumeJustStarted g hv _ ih =>
    intro s hs br hf
    obtain ⟨o1, o2, _⟩ := br.new (i := _) (fun _ _ _ _ _ q => by rw [g] at q; cases q)
    obtain ⟨s', h1, h2, h3, h4⟩ := ih s hs br rfl
    exact ⟨s', h1, h2, .resumeJustStarted (by rw [← o2]; exact g) hv h3, h4⟩
  | resumeThrowFresh g _ ih =>
    intro s hs br hf
    obtain ⟨o1, o2, _⟩ := br.new (i := _) (fun _ _ _ _ _ q => by rw [g] at q; cases q)
    obtain ⟨s', h1, h2, h3, h4⟩ := ih (s.setGen _ .finished) (by rw [hs]; rfl) (br.set o1 fun _ _ _ _ _ _ q => (nomatch q)) rfl
    exact ⟨s', h1, h2, .resumeThrowFresh (by rw [← o2]; exact g) h3, h4⟩
  | resumeRunning g _ ih =>
    intro s hs br hf
    obtain ⟨o1, o2, _⟩ := br.new (i := _) (fun _ _ _ _ _ q => by rw [g] at q; cases q)
    obtain ⟨s', h1, h2, h3, h4⟩ := ih s hs br rfl
    exact ⟨s', h1, h2, .resumeRunning (by rw [← o2]; exact g) h3, h4⟩
  | resumeFinished g _ ih =>
    intro s hs br hf
    obtain ⟨o1, o2, _⟩ := br.new (i := _) (fun _ _ _ _ _ q => by rw [g] at q; cases q)
    obtain ⟨s', h1, h2, h3, h4⟩ := ih s hs br rfl
    exact ⟨s', h1, h2, .resumeFinished (by rw [← o2]; exact g) h3, h4⟩
  | segRet _ _ ih1 ih2 =>
    intro s hs br hf
    obtain ⟨s1, h1, h2, h3, _⟩ := ih1 s hs br rfl
    obtain ⟨s', g1, g2, g3, g4⟩ := ih2 s1 h1 h2 (Option.map_eq_none_iff.mp hf)
    exact ⟨s', g1, g2, .segRet h3 g3, g4⟩
  | segGen => exact fun s hs br hf => (nomatch hf)
  | segSuspOut hn _ ih =>
    intro s hs br hf
    obtain ⟨s1, h1, h2, h3, h4⟩ := ih s hs br rfl
    exact ⟨s1, h1, h2, .segSuspOut hn h3, split_app h4 hf⟩
  | segSuspGen hn _ _ _ _ _ =>
    intro s hs br hf
    rw [hn] at hf
    cases hf
end K1

namespace K1
open PySem PySem.Spec PyProof.Rows L2
open Sem (wp)
abbrev regen (s : Shared) (G : Array GenState) : Shared := { s with gens := G }
theorem wp_unbomb {α : Type} {M : Model} {Γ : PySem.Ctx} {G0 : Array GenState} (t : Sem α) : ∀ (Q : α → Pos → Shared → Prop) (E : Value → Pos → Shared → Prop) (p : Pos) (s : Shared) (G : Array GenState), BR G0 s.gens G → wp M Γ t Q E p (regen s G) →
    wp M Γ t (fun a p' s' => ∃ G', BR G0 s'.gens G' ∧ Q a p' (regen s' G')) (fun e p' s' => ∃ G', BR G0 s'.gens G' ∧ E e p' (regen s' G')) p s := by
  induction t with
  | pure a => exact fun Q E p s G br h => ⟨G, br, h⟩
  | raise e => exact fun Q E p s G br h => ⟨G, br, h⟩
  | unsupported _ => exact fun Q E p s G br h => h
  | finish _ => exact fun Q E p s G br h => h
  | rule _ k ih => exact fun Q E p s G br h => ih () Q E p s G br h
  | «at» p' k ih => exact fun Q E p s G br h => ih () Q E p' s G br h
  | load a _ k ih => exact fun Q E p s G br h => let ⟨o, ho, h⟩ := h; ⟨o, ho, ih o Q E p s G br h⟩
  | update a _ f k ih => exact fun Q E p s G br h => ⟨h.1, ih () Q E p { s with heap := s.heap.update a f } G br h.2⟩
  | loadIfAlive a k ih => exact fun Q E p s G br h => ih _ Q E p s G br h
  | point _ k ih => exact fun Q E p s G br h => ih () Q E p s G br h
  | register _ _ => exact fun Q E p s G br h => h
  | alloc o k ih => exact fun Q E p s G br h => ih _ Q E p { s with heap := s.heap.push o } G br h
  | fresh k ih => exact fun Q E p s G br h => ih _ Q E p { s with toks := s.toks + 1 } G br h
  | ask k ih => exact fun Q E p s G br h => ih _ Q E p s G br h
  | choose src m k ih => exact fun Q E p s G br h => ⟨h.1, ih _ Q E p { s with drawn := s.drawn.bump src } G br h.2⟩
  | os q _ k ih => exact fun Q E p s G br h => ih _ Q E p { s with os := (Os.step s.os q).1 } G br h
  | call c hd _ _ k ih =>
    intro Q E p s G br h
    obtain ⟨r, s', hr, h⟩ := h
    obtain ⟨s1, h1, h2, h3, _⟩ := runs_unbomb hr s rfl br rfl
    have h : wp M Γ (k r) Q E p s' := h
    rw [h1] at h
    exact ⟨r, s1, h3, ih r Q E p s1 _ h2 h⟩
  | handled own k ih => exact fun Q E p s G br h => ih _ Q E p s G br h
  | genState g k ih =>
    intro Q E p s G br h
    obtain ⟨st, hs, h⟩ := h
    obtain ⟨st', q1, q2⟩ := br.seen hs
    exact ⟨st', q1, by rw [q2]; exact ih _ Q E p s G br h⟩
  | newGen c k ih =>
    intro Q E p s G br h
    have h : wp M Γ (k G.size) Q E p (regen { s with gens := s.gens.push (.fresh c) } (G.push (.fresh c))) := h
    rw [br.sz] at h
    exact ih _ Q E p { s with gens := s.gens.push (.fresh c) } _ br.push h
  | resume g r _ k ih =>
    intro Q E p s G br h
    obtain ⟨res, s', hw, h⟩ := h
    have hw : Wakes M Γ p g r (regen s G) res s' := hw
    have h : wp M Γ (k res) Q E p s' := h
    have main : ∃ s1, s' = regen s1 s'.gens ∧ BR G0 s1.gens s'.gens ∧ Wakes M Γ p g r s res s1 := by
      rcases br.at_ g with ⟨k0, l, c, p0, fs, cl, _, q2, q3⟩ | ⟨o1, o2, o3⟩
      · unfold Wakes at hw
        rw [show (regen s G).gens[g]? = _ from q3] at hw
        obtain ⟨_, _, hr, _⟩ := hw
        exact (runs_stopped hr).elim
      · have o2' : (regen s G).gens[g]? = s.gens[g]? := o2
        unfold Wakes at hw ⊢
        rw [o2'] at hw
        cases e : s.gens[g]? with
        | none => rw [e] at hw; exact hw.elim
        | some st =>
          rw [e] at hw
          cases st with
          | fresh c =>
            cases r with
            | send v =>
              cases v with
              | none =>
                obtain ⟨e1, s1, hr, hq, hres, hs'⟩ := hw
                obtain ⟨s2, h1, h2, h3, h4⟩ := runs_unbomb hr (s.setGen g .running) rfl (br.set o1 fun _ _ _ _ _ _ q => (nomatch q)) rfl
                refine ⟨s2.setGen g e1.genState, ?_, ?_, e1, s2, h3, hq, hres, rfl⟩
                · rw [hs', h1]; rfl
                · rw [hs']; exact h2.set o1 h4.gen
              | _ => exact ⟨s, by rw [hw.2], by rw [hw.2]; exact br, hw.1, rfl⟩
            | throw x => exact ⟨s.setGen g .finished, by rw [hw.2]; rfl, by rw [hw.2]; exact br.set o1 fun _ _ _ _ _ _ q => (nomatch q), hw.1, rfl⟩
          | suspended k0 l c p0 fs cl =>
            obtain ⟨e1, s1, hr, hq, hres, hs'⟩ := hw
            obtain ⟨s2, h1, h2, h3, h4⟩ := runs_unbomb hr (s.setGen g .running) rfl (br.set o1 fun _ _ _ _ _ _ q => (nomatch q)) (o3 _ _ _ _ _ _ e)
            refine ⟨s2.setGen g e1.genState, ?_, ?_, e1, s2, h3, hq, hres, rfl⟩
            · rw [hs', h1]; rfl
            · rw [hs']; exact h2.set o1 h4.gen
          | running => exact ⟨s, by rw [hw.2], by rw [hw.2]; exact br, hw.1, rfl⟩
          | finished => exact ⟨s, by rw [hw.2], by rw [hw.2]; exact br, hw.1, rfl⟩
    obtain ⟨s1, h1, h2, h3⟩ := main
    rw [h1] at h
    exact ⟨res, s1, h3, ih res Q E p s1 _ h2 h⟩
  | yield _ _ _ _ => exact fun Q E p s G br h => h
  | stack k ih => exact fun Q E p s G br h => ih _ Q E p s G br h
  | fork _ _ => exact fun Q E p s G br h => h
  | thread k ih => exact fun Q E p s G br h => ih _ Q E p s G br h
  | await _ _ _ _ _ => exact fun Q E p s G br h => h
/-- those that sleep now sleep later as they do now -/
def Sleep (S S' : Array GenState) : Prop := ∀ (g : Nat) k l c p fs cl, S[g]? = some (GenState.suspended k l c p fs cl) → S'[g]? = some (GenState.suspended k l c p fs cl)
theorem Sleep.refl (S : Array GenState) : Sleep S S := fun _ _ _ _ _ _ _ h => h
theorem Sleep.trans {S S1 S2 : Array GenState} (h : Sleep S S1) (h2 : Sleep S1 S2) : Sleep S S2 := fun g k l c p fs cl e => h2 g k l c p fs cl (h g k l c p fs cl e)
theorem BR.sleep {G0 S B : Array GenState} (h : BR G0 S B) : Sleep G0 S := fun g k l c p fs cl e => by
  rcases h.at_ g with ⟨k', l', c', p', fs', cl', h1, h2, _⟩ | ⟨h1, _⟩
  · rw [e] at h1
    cases h1
    exact h2
  · exact absurd e (h1 _ _ _ _ _ _)
/-- a run that goes with any generators that sleep leaves them asleep -/
theorem wpAny_sleep {α : Type} {M : Model} {A : Around} {t : Sem α} {Q : α → Shared → Prop} {E : Value → Shared → Prop} {s : Shared} (hb : AllBare s.gens) (h : ∀ G, AllBare G → wpAny M A t (fun a s' => AllBare s'.gens ∧ Q a s') (fun e s' => AllBare s'.gens ∧ E e s') (regen s G)) :
    wpAny M A t (fun a s' => Sleep s.gens s'.gens ∧ AllBare s'.gens ∧ ∃ G, AllBare G ∧ Q a (regen s' G)) (fun e s' => Sleep s.gens s'.gens ∧ AllBare s'.gens ∧ ∃ G, AllBare G ∧ E e (regen s' G)) s := fun Γ p hΓ => by
  have q := wp_unbomb (G0 := s.gens) t _ _ p s _ (BR.init s.gens) (h _ (allBare_bomb hb) Γ p hΓ)
  exact Sem.wp_mono M Γ t (fun a _ s' ⟨G', br, hb', hq⟩ => ⟨br.sleep, br.bare hb', G', hb', hq⟩) (fun e _ s' ⟨G', br, hb', hq⟩ => ⟨br.sleep, br.bare hb', G', hb', hq⟩) p s q
end K1

namespace K1
open PySem PySem.Spec PyProof.Rows L2
/-! ### the generator's own context, based anew at each wake -/
theorem Inv.regen {X : Cx} {pins : List (Addr × Obj)} {σ : L2.St} {H : Hp} {s : Shared} (I : Inv X pins σ H s) {G : Array GenState} (hg : AllBare G) : Inv X pins σ H (K1.regen s G) :=
  ⟨I.ok, I.os, hg, I.base, I.loc, I.cell, I.free, I.freeC, I.pin, I.hok, I.len⟩
theorem Inv.ungen {X : Cx} {pins : List (Addr × Obj)} {σ : L2.St} {H : Hp} {s : Shared} {G : Array GenState} (I : Inv X pins σ H (K1.regen s G)) (hg : AllBare s.gens) : Inv X pins σ H s :=
  ⟨I.ok, I.os, hg, I.base, I.loc, I.cell, I.free, I.freeC, I.pin, I.hok, I.len⟩
theorem SP_ungen {X : Cx} {pins : List (Addr × Obj)} {D : Ends} {f : Flow} {s : Shared} {G : Array GenState} (h : SP X pins D f (K1.regen s G)) (hg : AllBare s.gens) : SP X pins D f s := by
  cases f with
  | next => obtain ⟨σ, H, I, q⟩ := h; exact ⟨σ, H, Inv.ungen I hg, q⟩
  | brk => obtain ⟨σ, H, I, q⟩ := h; exact ⟨σ, H, Inv.ungen I hg, q⟩
  | cont => obtain ⟨σ, H, I, q⟩ := h; exact ⟨σ, H, Inv.ungen I hg, q⟩
  | ret u => obtain ⟨v, σ, H, I, r, q⟩ := h; exact ⟨v, σ, H, Inv.ungen I hg, r, q⟩
theorem SP_bare {X : Cx} {pins : List (Addr × Obj)} {D : Ends} {f : Flow} {s : Shared} (h : SP X pins D f s) : AllBare s.gens := by
  cases f with
  | next => obtain ⟨σ, H, I, q⟩ := h; exact I.bare
  | brk => obtain ⟨σ, H, I, q⟩ := h; exact I.bare
  | cont => obtain ⟨σ, H, I, q⟩ := h; exact I.bare
  | ret u => obtain ⟨v, σ, H, I, r, q⟩ := h; exact I.bare

/-- the objects below L -/
def truncS (L : Nat) (s : Shared) : Shared := { s with heap := { s.heap with objs := s.heap.objs.extract 0 L } }
theorem truncS_size {L : Nat} {s : Shared} (h : L ≤ s.heap.objs.size) : (truncS L s).heap.objs.size = L := by
  show (s.heap.objs.extract 0 L).size = L
  rw [Array.size_extract]
  omega
theorem truncS_get {L : Nat} {s : Shared} (h : L ≤ s.heap.objs.size) {b : Addr} (hb : b < L) : (truncS L s).heap.get? b = s.heap.get? b := by
  have e : (s.heap.objs.extract 0 L)[b]? = s.heap.objs[b]? := by
    rw [Array.getElem?_extract, Nat.min_eq_left h, if_pos (by omega), Nat.zero_add]
  show (match (s.heap.objs.extract 0 L)[b]? with
    | some ⟨_, _, .freed, _⟩ => none
    | o => o) = _
  rw [e]
  rfl
theorem of_truncS {L : Nat} {s : Shared} (h : L ≤ s.heap.objs.size) {b : Addr} {o : Obj} (e : (truncS L s).heap.get? b = some o) : b < L ∧ s.heap.get? b = some o := by
  have hb : b < L := by
    have q := Heap.lt_size e
    rw [truncS_size h] at q
    exact q
  exact ⟨hb, by rw [← truncS_get h hb]; exact e⟩
def cutH (L : Nat) (H : Hp) : Hp := fun b => if b < L then H b else match H b with
  | some (.tbl ps) => some (.tbl ps)
  | _ => none
theorem cutH_tbl {L : Nat} {H : Hp} {b : Addr} {ps : _} (e : H b = some (.tbl ps)) : cutH L H b = some (.tbl ps) := by
  unfold cutH
  rw [e]
  split <;> rfl
theorem of_cutH {L : Nat} {H : Hp} {b : Addr} {o : HO} (e : cutH L H b = some o) : H b = some o := by
  unfold cutH at e
  split at e
  · exact e
  · split at e
    · rename_i q
      rw [q]
      exact e
    · cases e
def hideL (H : Hp) (pr : List Addr) : Hp := fun b => if b ∈ pr then none else H b
def mergeL (H : Hp) (pr : List Addr) (Hc : Hp) : Hp := fun b => if b ∈ pr then H b else Hc b
theorem hideL_in {H : Hp} {pr : List Addr} {b : Addr} (h : b ∈ pr) : hideL H pr b = none := if_pos h
theorem hideL_out {H : Hp} {pr : List Addr} {b : Addr} (h : b ∉ pr) : hideL H pr b = H b := if_neg h
theorem mergeL_in {H Hc : Hp} {pr : List Addr} {b : Addr} (h : b ∈ pr) : mergeL H pr Hc b = H b := if_pos h
theorem mergeL_out {H Hc : Hp} {pr : List Addr} {b : Addr} (h : b ∉ pr) : mergeL H pr Hc b = Hc b := if_neg h
def isCellB (o : Obj) : Bool := match o.data with
  | .cell _ => true
  | _ => false
theorem notCell {o : Obj} (h : isCellB o = false) : ∀ v, o.data ≠ .cell v := fun v e => by
  unfold isCellB at h
  rw [e] at h
  cases h
theorem isCell_no {o : Obj} (h : ∀ v, o.data ≠ .cell v) : isCellB o = false := by
  unfold isCellB
  cases e : o.data with
  | cell v => exact absurd e (h v)
  | _ => rfl
/-- what lies above L, not tracked, no cell, not the generator's own -/
def pinsW (L : Nat) (ip : List Addr) (h : Heap) (H : Hp) : List (Addr × Obj) := (List.range h.objs.size).filterMap fun b =>
  if L < b ∧ (H b).isNone = true ∧ b ∉ ip then (match h.get? b with
    | some o => if isCellB o = true then none else some (b, o)
    | none => none) else none
theorem mem_pinsW {L : Nat} {ip : List Addr} {h : Heap} {H : Hp} {b : Addr} {o : Obj} (h1 : L < b) (h2 : H b = none) (h3 : b ∉ ip) (h4 : h.get? b = some o) (h5 : isCellB o = false) : (b, o) ∈ pinsW L ip h H :=
  List.mem_filterMap.mpr ⟨b, List.mem_range.mpr (Heap.lt_size h4), by
    rw [if_pos ⟨h1, by rw [h2]; rfl, h3⟩, h4]
    show (if isCellB o = true then none else some (b, o)) = _
    rw [h5, if_neg Bool.false_ne_true]⟩
theorem of_pinsW {L : Nat} {ip : List Addr} {h : Heap} {H : Hp} {p : Addr × Obj} (hp : p ∈ pinsW L ip h H) : L < p.1 ∧ H p.1 = none ∧ p.1 ∉ ip ∧ h.get? p.1 = some p.2 ∧ isCellB p.2 = false := by
  obtain ⟨b, _, e⟩ := List.mem_filterMap.mp hp
  split at e
  · rename_i hc
    obtain ⟨c1, c2, c3⟩ := hc
    cases q : h.get? b with
    | none => rw [q] at e; cases e
    | some o =>
      rw [q] at e
      cases z : isCellB o with
      | true =>
        have e : (if isCellB o = true then none else some (b, o)) = some p := e
        rw [if_pos z] at e
        cases e
      | false =>
        have e : (if isCellB o = true then none else some (b, o)) = some p := e
        rw [z, if_neg Bool.false_ne_true] at e
        cases e
        exact ⟨c1, Option.isNone_iff_eq_none.mp c2, c3, q, z⟩
  · cases e
/-- what may turn while the generator runs: its own, and cells above L -/
def chW (L : Nat) (PR : List Addr) (h : Heap) : List Addr := PR ++ (List.range h.objs.size).filter fun b => decide (L ≤ b) && (match h.get? b with
  | some o => isCellB o
  | none => false)
theorem mem_chW {L : Nat} {PR : List Addr} {h : Heap} {b : Addr} : b ∈ chW L PR h → b ∈ PR ∨ (L ≤ b ∧ ∃ o, h.get? b = some o ∧ isCellB o = true) := fun hb => by
  rcases List.mem_append.mp hb with z | z
  · exact .inl z
  · obtain ⟨_, q⟩ := List.mem_filter.mp z
    rw [Bool.and_eq_true] at q
    refine .inr ⟨of_decide_eq_true q.1, ?_⟩
    cases e : h.get? b with
    | none =>
      have q2 := q.2
      rw [e] at q2
      cases q2
    | some o =>
      have q2 := q.2
      rw [e] at q2
      exact ⟨o, rfl, q2⟩
theorem chW_in {L : Nat} {PR : List Addr} {h : Heap} {b : Addr} (hb : b ∈ PR) : b ∈ chW L PR h := List.mem_append_left _ hb
theorem chW_cell {L : Nat} {PR : List Addr} {h : Heap} {b : Addr} {o : Obj} (h1 : L ≤ b) (h2 : h.get? b = some o) (h3 : isCellB o = true) : b ∈ chW L PR h :=
  List.mem_append_right _ (List.mem_filter.mpr ⟨List.mem_range.mpr (Heap.lt_size h2), by
    rw [Bool.and_eq_true]
    refine ⟨decide_eq_true h1, ?_⟩
    rw [h2]
    exact h3⟩)
/-- all of it stands but tables of code, which may have grown -/
def SRel (H H' : Hp) : Prop := ∀ b o, H b = some o → (∀ ps, o ≠ .tbl ps) → H' b = some o
theorem SRel.refl (H : Hp) : SRel H H := fun _ _ h _ => h
/-- tuples stand, what is known stands -/
def Fast (o : HO) : Prop := (∃ xs, o = .tup xs) ∨ ∃ u x, o = .frz u x
def KT (H H' : Hp) : Prop := ∀ b o, Fast o → H b = some o → H' b = some o
theorem KT.refl (H : Hp) : KT H H := fun _ _ _ h => h
theorem KT.trans {H H1 H2 : Hp} (a : KT H H1) (b : KT H1 H2) : KT H H2 := fun c o f e => b c o f (a c o f e)
section
variable {P : Program} {w : World} {K : PySem.W.Frag} {mg : Str → Option Value} {base : Heap} {N : List Str} {qual : Str} {scope : Scope} {f : Addr} {cd : Value} {A : Around} {outer : List Env} {L : Nat}
/-- the context: its frame at L -/
def gX (P : Program) (w : World) (K : PySem.W.Frag) (mg : Str → Option Value) (base : Heap) (N : List Str) (qual : Str) (scope : Scope) (f : Addr) (cd : Value) (A : Around) (outer : List Env) (L : Nat) (s0 : Shared) (H0 : Hp) : Cx where
  prog := P
  w := w
  K := K
  mg := mg
  base := base
  A := A.deeper (envOfC qual scope L f cd)
  N := N
  s_0 := s0
  H_0 := H0
  env := envOfC qual scope L f cd
  outer := outer
  stack := envOfC qual scope L f cd :: outer
  ex := []
  fn := fun _ => true
  calm := true
  pn := []
  xe := fun _ _ => False
theorem objThere {P : Program} {w : World} {H : Hp} {h : Heap} {a : Addr} {o : HO} (x : ObjOk P w H h a o) : ∃ u, h.get? a = some u := by
  induction o with
  | lst xs => obtain ⟨_, _, _, _, e⟩ := x; exact ⟨_, e⟩
  | tup xs => obtain ⟨_, _, _, ob, e, _⟩ := x; exact ⟨_, e⟩
  | dK kvs => obtain ⟨_, _, _, _, o, _, _, e, _⟩ := x; exact ⟨_, e⟩
  | dT kvs => obtain ⟨_, _, _, _, o, _, _, e, _⟩ := x; exact ⟨_, e⟩
  | set S n => obtain ⟨o, _, _, _, e, _⟩ := x; exact ⟨_, e⟩
  | ins C dx fs => obtain ⟨_, _, _, e, _⟩ := x; exact ⟨_, e⟩
  | own y => exact x
  | xd fs => obtain ⟨_, ⟨_, _, _, e, _⟩, _⟩ := x; exact ⟨_, e⟩
  | rng lo hi => obtain ⟨_, _, _, e⟩ := x; exact ⟨_, e⟩
  | frz ob u ih => obtain ⟨e, _⟩ := x; exact ⟨_, e⟩
  | tbl ps => exact ⟨_, (show h.get? a = some _ from x)⟩
  | met f y => exact ⟨_, (show h.get? a = some _ from x)⟩
  | ext φ => obtain ⟨_, e, _⟩ := x; exact e
/-- what the generator needs at a wake (s: as it fell asleep, tracked: H; pr: its lists, ip: its iterators; s2, Hc: now) -/
structure Rested (P : Program) (w : World) (K : PySem.W.Frag) (mg : Str → Option Value) (base : Heap) (A : Around) (outer : List Env) (L : Nat) (PR : List Addr) (s s2 : Shared) (Hc : Hp) : Prop where
  env : Env0 P w K mg base A outer s2 Hc
  os : s2.os = s.os
  keep : ∀ b ∈ PR, ∀ o, s.heap.get? b = some o → s2.heap.get? b = some o
  hid : ∀ b ∈ PR, Hc b = none
theorem wake_inv (hnc : (envOfC qual scope L f cd).cells = []) (hfs : ∀ b ∈ frs outer, b < L) (hbz : base.objs.size ≤ L) (hd : A.handled = none) {s0 s s2 : Shared} {H0 H Hc : Hp} {pins : List (Addr × Obj)} {σ : L2.St} {pr ip PR : List Addr}
    (I : Inv (gX P w K mg base N qual scope f cd A outer L s0 H0) pins σ H s) (hl : ∀ b ∈ pr, ∃ xs, H b = some (.lst xs)) (hL : ∀ b ∈ pr, L < b) (hPR : ∀ b, b = L ∨ b ∈ pr → b ∈ PR)
    (R : Rested P w K mg base A outer L PR s s2 Hc) :
    Inv (gX P w K mg base N qual scope f cd A outer L (truncS L s2) (cutH L (mergeL H pr Hc))) (pinsW L ip s2.heap (mergeL H pr Hc)) σ (mergeL H pr Hc) s2 := by
  have env0 := R.env
  obtain ⟨m, hn, hlook⟩ := I.loc
  have hn : s.heap.Ns L m := hn
  have hn2 : s2.heap.Ns L m := by
    obtain ⟨o, es, ep, e, r⟩ := hn
    exact ⟨o, es, ep, R.keep L (hPR L (.inl rfl)) o e, r⟩
  have lt2 : L < s2.heap.objs.size := hn2.lt
  have le2 := Nat.le_of_lt lt2
  have hLpr : L ∉ pr := fun z => Nat.lt_irrefl _ (hL L z)
  have low : ∀ {b : Addr}, b < L → mergeL H pr Hc b = Hc b := fun {b} hb => mergeL_out fun z => Nat.lt_asymm hb (hL b z)
  have hLn : mergeL H pr Hc L = none := by
    rw [mergeL_out hLpr]
    exact R.hid L (hPR L (.inl rfl))
  have cells : ∀ x c, (envOfC qual scope L f cd).cells.lookup x = some c → False := fun x c e => by
    rw [hnc] at e
    cases e
  have funs : (truncS L s2).heap.FunFrames base outer := by
    have all : ∀ (l : List Env), (∀ b ∈ frs l, b < L) → s2.heap.FunFrames base l → (truncS L s2).heap.FunFrames base l := by
      intro l
      induction l with
      | nil => exact fun _ _ => trivial
      | cons env r ih =>
        intro hs hl
        obtain ⟨hk, ⟨a, o, hf, hn, ho, hdd⟩, hr⟩ := hl
        have ha : a < L := hs a (by unfold frs; rw [List.filterMap_cons, hf]; exact List.mem_cons_self)
        exact ⟨hk, ⟨a, o, hf, hn, by rw [truncS_get le2 ha]; exact ho, hdd⟩, ih (fun b hb => hs b (by unfold frs; rw [List.filterMap_cons, hf]; exact List.mem_cons_of_mem _ hb)) hr⟩
    exact all outer hfs env0.funs
  have hok : HOk P w (mergeL H pr Hc) s2.heap := fun b o e => by
    by_cases hb : b ∈ pr
    · obtain ⟨xs, hx⟩ := hl b hb
      rw [mergeL_in hb, hx] at e
      cases e
      obtain ⟨z, its, n, rv, eo⟩ := I.hok b _ hx
      exact ⟨z, its, n, rv, R.keep b (hPR b (.inr hb)) _ eo⟩
    · rw [mergeL_out hb] at e
      refine (env0.hok b o e).stay (fun _ _ _ z => z) (fun c q => ?_) fun c xs q => ?_
      · rw [mergeL_out fun z => ?_]
        · exact q
        · rw [R.hid c (hPR c (.inr z))] at q
          cases q
      · rw [mergeL_out fun z => ?_]
        · exact q
        · rw [R.hid c (hPR c (.inr z))] at q
          cases q
  refine ⟨⟨env0.mod, I.ok.kind, I.ok.glob, I.ok.blt, Nat.le_of_eq (truncS_size le2), fun x y c e _ => (cells x c e).elim, I.ok.has, fun x c _ e => (cells x c e).elim, fun _ => hd, Around.frames_deeper env0.frames, .inr ⟨rfl, rfl⟩, fun b z => (nomatch (show b ∈ ([] : List Addr) from z)), fun b o e => ?_, ?_, fun b o _ z => (nomatch (show b ∈ ([] : List Addr) from z)), fun b z => (nomatch (show b ∈ ([] : List Addr) from z)), funs, fun b hb => ?_⟩,
    rfl, env0.bare, ⟨fun b o e n _ _ => (of_truncS le2 e).2, fun b o e _ _ _ => ⟨o.slots, (of_truncS le2 e).2⟩, fun b o e n _ => ?_, fun b o e _ => ⟨o, (of_truncS le2 e).2⟩, fun b xs e => ?_, fun b o u e => ?_, fun b ps e => ?_⟩, ⟨m, hn2, fun i x v e1 e2 e3 => ?_⟩, fun x c e => (cells x c e).elim, hLn, fun x c e => (cells x c e).elim, fun p hp => ?_, hok, I.len⟩
  · obtain ⟨q1, q2⟩ := env0.bs b o e
    have hb : b < L := Nat.lt_of_lt_of_le (Heap.lt_size e) hbz
    refine ⟨by show (truncS L s2).heap.get? b = _; rw [truncS_get le2 hb]; exact q1, ?_⟩
    show cutH L _ b = none
    unfold cutH
    rw [if_pos hb, low hb]
    exact q2
  · show base.objs.size ≤ (truncS L s2).heap.objs.size
    rw [truncS_size le2]
    exact hbz
  · show cutH L _ b = none
    unfold cutH
    rw [if_pos (hfs b hb), low (hfs b hb)]
    exact env0.frf b hb
  · have n : cutH L (mergeL H pr Hc) b = none := n
    unfold cutH at n
    rw [if_pos (of_truncS le2 e).1] at n
    exact n
  · have e : cutH L (mergeL H pr Hc) b = some _ := e
    exact of_cutH e
  · have e : cutH L (mergeL H pr Hc) b = some _ := e
    exact of_cutH e
  · have e : cutH L (mergeL H pr Hc) b = some _ := e
    exact ⟨#[], by rw [of_cutH e]; simp⟩
  · obtain ⟨u, r, q⟩ := hlook i x v e1 e2 e3
    rcases q with q | ⟨_, c, e, _⟩
    · exact ⟨u, r, .inl q⟩
    · exact (cells x c e).elim
  · have hp : p ∈ pinsW L ip s2.heap (mergeL H pr Hc) := hp
    obtain ⟨p1, p2, p3, p4, p5⟩ := of_pinsW hp
    exact ⟨p4, p2, Nat.ne_of_gt p1, fun z => Nat.lt_asymm p1 (hfs p.1 z), notCell p5⟩
end
end K1

namespace K1
open PySem PySem.Spec PyProof.Rows L2
open Sem (wp)
/-! ### one run from a wake to the next sleep -/
abbrev EndP := End → Shared → Prop
def Run2 (M : Model) (A : Around) (Φ : EndP) (c : Code) (t : Sem PySem.Fin) (fs : List Frame) (s : Shared) : Prop :=
  ∀ (Γ : PySem.Ctx) (p : Pos), Γ.code = c → Γ.Woken A → ∃ e s', Runs M Γ p t fs s e s' ∧ Φ e s'
section
variable {M : Model} {A : Around} {Φ : EndP} {c : Code} {fs : List Frame} {s : Shared}
/-- a part that raises nothing, then the rest -/
theorem run2_wrap {α : Type} {m : Sem α} {K1 : α → Sem PySem.Fin} {J1 : Value → Sem PySem.Fin} {gd : Bool → Bool} {lv : List Value → List Value}
    (h : wpAny M (A.over c fs) m (fun a z => Run2 M A Φ c (K1 a) fs z) (fun _ _ => False) s) : Run2 M A Φ c (m.wrap K1 J1 gd lv) fs s := fun Γ p hc hw => by
  subst hc
  exact runs_wrap_of_wp K1 J1 gd lv m (h (Γ.over fs) p (hw.over fs)) (fun a p1 s1 h1 => h1 Γ p1 rfl hw) fun _ _ _ h1 => h1.elim
theorem run2_bind {α : Type} {m : Sem α} {K1 : α → Sem PySem.Fin} (h : wpAny M (A.over c fs) m (fun a z => Run2 M A Φ c (K1 a) fs z) (fun _ _ => False) s) : Run2 M A Φ c (m >>= K1) fs s := by
  rw [Sem.bind_eq_wrap']
  exact run2_wrap h
theorem run2_at {q : Pos} {k : Unit → Sem PySem.Fin} (h : Run2 M A Φ c (k ()) fs s) : Run2 M A Φ c (.at q k) fs s :=
  run2_wrap (J1 := .raise) (gd := id) (lv := id) (m := standAt q) (K1 := k) (wpAny_standAt h)
theorem run2_point {l : List Value} {k : Unit → Sem PySem.Fin} (h : Run2 M A Φ c (k ()) fs s) : Run2 M A Φ c (.point l k) fs s :=
  run2_wrap (J1 := .raise) (gd := id) (lv := fun _ => l) (m := point) (K1 := k) (wpAny_point h)
theorem run2_call {d : Code} {hh : Option Value} {g : Bool} {l : List Value} {k : Result → Sem PySem.Fin} (h : ∀ q, Run2 M A Φ d (M.den d) (.ret k hh g l c q [] :: fs) s) : Run2 M A Φ c (.call d hh g l k) fs s := fun Γ p hc hw => by
  subst hc
  obtain ⟨e, z, hr, he⟩ := h p (Γ.goto d) p rfl (hw.goto d)
  exact ⟨e, z, runs_call_seg hr, he⟩
theorem run2_leaf {k : Result → Sem PySem.Fin} {hh : Option Value} {g : Bool} {l kp : List Value} {d : Code} {q : Pos} (r : Result) (h : Run2 M A Φ d (k r) fs s) : Run2 M A Φ c (leafOf r) (.ret k hh g l d q kp :: fs) s := fun Γ p hc hw => by
  subst hc
  obtain ⟨e, z, hr, he⟩ := h (Γ.goto d) q rfl (hw.goto d)
  exact ⟨e, z, Runs.pop r hr, he⟩
theorem run2_again {d : Code} (hq : d.quiet = true) (h : Run2 M A Φ d (M.den d) fs s) : Run2 M A Φ c (.pure (.again d)) fs s := fun Γ p hc hw => by
  subst hc
  obtain ⟨e, z, hr, he⟩ := h (Γ.goto d) p rfl (hw.goto d)
  exact ⟨e, z, Runs.head (c₁ := d) (fun _ _ x => .again hq x) hr, he⟩
theorem run2_end (r : Result) (h : Φ (.ret r) s) : Run2 M A Φ c (leafOf r) [] s := fun Γ p hc hw => ⟨.ret r, s, Runs.leaf r, h⟩
theorem run2_yield {v : Value} {g : Bool} {l : List Value} {k : Resume → Sem PySem.Fin} (hf : splitAtGen fs = none) (h : ∀ q, Φ (.susp v g l k c q fs) s) : Run2 M A Φ c (.yield v g l k) fs s := fun Γ p hc hw => by
  subst hc
  exact ⟨_, s, Runs.yield' fs hf, h p⟩
end

/-! ### a generator's consumers -/
/-- what comes out: how many, the i-th from a heap, the end -/
structure GJ where
  n : Nat
  Y : Nat → Hp → V → Hp → Prop
  Z : Hp → Hp → Prop
structure GB where
  P : Program
  w : World
  K : PySem.W.Frag
  mg : Str → Option Value
  base : Heap
  N : List Str
  qual : Str
  scope : Scope
  f : Addr
  cd : Value
  A : Around
  outer : List Env
  L : Nat
  a : Addr
  go : Obj
abbrev GB.X (B : GB) (s0 : Shared) (H0 : Hp) : Cx := gX B.P B.w B.K B.mg B.base B.N B.qual B.scope B.f B.cd B.A B.outer B.L s0 H0
abbrev GB.env (B : GB) : Env := envOfC B.qual B.scope B.L B.f B.cd
abbrev GB.M (B : GB) : Model := model B.P B.w
structure GB.Ok (B : GB) : Prop where
  nc : B.env.cells = []
  fs : ∀ b ∈ frs B.outer, b < B.L
  bz : B.base.objs.size ≤ B.L
  hd : B.A.handled = none
  la : B.L < B.a
  nc2 : isCellB B.go = false
/-- at a wake: the state, the consumer's heap, the generator's, its lists, its iterators -/
structure Wk where
  s : Shared
  Hc : Hp
  Hg : Hp
  pr : List Addr
  ip : List Addr
abbrev GB.XW (B : GB) (W : Wk) : Cx := B.X (truncS B.L W.s) (cutH B.L W.Hg)
abbrev GB.pW (B : GB) (W : Wk) : List (Addr × Obj) := pinsW B.L W.ip W.s.heap W.Hg
/-- what may turn while it runs -/
def chC (L : Nat) (pl : List Addr) (h : Heap) (H : Hp) : List Addr := (List.range h.objs.size).filter fun b => decide (L ≤ b) && (H b).isNone && decide (b ∉ pl)
theorem mem_chC {L : Nat} {pl : List Addr} {h : Heap} {H : Hp} {b : Addr} : b ∈ chC L pl h H ↔ b < h.objs.size ∧ L ≤ b ∧ H b = none ∧ b ∉ pl := by
  unfold chC
  rw [List.mem_filter, List.mem_range, Bool.and_eq_true, Bool.and_eq_true, decide_eq_true_eq, decide_eq_true_eq, Option.isNone_iff_eq_none, and_assoc]
structure WkOk (B : GB) (pl : List Addr) (W : Wk) : Prop where
  lt : B.L < W.s.heap.objs.size
  hm : ∀ b, b ∉ W.pr → W.Hg b = W.Hc b
  hid : ∀ b, b ∈ W.pr ∨ b ∈ W.ip → W.Hc b = none ∧ B.L < b
  plk : ∀ b ∈ pl, B.L < b ∧ W.Hc b = none ∧ (∃ o, W.s.heap.get? b = some o ∧ isCellB o = false) ∧ b ∉ W.pr ∧ b ∉ W.ip
  gen : W.s.heap.get? B.a = some B.go ∧ W.Hc B.a = none ∧ B.a ∉ W.pr ∧ B.a ∉ W.ip ∧ B.a ∉ pl
/-- what the consumer learns -/
structure Facts (B : GB) (pl : List Addr) (W : Wk) (HcY : Hp) (s : Shared) : Prop where
  os : s.os = W.s.os
  bare : AllBare s.gens
  un : Un (frs B.outer) (chC B.L pl W.s.heap W.Hc) W.Hc HcY W.s.heap s.heap
  hok : HOk B.P B.w HcY s.heap
/-- what the consumer promises for the next wake -/
structure Rest (B : GB) (pl : List Addr) (HcY : Hp) (s s2 : Shared) (Hc2 : Hp) : Prop where
  env : Env0 B.P B.w B.K B.mg B.base B.A B.outer s2 Hc2
  os : s2.os = s.os
  keep : ∀ b o, B.L ≤ b → b ∉ pl → HcY b = none → s.heap.get? b = some o → isCellB o = false → s2.heap.get? b = some o ∧ Hc2 b = none
  plk : ∀ b ∈ pl, Hc2 b = none ∧ ∃ o, s2.heap.get? b = some o ∧ isCellB o = false
def Phi (B : GB) (J : GJ) (pl : List Addr) : Nat → Wk → EndP
  | 0, W, .ret r, s => (r = .ok (.ret .none) ∨ r = .ok .next) ∧ ∃ HcE, Facts B pl W HcE s ∧ J.Z W.Hc HcE
  | 0, _, .susp .., _ => False
  | _ + 1, _, .ret _, _ => False
  | m + 1, W, .susp v g l k c p fs, s => (End.susp v g l k c p fs).quiet = true ∧ ∃ x HcY, RelV x v ∧ Facts B pl W HcY s ∧ (s.heap.get? B.a = some B.go ∧ HcY B.a = none) ∧ J.Y (J.n - (m + 1)) W.Hc x HcY ∧
      ∀ s2 Hc2, Rest B pl HcY s s2 Hc2 → KT HcY Hc2 → ∃ W' : Wk, W'.s = s2 ∧ W'.Hc = Hc2 ∧ Run2 B.M B.A (Phi B J pl m W') c (k (.send .none)) fs s2
/-- inside: the invariant, its own iterators as they stand -/
def GI (B : GB) (W : Wk) (ip : List (Addr × Obj)) (σ : L2.St) (H : Hp) (s : Shared) : Prop :=
  Inv (B.XW W) (B.pW W) σ H s ∧ ∀ p ∈ ip, s.heap.get? p.1 = some p.2 ∧ H p.1 = none ∧ B.L < p.1 ∧ isCellB p.2 = false ∧ ∀ q ∈ B.pW W, q.1 ≠ p.1
/-- a list of its own -/
theorem own_new {B : GB} {pl : List Addr} {W : Wk} (wo : WkOk B pl W) {σ : L2.St} {H : Hp} {s : Shared} (I : Inv (B.XW W) (B.pW W) σ H s) {b : Addr} (hl : ∃ xs, H b = some (.lst xs)) (hn : ∀ o, W.Hc b = some o → ∃ ps, o = .tbl ps) : W.Hc b = none := by
  cases e : W.Hc b with
  | none => rfl
  | some o =>
    obtain ⟨ps, rfl⟩ := hn o e
    obtain ⟨xs, hl⟩ := hl
    obtain ⟨more, z⟩ := I.base.tbls b ps (cutH_tbl (by
      rw [wo.hm b fun z => by
        rw [(wo.hid b (.inl z)).1] at e
        cases e]
      exact e))
    rw [hl] at z
    cases z
/-- at a sleep or at the end -/
theorem gen_here {B : GB} (ok : B.Ok) {pl : List Addr} {W : Wk} (wo : WkOk B pl W) {σ : L2.St} {H : Hp} {s : Shared} (I : Inv (B.XW W) (B.pW W) σ H s) : s.heap.get? B.a = some B.go ∧ H B.a = none ∧ (B.a, B.go) ∈ B.pW W := by
  obtain ⟨g1, g2, g3, g4, g5⟩ := wo.gen
  have mem := mem_pinsW (ip := W.ip) (H := W.Hg) ok.la (by rw [wo.hm _ g3]; exact g2) g4 g1 ok.nc2
  have q := I.pin (B.a, B.go) (List.mem_append_right _ mem)
  exact ⟨q.1, q.2.1, mem⟩
theorem slept {B : GB} (ok : B.Ok) {pl : List Addr} {W : Wk} (wo : WkOk B pl W) {σ : L2.St} {H : Hp} {s : Shared} (I : Inv (B.XW W) (B.pW W) σ H s) {pr : List Addr} (hl : ∀ b ∈ pr, ∃ xs, H b = some (.lst xs)) (hc : ∀ b ∈ pr, W.Hc b = none) (sr : SRel W.Hc H) :
    Facts B pl W (hideL H pr) s := by
  have le := Nat.le_of_lt wo.lt
  have lowpr : ∀ {b : Addr}, b < B.L → b ∉ W.pr := fun {b} hb z => Nat.lt_asymm hb (wo.hid b (.inl z)).2
  have low0 : ∀ {b : Addr}, b < B.L → W.Hc b = none → cutH B.L W.Hg b = none := fun {b} hb n => by
    unfold cutH
    rw [if_pos hb, wo.hm b (lowpr hb)]
    exact n
  have low : ∀ {b : Addr} {o : Obj}, b < B.L → W.s.heap.get? b = some o → (truncS B.L W.s).heap.get? b = some o := fun {b o} hb e => by
    rw [truncS_get le hb]
    exact e
  have noex : ∀ b : Addr, b ∉ (B.XW W).ex := fun b z => (nomatch (show b ∈ ([] : List Addr) from z))
  have up : ∀ {b : Addr} {o : Obj}, B.L ≤ b → b ∉ chC B.L pl W.s.heap W.Hc → W.s.heap.get? b = some o → W.Hc b = none → s.heap.get? b = some o ∧ H b = none := fun {b o} hb hx e n => by
    have hp : b ∈ pl := by
      by_cases z : b ∈ pl
      · exact z
      · exact absurd (mem_chC.mpr ⟨Heap.lt_size e, hb, n, z⟩) hx
    obtain ⟨p1, p2, ⟨o', p3, p4⟩, p5, p6⟩ := wo.plk b hp
    rw [e] at p3
    cases p3
    have q := I.pin (b, o) (List.mem_append_right _ (mem_pinsW p1 (by rw [wo.hm b p5]; exact n) p6 e p4))
    exact ⟨q.1, q.2.1⟩
  have hide : ∀ {b : Addr}, H b = none → hideL H pr b = none := fun {b} n => by
    unfold hideL
    split
    · rfl
    · exact n
  have srh : ∀ {b : Addr} {o : HO}, W.Hc b = some o → hideL H pr b = H b := fun {b o} e => hideL_out fun z => by
    rw [hc b z] at e
    cases e
  have tb : ∀ {b : Addr} {ps : _}, W.Hc b = some (.tbl ps) → ∃ more, H b = some (.tbl (ps ++ more)) := fun {b ps} e => I.base.tbls b ps (cutH_tbl (by
    rw [wo.hm b fun z => by
      rw [(wo.hid b (.inl z)).1] at e
      cases e]
    exact e))
  have all : ∀ {b : Addr} {u : HO}, W.Hc b = some u → ∃ u', H b = some u' := fun {b u} e => by
    by_cases t : ∃ ps, u = .tbl ps
    · obtain ⟨ps, rfl⟩ := t
      obtain ⟨more, z⟩ := tb e
      exact ⟨_, z⟩
    · exact ⟨u, sr b u e fun ps z => t ⟨ps, z⟩⟩
  refine ⟨I.os, I.bare, ⟨fun b o e n hf hx => ?_, fun b o e n hf hx => ?_, fun b o e n hx => ?_, fun b o e hx => ?_, fun b xs e => ?_, fun b o u e => ?_, fun b ps e => ?_⟩, fun b o e => ?_⟩
  · by_cases hb : b < B.L
    · exact I.base.keep b o (low hb e) (low0 hb n) hf (noex b)
    · exact (up (Nat.le_of_not_lt hb) hx e n).1
  · have hb := ok.fs b hf
    exact I.base.slot b o (low hb e) (low0 hb n) hf (noex b)
  · by_cases hb : b < B.L
    · exact hide (I.base.free b o (low hb e) (low0 hb n) (noex b))
    · exact hide (up (Nat.le_of_not_lt hb) hx e n).2
  · by_cases hb : b < B.L
    · exact I.base.there b o (low hb e) (noex b)
    · cases q : W.Hc b with
      | none => exact ⟨o, (up (Nat.le_of_not_lt hb) hx e q).1⟩
      | some u =>
        obtain ⟨u', z⟩ := all q
        exact objThere (I.hok b _ z)
  · rw [srh e]
    exact sr b _ e fun _ z => nomatch z
  · rw [srh e]
    exact sr b _ e fun _ z => nomatch z
  · rw [srh e]
    exact tb e
  · have hb : b ∉ pr := fun z => by
      rw [hideL_in z] at e
      cases e
    rw [hideL_out hb] at e
    refine (I.hok b o e).stay (fun _ _ _ z => z) (fun d q => ?_) fun d xs q => ?_
    · rw [hideL_out fun z => ?_]
      · exact q
      · obtain ⟨xs, z⟩ := hl d z
        rw [q] at z
        cases z
    · rw [hideL_out fun z => ?_]
      · exact q
      · obtain ⟨xs, z⟩ := hl d z
        rw [q] at z
        cases z
/-- at the next wake -/
theorem woken {B : GB} (ok : B.Ok) {pl : List Addr} {W : Wk} (wo : WkOk B pl W) {σ : L2.St} {H Hc2 : Hp} {s s2 : Shared} {ip : List (Addr × Obj)} (I : GI B W ip σ H s) {pr : List Addr} (hl : ∀ b ∈ pr, ∃ xs, H b = some (.lst xs)) (hL : ∀ b ∈ pr, B.L < b)
    (R : Rest B pl (hideL H pr) s s2 Hc2) : WkOk B pl ⟨s2, Hc2, mergeL H pr Hc2, pr, ip.map (·.1)⟩ ∧ GI B ⟨s2, Hc2, mergeL H pr Hc2, pr, ip.map (·.1)⟩ ip σ (mergeL H pr Hc2) s2 ∧ ∀ b ∈ pr, Hc2 b = none := by
  obtain ⟨I, hip⟩ := I
  obtain ⟨m, hn, _⟩ := id I.loc
  obtain ⟨oL, esL, epL, eL, dL, _⟩ := id hn
  have eL : s.heap.get? B.L = some oL := eL
  have cL : isCellB oL = false := isCell_no fun v z => by rw [dL] at z; cases z
  have hipA : ∀ b ∈ ip.map (·.1), ∃ o, (b, o) ∈ ip := fun b hb => by
    obtain ⟨p, hp, rfl⟩ := List.mem_map.mp hb
    exact ⟨p.2, hp⟩
  have pin : ∀ {b : Addr}, b ∈ pl → H b = none ∧ B.L < b ∧ b ∉ pr ∧ b ∉ ip.map (·.1) := fun {b} hb => by
    obtain ⟨p1, p2, ⟨o', p3, p4⟩, p5, p6⟩ := wo.plk b hb
    have mem := mem_pinsW (ip := W.ip) (H := W.Hg) p1 (by rw [wo.hm b p5]; exact p2) p6 p3 p4
    have q := I.pin (b, o') (List.mem_append_right _ mem)
    refine ⟨q.2.1, p1, fun z => ?_, fun z => ?_⟩
    · obtain ⟨xs, z⟩ := hl b z
      rw [show H b = none from q.2.1] at z
      cases z
    · obtain ⟨o, z⟩ := hipA b z
      exact (hip _ z).2.2.2.2 (b, o') mem rfl
  have hideN : ∀ {b : Addr}, H b = none → hideL H pr b = none := fun {b} n => by
    unfold hideL
    split
    · rfl
    · exact n
  have obj : ∀ {b : Addr}, b = B.L ∨ b ∈ pr ∨ b ∈ ip.map (·.1) → B.L ≤ b ∧ b ∉ pl ∧ hideL H pr b = none ∧ ∃ o, s.heap.get? b = some o ∧ isCellB o = false := fun {b} hb => by
    rcases hb with rfl | hb | hb
    · exact ⟨Nat.le_refl _, fun z => Nat.lt_irrefl _ (pin z).2.1, hideN I.free, oL, eL, cL⟩
    · refine ⟨Nat.le_of_lt (hL b hb), fun z => (pin z).2.2.1 hb, hideL_in hb, ?_⟩
      obtain ⟨xs, e⟩ := hl b hb
      obtain ⟨_, its, n, _, eo⟩ := I.hok b _ e
      exact ⟨_, eo, rfl⟩
    · obtain ⟨o, hm⟩ := hipA b hb
      obtain ⟨h0, h1, h2, h4, _⟩ := hip _ hm
      exact ⟨Nat.le_of_lt h2, fun z => (pin z).2.2.2 hb, hideN h1, o, h0, h4⟩
  have kept : ∀ {b : Addr}, b = B.L ∨ b ∈ pr ∨ b ∈ ip.map (·.1) → Hc2 b = none ∧ ∀ o, s.heap.get? b = some o → s2.heap.get? b = some o := fun {b} hb => by
    obtain ⟨h1, h2, h3, o, h4, h5⟩ := obj hb
    obtain ⟨r1, r2⟩ := R.keep b o h1 h2 h3 h4 h5
    exact ⟨r2, fun o' e => by rw [h4] at e; cases e; exact r1⟩
  have I2 := wake_inv (ip := ip.map (·.1)) (PR := B.L :: (pr ++ ip.map (·.1))) ok.nc ok.fs ok.bz ok.hd I hl hL (fun b hb => by
    rcases hb with hb | hb
    · rw [hb]; exact List.mem_cons_self ..
    · exact List.mem_cons_of_mem _ (List.mem_append_left _ hb)) (Hc := Hc2) (s2 := s2) ⟨R.env, R.os, fun b hb o e => by
    rcases List.mem_cons.mp hb with z | z
    · exact (kept (.inl z)).2 o e
    · exact (kept (.inr (List.mem_append.mp z))).2 o e, fun b hb => by
    rcases List.mem_cons.mp hb with z | z
    · exact (kept (.inl z)).1
    · exact (kept (.inr (List.mem_append.mp z))).1⟩
  have ga : s2.heap.get? B.a = some B.go ∧ Hc2 B.a = none ∧ B.a ∉ pr ∧ B.a ∉ ip.map (·.1) ∧ B.a ∉ pl := by
    obtain ⟨g1, g2, g3⟩ := gen_here ok wo I
    have np : B.a ∉ pr := fun z => by
      obtain ⟨xs, z⟩ := hl _ z
      rw [g2] at z
      cases z
    obtain ⟨r1, r2⟩ := R.keep B.a B.go (Nat.le_of_lt ok.la) wo.gen.2.2.2.2 (by rw [hideL_out np]; exact g2) g1 ok.nc2
    refine ⟨r1, r2, np, fun z => ?_, wo.gen.2.2.2.2⟩
    obtain ⟨o, z⟩ := hipA _ z
    exact (hip _ z).2.2.2.2 _ g3 rfl
  refine ⟨⟨?_, fun b hb => mergeL_out hb, fun b hb => ?_, fun b hb => ?_, ga⟩, ⟨I2, fun p hp => ?_⟩, fun b hb => (kept (.inr (.inl hb))).1⟩
  · exact Heap.lt_size ((kept (.inl rfl)).2 oL eL)
  · rcases hb with hb | hb
    · exact ⟨(kept (.inr (.inl hb))).1, hL b hb⟩
    · obtain ⟨o, hm⟩ := hipA b hb
      exact ⟨(kept (.inr (.inr hb))).1, (hip _ hm).2.2.1⟩
  · obtain ⟨h1, h2⟩ := R.plk b hb
    obtain ⟨_, h3, h4, h5⟩ := pin hb
    exact ⟨h3, h1, h2, h4, h5⟩
  · have hm : p.1 ∈ ip.map (·.1) := List.mem_map.mpr ⟨p, hp, rfl⟩
    obtain ⟨h0, h1, h2, h4, h5⟩ := hip p hp
    obtain ⟨k1, k2⟩ := kept (.inr (.inr hm))
    refine ⟨k2 _ h0, ?_, h2, h4, fun q hq z => ?_⟩
    · by_cases hb' : p.1 ∈ pr
      · rw [mergeL_in hb']
        exact h1
      · rw [mergeL_out hb']
        exact k1
    · exact (of_pinsW hq).2.2.1 (by rw [z]; exact hm)
end K1

namespace K1
open PySem PySem.Spec PyProof.Rows L2
open Sem (wp)
/-! ### a generator's statements -/
/-- what is wanted behind a statement: by the number of what is out, the consumer's heap at the last wake -/
structure GE where
  nx : Nat → Hp → L2.St → Hp → Prop
  rt : Nat → Hp → V → Hp → Prop
  bk : Nat → Hp → L2.St → Hp → Prop := fun _ _ _ _ => False
  ct : Nat → Hp → L2.St → Hp → Prop := fun _ _ _ _ => False
abbrev TG2 := GE → Nat → Hp → L2.St → Hp → Prop
def GE.at (D : GE) (i : Nat) (Hc : Hp) : Ends := { nx := D.nx i Hc, rt := D.rt i Hc, bk := D.bk i Hc, ct := D.ct i Hc }
def GSP2 (B : GB) (W : Wk) (ip : List (Addr × Obj)) (D : GE) (i : Nat) (f : Flow) (s : Shared) : Prop :=
  match f with
  | .next => ∃ σ H, GI B W ip σ H s ∧ D.nx i W.Hc σ H
  | .brk => ∃ σ H, GI B W ip σ H s ∧ D.bk i W.Hc σ H
  | .cont => ∃ σ H, GI B W ip σ H s ∧ D.ct i W.Hc σ H
  | .ret u => ∃ v σ H, GI B W ip σ H s ∧ RelV v u ∧ D.rt i W.Hc v H
/-- where its code stands -/
structure GC2 (B : GB) (c : Code) (fs : List Frame) (gd : Bool → Bool) : Prop where
  over : B.A.over c fs = B.A.deeper B.env
  split : splitAtGen fs = none
  guard : fs.any Frame.guarded = false
  gd : gd false = false
def GK2 (B : GB) (J : GJ) (pl : List Addr) (ip : List (Addr × Obj)) (c : Code) (fs : List Frame) (K1 : Flow → Sem PySem.Fin) (D : GE) : Prop :=
  ∀ (m i : Nat) (W : Wk) (s : Shared) (f : Flow), m + i = J.n → WkOk B pl W → GSP2 B W ip D i f s → Run2 B.M B.A (Phi B J pl m W) c (K1 f) fs s
structure G2 (B : GB) (J : GJ) (pl : List Addr) (st : Stmt) (t : TG2) : Prop where
  run : ∀ (ip : List (Addr × Obj)) (c : Code) (fs : List Frame) (K1 : Flow → Sem PySem.Fin) (J1 : Value → Sem PySem.Fin) (gd : Bool → Bool) (lv : List Value → List Value) (m i : Nat) (W : Wk) (s : Shared) (σ : L2.St) (H : Hp) (D : GE),
    GC2 B c fs gd → m + i = J.n → WkOk B pl W → GK2 B J pl ip c fs K1 D → GI B W ip σ H s → t D i W.Hc σ H →
    Run2 B.M B.A (Phi B J pl m W) c ((exec st B.env).wrap K1 J1 gd lv) fs s
structure G2s (B : GB) (J : GJ) (pl : List Addr) (st : List Stmt) (t : TG2) : Prop where
  run : ∀ (ip : List (Addr × Obj)) (c : Code) (fs : List Frame) (K1 : Flow → Sem PySem.Fin) (J1 : Value → Sem PySem.Fin) (gd : Bool → Bool) (lv : List Value → List Value) (m i : Nat) (W : Wk) (s : Shared) (σ : L2.St) (H : Hp) (D : GE),
    GC2 B c fs gd → m + i = J.n → WkOk B pl W → GK2 B J pl ip c fs K1 D → GI B W ip σ H s → t D i W.Hc σ H →
    Run2 B.M B.A (Phi B J pl m W) c ((execs st B.env).wrap K1 J1 gd lv) fs s
section
variable {B : GB} {J : GJ} {pl : List Addr} {st : Stmt} {rest : List Stmt}
/-- the iterators' records, pinned -/
theorem GI.pinned {W : Wk} {ip : List (Addr × Obj)} {σ : L2.St} {H : Hp} {s : Shared} (ok : B.Ok) (g : GI B W ip σ H s) : Inv (B.XW W) (B.pW W ++ ip) σ H s := by
  obtain ⟨I, h⟩ := g
  refine I.pins_of fun p hp => ?_
  rcases List.mem_append.mp hp with z | z
  · exact I.pin p (List.mem_append_right _ z)
  · obtain ⟨h0, h1, h2, h4, _⟩ := h p z
    exact ⟨h0, h1, Nat.ne_of_gt h2, fun z => Nat.lt_asymm h2 (ok.fs p.1 z), notCell h4⟩
theorem GI.unpin {W : Wk} {ip : List (Addr × Obj)} {σ σ' : L2.St} {H H' : Hp} {s s' : Shared} (g : GI B W ip σ H s) (I : Inv (B.XW W) (B.pW W ++ ip) σ' H' s') : GI B W ip σ' H' s' := by
  refine ⟨I.unpinned, fun p hp => ?_⟩
  obtain ⟨h0, h1, h2, h4, h5⟩ := g.2 p hp
  have q := I.pin p (List.mem_append_right _ (List.mem_append_right _ hp))
  exact ⟨q.1, q.2.1, h2, h4, h5⟩
theorem gsp_of {W : Wk} {ip : List (Addr × Obj)} {σ : L2.St} {H : Hp} {s s' : Shared} {D : GE} {i : Nat} {f : Flow} (g : GI B W ip σ H s) (h : SP (B.XW W) (B.pW W ++ ip) (D.at i W.Hc) f s') : GSP2 B W ip D i f s' := by
  cases f with
  | next => obtain ⟨σ1, H1, I, q⟩ := h; exact ⟨σ1, H1, g.unpin I, q⟩
  | brk => obtain ⟨σ1, H1, I, q⟩ := h; exact ⟨σ1, H1, g.unpin I, q⟩
  | cont => obtain ⟨σ1, H1, I, q⟩ := h; exact ⟨σ1, H1, g.unpin I, q⟩
  | ret u => obtain ⟨v, σ1, H1, I, r, q⟩ := h; exact ⟨v, σ1, H1, g.unpin I, r, q⟩
def tPl (t : TS) : TG2 := fun D i Hc σ H => t (D.at i Hc) σ H
theorem g2_ps (ok : B.Ok) {t : TS} (h : ∀ s0 H0, PS (B.X s0 H0) st t) : G2 B J pl st (tPl t) := by
  refine ⟨fun ip c fs K1 J1 gd lv m i W s σ H D g hm wo k gi ht => ?_⟩
  refine run2_wrap ?_
  rw [g.over]
  exact wpAny_mono ((h _ _).run _ s σ H (D.at i W.Hc) (gi.pinned ok) ht) (fun f s' hs => k m i W s' f hm wo (gsp_of gi hs)) fun x s' hx => hx
theorem g2s_pss (ok : B.Ok) {t : TS} (h : ∀ s0 H0, PSs (B.X s0 H0) rest t) : G2s B J pl rest (tPl t) := by
  refine ⟨fun ip c fs K1 J1 gd lv m i W s σ H D g hm wo k gi ht => ?_⟩
  refine run2_wrap ?_
  rw [g.over]
  exact wpAny_mono ((h _ _).run _ s σ H (D.at i W.Hc) (gi.pinned ok) ht) (fun f s' hs => k m i W s' f hm wo (gsp_of gi hs)) fun x s' hx => hx
def tN2 : TG2 := fun D i Hc σ H => D.nx i Hc σ H
theorem g2s_nil : G2s B J pl [] tN2 := by
  refine ⟨fun ip c fs K1 J1 gd lv m i W s σ H D g hm wo k gi ht => ?_⟩
  exact k m i W s .next hm wo ⟨σ, H, gi, ht⟩
def tThen2 (t u : TG2) : TG2 := fun D i Hc σ H => t { D with nx := fun i' Hc' σ' H' => u D i' Hc' σ' H' } i Hc σ H
theorem g2s_cons {t u : TG2} (a : G2 B J pl st t) (b : G2s B J pl rest u) : G2s B J pl (st :: rest) (tThen2 t u) := by
  refine ⟨fun ip c fs K1 J1 gd lv m i W s σ H D g hm wo k gi ht => ?_⟩
  rw [execs_cons_wrap]
  refine a.run ip c fs _ J1 gd lv m i W s σ H { D with nx := fun i' Hc' σ' H' => u D i' Hc' σ' H' } g hm wo (fun m' i' W' s' f hm' wo' hs => ?_) gi ht
  cases f with
  | next =>
    obtain ⟨σ', H', gi', q⟩ := hs
    exact b.run ip c fs K1 J1 gd lv m' i' W' s' σ' H' D g hm' wo' k gi' q
  | brk => exact k m' i' W' s' .brk hm' wo' hs
  | cont => exact k m' i' W' s' .cont hm' wo' hs
  | ret u => exact k m' i' W' s' (.ret u) hm' wo' hs
theorem g2s_one {t : TG2} (a : G2 B J pl st t) : G2s B J pl [st] (tThen2 t tN2) := g2s_cons a g2s_nil
/-! ### if -/
def tIf2 (tc : TT) (ta tb : TG2) : TG2 := fun D i Hc σ H => tc σ H fun b H1 => if b = true then ta D i Hc σ H1 else tb D i Hc σ H1
theorem g2_if (ok : B.Ok) {test : Expr} {a b : List Stmt} {pos : Pos} {tc : TT} {ta tb : TG2} (hc : ∀ s0 H0, PT (B.X s0 H0) test tc) (ha : G2s B J pl a ta) (hb : G2s B J pl b tb) : G2 B J pl (.If test a b pos) (tIf2 tc ta tb) := by
  refine ⟨fun ip c fs K1 J1 gd lv m i W s σ H D g hm wo k gi ht => ?_⟩
  show Run2 _ _ _ c (.at pos fun _ => (isTrue test B.env (eval test B.env) >>= fun d => if d then execs a B.env else execs b B.env).wrap K1 J1 gd lv) fs s
  refine run2_at ?_
  rw [Sem.bind_eq_wrap', Sem.wrap_wrap]
  refine run2_wrap ?_
  rw [g.over]
  refine wpAny_mono ((hc _ _).run _ s σ H _ (gi.pinned ok) ht) (fun d s' hd => ?_) fun x s' hx => hx
  obtain ⟨H2, I2, q2⟩ := hd
  have gi2 := gi.unpin I2
  cases d with
  | true => exact ha.run ip c fs K1 J1 gd lv m i W s' σ H2 D g hm wo k gi2 (by rw [if_pos rfl] at q2; exact q2)
  | false => exact hb.run ip c fs K1 J1 gd lv m i W s' σ H2 D g hm wo k gi2 (by rw [if_neg Bool.false_ne_true] at q2; exact q2)
/-! ### while -/
def tWhile2 (tc : TT) (tb : TG2) : TG2 := fun D i Hc σ H => ∃ Wv : Nat → Nat → Hp → L2.St → Hp → Prop, (∃ r, Wv r i Hc σ H) ∧ ∀ r i Hc σ H, Wv r i Hc σ H →
  tc σ H fun b H1 => if b = true then ∃ Nx : Nat → Hp → L2.St → Hp → Prop, (∀ i' Hc' σ' H', Nx i' Hc' σ' H' → ∃ r', r' < r ∧ Wv r' i' Hc' σ' H') ∧ tb { D with nx := Nx, ct := Nx, bk := D.nx } i Hc σ H1 else D.nx i Hc σ H1
theorem gc2_loop {c d : Code} {fs : List Frame} {gd : Bool → Bool} {k : Result → Sem PySem.Fin} {l kp : List Value} {p : Pos} (g : GC2 B c fs gd) (hw : d.weight = 0) (hu : d.cUnits = 0) : GC2 B d (.ret k none (gd false) l c p kp :: fs) id where
  over := (GenW.over_loop hw hu).trans g.over
  split := by
    show Option.map _ (splitAtGen fs) = none
    rw [g.split]
    rfl
  guard := by
    show (gd false || fs.any Frame.guarded) = false
    rw [g.guard, g.gd]
    rfl
  gd := rfl
theorem run2_whileLoop {P : Program} {w : World} {A : Around} {Φ : EndP} {test : Expr} {body : List Stmt} {env : Env} {fs : List Frame} {s : Shared}
    (h : wpAny (model P w) (A.over (.whileLoop test body [] env) fs) (isTrue test env (eval test env)) (fun b z => if b = true then
      ∀ J1 : Value → Sem PySem.Fin, Run2 (model P w) A Φ (.whileLoop test body [] env) ((execs body env).wrap (fun f => match f with
        | .next | .cont => .pure (.again (.whileLoop test body [] env))
        | .brk => leafOf (.ok .next)
        | .ret v => leafOf (.ok (.ret v))) J1 id id) fs z
      else Run2 (model P w) A Φ (.whileLoop test body [] env) (leafOf (.ok .next)) fs z) (fun _ _ => False) s) :
    Run2 (model P w) A Φ (.whileLoop test body [] env) ((model P w).den (.whileLoop test body [] env)) fs s := by
  show Run2 _ A Φ _ (Sem.onRaise (whileTurn test body [] env) fun x => do noteFrame x env; theTreesLotGoes x) fs s
  rw [Sem.onRaise_eq_wrap]
  show Run2 _ A Φ _ (Sem.wrap _ _ _ _ (isTrue test env (eval test env) >>= fun b => _)) fs s
  rw [Sem.bind_eq_wrap', Sem.wrap_wrap]
  refine run2_wrap (wpAny_mono h (fun b z hb => ?_) fun _ _ x => x)
  cases b with
  | true =>
    rw [if_pos rfl] at hb
    show Run2 _ A Φ _ (Sem.wrap _ _ _ _ (if true = true then _ else _)) fs z
    rw [if_pos rfl, Sem.bind_eq_wrap', Sem.wrap_wrap]
    refine Eq.mpr (congrArg (fun t => Run2 (model P w) A Φ (.whileLoop test body [] env) t fs z) (Sem.wrap_congr (execs body env) id id (fun f => ?_) (fun x => rfl))) (hb fun x => (do noteFrame x env; theTreesLotGoes x : Sem Unit).bind fun _ => .raise x)
    cases f <;> rfl
  | false =>
    rw [if_neg Bool.false_ne_true] at hb
    exact hb
theorem g2_while (ok : B.Ok) {test : Expr} {body : List Stmt} {pos : Pos} {tc : TT} {tb : TG2} (hc : ∀ s0 H0, PT (B.X s0 H0) test tc) (hb : G2s B J pl body tb) : G2 B J pl (.While test body [] pos) (tWhile2 tc tb) := by
  refine ⟨fun ip c fs K1 J1 gd lv m i W s σ H D g hm wo k gi ht => ?_⟩
  obtain ⟨Wv, ⟨r0, w0⟩, turn⟩ := ht
  refine run2_at (run2_call fun p => ?_)
  generalize hkk : (fun r : Result => ((match r with | .ok f => (.pure f : Sem Flow) | .error e => .raise e).onRaise fun (x : Value) => (do
        if (← field x 1) == Value.none then unsupported "frame.own-activation:exception-without-traceback"
        setFlight x B.env.frame : Sem Unit)).wrap K1 J1 gd lv) = kk
  have okk : ∀ f, kk (.ok f) = K1 f := fun f => by rw [← hkk]; rfl
  have gl := gc2_loop (k := kk) (d := .whileLoop test body [] B.env) (l := lv []) (kp := []) (p := p) g rfl rfl
  have loop : ∀ (r m i : Nat) (W : Wk) (s : Shared) (σ : L2.St) (H : Hp), m + i = J.n → WkOk B pl W → Wv r i W.Hc σ H → GI B W ip σ H s →
      Run2 B.M B.A (Phi B J pl m W) (.whileLoop test body [] B.env) (B.M.den (.whileLoop test body [] B.env)) (.ret kk none (gd false) (lv []) c p [] :: fs) s := by
    intro r
    induction r using Nat.strongRecOn with
    | ind r ih =>
      intro m i W s σ H hm wo w gi
      refine run2_whileLoop ?_
      rw [gl.over]
      refine wpAny_mono ((hc _ _).run _ s σ H _ (gi.pinned ok) (turn r i W.Hc σ H w)) (fun b s' hb' => ?_) fun x s' hx => hx
      obtain ⟨H2, I2, q2⟩ := hb'
      have gi2 := gi.unpin I2
      cases b with
      | true =>
        obtain ⟨Nx, hN, q2⟩ := q2
        rw [if_pos rfl]
        intro J2
        refine hb.run ip _ _ _ J2 id id m i W s' σ H2 { D with nx := Nx, ct := Nx, bk := D.nx } gl hm wo (fun m' i' W' s3 f hm' wo' hs => ?_) gi2 q2
        cases f with
        | next =>
          obtain ⟨σ3, H3, gi3, n3⟩ := hs
          obtain ⟨r', hr, w3⟩ := hN i' W'.Hc σ3 H3 n3
          exact run2_again rfl (ih r' hr m' i' W' s3 σ3 H3 hm' wo' w3 gi3)
        | cont =>
          obtain ⟨σ3, H3, gi3, n3⟩ := hs
          obtain ⟨r', hr, w3⟩ := hN i' W'.Hc σ3 H3 n3
          exact run2_again rfl (ih r' hr m' i' W' s3 σ3 H3 hm' wo' w3 gi3)
        | brk =>
          refine run2_leaf (.ok .next) ?_
          rw [okk]
          exact k m' i' W' s3 .next hm' wo' hs
        | ret v =>
          refine run2_leaf (.ok (.ret v)) ?_
          rw [okk]
          exact k m' i' W' s3 (.ret v) hm' wo' hs
      | false =>
        rw [if_neg Bool.false_ne_true]
        refine run2_leaf (.ok .next) ?_
        rw [okk]
        exact k m i W s' .next hm wo ⟨σ, H2, gi2, q2⟩
  exact loop r0 m i W s σ H hm wo w0 gi
/-! ### yield -/
def tYield2 (J : GJ) (L : Nat) (te : TE) : TG2 := fun D i Hc σ H => te σ H fun x H1 => i < J.n ∧ SRel Hc H1 ∧ ∃ pr : List Addr, (∀ b ∈ pr, (∃ xs, H1 b = some (.lst xs)) ∧ (∀ o, Hc b = some o → ∃ ps, o = .tbl ps) ∧ L < b) ∧ J.Y i Hc x (hideL H1 pr) ∧
  ∀ Hc2, KT (hideL H1 pr) Hc2 → (∀ b ∈ pr, Hc2 b = none) → D.nx (i + 1) Hc2 σ (mergeL H1 pr Hc2)
theorem g2_yield (ok : B.Ok) {e : Expr} {yp pos : Pos} {te : TE}
    (he : ∀ s0 H0, PE (B.X s0 H0) e te) (hco : B.env.scope.isCoroutine = false) (hi : interactive B.env = false) : G2 B J pl (.Expr (.Yield (some e) yp) pos) (tYield2 J B.L te) := by
  refine ⟨fun ip c fs K1 J1 gd lv m i W s σ H D g hm wo k gi ht => ?_⟩
  rw [exec_Expr B.env _ pos hi rfl]
  show Run2 _ _ _ c (.at pos fun _ => ((eval e B.env >>= fun v => (standAt yp >>= fun _ => yieldOut B.env v)) >>= fun x => dropValue (.Yield (some e) yp) pos x).wrap K1 J1 gd lv) fs s
  have hy : ∀ v, yieldOut B.env v = yieldValue v := fun v => by simp only [yieldOut, hco, Bool.false_eq_true, if_false]
  simp only [hy]
  refine run2_at ?_
  rw [Sem.bind_eq_wrap', Sem.wrap_wrap, Sem.bind_eq_wrap', Sem.wrap_wrap]
  refine run2_wrap ?_
  rw [g.over]
  refine wpAny_mono ((he _ _).run _ s σ H _ (gi.pinned ok) ht) (fun v s' hv => ?_) fun x s' hx => hx
  obtain ⟨x, H1, I1, rv, hin, sr, pr, hpr, hY, hnx⟩ := hv
  have gi1 := gi.unpin I1
  refine run2_at (run2_yield g.split fun q => ?_)
  obtain ⟨m, rfl⟩ : ∃ m', m = m' + 1 := ⟨m - 1, by omega⟩
  have hi' : J.n - (m + 1) = i := by omega
  refine ⟨by simp [End.quiet, g.gd, g.guard], x, hideL H1 pr, rv, slept ok wo gi1.1 (fun b hb => (hpr b hb).1) (fun b hb => own_new wo gi1.1 (hpr b hb).1 (hpr b hb).2.1) sr, ⟨(gen_here ok wo gi1.1).1, ?_⟩, by rw [hi']; exact hY, fun s2 Hc2 R kt => ?_⟩
  · unfold hideL
    split
    · rfl
    · exact (gen_here ok wo gi1.1).2.1
  obtain ⟨wo2, gi2, hz⟩ := woken ok wo gi1 (fun b hb => (hpr b hb).1) (fun b hb => (hpr b hb).2.2) R
  refine ⟨⟨s2, Hc2, mergeL H1 pr Hc2, pr, ip.map (·.1)⟩, rfl, rfl, ?_⟩
  exact k m (i + 1) ⟨s2, Hc2, mergeL H1 pr Hc2, pr, ip.map (·.1)⟩ s2 .next (by omega) wo2 ⟨σ, mergeL H1 pr Hc2, gi2, hnx Hc2 kt hz⟩
end
end K1

namespace K1
open PySem PySem.Spec PyProof.Rows L2
open Sem (wp)
/-! ### waking -/
/-- the run that a wake begins -/
def GoesOn (M : Model) (A : Around) (Φ : EndP) (gs : GenState) (s : Shared) : Prop := match gs with
  | .fresh c => Run2 M A Φ c (M.den c) [] s
  | .suspended k _ c _ fs _ => Run2 M A Φ c (k (.send .none)) fs s
  | _ => False
theorem wpAny_resume2 {α : Type} {M : Model} {A : Around} {Φ : EndP} {E : Value → Shared → Prop} {s : Shared} {g : Nat} {gs : GenState} {l : List Value} {k : GenResult → Sem α} {Q : α → Shared → Prop} (hg : s.gens[g]? = some gs)
    (hgo : GoesOn M A Φ gs (s.setGen g .running)) (hq : ∀ e z, Φ e z → e.quiet = true) (hk : ∀ e z, Φ e z → wpAny M A (k e.result) Q E (z.setGen g e.genState)) : wpAny M A (.resume g (.send .none) l k) Q E s := fun Γ p hΓ => by
  rw [Sem.wp_resume]
  cases gs with
  | fresh c =>
    obtain ⟨e, z, hr, he⟩ := hgo (Γ.wake c p) p rfl (hΓ.wake c p)
    refine ⟨e.result, z.setGen g e.genState, ?_, hk e z he Γ p hΓ⟩
    unfold Wakes
    rw [hg]
    exact ⟨e, z, hr, hq e z he, rfl, rfl⟩
  | suspended k0 l0 c p0 fs cl =>
    obtain ⟨e, z, hr, he⟩ := hgo (Γ.wake c p) p0 rfl (hΓ.wake c p)
    refine ⟨e.result, z.setGen g e.genState, ?_, hk e z he Γ p hΓ⟩
    unfold Wakes
    rw [hg]
    exact ⟨e, z, hr, hq e z he, rfl, rfl⟩
  | running => exact hgo.elim
  | finished => exact hgo.elim
theorem next2 {P : Program} {w : World} {A : Around} {E : Value → Shared → Prop} {s : Shared} {a : Addr} {g : Nat} {gs : GenState} {Φ : EndP} {Q : Option Value → Shared → Prop} (hh : A.handled = none) (hl : s.heap.NoLimit) (hroom : A.depth < recursionLimit) (hg : s.heap.IsGen a g) (hgs : s.gens[g]? = some gs)
    (hgo : GoesOn (model P w) A.in1 Φ gs (s.setGen g .running))
    (hY : ∀ v g0 l k c p fs z, Φ (.susp v g0 l k c p fs) z → (End.susp v g0 l k c p fs).quiet = true ∧ Q (some v) (z.setGen g (End.susp v g0 l k c p fs).genState))
    (hR : ∀ r z, Φ (.ret r) z → (r = .ok (.ret .none) ∨ r = .ok .next) ∧ ∀ h', (∀ b o, z.heap.get? b = some o → h'.get? b = some o) → Q none { z.setGen g .finished with heap := h' }) :
    wpAny (model P w) A (pyNext (.ref a)) Q E s := by
  unfold pyNext
  refine wpAny_bind (wpAny_attempt (wpAny_callSpecial?_slot hg.typeIs slot_gen_next (name := Str.ofString "__next__") (wpAny_call_entry slot_gen_next hg.typeIs entry_gen_next ?_ (args_gen_next _))))
  show wpAny (model P w) A.in1 (Builtin.Generator.genWake (.ref a) (.send .none)) _ _ s
  unfold Builtin.Generator.genWake
  refine wpAny_bind (wpAny_holding (wpAny_genNumber hg (wpAny_bind (wpAny_genState hgs ?_))))
  have core : wpAny (model P w) A.in1 (.resume g (.send .none) [] fun r => match r with
    | .yielded v => ret v
    | .returned v => (do if v == .none then raiseNew (← newExc (.type "StopIteration") [])
                         rule "generator.return-value"; throw (← newExc (.type "StopIteration") [v]) : Sem PySem.Fin)
    | .raised e => Builtin.Generator.genLeft (.ref a) e
    | .running => (do rule "generator.already-executing"; raiseError "ValueError" "generator already executing" : Sem PySem.Fin)
    | .justStarted => (do rule "generator.send-to-fresh"; raiseError "TypeError" "can't send non-None value to a just-started generator" : Sem PySem.Fin)
    | .finished => (do raiseNew (← newExc (.type "StopIteration") []) : Sem PySem.Fin))
      (fun f z => ∃ v, f = .done (.ret v) ∧ Q (some v) z) (fun e z => ∃ o, (e = .ref o ∧ ∃ ob, z.heap.get? o = some ob ∧ ob.cls = .type "StopIteration") ∧ Q none z) s := by
    refine wpAny_resume2 hgs hgo (fun e z he => ?_) fun e z he => ?_
    · cases e with
      | ret r => rfl
      | susp v g0 l k c p fs => exact (hY _ _ _ _ _ _ _ _ he).1
    · cases e with
      | susp v g0 l k c p fs => exact wpAny_pure ⟨v, rfl, (hY _ _ _ _ _ _ _ _ he).2⟩
      | ret x =>
        obtain ⟨hr, hq⟩ := hR x z he
        have hres : End.result (.ret x) = .returned .none := by
          rcases hr with rfl | rfl <;> rfl
        simp only [hres]
        show wpAny (model P w) A.in1 (newExc (.type "StopIteration") [] >>= _) _ _ (z.setGen g .finished)
        refine wpAny_bind ?_
        simp only [newExc, newTuple]
        refine wpAny_bind (wpAny_newObj_type (hd := by size_fits) (h := ?_))
        refine wpAny_bind (m := firstArgMember _ _) (wpAny_of_eq (a := Value.none) (by first | rfl | (simp only [firstArgMember]; rfl)) (wpAny_newObj_type (hd := by size_fits) (h := ?_)))
        simp only [raiseNew]
        refine wpAny_bind (wpAny_bind (wpAny_handled ?_))
        rw [show A.in1.handled = none from hh]
        exact wpAny_throw ⟨_, ⟨rfl, _, Heap.get?_push_size _ rfl, rfl⟩, hq _ fun b o hb => Heap.get?_push_of_some _ (Heap.get?_push_of_some _ hb)⟩
  have fin : ∀ {e : Value} {z : Shared}, (∃ o, (e = .ref o ∧ ∃ ob, z.heap.get? o = some ob ∧ ob.cls = .type "StopIteration") ∧ Q none z) → wpAny (model P w) A (isInstance e (.type "StopIteration")) (fun b z' => b = true ∧ Q none z') E z := fun {e z} ⟨o, ⟨he, ob, h1, h2⟩, hq⟩ => by
    subst he
    exact wpAny_isInstance (T := "StopIteration") (b := true) ⟨ob, h1, h2⟩ isSubtype_stop ⟨rfl, hq⟩
  cases gs with
  | running => exact hgo.elim
  | finished => exact hgo.elim
  | _ =>
    refine wpAny_bind (wpAny_roomToWake hl hroom ?_)
    show wpAny (model P w) A.in1 (.resume g (.send .none) [] _) _ _ s
    refine wpAny_mono core (fun f z ⟨v, hf, hq⟩ => ?_) fun e z he => ?_
    · subst hf
      exact ⟨v, rfl, wpAny_pure hq⟩
    · refine wpAny_bind (wpAny_mono (fin he) (fun b z' ⟨hb, hq⟩ => ?_) fun _ _ x => x)
      subst hb
      exact wpAny_pure hq
end K1

namespace K1
open PySem PySem.Spec PyProof.Rows L2
open Sem (wp)
/-! ### the consumer -/
def pinsS (L : Nat) (pl : List Addr) (h : Heap) (H : Hp) : List (Addr × Obj) := (List.range h.objs.size).filterMap fun b =>
  if L ≤ b ∧ (H b).isNone = true ∧ b ∉ pl then (match h.get? b with
    | some o => if isCellB o = true then none else some (b, o)
    | none => none) else none
theorem mem_pinsS {L : Nat} {pl : List Addr} {h : Heap} {H : Hp} {b : Addr} {o : Obj} (h1 : L ≤ b) (h2 : H b = none) (h3 : b ∉ pl) (h4 : h.get? b = some o) (h5 : isCellB o = false) : (b, o) ∈ pinsS L pl h H :=
  List.mem_filterMap.mpr ⟨b, List.mem_range.mpr (Heap.lt_size h4), by
    rw [if_pos ⟨h1, by rw [h2]; rfl, h3⟩, h4]
    show (if isCellB o = true then none else some (b, o)) = _
    rw [h5, if_neg Bool.false_ne_true]⟩
theorem of_pinsS {L : Nat} {pl : List Addr} {h : Heap} {H : Hp} {p : Addr × Obj} (hp : p ∈ pinsS L pl h H) : L ≤ p.1 ∧ H p.1 = none ∧ p.1 ∉ pl ∧ h.get? p.1 = some p.2 ∧ isCellB p.2 = false := by
  obtain ⟨b, _, e⟩ := List.mem_filterMap.mp hp
  split at e
  · rename_i hc
    obtain ⟨c1, c2, c3⟩ := hc
    cases q : h.get? b with
    | none => rw [q] at e; cases e
    | some o =>
      rw [q] at e
      have e : (if isCellB o = true then none else some (b, o)) = some p := e
      cases z : isCellB o with
      | true =>
        rw [if_pos z] at e
        cases e
      | false =>
        rw [z, if_neg Bool.false_ne_true] at e
        cases e
        exact ⟨c1, Option.isNone_iff_eq_none.mp c2, c3, q, z⟩
  · cases e
/-- it may be woken for the i-th time -/
def Ready (B : GB) (J : GJ) (pl : List Addr) (g i : Nat) (Hc : Hp) (s : Shared) : Prop :=
  s.heap.get? B.a = some B.go ∧ ∃ gs W', s.gens[g]? = some gs ∧ W'.s = s.setGen g .running ∧ W'.Hc = Hc ∧ GoesOn B.M B.A (Phi B J pl (J.n - i) W') gs (s.setGen g .running)
structure Cons (X : Cx) (B : GB) (pl : List Addr) (pins : List (Addr × Obj)) (g : Nat) : Prop where
  P : B.P = X.prog
  w : B.w = X.w
  K : B.K = X.K
  mg : B.mg = X.mg
  base : B.base = X.base
  stack : B.outer = X.stack
  A : B.A = X.A.in1
  calm : X.calm = true
  dep : X.A.depth < recursionLimit
  loc : (X.env.locals < B.L ∧ pl = []) ∨ pl = [X.env.locals]
  cells : ∀ x c, X.env.cells.lookup x = some c → c < B.L
  pins : ∀ p ∈ X.pn ++ pins, p.1 < B.L
  fs : ∀ b ∈ X.fs, b < B.L
  gen : ∀ h : Heap, h.get? B.a = some B.go → h.IsGen B.a g
  obj : B.L < B.a ∧ B.a ∉ pl ∧ isCellB B.go = false
theorem cons_next {X : Cx} {B : GB} {J : GJ} {pl : List Addr} {pins : List (Addr × Obj)} {g i : Nat} {σ : L2.St} {Hc : Hp} {s : Shared} {E : Value → Shared → Prop} (C : Cons X B pl pins g) (I : Inv X pins σ Hc s)
    (low : ∀ b, B.L ≤ b → Hc b = none → b ∈ X.ex ∨ X.s_0.heap.objs.size ≤ b) (rd : Ready B J pl g i Hc s) (hi : i ≤ J.n) :
    wpAny (model X.prog X.w) X.A (pyNext (.ref B.a)) (fun r s1 => match r with
      | none => i = J.n ∧ ∃ HE, J.Z Hc HE ∧ Inv X pins σ HE s1
      | some v => i < J.n ∧ ∃ x HcY, RelV x v ∧ J.Y i Hc x HcY ∧ s1.heap.get? B.a = some B.go ∧ Inv X (pins ++ pinsS B.L pl s1.heap HcY) σ HcY s1 ∧
        ∀ s2 σ2 H2, Inv X (pins ++ pinsS B.L pl s1.heap HcY) σ2 H2 s2 → Sleep s1.gens s2.gens → KT HcY H2 → Inv X pins σ2 H2 s2 ∧ Ready B J pl g (i + 1) H2 s2) E s := by
  obtain ⟨hgo, gs, W', hgs, hW1, hW2, run⟩ := rd
  obtain ⟨cP, cw, cK, cmg, cbase, cst, cA, calm, dep, loc, cells, cpins, cfs, gen, ⟨oa1, oa2, oa3⟩⟩ := C
  have hd : X.A.handled = none := I.ok.hd calm
  have Ls : ∀ {b : Addr}, B.L ≤ b → b ∉ pl → b ≠ X.env.locals := fun {b} hb hp z => by
    rcases loc with ⟨l1, _⟩ | l1
    · rw [z] at hb
      exact Nat.lt_irrefl _ (Nat.lt_of_lt_of_le l1 hb)
    · rw [l1, z] at hp
      exact hp (List.mem_singleton.mpr rfl)
  have chok : ∀ b ∈ chC B.L pl s.heap Hc, (b ∈ X.ex ∨ X.s_0.heap.objs.size ≤ b) ∧ b ≠ X.env.locals ∧ (∀ x c, X.env.cells.lookup x = some c → c ≠ b) ∧ ∀ p ∈ X.pn ++ pins, p.1 ≠ b := fun b hb => by
    obtain ⟨h1, h2, h3, h4⟩ := mem_chC.mp hb
    refine ⟨low b h2 h3, Ls h2 h4, fun x c e z => ?_, fun p hp z => ?_⟩
    · have q := cells x c e
      rw [z] at q
      exact Nat.lt_irrefl _ (Nat.lt_of_lt_of_le q h2)
    · have q := cpins p hp
      rw [z] at q
      exact Nat.lt_irrefl _ (Nat.lt_of_lt_of_le q h2)
  have back : ∀ {HcY : Hp} {z : Shared} {gs' : GenState}, gs'.bare = true → Facts B pl W' HcY z → Inv X pins σ HcY (z.setGen g gs') := fun {HcY z gs'} hb F => by
    refine I.call' (ch := chC B.L pl s.heap Hc) ?_ ?_ ?_ (allBare_setGen F.bare hb) chok
    · show z.os = s.os
      rw [F.os, hW1]
      rfl
    · have u := F.un
      rw [hW1, hW2, cst] at u
      exact u
    · have h := F.hok
      rw [cP, cw] at h
      exact h
  have run' : GoesOn (model X.prog X.w) X.A.in1 (Phi B J pl (J.n - i) W') gs (s.setGen g .running) := by
    have r := run
    unfold GB.M at r
    rw [cP, cw, cA] at r
    exact r
  have hgl : g + 1 ≤ s.gens.size := (Array.getElem?_eq_some_iff.mp hgs).1
  refine GenW.wpAny_gsz (n := g + 1) hgl (next2 hd I.nolimit dep (gen _ hgo) hgs run' (fun v g0 l k c p fs z he => ?_) fun r z he => ?_)
  · cases e : J.n - i with
    | zero => rw [e] at he; exact he.elim
    | succ m =>
      rw [e] at he
      obtain ⟨hq, x, HcY, rv, F, ⟨hgz, hgn⟩, hY, next⟩ := he
      have hii : J.n - (m + 1) = i := by omega
      rw [hii, hW2] at hY
      have Iz := back (gs' := (End.susp v g0 l k c p fs).genState) (End.bare_of_quiet hq) F
      have Ip : Inv X (pins ++ pinsS B.L pl z.heap HcY) σ HcY (z.setGen g (End.susp v g0 l k c p fs).genState) := Iz.pins_of fun q hqm => by
        rcases List.mem_append.mp hqm with h | h
        · exact Iz.pin q (List.mem_append_right _ h)
        · obtain ⟨q1, q2, q3, q4, q5⟩ := of_pinsS h
          exact ⟨q4, q2, Ls q1 q3, fun hf => Nat.lt_irrefl _ (Nat.lt_of_lt_of_le (cfs q.1 hf) q1), notCell q5⟩
      refine ⟨hq, fun hsz => ⟨by omega, x, HcY, rv, hY, hgz, Ip, fun s2 σ2 H2 I2 sl kt => ⟨I2.unpinned, ?_⟩⟩⟩
      have gl : g < z.gens.size := by
        rw [GenW.setGen_size] at hsz
        exact hsz
      have hgs2 : s2.gens[g]? = some (End.susp v g0 l k c p fs).genState := sl g k l c p fs _ (setGen_at gl)
      have pinned : ∀ b o, B.L ≤ b → b ∉ pl → HcY b = none → z.heap.get? b = some o → isCellB o = false → s2.heap.get? b = some o ∧ H2 b = none := fun b o h1 h2 h3 h4 h5 => by
        have q := I2.pin (b, o) (List.mem_append_right _ (List.mem_append_right _ (mem_pinsS h1 h3 h2 h4 h5)))
        exact ⟨q.1, q.2.1⟩
      have R : Rest B pl HcY z (s2.setGen g .running) H2 := by
        refine ⟨?_, ?_, pinned, fun b hb => ?_⟩
        · have e0 := I2.env0
          rw [cP, cw, cK, cmg, cbase, cst, cA]
          exact ⟨e0.frames, e0.mod, e0.bs, e0.bsz, e0.funs, e0.frf, e0.hok, allBare_setGen e0.bare rfl⟩
        · show s2.os = z.os
          rw [I2.os]
          exact Iz.os.symm
        · rcases loc with ⟨_, l1⟩ | l1
          · rw [l1] at hb
            cases hb
          · rw [l1] at hb
            rw [List.mem_singleton.mp hb]
            obtain ⟨mm, ⟨o, es, ep, ho, hdat, _⟩, _⟩ := I2.loc
            exact ⟨I2.free, o, ho, isCell_no fun v q => by rw [hdat] at q; cases q⟩
      obtain ⟨W2, w1, w2, w3⟩ := next (s2.setGen g .running) H2 R kt
      refine ⟨(pinned B.a B.go (Nat.le_of_lt oa1) oa2 hgn hgz oa3).1, _, W2, hgs2, w1, w2, ?_⟩
      have em : J.n - (i + 1) = m := by omega
      rw [em]
      exact w3
  · cases e : J.n - i with
    | succ m => rw [e] at he; exact he.elim
    | zero =>
      rw [e] at he
      obtain ⟨hr, HE, F, hZ⟩ := he
      rw [hW2] at hZ
      refine ⟨hr, fun h' hk _ => ⟨by omega, HE, hZ, ?_⟩⟩
      have Iz := back (gs' := .finished) rfl F
      exact Iz.kept (t' := z.toks) hk
end K1

namespace K1
open PySem PySem.Spec PyProof.Rows L2
open Sem (wp)
/-! ### a generator def's promise -/
abbrev SpY := List V → Hp → GJ → Prop
def GMade2 (P : Program) (w : World) (K : PySem.W.Frag) (mg : Str → Option Value) (base : Heap) (pre : Around → Prop) (k : Nat) (outer : List Env) (H : Hp) (s : Shared) (J : GJ) (u : Value) (s' : Shared) : Prop :=
  ∃ (a g : Nat) (c : Code), u = .ref a ∧ s.heap.objs.size < a ∧ a < s'.heap.objs.size ∧ s'.gens[g]? = some (.fresh c) ∧ s'.os = s.os ∧ AllBare s'.gens ∧ (∀ b o, s.heap.get? b = some o → s'.heap.get? b = some o) ∧ s'.heap.IsGen a g ∧
    ∀ (A : Around) (s2 : Shared) (Hc2 : Hp) (pl : List Addr), pre A → Room k A → Env0 P w K mg base A outer s2 Hc2 → s2.os = s.os → (∀ b o, s'.heap.get? b = some o → s2.heap.get? b = some o) → (∀ b o, H b = some o → Hc2 b = some o) →
      (∀ b, s.heap.objs.size ≤ b → b < s'.heap.objs.size → Hc2 b = none) → (∀ b ∈ pl, s'.heap.objs.size ≤ b ∧ Hc2 b = none ∧ ∃ o, s2.heap.get? b = some o ∧ isCellB o = false) →
      ∃ B : GB, B.P = P ∧ B.w = w ∧ B.K = K ∧ B.mg = mg ∧ B.base = base ∧ B.outer = outer ∧ B.A = A ∧ B.L = s.heap.objs.size ∧ B.a = a ∧ (∀ h : Heap, h.get? a = some B.go → h.IsGen a g) ∧ isCellB B.go = false ∧ s2.heap.get? a = some B.go ∧ 
        ∃ W' : Wk, W'.s = s2 ∧ W'.Hc = Hc2 ∧ GoesOn B.M B.A (Phi B J pl J.n W') (.fresh c) s2
structure GFn2 (P : Program) (w : World) (K : PySem.W.Frag) (mg : Str → Option Value) (base : Heap) (pre : Around → Prop) (k : Nat) (f : Addr) (fd : FuncData) (ps : List Str) (sp : SpY) : Prop where
  len : ∀ vs H J, sp vs H J → vs.length = ps.length
  run : ∀ (A : Around) (outer : List Env) (s : Shared) (H : Hp) (args : Args) (us : List Value) (vs : List V) (J : GJ), A.depth < recursionLimit → Env0 P w K mg base A outer s H → BindsTo s fd args (ps.zip us) → Vals vs us → sp vs H J →
    codeAny (model P w) A (.call (.ref f) args) (fun r s' => match r with
      | .ok (.ret u) => GMade2 P w K mg base pre k outer H s J u s'
      | _ => False) s
/-- what is wanted behind a generator's body -/
def endE (J : GJ) : GE where
  nx := fun i Hc σ H => i = J.n ∧ SRel Hc H ∧ ∃ pr : List Addr, (∀ b ∈ pr, (∃ xs, H b = some (.lst xs)) ∧ ∀ o, Hc b = some o → ∃ ps, o = .tbl ps) ∧ J.Z Hc (hideL H pr)
  rt := fun i Hc v H => v = .non ∧ i = J.n ∧ SRel Hc H ∧ ∃ pr : List Addr, (∀ b ∈ pr, (∃ xs, H b = some (.lst xs)) ∧ ∀ o, Hc b = some o → ∃ ps, o = .tbl ps) ∧ J.Z Hc (hideL H pr)
theorem run2_func {P : Program} {w : World} {A : Around} {Φ : EndP} {body : List Stmt} {env : Env} {fs : List Frame} {s : Shared}
    (h : ∀ J1 : Value → Sem PySem.Fin, Run2 (model P w) A Φ (.func body env) ((execs body env).wrap (fun f => leafOf (.ok (.ret (match f with
      | .ret v => v
      | _ => .none)))) J1 id id) fs s) : Run2 (model P w) A Φ (.func body env) ((model P w).den (.func body env)) fs s := by
  show Run2 _ A Φ _ (.point [] fun _ => ((execs body env).onRaise (leaving env)) >>= _) fs s
  refine run2_point ?_
  rw [Sem.onRaise_eq_wrap, Sem.bind_eq_wrap', Sem.wrap_wrap]
  refine Eq.mpr (congrArg (fun t => Run2 (model P w) A Φ (.func body env) t fs s) (Sem.wrap_congr (execs body env) id id (fun f => ?_) (fun x => rfl))) (h fun x => ((leaving env x).bind fun _ => .raise x).wrap _ .raise id id)
  cases f <;> rfl
theorem gfn2_of {P : Program} {w : World} {K : PySem.W.Frag} {mg : Str → Option Value} {base : Heap} {k : Nat} {f : Addr} {name qual : Str} {params : Arguments} {body : List Stmt} {scope : Scope} {dV kV doc pm cdv ct oc : Value} {an od : Option Addr}
    {osl : Array (Option Value)} {N ps : List Str} {sp : SpY} {pre : Around → Prop} (lk : K.lookup f = some ⟨oc, od, .func (PySem.W.fnOf name qual params body scope dV kV doc pm an cdv ct), osl⟩) (hcd : PySem.W.codeIn K cdv qual = true) (S : GScope N ps scope) (hnc : ∀ n, cellsFrom n scope.names [] = [])
    (len : ∀ vs H J, sp vs H J → vs.length = ps.length)
    (hbody : ∀ (A : Around) (outer : List Env) (L a : Addr) (go : Obj) (vs : List V) (H : Hp) (J : GJ) (pl : List Addr), pre A → Room k (A.deeper (envOfC qual scope L f cdv)) → GB.Ok ⟨P, w, K, mg, base, N, qual, scope, f, cdv, A, outer, L, a, go⟩ → sp vs H J →
      ∃ t, G2s ⟨P, w, K, mg, base, N, qual, scope, f, cdv, A, outer, L, a, go⟩ J pl body t ∧ ∀ Hw, (∀ b o, H b = some o → Hw b = some o) → t (endE J) 0 Hw (start N vs) Hw) :
    GFn2 P w K mg base pre (k + 1) f (PySem.W.fnOf name qual params body scope dV kV doc pm an cdv ct) ps sp := by
  refine ⟨len, fun A outer s H args us vs J hdep e0 hb r hsp => ?_⟩
  have hl := len _ _ _ hsp
  have KX : K.In s.heap := e0.mod.kin.keeps fun b o e => (e0.bs b o e).1
  have hkind : ∀ y ∈ ps.zip us, scope.names.lookup y.1 = some .local ∨ (scope.names.lookup y.1 = some .cell ∧ ((cellsFrom (s.heap.objs.size + 1) scope.names []).lookup y.1).isSome = true) := fun ⟨n, v⟩ hy =>
    (S.par n (List.of_mem_zip hy).1).imp id fun q => ⟨q, PySem.W.cellsFrom_some _ _ _ (.inl q)⟩
  have lim : s.heap.NoLimit := e0.mod.nolimit.keeps fun b o e => (e0.bs b o e).1
  refine codeAny_call_generator hdep (KX _ _ lk) rfl S.co S.gen rfl (PySem.W.codeRec_of KX hcd) (hb _ _ _ _ ?_)
  refine wpAny_newFunctionEnv_cells S.kind hkind fun env he s1 x => ?_
  subst he
  refine ⟨lim.keeps x.toInCall.keep, ?_⟩
  obtain ⟨h1, tk, es1, hk1⟩ := id x.done
  have os1 : s1.os = s.os := by rw [es1]
  have gen1 : s1.gens = s.gens := by rw [es1]
  have lt1 : s.heap.objs.size < s1.heap.objs.size := x.toInCall.ns.lt
  have kp1 : ∀ b o, s.heap.get? b = some o → s1.heap.get? b = some o := x.toInCall.keep
  have main : ∀ (go : Obj) (nm qn : Value) (tk2 : Nat), go.cls = .type "generator" → go.data = .fields #[.int s1.gens.size 0, nm, qn] → go.slots = #[] → (∀ h : Heap, (h.push go).get? h.objs.size = some go) →
      GMade2 P w K mg base pre (k + 1) outer H s J (.ref s1.heap.objs.size) { s1 with gens := s1.gens.push (.fresh (.func body (envOfC qual scope s.heap.objs.size f cdv))), toks := tk2, heap := s1.heap.push go } := by
    intro go nm qn tk2 hgc hgd0 hgs hgp
    have hgen : ∀ h : Heap, h.get? s1.heap.objs.size = some go → h.IsGen s1.heap.objs.size s1.gens.size := fun h e => ⟨go, nm, qn, e, hgc, hgd0, hgs⟩
    have hgcell : isCellB go = false := isCell_no fun v q => by rw [hgd0] at q; cases q
    refine ⟨s1.heap.objs.size, s1.gens.size, _, rfl, lt1, ?_, Array.getElem?_push_size .., os1, ?_, fun b o e => Heap.get?_push_of_some _ (kp1 b o e), hgen _ (hgp _), ?_⟩
    · show _ < (s1.heap.push go).objs.size
      rw [Heap.size_push]
      exact Nat.lt_succ_self _
    · exact AllBare.push (by rw [gen1]; exact e0.bare) rfl
    intro Aw s2 Hc2 pl hpre hrw env2 hos hk2 hHc hyoung hpl
    have hfr := env2.frames
    have e0w : Env0 P w K mg base Aw outer s H := ⟨hfr, e0.mod, e0.bs, e0.bsz, e0.funs, e0.frf, e0.hok, e0.bare⟩
    have I1 := inv_startG (E := fun _ _ _ => False) S hrw.hd e0w hl r x
    have I2 : Inv (gX P w K mg base N qual scope f cdv Aw outer s.heap.objs.size s H) [] (start N vs) H s1 :=
      ⟨⟨I1.ok.mod, I1.ok.kind, I1.ok.glob, I1.ok.blt, I1.ok.above, I1.ok.inj, I1.ok.has, I1.ok.cab, I1.ok.hd, I1.ok.frames, I1.ok.stk, I1.ok.exf, I1.ok.bs, I1.ok.bsz, I1.ok.noex, I1.ok.exfs, I1.ok.funs, I1.ok.frf⟩, I1.os, I1.bare, I1.base, I1.loc, I1.cell, I1.free, I1.freeC, I1.pin, I1.hok, I1.len⟩
    have kp2 : ∀ b o, s1.heap.get? b = some o → s2.heap.get? b = some o := fun b o e => hk2 b o (Heap.get?_push_of_some _ e)
    have hfs : ∀ b ∈ frs outer, b < s.heap.objs.size := fun b hb => by
      obtain ⟨_, o, ho, _⟩ := e0.funs.mem hb
      exact Heap.lt_size ho
    have hL2 : Hc2 s.heap.objs.size = none := hyoung _ (Nat.le_refl _) (by
      show _ < (s1.heap.push go).objs.size
      rw [Heap.size_push]
      exact Nat.lt_succ_of_lt lt1)
    have ha2 : Hc2 s1.heap.objs.size = none := hyoung _ (Nat.le_of_lt lt1) (by
      show _ < (s1.heap.push go).objs.size
      rw [Heap.size_push]
      exact Nat.lt_succ_self _)
    have hga : s2.heap.get? s1.heap.objs.size = some go := hk2 _ _ (hgp _)
    have ok : GB.Ok ⟨P, w, K, mg, base, N, qual, scope, f, cdv, Aw, outer, s.heap.objs.size, s1.heap.objs.size, go⟩ := ⟨hnc _, hfs, e0.bsz, hrw.hd, lt1, hgcell⟩
    obtain ⟨t, ht, hq⟩ := hbody Aw outer s.heap.objs.size s1.heap.objs.size go vs H J pl hpre (hrw.deeper _) ok hsp
    refine ⟨⟨P, w, K, mg, base, N, qual, scope, f, cdv, Aw, outer, s.heap.objs.size, s1.heap.objs.size, go⟩, rfl, rfl, rfl, rfl, rfl, rfl, rfl, rfl, rfl, hgen, hgcell, hga, ⟨s2, Hc2, Hc2, [], []⟩, rfl, rfl, ?_⟩
    have mer : mergeL H [] Hc2 = Hc2 := by
      funext b
      exact mergeL_out (List.not_mem_nil)
    have I3 := wake_inv (ip := []) (pr := []) (PR := [s.heap.objs.size]) (Hc := Hc2) (s2 := s2) (hnc _) hfs e0.bsz hrw.hd I2 (fun b hb => nomatch hb) (fun b hb => nomatch hb) (fun b hb => by
      rcases hb with rfl | hb
      · exact List.mem_singleton.mpr rfl
      · cases hb) ⟨env2, hos.trans os1.symm, fun b hb o e => kp2 b o e, fun b hb => by rw [List.mem_singleton.mp hb]; exact hL2⟩
    rw [mer] at I3
    have wo : WkOk ⟨P, w, K, mg, base, N, qual, scope, f, cdv, Aw, outer, s.heap.objs.size, s1.heap.objs.size, go⟩ pl ⟨s2, Hc2, Hc2, [], []⟩ := by
      obtain ⟨oL, _, _, eL, _⟩ := id x.toInCall.ns
      refine ⟨Heap.lt_size (kp2 s.heap.objs.size oL eL), fun b _ => rfl, fun b hb => ?_, fun b hb => ?_, hga, ha2, List.not_mem_nil, List.not_mem_nil, fun z => ?_⟩
      · rcases hb with hb | hb <;> cases hb
      · obtain ⟨p1, p2, p3⟩ := hpl b hb
        have p1 : (s1.heap.push go).objs.size ≤ b := p1
        rw [Heap.size_push] at p1
        exact ⟨Nat.lt_of_lt_of_le lt1 (Nat.le_of_succ_le p1), p2, p3, List.not_mem_nil, List.not_mem_nil⟩
      · obtain ⟨p1, _⟩ := hpl _ z
        have p1 : (s1.heap.push go).objs.size ≤ s1.heap.objs.size := p1
        rw [Heap.size_push] at p1
        exact Nat.lt_irrefl _ p1
    refine run2_func fun J1 => ?_
    refine ht.run [] _ _ _ J1 id id J.n 0 _ s2 (start N vs) Hc2 (endE J) ⟨GenW.over_func, rfl, rfl, rfl⟩ rfl wo (fun m i W s3 fl hm wo3 hs => ?_) ⟨I3, fun b hb => nomatch hb⟩ (hq Hc2 hHc)
    have fin : ∀ {σ : L2.St} {H3 : Hp}, GI ⟨P, w, K, mg, base, N, qual, scope, f, cdv, Aw, outer, s.heap.objs.size, s1.heap.objs.size, go⟩ W [] σ H3 s3 → i = J.n → SRel W.Hc H3 → (∃ pr : List Addr, (∀ b ∈ pr, (∃ xs, H3 b = some (.lst xs)) ∧ ∀ o, W.Hc b = some o → ∃ ps, o = .tbl ps) ∧ J.Z W.Hc (hideL H3 pr)) →
        Run2 (model P w) Aw (Phi ⟨P, w, K, mg, base, N, qual, scope, f, cdv, Aw, outer, s.heap.objs.size, s1.heap.objs.size, go⟩ J pl m W) (.func body (envOfC qual scope s.heap.objs.size f cdv)) (leafOf (.ok (.ret .none))) [] s3 := fun {σ H3} gi hi sr ⟨pr, hpr, hZ⟩ => by
      obtain rfl : m = 0 := by omega
      refine run2_end (.ok (.ret .none)) ⟨.inl rfl, _, slept ok wo3 gi.1 (fun b hb => (hpr b hb).1) (fun b hb => own_new wo3 gi.1 (hpr b hb).1 (hpr b hb).2) sr, hZ⟩
    cases fl with
    | next =>
      obtain ⟨σ', H', gi, q1, q2, q3⟩ := hs
      exact fin gi q1 q2 q3
    | brk => obtain ⟨_, _, _, q⟩ := hs; exact False.elim q
    | cont => obtain ⟨_, _, _, q⟩ := hs; exact False.elim q
    | ret u =>
      obtain ⟨v, σ', H', gi, rv, ev, q1, q2, q3⟩ := hs
      subst ev
      have eu : u = Value.none := rv
      subst eu
      exact fin gi q1 q2 q3
  exact main _ _ _ _ rfl rfl rfl fun h => Heap.get?_push_size _ rfl
end K1

namespace K1
open PySem PySem.Spec PyProof.Rows L2
open Sem (wp)
/-! ### for over a generator -/
abbrev TGI := L2.St → Hp → (GJ → Hp → Prop) → Prop
/-- an expression whose value is a generator that has not begun -/
structure PY (X : Cx) (pre : Around → Prop) (k : Nat) (e : Expr) (ty : TGI) : Prop where
  run : ∀ (pins : List (Addr × Obj)) (s : Shared) (σ : L2.St) (H : Hp) (R : GJ → Hp → Prop), Inv X pins σ H s → ty σ H R → wpAny (model X.prog X.w) X.A (eval e X.env)
    (fun u s' => ∃ H1 sc J, Inv X pins σ H1 sc ∧ GMade2 X.prog X.w X.K X.mg X.base pre k X.stack H1 sc J u s' ∧ R J H1) X.xe s
def yCall (sp : SpY) (dvs : List V) (t : TA) : TGI := fun σ H R => t σ H fun vs H1 => ∃ J, sp (vs ++ dvs) H1 J ∧ R J H1
section
variable {X : Cx} {pre : Around → Prop} {k : Nat} {f : Addr} {fd : FuncData} {ps : List Str} {sp : SpY} {dvs : List V} {ds : List Value} {x : Str} {p pos : Pos}
theorem run_gfn2 {pins : List (Addr × Obj)} {σ : L2.St} {H : Hp} {s : Shared} {us : List Value} {vs : List V} {J : GJ} {R : GJ → Hp → Prop} {E1 : Value → Shared → Prop} (F : GFn2 X.prog X.w X.K X.mg X.base pre k f fd ps sp) (hr : X.A.depth < recursionLimit)
    (b : BindsTo s fd ⟨us, []⟩ (ps.zip us)) (I : Inv X pins σ H s) (r : Vals vs us) (h : sp vs H J) (hR : R J H) :
    wpAny (model X.prog X.w) X.A (call (.ref f) us) (fun u s' => ∃ H1 sc J, Inv X pins σ H1 sc ∧ GMade2 X.prog X.w X.K X.mg X.base pre k X.stack H1 sc J u s' ∧ R J H1) E1 s := by
  refine wpAny_call (codeAny_mono (F.run X.A X.stack s H ⟨us, []⟩ us vs J hr I.env0 b r h) fun z s' hz => ?_)
  match z, hz with
  | .error _, hz => exact hz.elim
  | .ok (.ret u), hz => exact ⟨H, s, J, I, hz, hR⟩
  | .ok .next, hz => exact hz.elim
  | .ok .brk, hz => exact hz.elim
  | .ok .cont, hz => exact hz.elim
/-- f(e, ..) of a generator def -/
theorem py_call {e : Expr} {es : List Expr} {t : TA} (F : GFn2 X.prog X.w X.K X.mg X.base pre k f fd ps sp) (hr : X.A.depth < recursionLimit) (hg : Gl X x) (hm : X.mg x = some (.ref f)) (hk : PySem.W.keepIn X.K (.ref f) = true) (hb : Binds X.K fd ps ds) (hd : Vals dvs ds)
    (ha : PA X (e :: es) t) (hdb : (x == ("__debug__" : Str)) = false := by decide) (he : starEach (e :: es) X.env = (false, eval e X.env) :: starEach es X.env := by rfl) (hpl : (backTo pos (starEach es X.env)).any (·.1) = false := by rfl) :
    PY X pre k (.Call (.Name x p) (e :: es) [] pos) (yCall sp dvs t) := by
  refine ⟨fun pins s σ H R I h => wpAny_Call_Name_kw (ld_glob I hg hm (PySem.W.callWith_K (h₀ := X.base) I.ok.mod.kin hk (thn (ha.run pos pins s σ H _ I h) fun us s1 hq => ?_) he hpl) hdb)⟩
  obtain ⟨vs, H1, I1, r, J, h1, hR⟩ := hq
  refine ⟨I1.kIn, ?_⟩
  have hl : (us ++ ds).length = ps.length := by rw [← (r.append hd).length]; exact F.len _ _ _ h1
  have b := hb s1 us I1.kIn hl
  refine wpAny_call (codeAny_mono (F.run X.A X.stack s1 H1 ⟨us, []⟩ (us ++ ds) (vs ++ dvs) J hr I1.env0 b (r.append hd) h1) fun z s' hz => ?_)
  match z, hz with
  | .error _, hz => exact hz.elim
  | .ok (.ret u), hz => exact ⟨H1, s1, J, I1, hz, hR⟩
  | .ok .next, hz => exact hz.elim
  | .ok .brk, hz => exact hz.elim
  | .ok .cont, hz => exact hz.elim
end
section
variable {X : Cx} {tg : Expr}
theorem go_gen {A : Around} {M : Model} {E : Value → Shared → Prop} {s : Shared} {a : Addr} {g : Nat} {u : Value} {Q : Unit → Shared → Prop} (h : s.heap.IsGen a g) (hQ : Q () s) : wpAny M A (letOwnedTupleGo tg (.ref a) u) Q E s := by
  obtain ⟨o, nm, qn, ho, hc, hd, _⟩ := h
  exact go_of ho hc hd (by decide) hQ
/-- in a def's own code -/
theorem cons_def {pre : Around → Prop} {k : Nat} {pins : List (Addr × Obj)} {σ : L2.St} {H1 : Hp} {sc s' : Shared} {J : GJ} {u : Value} (hc : X.calm = true) (hp : pre X.A.in1) (hr : Room (k + 1) X.A) (I : Inv X pins σ H1 sc) (h : GMade2 X.prog X.w X.K X.mg X.base pre k X.stack H1 sc J u s') :
    ∃ a g B, u = .ref a ∧ B.a = a ∧ s'.heap.IsGen a g ∧ Cons X B [] pins g ∧ Inv X pins σ H1 s' ∧ Ready B J [] g 0 H1 s' ∧ ∀ (Hc : Hp) b, B.L ≤ b → Hc b = none → b ∈ X.ex ∨ X.s_0.heap.objs.size ≤ b := by
  obtain ⟨a, g, c, rfl, ha1, ha2, hgs, hos, hbare, hkp, hgen, start⟩ := h
  have I' : Inv X pins σ H1 s' := I.call' (ch := []) hos (Un.kept hkp) (I.hok.kept hkp) hbare fun b z => nomatch z
  have e0 := I'.env0
  obtain ⟨B, b1, b2, b3, b4, b5, b6, b7, b8, b9, b10, b11, b12, W', w1, w2, w3⟩ := start X.A.in1 (s'.setGen g .running) H1 [] hp hr.in1 ⟨e0.frames, e0.mod, e0.bs, e0.bsz, e0.funs, e0.frf, e0.hok, allBare_setGen e0.bare rfl⟩ hos (fun b o e => e) (fun b o e => e) (fun b hb _ => I.hok.fresh hb) fun b z => nomatch z
  refine ⟨a, g, B, rfl, b9, hgen, ⟨b1, b2, b3, b4, b5, b6, b7, hc, hr.depth, .inl ⟨by rw [b8]; exact I.lt, rfl⟩, fun x c e => ?_, fun p hp => ?_, fun b hb => ?_, ?_, ?_, List.not_mem_nil, b11⟩, I', ⟨?_, _, W', hgs, w1, w2, w3⟩, fun Hc b hb _ => .inr (Nat.le_trans I.sz (by rw [b8] at hb; exact hb))⟩
  · rw [b8]
    obtain ⟨v, q⟩ := I.cell x c e
    exact q.lt
  · rw [b8]
    exact Heap.lt_size (I.pin p hp).1
  · rw [b8]
    obtain ⟨_, o, ho, _⟩ := I.funs.mem hb
    exact Heap.lt_size ho
  · rw [b9]
    exact b10
  · rw [b8, b9]
    exact ha1
  · rw [b9]
    exact b12
/-- the i-th turn and what it is to reach -/
def tForY (ty : TGI) (g : TG) (tb : TS) : TS := fun D σ H => ty σ H fun J H1 => ∃ W : Nat → L2.St → Hp → Prop, W 0 σ H1 ∧ ∀ i σ H, i ≤ J.n → W i σ H → (i = J.n → ∀ HE, J.Z H HE → D.nx σ HE) ∧
  (i < J.n → ∀ x HY, J.Y i H x HY → g x σ HY fun σ2 H2 => tb { D with nx := fun σ' H' => KT HY H' ∧ W (i + 1) σ' H', ct := fun σ' H' => KT HY H' ∧ W (i + 1) σ' H', bk := D.nx } σ2 H2)
theorem sleepP {α : Type} {M : Model} {A : Around} {t : Sem α} {Q : α → Shared → Prop} {E : Value → Shared → Prop} {s : Shared} (hb : AllBare s.gens) (hE : ∀ e s, E e s → False) (hQ : ∀ a s, Q a s → AllBare s.gens) (h : ∀ G, AllBare G → wpAny M A t Q E (K1.regen s G)) :
    wpAny M A t (fun a s' => Sleep s.gens s'.gens ∧ AllBare s'.gens ∧ ∃ G, Q a (K1.regen s' G)) E s :=
  wpAny_mono (wpAny_sleep (E := fun _ _ => False) hb fun G hG => wpAny_mono (h G hG) (fun a z hz => ⟨hQ a z hz, hz⟩) fun e z hz => (hE e z hz).elim) (fun a z ⟨h1, h2, G, _, h3⟩ => ⟨h1, h2, G, h3⟩) fun e z ⟨_, _, _, _, hz⟩ => hz.elim
theorem ps_forY {pre : Around → Prop} {k : Nat} {iter : Expr} {body : List Stmt} {ty : TGI} {g : TG} {tb : TS} {pos : Pos} (hx : ∀ e s, X.xe e s → False) (hc : X.calm = true) (hpre : pre X.A.in1) (hr : Room (k + 1) X.A) (hi : PY X pre k iter ty) (hg : PG X tg g) (hb : PSs X body tb)
    (hp : PassesOwn (model X.prog X.w) X.A X.env X.xe) (hs : ∀ x, foldedSetIterable iter X.env x = pure x := by intro _; rfl) : PS X (.For tg iter body [] pos) (tForY ty g tb) := by
  refine ⟨fun pins s σ H D I h => wpAny_For (thn (hi.run pins s σ H _ I h) fun v s1 ⟨H1, sc, J, Isc, made, W, w0, turn⟩ => ?_) hs⟩
  obtain ⟨a, gi, B, rfl, rfl, hgen, C, I1, rd, low⟩ := cons_def hc hpre hr Isc made
  refine wpAny_pyIter_gen hgen ?_
  refine codeAny_forLoop_any (fun n s' => ∃ i σ' H', i ≤ J.n ∧ n = J.n - i ∧ Inv X pins σ' H' s' ∧ Ready B J [] gi i H' s' ∧ W i σ' H') ?_ J.n ⟨0, σ, H1, Nat.zero_le _, rfl, I1, rd, w0⟩
  rintro n s3 ⟨i, σ3, H3, hin, rfl, I3, rd3, w3⟩
  obtain ⟨fin, step⟩ := turn i σ3 H3 hin w3
  refine wpAny_passesOwn hp (thn (cons_next (E := X.xe) C I3 (low H3) rd3 hin) fun r s4 h4 => ?_)
  cases r with
  | none =>
    obtain ⟨hi', HE, hZ, I4⟩ := h4
    exact wpAny_passesOwn hp (wpAny_execs_nil ⟨σ3, HE, I4, fin hi' HE hZ⟩)
  | some v =>
    obtain ⟨hlt, x, HY, rv, hY, hgen4, I4, next⟩ := h4
    refine wpAny_passesOwn hp (go_gen (C.gen _ hgen4) ?_)
    have one : wpAny (model X.prog X.w) X.A (assign tg X.env v) (fun _ z => Sleep s4.gens z.gens ∧ AllBare z.gens ∧ ∃ G, ∃ σ6 H6, Inv X (pins ++ pinsS B.L [] s4.heap HY) σ6 H6 (K1.regen z G) ∧ tb { D with nx := fun σ' H' => KT HY H' ∧ W (i + 1) σ' H', ct := fun σ' H' => KT HY H' ∧ W (i + 1) σ' H', bk := D.nx } σ6 H6) X.xe s4 :=
      sleepP (Q := fun _ z => ∃ σ6 H6, Inv X (pins ++ pinsS B.L [] s4.heap HY) σ6 H6 z ∧ tb { D with nx := fun σ' H' => KT HY H' ∧ W (i + 1) σ' H', ct := fun σ' H' => KT HY H' ∧ W (i + 1) σ' H', bk := D.nx } σ6 H6) I4.bare hx (fun _ z ⟨_, _, I6, _⟩ => I6.bare) fun G hG => thn (hg.run _ (K1.regen s4 G) σ3 HY x v _ (Inv.regen I4 hG) rv (step hlt x HY hY)) fun _ s6 ⟨σ6, H6, I6, q6⟩ => ⟨σ6, H6, I6, q6⟩
    refine wpAny_passesOwn hp (thn one fun _ s6 ⟨sl6, b6, G6, σ6, H6, I6, q6⟩ => ?_)
    have I6 := Inv.ungen I6 b6
    have two := sleepP I6.bare hx (fun f z hz => SP_bare hz) fun G hG => hb.run _ (K1.regen s6 G) σ6 H6 _ (Inv.regen I6 hG) q6
    refine wpAny_passesOwn hp (thn two fun f s7 ⟨sl7, b7, G7, q7⟩ => ?_)
    have q7 := SP_ungen q7 b7
    have again : ∀ {σ7 : L2.St} {H7 : Hp}, Inv X (pins ++ pinsS B.L [] s4.heap HY) σ7 H7 s7 → KT HY H7 → W (i + 1) σ7 H7 → ∃ m, m < J.n - i ∧ ∃ i' σ' H', i' ≤ J.n ∧ m = J.n - i' ∧ Inv X pins σ' H' s7 ∧ Ready B J [] gi i' H' s7 ∧ W i' σ' H' := fun {σ7 H7} I7 kt w7 => by
      obtain ⟨I8, rd8⟩ := next s7 σ7 H7 I7 (sl6.trans sl7) kt
      exact ⟨J.n - (i + 1), by omega, i + 1, σ7, H7, hlt, rfl, I8, rd8, w7⟩
    cases f with
    | next => obtain ⟨σ7, H7, I7, kt, w7⟩ := q7; exact again I7 kt w7
    | cont => obtain ⟨σ7, H7, I7, kt, w7⟩ := q7; exact again I7 kt w7
    | brk => obtain ⟨σ7, H7, I7, q7⟩ := q7; exact ⟨σ7, H7, I7.unpinned, q7⟩
    | ret v => obtain ⟨x7, σ7, H7, I7, r7, q7⟩ := q7; exact ⟨x7, σ7, H7, I7.unpinned, r7, q7⟩
end
end K1

namespace K1
open PySem PySem.Spec PyProof.Rows L2
open Sem (wp)
/-! ### a list comprehension over a generator -/
section
variable {X : Cx}
def tLcY (ty : TGI) (g : TG) (tt : TT) (te : TE) (vs : List Nat) : TE := fun σ H Q => ty σ H fun J H1 => ∀ D, H1 D = none → ∃ W : Nat → Hp → Prop, W 0 (upd H1 D (.lst [])) ∧ ∀ i H, i ≤ J.n → W i H → (∃ acc, H D = some (.lst acc)) ∧ (i = J.n → ∀ HE, J.Z H HE → Q (.ref D) HE) ∧
  (i < J.n → ∀ x HY, J.Y i H x HY → g x (wipe σ vs) HY fun σ2 H2 => wipe σ2 vs = wipe σ vs ∧ tt σ2 H2 fun b H3 => if b = true then te σ2 H3 fun y H4 => ∃ acc, H4 D = some (.lst acc) ∧ acc.length < sizeLine ∧ KT HY (upd H4 D (.lst (acc ++ [y]))) ∧ W (i + 1) (upd H4 D (.lst (acc ++ [y])))
    else KT HY H3 ∧ W (i + 1) H3)
theorem pushCells_id : ∀ {names : List (Str × NameKind)} {h : Heap}, (∀ y ∈ names, y.2 ≠ .cell) → pushCells h names = h
  | [], _, _ => rfl
  | (n, k) :: r, h, hn => by
    unfold pushCells
    rw [if_neg (by
      have q := hn (n, k) (List.mem_cons_self ..)
      intro z
      exact q (by simpa using z))]
    exact pushCells_id fun y hy => hn y (List.mem_cons_of_mem _ hy)
theorem lcY_core {pre : Around → Prop} {k : Nat} {pins : List (Addr × Obj)} {s : Shared} {σ : L2.St} {H : Hp} {Q : VK} {elt tg iter : Expr} {ifs : List Expr} {scope : Scope} {own : List (Str × Nat)} {pos pos' : Pos} {ty : TGI} {g : TG} {tt : TT} {te : TE} {use : Option (Value → Sem Unit)} {Qf : Value → Shared → Prop}
    (hpre : pre X.A.in1) (hr : Room (k + 1) X.A) (hc : X.calm = true) (hN : X.N.Nodup) (I : Inv X pins σ H s) (hi : PY X pre k iter ty) (ok : BlkOk X.N X.env.scope scope own) (hnoc : ∀ y ∈ scope.names, y.2 ≠ .cell)
    (hg : ∀ (s : Shared) (H : Hp) (C : Addr) (cl : List (Str × Addr)) (fp : List Addr), PG (X.blk s H scope (compEnvC scope cl C X.env) fp) tg g) (ht : ∀ (s : Shared) (H : Hp) (C : Addr) (cl : List (Str × Addr)) (fp : List Addr), PTs (X.blk s H scope (compEnvC scope cl C X.env) fp) ifs tt)
    (he : ∀ (s : Shared) (H : Hp) (C : Addr) (cl : List (Str × Addr)) (fp : List Addr), PE (X.blk s H scope (compEnvC scope cl C X.env) fp) elt te) (hs : ∀ x, foldedSetIterable iter X.env x = pure x)
    (h : tLcY ty g tt te (own.map (·.2)) σ H Q)
    (hRR : ∀ D C s' m H', Inv X pins σ H' s' → Q (.ref D) H' → s'.heap.Ns C m → FpOk X pins H' C → compPost (model X.prog X.w) X.A X.xe use Qf (.ref D) C (.ok .next) s') :
    wpAny (model X.prog X.w) X.A (comprehension (.ListComp elt [⟨tg, iter, ifs, 0⟩] scope pos) scope X.env pos' (newList []) false (eval iter X.env) use) Qf X.xe s := by
  have hfree : ∀ y ∈ scope.names, y.2 = .free → ∃ c, X.env.cells.lookup y.1 = some c := fun y hy e => (ok.free y hy e).elim (fun z => I.ok.has _ (.inl z)) fun z => I.ok.has _ (.inr z)
  refine wpAny_comprehension_free (use := use) rfl hs (closure_ok hfree) ok.kind (fun y hy e => by rw [ok.uniq y hy, e]) (thn (hi.run pins s σ H _ I h) fun xv s1 ⟨H1, sc, J, Isc, made, q⟩ => ?_)
  obtain ⟨a, gi, c0, rfl, ha1, ha2, hgs, hos, hbare, hkp, hgen, begin_⟩ := made
  refine wpAny_pyIter_gen hgen ?_
  have I1 : Inv X pins σ H1 s1 := Isc.call' (ch := []) hos (Un.kept hkp) (Isc.hok.kept hkp) hbare fun b z => nomatch z
  have scle : sc.heap.objs.size ≤ s1.heap.objs.size := Nat.le_of_lt (Nat.lt_trans ha1 ha2)
  refine wpAny_newObj_type (newEnv_comp ?_) (by show 0 ≤ sizeLine; decide)
  generalize hD : s1.heap.objs.size = D
  have hDn : H1 D = none := I1.hok.fresh (Nat.le_of_eq hD)
  obtain ⟨W, w0, turn⟩ := q D hDn
  generalize hs3 : ({ s1 with heap := s1.heap.push { cls := .type "list", data := .seq ([] : List Value).toArray } } : Shared) = s3
  have h3 : s3.heap = s1.heap.push { cls := .type "list", data := .seq ([] : List Value).toArray } := by rw [← hs3]
  have I3 : Inv X pins σ (upd H1 D (.lst [])) s3 := by
    rw [← hs3]
    refine I1.laid (t' := s1.toks) (fun b o e => Heap.get?_push_of_some _ e) (Nat.le_of_eq hD) ⟨Nat.zero_le _, [], 0, .nil, ?_⟩
    rw [← hD]
    exact Heap.get?_push_size _ rfl
  have sz3 : s3.heap.objs.size = D + 1 := by rw [h3, Heap.size_push, hD]
  generalize hfp : ((List.range D).filter fun b => decide (sc.heap.objs.size ≤ b)) = fp
  have mfp : ∀ b, b ∈ fp ↔ b < D ∧ sc.heap.objs.size ≤ b := fun b => by
    rw [← hfp, List.mem_filter, List.mem_range, decide_eq_true_eq]
  have f3 : ∀ b ∈ fp, FpOk X pins (upd H1 D (.lst [])) b ∧ b < s3.heap.objs.size := fun b hb => by
    obtain ⟨m1, m2⟩ := (mfp b).mp hb
    have hn : upd H1 D (.lst []) b = none := by
      rw [upd_ne (Nat.ne_of_lt m1)]
      exact Isc.hok.fresh m2
    exact ⟨Isc.fpOk m2 hn, by omega⟩
  have I4 := block_start I3 ok hN f3
  have pg := hg s3 (upd H1 D (.lst [])) s3.heap.objs.size (cellsFrom (s3.heap.objs.size + 1) scope.names (cloFrom X.env.cells scope.names [])) fp
  have pt := ht s3 (upd H1 D (.lst [])) s3.heap.objs.size (cellsFrom (s3.heap.objs.size + 1) scope.names (cloFrom X.env.cells scope.names [])) fp
  have pe := he s3 (upd H1 D (.lst [])) s3.heap.objs.size (cellsFrom (s3.heap.objs.size + 1) scope.names (cloFrom X.env.cells scope.names [])) fp
  have ccl : ∀ x c, (compEnvC scope (cellsFrom (s3.heap.objs.size + 1) scope.names (cloFrom X.env.cells scope.names [])) s3.heap.objs.size X.env).cells.lookup x = some c → c < sc.heap.objs.size := fun x c e => by
    have hm : (x, c) ∈ cellsFrom (s3.heap.push { cls := .type "dict", data := .dict #[] }).objs.size scope.names (cloFrom X.env.cells scope.names []) := by
      rw [Heap.size_push]
      exact PySem.mem_of_lookup e
    rcases cells_mem hm with z | ⟨z, _, _⟩
    · rcases cloFrom_mem z with z | ⟨z1, z2⟩
      · cases z
      · obtain ⟨c', hc'⟩ := hfree _ z1 rfl
        rw [hc'] at z2
        obtain ⟨v, q⟩ := Isc.cell _ _ hc'
        rw [z2]
        exact q.lt
    · exact absurd rfl (hnoc _ z)
  show codeAny _ _ (.compStart (.ListComp elt [⟨tg, iter, ifs, 0⟩] scope pos) 0 (.ref a) (.ref D) (compEnvC scope (cellsFrom (s3.heap.objs.size + 1) scope.names (cloFrom X.env.cells scope.names [])) s3.heap.objs.size X.env)) (compPost (model X.prog X.w) X.A X.xe use Qf (.ref D) s3.heap.objs.size) { s3 with heap := pushCells (s3.heap.push { cls := .type "dict", data := .dict #[] }) scope.names }
  generalize hce : compEnvC scope (cellsFrom (s3.heap.objs.size + 1) scope.names (cloFrom X.env.cells scope.names [])) s3.heap.objs.size X.env = ce at I4 pg pt pe ccl ⊢
  have cL : ce.locals = s3.heap.objs.size := by subst hce; rfl
  generalize hH3 : upd H1 D (.lst []) = H3 at I3 I4 pg pt pe w0 f3
  have sub3 : ∀ b o, H1 b = some o → H3 b = some o := fun b o e => by
    rw [← hH3, upd_ne (ne_of_none e hDn)]
    exact e
  generalize hs4 : ({ s3 with heap := pushCells (s3.heap.push { cls := .type "dict", data := .dict #[] }) scope.names } : Shared) = s4 at I4 ⊢
  have kp4 : ∀ b o, s1.heap.get? b = some o → s4.heap.get? b = some o := fun b o e => by
    rw [← hs4]
    refine pushCells_keeps _ _ _ _ (Heap.get?_push_of_some _ ?_)
    rw [h3]
    exact Heap.get?_push_of_some _ e
  have gen4 : s4.gens = s1.gens := by rw [← hs4, ← hs3]
  have os4 : s4.os = s1.os := by rw [← hs4, ← hs3]
  have e0 := I4.env0
  obtain ⟨B, b1, b2, b3, b4, b5, b6, b7, b8, b9, b10, b11, b12, W', w1, w2, w3⟩ := begin_ X.A.in1 (s4.setGen gi .running) H3 [ce.locals] hpre hr.in1 ⟨e0.frames, e0.mod, e0.bs, e0.bsz, e0.funs, e0.frf, e0.hok, allBare_setGen e0.bare rfl⟩ (os4.trans hos) kp4 sub3
    (fun b hb hb2 => by
      rw [← hH3, upd_ne (by rw [← hD]; exact Nat.ne_of_lt hb2)]
      exact Isc.hok.fresh hb) fun b hb => by
      rw [List.mem_singleton.mp hb]
      refine ⟨by rw [cL, sz3, ← hD]; exact Nat.le_succ _, I4.free, ?_⟩
      obtain ⟨mm, ⟨o, es, ep, ho, hdat, _⟩, _⟩ := I4.loc
      exact ⟨o, ho, isCell_no fun v z => by rw [hdat] at z; cases z⟩
  have C : Cons (X.blk s3 H3 scope ce fp) B [ce.locals] [] gi := by
    refine ⟨b1, b2, b3, b4, b5, b6, b7, hc, hr.depth, .inr rfl, fun x c e => by rw [b8]; exact ccl x c e, fun p hp => (nomatch (show p ∈ ([] : List (Addr × Obj)) from hp)), fun b hb => ?_, by rw [b9]; exact b10, by rw [b8, b9]; exact ha1, ?_, b11⟩
    · rw [b8]
      obtain ⟨_, o, ho, _⟩ := Isc.stack.mem (show b ∈ frs X.stack from hb)
      exact Heap.lt_size ho
    · rw [b9]
      intro z
      have z := List.mem_singleton.mp z
      have hl : a < s3.heap.objs.size := by
        rw [sz3, ← hD]
        exact Nat.lt_succ_of_lt ha2
      rw [cL] at z
      exact absurd z (Nat.ne_of_lt hl)
  have rd4 : Ready B J [ce.locals] gi 0 H3 s4 := ⟨by rw [b9]; exact b12, _, W', by rw [gen4]; exact hgs, w1, w2, w3⟩
  have low : ∀ (Hc : Hp) (acc : List V), Hc D = some (.lst acc) → ∀ b, B.L ≤ b → Hc b = none → b ∈ (X.blk s3 H3 scope ce fp).ex ∨ (X.blk s3 H3 scope ce fp).s_0.heap.objs.size ≤ b := fun Hc acc hacc b hb hn => by
    rw [b8] at hb
    by_cases hlt : b < D
    · exact .inl ((mfp b).mpr ⟨hlt, hb⟩)
    · have hne : b ≠ D := fun z => by rw [z, hacc] at hn; cases hn
      exact .inr (by show s3.heap.objs.size ≤ b; omega)
  have loop : codeAny (model X.prog X.w) X.A (.compLoop (.ListComp elt [⟨tg, iter, ifs, 0⟩] scope pos) 0 (.ref a) (.ref D) ce) (compPost (model X.prog X.w) X.A X.xe use Qf (.ref D) s3.heap.objs.size) s4 := by
    refine compLoop_any (fun n s' => ∃ i H', i ≤ J.n ∧ n = J.n - i ∧ Inv (X.blk s3 H3 scope ce fp) [] (wipe σ (own.map (·.2))) H' s' ∧ Ready B J [ce.locals] gi i H' s' ∧ W i H') ?_ J.n ⟨0, H3, Nat.zero_le _, rfl, I4, rd4, w0⟩
    rintro n s5 ⟨i, H5, hin, rfl, I5, rd5, w5⟩
    obtain ⟨⟨acc5, hacc5⟩, fin, step⟩ := turn i H5 hin w5
    have cn := cons_next (E := fun _ _ => False) C I5 (low H5 acc5 hacc5) rd5 hin
    rw [b9] at cn
    refine thnF cn fun r s6 h6 => ?_
    cases r with
    | none =>
      obtain ⟨hi', HE, hZ, I6⟩ := h6
      have I7 : Inv X pins σ HE s6 := I3.call' (ch := fp) I6.os I6.base I6.hok I6.bare fun b hb => ⟨(f3 b hb).1.2.2.2.1, (f3 b hb).1.2.1, (f3 b hb).1.2.2.2.2.1, (f3 b hb).1.2.2.2.2.2⟩
      have nC : HE s3.heap.objs.size = none := by
        rw [← cL]
        exact I6.free
      obtain ⟨m, hn, _⟩ := I6.loc
      have hn : s6.heap.Ns ce.locals m := hn
      rw [cL] at hn
      exact hRR D s3.heap.objs.size s6 m HE I7 (fin hi' HE hZ) hn (I3.fpOk (Nat.le_refl _) nC)
    | some v =>
      obtain ⟨hlt, x, HY, rv, hY, hgen6, I6, next⟩ := h6
      have hgen6 : s6.heap.IsGen a gi := by
        have z := C.gen s6.heap (by rw [b9]; exact hgen6)
        rw [b9] at z
        exact z
      refine go_gen hgen6 ?_
      have nox : ∀ (e : Value) (z : Shared), (fun (_ : Value) (_ : Shared) => False) e z → False := fun _ _ z => z
      have fin2 : ∀ {σ8 : L2.St} {s' : Shared} {H' : Hp}, wipe σ8 (own.map (·.2)) = wipe σ (own.map (·.2)) → Sleep s6.gens s'.gens → Inv (X.blk s3 H3 scope ce fp) ([] ++ pinsS B.L [ce.locals] s6.heap HY) σ8 H' s' → KT HY H' → W (i + 1) H' →
          ∃ m, m < J.n - i ∧ ∃ i' H', i' ≤ J.n ∧ m = J.n - i' ∧ Inv (X.blk s3 H3 scope ce fp) [] (wipe σ (own.map (·.2))) H' s' ∧ Ready B J [ce.locals] gi i' H' s' ∧ W i' H' := fun {σ8 s' H'} hw sl I' kt w' => by
        obtain ⟨I8, rd8⟩ := next s' σ8 H' I' sl kt
        have hl : (wipe σ (own.map (·.2))).length = σ8.length := by rw [← hw, wipe_length]
        refine ⟨J.n - (i + 1), by omega, i + 1, H', hlt, rfl, I8.weak hl fun j u e => ?_, rd8, w'⟩
        rw [← hw] at e
        exact (wipe_some e).1
      have t1 := sleepP (Q := fun _ z => ∃ σ' H', Inv (X.blk s3 H3 scope ce fp) ([] ++ pinsS B.L [ce.locals] s6.heap HY) σ' H' z ∧ _) I6.bare nox (fun _ z ⟨_, _, Iz, _⟩ => Iz.bare) fun G hG => pg.run _ (K1.regen s6 G) _ HY x v _ (Inv.regen I6 hG) rv (step hlt x HY hY)
      refine thnF t1 fun _ s8 ⟨sl8, bb8, G8, σ8, H8, I8, hw8, q8⟩ => ?_
      have I8 := Inv.ungen I8 bb8
      have t2 := sleepP (Q := TP (X.blk s3 H3 scope ce fp) ([] ++ pinsS B.L [ce.locals] s6.heap HY) σ8 _) I8.bare nox (fun _ z ⟨_, Iz, _⟩ => Iz.bare) fun G hG => pt.run _ (K1.regen s8 G) σ8 H8 _ (Inv.regen I8 hG) q8
      refine thnF t2 fun b s9 ⟨sl9, bb9, G9, H9, I9, q9⟩ => ?_
      have I9 := Inv.ungen I9 bb9
      cases b with
      | false =>
        simp only [Bool.false_eq_true, if_false] at q9 ⊢
        exact fin2 hw8 (sl8.trans sl9) I9 q9.1 q9.2
      | true =>
        simp only [if_true] at q9 ⊢
        have t3 := sleepP (Q := EP (X.blk s3 H3 scope ce fp) ([] ++ pinsS B.L [ce.locals] s6.heap HY) σ8 _) I9.bare nox (fun _ z ⟨_, _, Iz, _⟩ => Iz.bare) fun G hG => pe.run _ (K1.regen s9 G) σ8 H9 _ (Inv.regen I9 hG) q9
        refine thnF t3 fun z s10 ⟨sl10, bb10, G10, yv, H10, I10, r10, acc, hD10, hz10, kt, w10⟩ => ?_
        have I10 := Inv.ungen I10 bb10
        have t4 := sleepP (Q := fun _ z => Inv (X.blk s3 H3 scope ce fp) ([] ++ pinsS B.L [ce.locals] s6.heap HY) σ8 (upd H10 D (.lst (acc ++ [yv]))) z) I10.bare nox (fun _ z Iz => Iz.bare) fun G hG => app_ok (E := fun _ _ => False) (X := X.blk s3 H3 scope ce fp) (Inv.regen I10 hG) hD10 hz10 r10 fun s11 I11 => I11
        refine thnF t4 fun _ s11 ⟨sl11, bb11, G11, I11⟩ => ?_
        exact fin2 hw8 (((sl8.trans sl9).trans sl10).trans sl11) (Inv.ungen I11 bb11) kt w10
  exact codeAny_compStart_list loop (wpAny_pyIter_gen (hgen.keeps kp4) loop)
/-- as a value -/
theorem pe_lcY {pre : Around → Prop} {k : Nat} {elt tg iter : Expr} {ifs : List Expr} {scope : Scope} {own : List (Str × Nat)} {pos : Pos} {ty : TGI} {g : TG} {tt : TT} {te : TE} (hpre : pre X.A.in1) (hr : Room (k + 1) X.A) (hc : X.calm = true) (hN : X.N.Nodup) (hi : PY X pre k iter ty) (ok : BlkOk X.N X.env.scope scope own) (hnoc : ∀ y ∈ scope.names, y.2 ≠ .cell)
    (hg : ∀ (s : Shared) (H : Hp) (C : Addr) (cl : List (Str × Addr)) (fp : List Addr), PG (X.blk s H scope (compEnvC scope cl C X.env) fp) tg g) (ht : ∀ (s : Shared) (H : Hp) (C : Addr) (cl : List (Str × Addr)) (fp : List Addr), PTs (X.blk s H scope (compEnvC scope cl C X.env) fp) ifs tt)
    (he : ∀ (s : Shared) (H : Hp) (C : Addr) (cl : List (Str × Addr)) (fp : List Addr), PE (X.blk s H scope (compEnvC scope cl C X.env) fp) elt te) (hs : ∀ x, foldedSetIterable iter X.env x = pure x := by intro _; rfl) :
    PE X (.ListComp elt [⟨tg, iter, ifs, 0⟩] scope pos) (tLcY ty g tt te (own.map (·.2))) := by
  refine ⟨fun pins s σ H Q I h => ?_⟩
  rw [eval_ListComp]
  refine lcY_core hpre hr hc hN I hi ok hnoc hg ht he hs h fun D C z m H' Iz hq hn ⟨f0, f1, f2, f3, f4, f5⟩ => ⟨m, hn, fun h'' sb => ?_⟩
  exact ⟨.ref D, H', Iz.turned (t' := z.toks) (fun b o hb e => (sb.2 b hb).trans e) f0 f1 f3 f4 f5, rfl, hq⟩
/-- name = [..] on one line, the name a local -/
theorem ps_setLcY {pre : Around → Prop} {k i : Nat} {y : Str} {py : Pos} {elt tg iter : Expr} {ifs : List Expr} {scope : Scope} {own : List (Str × Nat)} {pos spos : Pos} {ty : TGI} {g : TG} {tt : TT} {te : TE} (hpre : pre X.A.in1) (hr : Room (k + 1) X.A) (hc : X.calm = true) (hN : X.N.Nodup) (hy : X.N[i]? = some y) (hyl : X.env.scope.names.lookup y = some .local)
    (hsw : swapsWith (.ListComp elt [⟨tg, iter, ifs, 0⟩] scope pos) (some (.Name y py)) spos.line X.env = pure true) (hi : PY X pre k iter ty) (ok : BlkOk X.N X.env.scope scope own) (hnoc : ∀ y ∈ scope.names, y.2 ≠ .cell)
    (hg : ∀ (s : Shared) (H : Hp) (C : Addr) (cl : List (Str × Addr)) (fp : List Addr), PG (X.blk s H scope (compEnvC scope cl C X.env) fp) tg g) (ht : ∀ (s : Shared) (H : Hp) (C : Addr) (cl : List (Str × Addr)) (fp : List Addr), PTs (X.blk s H scope (compEnvC scope cl C X.env) fp) ifs tt)
    (he : ∀ (s : Shared) (H : Hp) (C : Addr) (cl : List (Str × Addr)) (fp : List Addr), PE (X.blk s H scope (compEnvC scope cl C X.env) fp) elt te) (hs : ∀ x, foldedSetIterable iter X.env x = pure x := by intro _; rfl) :
    PS X (.Assign [.Name y py] (.ListComp elt [⟨tg, iter, ifs, 0⟩] scope pos) spos) (tAsg (tLcY ty g tt te (own.map (·.2))) (gName i)) := by
  refine ⟨fun pins s σ H D I h => ?_⟩
  rw [exec_Assign_Name_used _ _ _ _ hsw]
  refine wpAny_bind (wpAny_standAt (wpAny_bind ?_))
  show wpAny _ X.A (do let _ ← comprehension (.ListComp elt [⟨tg, iter, ifs, 0⟩] scope pos) scope X.env (firstIterPos [⟨tg, iter, ifs, 0⟩] pos) (newList []) false (eval iter X.env) (some (assign (.Name y py) X.env))) _ _ s
  have h : tLcY ty g tt te (own.map (·.2)) σ H (fun x H1 => gName i x σ H1 D.nx) := h
  refine wpAny_bind (thn (lcY_core (Qf := fun _ z => SP X pins D .next z) hpre hr hc hN I hi ok hnoc hg ht he hs h fun L C z m H' Iz hq hn fpk => ?_) fun _ z hz => wpAny_pure (wpAny_pure hz))
  show wpAny _ _ (assign (.Name y py) X.env (.ref L)) _ _ _
  refine wpAny_assign_Name (store_ok2 (v := V.ref L) Iz hN hy (.inl hyl) rfl (fun s2 I2 ⟨a, sb, ha⟩ => ?_) (.inr hyl))
  obtain ⟨f0, f1, f2, f3, f4, f5⟩ := fpk
  have haC : C ≠ a := ha.elim (fun z => by rw [z]; exact f1) fun z e => f4 y a z e.symm
  exact ⟨m, hn.sameBut sb haC, fun h3 sb3 => ⟨_, H', I2.turned (t' := s2.toks) (fun b o hb e => (sb3.2 b hb).trans e) f0 f1 f3 f4 f5, hq⟩⟩
end
end K1

namespace K1
open PySem PySem.Spec PyProof.Rows L2
open Sem (wp)
/-! ### list(g) -/
abbrev atA (X : Cx) (A : Around) : Cx := { X with A := A }
theorem Inv.atA {X : Cx} {pins : List (Addr × Obj)} {σ : L2.St} {H : Hp} {s : Shared} {A : Around} (I : Inv X pins σ H s) (h1 : A.handled = X.A.handled) (h2 : A.frames = X.A.frames) : Inv (K1.atA X A) pins σ H s :=
  ⟨⟨I.ok.mod, I.ok.kind, I.ok.glob, I.ok.blt, I.ok.above, I.ok.inj, I.ok.has, I.ok.cab, fun z => h1.trans (I.ok.hd z), h2.trans I.ok.frames, I.ok.stk, I.ok.exf, I.ok.bs, I.ok.bsz, I.ok.noex, I.ok.exfs, I.ok.funs, I.ok.frf⟩, I.os, I.bare, I.base, I.loc, I.cell, I.free, I.freeC, I.pin, I.hok, I.len⟩
theorem Inv.ofA {X : Cx} {pins : List (Addr × Obj)} {σ : L2.St} {H : Hp} {s : Shared} {A : Around} (I : Inv (K1.atA X A) pins σ H s) (h1 : A.handled = X.A.handled) (h2 : A.frames = X.A.frames) : Inv X pins σ H s :=
  ⟨⟨I.ok.mod, I.ok.kind, I.ok.glob, I.ok.blt, I.ok.above, I.ok.inj, I.ok.has, I.ok.cab, fun z => h1.symm.trans (I.ok.hd z), h2.symm.trans I.ok.frames, I.ok.stk, I.ok.exf, I.ok.bs, I.ok.bsz, I.ok.noex, I.ok.exfs, I.ok.funs, I.ok.frf⟩, I.os, I.bare, I.base, I.loc, I.cell, I.free, I.freeC, I.pin, I.hok, I.len⟩
def tListY (ty : TGI) : TE := fun σ H Q => ty σ H fun J H1 => ∀ D, H1 D = none → ∃ W : Nat → List V → Hp → Prop, W 0 [] (upd H1 D (.lst [])) ∧ ∀ i acc H, i ≤ J.n → W i acc H → H D = some (.lst acc) ∧ (i = J.n → ∀ HE, J.Z H HE → Q (.ref D) HE) ∧
  (i < J.n → ∀ x HY, J.Y i H x HY → HY D = some (.lst acc) ∧ acc.length < sizeLine ∧ W (i + 1) (acc ++ [x]) (upd HY D (.lst (acc ++ [x]))))
section
variable {X : Cx}
theorem pe_listY {pre : Around → Prop} {k : Nat} {e : Expr} {ty : TGI} {nm : Str} {p pos : Pos} (hc : X.calm = true) (hpre : pre X.A.in1.in1.in1) (hr : Room (k + 3) X.A) (h : PY X pre k e ty) (hg : Gl X nm) (hmg : X.mg nm = none) (hv : bootBuiltins nm = some (.type "list")) (hnm : nm ≠ "__name__" := by decide) (hdb : (nm == ("__debug__" : Str)) = false := by decide)
    (he : starEach [e] X.env = (false, eval e X.env) :: starEach [] X.env := by rfl) : PE X (.Call (.Name nm p) [e] [] pos) (tListY ty) := by
  refine ⟨fun pins s0 σ H Q I0 hq => wpAny_Call_Name_kw (ld_blt I0 hg hmg hv (PyProof.Rows.callWith_type1 ?_ he rfl) hnm hdb)⟩
  rw [he]
  show wpAny _ _ (spliced ((false, eval e X.env) :: backTo pos (starEach [] X.env))) _ _ s0
  refine Calls.spliced_cons (thn (h.run pins s0 σ H _ I0 hq) fun u s ⟨H1, sc, J, Isc, made, q⟩ => Calls.spliced_nil ?_)
  obtain ⟨a, gi, c0, rfl, ha1, ha2, hgs, hos, hbare, hkp, hgen, begin_⟩ := made
  have I1 : Inv X pins σ H1 s := Isc.call' (ch := []) hos (Un.kept hkp) (Isc.hok.kept hkp) hbare fun b z => nomatch z
  obtain ⟨W, w0, turn⟩ := q s.heap.objs.size (I1.hok.fresh (Nat.le_refl _))
  have away : s.heap.objs.size ≠ a := Nat.ne_of_gt ha2
  refine callType_codes (Q₁ := fun obj z => obj = .ref s.heap.objs.size ∧ z = { s with heap := s.heap.push { cls := .type "list", data := .seq #[] } }) F.called_list (F.typeCall_list_1 _) F.entry_list_init (code_list_new _ ⟨rfl, rfl⟩) fun obj z hz => ?_
  obtain ⟨rfl, rfl⟩ := hz
  have born : (s.heap.push { cls := .type "list", data := .seq #[] }).get? s.heap.objs.size = some { cls := .type "list", data := .seq #[] } := Heap.get?_push_size s.heap rfl
  have stays : ∀ (h : Heap) (f : Obj → Obj), (∀ b o, s.heap.get? b = some o → h.get? b = some o) → ∀ b o, s.heap.get? b = some o → (h.update s.heap.objs.size f).get? b = some o := fun h f q b o e => by
    rw [Heap.get?_update_other _ _ (Nat.ne_of_gt (Heap.lt_size e))]
    exact q b o e
  have old1 : ∀ b o, s.heap.get? b = some o → (s.heap.push { cls := .type "list", data := .seq #[] }).get? b = some o := fun b o => Heap.get?_push_of_some _
  have old2 := stays _ (Obj.mapSeq (fun _ => (#[] : Array Value))) old1
  have is2 : ({ s with heap := (s.heap.push { cls := .type "list", data := .seq #[] }).update s.heap.objs.size (Obj.mapSeq (fun _ => (#[] : Array Value))) } : Shared).heap.IsGen a gi := hgen.keeps old2
  refine ⟨⟨_, born, rfl⟩, F.args_list_init_2 _ _, ?_⟩
  show wpAny _ X.A.in1.in1 (Builtin.List.listItems (.ref s.heap.objs.size) >>= fun old => updateSeq s.heap.objs.size (fun _ => #[]) >>= fun _ => letGo old.toList.reverse >>= fun _ => Builtin.List.listExtendWith (.ref s.heap.objs.size) (.ref a) .none) _ _ _
  unfold Builtin.List.listItems
  refine wpAny_bind (wpAny_bind (wpAny_seqItems born rfl (wpAny_pure ?_)))
  refine wpAny_bind (wpAny_updateSeq born rfl (wpAny_bind (wpAny_letGo ?_)))
  have born2 := Heap.get?_update_self (Obj.mapSeq (fun _ => (#[] : Array Value))) born (by rfl)
  have n1 : Builtin.List.listSameRef (.ref s.heap.objs.size) (.ref a) = false := by simp [Builtin.List.listSameRef, away]
  have n2 : (Value.type "generator" == Value.type "list") = false ∧ (Value.type "generator" == Value.type "tuple") = false := by decide
  unfold Builtin.List.listExtendWith
  refine wpAny_bind (wpAny_typeOf is2.typeIs ?_)
  simp only [n1, n2.1, n2.2, Bool.or_false, Bool.false_eq_true, if_false]
  refine wpAny_bind (wpAny_pyIter_gen is2 (wpAny_bind (wpAny_holding ?_)))
  unfold Builtin.List.listLengthHint
  refine wpAny_bind (wpAny_specialOf is2.typeIs F.gen_no_len (wpAny_bind (m := specialOf (Value.ref a) (Str.ofString "__length_hint__")) (wpAny_specialOf is2.typeIs F.gen_no_hint (wpAny_pure ?_))))
  have born3 := Heap.get?_update_self (Obj.mapSeq (·.push Value.none)) born2 (by rfl)
  have born4 := Heap.get?_update_self (Obj.mapSeq (·.pop)) born3 (by rfl)
  have old4 := stays _ (Obj.mapSeq (·.pop)) (stays _ (Obj.mapSeq (·.push Value.none)) old2)
  show wpAny _ X.A.in1.in1 (rule "list.extend.makes-room" >>= fun _ => (updateSeq s.heap.objs.size (·.push .none) >>= fun _ => updateSeq s.heap.objs.size (·.pop)) >>= fun _ => again (.builtin "list.extend.loop" ⟨[.ref s.heap.objs.size, .ref a, .none], []⟩)) _ _ _
  refine wpAny_bind (wpAny_rule (wpAny_bind (wpAny_bind (wpAny_updateSeq born2 rfl (wpAny_updateSeq (hz := by seq_fits) born3 rfl (wpAny_pure ⟨plainId_quiet F.plain_extend_loop _, ?_⟩))))))
  suffices main : ∀ s4 : Shared, s4.gens = s.gens → s4.os = s.os → (∀ b o, s.heap.get? b = some o → s4.heap.get? b = some o) → (∃ n, s4.heap.get? s.heap.objs.size = some (lstObj #[] n)) →
      codeAny (model X.prog X.w) X.A.in1 (.builtin "list.extend.loop" ⟨[.ref s.heap.objs.size, .ref a, .none], []⟩) (wants (fun r z => r = Value.none ∧ EP X pins σ Q (Value.ref s.heap.objs.size) z) X.xe) s4 from main _ rfl rfl old4 ⟨_, born4⟩
  intro s4 hg4 ho4 kp4 ⟨n4, hS4'⟩
  clear born4 old4 born3 born2 is2 old2 old1 stays born
  have hn1 : H1 s.heap.objs.size = none := I1.hok.fresh (Nat.le_refl _)
  have I4 : Inv (K1.atA X X.A.in1.in1) pins σ (upd H1 s.heap.objs.size (.lst [])) s4 := by
    refine Inv.atA ?_ rfl rfl
    refine I1.call' (ch := []) ho4 (Un.laid kp4 (Nat.le_refl _) hn1) (I1.hok.laid kp4 (Nat.le_refl _) ⟨Nat.zero_le _, [], n4, .nil, hS4'⟩) (by rw [hg4]; exact I1.bare) fun b z => nomatch z
  have e0 := I4.env0
  obtain ⟨B, b1, b2, b3, b4, b5, b6, b7, b8, b9, b10, b11, b12, W', w1, w2, w3⟩ := begin_ X.A.in1.in1.in1 (s4.setGen gi .running) (upd H1 s.heap.objs.size (.lst [])) [] hpre hr.in1.in1.in1 ⟨e0.frames, e0.mod, e0.bs, e0.bsz, e0.funs, e0.frf, e0.hok, allBare_setGen e0.bare rfl⟩ (ho4.trans hos) kp4
    (fun b o e => by
      rw [upd_ne (ne_of_none e hn1)]
      exact e)
    (fun b hb hb2 => by
      rw [upd_ne (Nat.ne_of_lt hb2)]
      exact Isc.hok.fresh hb) fun b hb => nomatch hb
  have C : Cons (K1.atA X X.A.in1.in1) B [] pins gi := by
    refine ⟨b1, b2, b3, b4, b5, b6, b7, hc, hr.in1.in1.depth, .inl ⟨by rw [b8]; exact Isc.lt, rfl⟩, fun x c e => ?_, fun p hp => ?_, fun b hb => ?_, by rw [b9]; exact b10, by rw [b8, b9]; exact ha1, List.not_mem_nil, b11⟩
    · rw [b8]
      obtain ⟨v, q⟩ := Isc.cell x c e
      exact q.lt
    · rw [b8]
      exact Heap.lt_size (Isc.pin p hp).1
    · rw [b8]
      obtain ⟨_, o, ho, _⟩ := Isc.funs.mem hb
      exact Heap.lt_size ho
  have rd4 : Ready B J [] gi 0 (upd H1 s.heap.objs.size (.lst [])) s4 := ⟨by rw [b9]; exact b12, _, W', by rw [hg4]; exact hgs, w1, w2, w3⟩
  have low : ∀ (Hc : Hp) b, B.L ≤ b → Hc b = none → b ∈ (K1.atA X X.A.in1.in1).ex ∨ (K1.atA X X.A.in1.in1).s_0.heap.objs.size ≤ b := fun Hc b hb _ => .inr (Nat.le_trans Isc.sz (by rw [b8] at hb; exact hb))
  generalize hSS : s.heap.objs.size = S at *
  have loop : ∀ (m i : Nat) (acc : List V) (Hc : Hp) (z : Shared), m = J.n - i → i ≤ J.n → Inv (K1.atA X X.A.in1.in1) pins σ Hc z → Ready B J [] gi i Hc z → W i acc Hc →
      codeAny (model X.prog X.w) X.A.in1 (.builtin "list.extend.loop" ⟨[.ref S, .ref a, .none], []⟩) (wants (fun r z => r = Value.none ∧ EP X pins σ Q (Value.ref S) z) X.xe) z := by
    intro m
    induction m with
    | zero =>
      intro i acc Hc z hm hi Iz rd wi
      refine codeAny_builtin F.entry_extend_loop ((Around.under_plainId F.plain_extend_loop _).symm ▸ ?_)
      show wpAny (model X.prog X.w) X.A.in1.in1 (pyNext (.ref a) >>= _) _ _ z
      obtain ⟨_, fin, _⟩ := turn i acc Hc hi wi
      have cn := cons_next (E := fun _ _ => False) C Iz (low Hc) rd hi
      rw [b9] at cn
      refine wpAny_bind (thnF cn fun r z1 h1 => ?_)
      cases r with
      | none =>
        obtain ⟨hi', HE, hZ, I2⟩ := h1
        exact wpAny_pure ⟨rfl, .ref S, HE, Inv.ofA I2 rfl rfl, rfl, fin hi' HE hZ⟩
      | some v =>
        obtain ⟨hlt, _⟩ := h1
        omega
    | succ m ih =>
      intro i acc Hc z hm hi Iz rd wi
      refine codeAny_builtin F.entry_extend_loop ((Around.under_plainId F.plain_extend_loop _).symm ▸ ?_)
      show wpAny (model X.prog X.w) X.A.in1.in1 (pyNext (.ref a) >>= _) _ _ z
      obtain ⟨_, fin, step⟩ := turn i acc Hc hi wi
      have cn := cons_next (E := fun _ _ => False) C Iz (low Hc) rd hi
      rw [b9] at cn
      refine wpAny_bind (thnF cn fun r z1 h1 => ?_)
      cases r with
      | none =>
        obtain ⟨hi', HE, hZ, I2⟩ := h1
        exact wpAny_pure ⟨rfl, .ref S, HE, Inv.ofA I2 rfl rfl, rfl, fin hi' HE hZ⟩
      | some v =>
        obtain ⟨hlt, x, HY, rv, hY, _, I2, next⟩ := h1
        obtain ⟨hD, hlen, w2⟩ := step hlt x HY hY
        obtain ⟨hz', its, n, ri, eo⟩ := I2.hok S _ hD
        have hl := ri.length
        have hsz : its.toArray.size < sizeLine := by rw [List.size_toArray]; omega
        show wpAny (model X.prog X.w) X.A.in1.in1 (updateSeq S (·.push v) >>= _) _ _ z1
        refine wpAny_bind (wpAny_updateSeq eo rfl (wpAny_pure ⟨plainId_quiet F.plain_extend_loop _, ?_⟩) (Nat.le_of_lt hsz) (by show (its.toArray.push v).size ≤ sizeLine + 1; rw [Array.size_push]; omega))
        have I3 : Inv (K1.atA X X.A.in1.in1) (pins ++ pinsS B.L [] z1.heap HY) σ (upd HY S (.lst (acc ++ [x]))) { z1 with heap := z1.heap.update S (Obj.mapSeq (·.push v)) } := by
          refine I2.write (t' := z1.toks) (x := S) (e := S) (by rw [hD]; trivial) (.inl rfl) (fun b u hb q => (Heap.get?_update_other _ _ (Ne.symm hb)).trans q) ⟨_, Heap.get?_update_self _ eo rfl⟩ ⟨by rw [List.length_append]; exact hlen, its ++ [v], n + 1, ri.append (.cons rv .nil), ?_⟩
          rw [Heap.get?_update_self _ eo rfl]
          simp [Obj.mapSeq]
        obtain ⟨I5, rd5⟩ := next _ σ _ I3 (Sleep.refl _) fun b o f e => by
          rw [upd_ne fun q => by
            rw [q, hD] at e
            cases e
            rcases f with ⟨_, z⟩ | ⟨_, _, z⟩ <;> cases z]
          exact e
        exact ih (i + 1) _ _ _ (by omega) hlt I5 rd5 w2
  exact loop (J.n - 0) 0 [] _ s4 rfl (Nat.zero_le _) I4 rd4 w0
end
end K1

namespace Own
open PySem PySem.Spec PyProof.Rows L2
/-! defs with keyword-only defaults, where it is known that no repr is under way -/
section
variable {X : Cx} {k n : Nat} {f : Addr} {fd : FuncData} {ps ks : List Str} {sp : Sp} {ds : List Value} {dvs : List V} {E : XK} {x : Str} {p pos : Pos} {e : Expr} {es : List Expr} {t tk : TA} {kws : List Keyword} {g : List Value → List Value → List Value} {gV : List V → List V → List V}
theorem run_gA {pins : List (Addr × Obj)} {σ : L2.St} {H : Hp} {s : Shared} {Q : VK} {us us0 : List Value} {kw : List (Str × Value)} {vs : List V} (F : FnG X.prog X.w X.K X.mg X.base k f fd ps sp) (hc : Calm X.A) (hr : Room k X.A) (b : BindsTo s fd ⟨us0, kw⟩ (ps.zip us)) (I : Inv X pins σ H s) (r : Vals vs us) (h : sp vs H Q E) :
    wpAny (model X.prog X.w) X.A (call (.ref f) us0 kw) (EP X pins σ Q) X.xe s := by
  refine wpAny_call (codeAny_mono (F.run X.A X.stack s H ⟨us0, kw⟩ us vs Q E hc hr I.env0 b r h) fun z s' hz => ?_)
  match z, hz with
  | .error _, hz => exact hz.elim
  | .ok (.ret _), hz => exact I.after hz
  | .ok .next, hz => exact hz.elim
  | .ok .brk, hz => exact hz.elim
  | .ok .cont, hz => exact hz.elim
/-- f(e, ..), the defaults fill up -/
theorem pe_callGD (F : FnG X.prog X.w X.K X.mg X.base k f fd ps sp) (hc : Calm X.A) (hr : Room k X.A) (hg : Gl X x) (hm : X.mg x = some (.ref f)) (hk : PySem.W.keepIn X.K (.ref f) = true) (hb : Binds X.K fd ps ds) (hd : Vals dvs ds) (ha : PA X (e :: es) t)
    (hdb : (x == ("__debug__" : Str)) = false := by decide) (hst : starEach (e :: es) X.env = (false, eval e X.env) :: starEach es X.env := by rfl) (hno : (backTo pos (starEach es X.env)).any (·.1) = false := by rfl) :
    PE X (.Call (.Name x p) (e :: es) [] pos) (tCall sp dvs E t) := by
  refine ⟨fun pins s σ H Q I q => wpAny_Call_Name_kw (ld_glob I hg hm (PySem.W.callWith_K (h₀ := X.base) I.ok.mod.kin hk (thn (ha.run pos pins s σ H _ I q) fun us s1 hq => ?_) hst hno) hdb)⟩
  obtain ⟨vs, H1, I1, r1, q1⟩ := hq
  have r2 : Vals (vs ++ dvs) (us ++ ds) := r1.append hd
  have hl : (us ++ ds).length = ps.length := by rw [← r2.length]; exact F.len _ _ _ _ q1
  exact ⟨I1.kIn, run_gA F hc hr (hb s1 us I1.kIn hl) I1 r2 q1⟩
/-- f(k = v, ..), no value by place -/
theorem pe_callKG (F : FnG X.prog X.w X.K X.mg X.base k f fd ps sp) (hc : Calm X.A) (hr : Room k X.A) (hg : Gl X x) (hm : X.mg x = some (.ref f)) (hk : PySem.W.keepIn X.K (.ref f) = true) (hb : KBn X.K fd ps 0 ks g gV) (hkw : PK X kws tk)
    (hal : (backToKw pos (keywordEach kws X.env)).all (·.1.isSome) = true := by rfl) (hks : (backToKw pos (keywordEach kws X.env)).filterMap (·.1) = ks := by rfl) (hdb : (x == ("__debug__" : Str)) = false := by decide)
    (hno : ((backTo pos (starEach [] X.env)).any (·.1) || (backToKw pos (keywordEach kws X.env)).any (·.1.isNone)) = false := by rfl) : PE X (.Call (.Name x p) [] kws pos) (tCallK ks.length sp (gV []) E tk) := by
  refine ⟨fun pins s σ H Q I h => wpAny_Call_Name_kw (ld_glob I hg hm ?_ hdb)⟩
  refine PySem.W.callWith_KW0 (h₀ := X.base) (first := []) I.ok.mod.kin hk hal (thn (hkw.run pos pins s σ H _ I h) fun ws s2 hw => ?_) hno
  obtain ⟨zs, H2, I2, rz, l, q⟩ := hw
  refine ⟨I2.kIn, ?_⟩
  rw [hks]
  exact run_gA F hc hr (hb.to s2 [] ws I2.kIn rfl (rz.length.symm.trans l)) I2 (hb.rel .nil rz) q
end
section
variable {K : PySem.W.Frag} {x qual : Str} {st : Stmt} {dvs : List V} {kws : List (Str × V)} {f : Addr} {fd : FuncData} {ps : List Str}
/-- a def with defaults: its promise by its body -/
theorem okGD {P : Program} {w : World} {mg : Str → Option Value} {base : Heap} {N : List Str} {k : Nat} {sp : Sp} (F : FunD K x qual (defArgs st) (defBody st) (defScope st) dvs kws f fd) (S : FnScope N ps (defScope st)) (len : ∀ vs H Q E, sp vs H Q E → vs.length = ps.length)
    (hbody : ∀ (cdv : Value) (A : Around) (out : List Env) (s : Shared) (H : Hp) (vs : List V) (Q : VK) (E : XK), Calm (A.deeper (envOfC qual (defScope st) s.heap.objs.size f cdv)) → Room k (A.deeper (envOfC qual (defScope st) s.heap.objs.size f cdv)) → sp vs H Q E →
      ∃ t, PSs (cxOf CX0 P w K mg base N qual (defScope st) f cdv A out s H E).nox (defBody st) t ∧ t { nx := fun _ H' => Q .non H', rt := Q } (start N vs) H) : FnG P w K mg base (k + 1) f fd ps sp := by
  obtain ⟨oc, od, dV, kV, doc, pm, an, cdv, ct, osl, rfl, lk, hcd, _, _⟩ := F.ex
  refine ⟨len, fun A out s H args us vs Q E hc hr e0 hb r h => ?_⟩
  have kin := e0.mod.kin.keeps fun b o q => (e0.bs b o q).1
  have nolim := e0.mod.nolimit.keeps fun b o q => (e0.bs b o q).1
  have names : ∀ y ∈ ps.zip us, (defScope st).names.lookup y.1 = some .local ∨ ((defScope st).names.lookup y.1 = some .cell ∧ ((cellsFrom (s.heap.objs.size + 1) (defScope st).names []).lookup y.1).isSome = true) := fun y hy =>
    (S.par y.1 (List.of_mem_zip (a := y.1) (b := y.2) hy).1).imp id fun q => ⟨q, PySem.W.cellsFrom_some _ _ _ (.inl q)⟩
  refine codeAny_call_function hr.depth (kin _ _ lk) rfl S.co S.gen rfl (PySem.W.codeRec_of kin hcd) (hb _ _ _ _ (wpAny_newFunctionEnv_cells S.kind names fun env he s1 c => ?_))
  subst he
  obtain ⟨t, ht, q⟩ := hbody cdv A out s H vs Q E (hc.deeper _) (hr.deeper _) h
  refine ⟨nolim.keeps c.toInCall.keep, codeAny_func (wpAny_mono (ht.nox.run [] s1 (start N vs) H _ (inv_start S hr.hd e0 (len _ _ _ _ h) r c) q) (fun fl s' z => ?_) fun _ _ z => z)⟩
  match fl, z with
  | .ret u, ⟨v, σ', H', J, rv, q⟩ => exact ⟨v, H', J.os, J.bare, J.base, J.hok, rv, q⟩
  | .next, ⟨σ', H', J, q⟩ => exact ⟨V.non, H', J.os, J.bare, J.base, J.hok, rfl, q⟩
  | .brk, ⟨_, _, _, q⟩ => exact q.elim
  | .cont, ⟨_, _, _, q⟩ => exact q.elim
variable {params : Arguments} {body : List Stmt} {scope : Scope}
/-- f(k = v, ..): keyword-only defaults, no others; ms lack -/
theorem kbinds0 (F : FunD K x qual params body scope [] kws f fd) (n : Nat) (ks : List Str) (ms : List (Str × V)) (g : {α : Type} → List α → List α → List α → List α) (hk : kws ≠ []) (hms : ∀ q ∈ ms, q ∈ kws)
    (hrel : ∀ {vs mz zs : List V} {us mv ws : List Value}, Vals vs us → Vals mz mv → Vals zs ws → Vals (g vs mz zs) (g us mv ws))
    (h : ∀ (D : Addr) (doc pm : Value) (an : Option Addr) (cdv ct : Value) (us mv ws : List Value), us.length = n → mv.length = ms.length → ws.length = ks.length →
      KwChain D ((ms.map (·.1)).zip mv) (bindArgs (PySem.W.fnOf x qual params body scope .none (.ref D) doc pm an cdv ct) ⟨us, ks.zip ws⟩) (ps.zip (g us mv ws))) :
    ∃ mv : List Value, KBn K fd ps n ks (fun us ws => g us mv ws) (fun vs zs => g vs (ms.map (·.2)) zs) := by
  obtain ⟨oc, od, dV, kV, doc, pm, an, cdv, ct, osl, rfl, lk, hcd, hD, hK⟩ := F.ex
  rcases hD with ⟨_, rfl⟩ | ⟨e, _⟩
  · rcases hK with e | ⟨D, rfl, hq⟩
    · exact absurd e hk
    · obtain ⟨mv, hl, rk, hks⟩ := kwd_vals (ms := ms) fun q hm => hq q (hms q hm)
      refine ⟨mv, ⟨fun s us ws X l1 l2 => ?_, fun r1 r2 => hrel r1 rk r2⟩⟩
      exact BindsTo.of_looks fun M => KwChain.looks X hks (h D doc pm an cdv ct us mv ws l1 hl l2)
  · exact absurd rfl e
end
end Own

namespace K1
open PySem PySem.Spec PyProof.Rows L2 Own
/-! ### a generator's def called by names -/
def yCallK (n : Nat) (sp : SpY) (gV : List V → List V) (tk : TA) : TGI := fun σ H R => tk σ H fun zs H1 => zs.length = n ∧ ∃ J, sp (gV zs) H1 J ∧ R J H1
section
variable {X : Cx} {pre : Around → Prop} {k : Nat} {f : Addr} {fd : FuncData} {ps ks : List Str} {sp : SpY} {x : Str} {p pos : Pos}
theorem py_callK {kws : List Keyword} {g : List Value → List Value → List Value} {gV : List V → List V → List V} {tk : TA} (F : GFn2 X.prog X.w X.K X.mg X.base pre k f fd ps sp) (hr : X.A.depth < recursionLimit) (hg : Gl X x) (hm : X.mg x = some (.ref f)) (hk : PySem.W.keepIn X.K (.ref f) = true) (hb : KBn X.K fd ps 0 ks g gV) (hkw : PK X kws tk)
    (hal : (backToKw pos (keywordEach kws X.env)).all (·.1.isSome) = true := by rfl) (hks : (backToKw pos (keywordEach kws X.env)).filterMap (·.1) = ks := by rfl) (hdb : (x == ("__debug__" : Str)) = false := by decide)
    (hno : ((backTo pos (starEach [] X.env)).any (·.1) || (backToKw pos (keywordEach kws X.env)).any (·.1.isNone)) = false := by rfl) : PY X pre k (.Call (.Name x p) [] kws pos) (yCallK ks.length sp (gV []) tk) := by
  refine ⟨fun pins s σ H R I h => wpAny_Call_Name_kw (ld_glob I hg hm ?_ hdb)⟩
  refine PySem.W.callWith_KW0 (h₀ := X.base) (first := []) I.ok.mod.kin hk hal (thn (hkw.run pos pins s σ H _ I h) fun ws s2 hw => ?_) hno
  obtain ⟨zs, H2, I2, rz, l, J, q, hR⟩ := hw
  refine ⟨I2.kIn, ?_⟩
  rw [hks]
  refine wpAny_call (codeAny_mono (F.run X.A X.stack s2 H2 _ (g [] ws) (gV [] zs) J hr I2.env0 (hb.to s2 [] ws I2.kIn rfl (rz.length.symm.trans l)) (hb.rel .nil rz) q) fun z s' hz => ?_)
  match z, hz with
  | .error _, hz => exact hz.elim
  | .ok (.ret u), hz => exact ⟨H2, s2, J, I2, hz, hR⟩
  | .ok .next, hz => exact hz.elim
  | .ok .brk, hz => exact hz.elim
  | .ok .cont, hz => exact hz.elim
end
end K1

namespace K1
open PySem PySem.Spec PyProof.Rows L2 RZ
open PySem.Sem (wp)
/-! ### zip of a tuple and a list -/
/-- an iterator over a sequence, step by step -/
structure Nxt (P : Program) (w : World) (A : Around) (it l : Addr) (St : Nat → Heap → Prop) (items : Array Value) : Prop where
  item : ∀ {E : Value → Shared → Prop} {Q : Value → Shared → Prop} {s : Shared} {k : Nat} {x : Value}, St k s.heap → items[k]? = some x → (∀ h', St (k + 1) h' → Heap.SameBut it s.heap h' → Q x { s with heap := h' }) → wpAny (model P w) A (Builtin.SmallTypes.nextOf (.ref it)) Q E s
  stop : ∀ {E : Value → Shared → Prop} {Q : Value → Shared → Prop} {s : Shared} {k : Nat}, St k s.heap → items[k]? = none → (∀ h' e, Heap.ExtBut it s.heap h' → (∃ o, h'.get? e = some o ∧ o.cls = .type "StopIteration") → E (.ref e) { s with heap := h' }) → wpAny (model P w) A (Builtin.SmallTypes.nextOf (.ref it)) Q E s
  keep : ∀ {k : Nat} {h h' : Heap}, St k h → (∀ o, h.get? it = some o → h'.get? it = some o) → (∀ o, h.get? l = some o → h'.get? l = some o) → St k h'
theorem isTup_at {h h' : Heap} {l : Addr} {items : Array Value} (x : h.IsTuple l items) (e : ∀ o, h.get? l = some o → h'.get? l = some o) : h'.IsTuple l items := let ⟨o, ho, r⟩ := x; ⟨o, e _ ho, r⟩
section
variable {P : Program} {w : World} {A : Around} {it l : Addr} {items : Array Value}
theorem nxt_tup (hh : A.handled = none) (ne : it ≠ l) : Nxt P w A it l (fun k h => h.IsTupleIter it l k ∧ h.IsTuple l items) items where
  item := fun ⟨h1, h2⟩ hx hQ => nextOf_tuple_item h1 h2 hx fun h' g1 sb => hQ h' ⟨g1, isTup_at h2 fun o e => (sb.2 l ne.symm).trans e⟩ sb
  stop := fun ⟨h1, h2⟩ hx hE => nextOf_tuple_end hh h1 h2 hx hE
  keep := fun ⟨h1, h2⟩ k1 k2 => ⟨h1.at k1, isTup_at h2 k2⟩
theorem nxt_lst (hh : A.handled = none) (ne : it ≠ l) : Nxt P w A it l (fun k h => h.IsListIter it l k ∧ h.IsList l items) items where
  item := fun ⟨h1, h2⟩ hx hQ => wpAny_nextOf_list_item h1 h2 hx fun h' g1 sb => hQ h' ⟨g1, h2.at fun o e => (sb.2 l ne.symm).trans e⟩ sb
  stop := fun ⟨h1, h2⟩ hx hE => wpAny_nextOf_list_end hh h1 h2 hx hE
  keep := fun ⟨h1, h2⟩ k1 k2 => ⟨h1.at k1, h2.at k2⟩
end
section
variable {P : Program} {w : World} {A : Around} {E : Value → Shared → Prop} {s : Shared} {z TI TO i1 i2 l1 l2 : Addr} {S1 S2 : Nat → Heap → Prop} {xs ys : Array Value} {k1 k2 : Nat} {a b : Value}
theorem zipN_item {x y : Value} {Q : Value → Shared → Prop} (D : ZipApart z TI TO i1 i2 l1 l2) (N1 : Nxt P w A i1 l1 S1 xs) (N2 : Nxt P w A i2 l2 S2 ys)
    (hz : IsZip s.heap z TI TO .none) (hTI : IsPair s.heap TI (.ref i1) (.ref i2)) (hTO : IsPair s.heap TO a b) (h1 : S1 k1 s.heap) (h2 : S2 k2 s.heap) (hx : xs[k1]? = some x) (hy : ys[k2]? = some y)
    (hQ : ∀ h', IsZip h' z TI TO (rawInt s.heap.objs.size) → IsPair h' TO x y → S1 (k1 + 1) h' → S2 (k2 + 1) h' → IsPair h' s.heap.objs.size x y →
      (∀ c o, c ≠ z → c ≠ TO → c ≠ i1 → c ≠ i2 → s.heap.get? c = some o → h'.get? c = some o) → Q (.ref s.heap.objs.size) { s with heap := h' }) :
    wpAny (model P w) A (Builtin.«zip.__next__» ⟨[.ref z], []⟩) (fun fin s' => ∃ v, fin = .done (.ret v) ∧ Q v s') E s := by
  show wpAny _ _ (field (.ref z) 2 >>= _) _ _ _
  refine wpAny_bind (wpAny_field hz rfl (x := .bool false) rfl ?_)
  show wpAny _ _ (field (.ref z) 3 >>= _) _ _ _
  refine wpAny_bind (wpAny_field hz rfl (x := .ref TI) rfl (wpAny_bind (wpAny_seqItems hTI rfl ?_)))
  show wpAny _ _ (Builtin.SmallTypes.ownedTupleIsFree (.ref z) >>= _) _ _ _
  unfold Builtin.SmallTypes.ownedTupleIsFree
  refine wpAny_bind (wpAny_bind (wpAny_field hz rfl (x := .none) rfl (wpAny_pure ?_)))
  simp only [if_true]
  refine wpAny_bind (wpAny_rule (wpAny_bind (wpAny_field hz rfl (x := .ref TO) rfl (wpAny_bind (wpAny_setField_rec hz (by simp) fun ha hza sa => ?_)))))
  replace hza : IsZip ha z TI TO .ellipsis := hza
  refine wpAny_bind ?_
  simp only [List.zipIdx_cons, List.zipIdx_nil, List.forIn_cons, List.forIn_nil]
  -- the first
  refine wpAny_bind (wpAny_bind (wpAny_onRaise ?_))
  show wpAny _ _ (Builtin.SmallTypes.nextOf (.ref i1) >>= _) _ _ _
  have ka : ∀ c, c ≠ z → ∀ o, s.heap.get? c = some o → ha.get? c = some o := fun c hc o e => sa.extBut _ _ hc e
  refine wpAny_bind (N1.item (N1.keep h1 (ka _ D.i1z) (ka _ D.l1z)) hx fun hb n1 sb => wpAny_pure ?_)
  have kb : ∀ c, c ≠ z → c ≠ i1 → ∀ o, s.heap.get? c = some o → hb.get? c = some o := fun c hc hd o e => sb.extBut _ _ hd (ka c hc o e)
  have hTOb : IsPair hb TO a b := kb _ D.TOz D.TOi1 _ hTO
  refine wpAny_bind (wpAny_seqItems hTOb rfl (wpAny_bind (wpAny_updateSeq_pair hTOb fun hc hTOc sc => ?_)))
  replace hTOc : IsPair hc TO x b := hTOc
  refine wpAny_bind (wpAny_letGo (wpAny_pure ?_))
  -- the second
  refine wpAny_bind (wpAny_bind (wpAny_onRaise ?_))
  show wpAny _ _ (Builtin.SmallTypes.nextOf (.ref i2) >>= _) _ _ _
  have kc : ∀ c, c ≠ z → c ≠ i1 → c ≠ TO → ∀ o, s.heap.get? c = some o → hc.get? c = some o := fun c u v q o e => sc.extBut _ _ q (kb c u v o e)
  refine wpAny_bind (N2.item (N2.keep h2 (kc _ D.i2z D.i12.symm D.TOi2.symm) (kc _ D.l2z D.l2i1 D.l2TO)) hy fun hd n2 sd => wpAny_pure ?_)
  have hTOd : IsPair hd TO x b := sd.extBut _ _ D.TOi2 hTOc
  refine wpAny_bind (wpAny_seqItems hTOd rfl (wpAny_bind (wpAny_updateSeq_pair hTOd fun he hTOe se => ?_)))
  replace hTOe : IsPair he TO x y := hTOe
  refine wpAny_bind (wpAny_letGo (wpAny_pure (wpAny_pure ?_)))
  refine wpAny_bind (wpAny_seqItems hTOe rfl (wpAny_bind (wpAny_newTuple ?_)))
  have hsz : he.objs.size = s.heap.objs.size := by rw [se.1, sd.1, sc.1, sb.1, sa.1]
  have ke : ∀ c o, c ≠ z → c ≠ TO → c ≠ i1 → c ≠ i2 → s.heap.get? c = some o → he.get? c = some o := fun c o u v p q e => se.extBut _ _ v (sd.extBut _ _ q (kc c u p v o e))
  have hze : IsZip he z TI TO .ellipsis := se.extBut _ _ D.TOz.symm (sd.extBut _ _ D.i2z.symm (sc.extBut _ _ D.TOz.symm (sb.extBut _ _ D.i1z.symm hza)))
  have n1e : S1 (k1 + 1) he := N1.keep n1 (fun o e => se.extBut _ _ D.TOi1.symm (sd.extBut _ _ D.i12 (sc.extBut _ _ D.TOi1.symm e))) fun o e => se.extBut _ _ D.l1TO (sd.extBut _ _ D.l1i2 (sc.extBut _ _ D.l1TO e))
  have n2e : S2 (k2 + 1) he := N2.keep n2 (fun o e => se.extBut _ _ D.TOi2.symm e) fun o e => se.extBut _ _ D.l2TO e
  have zlt : z < he.objs.size := Heap.lt_size hze
  show wpAny _ _ (Builtin.SmallTypes.ownedTupleHandOut (.ref z) (.ref he.objs.size) >>= _) _ _ _
  unfold Builtin.SmallTypes.ownedTupleHandOut
  have hzp : IsZip (he.push { cls := .type "tuple", data := .seq #[x, y] }) z TI TO .ellipsis := Heap.get?_push_of_some _ hze
  refine wpAny_bind (wpAny_bind (wpAny_setField_rec hzp (by simp) fun hf hzf sf => ?_))
  replace hzf : IsZip hf z TI TO (rawInt he.objs.size) := hzf
  refine wpAny_setField_rec hzf (by simp) fun hg hzg sg => ?_
  replace hzg : IsZip hg z TI TO (rawInt he.objs.size) := hzg
  have up : ∀ c o, c ≠ z → he.get? c = some o → hg.get? c = some o := fun c o hc e => sg.extBut _ _ hc (sf.extBut _ _ hc (Heap.get?_push_of_some _ e))
  have new : IsPair hg he.objs.size x y := sg.extBut _ _ (Nat.ne_of_gt zlt) (sf.extBut _ _ (Nat.ne_of_gt zlt) (Heap.get?_push_size _ rfl))
  rw [hsz] at hzg new
  refine wpAny_pure ⟨_, rfl, ?_⟩
  show Q (.ref he.objs.size) _
  rw [hsz]
  exact hQ hg hzg (up _ _ D.TOz hTOe) (N1.keep n1e (fun o e => up _ o D.i1z e) fun o e => up _ o D.l1z e) (N2.keep n2e (fun o e => up _ o D.i2z e) fun o e => up _ o D.l2z e) new fun c o u v p q e => up c o u (ke c o u v p q e)
theorem zipN_stop {Q : Fin → Shared → Prop} (D : ZipApart z TI TO i1 i2 l1 l2) (N1 : Nxt P w A i1 l1 S1 xs) (N2 : Nxt P w A i2 l2 S2 ys)
    (hz : IsZip s.heap z TI TO .none) (hTI : IsPair s.heap TI (.ref i1) (.ref i2)) (hTO : IsPair s.heap TO a b) (h1 : S1 k1 s.heap) (h2 : S2 k2 s.heap) (hend : xs[k1]? = none ∨ ys[k2]? = none)
    (hE : ∀ h' e, (∀ c o, c ≠ z → c ≠ TO → c ≠ i1 → c ≠ i2 → s.heap.get? c = some o → h'.get? c = some o) → (∃ o, h'.get? e = some o ∧ o.cls = .type "StopIteration") → E (.ref e) { s with heap := h' }) :
    wpAny (model P w) A (Builtin.«zip.__next__» ⟨[.ref z], []⟩) Q E s := by
  show wpAny _ _ (field (.ref z) 2 >>= _) _ _ _
  refine wpAny_bind (wpAny_field hz rfl (x := .bool false) rfl ?_)
  show wpAny _ _ (field (.ref z) 3 >>= _) _ _ _
  refine wpAny_bind (wpAny_field hz rfl (x := .ref TI) rfl (wpAny_bind (wpAny_seqItems hTI rfl ?_)))
  show wpAny _ _ (Builtin.SmallTypes.ownedTupleIsFree (.ref z) >>= _) _ _ _
  unfold Builtin.SmallTypes.ownedTupleIsFree
  refine wpAny_bind (wpAny_bind (wpAny_field hz rfl (x := .none) rfl (wpAny_pure ?_)))
  simp only [if_true]
  refine wpAny_bind (wpAny_rule (wpAny_bind (wpAny_field hz rfl (x := .ref TO) rfl (wpAny_bind (wpAny_setField_rec hz (by simp) fun ha hza sa => ?_)))))
  replace hza : IsZip ha z TI TO .ellipsis := hza
  refine wpAny_bind ?_
  simp only [List.zipIdx_cons, List.zipIdx_nil, List.forIn_cons, List.forIn_nil]
  refine wpAny_bind (wpAny_bind (wpAny_onRaise ?_))
  show wpAny _ _ (Builtin.SmallTypes.nextOf (.ref i1) >>= _) _ _ _
  have ka : ∀ c, c ≠ z → ∀ o, s.heap.get? c = some o → ha.get? c = some o := fun c hc o e => sa.extBut _ _ hc e
  have g1 := N1.keep h1 (ka _ D.i1z) (ka _ D.l1z)
  cases hx : xs[k1]? with
  | none =>
    refine wpAny_bind (N1.stop g1 hx fun hb e xb ⟨oe, hoe, hce⟩ => ?_)
    have hzb : IsZip hb z TI TO .ellipsis := xb _ _ D.i1z.symm hza
    have ez : e ≠ z := fun q => by
      rw [q, hzb] at hoe
      cases hoe
      simp at hce
    refine wpAny_setField_rec hzb (by simp) fun hc _ sc => hE hc e (fun c o u _ p _ q => sc.extBut _ _ u (xb _ _ p (ka c u o q))) ⟨oe, sc.extBut _ _ ez hoe, hce⟩
  | some x =>
    have hy : ys[k2]? = none := hend.elim (fun q => by rw [hx] at q; cases q) id
    refine wpAny_bind (N1.item g1 hx fun hb n1 sb => wpAny_pure ?_)
    have kb : ∀ c, c ≠ z → c ≠ i1 → ∀ o, s.heap.get? c = some o → hb.get? c = some o := fun c hc hd o e => sb.extBut _ _ hd (ka c hc o e)
    have hTOb : IsPair hb TO a b := kb _ D.TOz D.TOi1 _ hTO
    refine wpAny_bind (wpAny_seqItems hTOb rfl (wpAny_bind (wpAny_updateSeq_pair hTOb fun hc hTOc sc => ?_)))
    refine wpAny_bind (wpAny_letGo (wpAny_pure (wpAny_bind (wpAny_bind (wpAny_onRaise ?_)))))
    show wpAny _ _ (Builtin.SmallTypes.nextOf (.ref i2) >>= _) _ _ _
    have kc : ∀ c, c ≠ z → c ≠ i1 → c ≠ TO → ∀ o, s.heap.get? c = some o → hc.get? c = some o := fun c u v q o e => sc.extBut _ _ q (kb c u v o e)
    refine wpAny_bind (N2.stop (N2.keep h2 (kc _ D.i2z D.i12.symm D.TOi2.symm) (kc _ D.l2z D.l2i1 D.l2TO)) hy fun hd e xd ⟨oe, hoe, hce⟩ => ?_)
    have hzd : IsZip hd z TI TO .ellipsis := xd _ _ D.i2z.symm (sc.extBut _ _ D.TOz.symm (sb.extBut _ _ D.i1z.symm hza))
    have ez : e ≠ z := fun q => by
      rw [q, hzd] at hoe
      cases hoe
      simp at hce
    refine wpAny_setField_rec hzd (by simp) fun hf _ sf => hE hf e (fun c o u v p q r => sf.extBut _ _ u (xd _ _ q (kc c u p v o r))) ⟨oe, sf.extBut _ _ ez hoe, hce⟩
end
end K1

namespace K1
open PySem PySem.Spec PyProof.Rows L2 RZ
open PySem.Sem (wp)
/-! ### a loop over zip of a tuple and a list -/
abbrev mz1 (h : Heap) (l1 : Addr) : Heap := h.push { cls := .type "tuple_iterator", data := .fields #[.ref l1, .int 0 0] }
abbrev mz2 (h : Heap) (l1 l2 : Addr) : Heap := (mz1 h l1).push { cls := .type "list_iterator", data := .fields #[.ref l2, .int 0 0] }
abbrev mz3 (h : Heap) (l1 l2 : Addr) : Heap := (mz2 h l1 l2).push { cls := .type "tuple", data := .seq #[.ref h.objs.size, .ref (mz1 h l1).objs.size] }
abbrev mz4 (h : Heap) (l1 l2 : Addr) : Heap := (mz3 h l1 l2).push { cls := .type "tuple", data := .seq #[.none, .none] }
abbrev mz5 (h : Heap) (l1 l2 : Addr) : Heap := (mz4 h l1 l2).push { cls := .type "zip", data := .fields #[.none, .bool false, .bool false, .ref (mz2 h l1 l2).objs.size, .ref (mz3 h l1 l2).objs.size] }
theorem mz_new (l1 l2 : Addr) (xs ys : Array Value) :
    Meets (Builtin.«zip.__new__» ⟨[.type "zip", .ref l1, .ref l2], []⟩) (fun _ R s => s.heap.IsTuple l1 xs ∧ s.heap.IsList l2 ys ∧
      R (.ok (.ret (.ref (mz4 s.heap l1 l2).objs.size))) { s with heap := mz5 s.heap l1 l2 }) :=
  .of_wp fun prog w A R s h => by
    obtain ⟨hp, g, d, tk, os⟩ := s; obtain ⟨hl1, hl2, h⟩ := h
    have hsub := sub_zip
    have hL1 : Heap.IsTuple (Shared.heap ⟨hp, g, d, tk, os⟩) l1 xs := hl1
    have hL2 : Heap.IsList (Shared.heap ⟨hp.push { cls := .type "tuple_iterator", data := .fields #[.ref l1, .int 0 0] }, g, d, tk, os⟩) l2 ys := hl2.at fun o e => Heap.get?_push_of_some _ e
    wp_walk using wpAny_pyIter_tuple hL1, wpAny_pyIter_list hL2
    exact ⟨_, rfl, h⟩
section
variable {P : Program} {w : World} {A : Around} {E : Value → Shared → Prop} {s : Shared}
theorem mz_call {l1 l2 : Addr} {xs ys : Array Value} {Q : Value → Shared → Prop} (hl1 : s.heap.IsTuple l1 xs) (hl2 : s.heap.IsList l2 ys)
    (h : ∀ h', IsZip h' (s.heap.objs.size + 4) (s.heap.objs.size + 2) (s.heap.objs.size + 3) .none → IsPair h' (s.heap.objs.size + 2) (.ref s.heap.objs.size) (.ref (s.heap.objs.size + 1)) →
      IsPair h' (s.heap.objs.size + 3) .none .none → h'.IsTupleIter s.heap.objs.size l1 0 → h'.IsListIter (s.heap.objs.size + 1) l2 0 →
      (∀ c o, s.heap.get? c = some o → h'.get? c = some o) → Q (.ref (s.heap.objs.size + 4)) { s with heap := h' }) :
    wpAny (model P w) A (call (.type "zip") [.ref l1, .ref l2]) Q E s := by
  refine callType_new F.called_zip (by decide) (F.typeCall_zip_2 _ _) (F.newCall_zip_2 _ _) (fun obj => F.args_object_init_3 obj _ _) F.entry_zip_new (mz_new l1 l2 xs ys) ⟨hl1, hl2, ?_⟩
  have n1 : (mz1 s.heap l1).objs.size = s.heap.objs.size + 1 := Heap.size_push ..
  have n2 : (mz2 s.heap l1 l2).objs.size = s.heap.objs.size + 2 := by rw [Heap.size_push, n1]
  have n3 : (mz3 s.heap l1 l2).objs.size = s.heap.objs.size + 3 := by rw [Heap.size_push, n2]
  have n4 : (mz4 s.heap l1 l2).objs.size = s.heap.objs.size + 4 := by rw [Heap.size_push, n3]
  have up : ∀ {h : Heap} {b : Addr} {o o' : Obj}, h.get? b = some o → (h.push o').get? b = some o := fun e => Heap.get?_push_of_some _ e
  have a5 : (mz5 s.heap l1 l2).get? (mz4 s.heap l1 l2).objs.size = some _ := Heap.get?_push_size _ rfl
  have a4 : (mz5 s.heap l1 l2).get? (mz3 s.heap l1 l2).objs.size = some _ := up (Heap.get?_push_size _ rfl)
  have a3 : (mz5 s.heap l1 l2).get? (mz2 s.heap l1 l2).objs.size = some _ := up (up (Heap.get?_push_size _ rfl))
  have a2 : (mz5 s.heap l1 l2).get? (mz1 s.heap l1).objs.size = some _ := up (up (up (Heap.get?_push_size _ rfl)))
  have a1 : (mz5 s.heap l1 l2).get? s.heap.objs.size = some _ := up (up (up (up (Heap.get?_push_size _ rfl))))
  show _ ∧ _
  rw [n2, n3, n4] at a5
  rw [n3] at a4
  rw [n1, n2] at a3
  rw [n1] at a2
  rw [n4]
  exact ⟨⟨_, a5, rfl⟩, h _ a5 a3 a4 ⟨_, a1, rfl, rfl⟩ ⟨_, a2, rfl, rfl⟩ fun c o e => up (up (up (up (up e))))⟩
end
/-- the tuple at a and the list at b as they stand at each turn, the items in new pairs -/
def ItzM (K : PySem.W.Frag) (a b : Addr) : It :=
  ⟨fun i H => ∃ (xs ys : List V) (x y : V), SqT K H a xs ∧ SqL K H b ys ∧ xs[i]? = some x ∧ ys[i]? = some y,
    fun i H v H' => ∃ T x y, v = .ref T ∧ H T = none ∧ H' = upd H T (.tup [x, y]) ∧ (∀ xs, SqT K H a xs → xs[i]? = some x) ∧ ∀ ys, SqL K H b ys → ys[i]? = some y,
    fun i H => ∃ xs ys : List V, SqT K H a xs ∧ SqL K H b ys ∧ (xs.length ≤ i ∨ ys.length ≤ i)⟩
theorem turn_mz {P : Program} {w : World} {K : PySem.W.Frag} {elts : List Expr} {kk : Nat} {tpos : Pos} {a b z TI TO i1 i2 : Addr} (D : ZipApart z TI TO i1 i2 a b) :
    Turn P w K (.Tuple elts kk tpos) (ItzM K a b) [z, TI, TO, i1, i2] z (fun i h => IsZip h z TI TO .none ∧ IsPair h TI (.ref i1) (.ref i2) ∧ (∃ x y, IsPair h TO x y) ∧ h.IsTupleIter i1 a i ∧ h.IsListIter i2 b i) where
  mem := List.mem_cons_self ..
  obj := fun i h ⟨hz, hTI, ⟨x, y, hTO⟩, ⟨o1, e1, _, d1⟩, ⟨o2, e2, _, d2⟩⟩ c hc => by
    have q : c = z ∨ c = TI ∨ c = TO ∨ c = i1 ∨ c = i2 := by simpa using hc
    rcases q with rfl | rfl | rfl | rfl | rfl
    · exact ⟨_, hz, fun v q => nomatch q⟩
    · exact ⟨_, hTI, fun v q => nomatch q⟩
    · exact ⟨_, hTO, fun v q => nomatch q⟩
    · exact ⟨o1, e1, fun v q => by rw [d1] at q; cases q⟩
    · exact ⟨o2, e2, fun v q => by rw [d2] at q; cases q⟩
  keep := fun i h h' ⟨hz, hTI, ⟨x, y, hTO⟩, h1, h2⟩ k =>
    ⟨k z (by simp) _ hz, k TI (by simp) _ hTI, ⟨x, y, k TO (by simp) _ hTO⟩, h1.at fun o q => k i1 (by simp) o q, h2.at fun o q => k i2 (by simp) o q⟩
  item := by
    intro X hP hw hK hc i pins s σ H E I hf ⟨hz, hTI, ⟨x0, y0, hTO⟩, h1, h2⟩ ⟨xs, ys, x, y, hqx, hqy, hx, hy⟩
    subst hP hw hK
    obtain ⟨ia, ra, pa, _⟩ := I.tuple hqx
    obtain ⟨ib, rb, pb, _⟩ := I.list hqy
    obtain ⟨u1, hu1, ru1⟩ := ra.get hx
    obtain ⟨u2, hu2, ru2⟩ := rb.get hy
    have hd := I.ok.hd hc
    have zlt : z < s.heap.objs.size := Heap.lt_size hz
    have N1 := nxt_tup (P := X.prog) (w := X.w) (A := X.A.in1) (it := i1) (l := a) (items := ia.toArray) hd (Ne.symm D.l1i1)
    have N2 := nxt_lst (P := X.prog) (w := X.w) (A := X.A.in1) (it := i2) (l := b) (items := ib.toArray) hd (Ne.symm D.l2i2)
    have hT : s.TypeIs (.ref z) "zip" := ⟨_, hz, rfl⟩
    unfold pyNext
    refine wpAny_bind (wpAny_attempt (wpAny_callSpecial?_slot (name := Str.ofString "__next__") hT F.slot_zip_next (wpAny_call_entry F.slot_zip_next hT F.entry_zip_next
      (zipN_item (x := u1) (y := u2) D N1 N2 hz hTI hTO ⟨h1, pa⟩ ⟨h2, pb.isList⟩ (by simpa using hu1) (by simpa using hu2) fun h' z' TO' g1 g2 hT' hk => wpAny_pure ?_) (F.args_zip_next_1 _))))
    refine ⟨_, rfl, wpAny_letOwnedTupleGo_zip (s := { s with heap := h' }) z' fun h'' z'' sb => ?_⟩
    have hT2 : h''.get? s.heap.objs.size = some { cls := .type "tuple", data := .seq #[u1, u2] } := (sb.2 _ (Nat.ne_of_gt zlt)).trans hT'
    have new : ObjOk X.prog X.w (upd H s.heap.objs.size (.tup [x, y])) h'' s.heap.objs.size (.tup [x, y]) := ⟨by show 2 ≤ sizeLine; decide, [u1, u2], .cons ru1 (.cons ru2 .nil), ⟨_, hT2, rfl, _, rfl⟩⟩
    have I1 : Inv X pins σ (upd H s.heap.objs.size (.tup [x, y])) { s with heap := h'' } :=
      I.turnedNew (t' := s.toks) (ch := [z, TI, TO, i1, i2]) (fun c o hb q => (sb.2 c (fun q' => hb (by simp [q']))).trans (hk c o (fun q' => hb (by simp [q'])) (fun q' => hb (by simp [q'])) (fun q' => hb (by simp [q'])) (fun q' => hb (by simp [q'])) q)) hf (Nat.le_refl _) new
    refine ⟨.ref s.heap.objs.size, _, I1, rfl, ⟨_, x, y, rfl, I.hok.fresh (Nat.le_refl _), rfl, fun l hl => by rw [I.tuple_inj hl hqx]; exact hx, fun l hl => by rw [I.list_inj hl hqy]; exact hy⟩, ⟨z'', ?_, ⟨u1, u2, ?_⟩, ?_, ?_⟩, fun c hcm => ?_⟩
    · exact (sb.2 _ D.TIz).trans (hk _ _ D.TIz D.TITO D.TIi1 D.TIi2 hTI)
    · exact (sb.2 _ D.TOz).trans TO'
    · exact g1.1.at fun o q => (sb.2 _ D.i1z).trans q
    · exact g2.1.at fun o q => (sb.2 _ D.i2z).trans q
    · have old : c < s.heap.objs.size := by
        have q : c = z ∨ c = TI ∨ c = TO ∨ c = i1 ∨ c = i2 := by simpa using hcm
        rcases q with rfl | rfl | rfl | rfl | rfl
        · exact zlt
        · exact Heap.lt_size hTI
        · exact Heap.lt_size hTO
        · obtain ⟨_, e, _⟩ := h1
          exact Heap.lt_size e
        · obtain ⟨_, e, _⟩ := h2
          exact Heap.lt_size e
      rw [upd_ne (Nat.ne_of_lt old)]
      exact (hf c hcm).1
  done := by
    intro X hP hw hK hc i pins s σ H E I hf ⟨hz, hTI, ⟨x0, y0, hTO⟩, h1, h2⟩ ⟨xs, ys, hqx, hqy, hend⟩
    subst hP hw hK
    obtain ⟨ia, ra, pa, _⟩ := I.tuple hqx
    obtain ⟨ib, rb, pb, _⟩ := I.list hqy
    have la := ra.length
    have lb := rb.length
    have hd := I.ok.hd hc
    have N1 := nxt_tup (P := X.prog) (w := X.w) (A := X.A.in1) (it := i1) (l := a) (items := ia.toArray) hd (Ne.symm D.l1i1)
    have N2 := nxt_lst (P := X.prog) (w := X.w) (A := X.A.in1) (it := i2) (l := b) (items := ib.toArray) hd (Ne.symm D.l2i2)
    have he : ia.toArray[i]? = none ∨ ib.toArray[i]? = none := hend.elim (fun q => .inl (by simp; omega)) fun q => .inr (by simp; omega)
    have hT : s.TypeIs (.ref z) "zip" := ⟨_, hz, rfl⟩
    unfold pyNext
    refine wpAny_bind (wpAny_attempt (wpAny_callSpecial?_slot (name := Str.ofString "__next__") hT F.slot_zip_next (wpAny_call_entry F.slot_zip_next hT F.entry_zip_next
      (zipN_stop D N1 N2 hz hTI hTO ⟨h1, pa⟩ ⟨h2, pb.isList⟩ he fun h' e hk ⟨o, ho, hc⟩ => ?_) (F.args_zip_next_1 _))))
    refine wpAny_bind (wpAny_isInstance (T := "StopIteration") (b := true) ⟨o, ho, hc⟩ isSubtype_stop (wpAny_pure ⟨rfl, ?_⟩))
    exact I.turnedL (t' := s.toks) (ch := [z, TI, TO, i1, i2]) (fun c o hb q => hk c o (fun q' => hb (by simp [q'])) (fun q' => hb (by simp [q'])) (fun q' => hb (by simp [q'])) (fun q' => hb (by simp [q'])) q) hf
  self := fun A i s Q E st h => wpAny_pyIter_zip st.1 h
def iZipM (K : PySem.W.Frag) (ta : TA) : TI := fun σ H R => ta σ H fun vs H1 => ∃ a b xs ys, vs = [.ref a, .ref b] ∧ SqT K H1 a xs ∧ SqL K H1 b ys ∧ R (ItzM K a b) H1
theorem pi_zipM {X : Cx} {e e2 : Expr} {ta : TA} {p pos tpos : Pos} {elts : List Expr} {kk : Nat} (hg : Gl X "zip") (hm : X.mg "zip" = none) (ha : PA X [e, e2] ta)
    (hs : starEach [e, e2] X.env = (false, eval e X.env) :: starEach [e2] X.env := by rfl) (hpl : (backTo pos (starEach [e2] X.env)).any (·.1) = false := by rfl) :
    PI X (.Tuple elts kk tpos) (.Call (.Name "zip" p) [e, e2] [] pos) (iZipM X.K ta) := by
  refine ⟨fun pins s σ H R I h => ?_⟩
  refine Call_ (ld_blt I hg hm PyProof.Rows.boot_zip (PyProof.Rows.callWith_type1 (thn (ha.run pos pins s σ H _ I h) fun us s1 ⟨vs, H1, I1, r1, q1⟩ => ?_) hs hpl))
  obtain ⟨a, b, xs, ys, ex, hqx, hqy, q⟩ := q1
  subst ex
  cases r1 with
  | cons r rr =>
    cases rr with
    | cons r' rr =>
      cases rr
      cases r
      cases r'
      obtain ⟨ia, ra, pa, _⟩ := I1.tuple hqx
      obtain ⟨ib, rb, pb, _⟩ := I1.list hqy
      have alt : a < s1.heap.objs.size := by
        obtain ⟨o, ho, _⟩ := id (show s1.heap.IsTuple a ia.toArray from pa)
        exact Heap.lt_size ho
      refine mz_call (show s1.heap.IsTuple a ia.toArray from pa) pb.isList fun h' hz hTI hTO h1 h2 hk => wpAny_pyIter_zip hz ?_
      refine ⟨s1.heap.objs.size + 4, [s1.heap.objs.size + 4, s1.heap.objs.size + 2, s1.heap.objs.size + 3, s1.heap.objs.size, s1.heap.objs.size + 1], _, _, H1, rfl, I1.kept (t' := s1.toks) hk, turn_mz (PySem.W.ktu_apart s1.heap.objs.size a b alt pb.lt), ⟨hz, hTI, ⟨_, _, hTO⟩, h1, h2⟩, fun c hcm => ?_, q⟩
      have up : s1.heap.objs.size ≤ c := by
        have e' : c = s1.heap.objs.size + 4 ∨ c = s1.heap.objs.size + 2 ∨ c = s1.heap.objs.size + 3 ∨ c = s1.heap.objs.size ∨ c = s1.heap.objs.size + 1 := by simpa using hcm
        rcases e' with z | z | z | z | z <;> rw [z] <;> first | exact Nat.le_add_right _ _ | exact Nat.le_refl _
      exact I1.fpOk up (I1.hok.fresh up)
/-- as long as both have items -/
theorem for_mz {K : PySem.W.Frag} {a b : Addr} {xs ys : List V} {g : TG} {tb : TS} {D : Ends} {σ : L2.St} {H : Hp} (hl : ys.length ≤ xs.length) (Pv : Nat → L2.St → Hp → Prop) (h0 : Pv 0 σ H) (hq : ∀ i σ H, Pv i σ H → SqT K H a xs ∧ SqL K H b ys)
    (hs : ∀ (i : Nat) (x y : V) (T : Addr) (σ : L2.St) (H : Hp), xs[i]? = some x → ys[i]? = some y → Pv i σ H → H T = none → g (.ref T) σ (upd H T (.tup [x, y])) fun σ2 H2 => tb { D with nx := Pv (i + 1), ct := Pv (i + 1), bk := D.nx } σ2 H2) (hd : ∀ σ H, Pv ys.length σ H → D.nx σ H) :
    ∃ W : Nat → Nat → L2.St → Hp → Prop, (∃ m, W 0 m σ H) ∧ ∀ i m σ H, W i m σ H →
      ((ItzM K a b).stop i H ∧ D.nx σ H) ∨ ((ItzM K a b).go i H ∧ ∃ N : L2.St → Hp → Prop, (∀ σ' H', N σ' H' → ∃ m', m' < m ∧ W (i + 1) m' σ' H') ∧ ∀ v H', (ItzM K a b).yld i H v H' → g v σ H' fun σ2 H2 => tb { D with nx := N, ct := N, bk := D.nx } σ2 H2) := by
  refine ⟨fun i m σ H => m + i = ys.length ∧ Pv i σ H, ⟨ys.length, rfl, h0⟩, fun i m σ H ⟨hm, p⟩ => ?_⟩
  obtain ⟨qx, qy⟩ := hq i σ H p
  cases m with
  | zero =>
    have e : i = ys.length := by omega
    exact .inl ⟨⟨xs, ys, qx, qy, .inr (Nat.le_of_eq e.symm)⟩, hd σ H (by rw [← e]; exact p)⟩
  | succ m =>
    have l2 : i < ys.length := by omega
    have l1 : i < xs.length := Nat.lt_of_lt_of_le l2 hl
    exact .inr ⟨⟨xs, ys, _, _, qx, qy, List.getElem?_eq_getElem l1, List.getElem?_eq_getElem l2⟩, Pv (i + 1), fun σ' H' p' => ⟨m, Nat.lt_succ_self m, by omega, p'⟩, fun v H' ⟨T, x, y, ev, hT, eh, f1, f2⟩ => by
      subst ev eh
      exact hs i x y T σ H (f1 xs qx) (f2 ys qy) p hT⟩
end K1

namespace K1
open PySem PySem.Spec PyProof.Rows L2 RZ
open PySem.Sem (wp)
open AutoSeq1 (wpAny_loadPart')
/-! ### a loop over enumerate of a tuple -/
abbrev en1 (h : Heap) (l : Addr) : Heap := h.push { cls := .type "tuple_iterator", data := .fields #[.ref l, .int 0 0] }
abbrev en2 (h : Heap) (l : Addr) : Heap := (en1 h l).push { cls := .type "enumerate", data := .fields #[.none, .bool false, .ref h.objs.size, rawInt 0, .none, .none] }
theorem en_new (l : Addr) (items : Array Value) (n : Nat) (dct : Option Addr) (sl : Array (Option Value)) :
    Meets (Builtin.«enumerate.__new__» ⟨[.type "enumerate", .ref l], []⟩) (fun _ R s => s.heap.get? l = some { cls := .type "tuple", dict := dct, data := .seq items n, slots := sl } ∧
      R (.ok (.ret (.ref (en1 s.heap l).objs.size))) { s with heap := en2 s.heap l }) :=
  .of_wp fun prog w A R s h => by
    obtain ⟨hp, g, d, tk, os⟩ := s; obtain ⟨hl, h⟩ := h
    have hsub := sub_enumerate
    have hL : Heap.IsTuple (Shared.heap ⟨hp, g, d, tk, os⟩) l items := ⟨_, hl, rfl, n, rfl⟩
    wp_walk using wpAny_loadPart' hl
    refine wpAny_stack_any fun st => wpAny_pure ?_
    split
    · rename_i c _ _ _ _ _
      cases (c == Value.type "enumerate")
      · wp_walk using wpAny_loadPart' hl, wpAny_pyIter_tuple hL
        exact ⟨_, rfl, h⟩
      · wp_walk using wpAny_loadPart' hl, wpAny_pyIter_tuple hL
        exact ⟨_, rfl, h⟩
    · wp_walk using wpAny_loadPart' hl, wpAny_pyIter_tuple hL
      exact ⟨_, rfl, h⟩
section
variable {P : Program} {w : World} {A : Around} {E : Value → Shared → Prop} {s : Shared}
theorem en_call {l : Addr} {items : Array Value} {Q : Value → Shared → Prop} (hL : s.heap.IsTuple l items)
    (h : ∀ h', IsEnum h' (s.heap.objs.size + 1) s.heap.objs.size 0 .none → h'.IsTupleIter s.heap.objs.size l 0 → (∀ b o, s.heap.get? b = some o → h'.get? b = some o) → Q (.ref (s.heap.objs.size + 1)) { s with heap := h' }) :
    wpAny (model P w) A (call (.type "enumerate") [.ref l]) Q E s := by
  obtain ⟨⟨c, dct, dt, sl⟩, hl, hc, n, hd⟩ := hL
  replace hc : c = .type "tuple" := hc
  replace hd : dt = .seq items n := hd
  subst hc hd
  refine callType_new F.called_enumerate (by decide) (F.typeCall_enumerate_1 _) (F.newCall_enumerate_1 _) (fun obj => F.args_object_init_2 obj _) F.entry_enumerate_new (en_new l items n dct sl) ⟨hl, ?_⟩
  have n1 : (en1 s.heap l).objs.size = s.heap.objs.size + 1 := Heap.size_push ..
  have a2 : (en2 s.heap l).get? (en1 s.heap l).objs.size = some _ := Heap.get?_push_size _ rfl
  show _ ∧ _
  rw [n1] at a2 ⊢
  exact ⟨⟨_, a2, rfl⟩, h _ a2 ⟨_, Heap.get?_push_of_some _ (Heap.get?_push_size _ rfl), rfl, rfl⟩ fun b o e => Heap.get?_push_of_some _ (Heap.get?_push_of_some _ e)⟩
variable {e it l : Addr} {St : Nat → Heap → Prop} {items : Array Value} {i : Nat} {old : Value}
theorem enN_item {x : Value} {Q : Value → Shared → Prop} (N : Nxt P w A it l St items) (he : IsEnum s.heap e it (i : Nat) old) (hs : St i s.heap) (hx : items[i]? = some x) (hne : e ≠ it) (hle : l ≠ e)
    (hQ : ∀ h', IsEnumOut h' e it ((i : Int) + 1) x s.heap.objs.size → St (i + 1) h' → h'.get? s.heap.objs.size = some { cls := .type "tuple", data := .seq #[.int i s.toks, x] } →
      (∀ b o, b ≠ e → b ≠ it → s.heap.get? b = some o → h'.get? b = some o) → Q (.ref s.heap.objs.size) { s with heap := h', toks := s.toks + 1 }) :
    wpAny (model P w) A (Builtin.«enumerate.__next__» ⟨[.ref e], []⟩) (fun fin s' => ∃ v, fin = .done (.ret v) ∧ Q v s') E s := by
  obtain ⟨hp, g, d, tk, os⟩ := s
  show wpAny _ _ (field (.ref e) 2 >>= _) _ _ _
  refine wpAny_bind (wpAny_field he rfl (x := .ref it) rfl (wpAny_bind (N.item hs hx fun ha na sa => ?_)))
  replace sa : Heap.SameBut it hp ha := sa
  have hea : IsEnum ha e it i old := (sa.2 e hne).trans he
  show wpAny _ _ (field (.ref e) 3 >>= _) _ _ ⟨ha, g, d, tk, os⟩
  refine wpAny_bind (wpAny_field hea rfl (x := rawInt i) rfl ?_)
  show wpAny _ _ (field (.ref e) 4 >>= _) _ _ ⟨ha, g, d, tk, os⟩
  refine wpAny_bind (wpAny_field hea rfl (x := .none) rfl ?_)
  show wpAny _ _ (mkInt i >>= _) _ _ ⟨ha, g, d, tk, os⟩
  refine wpAny_bind (wpAny_mkInt ?_)
  show wpAny _ _ (setField (.ref e) 3 (rawInt ((i : Int) + 1)) >>= _) _ _ ⟨ha, g, d, tk + 1, os⟩
  refine wpAny_bind (wpAny_setField_rec hea (by simp) fun hb heb sb => ?_)
  replace sb : Heap.SameBut e ha hb := sb
  replace heb : IsEnum hb e it ((i : Int) + 1) old := heb
  show wpAny _ _ (setField (.ref e) 4 .none >>= _) _ _ ⟨hb, g, d, tk + 1, os⟩
  refine wpAny_bind (wpAny_setField_rec heb (by simp) fun hc hec sc => ?_)
  replace sc : Heap.SameBut e hb hc := sc
  replace hec : IsEnum hc e it ((i : Int) + 1) old := hec
  show wpAny _ _ (newTuple [.int i tk, x] >>= _) _ _ ⟨hc, g, d, tk + 1, os⟩
  refine wpAny_bind (wpAny_newTuple ?_)
  have sz : hc.objs.size = hp.objs.size := by rw [sc.1, sb.1, sa.1]
  have elt : e < hp.objs.size := Heap.lt_size he
  have hed : IsEnum (hc.push { cls := .type "tuple", data := .seq #[.int i tk, x] }) e it ((i : Int) + 1) old := Heap.get?_push_of_some _ hec
  have new : (hc.push { cls := .type "tuple", data := .seq #[.int i tk, x] }).get? hp.objs.size = some { cls := .type "tuple", data := .seq #[.int i tk, x] } := by
    rw [← sz]
    exact Heap.get?_push_size _ rfl
  have nd : St (i + 1) (hc.push { cls := .type "tuple", data := .seq #[.int i tk, x] }) := N.keep na (fun o q => Heap.get?_push_of_some _ (sc.extBut _ _ hne.symm (sb.extBut _ _ hne.symm q))) fun o q => Heap.get?_push_of_some _ (sc.extBut _ _ hle (sb.extBut _ _ hle q))
  have kd : ∀ b o, b ≠ e → b ≠ it → hp.get? b = some o → (hc.push { cls := .type "tuple", data := .seq #[.int i tk, x] }).get? b = some o := fun b o u v q => Heap.get?_push_of_some _ (sc.extBut _ _ u (sb.extBut _ _ u (sa.extBut _ _ v q)))
  rw [sz]
  generalize hc.push { cls := .type "tuple", data := .seq #[.int i tk, x] } = hd at hed new nd kd
  show wpAny _ _ (Builtin.SmallTypes.ownedTupleIsFree (.ref e) >>= _) _ _ ⟨hd, g, d, tk + 1, os⟩
  unfold Builtin.SmallTypes.ownedTupleIsFree
  refine wpAny_bind (wpAny_bind (wpAny_field hed rfl (x := .none) rfl (wpAny_pure ?_)))
  simp only [if_true]
  refine wpAny_bind (wpAny_rule (wpAny_bind (wpAny_field hed rfl (x := old) rfl (wpAny_bind (wpAny_setField_rec hed (by simp) fun hf hef sf => ?_)))))
  replace sf : Heap.SameBut e hd hf := sf
  replace hef : IsEnum hf e it ((i : Int) + 1) x := hef
  show wpAny _ _ (Builtin.SmallTypes.ownedTupleHandOut (.ref e) (.ref hp.objs.size) >>= _) _ _ ⟨hf, g, d, tk + 1, os⟩
  unfold Builtin.SmallTypes.ownedTupleHandOut
  refine wpAny_bind (wpAny_bind (wpAny_setField_rec hef (by simp) fun hg heg sg => ?_))
  replace sg : Heap.SameBut e hf hg := sg
  replace heg : IsEnumOut hg e it ((i : Int) + 1) x hp.objs.size := heg
  refine wpAny_setField_rec heg (by simp) fun hk hek sk => ?_
  replace sk : Heap.SameBut e hg hk := sk
  replace hek : IsEnumOut hk e it ((i : Int) + 1) x hp.objs.size := hek
  have up : ∀ b o, b ≠ e → hd.get? b = some o → hk.get? b = some o := fun b o u q => sk.extBut _ _ u (sg.extBut _ _ u (sf.extBut _ _ u q))
  exact wpAny_bind (wpAny_letGo (wpAny_pure ⟨_, rfl, hQ hk hek (N.keep nd (fun o q => up _ o hne.symm q) fun o q => up _ o hle q) (up _ _ (Nat.ne_of_gt elt) new) fun b o u v q => up b o u (kd b o u v q)⟩))
theorem enN_stop {Q : Fin → Shared → Prop} (N : Nxt P w A it l St items) (he : IsEnum s.heap e it (i : Nat) old) (hs : St i s.heap) (hx : items[i]? = none)
    (hE : ∀ h' x, Heap.ExtBut it s.heap h' → (∃ o, h'.get? x = some o ∧ o.cls = .type "StopIteration") → E (.ref x) { s with heap := h' }) : wpAny (model P w) A (Builtin.«enumerate.__next__» ⟨[.ref e], []⟩) Q E s := by
  show wpAny _ _ (field (.ref e) 2 >>= _) _ _ _
  exact wpAny_bind (wpAny_field he rfl (x := .ref it) rfl (wpAny_bind (N.stop hs hx fun h' x eb hx' => hE h' x eb hx')))
end
/-- the tuple at a as it stands at each turn, its items numbered in new pairs -/
def IteT (K : PySem.W.Frag) (a : Addr) : It :=
  ⟨fun i H => ∃ (xs : List V) (x : V), SqT K H a xs ∧ xs[i]? = some x, fun i H v H' => ∃ T x, v = .ref T ∧ H T = none ∧ H' = upd H T (.tup [.int (i : Nat), x]) ∧ ∀ xs, SqT K H a xs → xs[i]? = some x, fun i H => ∃ xs : List V, SqT K H a xs ∧ xs.length ≤ i⟩
theorem turn_enT {P : Program} {w : World} {K : PySem.W.Frag} {elts : List Expr} {kk : Nat} {tpos : Pos} (a e it : Addr) :
    Turn P w K (.Tuple elts kk tpos) (IteT K a) [e, it] e (fun i h => (∃ old, IsEnum h e it ((i : Nat) : Int) old) ∧ h.IsTupleIter it a i ∧ e ≠ it ∧ a ≠ e ∧ a ≠ it) where
  mem := List.mem_cons_self ..
  obj := fun i h ⟨⟨old, he⟩, ⟨o, ho, _, hd⟩, _⟩ b hb => by
    have q : b = e ∨ b = it := by simpa using hb
    rcases q with rfl | rfl
    · exact ⟨_, he, fun v q => nomatch q⟩
    · exact ⟨o, ho, fun v q => by rw [hd] at q; cases q⟩
  keep := fun i h h' ⟨⟨old, he⟩, hi, hne, hn2⟩ k => ⟨⟨old, k e (by simp) _ he⟩, hi.at fun o q => k it (by simp) o q, hne, hn2⟩
  item := by
    intro X hP hw hK hc i pins s σ H E I hf ⟨⟨old, he⟩, hit, hne, ha, hai⟩ ⟨xs, x, hq, hx⟩
    subst hP hw hK
    obtain ⟨ia, ra, pa, _⟩ := I.tuple hq
    obtain ⟨u, hu, ru⟩ := ra.get hx
    have elt : e < s.heap.objs.size := Heap.lt_size he
    have ilt : it < s.heap.objs.size := by
      obtain ⟨_, q, _⟩ := hit
      exact Heap.lt_size q
    have N := nxt_tup (P := X.prog) (w := X.w) (A := X.A.in1) (it := it) (l := a) (items := ia.toArray) (I.ok.hd hc) hai.symm
    have hT : s.TypeIs (.ref e) "enumerate" := ⟨_, he, rfl⟩
    unfold pyNext
    refine wpAny_bind (wpAny_attempt (wpAny_callSpecial?_slot (name := Str.ofString "__next__") hT F.slot_enumerate_next (wpAny_call_entry F.slot_enumerate_next hT F.entry_enumerate_next
      (enN_item (x := u) N he ⟨hit, pa⟩ (by simpa using hu) hne ha fun h' ho st hT' hk => wpAny_pure ?_) (F.args_enumerate_next_1 _))))
    refine ⟨_, rfl, wpAny_letOwnedTupleGo_enum (s := { s with heap := h', toks := s.toks + 1 }) ho fun h'' he' sb => ?_⟩
    have hT2 : h''.get? s.heap.objs.size = some { cls := .type "tuple", data := .seq #[.int i s.toks, u] } := (sb.2 _ (Nat.ne_of_gt elt)).trans hT'
    have new : ObjOk X.prog X.w (upd H s.heap.objs.size (.tup [.int (i : Nat), x])) h'' s.heap.objs.size (.tup [.int (i : Nat), x]) := ⟨by show 2 ≤ sizeLine; decide, [.int i s.toks, u], .cons ⟨_, rfl⟩ (.cons ru .nil), ⟨_, hT2, rfl, _, rfl⟩⟩
    have I1 : Inv X pins σ (upd H s.heap.objs.size (.tup [.int (i : Nat), x])) { s with heap := h'', toks := s.toks + 1 } :=
      I.turnedNew (ch := [e, it]) (fun b ob hb q => (sb.2 b (fun z => hb (by simp [z]))).trans (hk b ob (fun z => hb (by simp [z])) (fun z => hb (by simp [z])) q)) hf (Nat.le_refl _) new
    refine ⟨.ref s.heap.objs.size, _, I1, rfl, ⟨_, x, rfl, I.hok.fresh (Nat.le_refl _), rfl, fun ys hy => by rw [I.tuple_inj hy hq]; exact hx⟩, ⟨⟨u, ?_⟩, st.1.at fun o q => (sb.2 it hne.symm).trans q, hne, ha, hai⟩, fun b hb => ?_⟩
    · rw [show ((i + 1 : Nat) : Int) = (i : Int) + 1 from by omega]
      exact he'
    · have old : b < s.heap.objs.size := by
        have q : b = e ∨ b = it := by simpa using hb
        rcases q with rfl | rfl
        · exact elt
        · exact ilt
      rw [upd_ne (Nat.ne_of_lt old)]
      exact (hf b hb).1
  done := by
    intro X hP hw hK hc i pins s σ H E I hf ⟨⟨old, he⟩, hit, hne, ha, hai⟩ ⟨xs, hq, hx⟩
    subst hP hw hK
    obtain ⟨ia, ra, pa, _⟩ := I.tuple hq
    have la := ra.length
    obtain ⟨f0, f1, f2, f3, f4, f5⟩ := hf it (by simp)
    have N := nxt_tup (P := X.prog) (w := X.w) (A := X.A.in1) (it := it) (l := a) (items := ia.toArray) (I.ok.hd hc) hai.symm
    have hT : s.TypeIs (.ref e) "enumerate" := ⟨_, he, rfl⟩
    unfold pyNext
    refine wpAny_bind (wpAny_attempt (wpAny_callSpecial?_slot (name := Str.ofString "__next__") hT F.slot_enumerate_next (wpAny_call_entry F.slot_enumerate_next hT F.entry_enumerate_next
      (enN_stop N he ⟨hit, pa⟩ (by simp; omega) fun h' x eb ⟨o, ho, hc⟩ => ?_) (F.args_enumerate_next_1 _))))
    exact wpAny_bind (wpAny_isInstance (T := "StopIteration") (b := true) ⟨o, ho, hc⟩ isSubtype_stop (wpAny_pure ⟨rfl, I.turned (t' := s.toks) (fun b o hb q => eb b o hb q) f0 f1 f3 f4 f5⟩))
  self := fun A i s Q E ⟨⟨_, he⟩, _⟩ h => wpAny_pyIter_enum he h
def iEnT (K : PySem.W.Frag) (ta : TA) : TI := fun σ H R => ta σ H fun vs H1 => ∃ a xs, vs = [.ref a] ∧ SqT K H1 a xs ∧ R (IteT K a) H1
theorem pi_enT {X : Cx} {e : Expr} {ta : TA} {p pos tpos : Pos} {elts : List Expr} {kk : Nat} (hg : Gl X "enumerate") (hm : X.mg "enumerate" = none) (ha : PA X [e] ta) (hs : starEach [e] X.env = [(false, eval e X.env)] := by rfl) :
    PI X (.Tuple elts kk tpos) (.Call (.Name "enumerate" p) [e] [] pos) (iEnT X.K ta) := by
  refine ⟨fun pins s σ H R I h => ?_⟩
  refine Call_ (ld_blt I hg hm boot_enumerate (PyProof.Rows.callWith_type1 (thn (ha.run pos pins s σ H _ I h) fun us s1 ⟨vs, H1, I1, r1, q1⟩ => ?_) hs rfl))
  obtain ⟨a, xs, ex, hq, q⟩ := q1
  subst ex
  cases r1 with
  | cons r rr =>
    cases rr
    cases r
    obtain ⟨ia, ra, pa, _⟩ := I1.tuple hq
    have alt : a < s1.heap.objs.size := by
      obtain ⟨o, ho, _⟩ := id (show s1.heap.IsTuple a ia.toArray from pa)
      exact Heap.lt_size ho
    refine en_call (show s1.heap.IsTuple a ia.toArray from pa) fun h' he hit hk => wpAny_pyIter_enum he ?_
    refine ⟨s1.heap.objs.size + 1, [s1.heap.objs.size + 1, s1.heap.objs.size], _, _, H1, rfl, I1.kept (t' := s1.toks) hk, turn_enT a (s1.heap.objs.size + 1) s1.heap.objs.size, ⟨⟨.none, he⟩, hit, Nat.succ_ne_self _, Nat.ne_of_lt (Nat.lt_succ_of_lt alt), Nat.ne_of_lt alt⟩, fun b hb => ?_, q⟩
    have up : s1.heap.objs.size ≤ b := by
      have e' : b = s1.heap.objs.size + 1 ∨ b = s1.heap.objs.size := by simpa using hb
      rcases e' with z | z <;> rw [z] <;> first | exact Nat.le_add_right _ _ | exact Nat.le_refl _
    exact I1.fpOk up (I1.hok.fresh up)
theorem for_enT {K : PySem.W.Frag} {a : Addr} {xs : List V} {g : TG} {tb : TS} {D : Ends} {σ : L2.St} {H : Hp} (Pv : Nat → L2.St → Hp → Prop) (h0 : Pv 0 σ H) (hq : ∀ i σ H, Pv i σ H → SqT K H a xs)
    (hs : ∀ (i : Nat) (x : V) (T : Addr) (σ : L2.St) (H : Hp), xs[i]? = some x → Pv i σ H → H T = none → g (.ref T) σ (upd H T (.tup [.int (i : Nat), x])) fun σ2 H2 => tb { D with nx := Pv (i + 1), ct := Pv (i + 1), bk := D.nx } σ2 H2) (hd : ∀ σ H, Pv xs.length σ H → D.nx σ H) :
    ∃ W : Nat → Nat → L2.St → Hp → Prop, (∃ m, W 0 m σ H) ∧ ∀ i m σ H, W i m σ H →
      ((IteT K a).stop i H ∧ D.nx σ H) ∨ ((IteT K a).go i H ∧ ∃ N : L2.St → Hp → Prop, (∀ σ' H', N σ' H' → ∃ m', m' < m ∧ W (i + 1) m' σ' H') ∧ ∀ v H', (IteT K a).yld i H v H' → g v σ H' fun σ2 H2 => tb { D with nx := N, ct := N, bk := D.nx } σ2 H2) := by
  refine ⟨fun i m σ H => m + i = xs.length ∧ Pv i σ H, ⟨xs.length, rfl, h0⟩, fun i m σ H ⟨hm, p⟩ => ?_⟩
  have qx := hq i σ H p
  cases m with
  | zero =>
    have e : i = xs.length := by omega
    exact .inl ⟨⟨xs, qx, Nat.le_of_eq e.symm⟩, hd σ H (by rw [← e]; exact p)⟩
  | succ m =>
    have l1 : i < xs.length := by omega
    exact .inr ⟨⟨xs, _, qx, List.getElem?_eq_getElem l1⟩, Pv (i + 1), fun σ' H' p' => ⟨m, Nat.lt_succ_self m, by omega, p'⟩, fun v H' ⟨T, x, ev, hT, eh, f1⟩ => by
      subst ev eh
      exact hs i x T σ H (f1 xs qx) p hT⟩
end K1

namespace Own
open PySem PySem.Spec PyProof.Rows L2
/-! a dict comprehension with two fors and no tests: {k: v for t0 in i0 for t1 in i1} -/
abbrev DC2 (kx vx t0 i0 t1 i1 : Expr) (scope : Scope) (pos : Pos) : Expr := .DictComp kx vx [⟨t0, i0, [], 0⟩, ⟨t1, i1, [], 0⟩] scope pos
theorem dc2_turn0 (kx vx t0 i0 t1 i1 : Expr) (scope : Scope) (pos : Pos) (it acc : Value) (env : Env) :
    compTurn (DC2 kx vx t0 i0 t1 i1 scope pos) 0 it acc env = (do
      standAt i0.pos
      match ← pyNext it with
      | none => pure (.done .next)
      | some v =>
        letOwnedTupleGo t0 it v
        assign t0 env v
        let x ← eval i1 env
        standAt i1.pos
        let x ← foldedSetIterable i1 env x
        let _ ← runOwn (.compStart (DC2 kx vx t0 i0 t1 i1 scope pos) 1 (← holding [x] (pyIter x)) acc env) env
        again (.compLoop (DC2 kx vx t0 i0 t1 i1 scope pos) 0 it acc env)) := by rfl
theorem dc2_turn1 (kx vx t0 i0 t1 i1 : Expr) (scope : Scope) (pos : Pos) (it : Value) (D : Addr) (env : Env) :
    compTurn (DC2 kx vx t0 i0 t1 i1 scope pos) 1 it (.ref D) env = (do
      standAt i1.pos
      match ← pyNext it with
      | none => pure (.done .next)
      | some v =>
        letOwnedTupleGo t1 it v
        assign t1 env v
        (do
          let kv ← eval kx env
          let vv ← holding [kv] (eval vx env)
          standAt { kx.pos with endLine := vx.pos.endLine, endCol := vx.pos.endCol }
          holding [kv, vv] (dictSet D kv vv))
        again (.compLoop (DC2 kx vx t0 i0 t1 i1 scope pos) 1 it (.ref D) env)) := by rfl
section
variable {prog : Program} {w : World} {A : Around} {R : Result → Shared → Prop} {s : Shared} {kx vx t0 i0 t1 i1 : Expr} {scope : Scope} {pos : Pos} {it acc : Value} {D : Addr} {env : Env}
theorem dc2_loop0 (hs : ∀ x, foldedSetIterable i1 env x = pure x) (I : Nat → Shared → Prop)
    (turn : ∀ n s, I n s → wpAny (model prog w) A (pyNext it) (fun r s1 => match r with
      | none => R (.ok .next) s1
      | some v => wpAny (model prog w) A (letOwnedTupleGo t0 it v) (fun _ s2 => wpAny (model prog w) A (assign t0 env v) (fun _ s3 =>
          wpAny (model prog w) A (eval i1 env) (fun x s4 => wpAny (model prog w) A (pyIter x) (fun it1 s5 =>
              codeAny (model prog w) A (.compStart (DC2 kx vx t0 i0 t1 i1 scope pos) 1 it1 acc env) (fun r s' => match r with
                | .ok _ => ∃ m, m < n ∧ I m s'
                | .error _ => False) s5) (notedBy (model prog w) A env fun e s' => R (.error e) s') s4) (notedBy (model prog w) A env fun e s' => R (.error e) s') s3)
          (notedBy (model prog w) A env fun e s' => R (.error e) s') s2) (notedBy (model prog w) A env fun e s' => R (.error e) s') s1) (notedBy (model prog w) A env fun e s' => R (.error e) s') s)
    (n : Nat) (h : I n s) : codeAny (model prog w) A (.compLoop (DC2 kx vx t0 i0 t1 i1 scope pos) 0 it acc env) R s := by
  refine codeAny_loop rfl I (fun n s hI => ?_) n h
  show wpAny _ A ((compTurn (DC2 kx vx t0 i0 t1 i1 scope pos) 0 it acc env).onRaise (fun x => do noteFrame x env; theTreesLotGoes x)) _ _ s
  refine wpAny_noted ?_
  rw [dc2_turn0]
  refine wpAny_bind (wpAny_standAt (wpAny_bind (wpAny_mono (turn n s hI) (fun r s1 h1 => ?_) fun _ _ x => x)))
  cases r with
  | none => exact wpAny_pure h1
  | some v =>
    refine wpAny_bind (wpAny_mono h1 (fun _ s2 h2 => ?_) fun _ _ x => x)
    refine wpAny_bind (wpAny_mono h2 (fun _ s3 h3 => ?_) fun _ _ x => x)
    refine wpAny_bind (wpAny_mono h3 (fun x s4 h4 => ?_) fun _ _ x => x)
    refine wpAny_bind (wpAny_standAt (wpAny_bind (wpAny_of_eq (hs x) (wpAny_bind (wpAny_holding (wpAny_mono h4 (fun it1 s5 h5 => ?_) fun _ _ x => x))))))
    refine wpAny_bind (wpAny_runOwn ?_)
    rw [Around.mark_none]
    refine codeAny_mono h5 fun r s' hr => ?_
    cases r with
    | ok f =>
      first
        | exact wpAny_pure ⟨rfl, hr⟩
        | exact wpAny_bind (wpAny_pure (wpAny_pure ⟨rfl, hr⟩))
    | error e => exact hr.elim
theorem dc2_loop1 (I : Nat → Shared → Prop)
    (turn : ∀ n s, I n s → wpAny (model prog w) A (pyNext it) (fun r s1 => match r with
      | none => R (.ok .next) s1
      | some v => wpAny (model prog w) A (letOwnedTupleGo t1 it v) (fun _ s2 => wpAny (model prog w) A (assign t1 env v) (fun _ s3 =>
          wpAny (model prog w) A (eval kx env) (fun kv s4 => wpAny (model prog w) A (eval vx env) (fun vv s5 =>
            wpAny (model prog w) A (dictSet D kv vv) (fun _ s6 => ∃ m, m < n ∧ I m s6) (notedBy (model prog w) A env fun e s' => R (.error e) s') s5) (notedBy (model prog w) A env fun e s' => R (.error e) s') s4)
          (notedBy (model prog w) A env fun e s' => R (.error e) s') s3)
          (notedBy (model prog w) A env fun e s' => R (.error e) s') s2) (notedBy (model prog w) A env fun e s' => R (.error e) s') s1) (notedBy (model prog w) A env fun e s' => R (.error e) s') s)
    (n : Nat) (h : I n s) : codeAny (model prog w) A (.compLoop (DC2 kx vx t0 i0 t1 i1 scope pos) 1 it (.ref D) env) R s := by
  refine codeAny_loop rfl I (fun n s hI => ?_) n h
  show wpAny _ A ((compTurn (DC2 kx vx t0 i0 t1 i1 scope pos) 1 it (.ref D) env).onRaise (fun x => do noteFrame x env; theTreesLotGoes x)) _ _ s
  refine wpAny_noted ?_
  rw [dc2_turn1]
  refine wpAny_bind (wpAny_standAt (wpAny_bind (wpAny_mono (turn n s hI) (fun r s1 h1 => ?_) fun _ _ x => x)))
  cases r with
  | none => exact wpAny_pure h1
  | some v =>
    refine wpAny_bind (wpAny_mono h1 (fun _ s2 h2 => ?_) fun _ _ x => x)
    refine wpAny_bind (wpAny_mono h2 (fun _ s3 h3 => ?_) fun _ _ x => x)
    exact wpAny_bind (wpAny_bind (wpAny_mono h3 (fun kv s4 h4 => wpAny_bind (wpAny_holding (wpAny_mono h4 (fun vv s5 h5 => wpAny_bind (wpAny_standAt (wpAny_holding (wpAny_mono h5 (fun _ s6 h6 => wpAny_pure ⟨rfl, h6⟩) fun _ _ x => x)))) fun _ _ x => x))) fun _ _ x => x))
theorem dc2_start1 (h0 : codeAny (model prog w) A (.compLoop (DC2 kx vx t0 i0 t1 i1 scope pos) 1 it acc env) R s)
    (h : wpAny (model prog w) A (pyIter it) (fun it' s' => codeAny (model prog w) A (.compLoop (DC2 kx vx t0 i0 t1 i1 scope pos) 1 it' acc env) R s') (notedBy (model prog w) A env fun x s' => R (.error x) s') s) :
    codeAny (model prog w) A (.compStart (DC2 kx vx t0 i0 t1 i1 scope pos) 1 it acc env) R s := by
  refine codeAny_of_tree ?_
  show wpAny _ _ ((compStart (DC2 kx vx t0 i0 t1 i1 scope pos) 1 it acc env).onRaise (fun x => do noteFrame x env; standAt theWindowsPlace)) _ _ s
  refine wpAny_notedAt ?_
  unfold compStart
  show wpAny _ _ (ask >>= _) _ _ s
  refine wpAny_bind (wpAny_askSetting (wpAny_ite ?_))
  split
  · first
      | exact wpAny_bind (wpAny_pure (wpAny_pure (And.intro rfl h0)))
      | exact wpAny_pure (And.intro rfl h0)
  · first
      | exact wpAny_bind (wpAny_rule (wpAny_bind (wpAny_standAt (wpAny_bind (wpAny_mono h (fun it' s' h' => wpAny_pure (And.intro rfl h')) fun _ _ x => x)))))
      | (refine wpAny_bind (wpAny_rule ?_); show wpAny _ _ (standAt i1.pos >>= _) _ _ s; exact wpAny_bind (wpAny_standAt (wpAny_bind (wpAny_mono h (fun it' s' h' => wpAny_pure (And.intro rfl h')) fun _ _ x => x))))
end
end Own

namespace Own
open PySem PySem.Spec PyProof.Rows L2
section
variable {X : Cx}
/-- {k: v for t0 in i0 for t1 in i1}: D the new dict; vs: the block's names; vs1: those of the second target -/
@[irreducible] def tDc2 (wi : TI) (g : TG) (wi1 : TI) (g1 : TG) (tk tv : TE) (vs vs1 : List Nat) : TE := fun σ H Q => wi σ H fun J H1 => ∀ D, H1 D = none → ∃ W : Nat → Nat → Hp → Prop, (∃ m, W 0 m (upd H1 D (.dK []))) ∧ ∀ i m H, W i m H →
  (J.stop i H ∧ Q (.ref D) H) ∨ (J.go i H ∧ ∃ Nx : Hp → Prop, (∀ H', Nx H' → ∃ m', m' < m ∧ W (i + 1) m' H') ∧ ∀ x H', J.yld i H x H' → g x (wipe σ vs) H' fun σ2 H2 => wipe σ2 vs = wipe σ vs ∧
    wi1 σ2 H2 fun J1 H4 => ∃ W1 : Nat → Nat → Hp → Prop, (∃ m, W1 0 m H4) ∧ ∀ j k H, W1 j k H →
      (J1.stop j H ∧ Nx H) ∨ (J1.go j H ∧ ∃ Nx1 : Hp → Prop, (∀ H', Nx1 H' → ∃ k', k' < k ∧ W1 (j + 1) k' H') ∧ ∀ x H', J1.yld j H x H' → g1 x (wipe σ2 vs1) H' fun σ3 H5 => wipe σ3 vs1 = wipe σ2 vs1 ∧
        tk σ3 H5 fun y H6 => tv σ3 H6 fun z H7 => ∃ kvs k, y = kV k ∧ H7 D = some (.dK kvs) ∧ kvs.length < sizeLine ∧ Nx1 (upd H7 D (.dK (putK kvs k z)))))
theorem dc2_core {pins : List (Addr × Obj)} {s : Shared} {σ : L2.St} {H : Hp} {Q : VK} {kx vx tg iter tg1 iter1 : Expr} {scope : Scope} {own : List (Str × Nat)} {vs1 : List Nat} {pos pos' : Pos} {wi wi1 : TI} {g g1 : TG} {tk tv : TE} {use : Option (Value → Sem Unit)} {Qf : Value → Shared → Prop}
    (hc : X.calm = true) (hN : X.N.Nodup) (I : Inv X pins σ H s) (hi : PI X tg iter wi) (ok : BlkOk X.N X.env.scope scope own) (hv : ∀ i ∈ vs1, i ∈ own.map (·.2))
    (hg : ∀ (s : Shared) (H : Hp) (C : Addr) (cl : List (Str × Addr)) (fp : List Addr), PG (X.blk s H scope (compEnvC scope cl C X.env) fp) tg g)
    (hk : ∀ (s : Shared) (H : Hp) (C : Addr) (cl : List (Str × Addr)) (fp : List Addr), PE (X.blk s H scope (compEnvC scope cl C X.env) fp) kx tk)
    (he : ∀ (s : Shared) (H : Hp) (C : Addr) (cl : List (Str × Addr)) (fp : List Addr), PE (X.blk s H scope (compEnvC scope cl C X.env) fp) vx tv) (hs : ∀ x, foldedSetIterable iter X.env x = pure x)
    (hi1 : ∀ (s : Shared) (H : Hp) (C : Addr) (cl : List (Str × Addr)) (fp : List Addr), PI (X.blk s H scope (compEnvC scope cl C X.env) fp) tg1 iter1 wi1)
    (hg1 : ∀ (s : Shared) (H : Hp) (C : Addr) (cl : List (Str × Addr)) (fp : List Addr), PG (X.blk s H scope (compEnvC scope cl C X.env) fp) tg1 g1)
    (hs1 : ∀ env x, foldedSetIterable iter1 env x = pure x) (h : tDc2 wi g wi1 g1 tk tv (own.map (·.2)) vs1 σ H Q)
    (hRR : ∀ D C s' m H', Inv X pins σ H' s' → Q (.ref D) H' → s'.heap.Ns C m → FpOk X pins H' C → compPost (model X.prog X.w) X.A X.xe use Qf (.ref D) C (.ok .next) s') :
    wpAny (model X.prog X.w) X.A (comprehension (DC2 kx vx tg iter tg1 iter1 scope pos) scope X.env pos' newDict false (eval iter X.env) use) Qf X.xe s := by
  unfold tDc2 at h
  refine wpAny_comprehension_free (use := use) rfl hs (closure_ok fun y hy e => (ok.free y hy e).elim (fun k => I.ok.has _ (.inl k)) fun k => I.ok.has _ (.inr k)) ok.kind (fun y hy e => by rw [ok.uniq y hy, e])
    (thn (hi.run pins s σ H _ I h) fun xv s1 hx => thn hx fun itv s2 ⟨it, fp, tn, J, H2, e, I2, T, st2, f2, q⟩ => ?_)
  subst e
  refine wpAny_newObj_type (newEnv_comp ?_)
  generalize hD : s2.heap.objs.size = D
  obtain ⟨W, ⟨m0, w0⟩, turn⟩ := q D (I2.hok.fresh (Nat.le_of_eq hD))
  generalize hs3 : ({ s2 with heap := s2.heap.push { cls := .type "dict", data := .dict #[] } } : Shared) = s3
  have h3 : s3.heap = s2.heap.push { cls := .type "dict", data := .dict #[] } := by rw [← hs3]
  have I3 : Inv X pins σ (upd H2 D (.dK [])) s3 := by
    rw [← hs3]
    refine I2.laid (t' := s2.toks) (fun b o e => Heap.get?_push_of_some _ e) (Nat.le_of_eq hD) ?_
    rw [← hD]
    exact dk_empty s2.heap I2.big
  have f3 : ∀ b ∈ fp, FpOk X pins (upd H2 D (.dK [])) b ∧ b < s3.heap.objs.size := fun b hb => by
    obtain ⟨o, e, _⟩ := T.obj _ _ st2 b hb
    have hlt := Heap.lt_size e
    have hne : b ≠ D := by rw [← hD]; exact Nat.ne_of_lt hlt
    refine ⟨⟨?_, (f2 b hb).2⟩, by rw [h3, Heap.size_push]; exact Nat.lt_succ_of_lt hlt⟩
    rw [upd_ne hne]
    exact (f2 b hb).1
  have st3 : tn 0 s3.heap := T.keep _ _ _ st2 fun b _ o e => by rw [h3]; exact Heap.get?_push_of_some _ e
  have I4 := block_start I3 ok hN f3
  generalize hcl : cellsFrom (s3.heap.objs.size + 1) scope.names (cloFrom X.env.cells scope.names []) = cl at I4
  have pg := hg s3 (upd H2 D (.dK [])) s3.heap.objs.size cl fp
  have pk := hk s3 (upd H2 D (.dK [])) s3.heap.objs.size cl fp
  have pe := he s3 (upd H2 D (.dK [])) s3.heap.objs.size cl fp
  have pi1 := hi1 s3 (upd H2 D (.dK [])) s3.heap.objs.size cl fp
  have pg1 := hg1 s3 (upd H2 D (.dK [])) s3.heap.objs.size cl fp
  show codeAny _ _ (.compStart (DC2 kx vx tg iter tg1 iter1 scope pos) 0 (.ref it) (.ref D) (compEnvC scope cl s3.heap.objs.size X.env)) (compPost (model X.prog X.w) X.A X.xe use Qf (.ref D) s3.heap.objs.size) { s3 with heap := pushCells (s3.heap.push { cls := .type "dict", data := .dict #[] }) scope.names }
  have nfp : ∀ b ∈ fp, (upd H2 D (.dK [])) b = none := fun b hb => (f3 b hb).1.1
  generalize hce : compEnvC scope cl s3.heap.objs.size X.env = ce at I4 pg pk pe pi1 pg1 ⊢
  have cL : ce.locals = s3.heap.objs.size := by subst hce; rfl
  generalize hH3 : upd H2 D (.dK []) = H3 at I3 I4 pg pk pe pi1 pg1 w0 nfp f3
  generalize hs4 : ({ s3 with heap := pushCells (s3.heap.push { cls := .type "dict", data := .dict #[] }) scope.names } : Shared) = s4 at I4 ⊢
  have st4 : tn 0 s4.heap := T.keep _ _ _ st3 fun b _ o e => by rw [← hs4]; exact pushCells_keeps _ _ _ _ (Heap.get?_push_of_some _ e)
  have stat : ∀ {σ' : L2.St} {H' : Hp} {s' : Shared}, Inv (X.blk s3 H3 scope ce fp) [] σ' H' s' → (∀ b ∈ fp, H' b = none) → ∀ b ∈ fp, FpOk (X.blk s3 H3 scope ce fp) [] H' b := fun {σ' H' s'} I' hn b hb =>
    ⟨hn b hb, (I'.ok.exf b hb).1, I'.ok.exfs b hb, .inl hb, fun x c e => (I'.ok.exf b hb).2 x c e, fun p hp => absurd (show p ∈ ([] : List (Addr × Obj)) ++ [] from hp) (by simp)⟩
  -- what a turn of the outer loop leaves
  let B : Nat → Shared → Prop := fun n s' => ∃ i H', Inv (X.blk s3 H3 scope ce fp) [] (wipe σ (own.map (·.2))) H' s' ∧ tn i s'.heap ∧ (∀ b ∈ fp, H' b = none) ∧ W i n H'
  have loop : codeAny (model X.prog X.w) X.A (.compLoop (DC2 kx vx tg iter tg1 iter1 scope pos) 0 (.ref it) (.ref D) ce) (compPost (model X.prog X.w) X.A X.xe use Qf (.ref D) s3.heap.objs.size) s4 := by
    refine dc2_loop0 (hs1 ce) B ?_ m0 ⟨0, H3, I4, st4, nfp, w0⟩
    rintro n s5 ⟨i, H5, I5, st5, n5, w5⟩
    rcases turn i n H5 w5 with ⟨stop, qq⟩ | ⟨go, Nx, hNx, step⟩
    · refine thnF (T.done (X.blk s3 H3 scope ce fp) rfl rfl rfl hc i [] s5 _ H5 (fun _ _ => False) I5 (stat I5 n5) st5 stop) fun r s6 ⟨hr, I6⟩ => ?_
      subst hr
      have I7 : Inv X pins σ H5 s6 := I3.call' (ch := fp) I6.os I6.base I6.hok I6.bare fun b hb => ⟨(f3 b hb).1.2.2.2.1, (f3 b hb).1.2.1, (f3 b hb).1.2.2.2.2.1, (f3 b hb).1.2.2.2.2.2⟩
      have nC : H5 s3.heap.objs.size = none := cL ▸ I6.free
      obtain ⟨m, hn, _⟩ := I6.loc
      exact hRR D s3.heap.objs.size s6 m H5 I7 qq (cL ▸ (show s6.heap.Ns ce.locals m from hn)) (I3.fpOk (Nat.le_refl _) nC)
    · refine thnF (T.item (X.blk s3 H3 scope ce fp) rfl rfl rfl hc i [] s5 _ H5 (fun _ _ => False) I5 (stat I5 n5) st5 go) fun r s6 ⟨u, hr, h6⟩ => ?_
      subst hr
      refine thnF h6 fun _ s7 ⟨x, H7, I7, r7, y7, st7, n7⟩ => ?_
      refine thnF (pg.run _ s7 _ H7 x u _ (I7.pinned (stat I7 n7) (T.obj _ _ st7)) r7 (step x H7 y7)) fun _ s8 ⟨σ8, H8, I8, hw8, q8⟩ => ?_
      have fin : ∀ {σ9 : L2.St} {s' : Shared} {H' : Hp}, Inv (X.blk s3 H3 scope ce fp) ([] ++ pinsAt fp s7.heap) σ9 H' s' → (wipe σ (own.map (·.2))).length = σ9.length → (∀ (j : Nat) v, (wipe σ (own.map (·.2)))[j]? = some (some v) → σ9[j]? = some (some v)) → Nx H' → ∃ m, m < n ∧ B m s' := fun {σ9 s' H'} I' hl hk nx => by
        obtain ⟨m', hm, w'⟩ := hNx H' nx
        have pin' : ∀ b ∈ fp, ∀ o, s7.heap.get? b = some o → s'.heap.get? b = some o ∧ H' b = none := fun b hb o e =>
          let z := I'.pin (b, o) (List.mem_append_right _ (List.mem_append_right _ (mem_pinsAt hb e)))
          ⟨z.1, z.2.1⟩
        refine ⟨m', hm, i + 1, H', (I'.unpinned (pins := [])).weak hl hk, T.keep _ _ _ st7 fun b hb o e => (pin' b hb o e).1, fun b hb => ?_, w'⟩
        obtain ⟨o, e, _⟩ := T.obj _ _ st7 b hb
        exact (pin' b hb o e).2
      have hl8 : (wipe σ (own.map (·.2))).length = (wipe σ8 vs1).length := by rw [← hw8, wipe_length, wipe_length]
      have hk9 : ∀ (j : Nat) v, (wipe σ (own.map (·.2)))[j]? = some (some v) → (wipe σ8 vs1)[j]? = some (some v) := fun j v e => by
        rw [← hw8] at e
        obtain ⟨e1, e2⟩ := wipe_some e
        rw [wipe_out fun z => e2 (hv j z)]
        exact e1
      refine thnF (pi1.run _ s8 σ8 H8 _ I8 q8) fun xv s10 hx => thnF hx fun itv s11 ⟨it1, fp1, tn1, J1, H11, e1, I11, T1, st11, f11, W1, ⟨m1, w1⟩, turn1⟩ => ?_
      subst e1
      have stat1 : ∀ {H' : Hp}, (∀ b ∈ fp1, H' b = none) → ∀ b ∈ fp1, FpOk (X.blk s3 H3 scope ce fp) ([] ++ pinsAt fp s7.heap) H' b := fun hn b hb => ⟨hn b hb, (f11 b hb).2⟩
      have loop1 : codeAny (model X.prog X.w) X.A (.compLoop (DC2 kx vx tg iter tg1 iter1 scope pos) 1 (.ref it1) (.ref D) ce) (fun r s' => match r with
            | .ok _ => ∃ m, m < n ∧ B m s'
            | .error _ => False) s11 := by
        refine dc2_loop1 (fun k s' => ∃ j H', Inv (X.blk s3 H3 scope ce fp) ([] ++ pinsAt fp s7.heap) (wipe σ8 vs1) H' s' ∧ tn1 j s'.heap ∧ (∀ b ∈ fp1, H' b = none) ∧ W1 j k H') ?_ m1 ⟨0, H11, I11.weak (wipe_length _ _) (fun j v e => (wipe_some e).1), st11, fun b hb => (f11 b hb).1, w1⟩
        rintro k s12 ⟨j, H12, I12, st12, n12, w12⟩
        rcases turn1 j k H12 w12 with ⟨stop1, nx1⟩ | ⟨go1, Nx1, hNx1, step1⟩
        · refine thnF (T1.done (X.blk s3 H3 scope ce fp) rfl rfl rfl hc j _ s12 (wipe σ8 vs1) H12 (fun _ _ => False) I12 (stat1 n12) st12 stop1) fun r s13 ⟨hr, I13⟩ => ?_
          subst hr
          exact fin I13 hl8 hk9 nx1
        · refine thnF (T1.item (X.blk s3 H3 scope ce fp) rfl rfl rfl hc j _ s12 (wipe σ8 vs1) H12 (fun _ _ => False) I12 (stat1 n12) st12 go1) fun r s13 ⟨u1, hr, h13⟩ => ?_
          subst hr
          refine thnF h13 fun _ s14 ⟨x1, H14, I14, r14, y14, st14, n14⟩ => ?_
          refine thnF (pg1.run _ s14 (wipe σ8 vs1) H14 x1 u1 _ (I14.pinned (stat1 n14) (T1.obj _ _ st14)) r14 (step1 x1 H14 y14)) fun _ s15 ⟨σ15, H15, I15, hw15, q15⟩ => ?_
          refine thnF (pk.run _ s15 σ15 H15 _ I15 q15) fun z1 s16 ⟨yk, H16, I16, r16, q16⟩ => ?_
          refine thnF (pe.run _ s16 σ15 H16 _ I16 q16) fun z2 s17 ⟨yv, H17, I17, r17, kvs, ky, ek, hD17, hz17, nx⟩ => ?_
          subst ek
          refine d_dictSet (X := X.blk s3 H3 scope ce fp) I17 hD17 hz17 r16 r17 fun s18 I18 => ?_
          obtain ⟨m', hm, w'⟩ := hNx1 _ nx
          have pin' : ∀ b ∈ fp1, ∀ o, s14.heap.get? b = some o → s18.heap.get? b = some o ∧ _ = none := fun b hb o e =>
            let z := I18.pin (b, o) (List.mem_append_right _ (List.mem_append_right _ (mem_pinsAt hb e)))
            ⟨z.1, z.2.1⟩
          refine ⟨m', hm, j + 1, _, I18.unpinned.weak (by rw [← hw15, wipe_length]) (fun j v e => by rw [← hw15] at e; exact (wipe_some e).1), T1.keep _ _ _ st14 fun b hb o e => (pin' b hb o e).1, fun b hb => ?_, w'⟩
          obtain ⟨o, e, _⟩ := T1.obj _ _ st14 b hb
          exact (pin' b hb o e).2
      exact dc2_start1 loop1 (T1.self X.A 0 _ _ _ st11 loop1)
  exact codeAny_compStart_dict loop (T.self X.A 0 _ _ _ st4 loop)
theorem pe_dc2 {kx vx tg iter tg1 iter1 : Expr} {scope : Scope} {own : List (Str × Nat)} {vs1 : List Nat} {pos : Pos} {wi wi1 : TI} {g g1 : TG} {tk tv : TE} (hc : X.calm = true) (hN : X.N.Nodup) (hi : PI X tg iter wi) (ok : BlkOk X.N X.env.scope scope own) (hv : ∀ i ∈ vs1, i ∈ own.map (·.2))
    (hg : ∀ (s : Shared) (H : Hp) (C : Addr) (cl : List (Str × Addr)) (fp : List Addr), PG (X.blk s H scope (compEnvC scope cl C X.env) fp) tg g)
    (hi1 : ∀ (s : Shared) (H : Hp) (C : Addr) (cl : List (Str × Addr)) (fp : List Addr), PI (X.blk s H scope (compEnvC scope cl C X.env) fp) tg1 iter1 wi1)
    (hg1 : ∀ (s : Shared) (H : Hp) (C : Addr) (cl : List (Str × Addr)) (fp : List Addr), PG (X.blk s H scope (compEnvC scope cl C X.env) fp) tg1 g1)
    (hk : ∀ (s : Shared) (H : Hp) (C : Addr) (cl : List (Str × Addr)) (fp : List Addr), PE (X.blk s H scope (compEnvC scope cl C X.env) fp) kx tk)
    (he : ∀ (s : Shared) (H : Hp) (C : Addr) (cl : List (Str × Addr)) (fp : List Addr), PE (X.blk s H scope (compEnvC scope cl C X.env) fp) vx tv)
    (hs : ∀ x, foldedSetIterable iter X.env x = pure x := by intro _; rfl) (hs1 : ∀ env x, foldedSetIterable iter1 env x = pure x := by intro _ _; rfl) :
    PE X (DC2 kx vx tg iter tg1 iter1 scope pos) (tDc2 wi g wi1 g1 tk tv (own.map (·.2)) vs1) := by
  refine ⟨fun pins s σ H Q I h => ?_⟩
  rw [arm_eval_DictComp]
  refine dc2_core hc hN I hi ok hv hg hk he hs hi1 hg1 hs1 h fun D C s' m H' I' q hn ⟨f0, f1, f2, f3, f4, f5⟩ => ⟨m, hn, fun h'' sb => ?_⟩
  exact ⟨.ref D, H', I'.turned (t' := s'.toks) (fun b o hb e => (sb.2 b hb).trans e) f0 f1 f3 f4 f5, rfl, q⟩
end
end Own

namespace Own
open PySem PySem.Spec PyProof.Rows L2
/-- not in: what is asked is a list, a tuple or a dict -/
def rNotInW (K : PySem.W.Frag) : R2 := fun x y H Q => rIn K true x y H Q ∨ ∃ a o, y = .ref a ∧ DGet H a x o ∧ Q (.bl (!o.isSome)) H
theorem op_notInW {X : Cx} (hu : X.A.units + 1 < cLine) : OpR X (compareOp .NotIn) (rNotInW X.K) := by
  intro pins s σ H x y v u Q I rx ry h
  rcases h with h | ⟨a, o, rfl, g, q⟩
  · exact op_notIn_seq pins s σ H x y v u Q I rx ry h
  · cases ry
    exact d_notIn hu I g rx fun s' I' => ⟨.bl _, H, I', rfl, q⟩
end Own

namespace Ev
open PySem PySem.Spec PyProof.Rows L2 Own
/-! ### data -/
mutual
def PV.dat : PV → Option PyData
  | .non => some .none
  | .bl b => some (.bool b)
  | .int i => some (.int i)
  | .str z => some (.str z)
  | .tup xs => (datAll xs).map .tuple
  | .tq xs => (datAll xs).map .tuple
  | .lst xs => (datAll xs).map .list
  | .sq xs => (datAll xs).map .list
  | .dic _ => none
  | .cell _ => none
  | .ob _ => none
def datAll : List PV → Option (List PyData)
  | [] => some []
  | p :: r => match p.dat, datAll r with
    | some d, some ds => some (d :: ds)
    | _, _ => none
end
mutual
def ofD : PyData → PV
  | .none => .non
  | .bool b => .bl b
  | .int i => .int i
  | .str z => .str z
  | .tuple ds => .tq (ofDs ds)
  | .list ds => .sq (ofDs ds)
  | .dict _ => .ob fun _ _ => True
def ofDs : List PyData → List PV
  | [] => []
  | d :: r => ofD d :: ofDs r
end
theorem ofDs_map : ∀ ds : List PyData, ofDs ds = ds.map ofD
  | [] => rfl
  | d :: r => by rw [ofDs, ofDs_map r, List.map_cons]
section
variable {K : PySem.W.Frag} {G : Hp}
mutual
theorem dp_of : ∀ {p : PV} {d : PyData} {v : V}, p.dat = some d → Rp K G v p → Dp K G v d
  | .non, d, v, e, r => by
    cases e
    rw [show v = .non from r]
    exact .non
  | .bl b, d, v, e, r => by
    cases e
    rw [show v = .bl b from r]
    exact .bl b
  | .int i, d, v, e, r => by
    cases e
    rw [show v = .int i from r]
    exact .int i
  | .str z, d, v, e, r => by
    cases e
    rw [show v = .str z from r]
    exact .str z
  | .tup xs, d, v, e, ⟨a, us, ev, hs, ra⟩ => by
    rw [PV.dat] at e
    obtain ⟨ds, e1, e2⟩ := Option.map_eq_some_iff.mp e
    rw [← e2, ev]
    exact .tup (SqT.of hs) (dpAll_of e1 ra)
  | .tq xs, d, v, e, ⟨a, us, ev, hs, ra⟩ => by
    rw [PV.dat] at e
    obtain ⟨ds, e1, e2⟩ := Option.map_eq_some_iff.mp e
    rw [← e2, ev]
    exact .tup hs (dpAll_of e1 ra)
  | .lst xs, d, v, e, ⟨a, us, ev, hs, ra⟩ => by
    rw [PV.dat] at e
    obtain ⟨ds, e1, e2⟩ := Option.map_eq_some_iff.mp e
    rw [← e2, ev]
    exact .lst (SqL.of hs) (dpAll_of e1 ra)
  | .sq xs, d, v, e, ⟨a, us, ev, hs, ra⟩ => by
    rw [PV.dat] at e
    obtain ⟨ds, e1, e2⟩ := Option.map_eq_some_iff.mp e
    rw [← e2, ev]
    exact .lst hs (dpAll_of e1 ra)
  | .dic _, _, _, e, _ => nomatch e
  | .cell _, _, _, e, _ => nomatch e
  | .ob _, _, _, e, _ => nomatch e
theorem dpAll_of : ∀ {ps : List PV} {ds : List PyData} {us : List V}, datAll ps = some ds → RpAll K G us ps → DpAll K G us ds
  | [], ds, us, e, r => by
    cases e
    rw [show us = [] from r]
    exact .nil
  | p :: r, ds, us, e, ⟨v, ws, eu, rv, ra⟩ => by
    rw [datAll] at e
    cases e1 : p.dat with
    | none =>
      rw [e1] at e
      cases e
    | some d =>
      cases e2 : datAll r with
      | none =>
        rw [e1, e2] at e
        cases e
      | some es =>
        rw [e1, e2] at e
        cases e
        rw [eu]
        exact .cons (dp_of e1 rv) (dpAll_of e2 ra)
end
mutual
theorem rp_of : ∀ {v : V} {d : PyData}, Dp K G v d → Rp K G v (ofD d)
  | _, _, .non => rfl
  | _, _, .bl b => rfl
  | _, _, .int i => rfl
  | _, _, .str z => rfl
  | _, _, .lst h a => ⟨_, _, rfl, h, rpAll_of a⟩
  | _, _, .tup h a => ⟨_, _, rfl, h, rpAll_of a⟩
theorem rpAll_of : ∀ {vs : List V} {ds : List PyData}, DpAll K G vs ds → RpAll K G vs (ofDs ds)
  | _, _, .nil => rfl
  | _, _, .cons h a => ⟨_, _, rfl, rp_of h, rpAll_of a⟩
end
end
/-! no dict within -/
mutual
def noDic : PyData → Bool
  | .dict _ => false
  | .list ds => noDics ds
  | .tuple ds => noDics ds
  | _ => true
def noDics : List PyData → Bool
  | [] => true
  | d :: r => noDic d && noDics r
end
mutual
theorem dat_ofD : ∀ {d : PyData}, noDic d = true → (ofD d).dat = some d
  | .none, _ => rfl
  | .bool _, _ => rfl
  | .int _, _ => rfl
  | .str _, _ => rfl
  | .list ds, h => by
    show (datAll (ofDs ds)).map PyData.list = _
    rw [dat_ofDs h]
    rfl
  | .tuple ds, h => by
    show (datAll (ofDs ds)).map PyData.tuple = _
    rw [dat_ofDs h]
    rfl
  | .dict _, h => nomatch h
theorem dat_ofDs : ∀ {ds : List PyData}, noDics ds = true → datAll (ofDs ds) = some ds
  | [], _ => rfl
  | d :: r, h => by
    obtain ⟨h1, h2⟩ := Bool.and_eq_true_iff.mp (show (noDic d && noDics r) = true from h)
    rw [ofDs, datAll, dat_ofD h1, dat_ofDs h2]
end
/-- a list that is read: frozen or a cell -/
def seqL (st : Sto) (p : PV) : Option (List PV) := match p with
  | .lst xs => some xs
  | .sq xs => some xs
  | .cell a => match st a with
    | some (.lst xs) => some xs
    | _ => none
  | _ => none
/-- a list or a tuple -/
def seqA (st : Sto) (p : PV) : Option (List PV) := match p with
  | .tup xs => some xs
  | .tq xs => some xs
  | p => seqL st p
def datS (st : Sto) (p : PV) : Option PyData := match p with
  | .cell a => match st a with
    | some (.lst xs) => (datAll xs).map .list
    | _ => none
  | p => p.dat
section
variable {I : Hp → Prop} {K : PySem.W.Frag} {F : Addr → Prop} {st : Sto} {H : Hp} {p : PV} {v : V} {xs : List PV} {d : PyData}
theorem seqL_ok (w : Wd I K F st H) (r : Rp K (hd (Nn F st) H) v p) (e : seqL st p = some xs) : ∃ a us, v = .ref a ∧ SqL K H a us ∧ RpAll K (hd (Nn F st) H) us xs := by
  unfold seqL at e
  split at e
  · cases e
    obtain ⟨a, us, ev, hs, ra⟩ := r
    exact ⟨a, us, ev, SqL.of (hd_same _ _ hs), ra⟩
  · cases e
    obtain ⟨a, us, ev, hs, ra⟩ := r
    exact ⟨a, us, ev, lstS hd_same hs, ra⟩
  · rename_i a
    split at e
    · rename_i ys ea
      cases e
      obtain ⟨us, hs, ra⟩ := w.at_ _ _ ea
      exact ⟨a, us, r, SqL.of hs, ra⟩
    · cases e
  · cases e
theorem seqA_ok (w : Wd I K F st H) (r : Rp K (hd (Nn F st) H) v p) (e : seqA st p = some xs) : ∃ a us, v = .ref a ∧ (SqL K H a us ∨ SqT K H a us) ∧ RpAll K (hd (Nn F st) H) us xs := by
  unfold seqA at e
  split at e
  · cases e
    obtain ⟨a, us, ev, hs, ra⟩ := r
    exact ⟨a, us, ev, .inr (SqT.of (hd_same _ _ hs)), ra⟩
  · cases e
    obtain ⟨a, us, ev, hs, ra⟩ := r
    exact ⟨a, us, ev, .inr (tupS hd_same hs), ra⟩
  · obtain ⟨a, us, ev, hs, ra⟩ := seqL_ok w r e
    exact ⟨a, us, ev, .inl hs, ra⟩
theorem datS_ok (w : Wd I K F st H) (r : Rp K (hd (Nn F st) H) v p) (e : datS st p = some d) : Dp K H v d := by
  unfold datS at e
  split at e
  · rename_i a
    split at e
    · rename_i ys ea
      obtain ⟨ds, e1, e2⟩ := Option.map_eq_some_iff.mp e
      obtain ⟨us, hs, ra⟩ := w.at_ _ _ ea
      rw [← e2, show v = .ref a from r]
      exact .lst (SqL.of hs) (dpAll_same hd_same (dpAll_of e1 ra))
    · cases e
  · exact dp_same hd_same (dp_of e r)
end
/-! ### operations by values -/
abbrev GV2 := PV → PV → Sto → QV → Prop
def lV2 (I : Hp → Prop) (K : PySem.W.Frag) (g : GV2) : R2 := fun x y H Q => ∃ F st px py, Wd I K F st H ∧ Rp K (hd (Nn F st) H) x px ∧ Rp K (hd (Nn F st) H) y py ∧ g px py st (finE I K F st H Q)
structure OpV (I : Hp → Prop) (X : Cx) (f : Value → Value → Sem Value) (g : GV2) : Prop where
  mono : ∀ x y st Q Q', (∀ r s, Q r s → Q' r s) → g x y st Q → g x y st Q'
  op : OpR X f (lV2 I X.K g)
def gOp (o : GV2) (a b : GE) : GE := fun env st Q => a env st fun x s1 => b env s1 fun y s2 => o x y s2 Q
section
variable {I : Hp → Prop} {X : Cx} {pos : Pos} {a b : Expr} {ga gb : GE} {g : GV2}
theorem gOp_mono (hm : ∀ x y st Q Q', (∀ r s, Q r s → Q' r s) → g x y st Q → g x y st Q') (ha : Mono ga) (hb : Mono gb) : Mono (gOp g ga gb) := fun env st Q Q' k q => ha _ _ _ _ (fun _ _ z => hb _ _ _ _ (fun _ _ y => hm _ _ _ _ _ k y) z) q
theorem tOp_of {K : PySem.W.Frag} (ha : Mono ga) (hb : Mono gb) (hm : ∀ x y st Q Q', (∀ r s, Q r s → Q' r s) → g x y st Q → g x y st Q') {σ : L2.St} {H : Hp} {Q : VK} (q : lE I K (gOp g ga gb) σ H Q) : tOp (lV2 I K g) (lE I K ga) (lE I K gb) σ H Q := by
  obtain ⟨F, st, env, w, ev, q⟩ := q
  refine lE_of ha w ev q fun x s1 h1 v H1 l1 w1 r1 => ?_
  refine lE_of hb w1 (ev.le l1) h1 fun y s2 h2 u H2 l2 w2 r2 => ?_
  exact ⟨F, s2, x, y, w2, Rp.same l2.same r1, r2, hm _ _ _ _ _ (fun _ _ z => finE.le (l1.trans l2) z) h2⟩
theorem ee_op {op : Operator} (ho : OpV I X (binaryOp op) g) (ha : EE I X a ga) (hb : EE I X b gb) : EE I X (.BinOp a op b pos) (gOp g ga gb) := ⟨gOp_mono ho.mono ha.mono hb.mono, pe_imp (pe_op ho.op ha.pe hb.pe) fun _ _ _ q => tOp_of ha.mono hb.mono ho.mono q⟩
theorem ee_cmp {op : CmpOp} (ho : OpV I X (compareOp op) g) (ha : EE I X a ga) (hb : EE I X b gb) (hm : behindInMarks op b = false) : EE I X (.Compare a [op] [b] pos) (gOp g ga gb) := ⟨gOp_mono ho.mono ha.mono hb.mono, pe_imp (pe_cmpR ho.op ha.pe hb.pe hm) fun _ _ _ q => tOp_of ha.mono hb.mono ho.mono q⟩
theorem et_cmp {op : CmpOp} (ho : OpV I X (compareOp op) g) (ha : EE I X a ga) (hb : EE I X b gb) (hm : behindInMarks op b = false) : ET I X (.Compare a [op] [b] pos) (gBool (gOp g ga gb)) := by
  refine ⟨gBool_mono (gOp_mono ho.mono ha.mono hb.mono), pt_imp (pt_cmpR ho.op ha.pe hb.pe hm) fun σ H Q q => ?_⟩
  have q := tB_of (gOp_mono ho.mono ha.mono hb.mono) q
  exact tOp_of ha.mono hb.mono ho.mono q
end
end Ev

namespace Ev
open PySem PySem.Spec PyProof.Rows L2 Own
/-! ### list + list, of lists that can be read -/
section
variable {X : Cx}
def rCatL (K : PySem.W.Frag) : R2 := fun x y H Q => ∃ l b xs zs, x = .ref l ∧ y = .ref b ∧ SqL K H l xs ∧ SqL K H b zs ∧ xs.length + zs.length ≤ sizeLine ∧ ∀ p, H p = none → Q (.ref p) (upd H p (.lst (xs ++ zs)))
theorem op_catL : OpR X (binaryOp .Add) (rCatL X.K) := by
  intro pins s σ H x y v u Q I rx ry h
  obtain ⟨l, b, xs, zs, rfl, rfl, hH, hB, hz, q⟩ := h
  cases rx
  cases ry
  obtain ⟨its, r, ⟨⟨c1, d1, t1, sl1⟩, n1, e1, hc1, _, hd1⟩, z1⟩ := I.list hH
  obtain ⟨its2, r2, ⟨⟨c2, d2, t2, sl2⟩, n2, e2, hc2, _, hd2⟩, z2⟩ := I.list hB
  obtain rfl : c1 = Value.type "list" := hc1
  obtain rfl : t1 = Data.seq its.toArray n1 := hd1
  obtain rfl : c2 = Value.type "list" := hc2
  obtain rfl : t2 = Data.seq its2.toArray n2 := hd2
  have l1 := r.length
  have l2 := r2.length
  have e : its.toArray ++ its2.toArray = (its ++ its2).toArray := by simp
  refine concat_meets ⟨_, e1, rfl⟩ ⟨_, e2, rfl⟩ noFill_list_add seq_list_add PySem.F.slot_list_add PySem.F.entry_list_add (PySem.F.args_list_add_2 _ _) (list_addW l b its.toArray its2.toArray n1 n2 _ _ sl1 sl2 (by rw [List.size_toArray, List.size_toArray]; omega)) ⟨e1, e2, ?_⟩
  rw [e]
  exact ⟨.ref _, _, I.lnew (t' := s.toks) (r.append r2) (by rw [List.length_append]; omega), rfl, q _ I.fresh⟩
end
section
variable {I : Hp → Prop} {X : Cx} {K : PySem.W.Frag} {F : Addr → Prop} {st : Sto} {H : Hp}
/-- a new list, a new tuple -/
theorem new_lst (i0 : Inv0 I) (w : Wd I K F st H) {p : Addr} (hp : H p = none) {us : List V} {xs : List PV} (r : RpAll K (hd (Nn F st) H) us xs) {Q : VK} (h : finE I K F st H Q (.lst xs) st) : Q (.ref p) (upd H p (.lst us)) :=
  have l : Le F st H st (upd H p (.lst us)) := Le.new hp
  h _ _ l (w.new i0 hp) ⟨p, us, rfl, hd_new w hp rfl, RpAll.same l.same r⟩
theorem new_tup (i0 : Inv0 I) (w : Wd I K F st H) {p : Addr} (hp : H p = none) {us : List V} {xs : List PV} (r : RpAll K (hd (Nn F st) H) us xs) {Q : VK} (h : finE I K F st H Q (.tup xs) st) : Q (.ref p) (upd H p (.tup us)) :=
  have l : Le F st H st (upd H p (.tup us)) := Le.new hp
  h _ _ l (w.new i0 hp) ⟨p, us, rfl, hd_new w hp rfl, RpAll.same l.same r⟩
theorem now (w : Wd I K F st H) {v : V} {p : PV} (r : Rp K (hd (Nn F st) H) v p) {Q : VK} (h : finE I K F st H Q p st) : Q v H := h v H .refl w r
/-! ### + -/
@[irreducible] def vAdd : GV2 := fun x y st Q => match x, y with
  | .int i, .int j => Q (.int (i + j)) st
  | .str a, .str b => a.length + b.length ≤ sizeLine ∧ Q (.str (a ++ b)) st
  | x, y => match tupOf x, tupOf y with
    | some xs, some ys => xs.length + ys.length ≤ 1000000 ∧ Q (.tq (xs ++ ys)) st
    | _, _ => match seqL st x, seqL st y with
      | some xs, some ys => xs.length + ys.length ≤ 1000000 ∧ Q (.lst (xs ++ ys)) st
      | _, _ => False
theorem ov_add (i0 : Inv0 I) : OpV I X (binaryOp .Add) vAdd := by
  refine ⟨fun x y st Q Q' k h => ?_, ?_⟩
  · unfold vAdd at h ⊢
    split at h
    · exact k _ _ h
    · exact ⟨h.1, k _ _ h.2⟩
    · split at h
      · exact ⟨h.1, k _ _ h.2⟩
      · split at h
        · exact ⟨h.1, k _ _ h.2⟩
        · exact h
  · intro pins s σ H x y v u Q J rx ry ⟨F, st, px, py, w, hx, hy, h⟩
    unfold vAdd at h
    split at h
    · rename_i i j
      exact op_add pins s σ H x y v u Q J rx ry ⟨i, j, hx, hy, now w (show Rp X.K _ (.int (i + j)) (.int (i + j)) from rfl) h⟩
    · rename_i a b
      exact op_add_str pins s σ H x y v u Q J rx ry ⟨a, b, hx, hy, h.1, now w (show Rp X.K _ (.str (a ++ b)) (.str (a ++ b)) from rfl) h.2⟩
    · split at h
      · rename_i xs ys e1 e2
        obtain ⟨a, us, ea, ha, ra⟩ := tupOf_ok hx e1
        obtain ⟨b, ws, eb, hb, rb⟩ := tupOf_ok hy e2
        refine op_catA pins s σ H x y v u Q J rx ry ⟨a, b, us, ws, ea, eb, tupS hd_same ha, tupS hd_same hb, by rw [ra.len, rb.len, sizeLine_eq]; omega, fun e => ?_, fun _ e => ?_, fun _ _ p np => ?_⟩
        · have e2 : xs = [] := List.eq_nil_of_length_eq_zero (by rw [← ra.len, e]; rfl)
          subst e2
          exact now w (show Rp X.K _ (.ref b) (.tq ys) from ⟨b, ws, rfl, hb, rb⟩) h.2
        · have e2 : ys = [] := List.eq_nil_of_length_eq_zero (by rw [← rb.len, e]; rfl)
          subst e2
          have h := h.2
          rw [List.append_nil] at h
          exact now w (show Rp X.K _ (.ref a) (.tq xs) from ⟨a, us, rfl, ha, ra⟩) h
        · have l : Le F st H st (upd H p (.tup (us ++ ws))) := Le.new np
          exact h.2 _ _ l (w.new i0 np) ⟨p, _, rfl, SqT.of (hd_new w np rfl), RpAll.same l.same (ra.app rb)⟩
      · split at h
        · rename_i xs ys e1 e2
          obtain ⟨a, us, ea, ha, ra⟩ := seqL_ok w hx e1
          obtain ⟨b, ws, eb, hb, rb⟩ := seqL_ok w hy e2
          exact op_catL pins s σ H x y v u Q J rx ry ⟨a, b, us, ws, ea, eb, ha, hb, by rw [ra.len, rb.len, sizeLine_eq]; omega, fun p np => new_lst i0 w np (ra.app rb) h.2⟩
        · exact h.elim
/-! ### ints -/
@[irreducible] def vI (C : Int → Int → Prop) (f : Int → Int → PV) : GV2 := fun x y st Q => match x, y with
  | .int i, .int j => C i j ∧ Q (f i j) st
  | _, _ => False
theorem vI_mono {C : Int → Int → Prop} {f : Int → Int → PV} : ∀ x y st Q Q', (∀ r s, Q r s → Q' r s) → vI C f x y st Q → vI C f x y st Q' := fun x y st Q Q' k h => by
  unfold vI at h ⊢
  split at h
  · exact ⟨h.1, k _ _ h.2⟩
  · exact h
theorem ov_int {f : Value → Value → Sem Value} {C : Int → Int → Prop} {g : Int → Int → Int} (h : OpR X f (rI C fun i j => .int (g i j))) : OpV I X f (vI C fun i j => .int (g i j)) := by
  refine ⟨vI_mono, fun pins s σ H x y v u Q J rx ry ⟨F, st, px, py, w, hx, hy, q⟩ => ?_⟩
  unfold vI at q
  split at q
  · rename_i i j
    exact h pins s σ H x y v u Q J rx ry ⟨i, j, hx, hy, q.1, now w (show Rp X.K _ (.int (g i j)) (.int (g i j)) from rfl) q.2⟩
  · exact q.elim
theorem ov_int0 {f : Value → Value → Sem Value} {g : Int → Int → Int} (h : OpR X f (rI0 fun i j => .int (g i j))) : OpV I X f (vI (fun _ _ => True) fun i j => .int (g i j)) := ov_int fun pins s σ H x y v u Q J rx ry ⟨i, j, a, b, _, q⟩ => h pins s σ H x y v u Q J rx ry ⟨i, j, a, b, q⟩
theorem ov_cmp0 {f : Value → Value → Sem Value} {g : Int → Int → Bool} (h : OpR X f (rI0 fun i j => .bl (g i j))) : OpV I X f (vI (fun _ _ => True) fun i j => .bl (g i j)) := by
  refine ⟨vI_mono, fun pins s σ H x y v u Q J rx ry ⟨F, st, px, py, w, hx, hy, q⟩ => ?_⟩
  unfold vI at q
  split at q
  · rename_i i j
    exact h pins s σ H x y v u Q J rx ry ⟨i, j, hx, hy, now w (show Rp X.K _ (.bl (g i j)) (.bl (g i j)) from rfl) q.2⟩
  · exact q.elim
theorem ov_sub : OpV I X (binaryOp .Sub) (vI (fun _ _ => True) fun i j => .int (i - j)) := ov_int0 op_sub
theorem ov_mul : OpV I X (binaryOp .Mult) (vI CMulW fun i j => .int (i * j)) := ov_int op_mulW
theorem ov_mod : OpV I X (binaryOp .Mod) (vI (fun _ j => 0 < j) fun i j => .int (i % j)) := ov_int op_mod
theorem ov_fdiv : OpV I X (binaryOp .FloorDiv) (vI CDivW fun i j => .int (i / j)) := ov_int op_fdivW
theorem ov_pow : OpV I X (binaryOp .Pow) (vI CPow fun i j => .int (i ^ j.toNat)) := ov_int op_pow
theorem ov_lt : OpV I X (compareOp .Lt) (vI (fun _ _ => True) fun i j => .bl (decide (i < j))) := ov_cmp0 op_lt
theorem ov_le : OpV I X (compareOp .LtE) (vI (fun _ _ => True) fun i j => .bl (decide (i ≤ j))) := ov_cmp0 op_le
theorem ov_gt : OpV I X (compareOp .Gt) (vI (fun _ _ => True) fun i j => .bl (decide (j < i))) := ov_cmp0 op_gt
theorem ov_ge : OpV I X (compareOp .GtE) (vI (fun _ _ => True) fun i j => .bl (decide (j ≤ i))) := ov_cmp0 op_ge
/-! ### ==, != -/
/-- two values of one kind, without anything else -/
@[irreducible] def vEq (neg : Bool) : GV2 := fun x y st Q => match x, y with
  | .int i, .int j => Q (.bl (xor neg (decide (i = j)))) st
  | .str a, .str b => Q (.bl (xor neg (decide (a = b)))) st
  | .bl a, .bl b => Q (.bl (xor neg (decide (a = b)))) st
  | x, y => match datS st x, datS st y with
    | some d, some e => deepOk d = true ∧ deepOk e = true ∧ Q (.bl (xor neg (PyData.eqv d e))) st
    | _, _ => False
theorem vEq_mono {n : Bool} : ∀ x y st Q Q', (∀ r s, Q r s → Q' r s) → vEq n x y st Q → vEq n x y st Q' := fun x y st Q Q' k h => by
  unfold vEq at h ⊢
  split at h
  · exact k _ _ h
  · exact k _ _ h
  · exact k _ _ h
  · split at h
    · exact ⟨h.1, h.2.1, k _ _ h.2.2⟩
    · exact h
theorem bl_rp {G : Hp} {b : Bool} : Rp K G (.bl b) (.bl b) := rfl
theorem ov_eq (hu : X.A.units + 150 < cLine) : OpV I X (compareOp .Eq) (vEq false) := by
  refine ⟨vEq_mono, fun pins s σ H x y v u Q J rx ry ⟨F, st, px, py, w, hx, hy, q⟩ => ?_⟩
  unfold vEq at q
  split at q
  · rename_i i j
    refine op_eq pins s σ H x y v u Q J rx ry ⟨by rw [show x = .int i from hx, show y = .int j from hy]; rfl, ?_⟩
    rw [show decide (x = y) = xor false (decide (i = j)) from by rw [show x = .int i from hx, show y = .int j from hy, Bool.false_xor]; simp]
    exact now w bl_rp q
  · rename_i a b
    refine op_eq pins s σ H x y v u Q J rx ry ⟨by rw [show x = .str a from hx, show y = .str b from hy]; rfl, ?_⟩
    rw [show decide (x = y) = xor false (decide (a = b)) from by rw [show x = .str a from hx, show y = .str b from hy, Bool.false_xor]; simp]
    exact now w bl_rp q
  · rename_i a b
    refine op_eq pins s σ H x y v u Q J rx ry ⟨by rw [show x = .bl a from hx, show y = .bl b from hy]; rfl, ?_⟩
    rw [show decide (x = y) = xor false (decide (a = b)) from by rw [show x = .bl a from hx, show y = .bl b from hy, Bool.false_xor]; simp]
    exact now w bl_rp q
  · split at q
    · rename_i d e e1 e2
      refine op_eqB hu pins s σ H x y v u Q J rx ry ⟨d, e, datS_ok w hx e1, datS_ok w hy e2, q.1, q.2.1, ?_⟩
      have z := q.2.2
      rw [Bool.false_xor] at z
      exact now w bl_rp z
    · exact q.elim
theorem ov_ne (hu : X.A.units + 150 < cLine) : OpV I X (compareOp .NotEq) (vEq true) := by
  refine ⟨vEq_mono, fun pins s σ H x y v u Q J rx ry ⟨F, st, px, py, w, hx, hy, q⟩ => ?_⟩
  unfold vEq at q
  split at q
  · rename_i i j
    refine op_ne pins s σ H x y v u Q J rx ry ⟨by rw [show x = .int i from hx, show y = .int j from hy]; rfl, ?_⟩
    rw [show (!decide (x = y)) = xor true (decide (i = j)) from by rw [show x = .int i from hx, show y = .int j from hy, Bool.true_xor]; simp]
    exact now w bl_rp q
  · rename_i a b
    refine op_ne pins s σ H x y v u Q J rx ry ⟨by rw [show x = .str a from hx, show y = .str b from hy]; rfl, ?_⟩
    rw [show (!decide (x = y)) = xor true (decide (a = b)) from by rw [show x = .str a from hx, show y = .str b from hy, Bool.true_xor]; simp]
    exact now w bl_rp q
  · rename_i a b
    refine op_ne pins s σ H x y v u Q J rx ry ⟨by rw [show x = .bl a from hx, show y = .bl b from hy]; rfl, ?_⟩
    rw [show (!decide (x = y)) = xor true (decide (a = b)) from by rw [show x = .bl a from hx, show y = .bl b from hy, Bool.true_xor]; simp]
    exact now w bl_rp q
  · split at q
    · rename_i d e e1 e2
      refine op_neB hu pins s σ H x y v u Q J rx ry ⟨d, e, datS_ok w hx e1, datS_ok w hy e2, q.1, q.2.1, ?_⟩
      have z := q.2.2
      rw [Bool.true_xor] at z
      exact now w bl_rp z
    · exact q.elim
/-! ### is None -/
def isNonP : PV → Bool
  | .non => true
  | _ => false
@[irreducible] def vIs (neg : Bool) : GV2 := fun x y st Q => match y with
  | .non => (∀ R, x ≠ .ob R) ∧ Q (.bl (xor neg (isNonP x))) st
  | _ => False
theorem rp_non {G : Hp} {v : V} {p : PV} (n : ∀ R, p ≠ .ob R) (r : Rp K G v p) : decide (v = .non) = isNonP p := by
  cases p with
  | non => rw [show v = .non from r]; rfl
  | bl _ => rw [show v = .bl _ from r]; rfl
  | int _ => rw [show v = .int _ from r]; rfl
  | str _ => rw [show v = .str _ from r]; rfl
  | tup _ => obtain ⟨a, us, e, _⟩ := r; rw [e]; rfl
  | tq _ => obtain ⟨a, us, e, _⟩ := r; rw [e]; rfl
  | lst _ => obtain ⟨a, us, e, _⟩ := r; rw [e]; rfl
  | sq _ => obtain ⟨a, us, e, _⟩ := r; rw [e]; rfl
  | dic _ => obtain ⟨a, us, e, _⟩ := r; rw [e]; rfl
  | cell _ => rw [show v = .ref _ from r]; rfl
  | ob R => exact absurd rfl (n R)
theorem vIs_mono {n : Bool} : ∀ x y st Q Q', (∀ r s, Q r s → Q' r s) → vIs n x y st Q → vIs n x y st Q' := fun x y st Q Q' k h => by
  unfold vIs at h ⊢
  split at h
  · exact ⟨h.1, k _ _ h.2⟩
  · exact h
theorem ov_is : OpV I X (compareOp .Is) (vIs false) := by
  refine ⟨vIs_mono, fun pins s σ H x y v u Q J rx ry ⟨F, st, px, py, w, hx, hy, q⟩ => ?_⟩
  unfold vIs at q
  split at q
  · refine op_isN pins s σ H x y v u Q J rx ry ⟨hy, ?_⟩
    rw [rp_non q.1 hx]
    have z := q.2
    rw [Bool.false_xor] at z
    exact now w bl_rp z
  · exact q.elim
theorem ov_isnot : OpV I X (compareOp .IsNot) (vIs true) := by
  refine ⟨vIs_mono, fun pins s σ H x y v u Q J rx ry ⟨F, st, px, py, w, hx, hy, q⟩ => ?_⟩
  unfold vIs at q
  split at q
  · refine op_notN pins s σ H x y v u Q J rx ry ⟨hy, ?_⟩
    rw [rp_non q.1 hx]
    have z := q.2
    rw [Bool.true_xor] at z
    exact now w bl_rp z
  · exact q.elim
/-! ### in -/
def flatP : PV → Option V
  | .non => some .non
  | .bl b => some (.bl b)
  | .int i => some (.int i)
  | .str z => some (.str z)
  | _ => none
def flatAll : List PV → Option (List V)
  | [] => some []
  | p :: r => match flatP p, flatAll r with
    | some v, some vs => some (v :: vs)
    | _, _ => none
theorem flatP_ok {G : Hp} {v x : V} {p : PV} (r : Rp K G v p) (e : flatP p = some x) : v = x ∧ flatV x = true := by
  cases p <;> first
    | (cases e; exact ⟨r, rfl⟩)
    | cases e
theorem flatAll_ok {G : Hp} : ∀ {ps : List PV} {us xs : List V}, RpAll K G us ps → flatAll ps = some xs → us = xs ∧ xs.all flatV = true
  | [], us, xs, r, e => by
    cases e
    exact ⟨r, rfl⟩
  | p :: r, us, xs, ⟨v, ws, eu, rv, ra⟩, e => by
    rw [flatAll] at e
    cases e1 : flatP p with
    | none =>
      rw [e1] at e
      cases e
    | some x =>
      cases e2 : flatAll r with
      | none =>
        rw [e1, e2] at e
        cases e
      | some ys =>
        rw [e1, e2] at e
        cases e
        obtain ⟨a, b⟩ := flatP_ok rv e1
        obtain ⟨c, d⟩ := flatAll_ok ra e2
        refine ⟨by rw [eu, a, c], ?_⟩
        rw [List.all_cons, b, d]
        rfl
def hasKey (ks : List (Str × PV)) (z : Str) : Bool := ks.any fun p => decide (p.1 = z)
/-- x in a list, a tuple, a dict -/
@[irreducible] def vIn (neg : Bool) : GV2 := fun x y st Q => match y with
  | .dic ks => match x with
    | .str z => Q (.bl (xor neg (hasKey ks z))) st
    | _ => False
  | y => match seqA st y with
    | some ys => match flatP x, flatAll ys with
      | some v, some vs => Q (.bl (xor neg (inV v vs))) st
      | _, _ => match tupOf y, x.dat, datAll ys with
        | some _, some d, some ds => d.canLay0 = true ∧ PyData.canLayAll0 ds = true ∧ min (PyData.depthAll ds) d.depth ≤ 60 ∧ Q (.bl (xor neg (ds.any fun z => PyData.eqv z d))) st
        | _, _, _ => False
    | none => False
theorem vIn_mono {n : Bool} : ∀ x y st Q Q', (∀ r s, Q r s → Q' r s) → vIn n x y st Q → vIn n x y st Q' := fun x y st Q Q' k h => by
  unfold vIn at h ⊢
  split at h
  · split at h
    · exact k _ _ h
    · exact h
  · split at h
    · split at h
      · exact k _ _ h
      · split at h
        · exact ⟨h.1, h.2.1, h.2.2.1, k _ _ h.2.2.2⟩
        · exact h
    · exact h
theorem kv_val {G : Hp} : ∀ {ks : List (Str × PV)} {ws : List (Key × V)}, RpKv K G ws ks → ∀ z : Str, (valV ws (.inr z)).isSome = hasKey ks z
  | [], ws, r, z => by
    rw [show ws = [] from r]
    rfl
  | (k, p) :: t, ws, ⟨v, us, e, rv, ra⟩, z => by
    have ih := kv_val ra z
    rw [e]
    unfold hasKey valV at ih ⊢
    rw [List.any_cons, List.find?_cons]
    by_cases c : k = z
    · subst c
      simp
    · rw [show decide ((Sum.inr k : Key) = Sum.inr z) = false from decide_eq_false fun q => c (Sum.inr.inj q), show decide (k = z) = false from decide_eq_false c, Bool.false_or]
      exact ih
theorem dat_tup {G : Hp} {v : V} {y : PV} {xs zs : List PV} {ds : List PyData} (e0 : tupOf y = some zs) (es : seqA st y = some xs) (e : datAll xs = some ds) (r : Rp K G v y) : Dp K G v (.tuple ds) := by
  cases y with
  | tup ws =>
    cases es
    exact dp_of (by rw [PV.dat, e]; rfl) r
  | tq ws =>
    cases es
    exact dp_of (by rw [PV.dat, e]; rfl) r
  | _ => cases e0
theorem ov_in (hu : X.A.units + 64 < cLine) (hn : X.A.units + 1 < cLine) : OpV I X (compareOp .In) (vIn false) := by
  refine ⟨vIn_mono, fun pins s σ H x y v u Q J rx ry ⟨F, st, px, py, w, hx, hy, q⟩ => ?_⟩
  unfold vIn at q
  split at q
  · split at q
    · rename_i ks z
      obtain ⟨a, ws, ea, ha, ra⟩ := hy
      rw [show x = .str z from hx] at rx
      subst ea
      cases ry
      refine d_in (o := valV ws (.inr z)) (y := .str z) hn J (DGet.k (k := Sum.inr z) (hd_same _ _ ha)) rx fun s' J' => ⟨.bl _, H, J', rfl, ?_⟩
      rw [kv_val ra z]
      rw [Bool.false_xor] at q
      exact now w bl_rp q
    · exact q.elim
  · split at q
    · rename_i ys es
      obtain ⟨a, us, ea, ha, ra⟩ := seqA_ok w hy es
      split at q
      · rename_i xv xvs e1 e2
        obtain ⟨z1, z2⟩ := flatP_ok hx e1
        obtain ⟨z3, z4⟩ := flatAll_ok ra e2
        subst z1 z3
        rw [Bool.false_xor] at q
        exact op_in_seq pins s σ H _ y v u Q J rx ry ⟨a, _, ea, ha, z2, z4, now w bl_rp q⟩
      · split at q
        · rename_i zs d ds e0 e1 e2
          obtain ⟨c1, c2, c3, q⟩ := q
          rw [Bool.false_xor] at q
          exact op_inTD hu pins s σ H x y v u Q J rx ry ⟨d, ds, dp_same hd_same (dp_of e1 hx), dp_same hd_same (dat_tup e0 es e2 hy), c1, c2, c3, now w bl_rp q⟩
        · exact q.elim
    · exact q.elim
theorem ov_notin (hu : X.A.units + 64 < cLine) (hn : X.A.units + 1 < cLine) : OpV I X (compareOp .NotIn) (vIn true) := by
  refine ⟨vIn_mono, fun pins s σ H x y v u Q J rx ry ⟨F, st, px, py, w, hx, hy, q⟩ => ?_⟩
  unfold vIn at q
  split at q
  · split at q
    · rename_i ks z
      obtain ⟨a, ws, ea, ha, ra⟩ := hy
      rw [show x = .str z from hx] at rx
      subst ea
      cases ry
      refine d_notIn (o := valV ws (.inr z)) (y := .str z) hn J (DGet.k (k := Sum.inr z) (hd_same _ _ ha)) rx fun s' J' => ⟨.bl _, H, J', rfl, ?_⟩
      rw [kv_val ra z]
      rw [Bool.true_xor] at q
      exact now w bl_rp q
    · exact q.elim
  · split at q
    · rename_i ys es
      obtain ⟨a, us, ea, ha, ra⟩ := seqA_ok w hy es
      split at q
      · rename_i xv xvs e1 e2
        obtain ⟨z1, z2⟩ := flatP_ok hx e1
        obtain ⟨z3, z4⟩ := flatAll_ok ra e2
        subst z1 z3
        rw [Bool.true_xor] at q
        exact op_notIn_seq pins s σ H _ y v u Q J rx ry ⟨a, _, ea, ha, z2, z4, now w bl_rp q⟩
      · split at q
        · rename_i zs d ds e0 e1 e2
          obtain ⟨c1, c2, c3, q⟩ := q
          rw [Bool.true_xor] at q
          exact op_notInTD hu pins s σ H x y v u Q J rx ry ⟨d, ds, dp_same hd_same (dp_of e1 hx), dp_same hd_same (dat_tup e0 es e2 hy), c1, c2, c3, now w bl_rp q⟩
        · exact q.elim
    · exact q.elim
end
end Ev

namespace Ev
open PySem PySem.Spec PyProof.Rows L2 Own
/-! ### a[i] -/
def lookP (ks : List (Str × PV)) (z : Str) : Option PV := (ks.find? fun p => decide (p.1 = z)).map (·.2)
@[irreducible] def vIx : GV2 := fun x y st Q => match x, y with
  | .str z, .int i => ∃ c, z.length ≤ sizeLine ∧ atI z.cps.toList i = some c ∧ Q (.str ⟨#[c]⟩) st
  | .dic ks, .str k => match lookP ks k with
    | some p => Q p st
    | none => False
  | x, .int i => match seqA st x with
    | some xs => match atI xs i with
      | some p => Q p st
      | none => False
    | none => False
  | _, _ => False
def cutP (xs : List PV) (lo hi : Option Int) : List PV := (xs.drop (HT.sIx xs.length 0 lo)).take (HT.sIx xs.length xs.length hi - HT.sIx xs.length 0 lo)
section
variable {I : Hp → Prop} {X : Cx} {K : PySem.W.Frag} {F : Addr → Prop} {st : Sto} {H G : Hp} {pos : Pos}
theorem kv_look : ∀ {ks : List (Str × PV)} {ws : List (Key × V)}, RpKv K G ws ks → ∀ {z : Str} {p : PV}, lookP ks z = some p → ∃ v, valV ws (.inr z) = some v ∧ Rp K G v p
  | [], ws, r, z, p, e => nomatch e
  | (k, q) :: t, ws, ⟨v, us, e, rv, ra⟩, z, p, h => by
    rw [e]
    unfold lookP at h
    unfold valV
    rw [List.find?_cons] at h ⊢
    by_cases c : k = z
    · subst c
      rw [show decide (k = k) = true from decide_eq_true rfl] at h
      cases h
      exact ⟨v, by simp, rv⟩
    · rw [show decide (k = z) = false from decide_eq_false c] at h
      rw [show decide ((Sum.inr k : Key) = Sum.inr z) = false from decide_eq_false fun q => c (Sum.inr.inj q)]
      exact kv_look ra h
theorem ra_at {us : List V} {xs : List PV} (r : RpAll K G us xs) {i : Int} {p : PV} (e : atI xs i = some p) : ∃ v, atI us i = some v ∧ Rp K G v p := by
  unfold atI at e ⊢
  rw [r.len]
  obtain ⟨j, h1, h2⟩ := Option.bind_eq_some_iff.mp e
  obtain ⟨v, hv, rv⟩ := r.get h2
  exact ⟨v, by rw [h1]; exact hv, rv⟩
structure IxV (I : Hp → Prop) (X : Cx) (g : GV2) : Prop where
  mono : ∀ x y st Q Q', (∀ r s, Q r s → Q' r s) → g x y st Q → g x y st Q'
  ix : IxR X (lV2 I X.K g)
theorem vIx_mono : ∀ x y st Q Q', (∀ r s, Q r s → Q' r s) → vIx x y st Q → vIx x y st Q' := fun x y st Q Q' k h => by
  unfold vIx at h ⊢
  split at h
  · obtain ⟨c, a, b, h⟩ := h
    exact ⟨c, a, b, k _ _ h⟩
  · split at h
    · exact k _ _ h
    · exact h
  · split at h
    · split at h
      · exact k _ _ h
      · exact h
    · exact h
  · exact h
theorem iv_ix (hn : X.A.units + 1 < cLine) : IxV I X vIx := by
  refine ⟨vIx_mono, fun value slice pins s σ H x y v u Q J rx ry ⟨F, st, px, py, w, hx, hy, q⟩ hs => ?_⟩
  unfold vIx at q
  split at q
  · rename_i z i
    obtain ⟨c, hz, e, q⟩ := q
    exact ix_str value slice pins s σ H x y v u Q J rx ry ⟨z, i, c, hx, hy, hz, e, now w (show Rp X.K _ (.str ⟨#[c]⟩) (.str ⟨#[c]⟩) from rfl) q⟩ hs
  · rename_i ks k
    split at q
    · rename_i p e
      obtain ⟨a, ws, ea, ha, ra⟩ := hx
      obtain ⟨v1, h1, r1⟩ := kv_look ra e
      rw [show y = .str k from hy] at ry
      subst ea
      cases rx
      have g : DGet H a (.str k) (some v1) := by
        rw [← h1]
        exact DGet.k (k := Sum.inr k) (hd_same _ _ ha)
      exact tail_any (ops := [.ref a, u]) (dict_typeIs J g) PySem.F.slot_dict_getitem.lookup (d_getItem hn J g ry fun w' s' J' rw' => ⟨v1, H, J', rw', now w r1 q⟩) hs
    · exact q.elim
  · rename_i i hne
    split at q
    · rename_i xs es
      split at q
      · rename_i p e
        obtain ⟨a, us, ea, ha, ra⟩ := seqA_ok w hx es
        obtain ⟨v1, h1, r1⟩ := ra_at ra e
        rcases ha with ha | ha
        · exact ix_list value slice pins s σ H x y v u Q J rx ry ⟨a, us, i, v1, ea, hy, ha, h1, now w r1 q⟩ hs
        · exact ix_tup value slice pins s σ H x y v u Q J rx ry ⟨a, us, i, v1, ea, hy, ha, h1, now w r1 q⟩ hs
      · exact q.elim
    · exact q.elim
  · exact q.elim
variable {a b e : Expr} {ga gb : GE} {g : GV2}
theorem ee_ix (hr : IxV I X g) (ha : EE I X a ga) (hb : EE I X b gb) (hs : PlainIx b := by intro _ _; rfl) : EE I X (.Subscript a b pos) (gOp g ga gb) := ⟨gOp_mono hr.mono ha.mono hb.mono, pe_imp (pe_ix hr.ix ha.pe hb.pe hs) fun _ _ _ q => tOp_of ha.mono hb.mono hr.mono q⟩
/-! ### a[i:j] -/
abbrev GO := Env → Sto → (Option Int → Sto → Prop) → Prop
def lO (I : Hp → Prop) (K : PySem.W.Frag) (g : GO) : TO := fun σ H Q => ∃ F st env, Wd I K F st H ∧ EvR K (hd (Nn F st) H) σ env ∧ g env st fun o s => ∀ H', Le F st H s H' → Wd I K F s H' → Q o H'
structure EO (I : Hp → Prop) (X : Cx) (e : Option Expr) (g : GO) : Prop where
  mono : ∀ env st Q Q', (∀ r s, Q r s → Q' r s) → g env st Q → g env st Q'
  po : PO X e (lO I X.K g)
theorem po_imp {X : Cx} {e : Option Expr} {t t' : TO} (h : PO X e t) (i : ∀ σ H Q, t' σ H Q → t σ H Q) : PO X e t' := ⟨fun pins s σ H Q I q => h.run pins s σ H Q I (i σ H Q q)⟩
def gNoPart : GO := fun _ st Q => Q none st
def gPart (g : GE) : GO := fun env st Q => g env st fun p s => match p with
  | .int i => Q (some i) s
  | _ => False
theorem eo_none : EO I X none gNoPart := ⟨fun _ _ _ _ k h => k _ _ h, po_imp po_none fun σ H Q ⟨F, st, env, w, ev, q⟩ => q H .refl w⟩
theorem eo_some (h : EE I X e ga) : EO I X (some e) (gPart ga) := by
  refine ⟨fun env st Q Q' k q => h.mono _ _ _ _ (fun p s z => ?_) q, po_imp (po_some h.pe) fun σ H Q ⟨F, st, env, w, ev, q⟩ => ?_⟩
  · cases p with
    | int i => exact k _ _ z
    | _ => exact (show False from z).elim
  · refine lE_of h.mono w ev q fun p s z v H' l w' r => ?_
    cases p with
    | int i => exact ⟨i, r, z H' l w'⟩
    | _ => exact (show False from z).elim
@[irreducible] def vSl (x : PV) (lo hi : Option Int) (st : Sto) (Q : QV) : Prop := match x with
  | .str z => z.length ≤ sizeLine ∧ Q (.str (cutS z lo hi)) st
  | x => match tupOf x with
    | some xs => Q (.tq (cutP xs lo hi)) st
    | none => match seqL st x with
      | some xs => Q (.lst (cutP xs lo hi)) st
      | none => False
def gSl (g : GE) (l h : GO) : GE := fun env st Q => g env st fun x s1 => l env s1 fun lo s2 => h env s2 fun hi s3 => vSl x lo hi s3 Q
theorem vSl_mono {x : PV} {lo hi : Option Int} {st : Sto} {Q Q' : QV} (k : ∀ r s, Q r s → Q' r s) (h : vSl x lo hi st Q) : vSl x lo hi st Q' := by
  unfold vSl at h ⊢
  split at h
  · exact ⟨h.1, k _ _ h.2⟩
  · split at h
    · exact k _ _ h
    · split at h
      · exact k _ _ h
      · exact h
theorem ra_cut {us : List V} {xs : List PV} (r : RpAll K G us xs) {lo hi : Option Int} : RpAll K G (cutV us lo hi) (cutP xs lo hi) := by
  unfold cutV cutP
  rw [r.len]
  exact (r.drop _).take _
def lSl (I : Hp → Prop) (K : PySem.W.Frag) : V → Option Int → Option Int → Hp → VK → Prop := fun x lo hi H Q => ∃ F st px, Wd I K F st H ∧ Rp K (hd (Nn F st) H) x px ∧ vSl px lo hi st (finE I K F st H Q)
theorem sl_any (i0 : Inv0 I) : SlR X (lSl I X.K) := by
  intro pins s σ H x v vl vu lo hi sl Q J rx hs pl pu ⟨F, st, px, w, hx, q⟩
  unfold vSl at q
  split at q
  · rename_i z
    exact sl_str pins s σ H x v vl vu lo hi sl Q J rx hs pl pu ⟨z, hx, q.1, now w (show Rp X.K _ (.str _) (.str _) from rfl) q.2⟩
  · split at q
    · rename_i xs e1
      obtain ⟨a, us, ea, ha, ra⟩ := tupOf_ok hx e1
      refine sl_tupA pins s σ H x v vl vu lo hi sl Q J rx hs pl pu ⟨a, us, ea, tupS hd_same ha, fun z => ?_, fun _ p np => ?_⟩
      · have e : cutV us lo hi = us := by
          unfold cutV
          rw [z.1, z.2, List.drop_zero, Nat.sub_zero, List.take_length]
        have r2 := ra_cut (lo := lo) (hi := hi) ra
        rw [e] at r2
        exact now w (show Rp X.K _ (.ref a) (.tq _) from ⟨a, us, rfl, ha, r2⟩) q
      · have l : Le F st H st (upd H p (.tup (cutV us lo hi))) := Le.new np
        exact q _ _ l (w.new i0 np) ⟨p, _, rfl, SqT.of (hd_new w np rfl), RpAll.same l.same (ra_cut ra)⟩
    · split at q
      · rename_i xs es
        obtain ⟨a, us, ea, ha, ra⟩ := seqL_ok w hx es
        exact sl_list pins s σ H x v vl vu lo hi sl Q J rx hs pl pu ⟨a, us, ea, ha, fun p np => new_lst i0 w np (ra_cut ra) q⟩
      · exact q.elim
theorem ee_slice {lo hi : Option Expr} {gl gh : GO} {p2 : Pos} (i0 : Inv0 I) (h : EE I X e ga) (hl : EO I X lo gl) (hh : EO I X hi gh) : EE I X (.Subscript e (.Slice lo hi none p2) pos) (gSl ga gl gh) := by
  refine ⟨fun env st Q Q' k q => h.mono _ _ _ _ (fun _ _ z => hl.mono _ _ _ _ (fun _ _ y => hh.mono _ _ _ _ (fun _ _ x => vSl_mono k x) y) z) q, pe_imp (pe_slice (sl_any i0) h.pe hl.po hh.po) fun σ H Q ⟨F, st, env, w, ev, q⟩ => ?_⟩
  refine lE_of h.mono w ev q fun x s1 h1 v H1 l1 w1 r1 => ?_
  refine ⟨F, s1, env, w1, ev.le l1, hl.mono _ _ _ _ (fun o s2 h2 H2 l2 w2 => ?_) h1⟩
  refine ⟨F, s2, env, w2, (ev.le l1).le l2, hh.mono _ _ _ _ (fun u s3 h3 H3 l3 w3 => ?_) h2⟩
  exact ⟨F, s3, x, w3, Rp.same (l2.trans l3).same r1, vSl_mono (fun _ _ z => finE.le ((l1.trans l2).trans l3) z) h3⟩
end
/-! ### built-in functions, by values -/
def lCV (I : Hp → Prop) (K : PySem.W.Frag) (g : GF) : List V → Hp → VK → Prop := fun vs H Q => ∃ F st ps, Wd I K F st H ∧ RpAll K (hd (Nn F st) H) vs ps ∧ g ps st (finE I K F st H Q)
structure CallV (I : Hp → Prop) (X : Cx) (f : Value) (g : GF) : Prop where
  mono : MonoF g
  cr : CallR X f (lCV I X.K g)
def gCB (g : GF) (a : GA) : GE := fun env st Q => a env st fun ps s => g ps s Q
section
variable {I : Hp → Prop} {X : Cx} {K : PySem.W.Frag} {F : Addr → Prop} {st : Sto} {H : Hp} {x : Str} {p pos : Pos} {e : Expr} {es : List Expr} {g : GF} {ga : GA} {id T : String}
theorem gCB_mono (hm : MonoF g) (ha : MonoA ga) : Mono (gCB g ga) := fun env st Q Q' k q => ha _ _ _ _ (fun _ _ z => hm _ _ _ _ k z) q
theorem tCB_of (hm : MonoF g) (ha : MonoA ga) {σ : L2.St} {Q : VK} (q : lE I K (gCB g ga) σ H Q) : tCB (lCV I K g) (lA I K ga) σ H Q := by
  obtain ⟨F, st, env, w, ev, q⟩ := q
  exact lA_of ha w ev q fun ps s z vs H' l w' r => ⟨F, s, ps, w', r, hm _ _ _ _ (fun _ _ y => finE.le l y) z⟩
theorem ee_callB (hc : CallV I X (.builtin id) g) (hg : Gl X x) (hm : X.mg x = none) (hv : bootBuiltins x = some (.builtin id)) (ha : EA I X (e :: es) ga) (hn : x ≠ "__name__" := by decide) (hdb : (x == ("__debug__" : Str)) = false := by decide)
    (he : starEach (e :: es) X.env = (false, eval e X.env) :: starEach es X.env := by rfl) (hpl : (backTo pos (starEach es X.env)).any (·.1) = false := by rfl) : EE I X (.Call (.Name x p) (e :: es) [] pos) (gCB g ga) :=
  ⟨gCB_mono hc.mono ha.mono, pe_imp (pe_callB hc.cr hg hm hv ha.pa hn hdb he hpl) fun _ _ _ q => tCB_of hc.mono ha.mono q⟩
theorem ee_callTy (hc : CallV I X (.type T) g) (hg : Gl X x) (hm : X.mg x = none) (hv : bootBuiltins x = some (.type T)) (ha : EA I X (e :: es) ga) (hn : x ≠ "__name__" := by decide) (hdb : (x == ("__debug__" : Str)) = false := by decide)
    (he : starEach (e :: es) X.env = (false, eval e X.env) :: starEach es X.env := by rfl) (hpl : (backTo pos (starEach es X.env)).any (·.1) = false := by rfl) : EE I X (.Call (.Name x p) (e :: es) [] pos) (gCB g ga) :=
  ⟨gCB_mono hc.mono ha.mono, pe_imp (pe_callTy hc.cr hg hm hv ha.pa hn hdb he hpl) fun _ _ _ q => tCB_of hc.mono ha.mono q⟩
@[irreducible] def fLen : GF := fun ps st Q => match ps with
  | [.str z] => z.length ≤ sizeLine ∧ Q (.int z.length) st
  | [p] => match seqA st p with
    | some xs => Q (.int xs.length) st
    | none => False
  | _ => False
theorem one_of {G : Hp} {vs : List V} {p : PV} (r : RpAll K G vs [p]) : ∃ v, vs = [v] ∧ Rp K G v p := by
  obtain ⟨v, us, e, rv, e2⟩ := r
  exact ⟨v, by rw [e, show us = [] from e2], rv⟩
theorem two_of {G : Hp} {vs : List V} {p q : PV} (r : RpAll K G vs [p, q]) : ∃ v u, vs = [v, u] ∧ Rp K G v p ∧ Rp K G u q := by
  obtain ⟨v, us, e, rv, u, ws, e2, ru, e3⟩ := r
  exact ⟨v, u, by rw [e, e2, show ws = [] from e3], rv, ru⟩
theorem cv_len : CallV I X (.builtin "len") fLen := by
  refine ⟨fun ps st Q Q' k h => ?_, fun pins s σ H vs us Q J r ⟨F, st, ps, w, rp, q⟩ => ?_⟩
  · unfold fLen at h ⊢
    split at h
    · exact ⟨h.1, k _ _ h.2⟩
    · split at h
      · exact k _ _ h
      · exact h
    · exact h
  · unfold fLen at q
    split at q
    · rename_i z
      obtain ⟨v, rfl, rv⟩ := one_of rp
      rw [show v = .str z from rv] at r
      exact call_len_str pins s σ H _ us Q J r ⟨z, rfl, q.1, now w (show Rp X.K _ (.int _) (.int _) from rfl) q.2⟩
    · split at q
      · rename_i xs es
        obtain ⟨v, rfl, rv⟩ := one_of rp
        obtain ⟨a, us2, rfl, ha, ra⟩ := seqA_ok w rv es
        exact call_len_seq pins s σ H _ us Q J r ⟨a, us2, rfl, ha, by rw [ra.len]; exact now w (show Rp X.K _ (.int _) (.int _) from rfl) q⟩
      · exact q.elim
    · exact q.elim
/-- list(..), tuple(..) of a list or tuple -/
@[irreducible] def fList : GF := fun ps st Q => match ps with
  | [p] => match seqA st p with
    | some xs => Q (.lst xs) st
    | none => False
  | _ => False
/-- .. that is written afterwards -/
@[irreducible] def fListC : GF := fun ps st Q => match ps with
  | [p] => match seqA st p with
    | some xs => newCell xs st Q
    | none => False
  | _ => False
@[irreducible] def fTuple : GF := fun ps st Q => match ps with
  | [p] => match tupOf p with
    | some xs => Q (.tq xs) st
    | none => match seqL st p with
      | some xs => Q (.tup xs) st
      | none => False
  | _ => False
theorem cv_list (i0 : Inv0 I) : CallV I X (.type "list") fList := by
  refine ⟨fun ps st Q Q' k h => ?_, fun pins s σ H vs us Q J r ⟨F, st, ps, w, rp, q⟩ => ?_⟩
  · unfold fList at h ⊢
    split at h
    · split at h
      · exact k _ _ h
      · exact h
    · exact h
  · unfold fList at q
    split at q
    · split at q
      · rename_i xs es
        obtain ⟨v, rfl, rv⟩ := one_of rp
        obtain ⟨a, us2, rfl, ha, ra⟩ := seqA_ok w rv es
        exact call_list_of pins s σ H _ us Q J r ⟨a, us2, rfl, ha, fun p np => new_lst i0 w np ra q⟩
      · exact q.elim
    · exact q.elim
theorem new_cell (i0 : Inv0 I) (w : Wd I K F st H) {p : Addr} (hp : H p = none) {us : List V} {xs : List PV} (r : RpAll K (hd (Nn F st) H) us xs) {Q : VK} (h : newCell xs st (finE I K F st H Q)) : Q (.ref p) (upd H p (.lst us)) :=
  h p (not_cell w hp) _ _ (Le.cell hp) (w.cell i0 hp r) rfl
theorem cv_listC (i0 : Inv0 I) : CallV I X (.type "list") fListC := by
  refine ⟨fun ps st Q Q' k h => ?_, fun pins s σ H vs us Q J r ⟨F, st, ps, w, rp, q⟩ => ?_⟩
  · unfold fListC at h ⊢
    split at h
    · split at h
      · exact fun a ha => k _ _ (h a ha)
      · exact h
    · exact h
  · unfold fListC at q
    split at q
    · split at q
      · rename_i xs es
        obtain ⟨v, rfl, rv⟩ := one_of rp
        obtain ⟨a, us2, rfl, ha, ra⟩ := seqA_ok w rv es
        exact call_list_of pins s σ H _ us Q J r ⟨a, us2, rfl, ha, fun p np => new_cell i0 w np ra q⟩
      · exact q.elim
    · exact q.elim
theorem cv_tuple (i0 : Inv0 I) : CallV I X (.type "tuple") fTuple := by
  refine ⟨fun ps st Q Q' k h => ?_, fun pins s σ H vs us Q J r ⟨F, st, ps, w, rp, q⟩ => ?_⟩
  · unfold fTuple at h ⊢
    split at h
    · split at h
      · exact k _ _ h
      · split at h
        · exact k _ _ h
        · exact h
    · exact h
  · unfold fTuple at q
    split at q
    · split at q
      · rename_i xs e1
        obtain ⟨v, rfl, rv⟩ := one_of rp
        obtain ⟨a, us2, rfl, ha, ra⟩ := tupOf_ok rv e1
        exact call_tuple_of pins s σ H _ us Q J r ⟨a, us2, rfl, .inr ⟨tupS hd_same ha, now w (show Rp X.K _ (.ref a) (.tq _) from ⟨a, us2, rfl, ha, ra⟩) q⟩⟩
      · split at q
        · rename_i xs es
          obtain ⟨v, rfl, rv⟩ := one_of rp
          obtain ⟨a, us2, rfl, ha, ra⟩ := seqL_ok w rv es
          exact call_tuple_of pins s σ H _ us Q J r ⟨a, us2, rfl, .inl ⟨ha, fun p np => new_tup i0 w np ra q⟩⟩
        · exact q.elim
    · exact q.elim
/-! any, all, sum; max, min of two -/
def boolsP : List PV → Option (List Bool)
  | [] => some []
  | .bl b :: r => (boolsP r).map (b :: ·)
  | _ => none
def intsP : List PV → Option (List Int)
  | [] => some []
  | .int i :: r => (intsP r).map (i :: ·)
  | _ => none
def strsP : List PV → Option (List Str)
  | [] => some []
  | .str z :: r => (strsP r).map (z :: ·)
  | _ => none
theorem bools_ok {G : Hp} : ∀ {ps : List PV} {us : List V} {bs : List Bool}, RpAll K G us ps → boolsP ps = some bs → us = bs.map V.bl
  | [], us, bs, r, e => by
    cases e
    exact r
  | .bl b :: t, us, bs, ⟨v, ws, eu, rv, ra⟩, e => by
    rw [boolsP] at e
    obtain ⟨cs, e1, e2⟩ := Option.map_eq_some_iff.mp e
    rw [eu, ← e2, bools_ok ra e1, show v = .bl b from rv]
    rfl
  | .non :: _, _, _, _, e | .int _ :: _, _, _, _, e | .str _ :: _, _, _, _, e | .tup _ :: _, _, _, _, e | .tq _ :: _, _, _, _, e | .lst _ :: _, _, _, _, e | .sq _ :: _, _, _, _, e | .dic _ :: _, _, _, _, e | .cell _ :: _, _, _, _, e | .ob _ :: _, _, _, _, e => nomatch e
theorem ints_ok {G : Hp} : ∀ {ps : List PV} {us : List V} {bs : List Int}, RpAll K G us ps → intsP ps = some bs → us = bs.map V.int
  | [], us, bs, r, e => by
    cases e
    exact r
  | .int b :: t, us, bs, ⟨v, ws, eu, rv, ra⟩, e => by
    rw [intsP] at e
    obtain ⟨cs, e1, e2⟩ := Option.map_eq_some_iff.mp e
    rw [eu, ← e2, ints_ok ra e1, show v = .int b from rv]
    rfl
  | .non :: _, _, _, _, e | .bl _ :: _, _, _, _, e | .str _ :: _, _, _, _, e | .tup _ :: _, _, _, _, e | .tq _ :: _, _, _, _, e | .lst _ :: _, _, _, _, e | .sq _ :: _, _, _, _, e | .dic _ :: _, _, _, _, e | .cell _ :: _, _, _, _, e | .ob _ :: _, _, _, _, e => nomatch e
theorem strs_ok {G : Hp} : ∀ {ps : List PV} {us : List V} {bs : List Str}, RpAll K G us ps → strsP ps = some bs → us = bs.map V.str
  | [], us, bs, r, e => by
    cases e
    exact r
  | .str b :: t, us, bs, ⟨v, ws, eu, rv, ra⟩, e => by
    rw [strsP] at e
    obtain ⟨cs, e1, e2⟩ := Option.map_eq_some_iff.mp e
    rw [eu, ← e2, strs_ok ra e1, show v = .str b from rv]
    rfl
  | .non :: _, _, _, _, e | .bl _ :: _, _, _, _, e | .int _ :: _, _, _, _, e | .tup _ :: _, _, _, _, e | .tq _ :: _, _, _, _, e | .lst _ :: _, _, _, _, e | .sq _ :: _, _, _, _, e | .dic _ :: _, _, _, _, e | .cell _ :: _, _, _, _, e | .ob _ :: _, _, _, _, e => nomatch e
@[irreducible] def fBools (f : List Bool → Bool) : GF := fun ps st Q => match ps with
  | [p] => match seqL st p with
    | some xs => match boolsP xs with
      | some bs => Q (.bl (f bs)) st
      | none => False
    | none => False
  | _ => False
theorem cv_bools {f : List Bool → Bool} (h : CallR X (.builtin id) fun vs H Q => ∃ (a : Addr) (bs : List Bool), vs = [V.ref a] ∧ SqL X.K H a (bs.map V.bl) ∧ Q (.bl (f bs)) H) : CallV I X (.builtin id) (fBools f) := by
  refine ⟨fun ps st Q Q' k h => ?_, fun pins s σ H vs us Q J r ⟨F, st, ps, w, rp, q⟩ => ?_⟩
  · unfold fBools at h ⊢
    split at h
    · split at h
      · split at h
        · exact k _ _ h
        · exact h
      · exact h
    · exact h
  · unfold fBools at q
    split at q
    · split at q
      · rename_i xs es
        split at q
        · rename_i bs eb
          obtain ⟨v, rfl, rv⟩ := one_of rp
          obtain ⟨a, us2, rfl, ha, ra⟩ := seqL_ok w rv es
          rw [bools_ok ra eb] at ha
          exact h pins s σ H _ us Q J r ⟨a, bs, rfl, ha, now w bl_rp q⟩
        · exact q.elim
      · exact q.elim
    · exact q.elim
theorem cv_any (hc : X.calm = true) : CallV I X (.builtin "any") (fBools fun bs => bs.any _root_.id) := cv_bools (cr_any hc)
theorem cv_all (hc : X.calm = true) : CallV I X (.builtin "all") (fBools fun bs => bs.all _root_.id) := cv_bools (cr_all hc)
@[irreducible] def fSum : GF := fun ps st Q => match ps with
  | [p] => match seqL st p with
    | some xs => match intsP xs with
      | some ns => Q (.int ns.sum) st
      | none => False
    | none => False
  | _ => False
theorem cv_sum (hc : X.calm = true) : CallV I X (.builtin "sum") fSum := by
  refine ⟨fun ps st Q Q' k h => ?_, fun pins s σ H vs us Q J r ⟨F, st, ps, w, rp, q⟩ => ?_⟩
  · unfold fSum at h ⊢
    split at h
    · split at h
      · split at h
        · exact k _ _ h
        · exact h
      · exact h
    · exact h
  · unfold fSum at q
    split at q
    · split at q
      · rename_i xs es
        split at q
        · rename_i bs eb
          obtain ⟨v, rfl, rv⟩ := one_of rp
          obtain ⟨a, us2, rfl, ha, ra⟩ := seqL_ok w rv es
          rw [ints_ok ra eb] at ha
          exact cr_sum hc pins s σ H _ us Q J r ⟨a, bs, rfl, ha, now w (show Rp X.K _ (.int _) (.int _) from rfl) q⟩
        · exact q.elim
      · exact q.elim
    · exact q.elim
@[irreducible] def fI2 (f : Int → Int → Int) : GF := fun ps st Q => match ps with
  | [.int i, .int j] => Q (.int (f i j)) st
  | _ => False
theorem cv_i2 {f : Int → Int → Int} (h : CallR X (.builtin id) fun xs H Q => ∃ i j, xs = [.int i, .int j] ∧ Q (.int (f i j)) H) : CallV I X (.builtin id) (fI2 f) := by
  refine ⟨fun ps st Q Q' k h => ?_, fun pins s σ H vs us Q J r ⟨F, st, ps, w, rp, q⟩ => ?_⟩
  · unfold fI2 at h ⊢
    split at h
    · exact k _ _ h
    · exact h
  · unfold fI2 at q
    split at q
    · rename_i i j
      obtain ⟨v, u, rfl, rv, ru⟩ := two_of rp
      rw [show v = .int i from rv, show u = .int j from ru] at r
      exact h pins s σ H _ us Q J r ⟨i, j, rfl, now w (show Rp X.K _ (.int _) (.int _) from rfl) q⟩
    · exact q.elim
theorem cv_max2 (hc : X.calm = true) : CallV I X (.builtin "max") (fI2 fun i j => if j > i then j else i) := cv_i2 (call_max2 hc)
theorem cv_min2 (hc : X.calm = true) : CallV I X (.builtin "min") (fI2 fun i j => if j < i then j else i) := cv_i2 (call_min2 hc)
/-! repr of data -/
@[irreducible] def fRepr : GF := fun ps st Q => match ps with
  | [p] => match datS st p with
    | some d => d.showable = true ∧ d.canLay0 = true ∧ d.depth ≤ 100 ∧ d.shown.length ≤ sizeLine ∧ Q (.str d.shown) st
    | none => False
  | _ => False
theorem cv_repr (hc : Calm X.A) (hr : Room 1 X.A) : CallV I X (.builtin "repr") fRepr := by
  refine ⟨fun ps st Q Q' k h => ?_, fun pins s σ H vs us Q J r ⟨F, st, ps, w, rp, q⟩ => ?_⟩
  · unfold fRepr at h ⊢
    split at h
    · split at h
      · exact ⟨h.1, h.2.1, h.2.2.1, h.2.2.2.1, k _ _ h.2.2.2.2⟩
      · exact h
    · exact h
  · unfold fRepr at q
    split at q
    · split at q
      · rename_i d ed
        obtain ⟨v, rfl, rv⟩ := one_of rp
        exact call_reprD hc hr pins s σ H _ us Q J r ⟨v, d, rfl, datS_ok w rv ed, q.1, q.2.1, q.2.2.1, q.2.2.2.1, now w (show Rp X.K _ (.str _) (.str _) from rfl) q.2.2.2.2⟩
      · exact q.elim
    · exact q.elim
/-! isinstance with one built-in type -/
def tyP : PV → Option String
  | .non => some "NoneType"
  | .bl _ => some "bool"
  | .int _ => some "int"
  | .str _ => some "str"
  | .tup _ => some "tuple"
  | .tq _ => some "tuple"
  | .lst _ => some "list"
  | .sq _ => some "list"
  | .cell _ => some "list"
  | _ => none
end
end Ev

namespace Ev
open PySem PySem.Spec PyProof.Rows L2 Own
/-! ### methods of lists -/
abbrev GM := PV → List PV → Sto → QV → Prop
def lMt (I : Hp → Prop) (K : PySem.W.Frag) (g : GM) : V → List V → Hp → VK → Prop := fun x vs H Q => ∃ F st p ps, Wd I K F st H ∧ Rp K (hd (Nn F st) H) x p ∧ RpAll K (hd (Nn F st) H) vs ps ∧ g p ps st (finE I K F st H Q)
structure MtV (I : Hp → Prop) (X : Cx) (id : String) (g : GM) : Prop where
  mono : ∀ p ps st Q Q', (∀ r s, Q r s → Q' r s) → g p ps st Q → g p ps st Q'
  mt : MtR X id (lMt I X.K g)
def gMt (g : GM) (o : GE) (a : GA) : GE := fun env st Q => o env st fun p s1 => (seqL s1 p).isSome = true ∧ a env s1 fun ps s2 => g p ps s2 Q
section
variable {I : Hp → Prop} {X : Cx} {K : PySem.W.Frag} {F : Addr → Prop} {st : Sto} {H G : Hp} {o e : Expr} {es : List Expr} {go : GE} {ga : GA} {g : GM} {name : Str} {apos cpos pos : Pos} {id : String}
theorem gMt_mono (hm : MtV I X id g) (ho : Mono go) (ha : MonoA ga) : Mono (gMt g go ga) := fun env st Q Q' k q => ho _ _ _ _ (fun _ _ z => ⟨z.1, ha _ _ _ _ (fun _ _ y => hm.mono _ _ _ _ _ k y) z.2⟩) q
theorem tyL (w : Wd I K F st H) {v : V} {p : PV} (r : Rp K (hd (Nn F st) H) v p) (h : (seqL st p).isSome = true) : tyV K "list" v H := by
  obtain ⟨xs, e⟩ := Option.isSome_iff_exists.mp h
  obtain ⟨a, us, rfl, ha, _⟩ := seqL_ok w r e
  exact .inl ⟨rfl, us, ha⟩
theorem ee_mt (slot : Slot "list" name id) (hty : typeOf (.builtin id) = pure (.type "method_descriptor")) (hm : MtV I X id g) (ho : EE I X o go) (ha : EA I X (e :: es) ga)
    (hbase : attributeBase o name X.env (eval o X.env) = eval o X.env := by rfl)
    (hfew : ((backTo cpos (starEach (e :: es) X.env)).all (fun x => !x.1) && (backToKw cpos (keywordEach [] X.env)).all (fun x => x.1.isSome)
      && decide ((e :: es).length + ([] : List Keyword).length + (if ([] : List Keyword).isEmpty then 0 else 1) < 30)) = true := by rfl)
    (hline : (apos.endLine == cpos.line) = true := by rfl) (hs : starEach (e :: es) X.env = (false, eval e X.env) :: starEach es X.env := by rfl) (hplain : (backTo cpos (starEach es X.env)).any (·.1) = false := by rfl) :
    EE I X (.Call (.Attribute o name apos) (e :: es) [] cpos) (gMt g go ga) := by
  refine ⟨gMt_mono hm ho.mono ha.mono, pe_imp (pe_bm PySem.F.plainAttrs_list slot hty hm.mt ho.pe ha.pa hbase hfew hline hs hplain) fun σ H Q ⟨F, st, env, w, ev, q⟩ => ?_⟩
  refine lE_of ho.mono w ev q fun p s1 h1 v H1 l1 w1 r1 => ⟨tyL w1 r1 h1.1, ?_⟩
  exact lA_of ha.mono w1 (ev.le l1) h1.2 fun ps s2 h2 vs H2 l2 w2 r2 => ⟨F, s2, p, ps, w2, Rp.same l2.same r1, r2, hm.mono _ _ _ _ _ (fun _ _ z => finE.le (l1.trans l2) z) h2⟩
theorem ee_mt0 (slot : Slot "list" name id) (hty : typeOf (.builtin id) = pure (.type "method_descriptor")) (hm : MtV I X id g) (ho : EE I X o go)
    (hbase : attributeBase o name X.env (eval o X.env) = eval o X.env := by rfl) (hline : (apos.endLine == cpos.line) = true := by rfl) : EE I X (.Call (.Attribute o name apos) [] [] cpos) (gMt g go aNil) := by
  refine ⟨gMt_mono hm ho.mono fun _ _ _ _ k h => k _ _ h, pe_imp (pe_bm0 PySem.F.plainAttrs_list slot hty hm.mt ho.pe hbase hline) fun σ H Q ⟨F, st, env, w, ev, q⟩ => ?_⟩
  exact lE_of ho.mono w ev q fun p s1 h1 v H1 l1 w1 r1 => ⟨tyL w1 r1 h1.1, F, s1, p, [], w1, r1, rfl, hm.mono _ _ _ _ _ (fun _ _ z => finE.le l1 z) h1.2⟩
@[irreducible] def fAppend : GM := fun p ps st Q => match p, ps with
  | .cell a, [x] => fz x st fun y s => match s a with
    | some (.lst xs) => xs.length ≤ 1000000 ∧ Q .non (s.put a (some (.lst (xs ++ [y]))))
    | _ => False
  | _, _ => False
@[irreducible] def fExtend : GM := fun p ps st Q => match p, ps with
  | .cell a, [x] => match st a, seqA st x with
    | some (.lst xs), some ys => xs.length + ys.length ≤ 1000000 ∧ Q .non (st.put a (some (.lst (xs ++ ys))))
    | _, _ => False
  | _, _ => False
@[irreducible] def fPop : GM := fun p ps st Q => match p, ps with
  | .cell a, [] => match st a with
    | some (.lst xs) => ∃ y, xs[xs.length - 1]? = some y ∧ Q y (st.put a (some (.lst xs.dropLast)))
    | _ => False
  | .cell a, [.int i] => match st a with
    | some (.lst xs) => ∃ k y, -(2 ^ 63) ≤ i ∧ i < 2 ^ 63 ∧ seqIndex? i xs.length = some k ∧ xs[k]? = some y ∧ Q y (st.put a (some (.lst (xs.eraseIdx k))))
    | _ => False
  | _, _ => False
theorem RpAll.dropLast : ∀ {ps : List PV} {vs : List V}, RpAll K G vs ps → RpAll K G vs.dropLast ps.dropLast := fun {ps vs} h => by
  rw [List.dropLast_eq_take, List.dropLast_eq_take, h.len]
  exact h.take _
theorem RpAll.eraseIdx {ps : List PV} {vs : List V} (h : RpAll K G vs ps) (k : Nat) : RpAll K G (vs.eraseIdx k) (ps.eraseIdx k) := by
  rw [List.eraseIdx_eq_take_drop_succ, List.eraseIdx_eq_take_drop_succ]
  exact (h.take k).app (h.drop (k + 1))
theorem mv_append (i0 : Inv0 I) : MtV I X "list.append" fAppend := by
  refine ⟨fun p ps st Q Q' k h => ?_, fun pins s σ H x vs v us Q J rx rv ⟨F, st, p, ps, w, hx, hp, q⟩ => ?_⟩
  · unfold fAppend at h ⊢
    split at h
    · refine fz_mono (fun y s z => ?_) h
      split at z
      · exact ⟨z.1, k _ _ z.2⟩
      · exact z
    · exact h
  · unfold fAppend at q
    split at q
    · rename_i a y0
      obtain ⟨u, rfl, ru⟩ := one_of hp
      obtain ⟨y, s2, l2, w2, r2, q⟩ := fz_ok w ru q
      split at q
      · rename_i xs es
        obtain ⟨ws, ha, ra⟩ := w2.at_ _ _ es
        refine mt_append pins s σ H x _ v us Q J rx rv ⟨a, ws, u, hx, rfl, ha, by rw [ra.len, sizeLine_eq]; have := q.1; omega, ?_⟩
        exact q.2 .non _ (l2.trans (Le.write w2 es)) (w2.write i0 es (ra.app (RpAll.one r2))) rfl
      · exact q.elim
    · exact q.elim
theorem mv_extend (i0 : Inv0 I) : MtV I X "list.extend" fExtend := by
  refine ⟨fun p ps st Q Q' k h => ?_, fun pins s σ H x vs v us Q J rx rv ⟨F, st, p, ps, w, hx, hp, q⟩ => ?_⟩
  · unfold fExtend at h ⊢
    split at h
    · split at h
      · exact ⟨h.1, k _ _ h.2⟩
      · exact h
    · exact h
  · unfold fExtend at q
    split at q
    · rename_i a y0
      obtain ⟨u, rfl, ru⟩ := one_of hp
      split at q
      · rename_i xs ys es ey
        obtain ⟨ws, ha, ra⟩ := w.at_ _ _ es
        obtain ⟨b, zs, rfl, hb, rb⟩ := seqA_ok w ru ey
        have fin := q.2 .non _ (Le.write w es) (w.write i0 es (ra.app rb)) rfl
        have ln : ws.length + zs.length ≤ sizeLine := by
          rw [ra.len, rb.len, sizeLine_eq]
          have := q.1
          omega
        rcases hb with hb | hb
        · exact mt_extL pins s σ H x _ v us Q J rx rv ⟨a, b, ws, zs, hx, rfl, ha, hb, ln, fin⟩
        · exact mt_extT pins s σ H x _ v us Q J rx rv ⟨a, b, ws, zs, hx, rfl, ha, hb, ln, fin⟩
      · exact q.elim
    · exact q.elim
theorem mv_pop (i0 : Inv0 I) : MtV I X "list.pop" fPop := by
  refine ⟨fun p ps st Q Q' k h => ?_, fun pins s σ H x vs v us Q J rx rv ⟨F, st, p, ps, w, hx, hp, q⟩ => ?_⟩
  · unfold fPop at h ⊢
    split at h
    · split at h
      · obtain ⟨y, a, b⟩ := h
        exact ⟨y, a, k _ _ b⟩
      · exact h
    · split at h
      · obtain ⟨j, y, a, b, c, d, e⟩ := h
        exact ⟨j, y, a, b, c, d, k _ _ e⟩
      · exact h
    · exact h
  · unfold fPop at q
    split at q
    · rename_i a
      split at q
      · rename_i xs es
        obtain ⟨y, hy, q⟩ := q
        obtain ⟨ws, ha, ra⟩ := w.at_ _ _ es
        obtain ⟨u, hu, ru⟩ := ra.get hy
        have l := Le.write (m' := .lst xs.dropLast) (o := .lst ws.dropLast) w es
        refine mt_pop pins s σ H x vs v us Q J rx rv ⟨a, ws, u, hx, hp, ha, by rw [ra.len]; exact hu, ?_⟩
        exact q u _ l (w.write i0 es ra.dropLast) (Rp.same l.same ru)
      · exact q.elim
    · rename_i a i
      split at q
      · rename_i xs es
        obtain ⟨j, y, c1, c2, c3, hy, q⟩ := q
        obtain ⟨ws, ha, ra⟩ := w.at_ _ _ es
        obtain ⟨u, hu, ru⟩ := ra.get hy
        obtain ⟨i', e1, e2⟩ := one_of hp
        rw [show i' = .int i from e2] at e1
        have l := Le.write (m' := .lst (xs.eraseIdx j)) (o := .lst (ws.eraseIdx j)) w es
        refine mt_popAt pins s σ H x vs v us Q J rx rv ⟨a, ws, i, j, u, hx, e1, ha, c1, c2, by rw [ra.len]; exact c3, hu, ?_⟩
        exact q u _ l (w.write i0 es (ra.eraseIdx j)) (Rp.same l.same ru)
      · exact q.elim
    · exact q.elim
/-! ### a[i] = e -/
@[irreducible] def vPut (o i x : PV) (st : Sto) (Q : Sto → Prop) : Prop := match o, i with
  | .cell a, .int i => fz x st fun y s => match s a with
    | some (.lst xs) => ∃ j, ixN xs.length i = some j ∧ Q (s.put a (some (.lst (xs.set j y))))
    | _ => False
  | _, _ => False
def gPut (ge go gi : GE) : GS := fun env st D => ge env st fun x s1 => go env s1 fun o s2 => gi env s2 fun i s3 => vPut o i x s3 fun s4 => D.nx env s4
theorem vPut_mono {o i x : PV} {st : Sto} {Q Q' : Sto → Prop} (k : ∀ s, Q s → Q' s) (h : vPut o i x st Q) : vPut o i x st Q' := by
  unfold vPut at h ⊢
  split at h
  · refine fz_mono (fun y s z => ?_) h
    split at z
    · obtain ⟨j, a, b⟩ := z
      exact ⟨j, a, k _ b⟩
    · exact z
  · exact h
theorem es_put {a i e : Expr} {ge go gi : GE} {tpos : Pos} (i0 : Inv0 I) (he : EE I X e ge) (ho : EE I X a go) (hi : EE I X i gi) (hs : swapsWithSole [.Subscript a i tpos] e pos.line X.env = pure false := by rfl) (hw : swappedStores [.Subscript a i tpos] e X.env = pure none := by rfl)
    (h1 : (assignEach [.Subscript a i tpos] X.env).map (·.2) = [assign (.Subscript a i tpos) X.env] := by rfl)
    (ha : ∀ v, assign (.Subscript a i tpos) X.env v = (do
      let ov ← holding [v] (eval a X.env)
      let iv ← holding [v, ov] (eval i X.env)
      standAt tpos
      holding [v, ov, iv] (setItem ov iv v)
      release [v, ov, iv] []) := by intro _; rfl) : ES I X (.Assign [.Subscript a i tpos] e pos) (gPut ge go gi) := by
  refine ⟨fun env st D D' k q => he.mono _ _ _ _ (fun _ _ z => ho.mono _ _ _ _ (fun _ _ y => hi.mono _ _ _ _ (fun _ _ x => vPut_mono (fun _ u => k.nx _ _ u) x) y) z) q, ps_imp (ps_asg he.pe (pg_sub ho.pe hi.pe set_list ha) hs hw h1) fun D σ H ⟨F, st, env, w, ev, q⟩ => ?_⟩
  refine lE_of he.mono w ev q fun x s1 z1 v H1 l1 w1 r1 => ?_
  refine lE_of ho.mono w1 (ev.le l1) z1 fun o s2 z2 ov H2 l2 w2 r2 => ?_
  refine lE_of hi.mono w2 ((ev.le l1).le l2) z2 fun j s3 z3 iv H3 l3 w3 r3 => ?_
  unfold vPut at z3
  split at z3
  · rename_i a i
    obtain ⟨y, s4, l4, w4, r4, q4⟩ := fz_ok w3 (Rp.same (l2.trans l3).same r1) z3
    split at q4
    · rename_i xs es
      obtain ⟨jj, hj, q4⟩ := q4
      obtain ⟨ws, hw, ra⟩ := w4.at_ _ _ es
      have l5 := Le.write (m' := .lst (xs.set jj y)) (o := .lst (ws.set jj v)) w4 es
      have lA := (((l1.trans l2).trans l3).trans l4).trans l5
      exact ⟨a, ws, i, jj, r2, r3, hw, by rw [ra.len]; exact hj, q4 σ _ lA (w4.write i0 es (RpAll.set r4 jj ra)) (ev.le lA)⟩
    · exact q4.elim
  · exact z3.elim
end
/-! ### what a loop walks -/
def itemsOf (p : PV) (s : Sto) (Q : List PV → (Sto → Prop) → Sto → Prop) : Prop := match p with
  | .tup xs => Q xs (fun _ => True) s
  | .tq xs => Q xs (fun _ => True) s
  | .lst xs => Q xs (fun _ => True) s
  | .sq xs => Q xs (fun _ => True) s
  | .cell a => match s a with
    | some (.lst xs) => Q xs (fun s' => s' a = some (.lst xs)) s
    | _ => False
  | .str z => Q (z.cps.toList.map fun c => .str ⟨#[c]⟩) (fun _ => True) s
  | _ => False
def gIt (g : GE) : GI := fun env st Q => g env st fun p s => itemsOf p s Q
section
variable {I : Hp → Prop} {X : Cx} {K : PySem.W.Frag} {F : Addr → Prop} {st : Sto} {H G : Hp} {pos : Pos} {tg e : Expr} {g : GE}
theorem itemsOf_mono {p : PV} {s : Sto} {Q Q' : List PV → (Sto → Prop) → Sto → Prop} (k : ∀ a b c, Q a b c → Q' a b c) (h : itemsOf p s Q) : itemsOf p s Q' := by
  unfold itemsOf at h ⊢
  split at h
  · exact k _ _ _ h
  · exact k _ _ _ h
  · exact k _ _ _ h
  · exact k _ _ _ h
  · split at h
    · exact k _ _ _ h
    · exact h
  · exact k _ _ _ h
  · exact h
theorem walkL (K : PySem.W.Frag) (a : Addr) (n : Nat) : Walk (Itl K a) n (fun H => ∃ us, us.length = n ∧ SqL K H a us) (fun i H x H' => H' = H ∧ ∀ us, SqL K H a us → us[i]? = some x) :=
  ⟨fun i H hi ⟨us, l, h⟩ => ⟨us, us[i], h, by simp [l, hi]⟩, fun H ⟨us, l, h⟩ => ⟨us, h, Nat.le_of_eq l⟩, fun i H x H' _ _ y => y⟩
theorem walkT (K : PySem.W.Frag) (a : Addr) (n : Nat) : Walk (Itt K a) n (fun H => ∃ us, us.length = n ∧ SqT K H a us) (fun i H x H' => H' = H ∧ ∀ us, SqT K H a us → us[i]? = some x) :=
  ⟨fun i H hi ⟨us, l, h⟩ => ⟨us, us[i], h, by simp [l, hi]⟩, fun H ⟨us, l, h⟩ => ⟨us, h, Nat.le_of_eq l⟩, fun i H x H' _ _ y => y⟩
theorem we_list {st1 : Sto} {H1 : Hp} {a : Addr} {us : List V} {xs : List PV} (ha : SqL K (hd (Nn F st1) H1) a us) (ra : RpAll K (hd (Nn F st1) H1) us xs) : WalkE I K F st1 H1 (Itl K a) xs fun _ => True := by
  refine ⟨_, _, walkL K a xs.length, fun st' H' l w _ => ⟨us, ra.len, lstS hd_same (lstS l.same ha)⟩, fun _ _ h => h, fun i st' H' x H'' l w _ hi ⟨e, y⟩ => ?_⟩
  obtain ⟨p, hp, rp⟩ := (RpAll.same l.same ra).ofV (y us (lstS hd_same (lstS l.same ha)))
  exact ⟨p, hp, by rw [e]; exact rp, .inl e⟩
theorem we_tup {st1 : Sto} {H1 : Hp} {a : Addr} {us : List V} {xs : List PV} (ha : SqT K (hd (Nn F st1) H1) a us) (ra : RpAll K (hd (Nn F st1) H1) us xs) : WalkE I K F st1 H1 (Itt K a) xs fun _ => True := by
  refine ⟨_, _, walkT K a xs.length, fun st' H' l w _ => ⟨us, ra.len, tupS hd_same (tupS l.same ha)⟩, fun _ _ h => h, fun i st' H' x H'' l w _ hi ⟨e, y⟩ => ?_⟩
  obtain ⟨p, hp, rp⟩ := (RpAll.same l.same ra).ofV (y us (tupS hd_same (tupS l.same ha)))
  exact ⟨p, hp, by rw [e]; exact rp, .inl e⟩
theorem we_cell {st1 : Sto} {H1 : Hp} {a : Addr} {xs : List PV} : WalkE I K F st1 H1 (Itl K a) xs fun s' => s' a = some (.lst xs) := by
  refine ⟨_, _, walkL K a xs.length, fun st' H' l w g => ?_, fun s b h => ?_, fun i st' H' x H'' l w g hi ⟨e, y⟩ => ?_⟩
  · obtain ⟨us, ha, ra⟩ := w.at_ _ _ g
    exact ⟨us, ra.len, SqL.of ha⟩
  · by_cases z : a = b
    · have h : (s.put b none) a = some (.lst xs) := h
      rw [z, put_at] at h
      cases h
    · have h : (s.put b none) a = some (.lst xs) := h
      rw [put_ne z] at h
      exact h
  · obtain ⟨us, ha, ra⟩ := w.at_ _ _ g
    obtain ⟨p, hp, rp⟩ := ra.ofV (y us (SqL.of ha))
    exact ⟨p, hp, by rw [e]; exact rp, .inl e⟩
theorem we_str {st1 : Sto} {H1 : Hp} {z : Str} : WalkE I K F st1 H1 (Its z) (z.cps.toList.map fun c => .str ⟨#[c]⟩) fun _ => True := by
  have wk : Walk (Its z) (z.cps.toList.map fun c => PV.str ⟨#[c]⟩).length (fun _ => True) (fun i H v H' => H' = H ∧ ∃ c, z.cps[i]? = some c ∧ v = .str ⟨#[c]⟩) := by
    rw [List.length_map, Array.length_toList]
    exact walk_str
  refine ⟨_, _, wk, fun _ _ _ _ _ => trivial, fun _ _ h => h, fun i st' H' x H'' l w _ hi ⟨e, c, hc, ex⟩ => ?_⟩
  exact ⟨.str ⟨#[c]⟩, by rw [List.getElem?_map, Array.getElem?_toList, hc]; rfl, ex, .inl e⟩
theorem ei_it (h : EE I X e g) : EI I X tg e (gIt g) := by
  refine ⟨fun env st Q Q' k q => h.mono _ _ _ _ (fun _ _ z => itemsOf_mono k z) q, ⟨fun pins s σ H R J ⟨F, st, env, w, ev, q⟩ => ?_⟩⟩
  have q2 := h.pe.run pins s σ H (fun x H1 => (∃ a us, x = .ref a ∧ SqL X.K H1 a us ∧ R (Itl X.K a) H1) ∨ (∃ a us, x = .ref a ∧ SqT X.K H1 a us ∧ R (Itt X.K a) H1) ∨ ∃ z, x = .str z ∧ R (Its z) H1) J (lE_of h.mono w ev q fun p s1 z v H1 l1 w1 r1 => ?_)
  · refine thn q2 fun v s1 ⟨x, H1, I1, r1, q1⟩ => ?_
    rcases q1 with ⟨a, us, rfl, hq, q1⟩ | ⟨a, us, rfl, hq, q1⟩ | ⟨z, rfl, q1⟩
    · cases r1
      obtain ⟨its, rv, p, hz⟩ := I1.list hq
      refine wpAny_pyIter_list p.isList ?_
      refine ⟨s1.heap.objs.size, [s1.heap.objs.size], _, _, H1, rfl, I1.kept (t' := s1.toks) fun b o e => Heap.get?_push_of_some _ e, turn_list a _, ⟨_, Heap.get?_push_size _ rfl, rfl, rfl⟩, fun b hb => ?_, q1⟩
      have e : b = s1.heap.objs.size := by simpa using hb
      subst e
      exact I1.fpOk (Nat.le_refl _) (I1.hok.fresh (Nat.le_refl _))
    · cases r1
      obtain ⟨its, rv, p, hz⟩ := I1.tuple hq
      refine wpAny_pyIter_tuple (show s1.heap.IsTuple a its.toArray from p) ?_
      refine ⟨s1.heap.objs.size, [s1.heap.objs.size], _, _, H1, rfl, I1.kept (t' := s1.toks) fun b o e => Heap.get?_push_of_some _ e, turn_tuple a _, ⟨_, Heap.get?_push_size _ rfl, rfl, rfl⟩, fun b hb => ?_, q1⟩
      have e : b = s1.heap.objs.size := by simpa using hb
      subst e
      exact I1.fpOk (Nat.le_refl _) (I1.hok.fresh (Nat.le_refl _))
    · obtain ⟨t, rfl⟩ := r1
      cases ha : z.cps.all (· < 128)
      · exact wpAny_pyIter_wide ha (pi_one (tk := s1.toks) I1 _ (turn_str _ z t "str_iterator" (.inr rfl)) ⟨_, Heap.get?_push_size _ rfl, rfl, rfl⟩ q1)
      · exact wpAny_pyIter_ascii ha (pi_one (tk := s1.toks) I1 _ (turn_str _ z t "str_ascii_iterator" (.inl rfl)) ⟨_, Heap.get?_push_size _ rfl, rfl, rfl⟩ q1)
  · unfold itemsOf at z
    split at z
    · obtain ⟨a, us, ea, ha, ra⟩ := r1
      exact .inr (.inl ⟨a, us, ea, SqT.of (hd_same _ _ ha), z _ H1 l1 w1 (we_tup (SqT.of ha) ra)⟩)
    · obtain ⟨a, us, ea, ha, ra⟩ := r1
      exact .inr (.inl ⟨a, us, ea, tupS hd_same ha, z _ H1 l1 w1 (we_tup ha ra)⟩)
    · obtain ⟨a, us, ea, ha, ra⟩ := r1
      exact .inl ⟨a, us, ea, SqL.of (hd_same _ _ ha), z _ H1 l1 w1 (we_list (SqL.of ha) ra)⟩
    · obtain ⟨a, us, ea, ha, ra⟩ := r1
      exact .inl ⟨a, us, ea, lstS hd_same ha, z _ H1 l1 w1 (we_list ha ra)⟩
    · rename_i a
      split at z
      · rename_i xs es
        obtain ⟨us, ha, ra⟩ := w1.at_ _ _ es
        exact .inl ⟨a, us, r1, SqL.of ha, z _ H1 l1 w1 we_cell⟩
      · exact z.elim
    · rename_i zz
      exact .inr (.inr ⟨zz, r1, z _ H1 l1 w1 we_str⟩)
    · exact z.elim
theorem pi_imp {X : Cx} {tg it : Expr} {t t' : TI} (h : PI X tg it t) (i : ∀ σ H R, t' σ H R → t σ H R) : PI X tg it t' := ⟨fun pins s σ H R I q => h.run pins s σ H R I (i σ H R q)⟩
/-- lo, lo + 1, .. -/
def rngP (lo : Int) (n : Nat) : List PV := (List.range n).map fun (k : Nat) => .int (lo + k)
theorem rng_len {lo : Int} {n : Nat} : (rngP lo n).length = n := by
  unfold rngP
  rw [List.length_map, List.length_range]
theorem we_rng {st1 : Sto} {H1 : Hp} {lo : Int} {n : Nat} : WalkE I K F st1 H1 (Itr lo n) (rngP lo n) fun _ => True := by
  have wk : Walk (Itr lo n) (rngP lo n).length (fun _ => True) (YFn fun i => .int (lo + i)) := by
    rw [rng_len]
    exact walk_range
  refine ⟨_, _, wk, fun _ _ _ _ _ => trivial, fun _ _ h => h, fun i st' H' x H'' l w _ hi ⟨e, ex⟩ => ?_⟩
  rw [rng_len] at hi
  exact ⟨.int (lo + i), by unfold rngP; rw [List.getElem?_map, List.getElem?_range hi]; rfl, ex, .inl e⟩
def gRng1 (a : GA) : GI := fun env st Q => a env st fun ps s => match ps with
  | [.int j] => (-(2 ^ 62) ≤ j ∧ j < 2 ^ 62) ∧ Q (rngP 0 j.toNat) (fun _ => True) s
  | _ => False
def gRng2 (a : GA) : GI := fun env st Q => a env st fun ps s => match ps with
  | [.int i, .int j] => (-(2 ^ 62) ≤ i ∧ i < 2 ^ 62 ∧ -(2 ^ 62) ≤ j ∧ j < 2 ^ 62) ∧ Q (rngP i (j - i).toNat) (fun _ => True) s
  | _ => False
theorem ei_range1 {a : Expr} {ga : GA} {p : Pos} (hg : Gl X "range") (hm : X.mg "range" = none) (ha : EA I X [a] ga) (hs : starEach [a] X.env = [(false, eval a X.env)] := by rfl) : EI I X tg (.Call (.Name "range" p) [a] [] pos) (gRng1 ga) := by
  refine ⟨fun env st Q Q' k q => ha.mono _ _ _ _ (fun ps s z => ?_) q, pi_imp (pi_range1 hg hm ha.pa hs) fun σ H R ⟨F, st, env, w, ev, q⟩ => ?_⟩
  · split at z
    · exact ⟨z.1, k _ _ _ z.2⟩
    · exact z
  · refine lA_of ha.mono w ev q fun ps s z vs H' l w' r => ?_
    split at z
    · rename_i j
      obtain ⟨v, rfl, rv⟩ := one_of r
      exact ⟨j, by rw [show v = .int j from rv], z.1.1, z.1.2, z.2 _ H' l w' we_rng⟩
    · exact z.elim
theorem ei_range2 {a b : Expr} {ga : GA} {p : Pos} (hg : Gl X "range") (hm : X.mg "range" = none) (ha : EA I X [a, b] ga) (hs : starEach [a, b] X.env = [(false, eval a X.env), (false, eval b X.env)] := by rfl) (hs2 : starEach [b] X.env = [(false, eval b X.env)] := by rfl) :
    EI I X tg (.Call (.Name "range" p) [a, b] [] pos) (gRng2 ga) := by
  refine ⟨fun env st Q Q' k q => ha.mono _ _ _ _ (fun ps s z => ?_) q, pi_imp (pi_range2 hg hm ha.pa hs hs2) fun σ H R ⟨F, st, env, w, ev, q⟩ => ?_⟩
  · split at z
    · exact ⟨z.1, k _ _ _ z.2⟩
    · exact z
  · refine lA_of ha.mono w ev q fun ps s z vs H' l w' r => ?_
    split at z
    · rename_i i j
      obtain ⟨v, u, rfl, rv, ru⟩ := two_of r
      exact ⟨i, j, by rw [show v = .int i from rv, show u = .int j from ru], z.1, z.2 _ H' l w' we_rng⟩
    · exact z.elim
end
/-! ### defs -/
/-- weakened at will -/
def up (g : GF) (ps : List PV) (st : Sto) (Q : QV) : Prop := ∃ Q1, g ps st Q1 ∧ ∀ r s, Q1 r s → Q r s
theorem up.of {g : GF} {ps : List PV} {st : Sto} {Q : QV} (h : g ps st Q) : up g ps st Q := ⟨Q, h, fun _ _ q => q⟩
theorem up.mono {g : GF} : MonoF (up g) := fun ps st Q Q' k ⟨Q1, h, i⟩ => ⟨Q1, h, fun r s q => k _ _ (i r s q)⟩
def spE (I : Hp → Prop) (K : PySem.W.Frag) (g : GF) : Sp := fun vs H Q _ => ∃ F st ps, Wd I K F st H ∧ RpAll K (hd (Nn F st) H) vs ps ∧ up g ps st (finE I K F st H Q)
/-- a body as a function of its arguments -/
def gFun (n m : Nat) (b : GS) : GF := fun ps st Q => ps.length = m ∧ b (ps.map some ++ List.replicate (n - ps.length) none) st { nx := fun _ s => Q .non s, rt := Q }
def gCall (g : GF) (a : GA) : GE := fun env st Q => a env st fun ps s => up g ps s Q
section
variable {I : Hp → Prop} {X : Cx} {K : PySem.W.Frag}
theorem evr_start {G : Hp} {N : List Str} {vs : List V} {ps : List PV} (r : RpAll K G vs ps) : EvR K G (L2.start N vs) (ps.map some ++ List.replicate (N.length - ps.length) none) := by
  unfold L2.start
  refine ⟨by rw [List.length_append, List.length_append, List.length_map, List.length_map, List.length_replicate, List.length_replicate, r.len], fun i p e => ?_⟩
  by_cases h : i < ps.length
  · rw [List.getElem?_append_left (by rw [List.length_map]; exact h), List.getElem?_map] at e
    obtain ⟨q, hq, e2⟩ := Option.map_eq_some_iff.mp e
    cases e2
    obtain ⟨v, hv, rv⟩ := r.get hq
    refine ⟨v, ?_, rv⟩
    rw [List.getElem?_append_left (by rw [List.length_map, r.len]; exact h), List.getElem?_map, hv]
    rfl
  · rw [List.getElem?_append_right (by rw [List.length_map]; omega), List.getElem?_replicate] at e
    split at e
    · cases e
    · cases e
theorem ok_E {P : Program} {w : World} {mg : Str → Option Value} {base : Heap} {x qual : Str} {st : Stmt} {f : Addr} {fd : FuncData} {N ps : List Str} {k : Nat} {gb : GS} (F : Fun K x qual st f fd) (S : FnScope N ps (defScope st))
    (hbody : ∀ (cdv : Value) (A : Around) (out : List PySem.Env) (s : Shared) (H : Hp) (E : XK), Calm (A.deeper (envOfC qual (defScope st) s.heap.objs.size f cdv)) → Room k (A.deeper (envOfC qual (defScope st) s.heap.objs.size f cdv)) →
      ESs I (cxOf CX0 P w K mg base N qual (defScope st) f cdv A out s H E).nox (defBody st) gb) : FnG P w K mg base (k + 1) f fd ps (spE I K (gFun N.length ps.length gb)) := by
  refine okG F S (fun vs H Q E ⟨F0, st0, qs, w0, r0, Q1, h, _⟩ => by rw [r0.len]; exact h.1) fun cdv A out s H vs Q E hc hr ⟨F0, st0, qs, w0, r0, Q1, h, i⟩ => ?_
  have B := hbody cdv A out s H E hc hr
  refine ⟨_, B.ps, F0, st0, _, w0, evr_start r0, ?_⟩
  refine B.mono _ _ _ _ ?_ h.2
  exact ⟨fun e s z σ' H' l w' _ => i .non s z .non H' l w' rfl, fun r s z => i r s z, fun _ _ z => z.elim, fun _ _ z => z.elim⟩
theorem ee_call {k : Nat} {f : Addr} {fd : FuncData} {names : List Str} {g : GF} {ga : GA} {x : Str} {p pos : Pos} {e : Expr} {es : List Expr} (G : FnG X.prog X.w X.K X.mg X.base k f fd names (spE I X.K g)) (hc : Calm X.A) (hr : Room k X.A) (hg : Gl X x) (hm : X.mg x = some (.ref f)) (hk : PySem.W.keepIn X.K (.ref f) = true) (hb : Binds X.K fd names [])
    (ha : EA I X (e :: es) ga) (hdb : (x == ("__debug__" : Str)) = false := by decide) (hst : starEach (e :: es) X.env = (false, eval e X.env) :: starEach es X.env := by rfl) (hno : (backTo pos (starEach es X.env)).any (·.1) = false := by rfl) :
    EE I X (.Call (.Name x p) (e :: es) [] pos) (gCall g ga) := by
  refine ⟨fun env st Q Q' k q => ha.mono _ _ _ _ (fun _ _ z => up.mono _ _ _ _ k z) q, pe_imp (pe_callG (E := E0) G hc hr hg hm hk hb ha.pa hdb hst hno) fun σ H Q ⟨F, st, env, w, ev, q⟩ => ?_⟩
  refine lA_of ha.mono w ev q fun ps s z vs H' l w' r => ?_
  show spE I X.K g (vs ++ []) H' Q E0
  rw [List.append_nil]
  exact ⟨F, s, ps, w', r, up.mono _ _ _ _ (fun _ _ y => finE.le l y) z⟩
end
end Ev

namespace Ev
open PySem PySem.Spec PyProof.Rows L2 Own
/-- a def that is known by name, with what it does -/
def Dfn (I : Hp → Prop) (P : Program) (w : World) (K : PySem.W.Frag) (mg : Str → Option Value) (base : Heap) (x : Str) (k : Nat) (ps : List Str) (g : GF) : Prop :=
  ∃ f fd, FnG P w K mg base k f fd ps (spE I K g) ∧ PySem.W.keepIn K (.ref f) = true ∧ Binds K fd ps [] ∧ mg x = some (.ref f)
section
variable {I : Hp → Prop} {X : Cx}
theorem ee_callD {k j : Nat} {names : List Str} {g : GF} {ga : GA} {x : Str} {p pos : Pos} {e : Expr} {es : List Expr} (D : Dfn I X.prog X.w X.K X.mg X.base x k names g) (hc : Calm X.A) (hr : Room j X.A) (hj : k ≤ j) (hg : Gl X x)
    (ha : EA I X (e :: es) ga) (hdb : (x == ("__debug__" : Str)) = false := by decide) (hst : starEach (e :: es) X.env = (false, eval e X.env) :: starEach es X.env := by rfl) (hno : (backTo pos (starEach es X.env)).any (·.1) = false := by rfl) :
    EE I X (.Call (.Name x p) (e :: es) [] pos) (gCall g ga) := by
  obtain ⟨f, fd, G, hk, hb, hm⟩ := D
  exact ee_call G hc (hr.mono hj) hg hm hk hb ha hdb hst hno
end
/-! a step by a def's lemma -/
theorem up_of {g : GF} {ps : List PV} {st : Sto} {Q Q1 : QV} (h : g ps st Q1) (k : ∀ r s, Q1 r s → Q r s) : up g ps st Q := ⟨Q1, h, k⟩
theorem ite_true' {A B : Prop} (h : A) : (if true = true then A else B) := by
  rw [if_pos rfl]
  exact h
theorem ite_false' {A B : Prop} (h : B) : (if false = true then A else B) := by
  rw [if_neg Bool.false_ne_true]
  exact h
/-! loops, by a word -/
theorem for_by {gd : Sto → Prop} {t : TP} {b : GS} {items : List PV} {D : GEnds} (Pv : Nat → Env → Sto → Prop) (hg : ∀ i e s, i ≤ items.length → Pv i e s → gd s)
    (turn : ∀ i p e s, items[i]? = some p → Pv i e s → t p e fun e2 => b e2 s { D with nx := Pv (i + 1), ct := Pv (i + 1), bk := D.nx })
    (done : ∀ e s, Pv items.length e s → D.nx e s) : ∀ {e : Env} {s : Sto}, Pv 0 e s → gForL gd t b items e s D := by
  have go : ∀ (n i : Nat) (e : Env) (s : Sto), items.length = i + n → Pv i e s → gForL gd t b (items.drop i) e s D := by
    intro n
    induction n with
    | zero =>
      intro i e s h p
      have : i = items.length := by omega
      subst this
      rw [List.drop_length]
      exact ⟨hg _ e s (Nat.le_refl _) p, done e s p⟩
    | succ n ih =>
      intro i e s h p
      have hi : i < items.length := by omega
      rw [List.drop_eq_getElem_cons hi]
      refine ⟨hg i e s (by omega) p, _, turn i items[i] e s (List.getElem?_eq_getElem hi) p, fun e2 z => ⟨_, z, ?_⟩⟩
      exact ⟨fun e3 s3 q => ih (i + 1) e3 s3 (by omega) q, fun _ _ q => q, fun _ _ q => q, fun e3 s3 q => ih (i + 1) e3 s3 (by omega) q⟩
  intro e s p
  have := go items.length 0 e s (by omega) p
  rw [List.drop_zero] at this
  exact this
/-- a comprehension, by a word over what is made -/
theorem lc_by {gd : Sto → Prop} {t : TP} {c : GT} {g : GE} {items : List PV} {env : Env} {Q : QV} (Pv : Nat → List PV → Sto → Prop) (hg : ∀ i acc s, i ≤ items.length → Pv i acc s → gd s)
    (turn : ∀ i p acc s, items[i]? = some p → Pv i acc s → upP t p env fun e => upT c e s fun b s2 => match b with
      | true => upE g e s2 fun y s3 => fz y s3 fun z s4 => Pv (i + 1) (acc ++ [z]) s4
      | false => Pv (i + 1) acc s2)
    (done : ∀ acc s, Pv items.length acc s → Q (.lst acc) s) : ∀ {s : Sto}, Pv 0 [] s → gLcL gd t c g items [] env s Q := by
  have go : ∀ (n i : Nat) (acc : List PV) (s : Sto), items.length = i + n → Pv i acc s → gLcL gd t c g (items.drop i) acc env s Q := by
    intro n
    induction n with
    | zero =>
      intro i acc s h p
      have : i = items.length := by omega
      subst this
      rw [List.drop_length]
      exact ⟨hg _ acc s (Nat.le_refl _) p, done acc s p⟩
    | succ n ih =>
      intro i acc s h p
      have hi : i < items.length := by omega
      rw [List.drop_eq_getElem_cons hi]
      refine ⟨hg i acc s (by omega) p, upP.mono (fun e2 z => upT.mono (fun b s2 y => ?_) z) (turn i items[i] acc s (List.getElem?_eq_getElem hi) p)⟩
      cases b with
      | true => exact upE.mono (fun v s3 x => fz_mono (fun z s4 u => ih (i + 1) (acc ++ [z]) s4 (by omega) u) x) y
      | false => exact ih (i + 1) acc s2 (by omega) y
  intro s p
  have := go items.length 0 [] s (by omega) p
  rw [List.drop_zero] at this
  exact this
end Ev
namespace Ev
open PySem PySem.Spec PyProof.Rows L2 Own
end Ev

namespace Ev
open PySem PySem.Spec PyProof.Rows L2 Own
/-! ### what the operations give, as steps -/
section
variable {st : Sto} {Q : QV} {i j : Int} {a b : Str} {xs ys : List PV} {x y p : PV}
theorem add_int' (h : Q (.int (i + j)) st) : vAdd (.int i) (.int j) st Q := by unfold vAdd; exact h
theorem add_str' (l : a.length + b.length ≤ 1000000) (h : Q (.str (a ++ b)) st) : vAdd (.str a) (.str b) st Q := by unfold vAdd; exact ⟨by rw [sizeLine_eq]; omega, h⟩
theorem add_tup' (e1 : tupOf x = some xs) (e2 : tupOf y = some ys) (l : xs.length + ys.length ≤ 1000000) (h : Q (.tq (xs ++ ys)) st) : vAdd x y st Q := by
  unfold vAdd
  split
  · cases e1
  · cases e1
  · rw [e1, e2]
    exact ⟨l, h⟩
theorem seqL_not {x : PV} {xs : List PV} (h : seqL st x = some xs) : tupOf x = none ∧ (∀ i, x ≠ .int i) ∧ ∀ z, x ≠ .str z := by
  cases x with
  | tup _ => cases h
  | tq _ => cases h
  | int _ => cases h
  | str _ => cases h
  | _ => exact ⟨rfl, (fun _ z => nomatch z), fun _ z => nomatch z⟩
theorem add_lst' (e1 : seqL st x = some xs) (e2 : seqL st y = some ys) (l : xs.length + ys.length ≤ 1000000) (h : Q (.lst (xs ++ ys)) st) : vAdd x y st Q := by
  obtain ⟨n1, n2, n3⟩ := seqL_not e1
  unfold vAdd
  split
  · exact absurd rfl (n2 _)
  · exact absurd rfl (n3 _)
  · rw [n1]
    simp only [e1, e2]
    exact ⟨l, h⟩
theorem int' {C : Int → Int → Prop} {f : Int → Int → PV} (c : C i j) (h : Q (f i j) st) : vI C f (.int i) (.int j) st Q := by unfold vI; exact ⟨c, h⟩
theorem eq_int' {n : Bool} (h : Q (.bl (xor n (decide (i = j)))) st) : vEq n (.int i) (.int j) st Q := by unfold vEq; exact h
theorem eq_str' {n : Bool} (h : Q (.bl (xor n (decide (a = b)))) st) : vEq n (.str a) (.str b) st Q := by unfold vEq; exact h
theorem eq_dat' {n : Bool} {d e : PyData} (nd : (∀ i, x ≠ .int i) ∧ (∀ z, x ≠ .str z) ∧ ∀ t, x ≠ .bl t) (e1 : datS st x = some d) (e2 : datS st y = some e) (o1 : deepOk d = true) (o2 : deepOk e = true) (h : Q (.bl (xor n (PyData.eqv d e))) st) : vEq n x y st Q := by
  unfold vEq
  split
  · exact absurd rfl (nd.1 _)
  · exact absurd rfl (nd.2.1 _)
  · exact absurd rfl (nd.2.2 _)
  · rw [e1, e2]
    exact ⟨o1, o2, h⟩
/-- data against data, equal -/
theorem eq_same' {n : Bool} {d : PyData} (e1 : datS st x = some d) (e2 : datS st y = some d) (o : deepOk d = true) (h : Q (.bl (xor n true)) st) : vEq n x y st Q := by
  unfold vEq
  split
  · rename_i i j
    cases e1
    cases e2
    rw [decide_eq_true rfl]
    exact h
  · rename_i i j
    cases e1
    cases e2
    rw [decide_eq_true rfl]
    exact h
  · rename_i i j
    cases e1
    cases e2
    rw [decide_eq_true rfl]
    exact h
  · rw [e1, e2]
    refine ⟨o, o, ?_⟩
    rw [SeqAt.eqv_refl d (deepOk.lay o)]
    exact h
theorem is_non' {n : Bool} (o : ∀ R, x ≠ .ob R) (h : Q (.bl (xor n (isNonP x))) st) : vIs n x .non st Q := by unfold vIs; exact ⟨o, h⟩
theorem in_dic' {n : Bool} {ks : List (Str × PV)} (h : Q (.bl (xor n (hasKey ks a))) st) : vIn n (.str a) (.dic ks) st Q := by unfold vIn; exact h
theorem in_seq' {n : Bool} {v : V} {vs : List V} (e1 : seqA st y = some ys) (e2 : flatP x = some v) (e3 : flatAll ys = some vs) (h : Q (.bl (xor n (inV v vs))) st) : vIn n x y st Q := by
  unfold vIn
  split
  · cases e1
  · rw [e1]
    simp only [e2, e3]
    exact h
theorem ix_seq' (e1 : seqA st x = some xs) (e2 : atI xs i = some p) (h : Q p st) : vIx x (.int i) st Q := by
  unfold vIx
  split
  · cases e1
  · rename_i q
    cases q
  · rename_i q _ k
    cases k
    rw [e1]
    show match atI xs i with
      | some p => Q p st
      | none => False
    rw [e2]
    exact h
  · rename_i q1 q2 q3
    first
      | exact (q1 _ rfl).elim
      | exact (q2 _ rfl).elim
      | exact (q3 _ rfl).elim
      | exact (q1 i rfl).elim
      | exact (q1 rfl).elim
theorem ix_dic' {ks : List (Str × PV)} (e : lookP ks a = some p) (h : Q p st) : vIx (.dic ks) (.str a) st Q := by
  unfold vIx
  show match lookP ks a with
    | some p => Q p st
    | none => False
  rw [e]
  exact h
theorem ix_str' {c : Nat} (l : a.length ≤ 1000000) (e : atI a.cps.toList i = some c) (h : Q (.str ⟨#[c]⟩) st) : vIx (.str a) (.int i) st Q := by
  unfold vIx
  exact ⟨c, by rw [sizeLine_eq]; omega, e, h⟩
variable {lo hi : Option Int}
theorem sl_tup' (e : tupOf x = some xs) (h : Q (.tq (cutP xs lo hi)) st) : vSl x lo hi st Q := by
  unfold vSl
  split
  · cases e
  · rw [e]
    exact h
theorem sl_lst' (h : Q (.lst (cutP xs lo hi)) st) : vSl (.lst xs) lo hi st Q := by unfold vSl; exact h
theorem sl_str' (l : a.length ≤ 1000000) (h : Q (.str (cutS a lo hi)) st) : vSl (.str a) lo hi st Q := by unfold vSl; exact ⟨by rw [sizeLine_eq]; omega, h⟩
theorem len_seq' (e : seqA st x = some xs) (h : Q (.int xs.length) st) : fLen [x] st Q := by
  unfold fLen
  split
  · rename_i q
    cases q
    cases e
  · rename_i q
    cases q
    rw [e]
    exact h
  · rename_i q
    exact absurd rfl (q x)
theorem len_str' (l : a.length ≤ 1000000) (h : Q (.int a.length) st) : fLen [.str a] st Q := by unfold fLen; exact ⟨by rw [sizeLine_eq]; omega, h⟩
theorem list' (e : seqA st x = some xs) (h : Q (.lst xs) st) : fList [x] st Q := by
  unfold fList
  show match seqA st x with
    | some xs => Q (.lst xs) st
    | none => False
  rw [e]
  exact h
theorem listC' (e : seqA st x = some xs) (h : newCell xs st Q) : fListC [x] st Q := by
  unfold fListC
  show match seqA st x with
    | some xs => newCell xs st Q
    | none => False
  rw [e]
  exact h
theorem tupleT' (e : tupOf x = some xs) (h : Q (.tq xs) st) : fTuple [x] st Q := by
  unfold fTuple
  show match tupOf x with
    | some xs => Q (.tq xs) st
    | none => match seqL st x with
      | some xs => Q (.tup xs) st
      | none => False
  rw [e]
  exact h
theorem tuple' (e : seqL st x = some xs) (h : Q (.tup xs) st) : fTuple [x] st Q := by
  unfold fTuple
  show match tupOf x with
    | some xs => Q (.tq xs) st
    | none => match seqL st x with
      | some xs => Q (.tup xs) st
      | none => False
  rw [(seqL_not e).1]
  simp only [e]
  exact h
theorem bools' {f : List Bool → Bool} {bs : List Bool} (e : seqL st x = some xs) (e2 : boolsP xs = some bs) (h : Q (.bl (f bs)) st) : fBools f [x] st Q := by
  unfold fBools
  show match seqL st x with
    | some xs => match boolsP xs with
      | some bs => Q (.bl (f bs)) st
      | none => False
    | none => False
  rw [e]
  show match boolsP xs with
      | some bs => Q (.bl (f bs)) st
      | none => False
  rw [e2]
  exact h
theorem sum' {ns : List Int} (e : seqL st x = some xs) (e2 : intsP xs = some ns) (h : Q (.int ns.sum) st) : fSum [x] st Q := by
  unfold fSum
  show match seqL st x with
    | some xs => match intsP xs with
      | some ns => Q (.int ns.sum) st
      | none => False
    | none => False
  rw [e]
  show match intsP xs with
      | some ns => Q (.int ns.sum) st
      | none => False
  rw [e2]
  exact h
theorem i2' {f : Int → Int → Int} (h : Q (.int (f i j)) st) : fI2 f [.int i, .int j] st Q := by unfold fI2; exact h
theorem repr' {d : PyData} (e : datS st x = some d) (s : d.showable = true) (l : d.canLay0 = true) (dp : d.depth ≤ 100) (n : d.shown.length ≤ sizeLine) (h : Q (.str d.shown) st) : fRepr [x] st Q := by
  unfold fRepr
  show match datS st x with
    | some d => d.showable = true ∧ d.canLay0 = true ∧ d.depth ≤ 100 ∧ d.shown.length ≤ sizeLine ∧ Q (.str d.shown) st
    | none => False
  rw [e]
  exact ⟨s, l, dp, n, h⟩
theorem append' {c : Addr} {y : PV} (nc : ∀ d, y ≠ .cell d) (e : st c = some (.lst xs)) (l : xs.length ≤ 1000000) (h : Q .non (st.put c (some (.lst (xs ++ [y]))))) : fAppend (.cell c) [y] st Q := by
  unfold fAppend
  show fz y st fun y s => match s c with
    | some (.lst xs) => xs.length ≤ 1000000 ∧ Q .non (s.put c (some (.lst (xs ++ [y]))))
    | _ => False
  unfold fz
  split
  · exact absurd rfl (nc _)
  · simp only [e]
    exact ⟨l, h⟩
theorem pop' {c : Addr} (e : st c = some (.lst xs)) (e2 : xs[xs.length - 1]? = some y) (h : Q y (st.put c (some (.lst xs.dropLast)))) : fPop (.cell c) [] st Q := by
  unfold fPop
  show match st c with
    | some (.lst xs) => ∃ y, xs[xs.length - 1]? = some y ∧ Q y (st.put c (some (.lst xs.dropLast)))
    | _ => False
  rw [e]
  exact ⟨y, e2, h⟩
theorem popAt' {c : Addr} {k : Nat} (e : st c = some (.lst xs)) (hk : k < 1000000000) (e2 : xs[k]? = some y) (h : Q y (st.put c (some (.lst (xs.eraseIdx k))))) : fPop (.cell c) [.int k] st Q := by
  unfold fPop
  show match st c with
    | some (.lst xs) => ∃ j y, -(2 ^ 63) ≤ (k : Int) ∧ (k : Int) < 2 ^ 63 ∧ seqIndex? (k : Int) xs.length = some j ∧ xs[j]? = some y ∧ Q y (st.put c (some (.lst (xs.eraseIdx j))))
    | _ => False
  rw [e]
  have hl := (List.getElem?_eq_some_iff.mp e2).1
  exact ⟨k, y, by omega, by omega, by rw [seqIndex_of (by omega) (by omega)]; simp, e2, h⟩
theorem put' {c : Addr} {y : PV} {j : Nat} {R : Sto → Prop} (nc : ∀ d, y ≠ .cell d) (e : st c = some (.lst xs)) (e2 : ixN xs.length i = some j) (h : R (st.put c (some (.lst (xs.set j y))))) : vPut (.cell c) (.int i) y st R := by
  unfold vPut
  show fz y st fun y s => match s c with
    | some (.lst xs) => ∃ j, ixN xs.length i = some j ∧ R (s.put c (some (.lst (xs.set j y))))
    | _ => False
  unfold fz
  split
  · exact absurd rfl (nc _)
  · simp only [e]
    exact ⟨j, e2, h⟩
end
end Ev
namespace Ev
open PySem PySem.Spec PyProof.Rows L2 Own
/-! ### comprehensions over what is embedded -/
section
variable {α : Type} {gd : Sto → Prop} {t : TP} {c : GT} {g : GE} {env : Env} {st : Sto} {Q : QV}
theorem lc_map (emb : α → PV) (zs : List α) (f : α → PV) (hg : gd st) (turn : ∀ z ∈ zs, t (emb z) env fun e => c e st fun b s2 => b = true ∧ g e s2 fun y s3 => fz y s3 fun q s4 => s4 = st ∧ f z = q)
    (done : Q (.lst (zs.map f)) st) : gLcL gd t c g (zs.map emb) [] env st Q := by
  refine lc_by (fun i acc s => s = st ∧ acc = (zs.take i).map f) (fun i acc s _ h => by rw [h.1]; exact hg) (fun i p acc s hp h => ?_) (fun acc s h => ?_) ⟨rfl, rfl⟩
  · obtain ⟨rfl, rfl⟩ := h
    rw [List.getElem?_map] at hp
    obtain ⟨z, hz, rfl⟩ := Option.map_eq_some_iff.mp hp
    refine ⟨_, turn z (List.mem_of_getElem? hz), fun e y => ⟨_, y, fun b s2 y => ?_⟩⟩
    obtain ⟨rfl, y⟩ := y
    refine ⟨_, y, fun v s3 x => fz_mono (fun q s4 u => ⟨u.1, ?_⟩) x⟩
    rw [List.take_add_one, hz, List.map_append, ← u.2]
    rfl
  · obtain ⟨rfl, rfl⟩ := h
    rw [List.length_map, List.take_length]
    exact done
theorem lc_flt (emb : α → PV) (zs : List α) (p : α → Bool) (f : α → PV) (hg : gd st) (turn : ∀ z ∈ zs, t (emb z) env fun e => c e st fun b s2 => b = p z ∧ s2 = st ∧ (b = true → g e s2 fun y s3 => fz y s3 fun q s4 => s4 = st ∧ f z = q))
    (done : Q (.lst ((zs.filter p).map f)) st) : gLcL gd t c g (zs.map emb) [] env st Q := by
  refine lc_by (fun i acc s => s = st ∧ acc = ((zs.take i).filter p).map f) (fun i acc s _ h => by rw [h.1]; exact hg) (fun i p' acc s hp h => ?_) (fun acc s h => ?_) ⟨rfl, rfl⟩
  · obtain ⟨rfl, rfl⟩ := h
    rw [List.getElem?_map] at hp
    obtain ⟨z, hz, rfl⟩ := Option.map_eq_some_iff.mp hp
    have tk : (zs.take (i + 1)).filter p = (zs.take i).filter p ++ [z].filter p := by
      rw [List.take_add_one, hz, List.filter_append]
      rfl
    refine ⟨_, turn z (List.mem_of_getElem? hz), fun e y => ⟨_, y, fun b s2 y => ?_⟩⟩
    obtain ⟨eb, rfl, y⟩ := y
    cases b with
    | true =>
      refine ⟨_, y rfl, fun v s3 x => fz_mono (fun q s4 u => ⟨u.1, ?_⟩) x⟩
      rw [tk, List.filter_cons_of_pos eb.symm, List.filter_nil, List.map_append, ← u.2]
      rfl
    | false =>
      refine ⟨rfl, ?_⟩
      rw [tk, List.filter_cons_of_neg (by rw [← eb]; exact Bool.false_ne_true), List.filter_nil, List.append_nil]
  · obtain ⟨rfl, rfl⟩ := h
    rw [List.length_map, List.take_length]
    exact done
end
end Ev

namespace K1
open PySem PySem.Spec PyProof.Rows L2 Own Ev
/-! ### tables of names -/
abbrev strP (ws : List Str) : List PV := ws.map PV.str
def dicT (T : Tb) : PV := .dic (T.map fun t => (t.1, .lst (strP t.2)))
theorem flat_strP : ∀ ws : List Str, flatAll (strP ws) = some (ws.map V.str)
  | [] => rfl
  | z :: r => by
    show flatAll (.str z :: strP r) = _
    rw [flatAll, flat_strP r]
    rfl
theorem look_dicT {z : Str} : ∀ {T : Tb}, z ∈ T.map (·.1) → lookP (T.map fun t => (t.1, PV.lst (strP t.2))) z = some (.lst (strP (look T z)))
  | (m, ys) :: r, h => by
    unfold lookP look
    rw [List.map_cons, List.find?_cons, List.lookup_cons]
    by_cases c : m = z
    · subst c
      simp
    · rw [show decide (m = z) = false from decide_eq_false c, show (z == m) = false from by simp [Ne.symm c]]
      exact look_dicT ((List.mem_cons.mp h).elim (fun e => absurd e.symm c) id)
theorem bools_map {α : Type} (f : α → Bool) : ∀ zs : List α, boolsP (zs.map fun z => PV.bl (f z)) = some (zs.map f)
  | [] => rfl
  | z :: r => by
    show (boolsP (r.map fun z => PV.bl (f z))).map (f z :: ·) = _
    rw [bools_map f r]
    rfl
end K1

namespace Ev
open PySem PySem.Spec PyProof.Rows L2 Own
/-! ### a def does not see what it is not given -/
noncomputable def hideN (N : Addr → Prop) (H : Hp) : Hp := fun b => by
  classical exact if N b then none else H b
noncomputable def over (N : Addr → Prop) (H H1 : Hp) : Hp := fun b => by
  classical exact if N b then H b else H1 b
theorem hide_in {N : Addr → Prop} {H : Hp} {b : Addr} (h : N b) : hideN N H b = none := if_pos h
theorem hide_out {N : Addr → Prop} {H : Hp} {b : Addr} (h : ¬ N b) : hideN N H b = H b := if_neg h
theorem over_in {N : Addr → Prop} {H H1 : Hp} {b : Addr} (h : N b) : over N H H1 b = H b := if_pos h
theorem over_out {N : Addr → Prop} {H H1 : Hp} {b : Addr} (h : ¬ N b) : over N H H1 b = H1 b := if_neg h
theorem hide_some {N : Addr → Prop} {H : Hp} {b : Addr} {o : HO} (h : hideN N H b = some o) : ¬ N b ∧ H b = some o := by
  by_cases n : N b
  · rw [hide_in n] at h
    cases h
  · rw [hide_out n] at h
    exact ⟨n, h⟩
def spFrm (sp : Sp) : Sp := fun vs H Q E => ∃ N : Addr → Prop, (∀ b, N b → ∃ xs, H b = some (.lst xs)) ∧ sp vs (hideN N H) (fun v H1 => (∀ b, N b → H1 b = none) → Q v (over N H H1)) E
theorem fnG_framed {P : Program} {w : World} {K : PySem.W.Frag} {mg : Str → Option Value} {base : Heap} {k : Nat} {f : Addr} {fd : FuncData} {ps : List Str} {sp : Sp} (F : FnG P w K mg base k f fd ps sp) : FnG P w K mg base k f fd ps (spFrm sp) := by
  refine ⟨fun vs H Q E ⟨N, _, h⟩ => F.len _ _ _ _ h, fun A out s H args us vs Q E hc hr e0 hb r ⟨N, hN, h⟩ => ?_⟩
  have nN : ∀ b, N b → H b ≠ none := fun b n e => by
    obtain ⟨xs, z⟩ := hN b n
    rw [z] at e
    cases e
  have okr : HOk P w (hideN N H) s.heap := fun b o e => by
    obtain ⟨n, e⟩ := hide_some e
    refine (e0.hok b o e).stay (fun c u _ q => q) (fun c q => ?_) (fun c xs q => ?_)
    · rw [hide_out (fun n => by obtain ⟨xs, z⟩ := hN c n; rw [z] at q; cases q)]
      exact q
    · rw [hide_out (fun n => by obtain ⟨ys, z⟩ := hN c n; rw [z] at q; cases q)]
      exact q
  have e1 : Env0 P w K mg base A out s (hideN N H) := ⟨e0.frames, e0.mod, fun b o q => ⟨(e0.bs b o q).1, by
    by_cases n : N b
    · exact hide_in n
    · rw [hide_out n]
      exact (e0.bs b o q).2⟩, e0.bsz, e0.funs, fun b hb => by
    by_cases n : N b
    · exact hide_in n
    · rw [hide_out n]
      exact e0.frf b hb, okr, e0.bare⟩
  refine codeAny_mono (F.run A out s (hideN N H) args us vs _ E hc hr e1 hb r h) fun z s' hz => ?_
  match z, hz with
  | .error _, hz => exact hz.elim
  | .ok .next, hz => exact hz.elim
  | .ok .brk, hz => exact hz.elim
  | .ok .cont, hz => exact hz.elim
  | .ok (.ret u), ⟨v, H1, os, bare, un, hok, rv, q⟩ =>
    have hid : ∀ b, N b → H1 b = none := fun b n => by
      obtain ⟨xs, e⟩ := hN b n
      obtain ⟨_, its, m, _, eo⟩ := e0.hok b _ e
      exact un.free b _ eo (hide_in n) (fun h => nomatch h)
    refine ⟨v, over N H H1, os, bare, ⟨fun b o e n hb hx => un.keep b o e ?_ hb hx, fun b o e n hb hx => un.slot b o e ?_ hb hx, fun b o e n hx => ?_, un.there, fun b xs e => ?_, fun b o u e => ?_, fun b ps e => ?_⟩, fun b o e => ?_, rv, q hid⟩
    · rw [hide_out (fun m => nN b m n)]
      exact n
    · rw [hide_out (fun m => nN b m n)]
      exact n
    · rw [over_out (fun m => nN b m n)]
      exact un.free b o e (by rw [hide_out (fun m => nN b m n)]; exact n) hx
    · have n : ¬ N b := fun m => by
        obtain ⟨ys, z⟩ := hN b m
        rw [z] at e
        cases e
      rw [over_out n]
      exact un.tups b xs (by rw [hide_out n]; exact e)
    · have n : ¬ N b := fun m => by
        obtain ⟨ys, z⟩ := hN b m
        rw [z] at e
        cases e
      rw [over_out n]
      exact un.frzs b o u (by rw [hide_out n]; exact e)
    · have n : ¬ N b := fun m => by
        obtain ⟨ys, z⟩ := hN b m
        rw [z] at e
        cases e
      rw [over_out n]
      exact un.tbls b ps (by rw [hide_out n]; exact e)
    · have ho : ∀ c a, H1 c = some (.own a) → over N H H1 c = some (.own a) := fun c a q => by
        rw [over_out (fun n => by rw [hid c n] at q; cases q)]
        exact q
      have ht : ∀ c xs, H1 c = some (.tup xs) → over N H H1 c = some (.tup xs) := fun c xs q => by
        rw [over_out (fun n => by rw [hid c n] at q; cases q)]
        exact q
      by_cases n : N b
      · rw [over_in n] at e
        obtain ⟨xs, e2⟩ := hN b n
        rw [e2] at e
        cases e
        obtain ⟨z1, its, m, rv2, eo⟩ := e0.hok b _ e2
        refine ⟨z1, its, m, rv2, un.keep b _ eo (hide_in n) (fun hb2 => ?_) (fun h => nomatch h)⟩
        rw [e0.frf b hb2] at e2
        cases e2
      · rw [over_out n] at e
        exact (hok b o e).stay (fun c u _ q => q) (fun c q => ho c b q) ht
section
variable {I : Hp → Prop} {K : PySem.W.Frag} {F : Addr → Prop} {st : Sto} {H H1 : Hp}
theorem Wd.mut (w : Wd I K F st H) {b : Addr} (n : Nn F st b) : ∃ xs, H b = some (.lst xs) := by
  rcases n with n | n
  · exact w.fr b n
  · cases e : st b with
    | none => exact absurd e n
    | some m =>
      have q := w.at_ b m e
      cases m with
      | lst xs =>
        obtain ⟨us, e, _⟩ := q
        exact ⟨us, e⟩
      | any P =>
        obtain ⟨us, e, _⟩ := q
        exact ⟨us, e⟩
/-- behind a def that changed nothing it was given -/
theorem same_le (i0 : Inv0 I) (w : Wd I K F st H) (s : Same (hideN (Nn F st) H) H1) (hid : ∀ b, Nn F st b → H1 b = none) : Le F st H st (over (Nn F st) H H1) ∧ Wd I K F st (over (Nn F st) H H1) ∧ ∀ b o, H1 b = some o → isTbl o = false → hd (Nn F st) (over (Nn F st) H H1) b = some o := by
  have up : ∀ b o, H1 b = some o → ¬ Nn F st b := fun b o e n => by
    rw [hid b n] at e
    cases e
  have l : Le F st H st (over (Nn F st) H H1) := ⟨fun b o n e t => ⟨n, by rw [over_out n]; exact s b o (by rw [hide_out n]; exact e)⟩, fun b o f e t => by rw [over_in (.inl f)]; exact e⟩
  refine ⟨l, ⟨fun b f => ?_, w.ap, fun b m e => ?_, i0.same (fun b o e => ?_) w.inv⟩, fun b o e t => hd_some.mpr ⟨up b o e, by rw [over_out (up b o e)]; exact e, t⟩⟩
  · obtain ⟨xs, e⟩ := w.fr b f
    exact ⟨xs, by rw [over_in (.inl f)]; exact e⟩
  · exact CellAt.le l e (fun o _ q => by rw [over_in (.inr (by rw [e]; exact fun z => nomatch z))]; exact q) (w.at_ b m e)
  · by_cases n : Nn F st b
    · rw [over_in n]
      exact e
    · rw [over_out n]
      exact s b o (by rw [hide_out n]; exact e)
/-- .. but one cell -/
theorem keep_le (i0 : Inv0 I) (w : Wd I K F st H) {s : Addr} {P : HO → Prop} (hs : st s = some (.any P)) (k : ∀ b o, b ≠ s → hideN (fun b => Nn F st b ∧ b ≠ s) H b = some o → H1 b = some o) {us : List V} (h1 : H1 s = some (.lst us)) (hp : P (.lst us)) (hid : ∀ b, Nn F st b ∧ b ≠ s → H1 b = none) :
    Le F st H st (over (fun b => Nn F st b ∧ b ≠ s) H H1) ∧ Wd I K F st (over (fun b => Nn F st b ∧ b ≠ s) H H1) ∧ ∀ b o, b ≠ s → H1 b = some o → isTbl o = false → hd (Nn F st) (over (fun b => Nn F st b ∧ b ≠ s) H H1) b = some o := by
  have sN : Nn F st s := .inr (by rw [hs]; exact fun z => nomatch z)
  have sF : ¬ F s := fun f => by
    rw [w.ap s f] at hs
    cases hs
  have up : ∀ b o, b ≠ s → H1 b = some o → ¬ Nn F st b := fun b o ne e n => by
    rw [hid b ⟨n, ne⟩] at e
    cases e
  have at_s : over (fun b => Nn F st b ∧ b ≠ s) H H1 s = some (.lst us) := by
    rw [over_out (fun n => n.2 rfl)]
    exact h1
  have l : Le F st H st (over (fun b => Nn F st b ∧ b ≠ s) H H1) := ⟨fun b o n e t => ⟨n, by
    have ne : b ≠ s := fun z => n (z ▸ sN)
    rw [over_out (fun m => n m.1)]
    exact k b o ne (by rw [hide_out (fun m => n m.1)]; exact e)⟩, fun b o f e t => by
    have ne : b ≠ s := fun z => sF (z ▸ f)
    rw [over_in ⟨.inl f, ne⟩]
    exact e⟩
  obtain ⟨ws, hw, _⟩ := w.at_ s _ hs
  refine ⟨l, ⟨fun b f => ?_, w.ap, fun b m e => ?_, i0.keep (p := s) (fun b u ne e => ?_) hw ⟨_, rfl⟩ w.inv⟩, fun b o ne e t => hd_some.mpr ⟨up b o ne e, by rw [over_out (fun m => up b o ne e m.1)]; exact e, t⟩⟩
  · obtain ⟨xs, e⟩ := w.fr b f
    have ne : b ≠ s := fun z => sF (z ▸ f)
    exact ⟨xs, by rw [over_in ⟨.inl f, ne⟩]; exact e⟩
  · by_cases ne : b = s
    · subst ne
      rw [hs] at e
      cases e
      exact ⟨us, at_s, hp⟩
    · exact CellAt.le l e (fun o _ q => by rw [over_in ⟨.inr (by rw [e]; exact fun z => nomatch z), ne⟩]; exact q) (w.at_ b m e)
  · by_cases n : Nn F st b
    · rw [over_in ⟨n, ne⟩]
      exact e
    · rw [over_out (fun m => n m.1)]
      exact k b u ne (by rw [hide_out (fun m => n m.1)]; exact e)
/-- .. but two cells, the second one a list -/
theorem keep2_le (i0 : Inv0 I) (w : Wd I K F st H) {s r : Addr} {P : HO → Prop} {zs ys : List PV} (hs : st s = some (.any P)) (hr : st r = some (.lst zs)) (k : ∀ b o, b ≠ s → b ≠ r → hideN (fun b => Nn F st b ∧ b ≠ s ∧ b ≠ r) H b = some o → H1 b = some o) {us ws : List V} (h1 : H1 s = some (.lst us)) (hp : P (.lst us)) (h2 : H1 r = some (.lst ws)) (hy : ∀ G, RpAll K G ws ys) (hid : ∀ b, Nn F st b ∧ b ≠ s ∧ b ≠ r → H1 b = none) :
    Le F st H (st.put r (some (.lst ys))) (over (fun b => Nn F st b ∧ b ≠ s ∧ b ≠ r) H H1) ∧ Wd I K F (st.put r (some (.lst ys))) (over (fun b => Nn F st b ∧ b ≠ s ∧ b ≠ r) H H1) ∧ ∀ b o, (∀ xs, o ≠ .lst xs) → H1 b = some o → isTbl o = false → hd (Nn F (st.put r (some (.lst ys)))) (over (fun b => Nn F st b ∧ b ≠ s ∧ b ≠ r) H H1) b = some o := by
  have sN : Nn F st s := .inr (by rw [hs]; exact fun z => nomatch z)
  have rn : st r ≠ none := by rw [hr]; exact fun z => nomatch z
  have rN : Nn F st r := .inr rn
  have sF : ¬ F s := fun f => by rw [w.ap s f] at hs; cases hs
  have rF : ¬ F r := fun f => by rw [w.ap r f] at hr; cases hr
  have up : ∀ b o, b ≠ s → b ≠ r → H1 b = some o → ¬ Nn F st b := fun b o ne ne2 e n => by
    rw [hid b ⟨n, ne, ne2⟩] at e
    cases e
  have at_s : over (fun b => Nn F st b ∧ b ≠ s ∧ b ≠ r) H H1 s = some (.lst us) := by
    rw [over_out (fun n => n.2.1 rfl)]
    exact h1
  have at_r : over (fun b => Nn F st b ∧ b ≠ s ∧ b ≠ r) H H1 r = some (.lst ws) := by
    rw [over_out (fun n => n.2.2 rfl)]
    exact h2
  have eN : Nn F (st.put r (some (.lst ys))) = Nn F st := Nn.put_eq rn
  have l : Le F st H (st.put r (some (.lst ys))) (over (fun b => Nn F st b ∧ b ≠ s ∧ b ≠ r) H H1) := ⟨fun b o n e t => ⟨by rw [eN]; exact n, by
    have ne : b ≠ s := fun z => n (z ▸ sN)
    have ne2 : b ≠ r := fun z => n (z ▸ rN)
    rw [over_out (fun m => n m.1)]
    exact k b o ne ne2 (by rw [hide_out (fun m => n m.1)]; exact e)⟩, fun b o f e t => by
    have ne : b ≠ s := fun z => sF (z ▸ f)
    have ne2 : b ≠ r := fun z => rF (z ▸ f)
    rw [over_in ⟨.inl f, ne, ne2⟩]
    exact e⟩
  obtain ⟨us0, hw, _⟩ := w.at_ s _ hs
  obtain ⟨ws0, hw2, _⟩ := w.at_ r _ hr
  refine ⟨l, ⟨fun b f => ?_, fun b f => ?_, fun b m e => ?_, ?_⟩, fun b o nl e t => ?_⟩
  · obtain ⟨xs, e⟩ := w.fr b f
    have ne : b ≠ s := fun z => sF (z ▸ f)
    have ne2 : b ≠ r := fun z => rF (z ▸ f)
    exact ⟨xs, by rw [over_in ⟨.inl f, ne, ne2⟩]; exact e⟩
  · rw [put_ne (fun z => rF (by rw [← z]; exact f))]
    exact w.ap b f
  · by_cases ne2 : b = r
    · subst ne2
      rw [put_at] at e
      cases e
      exact ⟨ws, at_r, hy _⟩
    · rw [put_ne ne2] at e
      by_cases ne : b = s
      · subst ne
        rw [hs] at e
        cases e
        exact ⟨us, at_s, hp⟩
      · exact CellAt.le l e (fun o _ q => by rw [over_in ⟨.inr (by rw [e]; exact fun z => nomatch z), ne, ne2⟩]; exact q) (w.at_ b m e)
  · have i1 : I (fun b => if b = r then over (fun b => Nn F st b ∧ b ≠ s ∧ b ≠ r) H H1 b else H b) := i0.keep (p := r) (fun b u ne e => by rw [if_neg ne]; exact e) hw2 ⟨_, rfl⟩ w.inv
    by_cases sr : s = r
    · rw [sr] at hs
      rw [hs] at hr
      cases hr
    · refine i0.keep (p := s) (fun b u ne e => ?_) (show (fun b => if b = r then over (fun b => Nn F st b ∧ b ≠ s ∧ b ≠ r) H H1 b else H b) s = some _ from (if_neg sr).trans hw) ⟨_, rfl⟩ i1
      by_cases ne2 : b = r
      · rw [if_pos ne2] at e
        exact e
      · rw [if_neg ne2] at e
        by_cases n : Nn F st b
        · rw [over_in ⟨n, ne, ne2⟩]
          exact e
        · rw [over_out (fun m => n m.1)]
          exact k b u ne ne2 (by rw [hide_out (fun m => n m.1)]; exact e)
  · have ne : b ≠ s := fun z => by
      rw [z, h1] at e
      exact nl _ (Option.some.inj e).symm
    have ne2 : b ≠ r := fun z => by
      rw [z, h2] at e
      exact nl _ (Option.some.inj e).symm
    rw [eN]
    exact hd_some.mpr ⟨up b o ne ne2 e, by rw [over_out (fun m => up b o ne ne2 e m.1)]; exact e, t⟩
/-- an older promise serves a value's -/
theorem fnE_of {P : Program} {w : World} {mg : Str → Option Value} {base : Heap} {k : Nat} {f : Addr} {fd : FuncData} {ps : List Str} {sp : Sp} {g : GF} (G : FnG P w K mg base k f fd ps sp)
    (h : ∀ (F : Addr → Prop) (st : Sto) (H : Hp) (vs : List V) (qs : List PV) (Q : VK) (Q1 : QV), Wd I K F st H → RpAll K (hd (Nn F st) H) vs qs → g qs st Q1 → (∀ r s, Q1 r s → finE I K F st H Q r s) → ∃ N : Addr → Prop, (∀ b, N b → ∃ xs, H b = some (.lst xs)) ∧ sp vs (hideN N H) (fun v H1 => (∀ b, N b → H1 b = none) → Q v (over N H H1)) E0) : FnG P w K mg base k f fd ps (spE I K g) := by
  have G2 := fnG_framed G
  refine ⟨fun vs H Q E ⟨F, st, qs, w0, r, Q1, hg, i⟩ => ?_, fun A out s H args us vs Q E hc hr e0 hb r ⟨F, st, qs, w0, rp, Q1, hg, i⟩ => ?_⟩
  · obtain ⟨N, hN, q⟩ := h F st H vs qs Q Q1 w0 r hg i
    exact G.len _ _ _ _ q
  · refine codeAny_mono (G2.run A out s H args us vs Q E0 hc hr e0 hb r (h F st H vs qs Q Q1 w0 rp hg i)) fun z s' hz => ?_
    match z, hz with
    | .error _, hz => exact hz.elim
    | .ok .next, hz => exact hz.elim
    | .ok .brk, hz => exact hz.elim
    | .ok .cont, hz => exact hz.elim
    | .ok (.ret u), hz => exact hz
end
end Ev

namespace K1
open PySem PySem.Spec PyProof.Rows L2 Own Ev
/-! ### the draws, as values -/
def srcP : HO → Prop := fun o => ∃ a b : Int, o = .lst [.int a, .int b] ∧ SrcOk a b
abbrev srcM : MO := .any srcP
def g_source : GF := fun ps st Q => ∃ (ns : List Int) (k : Int), ps = [.sq (ns.map PV.int), .int k] ∧ ns.length ≤ 63 ∧ 0 ≤ k ∧ k < 1000 ∧ ∀ s, st s = none → Q (.cell s) (st.put s (some srcM))
def g_draw : GF := fun ps st Q => ∃ s m, ps = [.cell s, .int m] ∧ st s = some srcM ∧ 0 < m ∧ m < 1073741824 ∧ ∀ d, 0 ≤ d → d < m → Q (.int d) st
def kR (C : Addr) (ls ls' : List Ln) (T : Tb) (v : V) (G : Hp) : Prop := ∃ x, v = .ref x ∧ KIn C G x ls ls' T
def kindsP (C : Addr) (ls ls' : List Ln) (T : Tb) : PV := .ob (kR C ls ls' T)
section
variable {I : Hp → Prop} {K : PySem.W.Frag} {F : Addr → Prop} {st : Sto} {H H1 G : Hp} {s : Addr}
theorem src_at (w : Wd I K F st H) (h : st s = some srcM) : Src H s ∧ ∀ N : Addr → Prop, ¬ N s → Src (hideN N H) s := by
  obtain ⟨us, hw, a, b, e, ok⟩ := w.at_ s _ h
  cases e
  exact ⟨⟨a, b, hw, ok⟩, fun N n => ⟨a, b, by rw [hide_out n]; exact hw, ok⟩⟩
theorem exposed (w : Wd I K F st H) : ∀ b, Nn F st b ∧ b ≠ s → ∃ xs, H b = some (.lst xs) := fun b n => w.mut n.1
/-- behind a draw -/
theorem drew (i0 : Inv0 I) (w : Wd I K F st H) (h : st s = some srcM) (k : Keep s (hideN (fun b => Nn F st b ∧ b ≠ s) H) H1) (q : Src H1 s) (hid : ∀ b, Nn F st b ∧ b ≠ s → H1 b = none) :
    Le F st H st (over (fun b => Nn F st b ∧ b ≠ s) H H1) ∧ Wd I K F st (over (fun b => Nn F st b ∧ b ≠ s) H H1) ∧ ∀ b o, b ≠ s → H1 b = some o → isTbl o = false → hd (Nn F st) (over (fun b => Nn F st b ∧ b ≠ s) H H1) b = some o := by
  obtain ⟨a, b, e, ok⟩ := q
  exact keep_le i0 w h (fun c o n z => k c o n z) e ⟨a, b, rfl, ok⟩ hid
theorem rpAll_strs : ∀ ws : List Str, RpAll K G (ws.map V.str) (strP ws)
  | [] => rfl
  | z :: r => ⟨_, _, rfl, rfl, rpAll_strs r⟩
theorem kv_of (go : ∀ b o, isTbl o = false → (∀ x y : Int, o ≠ .lst [.int x, .int y]) → H1 b = some o → G b = some o) : ∀ {T : Tb} {kvs : List (Key × V)}, Paired (EntAt All1 H1) kvs T → RpKv K G kvs (T.map fun t => (t.1, .lst (strP t.2)))
  | [], [], .nil => rfl
  | (t1, t2) :: r, (k1, v1) :: ks, .cons ⟨e, p, _, ev, hp⟩ h => by
    have e : k1 = .inr t1 := e
    have ev : v1 = .ref p := ev
    have hp : H1 p = some (.lst (t2.map V.str)) := hp
    subst e
    exact ⟨_, _, rfl, ⟨p, _, ev, go p _ rfl (fun x y z => by
      cases t2 with
      | nil => cases z
      | cons _ _ => cases z) hp, rpAll_strs _⟩, kv_of go h⟩
theorem ints_map : ∀ ns : List Int, intsP (ns.map PV.int) = some ns
  | [] => rfl
  | n :: r => by
    show (intsP (r.map PV.int)).map (n :: ·) = _
    rw [ints_map r]
    rfl
theorem kin_go {C : Addr} {B : Hp} {x : Addr} {ls ls' : List Ln} {T : Tb} (go : ∀ b o, isTbl o = false → B b = some o → G b = some o) (h : KIn C B x ls ls' T) : KIn C G x ls ls' T := by
  obtain ⟨⟨dx, r, d, rs, kvs, hx, hr, pr, hd, pk⟩, so, tab⟩ := h
  exact ⟨⟨dx, r, d, rs, kvs, go _ _ rfl hx, go _ _ rfl hr, paired_imp (fun _ _ ⟨t, b, e, _, _, h1, h2⟩ => ⟨t, b, e, trivial, trivial, go _ _ rfl h1, go _ _ rfl h2⟩) pr, go _ _ rfl hd, paired_imp (fun _ _ ⟨a, q, _, c, z⟩ => ⟨a, q, trivial, c, go _ _ rfl z⟩) pk⟩, so, tab⟩
theorem kinds_rp {C : Addr} {x : Addr} {ls ls' : List Ln} {T : Tb} (h : KIn C G x ls ls' T) : Rp K G (.ref x) (kindsP C ls ls' T) := fun G' sm => ⟨x, rfl, h.same sm⟩
variable {P : Program} {w : World} {mg : Str → Option Value} {base : Heap} {k : Nat} {f C : Addr} {fd : FuncData}
theorem e_source (i0 : Inv0 I) (Gs : FnOk P w K mg base CX0 k f fd ["script", "at"] (spSource K)) : FnG P w K mg base k f fd ["script", "at"] (spE I K g_source) := by
  refine fnE_of (fnG_ok Gs) fun F st H vs qs Q Q1 w r ⟨ns, at_, e, l63, a0, a1, q⟩ i => ?_
  subst e
  obtain ⟨v, u, rfl, ⟨a, us, rfl, ha, ra⟩, ru⟩ := two_of r
  have eu : us = ns.map V.int := ints_ok ra (ints_map ns)
  subst eu
  refine ⟨Nn F st, fun b n => w.mut n, a, ns, at_, by rw [show u = .int at_ from ru], ?_, l63, a0, a1, fun p H1 sm np src hid => ?_⟩
  · refine lstS (fun b o e => ?_) ha
    obtain ⟨n, e, _⟩ := hd_some.mp e
    rw [hide_out n]
    exact e
  · obtain ⟨l, w', go⟩ := same_le i0 w sm hid
    have nN : ¬ Nn F st p := fun n => by
      obtain ⟨x, y, z, _⟩ := src
      rw [hid p n] at z
      cases z
    rw [hide_out nN] at np
    have ns : st p = none := not_cell w np
    obtain ⟨x, y, z, ok⟩ := src
    have hp : over (Nn F st) H H1 p = some (.lst [.int x, .int y]) := by
      rw [over_out nN]
      exact z
    have l2 : Le F st H (st.put p (some srcM)) (over (Nn F st) H H1) := by
      refine ⟨fun b o n e t => ?_, fun b o f e t => l.fr b o f e t⟩
      obtain ⟨n1, e1⟩ := l.keep b o n e t
      refine ⟨fun m => n1 ?_, e1⟩
      have bp : b ≠ p := fun z => by
        rw [z, np] at e
        cases e
      rcases m with m | m
      · exact .inl m
      · rw [put_ne bp] at m
        exact .inr m
    refine i _ _ (q p ns) _ _ l2 ?_ rfl
    refine ⟨w'.fr, fun b f => ?_, fun b m e => ?_, w'.inv⟩
    · rw [put_ne (fun z => by rw [z] at f; exact nN (.inl f))]
      exact w'.ap b f
    · by_cases bp : b = p
      · rw [bp, put_at] at e
        cases e
        rw [bp]
        exact ⟨_, hp, x, y, rfl, ok⟩
      · rw [put_ne bp] at e
        exact CellAt.le l2 e (fun o _ q => by rw [over_in (.inr (by rw [e]; exact fun z => nomatch z))]; exact q) (w.at_ b m e)
theorem e_draw (i0 : Inv0 I) (Gs : FnOk P w K mg base CX0 k f fd ["bag", "many"] spDraw) : FnG P w K mg base k f fd ["bag", "many"] (spE I K g_draw) := by
  refine fnE_of (fnG_ok Gs) fun F st H vs qs Q Q1 w r ⟨s, m, e, hs, m0, m1, q⟩ i => ?_
  subst e
  obtain ⟨v, u, rfl, rv, ru⟩ := two_of r
  refine ⟨fun b => Nn F st b ∧ b ≠ s, exposed w, s, m, by rw [show v = .ref s from rv, show u = .int m from ru], (src_at w hs).2 _ (fun n => n.2 rfl), m0, m1, fun d H1 d0 d1 src kp hid => ?_⟩
  obtain ⟨l, w', go⟩ := drew i0 w hs kp src hid
  exact i _ _ (q d d0 d1) _ _ l w' rfl
end
end K1

namespace Ev
open PySem PySem.Spec PyProof.Rows L2 Own K1
/-! ### generators that are walked through -/
abbrev GYI := Env → Sto → (List PV → Sto → Prop) → Prop
/-- a generator gives these items, and touches nothing -/
def YieldE (I : Hp → Prop) (K : PySem.W.Frag) (F : Addr → Prop) (st1 : Sto) (H1 : Hp) (J : GJ) (items : List PV) : Prop :=
  J.n = items.length ∧ (∀ st' H' HE, Le F st1 H1 st' H' → Wd I K F st' H' → J.Z H' HE → Same H' HE ∧ I HE) ∧
    ∀ i st' H' x HY, Le F st1 H1 st' H' → Wd I K F st' H' → i < items.length → J.Y i H' x HY → Same H' HY ∧ I HY ∧ ∃ p, items[i]? = some p ∧ Rp K (hd (Nn F st') HY) x p
def lY (I : Hp → Prop) (K : PySem.W.Frag) (g : GYI) : TGI := fun σ H R => ∃ F st env, Wd I K F st H ∧ EvR K (hd (Nn F st) H) σ env ∧ g env st fun items s1 => ∀ J H1, Le F st H s1 H1 → Wd I K F s1 H1 → YieldE I K F s1 H1 J items → R J H1
structure EY (I : Hp → Prop) (X : Cx) (pre : Around → Prop) (k : Nat) (e : Expr) (g : GYI) : Prop where
  mono : ∀ env st Q Q', (∀ a b, Q a b → Q' a b) → g env st Q → g env st Q'
  py : PY X pre k e (lY I X.K g)
section
variable {I : Hp → Prop} {X : Cx} {K : PySem.W.Frag} {F : Addr → Prop} {st : Sto} {H H' : Hp} {pos : Pos}
/-- more is there, nothing else is changed -/
theorem more_le (w : Wd I K F st H) (s : Same H H') (ih : I H') : Le F st H st H' ∧ Wd I K F st H' := by
  have l : Le F st H st H' := ⟨fun b o n e _ => ⟨n, s b o e⟩, fun b o _ e _ => s b o e⟩
  refine ⟨l, fun b f => ?_, w.ap, fun b m e => ?_, ih⟩
  · obtain ⟨xs, e⟩ := w.fr b f
    exact ⟨xs, s b _ e⟩
  · exact CellAt.le l e (fun o _ q => s b o q) (w.at_ b m e)
theorem kt_of (w : Wd I K F st H) {st' : Sto} (l : Le F st H st' H') : KT H H' := fun b o f e => by
  have n : ¬ Nn F st b := fun n => by
    obtain ⟨xs, z⟩ := w.mut n
    rw [z] at e
    cases e
    rcases f with ⟨ys, f⟩ | ⟨u, y, f⟩ <;> cases f
  cases t : isTbl o with
  | false => exact (l.keep b o n e t).2
  | true =>
    cases o with
    | tbl ps => rcases f with ⟨ys, f⟩ | ⟨u, y, f⟩ <;> cases f
    | _ => cases t
/-- list(g) -/
def gListY (g : GYI) : GE := fun env st Q => g env st fun items s => items.length ≤ 1000000 ∧ Q (.lst items) s
theorem ee_listY {pre : Around → Prop} {k : Nat} {e : Expr} {g : GYI} {nm : Str} {p : Pos} (i0 : Inv0 I) (hc : X.calm = true) (hpre : pre X.A.in1.in1.in1) (hr : Room (k + 3) X.A) (h : EY I X pre k e g) (hg : Gl X nm) (hmg : X.mg nm = none) (hv : bootBuiltins nm = some (.type "list")) (hnm : nm ≠ "__name__" := by decide) (hdb : (nm == ("__debug__" : Str)) = false := by decide)
    (he : starEach [e] X.env = (false, eval e X.env) :: starEach [] X.env := by rfl) : EE I X (.Call (.Name nm p) [e] [] pos) (gListY g) := by
  refine ⟨fun env st Q Q' k q => h.mono _ _ _ _ (fun _ _ z => ⟨z.1, k _ _ z.2⟩) q, pe_imp (pe_listY hc hpre hr h.py hg hmg hv hnm hdb he) fun σ H Q ⟨F, st, env, w, ev, q⟩ => ?_⟩
  refine ⟨F, st, env, w, ev, h.mono _ _ _ _ (fun items s1 z J H1 l1 w1 ⟨jn, jZ, jY⟩ D nD => ?_) q⟩
  have s1D : s1 D = none := not_cell w1 nD
  refine ⟨fun i acc H' => ∃ sD, Le F s1 H1 sD H' ∧ Wd I X.K F sD H' ∧ sD D = some (.lst (items.take i)) ∧ sD.put D none = s1 ∧ H' D = some (.lst acc) ∧ RpAll X.K (hd (Nn F sD) H') acc (items.take i), ?_, ?_⟩
  · exact ⟨s1.put D (some (.lst [])), Le.cell nD, w1.cell i0 nD rfl, put_at, by rw [put_put, put_same s1D], upd_same, rfl⟩
  · rintro i acc H' hi ⟨sD, l, w', hD, back, hA, ra⟩
    rw [jn] at hi
    have la := ra.len
    rw [List.length_take] at la
    refine ⟨hA, fun e HE hz => ?_, fun hlt x HY hy => ?_⟩
    · obtain ⟨sE, iE⟩ := jZ sD H' HE l w' hz
      obtain ⟨lE, wE⟩ := more_le w' sE iE
      rw [e, jn, List.take_length] at hD
      have rf := rp_freeze wE hD
      have fin := z.2 (.ref D) HE
      rw [back] at rf
      have lf : Le F s1 H1 s1 HE := by
        have := (l.trans lE).trans (Le.freeze (a := D))
        rw [back] at this
        exact this
      have wf := wE.freeze (a := D)
      rw [back] at wf
      exact fin (l1.trans lf) wf rf
    · rw [jn] at hlt
      obtain ⟨sY, iY, p, hp, rp⟩ := jY i sD H' x HY l w' hlt hy
      obtain ⟨lY, wY⟩ := more_le w' sY iY
      have rY := RpAll.same lY.same ra
      have tk : items.take (i + 1) = items.take i ++ [p] := by
        rw [List.take_add_one, hp]
        rfl
      refine ⟨sY D _ hA, by rw [sizeLine_eq]; have := z.1; omega, sD.put D (some (.lst (items.take (i + 1)))), ?_, ?_, put_at, ?_, upd_same, ?_⟩
      · exact (l.trans lY).trans (Le.write wY hD)
      · refine wY.write i0 hD ?_
        rw [tk]
        exact rY.app (RpAll.one rp)
      · rw [put_put, back]
      · rw [tk]
        exact RpAll.same (Le.write (m' := .lst (items.take i ++ [p])) (o := .lst (acc ++ [x])) wY hD).same (rY.app (RpAll.one rp))
/-- for .. in g -/
def gForY (g : GYI) (t : TP) (b : GS) : GS := fun env st D => g env st fun items s => gForL (fun _ => True) t b items env s D
theorem es_forY {pre : Around → Prop} {k : Nat} {iter tg : Expr} {body : List Stmt} {g : GYI} {t : TG} {tp : TP} {sl : List Nat} {gb : GS} (hx : ∀ e s, X.xe e s → False) (hc : X.calm = true) (hpre : pre X.A.in1) (hr : Room (k + 1) X.A) (hi : EY I X pre k iter g) (hg : EG X tg t tp sl) (hb : ESs I X body gb)
    (hp : PassesOwn (model X.prog X.w) X.A X.env X.xe) (hs : ∀ x, foldedSetIterable iter X.env x = pure x := by intro _; rfl) : ES I X (.For tg iter body [] pos) (gForY g tp gb) := by
  refine ⟨fun env st D D' k h => hi.mono _ _ _ _ (fun items s z => gForL_mono items _ _ _ _ k z) h, ps_imp (ps_forY hx hc hpre hr hi.py hg.pg hb.ps hp hs) fun D σ H ⟨F, st, env, w, ev, q⟩ => ?_⟩
  refine ⟨F, st, env, w, ev, hi.mono _ _ _ _ (fun items s1 z J H1 l1 w1 ⟨jn, jZ, jY⟩ => ?_) q⟩
  refine ⟨fun i σ' H' => ∃ st' env', Le F s1 H1 st' H' ∧ Wd I X.K F st' H' ∧ EvR X.K (hd (Nn F st') H') σ' env' ∧ gForL (fun _ => True) tp gb (items.drop i) env' st' (finS I X.K F st H D), ⟨s1, env, .refl, w1, ev.le l1, z⟩, ?_⟩
  rintro i σ' H' hi ⟨st', env', l, w', ev', z'⟩
  rw [jn] at hi
  refine ⟨fun e HE hz => ?_, fun hlt x HY hy => ?_⟩
  · obtain ⟨sE, iE⟩ := jZ st' H' HE l w' hz
    obtain ⟨lE, wE⟩ := more_le w' sE iE
    rw [e, jn, List.drop_length] at z'
    exact z'.2 σ' HE ((l1.trans l).trans lE) wE (ev'.le lE)
  · rw [jn] at hlt
    obtain ⟨sY, iY, p, hp, rp⟩ := jY i st' H' x HY l w' hlt hy
    obtain ⟨lY, wY⟩ := more_le w' sY iY
    have e1 : items.drop i = p :: items.drop (i + 1) := by
      rw [List.drop_eq_getElem_cons hlt]
      congr 1
      rw [List.getElem?_eq_getElem hlt] at hp
      exact Option.some.inj hp
    rw [e1] at z'
    obtain ⟨Qt, zt, kt⟩ := z'.2
    refine hg.tm _ _ _ _ _ (fun σ3 H3 q3 => ?_) (hg.ok _ HY hd_same p x σ' env' _ [] (ev'.le lY) rp zt)
    obtain ⟨rfl, _, e3, ev3, q3⟩ := q3
    obtain ⟨D1, q3, kd⟩ := kt _ q3
    refine lS_of hb.mono wY ev3 q3 (kd.trans ?_)
    exact ⟨fun e s4 z4 σ4 H4 l4 w4 ev4 => ⟨kt_of wY l4, s4, e, (l.trans lY).trans l4, w4, ev4, z4⟩, fun _ _ z4 => finE.le ((l1.trans l).trans lY) z4, fun _ _ z4 => finN.le ((l1.trans l).trans lY) z4, fun e s4 z4 σ4 H4 l4 w4 ev4 => ⟨kt_of wY l4, s4, e, (l.trans lY).trans l4, w4, ev4, z4⟩⟩
/-- [.. for .. in g] -/
def gLcY (g : GYI) (t : TP) (c : GT) (e : GE) (vs : List Nat) : GE := fun env st Q => g env st fun items s => items.length ≤ 1000000 ∧ gLcL (fun _ => True) t c e items [] (wipeE env vs) s Q
theorem lcY_ok {g : GYI} {t : TG} {tp : TP} {sl vs : List Nat} {gc : GT} {ge : GE} {σ : L2.St} {H : Hp} {Q : VK} (i0 : Inv0 I) (him : ∀ env st Q Q', (∀ a b, Q a b → Q' a b) → g env st Q → g env st Q') (htm : ∀ v σ H (Q Q' : L2.St → Hp → Prop), (∀ s h, Q s h → Q' s h) → t v σ H Q → t v σ H Q') (hok : TgOk K t tp sl)
    (hcm : MonoT gc) (hgm : Mono ge) (sub : ∀ i ∈ sl, i ∈ vs) (h : lE I K (gLcY g tp gc ge vs) σ H Q) : tLcY (lY I K g) t (lT I K gc) (lE I K ge) vs σ H Q := by
  obtain ⟨F, st, env, w, ev, q⟩ := h
  refine ⟨F, st, env, w, ev, him _ _ _ _ (fun items s1 z0 J H1 l1 w1 ⟨jn, jZ, jY⟩ D nD => ?_) q⟩
  obtain ⟨few, z⟩ := z0
  have s1D : s1 D = none := not_cell w1 nD
  have nFD : ¬ F D := fun f => w1.fresh nD (.inl f)
  have evW : EvR K (hd (Nn F s1) H1) (wipe σ vs) (wipeE env vs) := (ev.le l1).wipe vs
  refine ⟨fun i H' => ∃ sD acc, Le F s1 H1 sD H' ∧ Wd I K F sD H' ∧ sD D = some (.lst acc) ∧ acc.length ≤ i ∧ gLcL (fun _ => True) tp gc ge (items.drop i) acc (wipeE env vs) (sD.put D none) (finE I K F st H Q), ?_, ?_⟩
  · refine ⟨s1.put D (some (.lst [])), [], Le.cell nD, w1.cell i0 nD rfl, put_at, Nat.le_refl _, ?_⟩
    rw [put_put, put_same s1D]
    exact z
  · rintro i H' hi ⟨sD, acc, l, w', hD, la, z'⟩
    rw [jn] at hi
    obtain ⟨us0, hus0, rus0⟩ := w'.at_ D _ hD
    refine ⟨⟨us0, hus0⟩, fun e HE hz => ?_, fun hlt x HY hy => ?_⟩
    · obtain ⟨sE, iE⟩ := jZ sD H' HE l w' hz
      obtain ⟨lE, wE⟩ := more_le w' sE iE
      rw [e, jn, List.drop_length] at z'
      exact z'.2 _ HE (l1.trans ((l.trans lE).trans Le.freeze)) wE.freeze (rp_freeze wE hD)
    · rw [jn] at hlt
      obtain ⟨sY, iY, p, hp, rp⟩ := jY i sD H' x HY l w' hlt hy
      obtain ⟨l2, w2⟩ := more_le w' sY iY
      have e1 : items.drop i = p :: items.drop (i + 1) := by
        rw [List.drop_eq_getElem_cons hlt]
        congr 1
        rw [List.getElem?_eq_getElem hlt] at hp
        exact Option.some.inj hp
      rw [e1] at z'
      obtain ⟨Qt, z', kt⟩ := z'.2
      have wA := w2.aside hD
      have evA : EvR K (hd (Nn (fun b => F b ∨ b = D) (sD.put D none)) HY) (wipe σ vs) (wipeE env vs) := by
        rw [← Nn_aside hD]
        exact evW.same ((l.trans l2).same)
      rw [Nn_aside hD] at rp
      refine htm _ _ _ _ _ (fun σ3 H3 q3 => ?_) (hok _ HY hd_same p x (wipe σ vs) (wipeE env vs) _ vs evA rp z')
      obtain ⟨rfl, wq, e3, ev3, q3⟩ := q3
      obtain ⟨Qc, q3, kc⟩ := kt _ q3
      refine ⟨(wq sub).trans (wipe_twice σ vs), ?_⟩
      obtain ⟨us, hus, rus⟩ := w2.at_ D _ hD
      rw [Nn_aside hD] at rus
      refine lT_of hcm wA ev3 q3 fun b s4 z4 H4 l4 w4 => ?_
      have z4 := kc b s4 z4
      have hus4 := l4.fr D _ (.inr rfl) hus rfl
      have ktb : ∀ {s5 : Sto} {H5 : Hp} {m : MO}, Le (fun b => F b ∨ b = D) (sD.put D none) H3 s5 H5 → KT H3 H5 := fun {s5 H5 m} l5 => kt_of w2 (l5.back hD (m' := m))
      cases b with
      | false =>
        have z4 : gLcL (fun _ => True) tp gc ge (items.drop (i + 1)) acc (wipeE env vs) s4 (finE I K F st H Q) := z4
        refine ⟨ktb (m := .lst acc) l4, s4.put D (some (.lst acc)), acc, (l.trans l2).trans (l4.back hD), w4.back nFD hus4 (RpAll.same l4.same rus), put_at, by omega, ?_⟩
        rw [put_put, put_same (w4.ap D (.inr rfl))]
        exact z4
      | true =>
        have z4 : upE ge e3 s4 fun y s5 => fz y s5 fun u s6 => gLcL (fun _ => True) tp gc ge (items.drop (i + 1)) (acc ++ [u]) (wipeE env vs) s6 (finE I K F st H Q) := z4
        obtain ⟨Qg, z4, kg⟩ := z4
        refine lE_of hgm w4 (ev3.le l4) z4 fun y s5 z5 v H5 l5 w5 r5 => ?_
        have z5 := kg y s5 z5
        obtain ⟨u, s6, l6, w6, r6, z6⟩ := fz_ok w5 r5 z5
        have l46 := (l4.trans l5).trans l6
        have hus6 := l46.fr D _ (.inr rfl) hus rfl
        have rus6 := RpAll.same l46.same rus
        have wb := w6.back nFD hus6 rus6
        have lus := rus.len
        have lw := Le.write (o := .lst (us ++ [v])) (m' := .lst (acc ++ [u])) wb (a := D) put_at
        refine ⟨us, hus6, by rw [sizeLine_eq]; omega, kt_of w2 ((l46.back hD).trans lw), s6.put D (some (.lst (acc ++ [u]))), acc ++ [u], ?_, ?_, put_at, by rw [List.length_append, List.length_singleton]; omega, ?_⟩
        · rw [put_put] at lw
          exact ((l.trans l2).trans (l46.back hD)).trans lw
        · have ww := wb.write i0 (a := D) (us := us ++ [v]) (xs := acc ++ [u]) put_at (by rw [← Nn_back]; exact RpAll.app rus6 (RpAll.one r6))
          rw [put_put] at ww
          exact ww
        · rw [put_put, put_same (w6.ap D (.inr rfl))]
          exact z6
theorem ee_lcY {pre : Around → Prop} {k : Nat} {elt tg iter : Expr} {ifs : List Expr} {scope : Scope} {own : List (Str × Nat)} {g : GYI} {t : TG} {tp : TP} {sl : List Nat} {gc : GT} {ge : GE} (i0 : Inv0 I) (hpre : pre X.A.in1) (hr : Room (k + 1) X.A) (hc : X.calm = true) (hN : X.N.Nodup) (hi : EY I X pre k iter g) (ok : BlkOk X.N X.env.scope scope own) (hnoc : ∀ y ∈ scope.names, y.2 ≠ .cell)
    (hg : ∀ (s : Shared) (H : Hp) (C : Addr) (cl : List (Str × Addr)) (fp : List Addr), EG (X.blk s H scope (compEnvC scope cl C X.env) fp) tg t tp sl) (ht : ∀ (s : Shared) (H : Hp) (C : Addr) (cl : List (Str × Addr)) (fp : List Addr), ETs I (X.blk s H scope (compEnvC scope cl C X.env) fp) ifs gc)
    (he : ∀ (s : Shared) (H : Hp) (C : Addr) (cl : List (Str × Addr)) (fp : List Addr), EE I (X.blk s H scope (compEnvC scope cl C X.env) fp) elt ge) (sub : ∀ i ∈ sl, i ∈ own.map (·.2) := by decide) (hs : ∀ x, foldedSetIterable iter X.env x = pure x := by intro _; rfl) :
    EE I X (.ListComp elt [⟨tg, iter, ifs, 0⟩] scope pos) (gLcY g tp gc ge (own.map (·.2))) := by
  obtain ⟨s0⟩ : Nonempty Shared := ⟨X.s_0⟩
  have g0 := hg s0 (fun _ => none) 0 [] []
  have c0 := (ht s0 (fun _ => none) 0 [] []).mono
  have e0 := (he s0 (fun _ => none) 0 [] []).mono
  refine ⟨fun env st Q Q' k q => hi.mono _ _ _ _ (fun _ _ z => ⟨z.1, gLcL_mono _ _ _ _ _ _ k z.2⟩) q, pe_imp (pe_lcY (te := lE I X.K ge) (tt := lT I X.K gc) hpre hr hc hN hi.py ok hnoc (fun s H C cl fp => (hg s H C cl fp).pg) (fun s H C cl fp => (ht s H C cl fp).pts) (fun s H C cl fp => (he s H C cl fp).pe) hs) fun σ H Q q => ?_⟩
  exact lcY_ok i0 hi.mono g0.tm g0.ok c0 e0 sub q
end
end Ev

namespace Ev
open PySem PySem.Spec PyProof.Rows L2 Own
/-! ### f(k = v, ..) -/
structure EK (I : Hp → Prop) (X : Cx) (ks : List Keyword) (g : GA) : Prop where
  mono : MonoA g
  len : ∀ env st Q, g env st Q → g env st fun xs s => xs.length = ks.length ∧ Q xs s
  pk : PK X ks (lA I X.K g)
def DfnK (I : Hp → Prop) (P : Program) (w : World) (K : PySem.W.Frag) (mg : Str → Option Value) (base : Heap) (x : Str) (k : Nat) (ps ks : List Str) (perm : List PV → List PV) (g : GF) : Prop :=
  ∃ f fd gg gV, FnG P w K mg base k f fd ps (spE I K g) ∧ PySem.W.keepIn K (.ref f) = true ∧ KBn K fd ps 0 ks gg gV ∧ mg x = some (.ref f) ∧ ∀ G vs qs, RpAll K G vs qs → RpAll K G (gV [] vs) (perm qs)
def gCallK (g : GF) (perm : List PV → List PV) (a : GA) : GE := fun env st Q => a env st fun ps s => up g (perm ps) s Q
section
variable {I : Hp → Prop} {X : Cx} {pos kpos : Pos} {e : Expr} {g : GE} {r : GA} {nm : Option Str} {kws : List Keyword}
theorem pk_imp {X : Cx} {es : List Keyword} {t t' : TA} (h : PK X es t) (i : ∀ σ H Q, t' σ H Q → t σ H Q) : PK X es t' := ⟨fun pos pins s σ H Q I q => h.run pos pins s σ H Q I (i σ H Q q)⟩
theorem ek_nil : EK I X [] aNil := ⟨fun _ _ _ _ k h => k _ _ h, fun _ _ _ h => ⟨rfl, h⟩, pk_imp pk_nil fun σ H Q ⟨F, st, env, w, ev, q⟩ => q [] H .refl w rfl⟩
theorem ek_cons (ha : EE I X e g) (hr : EK I X kws r) : EK I X (⟨nm, e, kpos⟩ :: kws) (aCons g r) := by
  refine ⟨fun env st Q Q' k h => ha.mono _ _ _ _ (fun _ _ q => hr.mono _ _ _ _ (fun _ _ z => k _ _ z) q) h, fun _ _ _ h => ha.mono _ _ _ _ (fun _ _ q => hr.mono _ _ _ _ (fun _ _ z => ⟨by rw [List.length_cons, z.1, List.length_cons], z.2⟩) (hr.len _ _ _ q)) h, pk_imp (pk_cons ha.pe hr.pk) fun σ H Q ⟨F, st, env, w, ev, q⟩ => ?_⟩
  refine lE_of ha.mono w ev q fun x s1 h1 v H1 l1 w1 r1 => ?_
  refine lA_of hr.mono w1 (ev.le l1) h1 fun xs s2 h2 vs H2 l2 w2 r2 => ?_
  exact h2 (v :: vs) H2 (l1.trans l2) w2 ⟨v, vs, rfl, Rp.same l2.same r1, r2⟩
theorem ee_callK {k j : Nat} {names ks : List Str} {perm : List PV → List PV} {g : GF} {ga : GA} {x : Str} {p pos : Pos} {kws : List Keyword} (D : DfnK I X.prog X.w X.K X.mg X.base x k names ks perm g) (hc : Calm X.A) (hr : Room j X.A) (hj : k ≤ j) (hg : Gl X x)
    (ha : EK I X kws ga) (hn : kws.length = ks.length := by rfl) (hal : (backToKw pos (keywordEach kws X.env)).all (·.1.isSome) = true := by rfl) (hks : (backToKw pos (keywordEach kws X.env)).filterMap (·.1) = ks := by rfl) (hdb : (x == ("__debug__" : Str)) = false := by decide)
    (hno : ((backTo pos (starEach [] X.env)).any (·.1) || (backToKw pos (keywordEach kws X.env)).any (·.1.isNone)) = false := by rfl) : EE I X (.Call (.Name x p) [] kws pos) (gCallK g perm ga) := by
  obtain ⟨f, fd, gg, gV, G, hk, hb, hm, rel⟩ := D
  refine ⟨fun env st Q Q' k q => ha.mono _ _ _ _ (fun _ _ z => up.mono _ _ _ _ k z) q, pe_imp (pe_callKG (E := E0) G hc (hr.mono hj) hg hm hk hb ha.pk hal hks hdb hno) fun σ H Q ⟨F, st, env, w, ev, q⟩ => ?_⟩
  refine lA_of ha.mono w ev (ha.len _ _ _ q) fun ps s ⟨n, z⟩ vs H' l w' r => ⟨by rw [r.len, n, hn], ?_⟩
  exact ⟨F, s, _, w', rel _ _ _ r, up.mono _ _ _ _ (fun _ _ y => finE.le l y) z⟩
end
/-! ### isinstance with one built-in type -/
def tyR (T : String) (v : V) (_ : Hp) : Prop := v = .ty T
def tyPV (T : String) : PV := .ob (tyR T)
section
variable {I : Hp → Prop} {X : Cx} {K : PySem.W.Frag} {F : Addr → Prop} {st : Sto} {H : Hp} {pos : Pos}
theorem ty_of (w : Wd I K F st H) {v : V} {p : PV} {t : String} (r : Rp K (hd (Nn F st) H) v p) (hc : ∀ a, p = .cell a → st a ≠ none) (e : tyP p = some t) : TyX K H v (.type t) := by
  cases p with
  | non => cases e; rw [show v = .non from r]; exact .base .non
  | bl b => cases e; rw [show v = .bl b from r]; exact .base (.bl b)
  | int i => cases e; rw [show v = .int i from r]; exact .base (.int i)
  | str z => cases e; rw [show v = .str z from r]; exact .base (.str z)
  | tup xs =>
    cases e
    obtain ⟨a, us, rfl, h, _⟩ := r
    exact .base (.tup (hd_same _ _ h))
  | lst xs =>
    cases e
    obtain ⟨a, us, rfl, h, _⟩ := r
    exact .base (.lst (hd_same _ _ h))
  | sq xs =>
    cases e
    obtain ⟨a, us, rfl, h, _⟩ := r
    rcases lstS hd_same h with (h | ⟨o, h⟩) | ⟨o, _, _, h, c, _⟩
    · exact .base (.lst h)
    · exact .base (.frz h)
    · exact .kList h c
  | tq xs =>
    cases e
    obtain ⟨a, us, rfl, h, _⟩ := r
    rcases tupS hd_same h with (h | ⟨o, h⟩) | ⟨o, _, _, h, c, _⟩
    · exact .base (.tup h)
    · exact .fTuple h
    · exact .kTuple h c
  | dic _ => cases e
  | cell a =>
    cases e
    obtain ⟨xs, h⟩ := w.mut (.inr (hc a rfl))
    rw [show v = .ref a from r]
    exact .base (.lst h)
  | ob _ => cases e
@[irreducible] def fIsi : GF := fun ps st Q => ∃ p T t b, ps = [p, tyPV T] ∧ (∀ a, p = .cell a → st a ≠ none) ∧ tyP p = some t ∧ kitB t T = some b ∧ Q (.bl b) st
theorem cv_isi : CallV I X (.builtin "isinstance") fIsi := by
  refine ⟨fun ps st Q Q' k h => ?_, fun pins s σ H vs us Q J r ⟨F, st, ps, w, rp, q⟩ => ?_⟩
  · unfold fIsi at h ⊢
    obtain ⟨p, T, t, b, e, hc, e1, e2, h⟩ := h
    exact ⟨p, T, t, b, e, hc, e1, e2, k _ _ h⟩
  · unfold fIsi at q
    obtain ⟨p, T, t, b, e, hc, e1, e2, q⟩ := q
    subst e
    obtain ⟨v, u, rfl, rv, ru⟩ := two_of rp
    have eu : u = .ty T := ru _ (Same.refl _)
    subst eu
    exact call_isi pins s σ H _ us Q J r ⟨v, .ty T, _, _, b, rfl, .ty T, ty_of w rv hc e1, kit_ty e2, now w bl_rp q⟩
theorem ee_ty {x : Str} {T : String} (hg : Gl X x) (hm : X.mg x = none) (hv : bootBuiltins x = some (.type T)) (hn : x ≠ "__name__" := by decide) (hd : (x == ("__debug__" : Str)) = false := by decide) : EE I X (.Name x pos) (gC (tyPV T)) :=
  ee_tC (pe_bltn (v := .ty T) (u := .type T) hg hm hv rfl hn hd) fun H => fun _ _ => rfl
theorem isi' {Q : QV} {p : PV} {T t : String} {b : Bool} (nc : ∀ a, p ≠ .cell a) (e1 : tyP p = some t) (e2 : kitB t T = some b) (h : Q (.bl b) st) : fIsi [p, tyPV T] st Q := by
  unfold fIsi
  exact ⟨p, T, t, b, rfl, fun a e => absurd e (nc a), e1, e2, h⟩
end
end Ev

/-! sets of texts: set(list of texts), sorted(that set) -/
namespace K1
open PySem PySem.Spec PyProof.Rows L2
def StrE (P : Program) (w : World) (e : Int × Value) : Prop := ∃ z tk, e.2 = Value.str z tk ∧ e.1 = (PySem.strKind P w).hash z
def strE (e : Int × Value) : Str := match e.2 with
  | .str z _ => z
  | _ => ""
/-- what a set's table has to be, its members the texts of L -/
structure SetTb (P : Program) (w : World) (es : Array (Int × Value)) (t : SetTable) (L : List Str) : Prop where
  each : ∀ e ∈ es.toList, StrE P w e
  perm : (es.toList.map strE).Perm L
  nd : L.Nodup
  few : L.length < scanBound
  fits : t.fits es.size = true
  ris : Ris t.place.toList
  led : w.params.followText "set-order" = true ∨ t.led = true
def SetS (P : Program) (w : World) (h : Heap) (a : Addr) (L : List Str) : Prop := ∃ o es ep t, h.get? a = some o ∧ o.ExactSet ∧ o.data = .set es ep t ∧ SetTb P w es t L
section
variable {P : Program} {w : World} {es : Array (Int × Value)} {t : SetTable} {L : List Str}
theorem SetTb.size (T : SetTb P w es t L) : es.size = L.length := by
  rw [← T.perm.length_eq, List.length_map, Array.length_toList]
theorem SetTb.sizeB (T : SetTb P w es t L) : es.size < scanBound := by
  rw [T.size]
  exact T.few
theorem SetTb.elems (T : SetTb P w es t L) : ElemsOf (PySem.strKind P w) es.toList := fun e he => by
  obtain ⟨z, tk, e1, e2⟩ := T.each e he
  exact ⟨⟨z, by rw [e1]; exact strKind_is P w z tk, e2⟩, by rw [e1]; rfl⟩
theorem is_strE {e : Int × Value} (h : StrE P w e) (z : Str) : (PySem.strKind P w).is z e.2 = decide (z = strE e) := by
  obtain ⟨y, tk, e1, _⟩ := h
  have q : strE e = y := by
    unfold strE
    rw [e1]
  rw [q, e1]
  exact PySem.KeyKind.is_eq_decide (strKind_is P w y tk) z
theorem SetTb.mem (T : SetTb P w es t L) (z : Str) : z ∈ L ↔ ∃ e ∈ es.toList, (PySem.strKind P w).is z e.2 = true := by
  rw [← T.perm.mem_iff, List.mem_map]
  exact ⟨fun ⟨e, he, q⟩ => ⟨e, he, by rw [is_strE (T.each e he), q, decide_eq_true rfl]⟩, fun ⟨e, he, q⟩ => ⟨e, he, by rw [is_strE (T.each e he)] at q; exact (of_decide_eq_true q).symm⟩⟩
theorem SetS.at {h h' : Heap} {a : Addr} (R : SetS P w h a L) (k : ∀ o, h.get? a = some o → h'.get? a = some o) : SetS P w h' a L := by
  obtain ⟨o, es, ep, t, ho, r⟩ := R
  exact ⟨o, es, ep, t, k o ho, r⟩
theorem SetS.fresh (h : Heap) : SetS P w (h.push { cls := .type "set", dict := none, data := .set #[] 0 (.fresh 0 0 (!w.params.followText "set-order")) }) h.objs.size [] := by
  refine ⟨_, #[], 0, _, Heap.get?_push_size _ rfl, ⟨rfl, rfl, rfl⟩, rfl, ⟨fun e he => by simp at he, .nil, List.Pairwise.nil, by decide, by rfl, List.Pairwise.nil, ?_⟩⟩
  cases q : w.params.followText "set-order" with
  | false => exact .inr (by show (!false) = true; rfl)
  | true => exact .inl rfl
/-- one more text -/
def addS (L : List Str) (z : Str) : List Str := if z ∈ L then L else z :: L
end
section
variable {P : Program} {w : World} {A : Around} {E : Value → Shared → Prop} {s : Shared} {a : Addr} {L : List Str}
/-- the table is stored, and laid anew where it is too full -/
theorem setTb_store {g : Bool → Sem Unit} (hg : ∀ (b : Bool) (s₁ : Shared) (Q' : Unit → Shared → Prop), Q' () s₁ → wpAny (model P w) A (g b) Q' E s₁)
    {o : Obj} {es es1 : Array (Int × Value)} {ep : Nat} {t t2 : SetTable} (ho : s.heap.get? a = some o) (hex : o.ExactSet) (hd : o.data = .set es ep t) (T : SetTb P w es1 t2 L) {wasDummy : Bool} {R : Option Bool → Shared → Prop}
    (hR : ∀ h', Heap.SameBut a s.heap h' → SetS P w h' a L → R (some true) { s with heap := h' }) :
    wpAny (model P w) A (do
        storeSet a es1 t2
        if (!wasDummy && t2.tooFull) = true then do
            g (relayAll t2 es1 (SetTable.grown es1.size)).2.2
            storeSet a (relayAll t2 es1 (SetTable.grown es1.size)).1 (relayAll t2 es1 (SetTable.grown es1.size)).2.1
            pure (some true)
          else pure (some true)) R E s := by
  refine wpAny_bind (wpAny_storeSet_of ho hd ?_ (fits_of_scanBound T.sizeB))
  have h1 := store_at (es' := es1) (t' := t2) ho hd
  have b1 := Heap.SameBut.update s.heap a (Obj.putSet es1 t2)
  split
  · have pm := relayAll_perm t2 es1 (SetTable.grown es1.size)
    have ft := relayAll_fits t2 es1 (SetTable.grown es1.size)
    have rs := relayAll_ris t2 es1 (SetTable.grown es1.size)
    have ld := relayAll_led t2 es1 (SetTable.grown es1.size)
    generalize relayAll t2 es1 (SetTable.grown es1.size) = Z at pm ft rs ld ⊢
    obtain ⟨es2, t3, gave⟩ := Z
    dsimp only at pm ft rs ld ⊢
    have T3 : SetTb P w es2 t3 L := ⟨fun e he => T.each e (pm.mem_iff.mp he), (pm.map strE).trans T.perm, T.nd, T.few, ft, rs, T.led.imp id fun z => by rw [ld]; exact z⟩
    refine wpAny_bind (hg _ _ _ ?_)
    refine wpAny_bind (wpAny_storeSet_of h1 rfl ?_ (fits_of_scanBound T3.sizeB))
    exact wpAny_pure (hR _ (b1.trans (Heap.SameBut.update _ a _)) ⟨_, es2, _, t3, store_at (es' := es2) (t' := t3) h1 rfl, hex, rfl, T3⟩)
  · exact wpAny_pure (hR _ b1 ⟨_, es1, _, t2, h1, hex, rfl, T⟩)
theorem setS_add {z : Str} {tk : Tok} {Q : Bool → Shared → Prop} (R : SetS P w s.heap a L) (room : L.length + 1 < scanBound)
    (hQ : ∀ b h', Heap.SameBut a s.heap h' → SetS P w h' a (addS L z) → Q b { s with heap := h' }) :
    wpAny (model P w) A (setAddHashed a (.str z tk) ((PySem.strKind P w).hash z)) Q E s := by
  obtain ⟨o, es, ep, t, ho, hex, hd, T⟩ := R
  have key : (PySem.strKind P w).is z (.str z tk) = true := strKind_is P w z tk
  have sc : (Value.str z tk).scannable = true := rfl
  unfold setAddHashed setAddHashedIn
  refine wpAny_holding (wpAny_bind (wpAny_setState_of ho hd T.fits ?_))
  dsimp only
  rw [byScan_of sc T.sizeB T.elems]
  simp only [↓reduceIte]
  unfold setAddByScan
  refine wpAny_bind ?_
  refine wpAny_bind (wpAny_rule ?_)
  refine wpAny_bind (wpAny_setScan_of key ho hd T.fits T.elems ?_)
  cases hfi : List.findIdx? (fun e => (PySem.strKind P w).is z e.2) es.toList with
  | some j =>
    dsimp only
    obtain ⟨hj, pj, _⟩ := List.findIdx?_eq_some_iff_getElem.mp hfi
    have zL : z ∈ L := (T.mem z).mpr ⟨es.toList[j], List.getElem_mem hj, pj⟩
    refine wpAny_pure (wpAny_pure (hQ _ s.heap (Heap.SameBut.refl a s.heap) ?_))
    rw [show addS L z = L from if_pos zL]
    exact ⟨o, es, ep, t, ho, hex, hd, T⟩
  | none =>
    dsimp only
    have nz : z ∉ L := fun q => by
      obtain ⟨e, he, q⟩ := (T.mem z).mp q
      have c := List.findIdx?_eq_none_iff.mp hfi e he
      rw [q] at c
      cases c
    have give : ∀ (b : Bool) {s₁ : Shared} {Q' : Unit → Shared → Prop}, Q' () s₁ → wpAny (model P w) A (match b with | true => rule "set.scan.the-table-gave-way" | false => pure ()) Q' E s₁ :=
      fun b s₁ Q' q => by cases b <;> first | exact wpAny_pure q | exact wpAny_rule q
    have pm := layNew_perm t es ((PySem.strKind P w).hash z) (.str z tk)
    have ft := layNew_fits t es ((PySem.strKind P w).hash z) (.str z tk)
    have rs := layNew_ris t es ((PySem.strKind P w).hash z) (.str z tk) T.ris
    have ld := layNew_led t es ((PySem.strKind P w).hash z) (.str z tk)
    generalize layNew t es ((PySem.strKind P w).hash z) (.str z tk) = Z at pm ft rs ld ⊢
    obtain ⟨es1, t1, wasDummy, gave⟩ := Z
    dsimp only at pm ft rs ld ⊢
    rw [Array.toList_push] at pm
    have pc : es1.toList.Perm (((PySem.strKind P w).hash z, Value.str z tk) :: es.toList) := pm.trans (List.perm_append_singleton _ _)
    have lq : w.params.followText "set-order" = true ∨ t1.led = true := T.led.imp id fun q => by rw [ld]; exact q
    have T1 : ∀ t2 : SetTable, t2.fits es1.size = true → Ris t2.place.toList → (w.params.followText "set-order" = true ∨ t2.led = true) → SetTb P w es1 t2 (addS L z) := fun t2 f2 r2 l2 => by
      rw [show addS L z = z :: L from if_neg nz]
      refine ⟨fun e he => ?_, (pc.map strE).trans (List.Perm.cons z T.perm), List.nodup_cons.mpr ⟨nz, T.nd⟩, room, f2, r2, l2⟩
      rcases List.mem_cons.mp (pc.mem_iff.mp he) with q | q
      · rw [q]
        exact ⟨z, tk, rfl, rfl⟩
      · exact T.each e q
    refine wpAny_bind (give _ ?_)
    split
    · refine wpAny_bind ?_
      rw [hashByValue_scannable 8 sc]
      refine wpAny_pure ?_
      refine setTb_store ?_ ho hex hd (T1 _ ?_ ?_ ?_) ?_
      · intro b s₁ Q' q; cases b <;> first | exact wpAny_pure q | exact wpAny_rule q
      · first | (split <;> first | exact ft | exact SetTable.fits_plain_off ft) | exact ft
      · first | (split <;> exact rs) | exact rs
      · first | (split <;> exact lq) | exact lq
      · intro h' sb r; dsimp only; exact wpAny_pure (hQ _ h' sb r)
    · refine wpAny_bind (wpAny_pure ?_)
      simp only [↓reduceIte]
      refine setTb_store ?_ ho hex hd (T1 _ ft rs lq) ?_
      · intro b s₁ Q' q; cases b <;> first | exact wpAny_pure q | exact wpAny_rule q
      · intro h' sb r; dsimp only; exact wpAny_pure (hQ _ h' sb r)
end
/-! ### the texts of a list, one after another -/
theorem addS_len (L : List Str) (z : Str) : (addS L z).length ≤ L.length + 1 := by
  unfold addS
  split
  · omega
  · exact Nat.le_refl _
theorem foldS_len : ∀ (zs L : List Str), (zs.foldl addS L).length ≤ L.length + zs.length
  | [], L => Nat.le_refl _
  | z :: r, L => by
    have a := foldS_len r (addS L z)
    have b := addS_len L z
    show (r.foldl addS (addS L z)).length ≤ L.length + (r.length + 1)
    omega
theorem addS_mem (L : List Str) (z y : Str) : y ∈ addS L z ↔ y ∈ L ∨ y = z := by
  unfold addS
  split
  · rename_i c
    exact ⟨.inl, fun q => q.elim id fun e => e ▸ c⟩
  · rw [List.mem_cons]
    exact Or.comm
theorem foldS_mem : ∀ (zs L : List Str) (y : Str), y ∈ zs.foldl addS L ↔ y ∈ L ∨ y ∈ zs
  | [], L, y => ⟨.inl, fun q => q.elim id fun z => nomatch z⟩
  | z :: r, L, y => by
    show y ∈ r.foldl addS (addS L z) ↔ _
    rw [foldS_mem r, addS_mem, List.mem_cons, or_assoc]
theorem addS_nd {L : List Str} (h : L.Nodup) (z : Str) : (addS L z).Nodup := by
  unfold addS
  split
  · exact h
  · rename_i c
    exact List.nodup_cons.mpr ⟨c, h⟩
theorem foldS_nd : ∀ (zs L : List Str), L.Nodup → (zs.foldl addS L).Nodup
  | [], L, h => h
  | z :: r, L, h => foldS_nd r _ (addS_nd h z)
theorem foldS_snoc (zs : List Str) (i : Nat) (z : Str) (h : zs[i]? = some z) : (zs.take (i + 1)).foldl addS [] = addS ((zs.take i).foldl addS []) z := by
  rw [List.take_add_one, h, List.foldl_append]
  rfl
theorem nodup_lenA : ∀ {xs ys : List Str}, xs.Nodup → (∀ x ∈ xs, x ∈ ys) → xs.length ≤ ys.length
  | [], _, _, _ => Nat.zero_le _
  | x :: r, ys, nd, h => by
    obtain ⟨n1, n2⟩ := List.nodup_cons.mp nd
    have hx := h x (List.mem_cons_self ..)
    have q := nodup_lenA (xs := r) (ys := ys.erase x) n2 fun z hz => (List.mem_erase_of_ne (fun (e : z = x) => n1 (by rw [← e]; exact hz))).mpr (h z (List.mem_cons_of_mem _ hz))
    have l := List.length_erase_of_mem hx
    have l0 : 0 < ys.length := List.length_pos_of_mem hx
    rw [List.length_cons]
    omega
section
variable {P : Program} {w : World} {A : Around} {R : Result → Shared → Prop} {I : Addr} {fp wr : List Addr} {G : Array GenState → Array GenState → Prop} {n : Nat} {Pv : Nat → Value → Prop} {St : Nat → Shared → Prop}
theorem loopS (W : WalksS P w A.in1 I fp wr G n Pv St) (S : Addr) (hSf : S ∉ fp) (zs ns : List Str) (hn : zs.length = n) (few : ns.length + 1 < scanBound) (sub : ∀ z ∈ zs, z ∈ ns) (hval : ∀ i v, Pv i v → ∃ z t, zs[i]? = some z ∧ v = .str z t) :
    ∀ (k i : Nat) (s : Shared), n - i = k → i ≤ n → St i s → SetS P w s.heap S ((zs.take i).foldl addS []) →
      (∀ s', Moved (S :: wr) G s s' → SetS P w s'.heap S (zs.foldl addS []) → R (.ok (.ret .none)) s') → codeAny (model P w) A (.builtin "set.update.loop" ⟨[.ref S, .ref I], []⟩) R s := by
  have hSw : S ∉ wr := fun h => hSf (W.sub _ h)
  have up : ∀ b ∈ wr, b ∈ S :: wr := fun b hb => List.mem_cons_of_mem _ hb
  intro k
  induction k with
  | zero =>
    intro i s hk hi hst hS hR
    obtain rfl : i = n := by omega
    refine codeAny_builtin PyProof.Rows.F.entry_set_update_loop ?_
    rw [Around.under_plainId PyProof.Rows.F.plain_set_update_loop _]
    show wpAny _ A.in1 (pyNext (.ref I) >>= _) _ _ s
    refine wpAny_bind (W.done s _ _ hst fun s' hm => ?_)
    show wpAny _ A.in1 (ret Value.none) _ _ s'
    rw [← hn, List.take_length] at hS
    exact wpAny_pure (hR s' (hm.mono up) (hS.at fun o e => hm.heap S _ hSw e))
  | succ k ih =>
    intro i s hk hi hst hS hR
    have lt : i < n := by omega
    refine codeAny_builtin PyProof.Rows.F.entry_set_update_loop ?_
    rw [Around.under_plainId PyProof.Rows.F.plain_set_update_loop _]
    show wpAny _ A.in1 (pyNext (.ref I) >>= _) _ _ s
    refine wpAny_bind (W.item i s _ _ lt hst fun v s' hP hst' hm => ?_)
    obtain ⟨z, tk, hz, rfl⟩ := hval i v hP
    have hS' := hS.at (h' := s'.heap) fun o e => hm.heap S _ hSw e
    show wpAny _ A.in1 (holding [Value.str z tk] (setAdd S (.str z tk)) >>= _) _ _ s'
    refine wpAny_bind (wpAny_holding ?_)
    unfold setAdd
    refine wpAny_holding ?_
    refine wpAny_bind ((PySem.strKind P w).pyHash (strKind_is P w z tk) ?_)
    have l1 := nodup_lenA (foldS_nd (zs.take i) [] List.nodup_nil) fun y hy => sub y (by
      rcases (foldS_mem (zs.take i) [] y).mp hy with q | q
      · cases q
      · exact List.mem_of_mem_take q)
    refine setS_add (s := { s' with toks := s'.toks + 1 }) hS' (by omega) fun b h' sb hS2 => ?_
    rw [← foldS_snoc zs i z hz] at hS2
    refine wpAny_pure ⟨plainId_quiet PyProof.Rows.F.plain_set_update_loop _, ih (i + 1) _ (by omega) lt (W.frame _ s' _ _ hst' (Nat.le_succ _) fun b hb o e => ?_) hS2 fun s'' hm'' hS'' => ?_⟩
    · rw [sb.2 b (fun h : b = S => hSf (by rw [← h]; exact hb))]
      exact e
    · refine hR s'' (Moved.trans W.gtrans ((hm.mono up).then_heap (Nat.le_succ _) fun b o hb e => ?_) hm'') hS''
      rw [sb.2 b (fun h : b = S => hb (by rw [h]; exact List.mem_cons_self))]
      exact e
end
end K1

/-! set(texts), sorted(set) -/
namespace K1
open PySem PySem.Spec PyProof.Rows L2
section
variable {P : Program} {w : World} {A : Around} {E : Value → Shared → Prop} {s : Shared}
/-- a new set that takes the texts of a list -/
theorem call_setS {l : Addr} {items : Array Value} {zs ns : List Str} {Q : Value → Shared → Prop} (hh : A.handled = none) (hl : s.heap.IsList l items) (hi : StrsAre items.toList zs) (few : ns.length + 1 < scanBound) (sub : ∀ z ∈ zs, z ∈ ns)
    (h : ∀ (h' : Heap) (tk : Nat), SetS P w h' s.heap.objs.size (zs.foldl addS []) → (∀ b o, s.heap.get? b = some o → h'.get? b = some o) → Q (.ref s.heap.objs.size) { s with heap := h', toks := tk }) :
    wpAny (model P w) A (call (.type "set") [.ref l]) Q E s := by
  have sz : zs.length = items.size := by rw [← StrsAre.len_eq hi, Array.length_toList]
  obtain ⟨c, tl, hmro⟩ := F.called_set.mro
  have hmade := F.called_set.made
  have hsub := F.called_set.sub
  refine wpAny_call (codeAny_of_tree ?_)
  show wpAny _ _ (callAny (.type "set") _) _ _ _
  refine wpAny_pure ⟨Code.quiet_builtin _ (by decide +kernel), codeAny_builtin F.entry_type_call ?_⟩
  rw [Around.under_plain (weight_type_call_type "set" [.ref l] []) rfl]
  have h1 := F.called_set.notType
  have h2 := F.called_set.canCreate
  have hct := F.typeCall_set_1 (.ref l)
  repeat (any_goals (first | assumption | wp_step))
  refine codeAny_mono (code_set_led1 (.ref l) (E := E) (Q₁ := fun obj s₁ => obj = .ref s.heap.objs.size ∧ s₁ = { s with heap := s.heap.push { cls := .type "set", dict := none, data := .set #[] 0 (.fresh 0 0 (!w.params.followText "set-order")) } }) ⟨rfl, rfl⟩) fun r s₁ hr => ?_
  cases r with
  | error e => exact hr
  | ok fl =>
    cases fl with
    | ret obj =>
      obtain ⟨rfl, rfl⟩ := hr
      have hS : (s.heap.push { cls := .type "set", dict := none, data := .set #[] 0 (.fresh 0 0 (!w.params.followText "set-order")) }).get? s.heap.objs.size = some { cls := .type "set", dict := none, data := .set #[] 0 (.fresh 0 0 (!w.params.followText "set-order")) } := Heap.get?_push_size _ rfl
      have hT : Shared.TypeIs { s with heap := s.heap.push { cls := .type "set", dict := none, data := .set #[] 0 (.fresh 0 0 (!w.params.followText "set-order")) } } (.ref s.heap.objs.size) "set" := ⟨_, hS, rfl⟩
      have hli := F.called_set.init.lookup
      have hbi := F.called_set.init.bind (.ref s.heap.objs.size)
      repeat (any_goals (first | assumption | wp_step))
      refine codeAny_mono (codeAny_call_builtin (R := wants (fun r s₂ => r = .none ∧ ∃ h' tk, s₂ = { s with heap := h', toks := tk } ∧ SetS P w h' s.heap.objs.size (zs.foldl addS []) ∧ (∀ b o, s.heap.get? b = some o → h'.get? b = some o)) E)
        F.called_set.init.plain F.entry_set_init (check_set_init_1 hT ?_)) fun r₂ s₂ hr₂ => ?_
      · obtain ⟨⟨ocls, odict, odata, oslots⟩, hol, hcl, nl, hdl⟩ := hl
        simp only at hcl hdl
        subst hcl; subst hdl
        have ltl : l < s.heap.objs.size := Heap.lt_size hol
        have hol' : (s.heap.push { cls := .type "set", dict := none, data := .set #[] 0 (.fresh 0 0 (!w.params.followText "set-order")) }).get? l = some { cls := .type "list", dict := odict, data := .seq items nl, slots := oslots } := Heap.get?_push_of_some _ hol
        have hsls := F.sub_list_set
        have hslf := F.sub_list_frozenset
        have hne : (Value.type "list" == Value.type "dict") = false := by decide
        have hl1 : (s.heap.push { cls := .type "set", dict := none, data := .set #[] 0 (.fresh 0 0 (!w.params.followText "set-order")) }).IsList l items := ⟨_, hol', rfl, nl, rfl⟩
        unfold Builtin.«set.__init__» noKeywords Builtin.Frozenset.updateFrom
        generalize hPI : pyIter = PI
        wp_walk
        subst hPI
        refine wpAny_pyIter_list hl1 ?_
        refine wpAny_bind (wpAny_runValue ?_)
        have hh3 : A.in1.in1.in1.handled = none := by simp [hh]
        have z1 : (s.heap.push { cls := .type "set", dict := none, data := .set #[] 0 (.fresh 0 0 (!w.params.followText "set-order")) }).objs.size = s.heap.objs.size + 1 := Heap.size_push ..
        have neI : l ≠ (s.heap.push { cls := .type "set", dict := none, data := .set #[] 0 (.fresh 0 0 (!w.params.followText "set-order")) }).objs.size := by
          rw [z1]
          exact Nat.ne_of_lt (Nat.lt_succ_of_lt ltl)
        have out : s.heap.objs.size ∉ [(s.heap.push { cls := .type "set", dict := none, data := .set #[] 0 (.fresh 0 0 (!w.params.followText "set-order")) }).objs.size, l] := by
          rw [z1]
          simp only [List.mem_cons, List.mem_singleton, List.not_mem_nil, or_false, not_or]
          exact ⟨Nat.ne_of_lt (Nat.lt_succ_self _), Nat.ne_of_gt ltl⟩
        have hval : ∀ (i : Nat) (v : Value), items[i]? = some v → ∃ z t, zs[i]? = some z ∧ v = .str z t := fun i v hv => by
          have lt : i < zs.length := by
            rw [sz]
            exact (Array.getElem?_eq_some_iff.mp hv).1
          obtain ⟨t, e⟩ := SS.strs_at hi i v (by rw [Array.getElem?_toList]; exact hv)
          rw [List.getD_eq_getElem?_getD, List.getElem?_eq_getElem lt] at e
          exact ⟨_, t, List.getElem?_eq_getElem lt, e⟩
        refine loopS ((Walks.list hh3 _ l neI items).toS) s.heap.objs.size out zs ns sz few sub hval (items.size - 0) 0 _ (by omega) (Nat.zero_le _) ⟨⟨_, Heap.get?_push_size _ rfl, rfl, rfl⟩, (hl1.push _)⟩ ((SetS.fresh (P := P) (w := w) s.heap).at fun o e => Heap.get?_push_of_some _ e) ?_
        intro s' hm hS'
        obtain ⟨h', g', d', tk', os'⟩ := s'
        have eg : g' = s.gens := hm.gens
        have ed : d' = s.drawn := hm.drawn
        have eo : os' = s.os := hm.os
        subst eg; subst ed; subst eo
        show wpAny _ _ _ _ _ _
        refine wpAny_pure ?_
        show wpAny _ _ (ret Value.none) _ _ _
        refine wpAny_pure ⟨rfl, h', tk', rfl, hS', fun b o e => ?_⟩
        have lb := Heap.lt_size e
        refine hm.heap b o ?_ (Heap.get?_push_of_some _ (Heap.get?_push_of_some _ e))
        rw [z1]
        simp only [List.mem_cons, List.mem_singleton, List.not_mem_nil, or_false, not_or]
        exact ⟨Nat.ne_of_lt lb, Nat.ne_of_lt (Nat.lt_succ_of_lt lb)⟩
      · cases r₂ with
        | error e => exact hr₂
        | ok fl₂ =>
          cases fl₂ with
          | ret r =>
            obtain ⟨rfl, h', tk, rfl, hS', hk'⟩ := hr₂
            repeat (any_goals (first | assumption | wp_step))
            exact h _ _ hS' hk'
          | _ => exact hr₂.elim
    | _ => exact hr.elim
theorem strs_of_list : ∀ (vs : List Value), (∀ v ∈ vs, ∃ z tk, v = Value.str z tk) → ∃ zs, StrsAre vs zs
  | [], _ => ⟨[], .nil⟩
  | v :: r, h => by
    obtain ⟨z, tk, rfl⟩ := h v (List.mem_cons_self ..)
    obtain ⟨zs, q⟩ := strs_of_list r fun x hx => h x (List.mem_cons_of_mem _ hx)
    exact ⟨z :: zs, .cons z tk q⟩
theorem strsE_map : ∀ {vs : List Value} {zs : List Str}, StrsAre vs zs → (vs.map fun v => strE (0, v)) = zs
  | _, _, .nil => rfl
  | _, _, .cons z tk q => by
    rw [List.map_cons, strsE_map q]
    rfl
theorem call_sortedS {a : Addr} {L : List Str} {Q : Value → Shared → Prop} (R : SetS P w s.heap a L) (hh : A.handled = none) (h64 : L.length < 64)
    (hQ : ∀ s' p (out : Array Value) (c : Nat) (ys : List Str), (∀ b o, s.heap.get? b = some o → s'.heap.get? b = some o) → s'.gens = s.gens → s'.os = s.os → s.heap.objs.size ≤ p →
      s'.heap.get? p = some (seqObj "list" out c) → StrsAre out.toList ys → ys.Perm L → sortedS ys = true → Q (.ref p) s') :
    wpAny (model P w) A (call (.builtin "sorted") [.ref a]) Q E s := by
  obtain ⟨o, es, ep, t, ho, hex, hd, T⟩ := R
  refine Calls.call_function_entry kind_sorted plain_sorted entry_sorted (args_sorted1 _) ?_
  unfold Builtin.«sorted»
  refine wpAny_bind (m := checkCount "sorted" 1 1 _) (wpAny_pure ?_)
  refine wpAny_bind (collect_set (A := A.in1) hh ⟨o, ho, hex.1, hd⟩ T.fits T.sizeB T.ris T.led fun s1 vs k1 hz g1 o1 pm => ?_)
  have vl : vs.length = L.length := by rw [pm.length_eq, List.length_map, Array.length_toList, T.size]
  obtain ⟨zs, hS⟩ := strs_of_list vs fun v hv => by
    obtain ⟨e, he, q⟩ := List.mem_map.mp (pm.mem_iff.mp hv)
    obtain ⟨z, tk, e1, _⟩ := T.each e he
    exact ⟨z, tk, q.symm.trans e1⟩
  have pz : zs.Perm L := by
    rw [← strsE_map hS]
    refine (pm.map fun v => strE (0, v)).trans ?_
    rw [List.map_map]
    exact T.perm
  refine wpAny_bind (wpAny_newList ?_ (by rw [vl, sizeLine_eq]; omega))
  have hoL : (s1.heap.push (seqObj "list" vs.toArray 0)).get? s1.heap.objs.size = some (seqObj "list" vs.toArray 0) := Heap.get?_push_size _ rfl
  refine wpAny_bind (wpAny_holding (wpAny_call_entry slot_list_sort ⟨_, hoL, rfl⟩ entry_list_sort (list_sort_treeK strKind_oneLt hoL hS.keysOf (fun v₁ v₂ rest e => keyKind_strs (by rw [← e]; exact hS)) (by rw [vl]; exact h64) fun st' a1 a2 => ⟨_, rfl, ?_⟩) (args_list_sort _)))
  obtain ⟨ys, b1, b2, b3⟩ := sorted_out_str hS a1 a2
  obtain ⟨c, hc⟩ := sortedHeap_at (vs := vs) (out := (arrOf st').map (·.2)) hoL
  refine wpAny_pure ⟨_, rfl, hQ _ s1.heap.objs.size ((arrOf st').map (·.2)) c ys (fun b u e => ?_) g1 o1 hz hc b1 (b2.trans pz) b3⟩
  have q := k1 b u e
  have lt := Heap.lt_size q
  show (sortedHeap (s1.heap.push (seqObj "list" vs.toArray 0)) s1.heap.objs.size vs _).get? b = some u
  rw [sortedHeap_old (Nat.ne_of_lt lt) (by rw [size_push']; exact Nat.lt_succ_of_lt lt)]
  exact Heap.get?_push_of_some _ q
end
end K1

/-! sorted(set(texts)), by values -/
namespace L2
open PySem PySem.Spec PyProof.Rows K1
def SetSO (P : Program) (w : World) (a : Addr) (L : List Str) : HO := .ext fun h => SetS P w h a L
section
variable {X : Cx}
theorem setSO_new {w : World} {P : Program} {H : Hp} {h : Heap} {a : Addr} {L : List Str} (R : SetS P w h a L) : ObjOk P w H h a (SetSO P w a L) := by
  have ⟨o, _, _, _, ho, _⟩ := R
  exact ⟨R, ⟨o, ho⟩, fun h1 h2 p k => SetS.at p k⟩
theorem setSO_get {pins : List (Addr × Obj)} {σ : St} {H : Hp} {s : Shared} {a : Addr} {L : List Str} (I : Inv X pins σ H s) (ha : H a = some (SetSO X.prog X.w a L)) : SetS X.prog X.w s.heap a L := (I.hok a _ ha).1
/-- set(xs), xs a list of texts -/
def rSetS (K : PySem.W.Frag) (P : Program) (w : World) : List V → Hp → VK → Prop := fun xs H Q => ∃ (l : Addr) (zs ns : List Str), xs = [.ref l] ∧ SqL K H l (zs.map V.str) ∧ ns.length ≤ 4000 ∧ (∀ z ∈ zs, z ∈ ns) ∧ ∀ a, H a = none → Q (.ref a) (upd H a (SetSO P w a (zs.foldl addS [])))
theorem cr_setS (hc : X.calm = true) : CallR X (.type "set") (rSetS X.K X.prog X.w) := by
  intro pins s σ H xs us Q I r h
  obtain ⟨l, zs, ns, rfl, hl, few, sub, q⟩ := h
  rw [Vals.ref1 r]
  obtain ⟨its, rv, pl, hz⟩ := I.list hl
  refine call_setS (I.ok.hd hc) pl.isList (by simpa using rv.strs) (ns := ns) (by unfold scanBound; omega) sub fun h' tk hS hk => ?_
  have hn : H s.heap.objs.size = none := I.hok.fresh (Nat.le_refl _)
  exact ⟨.ref _, upd H s.heap.objs.size (SetSO X.prog X.w s.heap.objs.size (zs.foldl addS [])), I.laid (t' := tk) hk (Nat.le_refl _) (setSO_new hS), rfl, q _ hn⟩
/-- sorted(s), s such a set -/
def rSortedSS (P : Program) (w : World) : List V → Hp → VK → Prop := fun vs H Q => ∃ (a : Addr) (L : List Str), vs = [V.ref a] ∧ H a = some (SetSO P w a L) ∧ L.length < 64 ∧
  ∀ (ys : List Str) (p : Addr), ys.Perm L → sortedS ys = true → H p = none → Q (.ref p) (upd H p (.lst (ys.map V.str)))
theorem cr_sortedSS (hc : X.calm = true) : CallR X (.builtin "sorted") (rSortedSS X.prog X.w) := by
  intro pins s σ H vs us Q I r h
  obtain ⟨a, L, rfl, ha, h64, q⟩ := h
  rw [Vals.ref1 r]
  refine call_sortedS (setSO_get I ha) (I.ok.hd hc) h64 fun s' p out c ys k g o hp hg hi pm so => ?_
  have hlen : (ys.map V.str).length ≤ sizeLine := by rw [List.length_map, pm.length_eq, sizeLine_eq]; omega
  have hn : H p = none := I.hok.fresh hp
  have J : Inv X pins σ (upd H p (.lst (ys.map V.str))) { s with heap := s'.heap, gens := s'.gens, drawn := s'.drawn, toks := s'.toks } :=
    I.call (ch := []) (Un.laid k hp hn) (I.hok.laid k hp ⟨hlen, out.toList, c, vals_of_strs hi, hg⟩) (by rw [g]; exact I.bare) (fun _ z => nomatch z)
  have e : s' = { s with heap := s'.heap, gens := s'.gens, drawn := s'.drawn, toks := s'.toks } := by
    cases s'
    cases s
    cases o
    rfl
  rw [e]
  exact ⟨.ref p, _, J, rfl, q ys p pm so hn⟩
end
end L2
namespace Ev
open PySem PySem.Spec PyProof.Rows L2 Own K1
/-- the texts of zs, each once, in their order -/
def SortedOf (zs ys : List Str) : Prop := sortedS ys = true ∧ ys.Nodup ∧ ∀ z, z ∈ ys ↔ z ∈ zs
theorem nodup_len : ∀ {xs ys : List Str}, xs.Nodup → (∀ x ∈ xs, x ∈ ys) → xs.length ≤ ys.length
  | [], _, _, _ => Nat.zero_le _
  | x :: r, ys, nd, h => by
    obtain ⟨n1, n2⟩ := List.nodup_cons.mp nd
    have hx := h x (List.mem_cons_self ..)
    have q := nodup_len (xs := r) (ys := ys.erase x) n2 fun z hz => (List.mem_erase_of_ne (fun (e : z = x) => n1 (by rw [← e]; exact hz))).mpr (h z (List.mem_cons_of_mem _ hz))
    have l := List.length_erase_of_mem hx
    have l0 : 0 < ys.length := List.length_pos_of_mem hx
    rw [List.length_cons]
    omega
abbrev stP (zs : List Str) : List PV := zs.map PV.str
@[irreducible] def vSSet (p : PV) (st : Sto) (Q : QV) : Prop := ∃ zs ns : List Str, seqL st p = some (stP zs) ∧ ns.length ≤ 60 ∧ (∀ z ∈ zs, z ∈ ns) ∧ ∀ ys, SortedOf zs ys → Q (.lst (stP ys)) st
def gSSet (g : GE) : GE := fun env st Q => g env st fun p s => vSSet p s Q
theorem vSSet_mono {p : PV} {st : Sto} {Q Q' : QV} (k : ∀ r s, Q r s → Q' r s) (h : vSSet p st Q) : vSSet p st Q' := by
  unfold vSSet at h ⊢
  obtain ⟨zs, ns, a, c, d, e⟩ := h
  exact ⟨zs, ns, a, c, d, fun ys hy => k _ _ (e ys hy)⟩
theorem sset' {p : PV} {st : Sto} {Q : QV} {zs ns : List Str} (e : seqL st p = some (stP zs)) (n : ns.length ≤ 60) (h : ∀ z ∈ zs, z ∈ ns) (k : ∀ ys, SortedOf zs ys → Q (.lst (stP ys)) st) : vSSet p st Q := by
  unfold vSSet
  exact ⟨zs, ns, e, n, h, k⟩
section
variable {I : Hp → Prop} {X : Cx} {K : PySem.W.Frag} {F : Addr → Prop} {st : Sto} {H G : Hp}
theorem strs_ra : ∀ {zs : List Str} {us : List V}, RpAll K G us (stP zs) → us = zs.map V.str
  | [], _, h => h
  | z :: r, _, ⟨v, ws, e, rv, ra⟩ => by
    rw [e, strs_ra ra, show v = .str z from rv]
    rfl
theorem ra_strs : ∀ zs : List Str, RpAll K G (zs.map V.str) (stP zs)
  | [] => rfl
  | z :: r => ⟨_, _, rfl, rfl, ra_strs r⟩
theorem ee_sset {e : Expr} {ga : GE} {p p2 q pos : Pos} (i0 : Inv0 I) (hc : X.calm = true) (hg : Gl X "sorted") (hm : X.mg "sorted" = none) (hg2 : Gl X "set") (hm2 : X.mg "set" = none) (ha : EE I X e ga)
    (h1 : starEach [e] X.env = (false, eval e X.env) :: starEach [] X.env := by rfl) (h2 : starEach [.Call (.Name "set" p2) [e] [] q] X.env = (false, eval (.Call (.Name "set" p2) [e] [] q) X.env) :: starEach [] X.env := by rfl)
    (h3 : (backTo q (starEach [] X.env)).any (·.1) = false := by rfl) (h4 : (backTo pos (starEach [] X.env)).any (·.1) = false := by rfl) :
    EE I X (.Call (.Name "sorted" p) [.Call (.Name "set" p2) [e] [] q] [] pos) (gSSet ga) := by
  have S := pe_callTy (p := p2) (pos := q) (cr_setS (X := X) hc) hg2 hm2 (by decide +kernel) (pa_cons ha.pe pa_nil h1) (by decide) (by decide) h1 h3
  have T := pe_callB (p := p) (pos := pos) (cr_sortedSS (X := X) hc) hg hm (by decide +kernel) (pa_cons S pa_nil h2) (by decide) (by decide) h2 h4
  refine ⟨fun env st Q Q' k h => ha.mono _ _ _ _ (fun _ _ z => vSSet_mono k z) h, pe_imp T fun σ H Q ⟨F, st, env, w, ev, h⟩ => ?_⟩
  refine lE_of ha.mono w ev h fun x s1 z v H1 l1 w1 r1 => ?_
  unfold vSSet at z
  obtain ⟨zs, ns, es, ln, sub, z⟩ := z
  obtain ⟨a, us, rfl, hl, ra⟩ := seqL_ok w1 r1 es
  have eu := strs_ra ra
  subst eu
  refine ⟨a, zs, ns, rfl, hl, by omega, sub, fun b nb => ?_⟩
  have l2 : Le F s1 H1 s1 (upd H1 b (SetSO X.prog X.w b (zs.foldl addS []))) := Le.new nb
  have w2 := w1.new i0 (o := SetSO X.prog X.w b (zs.foldl addS [])) nb
  have nd : (zs.foldl addS []).Nodup := foldS_nd zs [] List.nodup_nil
  have mem : ∀ y, y ∈ zs.foldl addS [] ↔ y ∈ zs := fun y => by
    rw [foldS_mem]
    exact ⟨fun q => q.elim (fun z => nomatch z) id, .inr⟩
  have len : (zs.foldl addS []).length ≤ ns.length := nodup_len nd fun y hy => sub y ((mem y).mp hy)
  refine ⟨b, zs.foldl addS [], rfl, upd_same, by omega, fun ys p pm so np => ?_⟩
  have l3 : Le F s1 (upd H1 b (SetSO X.prog X.w b (zs.foldl addS []))) s1 (upd (upd H1 b (SetSO X.prog X.w b (zs.foldl addS []))) p (.lst (ys.map V.str))) := Le.new np
  refine z ys ⟨so, pm.nodup_iff.mpr nd, fun y => by rw [pm.mem_iff]; exact mem y⟩ (.ref p) _ ((l1.trans l2).trans l3) (w2.new i0 np) ⟨p, _, rfl, hd_new w2 np rfl, ra_strs ys⟩
end
end Ev

/-! sets of numbers: set(list of texts), sorted(that set) -/
namespace K1
open PySem PySem.Spec PyProof.Rows L2
def IntE (P : Program) (w : World) (e : Int × Value) : Prop := ∃ z tk, e.2 = Value.int z tk ∧ e.1 = (PySem.intKind P w).hash z
def intE (e : Int × Value) : Int := match e.2 with
  | .int z _ => z
  | _ => 0
/-- what a set's table has to be, its members the texts of L -/
structure SetIb (P : Program) (w : World) (es : Array (Int × Value)) (t : SetTable) (L : List Int) : Prop where
  each : ∀ e ∈ es.toList, IntE P w e
  perm : (es.toList.map intE).Perm L
  nd : L.Nodup
  few : L.length < scanBound
  fits : t.fits es.size = true
  ris : Ris t.place.toList
  led : w.params.followText "set-order" = true ∨ t.led = true
def SetI (P : Program) (w : World) (h : Heap) (a : Addr) (L : List Int) : Prop := ∃ o es ep t, h.get? a = some o ∧ o.ExactSet ∧ o.data = .set es ep t ∧ SetIb P w es t L
section
variable {P : Program} {w : World} {es : Array (Int × Value)} {t : SetTable} {L : List Int}
theorem SetIb.size (T : SetIb P w es t L) : es.size = L.length := by
  rw [← T.perm.length_eq, List.length_map, Array.length_toList]
theorem SetIb.sizeB (T : SetIb P w es t L) : es.size < scanBound := by
  rw [T.size]
  exact T.few
theorem SetIb.elems (T : SetIb P w es t L) : ElemsOf (PySem.intKind P w) es.toList := fun e he => by
  obtain ⟨z, tk, e1, e2⟩ := T.each e he
  exact ⟨⟨z, by rw [e1]; exact intKind_is P w z tk, e2⟩, by rw [e1]; rfl⟩
theorem is_intE {e : Int × Value} (h : IntE P w e) (z : Int) : (PySem.intKind P w).is z e.2 = decide (z = intE e) := by
  obtain ⟨y, tk, e1, _⟩ := h
  have q : intE e = y := by
    unfold intE
    rw [e1]
  rw [q, e1]
  exact PySem.KeyKind.is_eq_decide (intKind_is P w y tk) z
theorem SetIb.mem (T : SetIb P w es t L) (z : Int) : z ∈ L ↔ ∃ e ∈ es.toList, (PySem.intKind P w).is z e.2 = true := by
  rw [← T.perm.mem_iff, List.mem_map]
  exact ⟨fun ⟨e, he, q⟩ => ⟨e, he, by rw [is_intE (T.each e he), q, decide_eq_true rfl]⟩, fun ⟨e, he, q⟩ => ⟨e, he, by rw [is_intE (T.each e he)] at q; exact (of_decide_eq_true q).symm⟩⟩
theorem SetI.at {h h' : Heap} {a : Addr} (R : SetI P w h a L) (k : ∀ o, h.get? a = some o → h'.get? a = some o) : SetI P w h' a L := by
  obtain ⟨o, es, ep, t, ho, r⟩ := R
  exact ⟨o, es, ep, t, k o ho, r⟩
theorem SetI.fresh (h : Heap) : SetI P w (h.push { cls := .type "set", dict := none, data := .set #[] 0 (.fresh 0 0 (!w.params.followText "set-order")) }) h.objs.size [] := by
  refine ⟨_, #[], 0, _, Heap.get?_push_size _ rfl, ⟨rfl, rfl, rfl⟩, rfl, ⟨fun e he => by simp at he, .nil, List.Pairwise.nil, by decide, by rfl, List.Pairwise.nil, ?_⟩⟩
  cases q : w.params.followText "set-order" with
  | false => exact .inr (by show (!false) = true; rfl)
  | true => exact .inl rfl
/-- one more text -/
def addI (L : List Int) (z : Int) : List Int := if z ∈ L then L else z :: L
end
section
variable {P : Program} {w : World} {A : Around} {E : Value → Shared → Prop} {s : Shared} {a : Addr} {L : List Int}
/-- the table is stored, and laid anew where it is too full -/
theorem setIb_store {g : Bool → Sem Unit} (hg : ∀ (b : Bool) (s₁ : Shared) (Q' : Unit → Shared → Prop), Q' () s₁ → wpAny (model P w) A (g b) Q' E s₁)
    {o : Obj} {es es1 : Array (Int × Value)} {ep : Nat} {t t2 : SetTable} (ho : s.heap.get? a = some o) (hex : o.ExactSet) (hd : o.data = .set es ep t) (T : SetIb P w es1 t2 L) {wasDummy : Bool} {R : Option Bool → Shared → Prop}
    (hR : ∀ h', Heap.SameBut a s.heap h' → SetI P w h' a L → R (some true) { s with heap := h' }) :
    wpAny (model P w) A (do
        storeSet a es1 t2
        if (!wasDummy && t2.tooFull) = true then do
            g (relayAll t2 es1 (SetTable.grown es1.size)).2.2
            storeSet a (relayAll t2 es1 (SetTable.grown es1.size)).1 (relayAll t2 es1 (SetTable.grown es1.size)).2.1
            pure (some true)
          else pure (some true)) R E s := by
  refine wpAny_bind (wpAny_storeSet_of ho hd ?_ (fits_of_scanBound T.sizeB))
  have h1 := store_at (es' := es1) (t' := t2) ho hd
  have b1 := Heap.SameBut.update s.heap a (Obj.putSet es1 t2)
  split
  · have pm := relayAll_perm t2 es1 (SetTable.grown es1.size)
    have ft := relayAll_fits t2 es1 (SetTable.grown es1.size)
    have rs := relayAll_ris t2 es1 (SetTable.grown es1.size)
    have ld := relayAll_led t2 es1 (SetTable.grown es1.size)
    generalize relayAll t2 es1 (SetTable.grown es1.size) = Z at pm ft rs ld ⊢
    obtain ⟨es2, t3, gave⟩ := Z
    dsimp only at pm ft rs ld ⊢
    have T3 : SetIb P w es2 t3 L := ⟨fun e he => T.each e (pm.mem_iff.mp he), (pm.map intE).trans T.perm, T.nd, T.few, ft, rs, T.led.imp id fun z => by rw [ld]; exact z⟩
    refine wpAny_bind (hg _ _ _ ?_)
    refine wpAny_bind (wpAny_storeSet_of h1 rfl ?_ (fits_of_scanBound T3.sizeB))
    exact wpAny_pure (hR _ (b1.trans (Heap.SameBut.update _ a _)) ⟨_, es2, _, t3, store_at (es' := es2) (t' := t3) h1 rfl, hex, rfl, T3⟩)
  · exact wpAny_pure (hR _ b1 ⟨_, es1, _, t2, h1, hex, rfl, T⟩)
theorem setI_add {z : Int} {tk : Tok} {Q : Bool → Shared → Prop} (R : SetI P w s.heap a L) (room : L.length + 1 < scanBound)
    (hQ : ∀ b h', Heap.SameBut a s.heap h' → SetI P w h' a (addI L z) → Q b { s with heap := h' }) :
    wpAny (model P w) A (setAddHashed a (.int z tk) ((PySem.intKind P w).hash z)) Q E s := by
  obtain ⟨o, es, ep, t, ho, hex, hd, T⟩ := R
  have key : (PySem.intKind P w).is z (.int z tk) = true := intKind_is P w z tk
  have sc : (Value.int z tk).scannable = true := rfl
  unfold setAddHashed setAddHashedIn
  refine wpAny_holding (wpAny_bind (wpAny_setState_of ho hd T.fits ?_))
  dsimp only
  rw [byScan_of sc T.sizeB T.elems]
  simp only [↓reduceIte]
  unfold setAddByScan
  refine wpAny_bind ?_
  refine wpAny_bind (wpAny_rule ?_)
  refine wpAny_bind (wpAny_setScan_of key ho hd T.fits T.elems ?_)
  cases hfi : List.findIdx? (fun e => (PySem.intKind P w).is z e.2) es.toList with
  | some j =>
    dsimp only
    obtain ⟨hj, pj, _⟩ := List.findIdx?_eq_some_iff_getElem.mp hfi
    have zL : z ∈ L := (T.mem z).mpr ⟨es.toList[j], List.getElem_mem hj, pj⟩
    refine wpAny_pure (wpAny_pure (hQ _ s.heap (Heap.SameBut.refl a s.heap) ?_))
    rw [show addI L z = L from if_pos zL]
    exact ⟨o, es, ep, t, ho, hex, hd, T⟩
  | none =>
    dsimp only
    have nz : z ∉ L := fun q => by
      obtain ⟨e, he, q⟩ := (T.mem z).mp q
      have c := List.findIdx?_eq_none_iff.mp hfi e he
      rw [q] at c
      cases c
    have give : ∀ (b : Bool) {s₁ : Shared} {Q' : Unit → Shared → Prop}, Q' () s₁ → wpAny (model P w) A (match b with | true => rule "set.scan.the-table-gave-way" | false => pure ()) Q' E s₁ :=
      fun b s₁ Q' q => by cases b <;> first | exact wpAny_pure q | exact wpAny_rule q
    have pm := layNew_perm t es ((PySem.intKind P w).hash z) (.int z tk)
    have ft := layNew_fits t es ((PySem.intKind P w).hash z) (.int z tk)
    have rs := layNew_ris t es ((PySem.intKind P w).hash z) (.int z tk) T.ris
    have ld := layNew_led t es ((PySem.intKind P w).hash z) (.int z tk)
    generalize layNew t es ((PySem.intKind P w).hash z) (.int z tk) = Z at pm ft rs ld ⊢
    obtain ⟨es1, t1, wasDummy, gave⟩ := Z
    dsimp only at pm ft rs ld ⊢
    rw [Array.toList_push] at pm
    have pc : es1.toList.Perm (((PySem.intKind P w).hash z, Value.int z tk) :: es.toList) := pm.trans (List.perm_append_singleton _ _)
    have lq : w.params.followText "set-order" = true ∨ t1.led = true := T.led.imp id fun q => by rw [ld]; exact q
    have T1 : ∀ t2 : SetTable, t2.fits es1.size = true → Ris t2.place.toList → (w.params.followText "set-order" = true ∨ t2.led = true) → SetIb P w es1 t2 (addI L z) := fun t2 f2 r2 l2 => by
      rw [show addI L z = z :: L from if_neg nz]
      refine ⟨fun e he => ?_, (pc.map intE).trans (List.Perm.cons z T.perm), List.nodup_cons.mpr ⟨nz, T.nd⟩, room, f2, r2, l2⟩
      rcases List.mem_cons.mp (pc.mem_iff.mp he) with q | q
      · rw [q]
        exact ⟨z, tk, rfl, rfl⟩
      · exact T.each e q
    refine wpAny_bind (give _ ?_)
    split
    · refine wpAny_bind ?_
      rw [hashByValue_scannable 8 sc]
      refine wpAny_pure ?_
      refine setIb_store ?_ ho hex hd (T1 _ ?_ ?_ ?_) ?_
      · intro b s₁ Q' q; cases b <;> first | exact wpAny_pure q | exact wpAny_rule q
      · first | (split <;> first | exact ft | exact SetTable.fits_plain_off ft) | exact ft
      · first | (split <;> exact rs) | exact rs
      · first | (split <;> exact lq) | exact lq
      · intro h' sb r; dsimp only; exact wpAny_pure (hQ _ h' sb r)
    · refine wpAny_bind (wpAny_pure ?_)
      simp only [↓reduceIte]
      refine setIb_store ?_ ho hex hd (T1 _ ft rs lq) ?_
      · intro b s₁ Q' q; cases b <;> first | exact wpAny_pure q | exact wpAny_rule q
      · intro h' sb r; dsimp only; exact wpAny_pure (hQ _ h' sb r)
end
/-! ### the texts of a list, one after another -/
theorem addI_len (L : List Int) (z : Int) : (addI L z).length ≤ L.length + 1 := by
  unfold addI
  split
  · omega
  · exact Nat.le_refl _
theorem foldI_len : ∀ (zs L : List Int), (zs.foldl addI L).length ≤ L.length + zs.length
  | [], L => Nat.le_refl _
  | z :: r, L => by
    have a := foldI_len r (addI L z)
    have b := addI_len L z
    show (r.foldl addI (addI L z)).length ≤ L.length + (r.length + 1)
    omega
theorem addI_mem (L : List Int) (z y : Int) : y ∈ addI L z ↔ y ∈ L ∨ y = z := by
  unfold addI
  split
  · rename_i c
    exact ⟨.inl, fun q => q.elim id fun e => e ▸ c⟩
  · rw [List.mem_cons]
    exact Or.comm
theorem foldI_mem : ∀ (zs L : List Int) (y : Int), y ∈ zs.foldl addI L ↔ y ∈ L ∨ y ∈ zs
  | [], L, y => ⟨.inl, fun q => q.elim id fun z => nomatch z⟩
  | z :: r, L, y => by
    show y ∈ r.foldl addI (addI L z) ↔ _
    rw [foldI_mem r, addI_mem, List.mem_cons, or_assoc]
theorem addI_nd {L : List Int} (h : L.Nodup) (z : Int) : (addI L z).Nodup := by
  unfold addI
  split
  · exact h
  · rename_i c
    exact List.nodup_cons.mpr ⟨c, h⟩
theorem foldI_nd : ∀ (zs L : List Int), L.Nodup → (zs.foldl addI L).Nodup
  | [], L, h => h
  | z :: r, L, h => foldI_nd r _ (addI_nd h z)
theorem foldI_snoc (zs : List Int) (i : Nat) (z : Int) (h : zs[i]? = some z) : (zs.take (i + 1)).foldl addI [] = addI ((zs.take i).foldl addI []) z := by
  rw [List.take_add_one, h, List.foldl_append]
  rfl
theorem nodup_lenI : ∀ {xs ys : List Int}, xs.Nodup → (∀ x ∈ xs, x ∈ ys) → xs.length ≤ ys.length
  | [], _, _, _ => Nat.zero_le _
  | x :: r, ys, nd, h => by
    obtain ⟨n1, n2⟩ := List.nodup_cons.mp nd
    have hx := h x (List.mem_cons_self ..)
    have q := nodup_lenI (xs := r) (ys := ys.erase x) n2 fun z hz => (List.mem_erase_of_ne (fun (e : z = x) => n1 (by rw [← e]; exact hz))).mpr (h z (List.mem_cons_of_mem _ hz))
    have l := List.length_erase_of_mem hx
    have l0 : 0 < ys.length := List.length_pos_of_mem hx
    rw [List.length_cons]
    omega
section
variable {P : Program} {w : World} {A : Around} {R : Result → Shared → Prop} {I : Addr} {fp wr : List Addr} {G : Array GenState → Array GenState → Prop} {n : Nat} {Pv : Nat → Value → Prop} {St : Nat → Shared → Prop}
theorem loopI (W : WalksS P w A.in1 I fp wr G n Pv St) (S : Addr) (hSf : S ∉ fp) (zs ns : List Int) (hn : zs.length = n) (few : ns.length + 1 < scanBound) (sub : ∀ z ∈ zs, z ∈ ns) (hval : ∀ i v, Pv i v → ∃ z t, zs[i]? = some z ∧ v = .int z t) :
    ∀ (k i : Nat) (s : Shared), n - i = k → i ≤ n → St i s → SetI P w s.heap S ((zs.take i).foldl addI []) →
      (∀ s', Moved (S :: wr) G s s' → SetI P w s'.heap S (zs.foldl addI []) → R (.ok (.ret .none)) s') → codeAny (model P w) A (.builtin "set.update.loop" ⟨[.ref S, .ref I], []⟩) R s := by
  have hSw : S ∉ wr := fun h => hSf (W.sub _ h)
  have up : ∀ b ∈ wr, b ∈ S :: wr := fun b hb => List.mem_cons_of_mem _ hb
  intro k
  induction k with
  | zero =>
    intro i s hk hi hst hS hR
    obtain rfl : i = n := by omega
    refine codeAny_builtin PyProof.Rows.F.entry_set_update_loop ?_
    rw [Around.under_plainId PyProof.Rows.F.plain_set_update_loop _]
    show wpAny _ A.in1 (pyNext (.ref I) >>= _) _ _ s
    refine wpAny_bind (W.done s _ _ hst fun s' hm => ?_)
    show wpAny _ A.in1 (ret Value.none) _ _ s'
    rw [← hn, List.take_length] at hS
    exact wpAny_pure (hR s' (hm.mono up) (hS.at fun o e => hm.heap S _ hSw e))
  | succ k ih =>
    intro i s hk hi hst hS hR
    have lt : i < n := by omega
    refine codeAny_builtin PyProof.Rows.F.entry_set_update_loop ?_
    rw [Around.under_plainId PyProof.Rows.F.plain_set_update_loop _]
    show wpAny _ A.in1 (pyNext (.ref I) >>= _) _ _ s
    refine wpAny_bind (W.item i s _ _ lt hst fun v s' hP hst' hm => ?_)
    obtain ⟨z, tk, hz, rfl⟩ := hval i v hP
    have hS' := hS.at (h' := s'.heap) fun o e => hm.heap S _ hSw e
    show wpAny _ A.in1 (holding [Value.int z tk] (setAdd S (.int z tk)) >>= _) _ _ s'
    refine wpAny_bind (wpAny_holding ?_)
    unfold setAdd
    refine wpAny_holding ?_
    refine wpAny_bind ((PySem.intKind P w).pyHash (intKind_is P w z tk) ?_)
    have l1 := nodup_lenI (foldI_nd (zs.take i) [] List.nodup_nil) fun y hy => sub y (by
      rcases (foldI_mem (zs.take i) [] y).mp hy with q | q
      · cases q
      · exact List.mem_of_mem_take q)
    refine setI_add (s := { s' with toks := s'.toks + 1 }) hS' (by omega) fun b h' sb hS2 => ?_
    rw [← foldI_snoc zs i z hz] at hS2
    refine wpAny_pure ⟨plainId_quiet PyProof.Rows.F.plain_set_update_loop _, ih (i + 1) _ (by omega) lt (W.frame _ s' _ _ hst' (Nat.le_succ _) fun b hb o e => ?_) hS2 fun s'' hm'' hS'' => ?_⟩
    · rw [sb.2 b (fun h : b = S => hSf (by rw [← h]; exact hb))]
      exact e
    · refine hR s'' (Moved.trans W.gtrans ((hm.mono up).then_heap (Nat.le_succ _) fun b o hb e => ?_) hm'') hS''
      rw [sb.2 b (fun h : b = S => hb (by rw [h]; exact List.mem_cons_self))]
      exact e
end
end K1

/-! set(numbers), len(set) -/
namespace K1
open PySem PySem.Spec PyProof.Rows L2
theorem ints_len : ∀ {vs : List Value} {ns : List Int}, IntsAre vs ns → vs.length = ns.length
  | _, _, .nil => rfl
  | _, _, .cons _ _ h => by rw [List.length_cons, List.length_cons, ints_len h]
theorem ints_at : ∀ {vs : List Value} {ns : List Int}, IntsAre vs ns → ∀ (i : Nat) (v : Value), vs[i]? = some v → ∃ z t, ns[i]? = some z ∧ v = .int z t
  | _, _, .cons n t h, 0, v, e => by
    cases e
    exact ⟨n, t, rfl, rfl⟩
  | _, _, .cons n t h, i + 1, v, e => ints_at h i v e
section
variable {P : Program} {w : World} {A : Around} {E : Value → Shared → Prop} {s : Shared}
/-- a new set that takes the texts of a list -/
theorem call_setI {l : Addr} {items : Array Value} {zs ns : List Int} {Q : Value → Shared → Prop} (hh : A.handled = none) (hl : s.heap.IsList l items) (hi : IntsAre items.toList zs) (few : ns.length + 1 < scanBound) (sub : ∀ z ∈ zs, z ∈ ns)
    (h : ∀ (h' : Heap) (tk : Nat), SetI P w h' s.heap.objs.size (zs.foldl addI []) → (∀ b o, s.heap.get? b = some o → h'.get? b = some o) → Q (.ref s.heap.objs.size) { s with heap := h', toks := tk }) :
    wpAny (model P w) A (call (.type "set") [.ref l]) Q E s := by
  have sz : zs.length = items.size := by rw [← ints_len hi, Array.length_toList]
  obtain ⟨c, tl, hmro⟩ := F.called_set.mro
  have hmade := F.called_set.made
  have hsub := F.called_set.sub
  refine wpAny_call (codeAny_of_tree ?_)
  show wpAny _ _ (callAny (.type "set") _) _ _ _
  refine wpAny_pure ⟨Code.quiet_builtin _ (by decide +kernel), codeAny_builtin F.entry_type_call ?_⟩
  rw [Around.under_plain (weight_type_call_type "set" [.ref l] []) rfl]
  have h1 := F.called_set.notType
  have h2 := F.called_set.canCreate
  have hct := F.typeCall_set_1 (.ref l)
  repeat (any_goals (first | assumption | wp_step))
  refine codeAny_mono (code_set_led1 (.ref l) (E := E) (Q₁ := fun obj s₁ => obj = .ref s.heap.objs.size ∧ s₁ = { s with heap := s.heap.push { cls := .type "set", dict := none, data := .set #[] 0 (.fresh 0 0 (!w.params.followText "set-order")) } }) ⟨rfl, rfl⟩) fun r s₁ hr => ?_
  cases r with
  | error e => exact hr
  | ok fl =>
    cases fl with
    | ret obj =>
      obtain ⟨rfl, rfl⟩ := hr
      have hS : (s.heap.push { cls := .type "set", dict := none, data := .set #[] 0 (.fresh 0 0 (!w.params.followText "set-order")) }).get? s.heap.objs.size = some { cls := .type "set", dict := none, data := .set #[] 0 (.fresh 0 0 (!w.params.followText "set-order")) } := Heap.get?_push_size _ rfl
      have hT : Shared.TypeIs { s with heap := s.heap.push { cls := .type "set", dict := none, data := .set #[] 0 (.fresh 0 0 (!w.params.followText "set-order")) } } (.ref s.heap.objs.size) "set" := ⟨_, hS, rfl⟩
      have hli := F.called_set.init.lookup
      have hbi := F.called_set.init.bind (.ref s.heap.objs.size)
      repeat (any_goals (first | assumption | wp_step))
      refine codeAny_mono (codeAny_call_builtin (R := wants (fun r s₂ => r = .none ∧ ∃ h' tk, s₂ = { s with heap := h', toks := tk } ∧ SetI P w h' s.heap.objs.size (zs.foldl addI []) ∧ (∀ b o, s.heap.get? b = some o → h'.get? b = some o)) E)
        F.called_set.init.plain F.entry_set_init (check_set_init_1 hT ?_)) fun r₂ s₂ hr₂ => ?_
      · obtain ⟨⟨ocls, odict, odata, oslots⟩, hol, hcl, nl, hdl⟩ := hl
        simp only at hcl hdl
        subst hcl; subst hdl
        have ltl : l < s.heap.objs.size := Heap.lt_size hol
        have hol' : (s.heap.push { cls := .type "set", dict := none, data := .set #[] 0 (.fresh 0 0 (!w.params.followText "set-order")) }).get? l = some { cls := .type "list", dict := odict, data := .seq items nl, slots := oslots } := Heap.get?_push_of_some _ hol
        have hsls := F.sub_list_set
        have hslf := F.sub_list_frozenset
        have hne : (Value.type "list" == Value.type "dict") = false := by decide
        have hl1 : (s.heap.push { cls := .type "set", dict := none, data := .set #[] 0 (.fresh 0 0 (!w.params.followText "set-order")) }).IsList l items := ⟨_, hol', rfl, nl, rfl⟩
        unfold Builtin.«set.__init__» noKeywords Builtin.Frozenset.updateFrom
        generalize hPI : pyIter = PI
        wp_walk
        subst hPI
        refine wpAny_pyIter_list hl1 ?_
        refine wpAny_bind (wpAny_runValue ?_)
        have hh3 : A.in1.in1.in1.handled = none := by simp [hh]
        have z1 : (s.heap.push { cls := .type "set", dict := none, data := .set #[] 0 (.fresh 0 0 (!w.params.followText "set-order")) }).objs.size = s.heap.objs.size + 1 := Heap.size_push ..
        have neI : l ≠ (s.heap.push { cls := .type "set", dict := none, data := .set #[] 0 (.fresh 0 0 (!w.params.followText "set-order")) }).objs.size := by
          rw [z1]
          exact Nat.ne_of_lt (Nat.lt_succ_of_lt ltl)
        have out : s.heap.objs.size ∉ [(s.heap.push { cls := .type "set", dict := none, data := .set #[] 0 (.fresh 0 0 (!w.params.followText "set-order")) }).objs.size, l] := by
          rw [z1]
          simp only [List.mem_cons, List.mem_singleton, List.not_mem_nil, or_false, not_or]
          exact ⟨Nat.ne_of_lt (Nat.lt_succ_self _), Nat.ne_of_gt ltl⟩
        have hval : ∀ (i : Nat) (v : Value), items[i]? = some v → ∃ z t, zs[i]? = some z ∧ v = .int z t := fun i v hv => by
          have lt : i < zs.length := by
            rw [sz]
            exact (Array.getElem?_eq_some_iff.mp hv).1
          exact ints_at hi i v (by rw [Array.getElem?_toList]; exact hv)
        refine loopI ((Walks.list hh3 _ l neI items).toS) s.heap.objs.size out zs ns sz few sub hval (items.size - 0) 0 _ (by omega) (Nat.zero_le _) ⟨⟨_, Heap.get?_push_size _ rfl, rfl, rfl⟩, (hl1.push _)⟩ ((SetI.fresh (P := P) (w := w) s.heap).at fun o e => Heap.get?_push_of_some _ e) ?_
        intro s' hm hS'
        obtain ⟨h', g', d', tk', os'⟩ := s'
        have eg : g' = s.gens := hm.gens
        have ed : d' = s.drawn := hm.drawn
        have eo : os' = s.os := hm.os
        subst eg; subst ed; subst eo
        show wpAny _ _ _ _ _ _
        refine wpAny_pure ?_
        show wpAny _ _ (ret Value.none) _ _ _
        refine wpAny_pure ⟨rfl, h', tk', rfl, hS', fun b o e => ?_⟩
        have lb := Heap.lt_size e
        refine hm.heap b o ?_ (Heap.get?_push_of_some _ (Heap.get?_push_of_some _ e))
        rw [z1]
        simp only [List.mem_cons, List.mem_singleton, List.not_mem_nil, or_false, not_or]
        exact ⟨Nat.ne_of_lt lb, Nat.ne_of_lt (Nat.lt_succ_of_lt lb)⟩
      · cases r₂ with
        | error e => exact hr₂
        | ok fl₂ =>
          cases fl₂ with
          | ret r =>
            obtain ⟨rfl, h', tk, rfl, hS', hk'⟩ := hr₂
            repeat (any_goals (first | assumption | wp_step))
            exact h _ _ hS' hk'
          | _ => exact hr₂.elim
    | _ => exact hr.elim
end
end K1
namespace L2
open PySem PySem.Spec PyProof.Rows K1
def SetIO (P : Program) (w : World) (a : Addr) (L : List Int) : HO := .ext fun h => SetI P w h a L
section
variable {X : Cx}
theorem setIO_new {w : World} {P : Program} {H : Hp} {h : Heap} {a : Addr} {L : List Int} (R : SetI P w h a L) : ObjOk P w H h a (SetIO P w a L) := by
  have ⟨o, _, _, _, ho, _⟩ := R
  exact ⟨R, ⟨o, ho⟩, fun h1 h2 p k => SetI.at p k⟩
theorem setIO_get {pins : List (Addr × Obj)} {σ : St} {H : Hp} {s : Shared} {a : Addr} {L : List Int} (I : Inv X pins σ H s) (ha : H a = some (SetIO X.prog X.w a L)) : SetI X.prog X.w s.heap a L := (I.hok a _ ha).1
theorem vals_intsI : ∀ {zs : List Int} {us : List Value}, Vals (zs.map V.int) us → IntsAre us zs
  | [], _, h => by
    cases h
    exact .nil
  | z :: r, _, h => by
    cases h with
    | cons a b =>
      obtain ⟨t, rfl⟩ := a
      exact .cons z t (vals_intsI b)
/-- set(xs), xs a list of numbers -/
def rSetI (K : PySem.W.Frag) (P : Program) (w : World) : List V → Hp → VK → Prop := fun xs H Q => ∃ (l : Addr) (zs : List Int), xs = [.ref l] ∧ SqL K H l (zs.map V.int) ∧ zs.length ≤ 4000 ∧ ∀ a, H a = none → Q (.ref a) (upd H a (SetIO P w a (zs.foldl addI [])))
theorem cr_setI (hc : X.calm = true) : CallR X (.type "set") (rSetI X.K X.prog X.w) := by
  intro pins s σ H xs us Q I r h
  obtain ⟨l, zs, rfl, hl, few, q⟩ := h
  rw [Vals.ref1 r]
  obtain ⟨its, rv, pl, hz⟩ := I.list hl
  refine call_setI (I.ok.hd hc) pl.isList (by simpa using vals_intsI rv) (ns := zs) (by unfold scanBound; omega) (fun z hz => hz) fun h' tk hS hk => ?_
  have hn : H s.heap.objs.size = none := I.hok.fresh (Nat.le_refl _)
  exact ⟨.ref _, upd H s.heap.objs.size (SetIO X.prog X.w s.heap.objs.size (zs.foldl addI [])), I.laid (t' := tk) hk (Nat.le_refl _) (setIO_new hS), rfl, q _ hn⟩
/-- len(s), s such a set -/
def rLenSI (P : Program) (w : World) : List V → Hp → VK → Prop := fun vs H Q => ∃ (a : Addr) (L : List Int), vs = [V.ref a] ∧ H a = some (SetIO P w a L) ∧ Q (.int L.length) H
theorem cr_lenSI : CallR X (.builtin "len") (rLenSI X.prog X.w) := by
  intro pins s σ H vs us Q I r h
  obtain ⟨a, L, rfl, ha, q⟩ := h
  rw [Vals.ref1 r]
  obtain ⟨o, es, ep, t, ho, hex, hd, T⟩ := setIO_get I ha
  have sz := T.size
  have sb := T.sizeB
  exact call_len_set ho hex hd T.fits (by unfold scanBound at sb; omega) ⟨.int L.length, H, I.tok _, ⟨s.toks + 1, by rw [sz]⟩, q⟩
end
end L2

/-! len(set(numbers)), by values -/
namespace Ev
open PySem PySem.Spec PyProof.Rows L2 Own K1
theorem foldI_new : ∀ (zs L : List Int), zs.Nodup → (∀ z ∈ zs, z ∉ L) → (zs.foldl addI L).length = L.length + zs.length
  | [], L, _, _ => rfl
  | z :: r, L, nd, h => by
    obtain ⟨n1, n2⟩ := List.nodup_cons.mp nd
    have e : addI L z = z :: L := if_neg (h z (List.mem_cons_self ..))
    show (r.foldl addI (addI L z)).length = _
    rw [e, foldI_new r (z :: L) n2 fun y hy q => ?_, List.length_cons, List.length_cons]
    · omega
    · rcases List.mem_cons.mp q with e | q
      · exact n1 (by rw [← e]; exact hy)
      · exact h y (List.mem_cons_of_mem _ hy) q
@[irreducible] def vLSet (p : PV) (st : Sto) (Q : QV) : Prop := ∃ zs : List Int, seqL st p = some (zs.map PV.int) ∧ zs.length ≤ 4000 ∧ Q (.int ((zs.foldl addI []).length : Nat)) st
def gLSet (g : GE) : GE := fun env st Q => g env st fun p s => vLSet p s Q
theorem vLSet_mono {p : PV} {st : Sto} {Q Q' : QV} (k : ∀ r s, Q r s → Q' r s) (h : vLSet p st Q) : vLSet p st Q' := by
  unfold vLSet at h ⊢
  obtain ⟨zs, a, c, e⟩ := h
  exact ⟨zs, a, c, k _ _ e⟩
theorem lset' {p : PV} {st : Sto} {Q : QV} {zs : List Int} (e : seqL st p = some (zs.map PV.int)) (n : zs.length ≤ 4000) (nd : zs.Nodup) (k : Q (.int (zs.length : Nat)) st) : vLSet p st Q := by
  unfold vLSet
  refine ⟨zs, e, n, ?_⟩
  rw [foldI_new zs [] nd fun _ _ q => nomatch q]
  show Q (.int ((0 + zs.length : Nat) : Int)) st
  rw [Nat.zero_add]
  exact k
section
variable {I : Hp → Prop} {X : Cx} {K : PySem.W.Frag} {F : Addr → Prop} {st : Sto} {H G : Hp}
theorem ints_ra2 : ∀ {zs : List Int} {us : List V}, RpAll K G us (zs.map PV.int) → us = zs.map V.int
  | [], _, h => h
  | z :: r, _, ⟨v, ws, e, rv, ra⟩ => by
    rw [e, ints_ra2 ra, show v = .int z from rv]
    rfl
theorem ee_lset {e : Expr} {ga : GE} {p p2 q pos : Pos} (i0 : Inv0 I) (hc : X.calm = true) (hg : Gl X "len") (hm : X.mg "len" = none) (hg2 : Gl X "set") (hm2 : X.mg "set" = none) (ha : EE I X e ga)
    (h1 : starEach [e] X.env = (false, eval e X.env) :: starEach [] X.env := by rfl) (h2 : starEach [.Call (.Name "set" p2) [e] [] q] X.env = (false, eval (.Call (.Name "set" p2) [e] [] q) X.env) :: starEach [] X.env := by rfl)
    (h3 : (backTo q (starEach [] X.env)).any (·.1) = false := by rfl) (h4 : (backTo pos (starEach [] X.env)).any (·.1) = false := by rfl) :
    EE I X (.Call (.Name "len" p) [.Call (.Name "set" p2) [e] [] q] [] pos) (gLSet ga) := by
  have S := pe_callTy (p := p2) (pos := q) (cr_setI (X := X) hc) hg2 hm2 (by decide +kernel) (pa_cons ha.pe pa_nil h1) (by decide) (by decide) h1 h3
  have T := pe_callB (p := p) (pos := pos) (cr_lenSI (X := X)) hg hm PySem.boot_len (pa_cons S pa_nil h2) (by decide) (by decide) h2 h4
  refine ⟨fun env st Q Q' k h => ha.mono _ _ _ _ (fun _ _ z => vLSet_mono k z) h, pe_imp T fun σ H Q ⟨F, st, env, w, ev, h⟩ => ?_⟩
  refine lE_of ha.mono w ev h fun x s1 z v H1 l1 w1 r1 => ?_
  unfold vLSet at z
  obtain ⟨zs, es, ln, z⟩ := z
  obtain ⟨a, us, rfl, hl, ra⟩ := seqL_ok w1 r1 es
  have eu := ints_ra2 ra
  subst eu
  refine ⟨a, zs, rfl, hl, ln, fun b nb => ?_⟩
  have l2 : Le F s1 H1 s1 (upd H1 b (SetIO X.prog X.w b (zs.foldl addI []))) := Le.new nb
  have w2 := w1.new i0 (o := SetIO X.prog X.w b (zs.foldl addI [])) nb
  exact ⟨b, zs.foldl addI [], rfl, upd_same, z (.int _) _ (l1.trans l2) w2 rfl⟩
end
end Ev

/-! set(a tuple of texts), sorted(texts), len(set(texts)), abs: by values -/
namespace K1
open PySem PySem.Spec PyProof.Rows L2
section
variable {P : Program} {w : World} {A : Around} {E : Value → Shared → Prop} {s : Shared}
/-- a new set that takes the texts of a tuple -/
theorem call_setST {l : Addr} {items : Array Value} {zs ns : List Str} {Q : Value → Shared → Prop} (hh : A.handled = none) (hl : s.heap.IsTuple l items) (hi : StrsAre items.toList zs) (few : ns.length + 1 < scanBound) (sub : ∀ z ∈ zs, z ∈ ns)
    (h : ∀ (h' : Heap) (tk : Nat), SetS P w h' s.heap.objs.size (zs.foldl addS []) → (∀ b o, s.heap.get? b = some o → h'.get? b = some o) → Q (.ref s.heap.objs.size) { s with heap := h', toks := tk }) :
    wpAny (model P w) A (call (.type "set") [.ref l]) Q E s := by
  have sz : zs.length = items.size := by rw [← StrsAre.len_eq hi, Array.length_toList]
  obtain ⟨c, tl, hmro⟩ := F.called_set.mro
  have hmade := F.called_set.made
  have hsub := F.called_set.sub
  refine wpAny_call (codeAny_of_tree ?_)
  show wpAny _ _ (callAny (.type "set") _) _ _ _
  refine wpAny_pure ⟨Code.quiet_builtin _ (by decide +kernel), codeAny_builtin F.entry_type_call ?_⟩
  rw [Around.under_plain (weight_type_call_type "set" [.ref l] []) rfl]
  have h1 := F.called_set.notType
  have h2 := F.called_set.canCreate
  have hct := F.typeCall_set_1 (.ref l)
  repeat (any_goals (first | assumption | wp_step))
  refine codeAny_mono (code_set_led1 (.ref l) (E := E) (Q₁ := fun obj s₁ => obj = .ref s.heap.objs.size ∧ s₁ = { s with heap := s.heap.push { cls := .type "set", dict := none, data := .set #[] 0 (.fresh 0 0 (!w.params.followText "set-order")) } }) ⟨rfl, rfl⟩) fun r s₁ hr => ?_
  cases r with
  | error e => exact hr
  | ok fl =>
    cases fl with
    | ret obj =>
      obtain ⟨rfl, rfl⟩ := hr
      have hS : (s.heap.push { cls := .type "set", dict := none, data := .set #[] 0 (.fresh 0 0 (!w.params.followText "set-order")) }).get? s.heap.objs.size = some { cls := .type "set", dict := none, data := .set #[] 0 (.fresh 0 0 (!w.params.followText "set-order")) } := Heap.get?_push_size _ rfl
      have hT : Shared.TypeIs { s with heap := s.heap.push { cls := .type "set", dict := none, data := .set #[] 0 (.fresh 0 0 (!w.params.followText "set-order")) } } (.ref s.heap.objs.size) "set" := ⟨_, hS, rfl⟩
      have hli := F.called_set.init.lookup
      have hbi := F.called_set.init.bind (.ref s.heap.objs.size)
      repeat (any_goals (first | assumption | wp_step))
      refine codeAny_mono (codeAny_call_builtin (R := wants (fun r s₂ => r = .none ∧ ∃ h' tk, s₂ = { s with heap := h', toks := tk } ∧ SetS P w h' s.heap.objs.size (zs.foldl addS []) ∧ (∀ b o, s.heap.get? b = some o → h'.get? b = some o)) E)
        F.called_set.init.plain F.entry_set_init (check_set_init_1 hT ?_)) fun r₂ s₂ hr₂ => ?_
      · obtain ⟨⟨ocls, odict, odata, oslots⟩, hol, hcl, nl, hdl⟩ := hl
        simp only at hcl hdl
        subst hcl; subst hdl
        have ltl : l < s.heap.objs.size := Heap.lt_size hol
        have hol' : (s.heap.push { cls := .type "set", dict := none, data := .set #[] 0 (.fresh 0 0 (!w.params.followText "set-order")) }).get? l = some { cls := .type "tuple", dict := odict, data := .seq items nl, slots := oslots } := Heap.get?_push_of_some _ hol
        have hsls := PySem.F.sub_tuple_set
        have hslf := PySem.F.sub_tuple_frozenset
        have hne : (Value.type "tuple" == Value.type "dict") = false := by decide
        have hl1 : (s.heap.push { cls := .type "set", dict := none, data := .set #[] 0 (.fresh 0 0 (!w.params.followText "set-order")) }).IsTuple l items := ⟨_, hol', rfl, nl, rfl⟩
        unfold Builtin.«set.__init__» noKeywords Builtin.Frozenset.updateFrom
        generalize hPI : pyIter = PI
        wp_walk
        subst hPI
        refine wpAny_pyIter_tuple hl1 ?_
        refine wpAny_bind (wpAny_runValue ?_)
        have hh3 : A.in1.in1.in1.handled = none := by simp [hh]
        have z1 : (s.heap.push { cls := .type "set", dict := none, data := .set #[] 0 (.fresh 0 0 (!w.params.followText "set-order")) }).objs.size = s.heap.objs.size + 1 := Heap.size_push ..
        have neI : l ≠ (s.heap.push { cls := .type "set", dict := none, data := .set #[] 0 (.fresh 0 0 (!w.params.followText "set-order")) }).objs.size := by
          rw [z1]
          exact Nat.ne_of_lt (Nat.lt_succ_of_lt ltl)
        have out : s.heap.objs.size ∉ [(s.heap.push { cls := .type "set", dict := none, data := .set #[] 0 (.fresh 0 0 (!w.params.followText "set-order")) }).objs.size, l] := by
          rw [z1]
          simp only [List.mem_cons, List.mem_singleton, List.not_mem_nil, or_false, not_or]
          exact ⟨Nat.ne_of_lt (Nat.lt_succ_self _), Nat.ne_of_gt ltl⟩
        have hval : ∀ (i : Nat) (v : Value), items[i]? = some v → ∃ z t, zs[i]? = some z ∧ v = .str z t := fun i v hv => by
          have lt : i < zs.length := by
            rw [sz]
            exact (Array.getElem?_eq_some_iff.mp hv).1
          obtain ⟨t, e⟩ := SS.strs_at hi i v (by rw [Array.getElem?_toList]; exact hv)
          rw [List.getD_eq_getElem?_getD, List.getElem?_eq_getElem lt] at e
          exact ⟨_, t, List.getElem?_eq_getElem lt, e⟩
        refine loopS ((Walks.tuple hh3 _ l neI items).toS) s.heap.objs.size out zs ns sz few sub hval (items.size - 0) 0 _ (by omega) (Nat.zero_le _) ⟨⟨_, Heap.get?_push_size _ rfl, rfl, rfl⟩, (hl1.push _)⟩ ((SetS.fresh (P := P) (w := w) s.heap).at fun o e => Heap.get?_push_of_some _ e) ?_
        intro s' hm hS'
        obtain ⟨h', g', d', tk', os'⟩ := s'
        have eg : g' = s.gens := hm.gens
        have ed : d' = s.drawn := hm.drawn
        have eo : os' = s.os := hm.os
        subst eg; subst ed; subst eo
        show wpAny _ _ _ _ _ _
        refine wpAny_pure ?_
        show wpAny _ _ (ret Value.none) _ _ _
        refine wpAny_pure ⟨rfl, h', tk', rfl, hS', fun b o e => ?_⟩
        have lb := Heap.lt_size e
        refine hm.heap b o ?_ (Heap.get?_push_of_some _ (Heap.get?_push_of_some _ e))
        rw [z1]
        simp only [List.mem_cons, List.mem_singleton, List.not_mem_nil, or_false, not_or]
        exact ⟨Nat.ne_of_lt lb, Nat.ne_of_lt (Nat.lt_succ_of_lt lb)⟩
      · cases r₂ with
        | error e => exact hr₂
        | ok fl₂ =>
          cases fl₂ with
          | ret r =>
            obtain ⟨rfl, h', tk, rfl, hS', hk'⟩ := hr₂
            repeat (any_goals (first | assumption | wp_step))
            exact h _ _ hS' hk'
          | _ => exact hr₂.elim
    | _ => exact hr.elim
end
end K1
namespace Own
open PySem PySem.Spec PyProof.Rows L2
section
variable {X : Cx}
theorem cr_sortedTT : CallR X (.builtin "sorted") (fun vs H Q => ∃ (a : Addr) (xs : List Str), vs = [V.ref a] ∧ SqT X.K H a (xs.map V.str) ∧ xs.length < 64 ∧ ∀ (ys : List Str) (p : Addr), ys.Perm xs → sortedS ys = true → H p = none → Q (.ref p) (upd H p (.lst (ys.map V.str)))) := by
  intro pins s σ H vs us Q I r h
  obtain ⟨a, xs, rfl, ha, h64, q⟩ := h
  obtain rfl := Vals.ref1 r
  obtain ⟨its, rv, ⟨o, ho, hc, n, hd⟩, z0⟩ := I.tuple ha
  have hS := rv.strs
  have hal : its.length = xs.length := by
    have z := rv.length
    rw [List.length_map] at z
    exact z.symm
  have hsz : its.length ≤ sizeLine := by rw [hal, sizeLine_eq]; omega
  refine Calls.call_function_entry PyProof.Rows.kind_sorted PyProof.Rows.plain_sorted PyProof.Rows.entry_sorted (PyProof.Rows.args_sorted1 _) ?_
  unfold Builtin.«sorted»
  refine wpAny_bind (m := checkCount "sorted" 1 1 _) (wpAny_pure ?_)
  refine wpAny_bind (wpAny_collect_seq a (.inr rfl) ho hc hd (fun h' hk => ?_) (by rw [List.size_toArray]; exact hsz))
  rw [show its.toArray.toList = its from by simp]
  have I1 : Inv X pins σ H { s with heap := h' } := I.kept (t' := s.toks) hk
  refine wpAny_bind (wpAny_newList ?_ hsz)
  have hoL : (h'.push (seqObj "list" its.toArray 0)).get? h'.objs.size = some (seqObj "list" its.toArray 0) := Heap.get?_push_size _ rfl
  show wpAny _ _ _ _ _ { s with heap := h'.push (seqObj "list" its.toArray 0) }
  refine wpAny_bind (wpAny_holding (wpAny_call_entry PyProof.Rows.slot_list_sort ⟨_, hoL, rfl⟩ PyProof.Rows.entry_list_sort
    (list_sort_treeK strKind_oneLt (s := { s with heap := h'.push (seqObj "list" its.toArray 0) }) hoL hS.keysOf (fun v₁ v₂ rest e => keyKind_strs (by rw [← e]; exact hS)) (by rw [hal]; exact h64) fun st' hp hs => ⟨_, rfl, ?_⟩)
    (PyProof.Rows.args_list_sort _)))
  obtain ⟨ys, g1, g2, g3⟩ := sorted_out_str hS hp hs
  obtain ⟨e', he'⟩ := PyProof.Rows.sortedHeap_at (vs := its) (out := (arrOf st').map (·.2)) hoL
  have hlen : (ys.map V.str).length ≤ sizeLine := by
    rw [List.length_map, g2.length_eq, sizeLine_eq]
    omega
  refine wpAny_pure ⟨_, rfl, .ref h'.objs.size, upd H h'.objs.size (.lst (ys.map V.str)), I1.laid (t' := s.toks) (fun b u e => ?_) (Nat.le_refl _)
    (show ObjOk X.prog X.w _ _ _ (.lst (ys.map V.str)) from ⟨hlen, ((arrOf st').map (·.2)).toList, e', vals_of_strs g1, by rw [Array.toArray_toList]; exact he'⟩), rfl, q ys _ g2 g3 (I1.hok.fresh (Nat.le_refl _))⟩
  have hb : b < h'.objs.size := Heap.lt_size e
  rw [PyProof.Rows.sortedHeap_old (Nat.ne_of_lt hb) (by rw [size_push']; exact Nat.lt_succ_of_lt hb)]
  exact Heap.get?_push_of_some _ e
end
end Own
namespace L2
open PySem PySem.Spec PyProof.Rows K1 Own
section
variable {X : Cx}
def rSetSA (K : PySem.W.Frag) (P : Program) (w : World) : List V → Hp → VK → Prop := fun xs H Q => ∃ (l : Addr) (zs : List Str), xs = [.ref l] ∧ (SqL K H l (zs.map V.str) ∨ SqT K H l (zs.map V.str)) ∧ zs.length ≤ 4000 ∧ ∀ a, H a = none → Q (.ref a) (upd H a (SetSO P w a (zs.foldl addS [])))
theorem cr_setSA (hc : X.calm = true) : CallR X (.type "set") (rSetSA X.K X.prog X.w) := by
  intro pins s σ H xs us Q I r h
  obtain ⟨l, zs, rfl, hl, few, q⟩ := h
  rcases hl with hl | hl
  · exact cr_setS hc pins s σ H _ us Q I r ⟨l, zs, zs, rfl, hl, few, fun _ h => h, q⟩
  · rw [Vals.ref1 r]
    obtain ⟨its, rv, pl, hz⟩ := I.tuple hl
    refine call_setST (I.ok.hd hc) pl (by simpa using rv.strs) (ns := zs) (by unfold scanBound; omega) (fun z hz => hz) fun h' tk hS hk => ?_
    have hn : H s.heap.objs.size = none := I.hok.fresh (Nat.le_refl _)
    exact ⟨.ref _, upd H s.heap.objs.size (SetSO X.prog X.w s.heap.objs.size (zs.foldl addS [])), I.laid (t' := tk) hk (Nat.le_refl _) (setSO_new hS), rfl, q _ hn⟩
/-- len(s), s such a set -/
def rLenSS (P : Program) (w : World) : List V → Hp → VK → Prop := fun vs H Q => ∃ (a : Addr) (L : List Str), vs = [V.ref a] ∧ H a = some (SetSO P w a L) ∧ Q (.int L.length) H
theorem cr_lenSS : CallR X (.builtin "len") (rLenSS X.prog X.w) := by
  intro pins s σ H vs us Q I r h
  obtain ⟨a, L, rfl, ha, q⟩ := h
  rw [Vals.ref1 r]
  obtain ⟨o, es, ep, t, ho, hex, hd, T⟩ := setSO_get I ha
  have sz := T.size
  have sb := T.sizeB
  exact call_len_set ho hex hd T.fits (by unfold scanBound at sb; omega) ⟨.int L.length, H, I.tok _, ⟨s.toks + 1, by rw [sz]⟩, q⟩
end
end L2
namespace Ev
open PySem PySem.Spec PyProof.Rows L2 Own K1
/-! ### sorted(set(texts)), len(set(texts)), sorted(texts), of a list or a tuple -/
@[irreducible] def vSSetA (p : PV) (st : Sto) (Q : QV) : Prop := ∃ zs ns : List Str, seqA st p = some (stP zs) ∧ zs.length ≤ 4000 ∧ ns.length ≤ 60 ∧ (∀ z ∈ zs, z ∈ ns) ∧ ∀ ys, SortedOf zs ys → Q (.lst (stP ys)) st
def gSSetA (g : GE) : GE := fun env st Q => g env st fun p s => vSSetA p s Q
theorem vSSetA_mono {p : PV} {st : Sto} {Q Q' : QV} (k : ∀ r s, Q r s → Q' r s) (h : vSSetA p st Q) : vSSetA p st Q' := by
  unfold vSSetA at h ⊢
  obtain ⟨zs, ns, a, c, d, e, f⟩ := h
  exact ⟨zs, ns, a, c, d, e, fun ys hy => k _ _ (f ys hy)⟩
theorem ssetA' {p : PV} {st : Sto} {Q : QV} {zs ns : List Str} (e : seqA st p = some (stP zs)) (l : zs.length ≤ 4000) (n : ns.length ≤ 60) (h : ∀ z ∈ zs, z ∈ ns) (k : ∀ ys, SortedOf zs ys → Q (.lst (stP ys)) st) : vSSetA p st Q := by
  unfold vSSetA
  exact ⟨zs, ns, e, l, n, h, k⟩
@[irreducible] def vLSetA (p : PV) (st : Sto) (Q : QV) : Prop := ∃ zs : List Str, seqA st p = some (stP zs) ∧ zs.length ≤ 4000 ∧ Q (.int ((zs.foldl addS []).length : Nat)) st
def gLSetA (g : GE) : GE := fun env st Q => g env st fun p s => vLSetA p s Q
theorem vLSetA_mono {p : PV} {st : Sto} {Q Q' : QV} (k : ∀ r s, Q r s → Q' r s) (h : vLSetA p st Q) : vLSetA p st Q' := by
  unfold vLSetA at h ⊢
  obtain ⟨zs, a, c, e⟩ := h
  exact ⟨zs, a, c, k _ _ e⟩
theorem lsetA' {p : PV} {st : Sto} {Q : QV} {zs : List Str} (e : seqA st p = some (stP zs)) (l : zs.length ≤ 4000) (k : Q (.int ((zs.foldl addS []).length : Nat)) st) : vLSetA p st Q := by
  unfold vLSetA
  exact ⟨zs, e, l, k⟩
/-- as many as before just if none is twice -/
theorem foldS_same (zs : List Str) : (zs.foldl addS []).length = zs.length ↔ zs.Nodup := by
  have nd : (zs.foldl addS []).Nodup := foldS_nd zs [] List.nodup_nil
  have mem : ∀ y, y ∈ zs.foldl addS [] ↔ y ∈ zs := fun y => by
    rw [foldS_mem]
    exact ⟨fun q => q.elim (fun z => nomatch z) id, .inr⟩
  constructor
  · intro e
    have key : ∀ (xs ys : List Str), xs.Nodup → (∀ y, y ∈ ys → y ∈ xs) → (∀ y ∈ xs, y ∈ ys) → xs.length = ys.length → ys.Nodup := by
      intro xs
      induction xs with
      | nil =>
        intro ys _ _ _ l
        rw [List.length_nil] at l
        rw [List.length_eq_zero_iff.mp l.symm]
        exact List.nodup_nil
      | cons x r ih =>
        intro ys nx h1 h2 l
        obtain ⟨n1, n2⟩ := List.nodup_cons.mp nx
        have hx : x ∈ ys := h2 x (List.mem_cons_self ..)
        have pm := List.perm_cons_erase hx
        have le := List.length_erase_of_mem hx
        have l0 : 0 < ys.length := List.length_pos_of_mem hx
        rw [List.length_cons] at l
        have nx2 : x ∉ ys.erase x := fun q => by
          have s1 : r.length ≤ ((ys.erase x).erase x).length := nodup_len n2 fun z hz => by
            have zx : z ≠ x := fun e => n1 (by rw [← e]; exact hz)
            exact (List.mem_erase_of_ne zx).mpr ((List.mem_erase_of_ne zx).mpr (h2 z (List.mem_cons_of_mem _ hz)))
          rw [List.length_erase_of_mem q] at s1
          have := List.length_pos_of_mem q
          omega
        refine pm.nodup_iff.mpr (List.nodup_cons.mpr ⟨nx2, ih _ n2 (fun y hy => ?_) (fun y hy => ?_) (by omega)⟩)
        · have yx : y ≠ x := fun e => nx2 (e ▸ hy)
          rcases List.mem_cons.mp (h1 y (List.mem_of_mem_erase hy)) with q | q
          · exact absurd q yx
          · exact q
        · have yx : y ≠ x := fun e => n1 (by rw [← e]; exact hy)
          exact (List.mem_erase_of_ne yx).mpr (h2 y (List.mem_cons_of_mem _ hy))
    exact key _ zs nd (fun y hy => (mem y).mpr hy) (fun y hy => (mem y).mp hy) e
  · intro n
    have a := nodup_len nd fun y hy => (mem y).mp hy
    have b := nodup_len n fun y hy => (mem y).mpr hy
    omega
@[irreducible] def fSortedS : GF := fun ps st Q => ∃ p zs, ps = [p] ∧ seqA st p = some (stP zs) ∧ zs.length < 64 ∧ ∀ ys : List Str, ys.Perm zs → sortedS ys = true → Q (.lst (stP ys)) st
theorem sortedS' {p : PV} {st : Sto} {Q : QV} {zs : List Str} (e : seqA st p = some (stP zs)) (l : zs.length < 64) (k : ∀ ys : List Str, ys.Perm zs → sortedS ys = true → Q (.lst (stP ys)) st) : fSortedS [p] st Q := by
  unfold fSortedS
  exact ⟨p, zs, rfl, e, l, k⟩
@[irreducible] def fAbs : GF := fun ps st Q => match ps with
  | [.int i] => Q (.int (if i < 0 then -i else i)) st
  | _ => False
theorem abs' {i : Int} {st : Sto} {Q : QV} (h : Q (.int (if i < 0 then -i else i)) st) : fAbs [.int i] st Q := by unfold fAbs; exact h
section
variable {I : Hp → Prop} {X : Cx} {K : PySem.W.Frag} {F : Addr → Prop} {st : Sto} {H G : Hp}
theorem cv_abs : CallV I X (.builtin "abs") fAbs := by
  refine ⟨fun ps st Q Q' k h => ?_, fun pins s σ H vs us Q J r ⟨F, st, ps, w, rp, q⟩ => ?_⟩
  · unfold fAbs at h ⊢
    split at h
    · exact k _ _ h
    · exact h
  · unfold fAbs at q
    split at q
    · rename_i i
      obtain ⟨v, rfl, rv⟩ := one_of rp
      exact call_abs pins s σ H _ us Q J r ⟨i, by rw [show v = .int i from rv], now w (show Rp X.K _ (.int _) (.int _) from rfl) q⟩
    · exact q.elim
theorem cv_sortedS (i0 : Inv0 I) : CallV I X (.builtin "sorted") fSortedS := by
  refine ⟨fun ps st Q Q' k h => ?_, fun pins s σ H vs us Q J r ⟨F, st, ps, w, rp, q⟩ => ?_⟩
  · unfold fSortedS at h ⊢
    obtain ⟨p, zs, a, b, c, d⟩ := h
    exact ⟨p, zs, a, b, c, fun ys h1 h2 => k _ _ (d ys h1 h2)⟩
  · unfold fSortedS at q
    obtain ⟨p, zs, rfl, es, h64, q⟩ := q
    obtain ⟨v, rfl, rv⟩ := one_of rp
    obtain ⟨a, us2, rfl, ha, ra⟩ := seqA_ok w rv es
    have eu := strs_ra ra
    subst eu
    have fin : ∀ (ys : List Str) (p : Addr), ys.Perm zs → sortedS ys = true → H p = none → Q (.ref p) (upd H p (.lst (ys.map V.str))) := fun ys p pm so np => new_lst i0 w np (ra_strs ys) (q ys pm so)
    rcases ha with ha | ha
    · exact cr_sortedS pins s σ H _ us Q J r ⟨a, zs, rfl, ha, h64, fin⟩
    · exact cr_sortedTT pins s σ H _ us Q J r ⟨a, zs, rfl, ha, h64, fin⟩
theorem ee_ssetA {e : Expr} {ga : GE} {p p2 q pos : Pos} (i0 : Inv0 I) (hc : X.calm = true) (hg : Gl X "sorted") (hm : X.mg "sorted" = none) (hg2 : Gl X "set") (hm2 : X.mg "set" = none) (ha : EE I X e ga)
    (h1 : starEach [e] X.env = (false, eval e X.env) :: starEach [] X.env := by rfl) (h2 : starEach [.Call (.Name "set" p2) [e] [] q] X.env = (false, eval (.Call (.Name "set" p2) [e] [] q) X.env) :: starEach [] X.env := by rfl)
    (h3 : (backTo q (starEach [] X.env)).any (·.1) = false := by rfl) (h4 : (backTo pos (starEach [] X.env)).any (·.1) = false := by rfl) :
    EE I X (.Call (.Name "sorted" p) [.Call (.Name "set" p2) [e] [] q] [] pos) (gSSetA ga) := by
  have S := pe_callTy (p := p2) (pos := q) (cr_setSA (X := X) hc) hg2 hm2 (by decide +kernel) (pa_cons ha.pe pa_nil h1) (by decide) (by decide) h1 h3
  have T := pe_callB (p := p) (pos := pos) (cr_sortedSS (X := X) hc) hg hm (by decide +kernel) (pa_cons S pa_nil h2) (by decide) (by decide) h2 h4
  refine ⟨fun env st Q Q' k h => ha.mono _ _ _ _ (fun _ _ z => vSSetA_mono k z) h, pe_imp T fun σ H Q ⟨F, st, env, w, ev, h⟩ => ?_⟩
  refine lE_of ha.mono w ev h fun x s1 z v H1 l1 w1 r1 => ?_
  unfold vSSetA at z
  obtain ⟨zs, ns, es, lz, ln, sub, z⟩ := z
  obtain ⟨a, us, rfl, hl, ra⟩ := seqA_ok w1 r1 es
  have eu := strs_ra ra
  subst eu
  refine ⟨a, zs, rfl, hl, lz, fun b nb => ?_⟩
  have l2 : Le F s1 H1 s1 (upd H1 b (SetSO X.prog X.w b (zs.foldl addS []))) := Le.new nb
  have w2 := w1.new i0 (o := SetSO X.prog X.w b (zs.foldl addS [])) nb
  have nd : (zs.foldl addS []).Nodup := foldS_nd zs [] List.nodup_nil
  have mem : ∀ y, y ∈ zs.foldl addS [] ↔ y ∈ zs := fun y => by
    rw [foldS_mem]
    exact ⟨fun q => q.elim (fun z => nomatch z) id, .inr⟩
  have len : (zs.foldl addS []).length ≤ ns.length := nodup_len nd fun y hy => sub y ((mem y).mp hy)
  refine ⟨b, zs.foldl addS [], rfl, upd_same, by omega, fun ys p pm so np => ?_⟩
  have l3 : Le F s1 (upd H1 b (SetSO X.prog X.w b (zs.foldl addS []))) s1 (upd (upd H1 b (SetSO X.prog X.w b (zs.foldl addS []))) p (.lst (ys.map V.str))) := Le.new np
  refine z ys ⟨so, pm.nodup_iff.mpr nd, fun y => by rw [pm.mem_iff]; exact mem y⟩ (.ref p) _ ((l1.trans l2).trans l3) (w2.new i0 np) ⟨p, _, rfl, hd_new w2 np rfl, ra_strs ys⟩
theorem ee_lsetA {e : Expr} {ga : GE} {p p2 q pos : Pos} (i0 : Inv0 I) (hc : X.calm = true) (hg : Gl X "len") (hm : X.mg "len" = none) (hg2 : Gl X "set") (hm2 : X.mg "set" = none) (ha : EE I X e ga)
    (h1 : starEach [e] X.env = (false, eval e X.env) :: starEach [] X.env := by rfl) (h2 : starEach [.Call (.Name "set" p2) [e] [] q] X.env = (false, eval (.Call (.Name "set" p2) [e] [] q) X.env) :: starEach [] X.env := by rfl)
    (h3 : (backTo q (starEach [] X.env)).any (·.1) = false := by rfl) (h4 : (backTo pos (starEach [] X.env)).any (·.1) = false := by rfl) :
    EE I X (.Call (.Name "len" p) [.Call (.Name "set" p2) [e] [] q] [] pos) (gLSetA ga) := by
  have S := pe_callTy (p := p2) (pos := q) (cr_setSA (X := X) hc) hg2 hm2 (by decide +kernel) (pa_cons ha.pe pa_nil h1) (by decide) (by decide) h1 h3
  have T := pe_callB (p := p) (pos := pos) (cr_lenSS (X := X)) hg hm PySem.boot_len (pa_cons S pa_nil h2) (by decide) (by decide) h2 h4
  refine ⟨fun env st Q Q' k h => ha.mono _ _ _ _ (fun _ _ z => vLSetA_mono k z) h, pe_imp T fun σ H Q ⟨F, st, env, w, ev, h⟩ => ?_⟩
  refine lE_of ha.mono w ev h fun x s1 z v H1 l1 w1 r1 => ?_
  unfold vLSetA at z
  obtain ⟨zs, es, ln, z⟩ := z
  obtain ⟨a, us, rfl, hl, ra⟩ := seqA_ok w1 r1 es
  have eu := strs_ra ra
  subst eu
  refine ⟨a, zs, rfl, hl, ln, fun b nb => ?_⟩
  have l2 : Le F s1 H1 s1 (upd H1 b (SetSO X.prog X.w b (zs.foldl addS []))) := Le.new nb
  have w2 := w1.new i0 (o := SetSO X.prog X.w b (zs.foldl addS [])) nb
  exact ⟨b, zs.foldl addS [], rfl, upd_same, z (.int _) _ (l1.trans l2) w2 rfl⟩
end
end Ev

namespace K1
open PySem PySem.Spec PyProof.Rows L2 Own Ev
/-! ### Kinds.of(rows), x in kinds, is_name(x) .. by values -/
/-- what is new in H' -/
def fr (H H' : Hp) : Hp := fun a => match H a with
  | none => H' a
  | some _ => none
theorem fr_at {H H' : Hp} {a : Addr} {o : HO} (h : fr H H' a = some o) : H a = none ∧ H' a = some o := by
  unfold fr at h
  cases e : H a with
  | none =>
    rw [e] at h
    exact ⟨rfl, h⟩
  | some u =>
    rw [e] at h
    cases h
theorem fr_of {H H' : Hp} {a : Addr} {o : HO} (n : H a = none) (h : H' a = some o) : fr H H' a = some o := by
  unfold fr
  rw [n]
  exact h
section
variable {I : Hp → Prop} {X : Cx} {K : PySem.W.Frag} {F : Addr → Prop} {st : Sto} {H H1 G : Hp} {C : Addr}
theorem not_hidden (w : Wd I K F st H) : ∀ b o, isTbl o = false → (∀ xs, o ≠ .lst xs) → H b = some o → hd (Nn F st) H b = some o := fun b o t n e => hd_some.mpr ⟨fun m => by
  obtain ⟨xs, z⟩ := w.mut m
  rw [z] at e
  exact n xs (Option.some.inj e).symm, e, t⟩
theorem hid_up : Same (hd (Nn F st) H) (hideN (Nn F st) H) := fun b o e => by
  obtain ⟨n, e, _⟩ := hd_some.mp e
  rw [hide_out n]
  exact e
def linP (l : Ln) : PV := .tup [.str l.1, .tup (strP l.2)]
theorem strs_all {us : List V} : ∀ {zs : List Str}, RpAll K G us (strP zs) → us = zs.map V.str := fun h => strs_ra h
theorem rows_rp : ∀ {ls : List Ln} {us : List V}, RpAll K (hd (Nn F st) H) us (ls.map linP) → Paired (RowAt H) us ls
  | [], _, h => by
    rw [show _ = _ from h]
    exact .nil
  | l :: r, _, ⟨v, ws, e, ⟨t, xs, ev, ht, x, _, ex, rx, y, _, ey, ⟨b, ys, eb, hb, ra⟩, ez⟩, rr⟩ => by
    rw [e]
    refine .cons ⟨t, b, ev, ?_, .inr ?_⟩ (rows_rp rr)
    · have q := (hd_some.mp ht).2.1
      rw [ex, ey, ez, show x = .str l.1 from rx, eb] at q
      exact q
    · have q := (hd_some.mp hb).2.1
      rw [strs_all ra] at q
      exact q
/-- the class's method, as it is called -/
def OfOk (P : Program) (w : World) (K : PySem.W.Frag) (mg : Str → Option Value) (base : Heap) (C : Addr) : Prop := ∃ mc p fO dO, ClX.CRead K C mc ∧ ClX.CMet K C mc "of" p fO ∧ FnOk P w K mg base CX0 6 fO dO ["cls", "rows"] (spOf C) ∧ Binds K dO ["cls", "rows"] [] ∧ mg "Kinds" = some (.ref C)
def gKof (C : Addr) (g : Ev.GE) : Ev.GE := fun env st Q => g env st fun p s => ∃ ls : List Ln, p = .lst (ls.map linP) ∧ LnsOk ls ∧ ∀ ls' T, SrtOf ls ls' → Tab Srt ls' T → Q (kindsP C ls ls' T) s
theorem ee_kof {e : Expr} {ga : Ev.GE} {p apos pos : Pos} (i0 : Inv0 I) (D : OfOk X.prog X.w X.K X.mg X.base C) (hr : Room 6 X.A) (hg : Gl X "Kinds") (ha : EE I X e ga)
    (hst : starEach [e] X.env = (false, eval e X.env) :: starEach [] X.env := by rfl) (hpl : (backTo pos (starEach [] X.env)).any (·.1) = false := by rfl)
    {pl : Sem Bool} (ht : eval (.Call (.Attribute (.Name "Kinds" p) "of" apos) [e] [] pos) X.env = (do
      let ov ← eval (.Name "Kinds" p) X.env
      standAt apos.atName
      let (f, first) ← holding [ov] (getMethod ov "of" pl)
      callWith pos f first (backTo pos (starEach [e] X.env)) (backToKw pos (keywordEach [] X.env))) := by rfl) :
    EE I X (.Call (.Attribute (.Name "Kinds" p) "of" apos) [e] [] pos) (gKof C ga) := by
  obtain ⟨mc, pp, fO, dO, cr, cm, GO, bO, mC⟩ := D
  have GOR := GO.raw bO (dvs := []) .nil
  refine ⟨fun env st Q Q' k h => ha.mono _ _ _ _ (fun p s ⟨ls, a, b, z⟩ => ⟨ls, a, b, fun ls' T c d => k _ _ (z ls' T c d)⟩) h, ?_⟩
  refine pe_imp (ClX.pe_cmeth (pe_glob (v := .ref C) hg mC rfl) cr cm GOR hr pass0 (pa_cons ha.pe pa_nil hst) hst hpl ht) fun σ H Q ⟨F, st, env, w, ev, h⟩ => ?_
  refine ⟨rfl, ?_⟩
  refine lE_of ha.mono w ev h fun x s1 ⟨ls, ex, ok, z⟩ v H1 l1 w1 r1 => ?_
  subst ex
  obtain ⟨a, us, rfl, hl, ra⟩ := r1
  refine ⟨a, ls, rfl, ⟨us, .inl (hd_some.mp hl).2.1, rows_rp ra⟩, ok, fun H2 y sm ka => ?_⟩
  have i2 := i0.same sm w1.inv
  obtain ⟨l2, w2⟩ := more_le w1 sm i2
  obtain ⟨ls', T, kin⟩ := (ka.same (H' := fr H1 H2) fun a o n e => fr_of n e).kin
  exact z ls' T kin.srt kin.tab _ _ (l1.trans l2) w2 (kinds_rp (kin_go (fun b o tb e => by
    obtain ⟨nb, hb⟩ := fr_at e
    refine hd_some.mpr ⟨fun n => ?_, hb, tb⟩
    obtain ⟨xs, z⟩ := w1.mut n
    rw [nb] at z
    cases z) kin))
/-! x in kinds -/
def InOk (P : Program) (w : World) (K : PySem.W.Frag) (mg : Str → Option Value) (base : Heap) (C : Addr) : Prop := ∃ fI dI, Spc K C "__contains__" fI ∧ FnOk P w K mg base CX0 1 fI dI ["self", "x"] (spIn C K) ∧ Binds K dI ["self", "x"] []
@[irreducible] def vInK (C : Addr) : GV2 := fun x y st Q => ∃ d ls ls' T, datS st x = some d ∧ y = kindsP C ls ls' T ∧ Q (.bl (inD (nms ls) d)) st
theorem inK' {x : PV} {d : PyData} {ls ls' : List Ln} {T : Tb} {Q : QV} (e : datS st x = some d) (h : Q (.bl (inD (nms ls) d)) st) : vInK C x (kindsP C ls ls' T) st Q := by
  unfold vInK
  exact ⟨d, ls, ls', T, e, rfl, h⟩
theorem ov_inK (D : InOk X.prog X.w X.K X.mg X.base C) (hr : Room 1 X.A) : OpV I X (compareOp .In) (vInK C) := by
  obtain ⟨fI, dI, cI, GI, bI⟩ := D
  refine ⟨fun x y st Q Q' k h => ?_, fun pins s σ H x y v u Q J rx ry ⟨F, st, px, py, w, hx, hy, q⟩ => ?_⟩
  · unfold vInK at h ⊢
    obtain ⟨d, ls, ls', T, a, b, c⟩ := h
    exact ⟨d, ls, ls', T, a, b, k _ _ c⟩
  · unfold vInK at q
    obtain ⟨d, ls, ls', T, ed, ek, q⟩ := q
    subst ek
    obtain ⟨a, rfl, kin⟩ := hy H hd_same
    obtain ⟨dx, fs, ha⟩ : ∃ dx fs, H a = some (.ins C dx fs) := by
      obtain ⟨dx, r, dd, _, _, h, _⟩ := kin.ex
      exact ⟨dx, _, h⟩
    exact op_inO cI GI hr bI pins s σ H x _ v u Q J rx ry ⟨a, dx, fs, rfl, ha, in_dp (datS_ok w hx ed) kin (now w bl_rp q)⟩
/-! defs over any data -/
def g_D1 (f : PyData → Bool) : GF := fun ps st Q => ∃ p d, ps = [p] ∧ p.dat = some d ∧ Fit d ∧ Q (.bl (f d)) st
variable {P : Program} {w : World} {mg : Str → Option Value} {base : Heap} {k : Nat} {f : Addr} {fd : FuncData}
theorem e_D1 {t : PyData → Bool} (i0 : Inv0 I) (Gs : FnOk P w K mg base CX0 k f fd ["thing"] (spD1 K t)) : FnG P w K mg base k f fd ["thing"] (spE I K (g_D1 t)) := by
  refine fnE_of (fnG_ok Gs) fun F st H vs qs Q Q1 w r ⟨p, d, e, ed, fit, q⟩ i => ?_
  subst e
  obtain ⟨v, rfl, rv⟩ := one_of r
  refine ⟨Nn F st, fun b n => w.mut n, v, d, rfl, dp_same hid_up (dp_of ed rv), fit, fun H1 sm hid => ?_⟩
  obtain ⟨l, w', go⟩ := same_le i0 w sm hid
  exact i _ _ q _ _ l w' rfl
end
/-! a def gives back a list that is written on -/
def gRetC (g : Ev.GE) : GS := fun env st D => g env st D.rt
theorem es_retC {I : Hp → Prop} {X : Cx} {pos : Pos} {e : Expr} {g : Ev.GE} (h : EE I X e g) : ES I X (.Return (some e) pos) (gRetC g) := by
  refine ⟨fun env st D D' k q => h.mono _ _ _ _ (fun _ _ z => k.rt _ _ z) q, ps_imp (ps_ret h.pe) fun D σ H ⟨F, st, env, w, ev, q⟩ => ?_⟩
  exact lE_of h.mono w ev q fun p s z v H' l w' r => z v H' l w' r
end K1

namespace Ev
open PySem PySem.Spec PyProof.Rows L2 Own K1
/-! ### is of bools, a sign in a text, xs[::-1], == of any data -/
@[irreducible] def vIsB (neg : Bool) : GV2 := fun x y st Q => match x, y with
  | .bl a, .bl b => Q (.bl (xor neg (decide (a = b)))) st
  | _, _ => False
@[irreducible] def vInS (neg : Bool) : GV2 := fun x y st Q => ∃ c z, x = .str ⟨#[c]⟩ ∧ y = .str z ∧ Q (.bl (xor neg (decide (c ∈ z.cps.toList)))) st
theorem isB' {n a b : Bool} {st : Sto} {Q : QV} (h : Q (.bl (xor n (decide (a = b)))) st) : vIsB n (.bl a) (.bl b) st Q := by unfold vIsB; exact h
theorem inS' {n : Bool} {c : Nat} {z : Str} {st : Sto} {Q : QV} (h : Q (.bl (xor n (decide (c ∈ z.cps.toList)))) st) : vInS n (.str ⟨#[c]⟩) (.str z) st Q := by
  unfold vInS
  exact ⟨c, z, rfl, rfl, h⟩
def gRevT (g : GE) : GE := fun env st Q => g env st fun x s => ∃ xs, tupOf x = some xs ∧ Q (.tup xs.reverse) s
def gRevL (g : GE) : GE := fun env st Q => g env st fun x s => ∃ xs, seqL s x = some xs ∧ Q (.lst xs.reverse) s
theorem eq_gen' {n : Bool} {x y : PV} {d e : PyData} {st : Sto} {Q : QV} (e1 : datS st x = some d) (e2 : datS st y = some e) (o1 : deepOk d = true) (o2 : deepOk e = true) (h : Q (.bl (xor n (PyData.eqv d e))) st) : vEq n x y st Q := by
  unfold vEq
  split
  · rename_i i j
    cases e1
    cases e2
    exact h
  · rename_i i j
    cases e1
    cases e2
    exact h
  · rename_i i j
    cases e1
    cases e2
    have q : PyData.eqv (.bool i) (.bool j) = decide (i = j) := by cases i <;> cases j <;> rfl
    rw [q] at h
    exact h
  · rw [e1, e2]
    exact ⟨o1, o2, h⟩
section
variable {I : Hp → Prop} {X : Cx} {K : PySem.W.Frag} {F : Addr → Prop} {st : Sto} {H G : Hp} {e : Expr} {g : GE}
theorem vIsB_mono {n : Bool} : ∀ x y st Q Q', (∀ r s, Q r s → Q' r s) → vIsB n x y st Q → vIsB n x y st Q' := fun x y st Q Q' k h => by
  unfold vIsB at h ⊢
  split at h
  · exact k _ _ h
  · exact h
theorem vInS_mono {n : Bool} : ∀ x y st Q Q', (∀ r s, Q r s → Q' r s) → vInS n x y st Q → vInS n x y st Q' := fun x y st Q Q' k h => by
  unfold vInS at h ⊢
  obtain ⟨c, z, a, b, q⟩ := h
  exact ⟨c, z, a, b, k _ _ q⟩
theorem ov_isB : OpV I X (compareOp .Is) (vIsB false) := by
  refine ⟨vIsB_mono, fun pins s σ H x y v u Q J rx ry ⟨F, st, px, py, w, hx, hy, q⟩ => ?_⟩
  unfold vIsB at q
  split at q
  · rename_i a b
    refine op_isBl pins s σ H x y v u Q J rx ry ⟨a, b, hx, hy, ?_⟩
    rw [Bool.false_xor] at q
    exact now w bl_rp q
  · exact q.elim
theorem ov_isnotB : OpV I X (compareOp .IsNot) (vIsB true) := by
  refine ⟨vIsB_mono, fun pins s σ H x y v u Q J rx ry ⟨F, st, px, py, w, hx, hy, q⟩ => ?_⟩
  unfold vIsB at q
  split at q
  · rename_i a b
    refine op_notBl pins s σ H x y v u Q J rx ry ⟨a, b, hx, hy, ?_⟩
    rw [Bool.true_xor] at q
    exact now w bl_rp q
  · exact q.elim
theorem ov_inS : OpV I X (compareOp .In) (vInS false) := by
  refine ⟨vInS_mono, fun pins s σ H x y v u Q J rx ry ⟨F, st, px, py, w, hx, hy, q⟩ => ?_⟩
  unfold vInS at q
  obtain ⟨c, z, rfl, rfl, q⟩ := q
  refine op_in_sign pins s σ H x y v u Q J rx ry ⟨c, z, hx, hy, ?_⟩
  rw [Bool.false_xor] at q
  exact now w bl_rp q
theorem ov_notinS : OpV I X (compareOp .NotIn) (vInS true) := by
  refine ⟨vInS_mono, fun pins s σ H x y v u Q J rx ry ⟨F, st, px, py, w, hx, hy, q⟩ => ?_⟩
  unfold vInS at q
  obtain ⟨c, z, rfl, rfl, q⟩ := q
  refine op_notIn_sign pins s σ H x y v u Q J rx ry ⟨c, z, hx, hy, ?_⟩
  rw [Bool.true_xor] at q
  exact now w bl_rp q
theorem ee_revT {k : Nat} {p1 p2 p3 pos : Pos} (i0 : Inv0 I) (h : EE I X e g) : EE I X (.Subscript e (.Slice none none (some (.UnaryOp .USub (.Constant (.int 1) k p1) p2)) p3) pos) (gRevT g) := by
  refine ⟨fun env st Q Q' k q => h.mono _ _ _ _ (fun _ _ ⟨xs, a, b⟩ => ⟨xs, a, k _ _ b⟩) q, pe_imp (pe_revT h.pe) fun σ H Q ⟨F, st, env, w, ev, q⟩ => ?_⟩
  refine lE_of h.mono w ev q fun p s ⟨xs, ex, z⟩ v H' l w' r => ?_
  obtain ⟨a, us, rfl, ha, ra⟩ := tupOf_ok r ex
  exact ⟨a, us, rfl, tupS hd_same ha, fun p np => new_tup i0 w' np ra.rev (finE.le l z)⟩
theorem ee_revL {k : Nat} {p1 p2 p3 pos : Pos} (i0 : Inv0 I) (h : EE I X e g) : EE I X (.Subscript e (.Slice none none (some (.UnaryOp .USub (.Constant (.int 1) k p1) p2)) p3) pos) (gRevL g) := by
  refine ⟨fun env st Q Q' k q => h.mono _ _ _ _ (fun _ _ ⟨xs, a, b⟩ => ⟨xs, a, k _ _ b⟩) q, pe_imp (pe_revL h.pe) fun σ H Q ⟨F, st, env, w, ev, q⟩ => ?_⟩
  refine lE_of h.mono w ev q fun p s ⟨xs, ex, z⟩ v H' l w' r => ?_
  obtain ⟨a, us, rfl, ha, ra⟩ := seqL_ok w' r ex
  exact ⟨a, us, rfl, ha, fun p np => new_lst i0 w' np ra.rev (finE.le l z)⟩
end
end Ev

namespace Ev
open PySem PySem.Spec PyProof.Rows L2 Own
/-! ### calls that leave arguments out -/
def DfnD (I : Hp → Prop) (P : Program) (w : World) (K : PySem.W.Frag) (mg : Str → Option Value) (base : Heap) (x : Str) (k : Nat) (ps : List Str) (dps : List PV) (g : GF) : Prop :=
  ∃ f fd ds dvs, FnG P w K mg base k f fd ps (spE I K g) ∧ PySem.W.keepIn K (.ref f) = true ∧ Binds K fd ps ds ∧ Vals dvs ds ∧ mg x = some (.ref f) ∧ ∀ G, RpAll K G dvs dps
def gCallD (g : GF) (dps : List PV) (a : GA) : GE := fun env st Q => a env st fun ps s => up g (ps ++ dps) s Q
theorem rpAll_app {K : PySem.W.Frag} {G : Hp} {us : List V} {qs : List PV} (h : RpAll K G us qs) : ∀ {vs : List V} {ps : List PV}, RpAll K G vs ps → RpAll K G (vs ++ us) (ps ++ qs)
  | _, [], e => by
    cases e
    exact h
  | _, q :: r, ⟨u, ws, e, a, b⟩ => by
    cases e
    exact ⟨_, _, rfl, a, rpAll_app h b⟩
section
variable {I : Hp → Prop} {X : Cx}
theorem ee_callDf {k j : Nat} {names : List Str} {dps : List PV} {g : GF} {ga : GA} {x : Str} {p pos : Pos} {e : Expr} {es : List Expr} (D : DfnD I X.prog X.w X.K X.mg X.base x k names dps g) (hc : Calm X.A) (hr : Room j X.A) (hj : k ≤ j) (hg : Gl X x)
    (ha : EA I X (e :: es) ga) (hdb : (x == ("__debug__" : Str)) = false := by decide) (hst : starEach (e :: es) X.env = (false, eval e X.env) :: starEach es X.env := by rfl) (hno : (backTo pos (starEach es X.env)).any (·.1) = false := by rfl) :
    EE I X (.Call (.Name x p) (e :: es) [] pos) (gCallD g dps ga) := by
  obtain ⟨f, fd, ds, dvs, G, hk, hb, hv, hm, hd⟩ := D
  refine ⟨fun env st Q Q' k q => ha.mono _ _ _ _ (fun _ _ z => up.mono _ _ _ _ k z) q, pe_imp (pe_callGD (E := E0) G hc (hr.mono hj) hg hm hk hb hv ha.pa hdb hst hno) fun σ H Q ⟨F, st, env, w, ev, q⟩ => ?_⟩
  refine lA_of ha.mono w ev q fun ps s z vs H' l w' r => ?_
  exact ⟨F, s, ps ++ dps, w', rpAll_app (hd _) r, up.mono _ _ _ _ (fun _ _ y => finE.le l y) z⟩
end
end Ev

namespace Ev
open PySem PySem.Spec PyProof.Rows L2 Own K1
/-! ### enumerate(tuple) -/
def enP (xs : List PV) : List PV := xs.mapIdx fun i x => .tup [.int (i : Nat), x]
theorem enP_len (xs : List PV) : (enP xs).length = xs.length := List.length_mapIdx ..
theorem enP_at {xs : List PV} {i : Nat} {p : PV} (h : (enP xs)[i]? = some p) : ∃ x, xs[i]? = some x ∧ p = .tup [.int (i : Nat), x] := by
  unfold enP at h
  rw [List.getElem?_mapIdx] at h
  obtain ⟨x, hx, e⟩ := Option.map_eq_some_iff.mp h
  exact ⟨x, hx, e.symm⟩
def gEn (g : GE) : GI := fun env st Q => g env st fun p s => match tupOf p with
  | some xs => Q (enP xs) (fun _ => True) s
  | none => False
section
variable {I : Hp → Prop} {X : Cx} {K : PySem.W.Frag} {F : Addr → Prop} {st : Sto} {H G : Hp} {pos : Pos} {e : Expr} {g : GE}
theorem we_en {st1 : Sto} {H1 : Hp} {a : Addr} {us : List V} {xs : List PV} (ha : SqT K (hd (Nn F st1) H1) a us) (ra : RpAll K (hd (Nn F st1) H1) us xs) : WalkE I K F st1 H1 (IteT K a) (enP xs) fun _ => True := by
  refine ⟨fun H => SqT K H a us, fun i H v H' => ∃ T x, v = .ref T ∧ H T = none ∧ H' = upd H T (.tup [.int (i : Nat), x]) ∧ ∀ ys, SqT K H a ys → ys[i]? = some x, ⟨fun i H hi h => ?_, fun H h => ⟨us, h, by rw [enP_len, ra.len]; exact Nat.le_refl _⟩, fun i H x H' _ _ y => y⟩, fun st' H' l w _ => tupS hd_same (tupS l.same ha), fun _ _ h => h, fun i st' H' x H'' l w _ hi ⟨T, y, ex, hT, eH, hy⟩ => ?_⟩
  · rw [enP_len] at hi
    have hj : i < us.length := by rw [ra.len]; exact hi
    exact ⟨us, us[i], h, List.getElem?_eq_getElem hj⟩
  · subst ex eH
    obtain ⟨p, hp, rp⟩ := (RpAll.same l.same ra).ofV (hy us (tupS hd_same (tupS l.same ha)))
    have l2 : Le F st' H' st' (upd H' T (.tup [.int (i : Nat), y])) := Le.new hT
    refine ⟨.tup [.int (i : Nat), p], by unfold enP; rw [List.getElem?_mapIdx, hp]; rfl, ⟨T, _, rfl, hd_new w hT rfl, _, _, rfl, rfl, _, _, rfl, Rp.same l2.same rp, rfl⟩, .inr ⟨T, _, hT, rfl, rfl⟩⟩
theorem ei_enT {p tpos : Pos} {elts : List Expr} {kk : Nat} (hg : Gl X "enumerate") (hm : X.mg "enumerate" = none) (h : EE I X e g) (hs : starEach [e] X.env = [(false, eval e X.env)] := by rfl) (hs2 : starEach [e] X.env = (false, eval e X.env) :: starEach [] X.env := by rfl) :
    EI I X (.Tuple elts kk tpos) (.Call (.Name "enumerate" p) [e] [] pos) (gEn g) := by
  refine ⟨fun env st Q Q' k q => h.mono _ _ _ _ (fun p s z => ?_) q, pi_imp (pi_enT hg hm (pa_cons h.pe pa_nil hs2) hs) fun σ H R ⟨F, st, env, w, ev, q⟩ => ?_⟩
  · split at z
    · exact k _ _ _ z
    · exact z
  · refine lE_of h.mono w ev q fun p s1 z v H1 l1 w1 r1 => ?_
    split at z
    · rename_i xs e1
      obtain ⟨a, us, rfl, ha, ra⟩ := tupOf_ok r1 e1
      exact ⟨a, us, rfl, tupS hd_same ha, z _ H1 l1 w1 (we_en ha ra)⟩
    · exact z.elim
/-! ### xs.index(y) -/
@[irreducible] def fIndex : GM := fun p ps st Q => ∃ y xs v vs j z, ps = [y] ∧ seqL st p = some xs ∧ flatP y = some v ∧ flatAll xs = some vs ∧ vs[j]? = some z ∧ eqV z v = true ∧ (∀ (m : Nat) z', m < j → vs[m]? = some z' → eqV z' v = false) ∧ Q (.int (j : Nat)) st
theorem mv_index (i0 : Inv0 I) : MtV I X "list.index" fIndex := by
  refine ⟨fun p ps st Q Q' k h => ?_, fun pins s σ H x vs v us Q J rx rv ⟨F, st, p, ps, w, hx, hp, q⟩ => ?_⟩
  · unfold fIndex at h ⊢
    obtain ⟨y, xs, v, vs, j, z, a, b, c, d, e, f, g, q⟩ := h
    exact ⟨y, xs, v, vs, j, z, a, b, c, d, e, f, g, k _ _ q⟩
  · unfold fIndex at q
    obtain ⟨y, xs, v1, ws, j, z, rfl, es, fy, fa, hz, eq, no, q⟩ := q
    obtain ⟨u, rfl, ru⟩ := one_of hp
    obtain ⟨a, us2, rfl, ha, ra⟩ := seqL_ok w hx es
    obtain ⟨rfl, f1⟩ := flatP_ok ru fy
    obtain ⟨rfl, f2⟩ := flatAll_ok ra fa
    exact mt_index pins s σ H _ _ v us Q J rx rv ⟨a, us2, u, j, z, rfl, rfl, ha, f1, f2, hz, eq, no, now w (show Rp X.K _ (.int _) (.int _) from rfl) q⟩
theorem flat_ints : ∀ ks : List Int, flatAll (ks.map .int) = some (ks.map .int)
  | [] => rfl
  | k :: r => by
    show (match flatP (.int k), flatAll (r.map PV.int) with
      | some v, some vs => some (v :: vs)
      | _, _ => none) = _
    rw [flat_ints r]
    rfl
theorem index_int' {p : PV} {st : Sto} {Q : QV} {ks : List Int} {k : Int} {j : Nat} (e : seqL st p = some (ks.map .int)) (h : ks[j]? = some k) (no : ∀ m, m < j → ks[m]? ≠ some k) (q : Q (.int (j : Nat)) st) : fIndex p [.int k] st Q := by
  unfold fIndex
  refine ⟨_, _, .int k, ks.map .int, j, .int k, rfl, e, rfl, flat_ints ks, by rw [List.getElem?_map, h]; rfl, by show (k == k) = true; exact beq_self_eq_true k, fun m z' hm hz => ?_, q⟩
  rw [List.getElem?_map] at hz
  obtain ⟨y, hy, e2⟩ := Option.map_eq_some_iff.mp hz
  subst e2
  show (y == k) = false
  exact beq_eq_false_iff_ne.mpr fun e => no m hm (e ▸ hy)
/-! ### x = [.. for .. in a generator] -/
theorem es_setLcY {pre : Around → Prop} {k i : Nat} {y : Str} {py : Pos} {elt tg iter : Expr} {ifs : List Expr} {scope : Scope} {own : List (Str × Nat)} {spos : Pos} {g : GYI} {t : TG} {tp : TP} {sl : List Nat} {gc : GT} {ge : GE} (i0 : Inv0 I) (hpre : pre X.A.in1) (hr : Room (k + 1) X.A) (hc : X.calm = true) (hN : X.N.Nodup) (hy : X.N[i]? = some y) (hyl : X.env.scope.names.lookup y = some .local)
    (hsw : swapsWith (.ListComp elt [⟨tg, iter, ifs, 0⟩] scope pos) (some (.Name y py)) spos.line X.env = pure true) (hi : EY I X pre k iter g) (ok : BlkOk X.N X.env.scope scope own) (hnoc : ∀ y ∈ scope.names, y.2 ≠ .cell)
    (hg : ∀ (s : Shared) (H : Hp) (C : Addr) (cl : List (Str × Addr)) (fp : List Addr), EG (X.blk s H scope (compEnvC scope cl C X.env) fp) tg t tp sl) (ht : ∀ (s : Shared) (H : Hp) (C : Addr) (cl : List (Str × Addr)) (fp : List Addr), ETs I (X.blk s H scope (compEnvC scope cl C X.env) fp) ifs gc)
    (he : ∀ (s : Shared) (H : Hp) (C : Addr) (cl : List (Str × Addr)) (fp : List Addr), EE I (X.blk s H scope (compEnvC scope cl C X.env) fp) elt ge) (sub : ∀ i ∈ sl, i ∈ own.map (·.2) := by decide) (hs : ∀ x, foldedSetIterable iter X.env x = pure x := by intro _; rfl) :
    ES I X (.Assign [.Name y py] (.ListComp elt [⟨tg, iter, ifs, 0⟩] scope pos) spos) (gAsg (gLcY g tp gc ge (own.map (·.2))) (nmP i)) := by
  obtain ⟨s0⟩ : Nonempty Shared := ⟨X.s_0⟩
  have g0 := hg s0 (fun _ => none) 0 [] []
  have c0 := (ht s0 (fun _ => none) 0 [] []).mono
  have e0 := (he s0 (fun _ => none) 0 [] []).mono
  have mn : Mono (gLcY g tp gc ge (own.map (·.2))) := fun env st Q Q' k q => hi.mono _ _ _ _ (fun _ _ z => ⟨z.1, gLcL_mono _ _ _ _ _ _ k z.2⟩) q
  refine ⟨asg_mono mn fun _ _ _ _ k q => k _ q, ps_imp (ps_setLcY (te := lE I X.K ge) (tt := lT I X.K gc) hpre hr hc hN hy hyl hsw hi.py ok hnoc (fun s H C cl fp => (hg s H C cl fp).pg) (fun s H C cl fp => (ht s H C cl fp).pts) (fun s H C cl fp => (he s H C cl fp).pe) hs) fun D σ H q => ?_⟩
  obtain ⟨F, st, env, w, ev, q⟩ := q
  exact lcY_ok (Q := fun x H1 => gName i x σ H1 D.nx) i0 hi.mono g0.tm g0.ok c0 e0 sub ⟨F, st, env, w, ev, mn _ _ _ _ (fun p s z v H' l w' r => z _ H' l w' ((ev.le l).set r)) q⟩
end
end Ev

namespace Ev
open PySem PySem.Spec PyProof.Rows L2 Own K1
section
variable {I : Hp → Prop} {X : Cx} {K : PySem.W.Frag} {F : Addr → Prop} {st : Sto} {H G : Hp}
/-! ### int(a bool) -/
@[irreducible] def fIntB : GF := fun ps st Q => match ps with
  | [.bl b] => Q (.int (if b then 1 else 0)) st
  | _ => False
theorem intB' {b : Bool} {Q : QV} (h : Q (.int (if b then 1 else 0)) st) : fIntB [.bl b] st Q := by unfold fIntB; exact h
theorem cv_intB : CallV I X (.type "int") fIntB := by
  refine ⟨fun ps st Q Q' k h => ?_, fun pins s σ H vs us Q J r ⟨F, st, ps, w, rp, q⟩ => ?_⟩
  · unfold fIntB at h ⊢
    split at h
    · exact k _ _ h
    · exact h
  · unfold fIntB at q
    split at q
    · rename_i b
      obtain ⟨v, rfl, rv⟩ := one_of rp
      exact call_int1 pins s σ H _ us Q J r (.inr ⟨b, by rw [show v = .bl b from rv], now w (show Rp X.K _ (.int _) (.int _) from rfl) q⟩)
    · exact q.elim
/-! ### a list that is written, put into another -/
@[irreducible] def fAppendC : GM := fun p ps st Q => match p, ps with
  | .cell a, [y] => match st a with
    | some (.lst xs) => xs.length ≤ 1000000 ∧ Q .non (st.put a (some (.lst (xs ++ [y]))))
    | _ => False
  | _, _ => False
theorem mv_appendC (i0 : Inv0 I) : MtV I X "list.append" fAppendC := by
  refine ⟨fun p ps st Q Q' k h => ?_, fun pins s σ H x vs v us Q J rx rv ⟨F, st, p, ps, w, hx, hp, q⟩ => ?_⟩
  · unfold fAppendC at h ⊢
    split at h
    · split at h
      · exact ⟨h.1, k _ _ h.2⟩
      · exact h
    · exact h
  · unfold fAppendC at q
    split at q
    · rename_i a y
      obtain ⟨u, rfl, ru⟩ := one_of hp
      split at q
      · rename_i xs es
        obtain ⟨ws, ha, ra⟩ := w.at_ _ _ es
        refine mt_append pins s σ H x _ v us Q J rx rv ⟨a, ws, u, hx, rfl, ha, by rw [ra.len, sizeLine_eq]; have := q.1; omega, ?_⟩
        exact q.2 .non _ (Le.write w es) (w.write i0 es (ra.app (RpAll.one ru))) rfl
      · exact q.elim
    · exact q.elim
theorem appendC' {a : Addr} {xs : List PV} {y : PV} {Q : QV} (e : st a = some (.lst xs)) (l : xs.length ≤ 1000000) (h : Q .non (st.put a (some (.lst (xs ++ [y]))))) : fAppendC (.cell a) [y] st Q := by
  unfold fAppendC
  show match st a with
    | some (.lst xs) => xs.length ≤ 1000000 ∧ Q .non (st.put a (some (.lst (xs ++ [y]))))
    | _ => False
  rw [e]
  exact ⟨l, h⟩
theorem ee_neg {i : Int} {k : Nat} {p1 p2 : Pos} : EE I X (.UnaryOp .USub (.Constant (.int i) k p1) p2) (gC (.int (-i))) :=
  ⟨fun _ _ _ _ k q => k _ _ q, pe_imp (pe_un un_neg pe_int) fun σ H Q ⟨F, st, env, w, ev, q⟩ => ⟨_, rfl, q _ H .refl w rfl⟩⟩
/-! ### ==, != of a list of lists that are written -/
def datSs (st : Sto) : List PV → Option (List PyData)
  | [] => some []
  | p :: r => match datS st p, datSs st r with
    | some d, some ds => some (d :: ds)
    | _, _ => none
def datS2 (st : Sto) (p : PV) : Option PyData := match p with
  | .cell a => match st a with
    | some (.lst xs) => (datSs st xs).map .list
    | _ => none
  | p => p.dat
theorem datSs_ok (w : Wd I K F st H) : ∀ {ps : List PV} {us : List V} {ds : List PyData}, RpAll K (hd (Nn F st) H) us ps → datSs st ps = some ds → DpAll K H us ds
  | [], us, ds, r, e => by
    cases e
    rw [show us = [] from r]
    exact .nil
  | p :: t, us, ds, ⟨v, ws, eu, rv, ra⟩, e => by
    rw [datSs] at e
    cases e1 : datS st p with
    | none =>
      rw [e1] at e
      cases e
    | some d =>
      cases e2 : datSs st t with
      | none =>
        rw [e1, e2] at e
        cases e
      | some es =>
        rw [e1, e2] at e
        cases e
        rw [eu]
        exact .cons (datS_ok w rv e1) (datSs_ok w ra e2)
theorem datS2_ok (w : Wd I K F st H) {v : V} {p : PV} {d : PyData} (r : Rp K (hd (Nn F st) H) v p) (e : datS2 st p = some d) : Dp K H v d := by
  unfold datS2 at e
  split at e
  · rename_i a
    split at e
    · rename_i ys ea
      obtain ⟨ds, e1, e2⟩ := Option.map_eq_some_iff.mp e
      obtain ⟨us, hs, ra⟩ := w.at_ _ _ ea
      rw [← e2, show v = .ref a from r]
      exact .lst (SqL.of hs) (datSs_ok w ra e1)
    · cases e
  · exact dp_same hd_same (dp_of e r)
@[irreducible] def vEq2 (neg : Bool) : GV2 := fun x y st Q => ∃ d e, datS2 st x = some d ∧ datS2 st y = some e ∧ deepOk d = true ∧ deepOk e = true ∧ Q (.bl (xor neg (PyData.eqv d e))) st
theorem eq2' {n : Bool} {x y : PV} {d e : PyData} {Q : QV} (e1 : datS2 st x = some d) (e2 : datS2 st y = some e) (o1 : deepOk d = true) (o2 : deepOk e = true) (h : Q (.bl (xor n (PyData.eqv d e))) st) : vEq2 n x y st Q := by
  unfold vEq2
  exact ⟨d, e, e1, e2, o1, o2, h⟩
theorem vEq2_mono {n : Bool} : ∀ x y st Q Q', (∀ r s, Q r s → Q' r s) → vEq2 n x y st Q → vEq2 n x y st Q' := fun x y st Q Q' k h => by
  unfold vEq2 at h ⊢
  obtain ⟨d, e, a, b, c, f, q⟩ := h
  exact ⟨d, e, a, b, c, f, k _ _ q⟩
theorem ov_ne2 (hu : X.A.units + 150 < cLine) : OpV I X (compareOp .NotEq) (vEq2 true) := by
  refine ⟨vEq2_mono, fun pins s σ H x y v u Q J rx ry ⟨F, st, px, py, w, hx, hy, q⟩ => ?_⟩
  unfold vEq2 at q
  obtain ⟨d, e, e1, e2, o1, o2, z⟩ := q
  refine op_neB hu pins s σ H x y v u Q J rx ry ⟨d, e, datS2_ok w hx e1, datS2_ok w hy e2, o1, o2, ?_⟩
  rw [Bool.true_xor] at z
  exact now w bl_rp z
theorem ov_eq2 (hu : X.A.units + 150 < cLine) : OpV I X (compareOp .Eq) (vEq2 false) := by
  refine ⟨vEq2_mono, fun pins s σ H x y v u Q J rx ry ⟨F, st, px, py, w, hx, hy, q⟩ => ?_⟩
  unfold vEq2 at q
  obtain ⟨d, e, e1, e2, o1, o2, z⟩ := q
  refine op_eqB hu pins s σ H x y v u Q J rx ry ⟨d, e, datS2_ok w hx e1, datS2_ok w hy e2, o1, o2, ?_⟩
  rw [Bool.false_xor] at z
  exact now w bl_rp z
/-! ### a, b, c = x, y, z -/
def gPar3 (i j l : Nat) (g : GA) : GS := fun env st D => g env st fun ps s => match ps with
  | [p, q, r] => D.nx (((env.set i (some p)).set j (some q)).set l (some r)) s
  | _ => False
theorem es_par3 {i j l : Nat} {x y z : Str} {a b c : Expr} {g : GA} {px py pz pt pos : Pos} {kt k2 pt2} (hc : X.calm = true) (hN : X.N.Nodup) (hi : X.N[i]? = some x) (hj : X.N[j]? = some y) (hl : X.N[l]? = some z) (hij : i ≠ j) (hil : i ≠ l) (hjl : j ≠ l)
    (hx : X.env.scope.names.lookup x = some .local) (hy : X.env.scope.names.lookup y = some .local) (hz : X.env.scope.names.lookup z = some .local) (ha : EA I X [a, b, c] g)
    (hw : swappedStores [.Tuple [.Name x px, .Name y py, .Name z pz] kt pt] (.Tuple [a, b, c] k2 pt2) X.env = pure (some [x, y, z]))
    (hs : swapsWithSole [.Tuple [.Name x px, .Name y py, .Name z pz] kt pt] (.Tuple [a, b, c] k2 pt2) pos.line X.env = pure false := by rfl) :
    ES I X (.Assign [.Tuple [.Name x px, .Name y py, .Name z pz] kt pt] (.Tuple [a, b, c] k2 pt2) pos) (gPar3 i j l g) := by
  refine ⟨fun env st D D' k q => ha.mono _ _ _ _ (fun ps s z => ?_) q, ps_imp (ps_par3 hc hN hi hj hl hij hil hjl hx hy hz ha.pa hw hs) fun D σ H ⟨F, st, env, w, ev, q⟩ => ?_⟩
  · match ps, z with
    | [p, q, r], z => exact k.nx _ _ z
  · refine lA_of ha.mono w ev q fun ps s z vs H' l w' r => ?_
    match ps, z, r with
    | [p, q, o], z, ⟨v, _, e, rv, u, _, e2, ru, t, _, e3, rt, e4⟩ =>
      subst e4
      subst e3
      subst e2
      subst e
      exact ⟨v, u, t, rfl, z _ H' l w' ((((ev.le l).set rv).set ru).set rt)⟩
end
end Ev

namespace K1
open PySem PySem.Spec PyProof.Rows L2 Own Ev
section
variable {I : Hp → Prop} {P : Program} {w : World} {K : PySem.W.Frag} {mg : Str → Option Value} {base : Heap}
abbrev n_hole : List Str := ["kinds", "thing", "names", "name"]
theorem sc_hole : FnScope n_hole ["kinds", "thing"] (defScope sIsHoleOf) := ⟨rfl, rfl, rfl, by decide +kernel, rfl, by decide +kernel, by decide +kernel⟩
def b_hole (C : Addr) : GS :=
  (gSeq (gIf (gOr (gNot (gTru (gCall ((g_D1 isPairD)) (aCons (gVar 1) aNil)))) (gOr (gBool (gOp (vEq true) (gOp vIx (gVar 1) (gC (.int 0))) (gC (.str "*")))) (gNot (gTru (gCB fIsi (aCons (gOp vIx (gVar 1) (gC (.int 1))) (aCons (gC (tyPV "tuple")) aNil))))))) (gRet (gC (.bl false))) gSkip)
  (gSeq (gAsg (gOp vIx (gVar 1) (gC (.int 1))) (nmP 2))
  (gSeq (gIf (gOr (gNot (gTru (gVar 2))) (gNot (gTru (gCB (fBools fun bs => bs.all _root_.id) (aCons (gLc (gIt (gVar 2)) (nmP 3) gYes (gOp (vInK C) (gVar 3) (gVar 0)) [3]) aNil))))) (gRet (gC (.bl false))) gSkip)
  (gRet (gOp (vEq false) (gCB fList (aCons (gVar 2) aNil)) (gSSetA (gVar 2)))))))
def g_hole (C : Addr) : GF := gFun 4 2 (b_hole C)
theorem g_hole_of {C : Addr} {p0 p1 : PV} {st : Sto} {Q : QV} (h : b_hole C [some p0, some p1, none, none] st { nx := fun _ s => Q .non s, rt := Q }) : g_hole C [p0, p1] st Q := ⟨rfl, h⟩
theorem ok_hole {C : Addr} {f : Addr} {fd : FuncData} (i0 : Inv0 I) (F : Fun K "_is_hole_of" "_is_hole_of" sIsHoleOf f fd) (D_is_pair : Dfn I P w K mg base "is_pair" 1 ["thing"] ((g_D1 isPairD))) (D_in : InOk P w K mg base C) (y_all : mg "all" = none) (y_isinstance : mg "isinstance" = none) (y_list : mg "list" = none) (y_set : mg "set" = none) (y_sorted : mg "sorted" = none) (y_tuple : mg "tuple" = none) : FnG P w K mg base (3 + 1) f fd ["kinds", "thing"] (spE I K (gFun 4 2 (b_hole C))) :=
  ok_E F sc_hole fun cdv A out s H E hc hr => (ess_cons (es_if (EW.et (ew_or (et_not (et_tru (ee_callD D_is_pair hc hr (by decide) (by rfl) (ea_cons (ee_var (pv 1)) ea_nil)))) (ew_or (et_cmp (ov_ne hr.units150) (ee_ix (iv_ix (hu_of hr)) (ee_var (pv 1)) ee_int) ee_str (nomark _)) (ew_or1 (et_not (et_tru (ee_callB cv_isi (by rfl) y_isinstance (by decide +kernel) (ea_cons (ee_ix (iv_ix (hu_of hr)) (ee_var (pv 1)) ee_int) (ea_cons (ee_ty (T := "tuple") (by rfl) y_tuple (by decide +kernel)) ea_nil))))))))) (ess_one (es_ret ee_bl)) ess_nil)
      (ess_cons (es_set (i := 2) sc_hole.nd rfl (Or.inl rfl) (ee_ix (iv_ix (hu_of hr)) (ee_var (pv 1)) ee_int))
      (ess_cons (es_if (EW.et (ew_or (et_not (et_tru (ee_var (pv 2)))) (ew_or1 (et_not (et_tru (ee_callB (cv_all rfl) (by rfl) y_all (by decide +kernel) (ea_cons (ee_lc (own := [("name", 3)]) i0 rfl sc_hole.nd (ei_it (ee_var (pv 2))) (blkOk_by (N := n_hole) (sc := defScope sIsHoleOf) (by decide +kernel)) (fun _ _ _ _ _ => (eg_name (pg_name (i := 3) sc_hole.nd rfl (Or.inl rfl) (hf := Or.inr rfl)))) (fun _ _ _ _ _ => ets_nil) (fun _ _ _ _ _ => (ee_cmp (ov_inK D_in (hr.mono (by decide))) (ee_var (pv 3)) (ee_var (pv 0)) (by rfl)))) ea_nil))))))) (ess_one (es_ret ee_bl)) ess_nil)
      (ess_one (es_ret (ee_cmp (ov_eq hr.units150) (ee_callTy (cv_list i0) (by rfl) y_list (by decide +kernel) (ea_cons (ee_var (pv 2)) ea_nil)) (ee_ssetA i0 rfl (by rfl) y_sorted (by rfl) y_set (ee_var (pv 2))) (nomark _)))))))
abbrev n_nleaf : List Str := ["kinds", "thing"]
theorem sc_nleaf : FnScope n_nleaf ["kinds", "thing"] (defScope sIsNewLeaf) := ⟨rfl, rfl, rfl, by decide +kernel, rfl, by decide +kernel, by decide +kernel⟩
def b_nleaf (C : Addr) : GS :=
  (gRet (gAndV (gCall ((g_D1 isPairD)) (aCons (gVar 1) aNil)) (gAndV (gOp (vInK C) (gOp vIx (gVar 1) (gC (.int 0))) (gVar 0)) (gAndV (gCall ((g_D1 isNumD)) (aCons (gOp vIx (gVar 1) (gC (.int 1))) aNil)) (gOp (vEq false) (gOp vIx (gVar 1) (gC (.int 1))) (gC (.int 0)))))))
def g_nleaf (C : Addr) : GF := gFun 2 2 (b_nleaf C)
theorem g_nleaf_of {C : Addr} {p0 p1 : PV} {st : Sto} {Q : QV} (h : b_nleaf C [some p0, some p1] st { nx := fun _ s => Q .non s, rt := Q }) : g_nleaf C [p0, p1] st Q := ⟨rfl, h⟩
theorem ok_nleaf {C : Addr} {f : Addr} {fd : FuncData} (i0 : Inv0 I) (F : Fun K "_is_new_leaf" "_is_new_leaf" sIsNewLeaf f fd) (D_is_number : Dfn I P w K mg base "is_number" 1 ["thing"] ((g_D1 isNumD))) (D_is_pair : Dfn I P w K mg base "is_pair" 1 ["thing"] ((g_D1 isPairD))) (D_in : InOk P w K mg base C) : FnG P w K mg base (3 + 1) f fd ["kinds", "thing"] (spE I K (gFun 2 2 (b_nleaf C))) :=
  ok_E F sc_nleaf fun cdv A out s H E hc hr => (ess_one (es_ret (ee_and (ee_callD D_is_pair hc hr (by decide) (by rfl) (ea_cons (ee_var (pv 1)) ea_nil)) (ee_and (ee_cmp (ov_inK D_in (hr.mono (by decide))) (ee_ix (iv_ix (hu_of hr)) (ee_var (pv 1)) ee_int) (ee_var (pv 0)) (by rfl)) (ee_and (ee_callD D_is_number hc hr (by decide) (by rfl) (ea_cons (ee_ix (iv_ix (hu_of hr)) (ee_var (pv 1)) ee_int) ea_nil)) (ee_one (ee_cmp (ov_eq hr.units150) (ee_ix (iv_ix (hu_of hr)) (ee_var (pv 1)) ee_int) ee_int (nomark _))))))))
abbrev n_istp : List Str := ["kinds", "thing", "pending", "in_holes", "node"]
theorem sc_istp : FnScope n_istp ["kinds", "thing"] (defScope sIsTemplate) := ⟨rfl, rfl, rfl, by decide +kernel, rfl, by decide +kernel, by decide +kernel⟩
def b_istp (C : Addr) : GS :=
  (gSeq (gAsg (gLstC (aCons (gVar 1) aNil)) (nmP 2))
  (gSeq (gAsg (gLstC aNil) (nmP 3))
  (gSeq (gWhile (gTru (gVar 2)) (gSeq (gAsg (gMt fPop (gVar 2) aNil) (nmP 4))
  (gIf (gTru (gCall ((g_D1 isGroupD)) (aCons (gVar 4) aNil))) (gDrop (gMt fExtend (gVar 2) (aCons (gOp vIx (gVar 4) (gC (.int 1))) aNil))) (gIf (gTru (gCall ((g_hole C)) (aCons (gVar 0) (aCons (gVar 4) aNil)))) (gDrop (gMt fExtend (gVar 3) (aCons (gOp vIx (gVar 4) (gC (.int 1))) aNil))) (gIf (gNot (gTru (gCall ((g_nleaf C)) (aCons (gVar 0) (aCons (gVar 4) aNil))))) (gRet (gC (.bl false))) gSkip)))))
  (gRet (gOp (vEq false) (gLSetA (gVar 3)) (gCB fLen (aCons (gVar 3) aNil)))))))
def g_istp (C : Addr) : GF := gFun 5 2 (b_istp C)
theorem g_istp_of {C : Addr} {p0 p1 : PV} {st : Sto} {Q : QV} (h : b_istp C [some p0, some p1, none, none, none] st { nx := fun _ s => Q .non s, rt := Q }) : g_istp C [p0, p1] st Q := ⟨rfl, h⟩
theorem ok_istp {C : Addr} {f : Addr} {fd : FuncData} (i0 : Inv0 I) (F : Fun K "is_template" "is_template" sIsTemplate f fd) (D__is_hole_of : Dfn I P w K mg base "_is_hole_of" 4 ["kinds", "thing"] ((g_hole C))) (D__is_new_leaf : Dfn I P w K mg base "_is_new_leaf" 4 ["kinds", "thing"] ((g_nleaf C))) (D_is_group : Dfn I P w K mg base "is_group" 2 ["thing"] ((g_D1 isGroupD))) (y_len : mg "len" = none) (y_set : mg "set" = none) : FnG P w K mg base (5 + 1) f fd ["kinds", "thing"] (spE I K (gFun 5 2 (b_istp C))) :=
  ok_E F sc_istp fun cdv A out s H E hc hr => (ess_cons (es_set (i := 2) sc_istp.nd rfl (Or.inl rfl) (ee_lstC i0 (ea_cons (ee_var (pv 1)) ea_nil)))
      (ess_cons (es_set (i := 3) sc_istp.nd rfl (Or.inl rfl) (ee_lstC i0 ea_nil))
      (ess_cons (es_while PassesOwn.never (et_tru (ee_var (pv 2))) (ess_cons (es_set (i := 4) sc_istp.nd rfl (Or.inl rfl) (ee_mt0 PySem.F.slot_list_pop PySem.F.type_list_pop (mv_pop i0) (ee_var (pv 2))))
      (ess_one (es_if (et_tru (ee_callD D_is_group hc hr (by decide) (by rfl) (ea_cons (ee_var (pv 4)) ea_nil))) (ess_one (es_expr (ee_mt PySem.F.slot_list_extend PySem.F.type_list_extend (mv_extend i0) (ee_var (pv 2)) (ea_cons (ee_ix (iv_ix (hu_of hr)) (ee_var (pv 4)) ee_int) ea_nil)))) (ess_one (es_if (et_tru (ee_callD D__is_hole_of hc hr (by decide) (by rfl) (ea_cons (ee_var (pv 0)) (ea_cons (ee_var (pv 4)) ea_nil)))) (ess_one (es_expr (ee_mt PySem.F.slot_list_extend PySem.F.type_list_extend (mv_extend i0) (ee_var (pv 3)) (ea_cons (ee_ix (iv_ix (hu_of hr)) (ee_var (pv 4)) ee_int) ea_nil)))) (ess_one (es_if (et_not (et_tru (ee_callD D__is_new_leaf hc hr (by decide) (by rfl) (ea_cons (ee_var (pv 0)) (ea_cons (ee_var (pv 4)) ea_nil))))) (ess_one (es_ret ee_bl)) ess_nil))))))))
      (ess_one (es_ret (ee_cmp (ov_eq hr.units150) (ee_lsetA i0 rfl (by rfl) y_len (by rfl) y_set (ee_var (pv 3))) (ee_callB cv_len (by rfl) y_len PySem.boot_len (ea_cons (ee_var (pv 3)) ea_nil)) (nomark _)))))))
end
end K1

namespace Ev
open PySem PySem.Spec PyProof.Rows L2 Own
/-! ### steps that are not plain -/
section
variable {env : Env} {st : Sto} {p : PV}
theorem nilA' {Q : List PV → Sto → Prop} (h : Q [] st) : aNil env st Q := h
theorem aC' {a : GA} {Q : List PV → Sto → Prop} (h : a env st fun ps s => Q (p :: ps) s) : aCons (gC p) a env st Q := h
theorem aVar' {i : Nat} {a : GA} {Q : List PV → Sto → Prop} (e : env[i]? = some (some p)) (h : a env st fun ps s => Q (p :: ps) s) : aCons (gVar i) a env st Q := by
  show (match env[i]? with
    | some (some p) => a env st fun ps s => Q (p :: ps) s
    | _ => False)
  rw [e]
  exact h
theorem gVar' {i : Nat} {Q : QV} (e : env[i]? = some (some p)) (h : Q p st) : gVar i env st Q := by
  show (match env[i]? with
    | some (some p) => Q p st
    | _ => False)
  rw [e]
  exact h
theorem fz_not {Q : QV} (n : ∀ a, p ≠ .cell a) (h : Q p st) : fz p st Q := by
  unfold fz
  split
  · exact absurd rfl (n _)
  · exact h
theorem fzA_cons {r : List PV} {Q : List PV → Sto → Prop} (n : ∀ a, p ≠ .cell a) (h : fzAll r st fun qs s => Q (p :: qs) s) : fzAll (p :: r) st Q := fz_not n h
theorem fzNil' {Q : List PV → Sto → Prop} (h : Q [] st) : fzAll [] st Q := h
theorem fz_cell {a : Addr} {xs : List PV} {Q : QV} (e : st a = some (.lst xs)) (h : Q (.lst xs) (st.put a none)) : fz (.cell a) st Q := by
  show (match st a with
    | some (.lst xs) => Q (.lst xs) (st.put a none)
    | _ => False)
  rw [e]
  exact h
theorem seqL_cell {a : Addr} {xs : List PV} (e : st a = some (.lst xs)) : seqL st (.cell a) = some xs := by
  show (match st a with
    | some (.lst xs) => some xs
    | _ => none) = _
  rw [e]
theorem seqA_cell {a : Addr} {xs : List PV} (e : st a = some (.lst xs)) : seqA st (.cell a) = some xs := seqL_cell e
theorem gSeq' {a b : GS} {D : GEnds} (h : a env st { D with nx := fun e s => b e s D }) : gSeq a b env st D := h
theorem gAsg' {g : GE} {t : TP} {D : GEnds} (h : g env st fun p s => t p env fun e => D.nx e s) : gAsg g t env st D := h
theorem gCall' {g : GF} {a : GA} {Q : QV} (h : a env st fun ps s => up g ps s Q) : gCall g a env st Q := h
theorem gCB' {g : GF} {a : GA} {Q : QV} (h : a env st fun ps s => g ps s Q) : gCB g a env st Q := h
theorem gLcIt' {g e : GE} {t : TP} {c : GT} {vs : List Nat} {Q : QV} (h : g env st fun p s => itemsOf p s fun items gd s => items.length ≤ 1000000 ∧ gLcL gd t c e items [] (wipeE env vs) s Q) : gLc (gIt g) t c e vs env st Q := h
theorem gIf' {c : GT} {a b : GS} {D : GEnds} (h : c env st fun t s => match t with
  | true => a env s D
  | false => b env s D) : gIf c a b env st D := h
theorem gOp' {o : GV2} {a b : GE} {Q : QV} (h : a env st fun x s1 => b env s1 fun y s2 => o x y s2 Q) : gOp o a b env st Q := h
theorem gTru' {g : GE} {Q : Bool → Sto → Prop} (h : g env st fun p s => tru p s fun b => Q b s) : gTru g env st Q := h
theorem gCB1' {f : GF} {g : GE} {Q : QV} (h : g env st fun p s => f [p] s Q) : gCB f (aCons g aNil) env st Q := h
theorem truB' {b : Bool} {Q : Bool → Prop} (h : Q b) : tru (.bl b) st Q := h
theorem nmP' {i : Nat} {Q : Env → Prop} (h : Q (env.set i (some p))) : nmP i p env Q := h
theorem tp2' {i j : Nat} {x y : PV} {Q : Env → Prop} (e : tupOf p = some [x, y]) (h : Q ((env.set i (some x)).set j (some y))) : tpP 2 (consP (nmP i) (consP (nmP j) nilP)) p env Q := by
  show (match tupOf p with
    | some xs => xs.length = 2 ∧ (consP (nmP i) (consP (nmP j) nilP)) xs env Q
    | none => False)
  rw [e]
  exact ⟨rfl, h⟩
theorem gSkip' {D : GEnds} (h : D.nx env st) : gSkip env st D := h
theorem gBool' {g : GE} {Q : Bool → Sto → Prop} (h : g env st fun p s => match p with
  | .bl b => Q b s
  | _ => False) : gBool g env st Q := h
theorem aE' {g : GE} {a : GA} {Q : List PV → Sto → Prop} (h : g env st fun p s => a env s fun ps s2 => Q (p :: ps) s2) : aCons g a env st Q := h
theorem gLcR1' {a : GA} {t : TP} {c : GT} {g : GE} {vs : List Nat} {Q : QV} (h : a env st fun ps s => match ps with
  | [.int j] => (-(2 ^ 62) ≤ j ∧ j < 2 ^ 62) ∧ ((rngP 0 j.toNat).length ≤ 1000000 ∧ gLcL (fun _ => True) t c g (rngP 0 j.toNat) [] (wipeE env vs) s Q)
  | _ => False) : gLc (gRng1 a) t c g vs env st Q := h
theorem gForR1' {a : GA} {t : TP} {b : GS} {D : GEnds} (h : a env st fun ps s => match ps with
  | [.int j] => (-(2 ^ 62) ≤ j ∧ j < 2 ^ 62) ∧ gForL (fun _ => True) t b (rngP 0 j.toNat) env s D
  | _ => False) : gFor (gRng1 a) t b env st D := h
theorem gLst' {g : GA} {Q : QV} (h : g env st fun xs s1 => fzAll xs s1 fun ys s2 => Q (.lst ys) s2) : gLst g env st Q := h
theorem eTup' {g : GA} {Q : QV} (h : g env st fun xs s1 => fzAll xs s1 fun ys s2 => Q (.tup ys) s2) : eTup g env st Q := h
theorem gC' {Q : QV} (h : Q p st) : gC p env st Q := h
theorem gRevL' {g : GE} {Q : QV} (h : g env st fun x s => ∃ xs, seqL s x = some xs ∧ Q (.lst xs.reverse) s) : gRevL g env st Q := h
theorem gRevT' {g : GE} {Q : QV} (h : g env st fun x s => ∃ xs, tupOf x = some xs ∧ Q (.tup xs.reverse) s) : gRevT g env st Q := h
theorem gSlV' {i : Nat} {l h : GO} {Q : QV} (e : env[i]? = some (some p)) (k : l env st fun lo s2 => h env s2 fun hi s3 => vSl p lo hi s3 Q) : gSl (gVar i) l h env st Q := by
  show gVar i env st (fun x s1 => l env s1 fun lo s2 => h env s2 fun hi s3 => vSl x lo hi s3 Q)
  exact gVar' e k
theorem noPart' {Q : Option Int → Sto → Prop} (h : Q none st) : gNoPart env st Q := h
theorem part' {g : GE} {Q : Option Int → Sto → Prop} (h : g env st fun p s => match p with
  | .int i => Q (some i) s
  | _ => False) : gPart g env st Q := h
theorem partV' {i : Nat} {z : Int} {Q : Option Int → Sto → Prop} (e : env[i]? = some (some (.int z))) (h : Q (some z) st) : gPart (gVar i) env st Q := by
  show gVar i env st (fun p s => match p with
    | .int i => Q (some i) s
    | _ => False)
  exact gVar' e h
theorem gPar' {i j : Nat} {g : GA} {D : GEnds} (h : g env st fun ps s => match ps with
  | [p, q] => D.nx ((env.set i (some p)).set j (some q)) s
  | _ => False) : gPar i j g env st D := h
theorem gForIt' {g : GE} {t : TP} {b : GS} {D : GEnds} (h : g env st fun p s => itemsOf p s fun items gd s => gForL gd t b items env s D) : gFor (gIt g) t b env st D := h
theorem gLstC' {g : GA} {Q : QV} (h : g env st fun xs s1 => fzAll xs s1 fun ys s2 => newCell ys s2 Q) : gLstC g env st Q := h
theorem gTruV' {i : Nat} {Q : Bool → Sto → Prop} (e : env[i]? = some (some p)) (h : tru p st fun b => Q b st) : gTru (gVar i) env st Q := gVar' e h
theorem gNot' {g : GT} {Q : Bool → Sto → Prop} (h : g env st fun b s => Q (!b) s) : gNot g env st Q := h
theorem gOr' {a b : GT} {Q : Bool → Sto → Prop} (h : a env st fun t s => match t with
  | true => Q true s
  | false => b env s Q) : gOr a b env st Q := h
theorem gAnd' {a b : GT} {Q : Bool → Sto → Prop} (h : a env st fun t s => match t with
  | true => b env s Q
  | false => Q false s) : gAnd a b env st Q := h
theorem gRet' {g : GE} {D : GEnds} (h : g env st fun p s => fz p s D.rt) : gRet g env st D := h
theorem gDrop' {g : GE} {D : GEnds} (h : g env st fun _ s => D.nx env s) : gDrop g env st D := h
theorem items_tup {xs : List PV} {R : List PV → (Sto → Prop) → Sto → Prop} (e : tupOf p = some xs) (h : R xs (fun _ => True) st) : itemsOf p st R := by
  cases p with
  | tup ys =>
    cases e
    exact h
  | tq ys =>
    cases e
    exact h
  | _ => cases e
theorem items_cell {a : Addr} {xs : List PV} {R : List PV → (Sto → Prop) → Sto → Prop} (e : st a = some (.lst xs)) (h : R xs (fun s' => s' a = some (.lst xs)) st) : itemsOf (.cell a) st R := by
  show (match st a with
    | some (.lst xs) => R xs (fun s' => s' a = some (.lst xs)) st
    | _ => False)
  rw [e]
  exact h
theorem gLcT' {i : Nat} {xs : List PV} {t : TP} {c : GT} {g : GE} {vs : List Nat} {Q : QV} (e : env[i]? = some (some p)) (e2 : tupOf p = some xs) (h : xs.length ≤ 1000000 ∧ gLcL (fun _ => True) t c g xs [] (wipeE env vs) st Q) : gLc (gIt (gVar i)) t c g vs env st Q := by
  show gVar i env st (fun p s => itemsOf p s fun items gd s => items.length ≤ 1000000 ∧ gLcL gd t c g items [] (wipeE env vs) s Q)
  exact gVar' e (items_tup e2 h)
theorem gForT' {i : Nat} {xs : List PV} {t : TP} {b : GS} {D : GEnds} (e : env[i]? = some (some p)) (e2 : tupOf p = some xs) (h : gForL (fun _ => True) t b xs env st D) : gFor (gIt (gVar i)) t b env st D := by
  show gVar i env st (fun p s => itemsOf p s fun items gd s => gForL gd t b items env s D)
  exact gVar' e (items_tup e2 h)
theorem gLcC' {i : Nat} {a : Addr} {xs : List PV} {t : TP} {c : GT} {g : GE} {vs : List Nat} {Q : QV} (e : env[i]? = some (some (.cell a))) (e2 : st a = some (.lst xs)) (h : xs.length ≤ 1000000 ∧ gLcL (fun s' => s' a = some (.lst xs)) t c g xs [] (wipeE env vs) st Q) : gLc (gIt (gVar i)) t c g vs env st Q := by
  show gVar i env st (fun p s => itemsOf p s fun items gd s => items.length ≤ 1000000 ∧ gLcL gd t c g items [] (wipeE env vs) s Q)
  exact gVar' e (items_cell e2 h)
theorem tru_tup {xs : List PV} {Q : Bool → Prop} (e : tupOf p = some xs) (h : Q !xs.isEmpty) : tru p st Q := by
  cases p with
  | tup ys =>
    cases e
    exact h
  | tq ys =>
    cases e
    exact h
  | _ => cases e
theorem tru_cell {a : Addr} {xs : List PV} {Q : Bool → Prop} (e : st a = some (.lst xs)) (h : Q !xs.isEmpty) : tru (.cell a) st Q := by
  show (match st a with
    | some (.lst xs) => Q !xs.isEmpty
    | _ => False)
  rw [e]
  exact h
theorem extend' {a : Addr} {xs ys : List PV} {Q : QV} (e : st a = some (.lst xs)) (e2 : seqA st p = some ys) (l : xs.length + ys.length ≤ 1000000) (h : Q .non (st.put a (some (.lst (xs ++ ys))))) : fExtend (.cell a) [p] st Q := by
  unfold fExtend
  show (match st a, seqA st p with
    | some (.lst xs), some ys => xs.length + ys.length ≤ 1000000 ∧ Q .non (st.put a (some (.lst (xs ++ ys))))
    | _, _ => False)
  rw [e, e2]
  exact ⟨l, h⟩
end
/-! ### values that are data -/
section
variable {p : PV} {st : Sto} {d : PyData} {ds : List PyData} {xs : List PV}
theorem dat_tupE (e : p.dat = some (.tuple ds)) : ∃ xs, tupOf p = some xs ∧ datAll xs = some ds := by
  cases p with
  | tup ys =>
    obtain ⟨es, e1, e2⟩ := Option.map_eq_some_iff.mp e
    cases e2
    exact ⟨ys, rfl, e1⟩
  | tq ys =>
    obtain ⟨es, e1, e2⟩ := Option.map_eq_some_iff.mp e
    cases e2
    exact ⟨ys, rfl, e1⟩
  | lst ys =>
    obtain ⟨es, e1, e2⟩ := Option.map_eq_some_iff.mp e
    cases e2
  | sq ys =>
    obtain ⟨es, e1, e2⟩ := Option.map_eq_some_iff.mp e
    cases e2
  | _ => cases e
theorem dat_str {z : Str} (e : p.dat = some (.str z)) : p = .str z := by
  cases p with
  | str z => cases e; rfl
  | tup ys => obtain ⟨es, e1, e2⟩ := Option.map_eq_some_iff.mp e; cases e2
  | tq ys => obtain ⟨es, e1, e2⟩ := Option.map_eq_some_iff.mp e; cases e2
  | lst ys => obtain ⟨es, e1, e2⟩ := Option.map_eq_some_iff.mp e; cases e2
  | sq ys => obtain ⟨es, e1, e2⟩ := Option.map_eq_some_iff.mp e; cases e2
  | _ => cases e
theorem dat_int {i : Int} (e : p.dat = some (.int i)) : p = .int i := by
  cases p with
  | int z => cases e; rfl
  | tup ys => obtain ⟨es, e1, e2⟩ := Option.map_eq_some_iff.mp e; cases e2
  | tq ys => obtain ⟨es, e1, e2⟩ := Option.map_eq_some_iff.mp e; cases e2
  | lst ys => obtain ⟨es, e1, e2⟩ := Option.map_eq_some_iff.mp e; cases e2
  | sq ys => obtain ⟨es, e1, e2⟩ := Option.map_eq_some_iff.mp e; cases e2
  | _ => cases e
theorem dat_bl {i : Bool} (e : p.dat = some (.bool i)) : p = .bl i := by
  cases p with
  | bl z => cases e; rfl
  | tup ys => obtain ⟨es, e1, e2⟩ := Option.map_eq_some_iff.mp e; cases e2
  | tq ys => obtain ⟨es, e1, e2⟩ := Option.map_eq_some_iff.mp e; cases e2
  | lst ys => obtain ⟨es, e1, e2⟩ := Option.map_eq_some_iff.mp e; cases e2
  | sq ys => obtain ⟨es, e1, e2⟩ := Option.map_eq_some_iff.mp e; cases e2
  | _ => cases e
/-- a value that is data: no cell, its type, itself in any store -/
theorem dat_any (e : p.dat = some d) : (∀ a, p ≠ .cell a) ∧ tyP p = some (tyD d) ∧ ∀ st, datS st p = some d := by
  have key : ∀ {o : Option (List PyData)} {f : List PyData → PyData} {t : String}, (∀ ds, tyD (f ds) = t) → o.map f = some d → tyD d = t := fun {o f t} h e => by
    obtain ⟨es, _, e2⟩ := Option.map_eq_some_iff.mp e
    rw [← e2, h]
  cases p with
  | non => cases e; exact ⟨(fun _ z => nomatch z), rfl, fun _ => rfl⟩
  | bl _ => cases e; exact ⟨(fun _ z => nomatch z), rfl, fun _ => rfl⟩
  | int _ => cases e; exact ⟨(fun _ z => nomatch z), rfl, fun _ => rfl⟩
  | str _ => cases e; exact ⟨(fun _ z => nomatch z), rfl, fun _ => rfl⟩
  | tup ys => exact ⟨(fun _ z => nomatch z), by rw [key (t := "tuple") (fun _ => rfl) e]; rfl, fun _ => e⟩
  | tq ys => exact ⟨(fun _ z => nomatch z), by rw [key (t := "tuple") (fun _ => rfl) e]; rfl, fun _ => e⟩
  | lst ys => exact ⟨(fun _ z => nomatch z), by rw [key (t := "list") (fun _ => rfl) e]; rfl, fun _ => e⟩
  | sq ys => exact ⟨(fun _ z => nomatch z), by rw [key (t := "list") (fun _ => rfl) e]; rfl, fun _ => e⟩
  | dic _ => cases e
  | cell _ => cases e
  | ob _ => cases e
theorem dat_len : ∀ {xs : List PV} {ds : List PyData}, datAll xs = some ds → xs.length = ds.length
  | [], _, e => by cases e; rfl
  | x :: r, ds, e => by
    rw [datAll] at e
    cases e1 : x.dat with
    | none => rw [e1] at e; cases e
    | some y =>
      cases e2 : datAll r with
      | none => rw [e1, e2] at e; cases e
      | some ys =>
        rw [e1, e2] at e
        cases e
        rw [List.length_cons, List.length_cons, dat_len e2]
theorem dat_cons {x : PV} {r : List PV} (e : datAll (x :: r) = some ds) : ∃ y ys, ds = y :: ys ∧ x.dat = some y ∧ datAll r = some ys := by
  rw [datAll] at e
  cases e1 : x.dat with
  | none => rw [e1] at e; cases e
  | some y =>
    cases e2 : datAll r with
    | none => rw [e1, e2] at e; cases e
    | some ys =>
      rw [e1, e2] at e
      cases e
      exact ⟨y, ys, rfl, rfl, rfl⟩
theorem dat_at : ∀ {xs : List PV} {ds : List PyData} {i : Nat} {x : PV}, datAll xs = some ds → xs[i]? = some x → ∃ d, ds[i]? = some d ∧ x.dat = some d
  | [], _, i, x, e, h => nomatch h
  | y :: r, ds, 0, x, e, h => by
    obtain ⟨d, es, rfl, e1, _⟩ := dat_cons e
    cases h
    exact ⟨d, rfl, e1⟩
  | y :: r, ds, i + 1, x, e, h => by
    obtain ⟨d, es, rfl, _, e2⟩ := dat_cons e
    exact dat_at (i := i) e2 h
theorem dat_at' {i : Nat} (e : datAll xs = some ds) (h : ds[i]? = some d) : ∃ x, xs[i]? = some x ∧ x.dat = some d := by
  have l := dat_len e
  have hi := (List.getElem?_eq_some_iff.mp h).1
  obtain ⟨d', e1, e2⟩ := dat_at e (List.getElem?_eq_getElem (l := xs) (i := i) (by omega))
  rw [h] at e1
  cases e1
  exact ⟨_, List.getElem?_eq_getElem (by omega), e2⟩
theorem dat_pair {a b : PyData} (e : datAll xs = some [a, b]) : ∃ x y, xs = [x, y] ∧ x.dat = some a ∧ y.dat = some b := by
  match xs, dat_len e with
  | [x, y], _ =>
    obtain ⟨d, es, e0, e1, e2⟩ := dat_cons e
    cases e0
    obtain ⟨d, es, e0, e3, e4⟩ := dat_cons e2
    cases e0
    exact ⟨x, y, rfl, e1, e3⟩
theorem dat_app : ∀ {xs ys : List PV} {ds es : List PyData}, datAll xs = some ds → datAll ys = some es → datAll (xs ++ ys) = some (ds ++ es)
  | [], _, _, _, e, h => by
    cases e
    exact h
  | x :: r, ys, ds, es, e, h => by
    obtain ⟨d, fs, rfl, e1, e2⟩ := dat_cons e
    show datAll (x :: (r ++ ys)) = _
    rw [datAll, e1, dat_app e2 h]
    rfl
theorem dat_take : ∀ {xs : List PV} {ds : List PyData} (n : Nat), datAll xs = some ds → datAll (xs.take n) = some (ds.take n)
  | [], _, n, e => by
    cases e
    rw [List.take_nil, List.take_nil]
    rfl
  | x :: r, ds, 0, e => rfl
  | x :: r, ds, n + 1, e => by
    obtain ⟨d, fs, rfl, e1, e2⟩ := dat_cons e
    show datAll (x :: r.take n) = some (d :: fs.take n)
    rw [datAll, e1, dat_take n e2]
theorem dat_drop : ∀ {xs : List PV} {ds : List PyData} (n : Nat), datAll xs = some ds → datAll (xs.drop n) = some (ds.drop n)
  | [], _, n, e => by
    cases e
    rw [List.drop_nil, List.drop_nil]
    rfl
  | x :: r, ds, 0, e => e
  | x :: r, ds, n + 1, e => by
    obtain ⟨d, fs, rfl, e1, e2⟩ := dat_cons e
    exact dat_drop n e2
theorem dat_one {x : PV} (e : x.dat = some d) : datAll [x] = some [d] := by
  rw [datAll, e]
  rfl
theorem dat_rev : ∀ {xs : List PV} {ds : List PyData}, datAll xs = some ds → datAll xs.reverse = some ds.reverse
  | [], _, e => by
    cases e
    rfl
  | x :: r, ds, e => by
    obtain ⟨d, fs, rfl, e1, e2⟩ := dat_cons e
    rw [List.reverse_cons, List.reverse_cons]
    exact dat_app (dat_rev e2) (dat_one e1)
theorem dat_strs : ∀ {zs : List Str} {xs : List PV}, datAll xs = some (zs.map PyData.str) → xs = zs.map PV.str
  | [], xs, e => by
    have l := dat_len e
    exact List.length_eq_zero_iff.mp l
  | z :: r, [], e => by cases e
  | z :: r, x :: xs, e => by
    obtain ⟨d, fs, e0, e1, e2⟩ := dat_cons e
    cases e0
    rw [dat_str e1, dat_strs e2]
    rfl
theorem strs_dat : ∀ zs : List Str, datAll (zs.map PV.str) = some (zs.map PyData.str)
  | [] => rfl
  | z :: r => by
    show datAll (.str z :: r.map PV.str) = _
    rw [datAll, strs_dat r]
    rfl
theorem tup_dat {xs : List PV} (e : tupOf p = some xs) (h : datAll xs = some ds) : p.dat = some (.tuple ds) := by
  cases p with
  | tup ys =>
    cases e
    exact (congrArg (Option.map PyData.tuple) h).trans rfl
  | tq ys =>
    cases e
    exact (congrArg (Option.map PyData.tuple) h).trans rfl
  | _ => cases e
theorem tup_seqA {xs : List PV} (e : tupOf p = some xs) : seqA st p = some xs := by
  cases p with
  | tup ys => cases e; rfl
  | tq ys => cases e; rfl
  | _ => cases e
theorem isiD' {T : String} {b : Bool} {Q : QV} (e : p.dat = some d) (h : kitB (tyD d) T = some b) (q : Q (.bl b) st) : fIsi [p, tyPV T] st Q := isi' (dat_any e).1 (dat_any e).2.1 h q
end
end Ev

namespace K1
open PySem PySem.Spec PyProof.Rows L2 Own Ev
/-! ### templates, as data -/
theorem Fit.deep {d : PyData} (h : Fit d) : deepOk d = true := by
  show (d.canLay0 && decide (d.depth ≤ 150)) = true
  rw [h.lay, decide_eq_true (by have := h.dep; omega)]
  rfl
def strsOf : List PyData → Option (List Str)
  | [] => some []
  | .str z :: r => (strsOf r).map (z :: ·)
  | _ :: _ => none
theorem strsOf_some : ∀ {ds : List PyData} {zs : List Str}, strsOf ds = some zs → ds = zs.map PyData.str
  | [], zs, e => by
    cases e
    rfl
  | .str z :: r, zs, e => by
    obtain ⟨ys, e1, e2⟩ := Option.map_eq_some_iff.mp (show (strsOf r).map (z :: ·) = some zs from e)
    rw [← e2, strsOf_some e1]
    rfl
  | .none :: _, _, e | .bool _ :: _, _, e | .int _ :: _, _, e | .list _ :: _, _, e | .tuple _ :: _, _, e | .dict _ :: _, _, e => nomatch e
theorem strsOf_map : ∀ zs : List Str, strsOf (zs.map PyData.str) = some zs
  | [] => rfl
  | z :: r => by
    show (strsOf (r.map PyData.str)).map (z :: ·) = _
    rw [strsOf_map r]
    rfl
theorem in_strs {ns : List Str} : ∀ {ds : List PyData}, ds.all (inD ns) = true → ∃ zs, strsOf ds = some zs ∧ ∀ z ∈ zs, z ∈ ns
  | [], _ => ⟨[], rfl, fun _ h => nomatch h⟩
  | .str z :: r, e => by
    obtain ⟨e1, e2⟩ := Bool.and_eq_true_iff.mp (show (inD ns (.str z) && r.all (inD ns)) = true from e)
    obtain ⟨zs, h1, h2⟩ := in_strs e2
    refine ⟨z :: zs, by show (strsOf r).map (z :: ·) = _; rw [h1]; rfl, fun y hy => ?_⟩
    rcases List.mem_cons.mp hy with q | q
    · rw [q]
      exact of_decide_eq_true e1
    · exact h2 y q
  | .none :: _, e | .bool _ :: _, e | .int _ :: _, e | .list _ :: _, e | .tuple _ :: _, e | .dict _ :: _, e => by
    have e := (Bool.and_eq_true_iff.mp e).1
    cases e
/-- ascending, none twice -/
def ascB (zs : List Str) : Bool := sortedS zs && decide zs.Nodup
theorem asc_iff {zs ys : List Str} (h : SortedOf zs ys) : decide (zs = ys) = ascB zs := by
  rw [Bool.eq_iff_iff, decide_eq_true_iff, ascB, Bool.and_eq_true_iff, decide_eq_true_iff]
  constructor
  · intro e
    rw [e]
    exact ⟨h.1, h.2.1⟩
  · rintro ⟨so, nd⟩
    exact sorted_one (perm_of (h.2.1) nd h.2.2) so h.1
where
  perm_of {zs ys : List Str} (n1 : ys.Nodup) (n2 : zs.Nodup) (m : ∀ z, z ∈ ys ↔ z ∈ zs) : zs.Perm ys := (List.perm_ext_iff_of_nodup n2 n1).mpr fun z => (m z).symm
def holeB (ns : List Str) : PyData → Bool
  | .tuple [h, .tuple ds] => PyData.eqv h (.str "*") && (!ds.isEmpty && (ds.all (inD ns) && (match strsOf ds with
    | some zs => ascB zs
    | none => false)))
  | _ => false
theorem hole_pair {ns : List Str} : ∀ {d : PyData}, holeB ns d = true → isPairD d = true
  | .tuple [_, .tuple _], _ => rfl
theorem hole_no {ns : List Str} {d : PyData} (h : isPairD d = false) : holeB ns d = false := by
  cases e : holeB ns d with
  | false => rfl
  | true =>
    rw [hole_pair e] at h
    cases h
theorem hole_eq {ns : List Str} {m i : PyData} : holeB ns (.tuple [m, i]) = (PyData.eqv m (.str "*") && match i with
    | .tuple ds => !ds.isEmpty && (ds.all (inD ns) && (match strsOf ds with
      | some zs => ascB zs
      | none => false))
    | _ => false) := by
  cases i with
  | tuple ds => rfl
  | _ =>
    show false = (PyData.eqv m (.str "*") && false)
    rw [Bool.and_false]
def newB (ns : List Str) : PyData → Bool
  | .tuple [h, x] => inD ns h && (isNumD x && PyData.eqv x (.int 0))
  | _ => false
theorem new_no {ns : List Str} {d : PyData} (h : isPairD d = false) : newB ns d = false := by
  cases e : newB ns d with
  | false => rfl
  | true =>
    match d, e with
    | .tuple [_, _], _ => cases h
/-- every node is a group, a hole, a new leaf -/
def tplD (ns : List Str) (d : PyData) : Bool := if isGroupD d = true then (kidsD d).attach.all fun c => tplD ns c.1 else holeB ns d || newB ns d
termination_by ndD d
decreasing_by
  have a := kids_nd d
  have b := nd_mem c.2
  omega
theorem tpl_eq (ns : List Str) (d : PyData) : tplD ns d = if isGroupD d = true then (kidsD d).all (tplD ns) else (holeB ns d || newB ns d) := by
  rw [tplD]
  split
  · rw [Bool.eq_iff_iff, List.all_eq_true, List.all_eq_true]
    exact ⟨fun h c hc => h ⟨c, hc⟩ (List.mem_attach _ _), fun h c _ => h c.1 c.2⟩
  · rfl
/-- the names in a hole -/
def namesB : PyData → List Str
  | .tuple [_, .tuple ds] => (strsOf ds).getD []
  | _ => []
/-- the names in the holes, in order -/
def holesD (ns : List Str) (d : PyData) : List Str := if isGroupD d = true then (kidsD d).attach.flatMap fun c => holesD ns c.1 else if holeB ns d = true then namesB d else []
termination_by ndD d
decreasing_by
  have a := kids_nd d
  have b := nd_mem c.2
  omega
theorem holes_eq (ns : List Str) (d : PyData) : holesD ns d = if isGroupD d = true then (kidsD d).flatMap (holesD ns) else if holeB ns d = true then namesB d else [] := by
  rw [holesD]
  split
  · have e : ∀ (l : List PyData) (f : PyData → List Str), (l.attach.flatMap fun c => f c.1) = l.flatMap f := fun l f => by
      rw [List.flatMap_subtype (g := f) (fun _ _ => rfl)]
      rw [List.unattach_attach]
    exact e _ _
  · rfl
theorem eqvAll_strs : ∀ xs ys : List Str, PyData.eqvAll (xs.map PyData.str) (ys.map PyData.str) = decide (xs = ys)
  | [], [] => rfl
  | [], y :: r => (decide_eq_false (fun z => nomatch z)).symm
  | x :: r, [] => (decide_eq_false (fun z => nomatch z)).symm
  | x :: r, y :: s => by
    show (x == y && PyData.eqvAll (r.map PyData.str) (s.map PyData.str)) = _
    rw [eqvAll_strs r s, Bool.eq_iff_iff, Bool.and_eq_true_iff, decide_eq_true_iff, decide_eq_true_iff, beq_iff_eq, List.cons.injEq]
theorem eqv_strs (xs ys : List Str) : PyData.eqv (.list (xs.map PyData.str)) (.list (ys.map PyData.str)) = decide (xs = ys) := eqvAll_strs xs ys
theorem strs_deep {ss : List Str} (h : ∀ s ∈ ss, Low s) : deepOk (.list (ss.map PyData.str)) = true := by
  obtain ⟨a, b⟩ := strs_lay ss h
  show (PyData.canLayAll0 (ss.map PyData.str) && decide (PyData.depthAll (ss.map PyData.str) + 1 ≤ 150)) = true
  rw [a, b]
  rfl
theorem low_of {zs : List Str} (h : okD (.tuple (zs.map PyData.str)) = true) : ∀ z ∈ zs, Low z := fun z hz => (Bool.and_eq_true_iff.mp (okAll_mem (Bool.and_eq_true_iff.mp h).2 (.str z) (List.mem_map.mpr ⟨z, hz, rfl⟩))).1
section
variable {C : Addr} {ls ls' : List Ln} {T : Tb} {p : PV} {d : PyData} {st : Sto} {Q : QV}
theorem w_hole (e : p.dat = some d) (fit : Fit d) (few : (nms ls).length ≤ 60) (k : Q (.bl (holeB (nms ls) d)) st) : g_hole C [kindsP C ls ls' T, p] st Q := by
  refine g_hole_of ?_
  refine up.of ⟨p, d, rfl, e, fit, ?_⟩
  cases ep : isPairD d with
  | false =>
    rw [hole_no ep] at k
    exact k
  | true =>
    obtain ⟨m, i, rfl⟩ := pair_of ep
    have fm : Fit m := fit.kid (List.mem_cons_self ..)
    have fi : Fit i := fit.kid (List.mem_cons_of_mem _ (List.mem_cons_self ..))
    obtain ⟨xs, e1, e2⟩ := dat_tupE e
    obtain ⟨x, y, rfl, ex, ey⟩ := dat_pair e2
    rw [hole_eq] at k
    refine ix_seq' (tup_seqA e1) rfl ?_
    refine eq_gen' ((dat_any ex).2.2 _) rfl fm.deep (by decide +kernel) ?_
    cases em : PyData.eqv m (.str "*") with
    | false =>
      rw [em] at k
      exact k
    | true =>
      rw [em, Bool.true_and] at k
      refine ix_seq' (tup_seqA e1) rfl ?_
      refine isiD' ey (kt_tuple i) ?_
      cases i with
      | tuple ds =>
        obtain ⟨ys, e3, e4⟩ := dat_tupE ey
        have nc := (dat_any ey).1
        refine ix_seq' (tup_seqA e1) rfl ?_
        refine nmP' ?_
        dsimp only [List.set]
        refine gSeq' (gIf' (gOr' (gNot' ?_)))
        refine gTruV' rfl (tru_tup e3 ?_)
        have l := dat_len e4
        have few2 := fi.few
        have eE : ys.isEmpty = ds.isEmpty := by
          cases ys with
          | nil =>
            have ed : ds = [] := List.length_eq_zero_iff.mp l.symm
            rw [ed]
            rfl
          | cons y0 yr =>
            cases ds with
            | nil => exact absurd l (fun z => nomatch z)
            | cons d0 dr => rfl
        rw [eE]
        cases he : ds.isEmpty with
        | true =>
          have k : Q (.bl (!ds.isEmpty && (ds.all (inD (nms ls)) && (match strsOf ds with
              | some zs => ascB zs
              | none => false)))) st := k
          rw [he] at k
          exact k
        | false =>
            have k2 : Q (.bl (!ds.isEmpty && (ds.all (inD (nms ls)) && (match strsOf ds with
              | some zs => ascB zs
              | none => false)))) st := k
            rw [he, Bool.not_false, Bool.true_and] at k2
            clear k
            rw [show (!!false) = false from rfl]
            refine gNot' ?_
            refine gTru' (gCB1' ?_)
            refine gLcT' rfl e3 ?_
            refine ⟨by rw [dat_len e4]; omega, ?_⟩
            refine lc_by (fun j acc s => s = st ∧ acc = (ds.take j).map fun d => PV.bl (inD (nms ls) d)) (fun _ _ _ _ _ => trivial) ?_ ?_ ⟨rfl, rfl⟩
            · rintro j q acc s hq ⟨rfl, rfl⟩
              obtain ⟨d, hd, eq⟩ := dat_at e4 hq
              refine upP.of (upT.of (upE.of ?_))
              refine inK' ((dat_any eq).2.2 _) ?_
              refine fz_not (fun _ z => nomatch z) ⟨rfl, ?_⟩
              rw [List.take_add_one, hd, List.map_append]
              rfl
            · rintro acc s ⟨rfl, rfl⟩
              rw [dat_len e4, List.take_length]
              refine bools' rfl (bools_map _ ds) ?_
              rw [List.all_map]
              rw [show (_root_.id ∘ inD (nms ls)) = inD (nms ls) from rfl]
              cases ea : ds.all (inD (nms ls)) with
              | false =>
                rw [ea] at k2
                exact k2
              | true =>
                rw [ea, Bool.true_and] at k2
                obtain ⟨zs, hz, mz⟩ := in_strs ea
                rw [hz] at k2
                have eds := strsOf_some hz
                subst eds
                have eys := dat_strs e4
                subst eys
                rw [List.length_map] at few2
                refine list' (tup_seqA e3) ?_
                refine ssetA' (tup_seqA e3) (by omega) few mz fun us hu => ?_
                refine eq_gen' (d := .list (zs.map .str)) (e := .list (us.map .str)) (by show (datAll (zs.map PV.str)).map PyData.list = _; rw [strs_dat]; rfl) (by show (datAll (us.map PV.str)).map PyData.list = _; rw [strs_dat]; rfl) ?_ ?_ ?_
                · exact fi.deep
                · exact strs_deep fun z hz => low_of fi.ok z ((hu.2.2 z).mp hz)
                · rw [eqv_strs, asc_iff hu, Bool.false_xor]
                  exact k2
      | _ =>
        exact k
end
end K1

namespace K1
open PySem PySem.Spec PyProof.Rows L2 Own Ev
def b_istpL (C : Addr) : GS :=
  (gSeq (gAsg (gMt fPop (gVar 2) aNil) (nmP 4))
  (gIf (gTru (gCall ((g_D1 isGroupD)) (aCons (gVar 4) aNil))) (gDrop (gMt fExtend (gVar 2) (aCons (gOp vIx (gVar 4) (gC (.int 1))) aNil))) (gIf (gTru (gCall ((g_hole C)) (aCons (gVar 0) (aCons (gVar 4) aNil)))) (gDrop (gMt fExtend (gVar 3) (aCons (gOp vIx (gVar 4) (gC (.int 1))) aNil))) (gIf (gNot (gTru (gCall ((g_nleaf C)) (aCons (gVar 0) (aCons (gVar 4) aNil))))) (gRet (gC (.bl false))) gSkip))))
theorem names_hole {ns : List Str} {d : PyData} (h : holeB ns d = true) : ∃ m zs, d = .tuple [m, .tuple (zs.map .str)] ∧ namesB d = zs ∧ ∀ z ∈ zs, z ∈ ns := by
  match d, h with
  | .tuple [m, .tuple ds], h =>
    have h1 := (Bool.and_eq_true_iff.mp h).2
    have h2 := (Bool.and_eq_true_iff.mp h1).2
    obtain ⟨zs, hz, mz⟩ := in_strs (Bool.and_eq_true_iff.mp h2).1
    refine ⟨m, zs, by rw [strsOf_some hz], ?_, mz⟩
    show (strsOf ds).getD [] = zs
    rw [hz]
    rfl
section
variable {C : Addr} {ls ls' : List Ln} {T : Tb} {p : PV} {d : PyData} {st : Sto} {Q : QV}
theorem w_nleaf (e : p.dat = some d) (fit : Fit d) (k : Q (.bl (newB (nms ls) d)) st) : g_nleaf C [kindsP C ls ls' T, p] st Q := by
  refine g_nleaf_of ?_
  refine up.of ⟨p, d, rfl, e, fit, ?_⟩
  cases ep : isPairD d with
  | false =>
    rw [new_no ep] at k
    exact k
  | true =>
    obtain ⟨m, i, rfl⟩ := pair_of ep
    have fm : Fit m := fit.kid (List.mem_cons_self ..)
    have fi : Fit i := fit.kid (List.mem_cons_of_mem _ (List.mem_cons_self ..))
    obtain ⟨xs, e1, e2⟩ := dat_tupE e
    obtain ⟨x, y, rfl, ex, ey⟩ := dat_pair e2
    have k : Q (.bl (inD (nms ls) m && (isNumD i && PyData.eqv i (.int 0)))) st := k
    refine ix_seq' (tup_seqA e1) rfl ?_
    refine inK' ((dat_any ex).2.2 _) ?_
    cases em : inD (nms ls) m with
    | false =>
      rw [em] at k
      exact k
    | true =>
      rw [em, Bool.true_and] at k
      refine ix_seq' (tup_seqA e1) rfl ?_
      refine up.of ⟨y, i, rfl, ey, fi, ?_⟩
      cases en : isNumD i with
      | false =>
        rw [en] at k
        exact k
      | true =>
        rw [en, Bool.true_and] at k
        refine ix_seq' (tup_seqA e1) rfl ?_
        refine eq_gen' ((dat_any ey).2.2 _) rfl fi.deep rfl ?_
        rw [Bool.false_xor]
        exact k
theorem holes_group {ns : List Str} {d : PyData} (h : isGroupD d = true) : holesD ns d = (kidsD d).flatMap (holesD ns) := by rw [holes_eq, if_pos h]
theorem holes_hole {ns : List Str} {d : PyData} (h : isGroupD d = false) (g : holeB ns d = true) : holesD ns d = namesB d := by
  rw [holes_eq, if_neg (by rw [h]; exact Bool.false_ne_true), if_pos g]
theorem holes_else {ns : List Str} {d : PyData} (h : isGroupD d = false) (g : holeB ns d = false) : holesD ns d = [] := by
  rw [holes_eq, if_neg (by rw [h]; exact Bool.false_ne_true), if_neg (by rw [g]; exact Bool.false_ne_true)]
theorem tpl_else {ns : List Str} {d : PyData} (h : isGroupD d = false) : tplD ns d = (holeB ns d || newB ns d) := by
  rw [tpl_eq, if_neg (by rw [h]; exact Bool.false_ne_true)]
theorem snoc_cases {α : Type} : ∀ l : List α, l = [] ∨ ∃ a b, l = a ++ [b] := fun l => by
  rcases List.eq_nil_or_concat l with h | ⟨a, b, h⟩
  · exact .inl h
  · exact .inr ⟨a, b, by rw [h, List.concat_eq_append]⟩
/-- the loop -/
theorem w_loop {a b : Addr} {D : Ev.GEnds} (ab : a ≠ b) (few : (nms ls).length ≤ 60) : ∀ (n : Nat) (ds : List PyData) (ps : List PV) (hs : List Str) (v4 : Option PV) (st : Sto), ndAll ds < n → datAll ps = some ds → st a = some (.lst ps) → st b = some (.lst (strP hs)) → (∀ d ∈ ds, Fit d) → hs.length + ndAll ds ≤ 100000 →
    (ds.all (tplD (nms ls)) = true → ∀ hs' v4' st', hs'.Perm (hs ++ ds.flatMap (holesD (nms ls))) → hs'.length ≤ hs.length + ndAll ds → st' b = some (.lst (strP hs')) → (∀ x, x ≠ a → x ≠ b → st' x = st x) → D.nx [some (kindsP C ls ls' T), some p, some (.cell a), some (.cell b), v4'] st') →
    (ds.all (tplD (nms ls)) = false → ∀ st', (∀ x, x ≠ a → x ≠ b → st' x = st x) → D.rt (.bl false) st') → gWh (gTru (gVar 2)) (b_istpL C) n [some (kindsP C ls ls' T), some p, some (.cell a), some (.cell b), v4] st D := by
  intro n
  induction n with
  | zero => exact fun ds ps hs v4 st h => absurd h (Nat.not_lt_zero _)
  | succ n ih =>
    intro ds ps hs v4 st hn e ha hb fits sz k kf
    refine upT.of (gTruV' rfl (tru_cell ha ?_))
    rcases snoc_cases ds with rfl | ⟨es, e0, rfl⟩
    · have ep : ps = [] := List.length_eq_zero_iff.mp (dat_len e)
      subst ep
      exact k rfl hs v4 st (by rw [List.flatMap_nil, List.append_nil]) (Nat.le_add_right _ _) hb fun _ _ _ => rfl
    · have lp := dat_len e
      rw [List.length_append, List.length_singleton] at lp
      rcases snoc_cases ps with rfl | ⟨ws, y, rfl⟩
      · exact absurd lp (fun z => nomatch z)
      rw [List.length_append, List.length_singleton] at lp
      have ews : datAll ws = some es := by
        have q := dat_take ws.length e
        rw [List.take_left, List.take_left' (by omega)] at q
        exact q
      have ey : y.dat = some e0 := by
        have q := dat_drop ws.length e
        rw [List.drop_left, List.drop_left' (by omega)] at q
        obtain ⟨d, fs, e1, e2, _⟩ := dat_cons q
        cases e1
        exact e2
      have f0 : Fit e0 := fits e0 (List.mem_append_right _ (List.mem_cons_self ..))
      have fes : ∀ d ∈ es, Fit d := fun d h => fits d (List.mem_append_left _ h)
      have nd : ndAll (es ++ [e0]) = ndAll es + (ndD e0 + 0) := ndAll_app _ _
      have nA := ndAll_len es
      have lw : ws.length = es.length := dat_len ews
      have all1 : (es ++ [e0]).all (tplD (nms ls)) = (es.all (tplD (nms ls)) && tplD (nms ls) e0) := by
        rw [List.all_append, List.all_cons, List.all_nil, Bool.and_true]
      have fl1 : (es ++ [e0]).flatMap (holesD (nms ls)) = es.flatMap (holesD (nms ls)) ++ holesD (nms ls) e0 := by
        rw [List.flatMap_append, List.flatMap_cons, List.flatMap_nil, List.append_nil]
      rw [show (!(ws ++ [y]).isEmpty) = true from by cases ws <;> rfl]
      refine ⟨_, ?_, ⟨fun _ _ z => z, fun _ _ z => z, fun _ _ z => z, fun _ _ z => z⟩⟩
      refine gSeq' (gAsg' ?_)
      refine gVar' rfl ⟨by rw [seqL_cell ha]; rfl, nilA' (pop' ha (y := y) (by rw [List.length_append, List.length_singleton, Nat.add_sub_cancel, List.getElem?_append_right (Nat.le_refl _), Nat.sub_self]; rfl) ?_)⟩
      rw [List.dropLast_concat]
      have hb1 : (st.put a (some (.lst ws))) b = some (.lst (strP hs)) := by rw [put_ne ab.symm]; exact hb
      have ha1 : (st.put a (some (.lst ws))) a = some (.lst ws) := put_at
      have oth : ∀ x, x ≠ a → x ≠ b → (st.put a (some (.lst ws))) x = st x := fun x n _ => put_ne n
      generalize st.put a (some (.lst ws)) = st1 at ha1 hb1 oth ⊢
      refine nmP' ?_
      dsimp only [List.set]
      refine gIf' (gTru' (gCall' (aVar' rfl (nilA' (up.of ⟨y, e0, rfl, ey, f0, ?_⟩)))))
      cases eg : isGroupD e0 with
      | true =>
        obtain ⟨m, c, r, rfl⟩ := group_of eg
        obtain ⟨xs, e1, e2⟩ := dat_tupE ey
        obtain ⟨x1, x2, rfl, ex1, ex2⟩ := dat_pair e2
        obtain ⟨zs, e3, e4⟩ := dat_tupE ex2
        have ndk : ndAll (c :: r) < ndD (.tuple [m, .tuple (c :: r)]) := kids_nd (.tuple [m, .tuple (c :: r)])
        have nk := ndAll_len (c :: r)
        have lz := dat_len e4
        refine truB' ?_
        refine gDrop' ?_
        refine gVar' rfl ?_
        refine ⟨by rw [seqL_cell ha1]; rfl, ?_⟩
        refine ix_seq' (tup_seqA e1) rfl ?_
        refine nilA' (extend' ha1 (tup_seqA e3) (by omega) ?_)
        have te : tplD (nms ls) (.tuple [m, .tuple (c :: r)]) = (c :: r).all (tplD (nms ls)) := by
          rw [tpl_eq, if_pos eg]
          rfl
        have he : holesD (nms ls) (.tuple [m, .tuple (c :: r)]) = (c :: r).flatMap (holesD (nms ls)) := holes_group eg
        rw [te, ← List.all_append] at all1
        rw [he, ← List.flatMap_append] at fl1
        rw [all1] at k kf
        rw [fl1] at k
        have na := ndAll_app es (c :: r)
        refine ih (es ++ (c :: r)) (ws ++ zs) hs (some y) _ (by omega) (dat_app ews e4) put_at (by rw [put_ne ab.symm]; exact hb1) (fun d h => ?_) (by omega) (fun q hs' v4' st' pm l hb' oth' => k q hs' v4' st' pm (by omega) hb' fun x n1 n2 => by rw [oth' x n1 n2, put_ne n1, oth x n1 n2]) fun q st' oth' => kf q st' fun x n1 n2 => by rw [oth' x n1 n2, put_ne n1, oth x n1 n2]
        rcases List.mem_append.mp h with q | q
        · exact fes d q
        · exact (f0.kid (List.mem_cons_of_mem _ (List.mem_cons_self ..))).kid q
      | false =>
        have te := tpl_else (ns := nms ls) eg
        refine gIf' (gTru' (gCall' (aVar' rfl (aVar' rfl (nilA' (up.of (w_hole ey f0 few ?_)))))))
        cases eh : holeB (nms ls) e0 with
        | true =>
          obtain ⟨m, zs, rfl, ez, mz⟩ := names_hole eh
          obtain ⟨xs, e1, e2⟩ := dat_tupE ey
          obtain ⟨x1, x2, rfl, ex1, ex2⟩ := dat_pair e2
          obtain ⟨us, e3, e4⟩ := dat_tupE ex2
          have eu := dat_strs e4
          subst eu
          have nz : zs.length < ndD (.tuple [m, .tuple (zs.map .str)]) := by
            have a1 : ndAll (zs.map PyData.str) < ndD (.tuple [m, .tuple (zs.map .str)]) := kids_nd (.tuple [m, .tuple (zs.map .str)])
            have a2 := ndAll_len (zs.map PyData.str)
            rw [List.length_map] at a2
            omega
          refine truB' ?_
          refine gDrop' ?_
          refine gVar' rfl ?_
          refine ⟨by rw [seqL_cell hb1]; rfl, ?_⟩
          refine ix_seq' (tup_seqA e1) rfl ?_
          refine nilA' (extend' hb1 (tup_seqA e3) (by rw [List.length_map, List.length_map]; omega) ?_)
          have he := holes_hole eg eh
          rw [ez] at he
          rw [te, eh, Bool.true_or, Bool.and_true] at all1
          rw [he] at fl1
          rw [all1] at k kf
          rw [fl1] at k
          refine ih es ws (hs ++ zs) (some y) _ (by omega) ews (by rw [put_ne ab]; exact ha1) (by rw [put_at, ← List.map_append]) fes (by rw [List.length_append]; omega) (fun q hs' v4' st' pm l hb' oth' => k q hs' v4' st' (pm.trans ?_) (by rw [List.length_append] at l; omega) hb' fun x n1 n2 => by rw [oth' x n1 n2, put_ne n2, oth x n1 n2]) fun q st' oth' => kf q st' fun x n1 n2 => by rw [oth' x n1 n2, put_ne n2, oth x n1 n2]
          rw [List.append_assoc]
          exact List.Perm.append_left hs List.perm_append_comm
        | false =>
          refine gIf' (gNot' (gTru' (gCall' (aVar' rfl (aVar' rfl (nilA' (up.of (w_nleaf ey f0 ?_))))))))
          have np := nd_pos e0
          rw [te, eh, Bool.false_or] at all1
          rw [holes_else eg eh, List.append_nil] at fl1
          rw [fl1] at k
          cases en : newB (nms ls) e0 with
          | true =>
            rw [en, Bool.and_true] at all1
            rw [all1] at k kf
            exact ih es ws hs (some y) _ (by omega) ews ha1 hb1 fes (by omega) (fun q hs' v4' st' pm l hb' oth' => k q hs' v4' st' pm (by omega) hb' fun x n1 n2 => by rw [oth' x n1 n2, oth x n1 n2]) fun q st' oth' => kf q st' fun x n1 n2 => by rw [oth' x n1 n2, oth x n1 n2]
          | false =>
            rw [en, Bool.and_false] at all1
            exact kf all1 _ oth
/-- is_template -/
def tempD (ns : List Str) (d : PyData) : Bool := tplD ns d && decide (holesD ns d).Nodup
theorem w_istp (e : p.dat = some d) (fit : Fit d) (few : (nms ls).length ≤ 60) (sz : ndD d ≤ 4000) (k : ∀ st', (∀ x m, st x = some m → st' x = some m) → Q (.bl (tempD (nms ls) d)) st') : g_istp C [kindsP C ls ls' T, p] st Q := by
  refine g_istp_of ?_
  refine gSeq' (gAsg' ?_)
  refine aVar' rfl (nilA' (fzA_cons (dat_any e).1 (fzNil' ?_)))
  intro a na
  refine nmP' ?_
  dsimp only [List.set]
  refine gSeq' (gAsg' ?_)
  intro b nb
  refine nmP' ?_
  dsimp only [List.set]
  have ab : a ≠ b := fun z => by
    rw [← z, put_at] at nb
    cases nb
  have grow : ∀ (st' : Sto), (∀ x, x ≠ a → x ≠ b → st' x = ((st.put a (some (.lst [p]))).put b (some (.lst []))) x) → ∀ x m, st x = some m → st' x = some m := fun st' h x m hx => by
    have n1 : x ≠ a := fun z => by rw [z, na] at hx; cases hx
    have n2 : x ≠ b := fun z => by
      rw [put_ne (fun q => ab (q.symm.trans rfl))] at nb
      rw [z, nb] at hx
      cases hx
    rw [h x n1 n2, put_ne n2, put_ne n1]
    exact hx
  refine gSeq' ⟨_, w_loop ab few (ndAll [d] + 1) [d] [p] [] none _ (Nat.lt_succ_self _) (dat_one e) (by rw [put_ne ab]; exact put_at) put_at (fun x h => by rw [List.mem_singleton.mp h]; exact fit) (by show 0 + (ndD d + 0) ≤ _; omega) (fun q hs' v4' st' pm l hb' oth => ?_) fun q st' oth => ?_⟩
  · have l : hs'.length ≤ 0 + (ndD d + 0) := l
    rw [List.nil_append, List.flatMap_cons, List.flatMap_nil, List.append_nil] at pm
    rw [List.all_cons, List.all_nil, Bool.and_true] at q
    dsimp only
    refine gRet' (gOp' ?_)
    refine gVar' rfl ?_
    refine lsetA' (seqA_cell hb') (by omega) ?_
    refine gCB1' (gVar' rfl (len_seq' (seqA_cell hb') ?_))
    refine eq_int' ?_
    have e2 : decide ((((hs'.foldl addS []).length : Nat) : Int) = (((hs'.map PV.str).length : Nat) : Int)) = tempD (nms ls) d := by
      rw [tempD, q, Bool.true_and, decide_eq_decide, ← pm.nodup_iff, List.length_map, ← foldS_same]
      omega
    rw [Bool.false_xor, e2]
    exact k st' (grow st' oth)
  · rw [List.all_cons, List.all_nil, Bool.and_true] at q
    have q2 := k st' (grow st' oth)
    rw [tempD, q] at q2
    exact q2
end
end K1

namespace K1
open PySem PySem.Spec PyProof.Rows L2 Own Ev
section
variable {I : Hp → Prop} {P : Program} {w : World} {K : PySem.W.Frag} {mg : Str → Option Value} {base : Heap}
abbrev n_rows : List Str := ["bag", "most", "stem", "first", "found", "k", "bases", "letter", "one", "other"]
theorem sc_rows : FnScope n_rows ["bag", "most"] (defScope sLawRows) := ⟨rfl, rfl, rfl, by decide +kernel, rfl, by decide +kernel, by decide +kernel⟩
def b_rows : GS :=
  (gSeq (gAsg (gOp vIx (gLst (aCons (gC (.str "")) (aCons (gC (.str "k")) (aCons (gC (.str "io")) (aCons (gC (.str "abcdefg")) aNil))))) (gCall (g_draw) (aCons (gVar 0) (aCons (gC (.int 4)) aNil)))) (nmP 2))
  (gSeq (gPar 3 4 (aCons (gCall (g_draw) (aCons (gVar 0) (aCons (gC (.int 26)) aNil))) (aCons (gLstC aNil) aNil)))
  (gSeq (gFor (gRng1 (aCons (gOp vAdd (gC (.int 1)) (gCall (g_draw) (aCons (gVar 0) (aCons (gVar 1) aNil)))) aNil)) (nmP 5) (gSeq (gAsg (gCB fTuple (aCons (gLc (gIt (gVar 4)) (tpP 2 (consP (nmP 8) (consP (nmP 9) nilP))) (gBool (gOp (vEq false) (gCall (g_draw) (aCons (gVar 0) (aCons (gC (.int 3)) aNil))) (gC (.int 0)))) (gVar 8) [8, 9]) aNil)) (nmP 6))
  (gSeq (gAsg (gOp vIx (gC (.str "abcdefghijklmnopqrstuvwxyz")) (gOp (vI (fun _ j => 0 < j) fun i j => .int (i % j)) (gOp vAdd (gVar 3) (gOp (vI CMulW fun i j => .int (i * j)) (gC (.int 7)) (gVar 5))) (gC (.int 26)))) (nmP 7))
  (gDrop (gMt fAppend (gVar 4) (aCons (eTup (aCons (gOp vAdd (gVar 2) (gVar 7)) (aCons (gVar 6) aNil))) aNil))))))
  (gRet (gVar 4)))))
def g_rows : GF := gFun 10 2 (b_rows)
theorem g_rows_of {p0 p1 : PV} {st : Sto} {Q : QV} (h : b_rows [some p0, some p1, none, none, none, none, none, none, none, none] st { nx := fun _ s => Q .non s, rt := Q }) : g_rows [p0, p1] st Q := ⟨rfl, h⟩
theorem ok_rows {f : Addr} {fd : FuncData} (i0 : Inv0 I) (F : Fun K "_law_rows" "_law_rows" sLawRows f fd) (D__law_take : Dfn I P w K mg base "_law_take" 1 ["bag", "many"] (g_draw)) (y_range : mg "range" = none) (y_tuple : mg "tuple" = none) : FnG P w K mg base (2 + 1) f fd ["bag", "most"] (spE I K (gFun 10 2 (b_rows))) :=
  ok_E F sc_rows fun cdv A out s H E hc hr => (ess_cons (es_set (i := 2) sc_rows.nd rfl (Or.inl rfl) (ee_ix (iv_ix (hu_of hr)) (ee_lst i0 (ea_cons ee_str (ea_cons ee_str (ea_cons ee_str (ea_cons ee_str ea_nil))))) (ee_callD D__law_take hc hr (by omega) (by rfl) (ea_cons (ee_var (pv 0)) (ea_cons ee_int ea_nil)))))
      (ess_cons (es_par (i := 3) (j := 4) rfl sc_rows.nd rfl rfl (by decide) rfl rfl (ea_cons (ee_callD D__law_take hc hr (by omega) (by rfl) (ea_cons (ee_var (pv 0)) (ea_cons ee_int ea_nil))) (ea_cons (ee_lstC i0 ea_nil) ea_nil)) (by rfl))
      (ess_cons (es_for i0 PassesOwn.never rfl (ei_range1 (by rfl) y_range (ea_cons (ee_op (ov_add i0) ee_int (ee_callD D__law_take hc hr (by omega) (by rfl) (ea_cons (ee_var (pv 0)) (ea_cons (ee_var (pv 1)) ea_nil)))) ea_nil)) (eg_name (pg_name (i := 5) sc_rows.nd rfl (Or.inl rfl) (hf := Or.inr rfl))) (ess_cons (es_set (i := 6) sc_rows.nd rfl (Or.inl rfl) (ee_callTy (cv_tuple i0) (by rfl) y_tuple (by decide +kernel) (ea_cons (ee_lc (t := (L2.gTup K 2 (L2.gCons (gName 8) (L2.gCons (gName 9) L2.gNil)))) (sl := [8, 9]) (own := [("one", 8), ("other", 9)]) i0 rfl sc_rows.nd (ei_it (ee_var (pv 4))) (blkOk_by (N := n_rows) (sc := defScope sLawRows) (by decide +kernel)) (fun _ _ _ _ _ => (eg_tup rfl (egs_cons (eg_name (pg_name (i := 8) sc_rows.nd rfl (Or.inl rfl) (hf := Or.inr rfl))) (egs_cons (eg_name (pg_name (i := 9) sc_rows.nd rfl (Or.inl rfl) (hf := Or.inr rfl))) egs_nil)))) (fun _ _ _ _ _ => (ets_one (et_cmp (ov_eq hr.units150) (ee_callD D__law_take hc hr (by omega) (by rfl) (ea_cons (ee_var (pv 0)) (ea_cons ee_int ea_nil))) ee_int (nomark _)))) (fun _ _ _ _ _ => (ee_var (pv 8)))) ea_nil)))
      (ess_cons (es_set (i := 7) sc_rows.nd rfl (Or.inl rfl) (ee_ix (iv_ix (hu_of hr)) ee_str (ee_op (ov_mod) (ee_op (ov_add i0) (ee_var (pv 3)) (ee_op (ov_mul) ee_int (ee_var (pv 5)))) ee_int)))
      (ess_one (es_expr (ee_mt PySem.F.slot_list_append PySem.F.type_list_append (mv_append i0) (ee_var (pv 4)) (ea_cons (ee_tup i0 (ea_cons (ee_op (ov_add i0) (ee_var (pv 2)) (ee_var (pv 7))) (ea_cons (ee_var (pv 6)) ea_nil))) ea_nil)))))))
      (ess_one (es_ret (ee_var (pv 4)))))))
abbrev n_tp : List Str := ["bag", "names", "left", "deep", "pick", "children", "many", "turn"]
theorem sc_tp : FnScope n_tp ["bag", "names", "left", "deep"] (defScope sLawTemplate) := ⟨rfl, rfl, rfl, by decide +kernel, rfl, by decide +kernel, by decide +kernel⟩
def b_tp (gr : GF) (lv : Nat) : GS :=
  (gSeq (gAsg (gCall (g_draw) (aCons (gVar 0) (aCons (gC (.int 4)) aNil))) (nmP 4))
  (gSeq (gIf (gAnd (gBool (gOp (vEq false) (gVar 4) (gC (.int 0)))) (gBool (gOp (vEq true) (gVar 2) (gLst aNil)))) (gSeq (gAsg (gOp vAdd (gC (.int 1)) (gCall (g_draw) (aCons (gVar 0) (aCons (gCB fLen (aCons (gVar 2) aNil)) aNil)))) (nmP 6))
  (gRet (eTup (aCons (gC (.str "*")) (aCons (gCB fTuple (aCons (gCB fSortedS (aCons (gLc (gRng1 (aCons (gVar 6) aNil)) (nmP 7) gYes (gMt fPop (gVar 2) (aCons (gCall (g_draw) (aCons (gVar 0) (aCons (gCB fLen (aCons (gVar 2) aNil)) aNil))) aNil)) [7]) aNil)) aNil)) aNil))))) gSkip)
  (gSeq (gIf (gOr (gBool (gOp (vEq false) (gVar 4) (gC (.int 1)))) (gBool (gOp (vEq false) (gVar 3) (gC (.int 0))))) (gRet (eTup (aCons (gOp vIx (gVar 1) (gCall (g_draw) (aCons (gVar 0) (aCons (gCB fLen (aCons (gVar 1) aNil)) aNil)))) (aCons (gC (.int 0)) aNil)))) gSkip)
  (gSeq (gAsg (gLc (gRng1 (aCons (gOp vAdd (gC (.int 1)) (gCall (g_draw) (aCons (gVar 0) (aCons (gC (.int 3)) aNil)))) aNil)) (nmP 7) gYes (gCall (gr) (aCons (gVar 0) (aCons (gVar 1) (aCons (gVar 2) (aCons (gOp (vI (fun _ _ => True) fun i j => .int (i - j)) (gVar 3) (gC (.int 1))) aNil))))) [7]) (nmP 5))
  (gRet (eTup (aCons (gOp vIx (gLst (aCons (gC (.str "")) (aCons (gC (.str "m")) (aCons (gOp vIx (gVar 1) (gC (.int 0))) (aCons (gC (.str "abcdefgh")) aNil))))) (gCall (g_draw) (aCons (gVar 0) (aCons (gC (.int 4)) aNil)))) (aCons (gCB fTuple (aCons (gVar 5) aNil)) aNil))))))))
def g_tp (gr : GF) (lv : Nat) : GF := gFun 8 4 (b_tp gr lv)
theorem g_tp_of {gr : GF} {lv : Nat} {p0 p1 p2 p3 : PV} {st : Sto} {Q : QV} (h : b_tp gr lv [some p0, some p1, some p2, some p3, none, none, none, none] st { nx := fun _ s => Q .non s, rt := Q }) : g_tp gr lv [p0, p1, p2, p3] st Q := ⟨rfl, h⟩
theorem ok_tp {gr : GF} {lv : Nat} {f : Addr} {fd : FuncData} (i0 : Inv0 I) (F : Fun K "_law_template" "_law_template" sLawTemplate f fd) (D__law_take : Dfn I P w K mg base "_law_take" 1 ["bag", "many"] (g_draw)) (D__law_template : Dfn I P w K mg base "_law_template" (lv + 1) ["bag", "names", "left", "deep"] (gr)) (y_len : mg "len" = none) (y_range : mg "range" = none) (y_sorted : mg "sorted" = none) (y_tuple : mg "tuple" = none) : FnG P w K mg base ((lv + 1) + 1) f fd ["bag", "names", "left", "deep"] (spE I K (gFun 8 4 (b_tp gr lv))) :=
  ok_E F sc_tp fun cdv A out s H E hc hr => (ess_cons (es_set (i := 4) sc_tp.nd rfl (Or.inl rfl) (ee_callD D__law_take hc hr (by omega) (by rfl) (ea_cons (ee_var (pv 0)) (ea_cons ee_int ea_nil))))
      (ess_cons (es_if (EW.et (ew_and (et_cmp (ov_eq hr.units150) (ee_var (pv 4)) ee_int (nomark _)) (ew_and1 (et_cmp (ov_ne hr.units150) (ee_var (pv 2)) (ee_lst i0 ea_nil) (nomark _))))) (ess_cons (es_set (i := 6) sc_tp.nd rfl (Or.inl rfl) (ee_op (ov_add i0) ee_int (ee_callD D__law_take hc hr (by omega) (by rfl) (ea_cons (ee_var (pv 0)) (ea_cons (ee_callB cv_len (by rfl) y_len PySem.boot_len (ea_cons (ee_var (pv 2)) ea_nil)) ea_nil)))))
      (ess_one (es_ret (ee_tup i0 (ea_cons ee_str (ea_cons (ee_callTy (cv_tuple i0) (by rfl) y_tuple (by decide +kernel) (ea_cons (ee_callB (cv_sortedS i0) (by rfl) y_sorted (by decide +kernel) (ea_cons (ee_lc (own := [("turn", 7)]) i0 rfl sc_tp.nd (ei_range1 (by rfl) y_range (ea_cons (ee_var (pv 6)) ea_nil)) (blkOk_by (N := n_tp) (sc := defScope sLawTemplate) (by decide +kernel)) (fun _ _ _ _ _ => (eg_name (pg_name (i := 7) sc_tp.nd rfl (Or.inl rfl) (hf := Or.inr rfl)))) (fun _ _ _ _ _ => ets_nil) (fun _ _ _ _ _ => (ee_mt PySem.F.slot_list_pop PySem.F.type_list_pop (mv_pop i0) (ee_var (pv 2)) (ea_cons (ee_callD D__law_take hc hr (by omega) (by rfl) (ea_cons (ee_var (pv 0)) (ea_cons (ee_callB cv_len (by rfl) y_len PySem.boot_len (ea_cons (ee_var (pv 2)) ea_nil)) ea_nil))) ea_nil)))) ea_nil)) ea_nil)) ea_nil)))))) ess_nil)
      (ess_cons (es_if (EW.et (ew_or (et_cmp (ov_eq hr.units150) (ee_var (pv 4)) ee_int (nomark _)) (ew_or1 (et_cmp (ov_eq hr.units150) (ee_var (pv 3)) ee_int (nomark _))))) (ess_one (es_ret (ee_tup i0 (ea_cons (ee_ix (iv_ix (hu_of hr)) (ee_var (pv 1)) (ee_callD D__law_take hc hr (by omega) (by rfl) (ea_cons (ee_var (pv 0)) (ea_cons (ee_callB cv_len (by rfl) y_len PySem.boot_len (ea_cons (ee_var (pv 1)) ea_nil)) ea_nil)))) (ea_cons ee_int ea_nil))))) ess_nil)
      (ess_cons (es_setLc (i := 5) (own := [("turn", 7)]) i0 rfl sc_tp.nd rfl rfl (by rfl) (ei_range1 (by rfl) y_range (ea_cons (ee_op (ov_add i0) ee_int (ee_callD D__law_take hc hr (by omega) (by rfl) (ea_cons (ee_var (pv 0)) (ea_cons ee_int ea_nil)))) ea_nil)) (blkOk_by (N := n_tp) (sc := defScope sLawTemplate) (by decide +kernel)) (fun _ _ _ _ _ => (eg_name (pg_name (i := 7) sc_tp.nd rfl (Or.inl rfl) (hf := Or.inr rfl)))) (fun _ _ _ _ _ => ets_nil) (fun _ _ _ _ _ => (ee_callD D__law_template hc hr (by omega) (by rfl) (ea_cons (ee_var (pv 0)) (ea_cons (ee_var (pv 1)) (ea_cons (ee_var (pv 2)) (ea_cons (ee_op (ov_sub) (ee_var (pv 3)) ee_int) ea_nil)))))))
      (ess_one (es_ret (ee_tup i0 (ea_cons (ee_ix (iv_ix (hu_of hr)) (ee_lst i0 (ea_cons ee_str (ea_cons ee_str (ea_cons (ee_ix (iv_ix (hu_of hr)) (ee_var (pv 1)) ee_int) (ea_cons ee_str ea_nil))))) (ee_callD D__law_take hc hr (by omega) (by rfl) (ea_cons (ee_var (pv 0)) (ea_cons ee_int ea_nil)))) (ea_cons (ee_callTy (cv_tuple i0) (by rfl) y_tuple (by decide +kernel) (ea_cons (ee_var (pv 5)) ea_nil)) ea_nil)))))))))
abbrev n_odd : List Str := ["bag", "names", "some"]
theorem sc_odd : FnScope n_odd ["bag", "names"] (defScope sLawOdd) := ⟨rfl, rfl, rfl, by decide +kernel, rfl, by decide +kernel, by decide +kernel⟩
def b_odd : GS :=
  (gSeq (gAsg (gLst (aCons (gC .non) (aCons (gC (.bl true)) (aCons (gC (.bl false)) (aCons (gC (.int 0)) (aCons (gC (.int 1)) (aCons (gC (.int (-1))) (aCons (gC (.str "")) (aCons (gC (.str "*")) (aCons (gC (.str "A")) (aCons (gC (.str "m")) (aCons (eTup aNil) (aCons (gLst aNil) (aCons (gC (.str "abcdefghi")) (aCons (eTup (aCons (gC (.str "*")) aNil)) (aCons (eTup (aCons (gC (.str "*")) (aCons (eTup aNil) aNil))) (aCons (eTup (aCons (gOp vIx (gVar 1) (gC (.int 0))) (aCons (gC (.int 0)) aNil))) aNil))))))))))))))))) (nmP 2))
  (gSeq (gAsg (gOp vAdd (gVar 2) (gLst (aCons (eTup (aCons (gC (.str "*")) (aCons (eTup (aCons (gOp vIx (gVar 1) (gC (.int 0))) aNil)) aNil))) (aCons (eTup (aCons (gC (.str "*")) (aCons (eTup (aCons (gOp vIx (gVar 1) (gC (.int (-1)))) (aCons (gOp vIx (gVar 1) (gC (.int (-1)))) aNil))) aNil))) (aCons (eTup (aCons (gC (.str "*")) (aCons (gCB fTuple (aCons (gVar 1) aNil)) aNil))) (aCons (eTup (aCons (gC (.str "*")) (aCons (gCB fTuple (aCons (gRevL (gVar 1)) aNil)) aNil))) aNil)))))) (nmP 2))
  (gRet (gOp vIx (gVar 2) (gCall (g_draw) (aCons (gVar 0) (aCons (gC (.int 20)) aNil)))))))
def g_odd : GF := gFun 3 2 (b_odd)
theorem g_odd_of {p0 p1 : PV} {st : Sto} {Q : QV} (h : b_odd [some p0, some p1, none] st { nx := fun _ s => Q .non s, rt := Q }) : g_odd [p0, p1] st Q := ⟨rfl, h⟩
theorem ok_odd {f : Addr} {fd : FuncData} (i0 : Inv0 I) (F : Fun K "_law_odd" "_law_odd" sLawOdd f fd) (D__law_take : Dfn I P w K mg base "_law_take" 1 ["bag", "many"] (g_draw)) (y_tuple : mg "tuple" = none) : FnG P w K mg base (2 + 1) f fd ["bag", "names"] (spE I K (gFun 3 2 (b_odd))) :=
  ok_E F sc_odd fun cdv A out s H E hc hr => (ess_cons (es_set (i := 2) sc_odd.nd rfl (Or.inl rfl) (ee_lst i0 (ea_cons ee_non (ea_cons ee_bl (ea_cons ee_bl (ea_cons ee_int (ea_cons ee_int (ea_cons ee_neg (ea_cons ee_str (ea_cons ee_str (ea_cons ee_str (ea_cons ee_str (ea_cons (ee_tup i0 ea_nil) (ea_cons (ee_lst i0 ea_nil) (ea_cons ee_str (ea_cons (ee_tup i0 (ea_cons ee_str ea_nil)) (ea_cons (ee_tup i0 (ea_cons ee_str (ea_cons (ee_tup i0 ea_nil) ea_nil))) (ea_cons (ee_tup i0 (ea_cons (ee_ix (iv_ix (hu_of hr)) (ee_var (pv 1)) ee_int) (ea_cons ee_int ea_nil))) ea_nil))))))))))))))))))
      (ess_cons (es_set (i := 2) sc_odd.nd rfl (Or.inl rfl) (ee_op (ov_add i0) (ee_var (pv 2)) (ee_lst i0 (ea_cons (ee_tup i0 (ea_cons ee_str (ea_cons (ee_tup i0 (ea_cons (ee_ix (iv_ix (hu_of hr)) (ee_var (pv 1)) ee_int) ea_nil)) ea_nil))) (ea_cons (ee_tup i0 (ea_cons ee_str (ea_cons (ee_tup i0 (ea_cons (ee_ix (iv_ix (hu_of hr)) (ee_var (pv 1)) ee_neg) (ea_cons (ee_ix (iv_ix (hu_of hr)) (ee_var (pv 1)) ee_neg) ea_nil))) ea_nil))) (ea_cons (ee_tup i0 (ea_cons ee_str (ea_cons (ee_callTy (cv_tuple i0) (by rfl) y_tuple (by decide +kernel) (ea_cons (ee_var (pv 1)) ea_nil)) ea_nil))) (ea_cons (ee_tup i0 (ea_cons ee_str (ea_cons (ee_callTy (cv_tuple i0) (by rfl) y_tuple (by decide +kernel) (ea_cons (ee_revL i0 (ee_var (pv 1))) ea_nil)) ea_nil))) ea_nil)))))))
      (ess_one (es_ret (ee_ix (iv_ix (hu_of hr)) (ee_var (pv 2)) (ee_callD D__law_take hc hr (by omega) (by rfl) (ea_cons (ee_var (pv 0)) (ea_cons ee_int ea_nil))))))))
abbrev n_bent : List Str := ["bag", "thing", "at", "pick"]
theorem sc_bent : FnScope n_bent ["bag", "thing"] (defScope sLawBent) := ⟨rfl, rfl, rfl, by decide +kernel, rfl, by decide +kernel, by decide +kernel⟩
def b_bent (gr : GF) (lv : Nat) : GS :=
  (gSeq (gIf (gOr (gNot (gTru (gCB fIsi (aCons (gVar 1) (aCons (gC (tyPV "tuple")) aNil))))) (gOr (gBool (gOp (vEq false) (gVar 1) (eTup aNil))) (gBool (gOp (vEq false) (gCall (g_draw) (aCons (gVar 0) (aCons (gC (.int 5)) aNil))) (gC (.int 0)))))) (gRet (gOp vIx (gLst (aCons (gC .non) (aCons (gC (.bl true)) (aCons (gC (.int 1)) (aCons (gC (.int 0)) (aCons (gC (.str "")) (aCons (gC (.str "*")) (aCons (eTup aNil) (aCons (gC (.str "zzzz")) (aCons (gLst (aCons (gVar 1) aNil)) (aCons (eTup (aCons (gVar 1) aNil)) aNil))))))))))) (gCall (g_draw) (aCons (gVar 0) (aCons (gC (.int 10)) aNil))))) gSkip)
  (gSeq (gPar 2 3 (aCons (gCall (g_draw) (aCons (gVar 0) (aCons (gCB fLen (aCons (gVar 1) aNil)) aNil))) (aCons (gCall (g_draw) (aCons (gVar 0) (aCons (gC (.int 8)) aNil))) aNil)))
  (gSeq (gIf (gBool (gOp (vI (fun _ _ => True) fun i j => .bl (decide (i < j))) (gVar 3) (gC (.int 4)))) (gRet (gOp vIx (gLst (aCons (gOp vAdd (gSl (gVar 1) gNoPart (gPart (gVar 2))) (gSl (gVar 1) (gPart (gOp vAdd (gVar 2) (gC (.int 1)))) gNoPart)) (aCons (gOp vAdd (gSl (gVar 1) gNoPart (gPart (gOp vAdd (gVar 2) (gC (.int 1))))) (gSl (gVar 1) (gPart (gVar 2)) gNoPart)) (aCons (gRevT (gVar 1)) (aCons (gCB fList (aCons (gVar 1) aNil)) aNil))))) (gVar 3))) gSkip)
  (gRet (gOp vAdd (gOp vAdd (gSl (gVar 1) gNoPart (gPart (gVar 2))) (eTup (aCons (gCall (gr) (aCons (gVar 0) (aCons (gOp vIx (gVar 1) (gVar 2)) aNil))) aNil))) (gSl (gVar 1) (gPart (gOp vAdd (gVar 2) (gC (.int 1)))) gNoPart))))))
def g_bent (gr : GF) (lv : Nat) : GF := gFun 4 2 (b_bent gr lv)
theorem g_bent_of {gr : GF} {lv : Nat} {p0 p1 : PV} {st : Sto} {Q : QV} (h : b_bent gr lv [some p0, some p1, none, none] st { nx := fun _ s => Q .non s, rt := Q }) : g_bent gr lv [p0, p1] st Q := ⟨rfl, h⟩
theorem ok_bent {gr : GF} {lv : Nat} {f : Addr} {fd : FuncData} (i0 : Inv0 I) (F : Fun K "_law_bent" "_law_bent" sLawBent f fd) (D__law_bent : Dfn I P w K mg base "_law_bent" (lv + 1) ["bag", "thing"] (gr)) (D__law_take : Dfn I P w K mg base "_law_take" 1 ["bag", "many"] (g_draw)) (y_isinstance : mg "isinstance" = none) (y_len : mg "len" = none) (y_list : mg "list" = none) (y_tuple : mg "tuple" = none) : FnG P w K mg base ((lv + 1) + 1) f fd ["bag", "thing"] (spE I K (gFun 4 2 (b_bent gr lv))) :=
  ok_E F sc_bent fun cdv A out s H E hc hr => (ess_cons (es_if (EW.et (ew_or (et_not (et_tru (ee_callB cv_isi (by rfl) y_isinstance (by decide +kernel) (ea_cons (ee_var (pv 1)) (ea_cons (ee_ty (T := "tuple") (by rfl) y_tuple (by decide +kernel)) ea_nil))))) (ew_or (et_cmp (ov_eq hr.units150) (ee_var (pv 1)) (ee_tup i0 ea_nil) (nomark _)) (ew_or1 (et_cmp (ov_eq hr.units150) (ee_callD D__law_take hc hr (by omega) (by rfl) (ea_cons (ee_var (pv 0)) (ea_cons ee_int ea_nil))) ee_int (nomark _)))))) (ess_one (es_ret (ee_ix (iv_ix (hu_of hr)) (ee_lst i0 (ea_cons ee_non (ea_cons ee_bl (ea_cons ee_int (ea_cons ee_int (ea_cons ee_str (ea_cons ee_str (ea_cons (ee_tup i0 ea_nil) (ea_cons ee_str (ea_cons (ee_lst i0 (ea_cons (ee_var (pv 1)) ea_nil)) (ea_cons (ee_tup i0 (ea_cons (ee_var (pv 1)) ea_nil)) ea_nil))))))))))) (ee_callD D__law_take hc hr (by omega) (by rfl) (ea_cons (ee_var (pv 0)) (ea_cons ee_int ea_nil)))))) ess_nil)
      (ess_cons (es_par (i := 2) (j := 3) rfl sc_bent.nd rfl rfl (by decide) rfl rfl (ea_cons (ee_callD D__law_take hc hr (by omega) (by rfl) (ea_cons (ee_var (pv 0)) (ea_cons (ee_callB cv_len (by rfl) y_len PySem.boot_len (ea_cons (ee_var (pv 1)) ea_nil)) ea_nil))) (ea_cons (ee_callD D__law_take hc hr (by omega) (by rfl) (ea_cons (ee_var (pv 0)) (ea_cons ee_int ea_nil))) ea_nil)) (by rfl))
      (ess_cons (es_if (et_cmp (ov_lt) (ee_var (pv 3)) ee_int (nomark _)) (ess_one (es_ret (ee_ix (iv_ix (hu_of hr)) (ee_lst i0 (ea_cons (ee_op (ov_add i0) (ee_slice i0 (ee_var (pv 1)) eo_none (eo_some (ee_var (pv 2)))) (ee_slice i0 (ee_var (pv 1)) (eo_some (ee_op (ov_add i0) (ee_var (pv 2)) ee_int)) eo_none)) (ea_cons (ee_op (ov_add i0) (ee_slice i0 (ee_var (pv 1)) eo_none (eo_some (ee_op (ov_add i0) (ee_var (pv 2)) ee_int))) (ee_slice i0 (ee_var (pv 1)) (eo_some (ee_var (pv 2))) eo_none)) (ea_cons (ee_revT i0 (ee_var (pv 1))) (ea_cons (ee_callTy (cv_list i0) (by rfl) y_list (by decide +kernel) (ea_cons (ee_var (pv 1)) ea_nil)) ea_nil))))) (ee_var (pv 3))))) ess_nil)
      (ess_one (es_ret (ee_op (ov_add i0) (ee_op (ov_add i0) (ee_slice i0 (ee_var (pv 1)) eo_none (eo_some (ee_var (pv 2)))) (ee_tup i0 (ea_cons (ee_callD D__law_bent hc hr (by omega) (by rfl) (ea_cons (ee_var (pv 0)) (ea_cons (ee_ix (iv_ix (hu_of hr)) (ee_var (pv 1)) (ee_var (pv 2))) ea_nil))) ea_nil))) (ee_slice i0 (ee_var (pv 1)) (eo_some (ee_op (ov_add i0) (ee_var (pv 2)) ee_int)) eo_none)))))))
abbrev n_one : List Str := ["names", "thing", "met", "first", "second", "one", "child", "sign"]
theorem sc_one : FnScope n_one ["names", "thing", "met"] (defScope sLawIsOne) := ⟨rfl, rfl, rfl, by decide +kernel, rfl, by decide +kernel, by decide +kernel⟩
def b_one (gr : GF) (lv : Nat) : GS :=
  (gSeq (gIf (gOr (gNot (gTru (gCB fIsi (aCons (gVar 1) (aCons (gC (tyPV "tuple")) aNil))))) (gOr (gBool (gOp (vEq true) (gCB fLen (aCons (gVar 1) aNil)) (gC (.int 2)))) (gNot (gTru (gCB fIsi (aCons (gOp vIx (gVar 1) (gC (.int 0))) (aCons (gC (tyPV "str")) aNil))))))) (gRet (gC (.bl false))) gSkip)
  (gSeq (gAsg (gVar 1) (tpP 2 (consP (nmP 3) (consP (nmP 4) nilP))))
  (gSeq (gIf (gTru (gCB fIsi (aCons (gVar 4) (aCons (gC (tyPV "int")) aNil)))) (gRet (gAndV (gOp (vEq false) (gCB fRepr (aCons (gVar 4) aNil)) (gC (.str "0"))) (gOp (vIn false) (gVar 3) (gVar 0)))) gSkip)
  (gSeq (gIf (gOr (gNot (gTru (gCB fIsi (aCons (gVar 4) (aCons (gC (tyPV "tuple")) aNil))))) (gBool (gOp (vEq false) (gCB fLen (aCons (gVar 4) aNil)) (gC (.int 0))))) (gRet (gC (.bl false))) gSkip)
  (gSeq (gIf (gBool (gOp (vEq true) (gVar 3) (gC (.str "*")))) (gSeq (gIf (gOr (gBool (gOp (vI (fun _ _ => True) fun i j => .bl (decide (j < i))) (gCB fLen (aCons (gVar 3) aNil)) (gC (.int 8)))) (gBool (gOp (vEq true) (gLc (gIt (gVar 3)) (nmP 7) (gBool (gOp (vInS true) (gVar 7) (gC (.str "abcdefghijklmnopqrstuvwxyz")))) (gVar 7) [7]) (gLst aNil)))) (gRet (gC (.bl false))) gSkip)
  (gRet (gCB (fBools fun bs => bs.all _root_.id) (aCons (gLc (gIt (gVar 4)) (nmP 6) gYes (gCall (gr) (aCons (gVar 0) (aCons (gVar 6) (aCons (gVar 2) aNil)))) [6]) aNil)))) gSkip)
  (gSeq (gFor (gIt (gVar 4)) (nmP 5) (gSeq (gIf (gOr (gNot (gTru (gCB fIsi (aCons (gVar 5) (aCons (gC (tyPV "str")) aNil))))) (gOr (gBool (gOp (vIn true) (gVar 5) (gVar 0))) (gBool (gOp (vIn false) (gVar 5) (gVar 2))))) (gRet (gC (.bl false))) gSkip)
  (gDrop (gMt fAppend (gVar 2) (aCons (gVar 5) aNil)))))
  (gRet (gOp (vEq false) (gCB fList (aCons (gVar 4) aNil)) (gCB fSortedS (aCons (gVar 4) aNil))))))))))
def g_one (gr : GF) (lv : Nat) : GF := gFun 8 3 (b_one gr lv)
theorem g_one_of {gr : GF} {lv : Nat} {p0 p1 p2 : PV} {st : Sto} {Q : QV} (h : b_one gr lv [some p0, some p1, some p2, none, none, none, none, none] st { nx := fun _ s => Q .non s, rt := Q }) : g_one gr lv [p0, p1, p2] st Q := ⟨rfl, h⟩
theorem ok_one {gr : GF} {lv : Nat} {f : Addr} {fd : FuncData} (i0 : Inv0 I) (F : Fun K "_law_is_one" "_law_is_one" sLawIsOne f fd) (D__law_is_one : Dfn I P w K mg base "_law_is_one" (lv + 1) ["names", "thing", "met"] (gr)) (y_all : mg "all" = none) (y_int : mg "int" = none) (y_isinstance : mg "isinstance" = none) (y_len : mg "len" = none) (y_list : mg "list" = none) (y_repr : mg "repr" = none) (y_sorted : mg "sorted" = none) (y_str : mg "str" = none) (y_tuple : mg "tuple" = none) : FnG P w K mg base ((lv + 1) + 1) f fd ["names", "thing", "met"] (spE I K (gFun 8 3 (b_one gr lv))) :=
  ok_E F sc_one fun cdv A out s H E hc hr => (ess_cons (es_if (EW.et (ew_or (et_not (et_tru (ee_callB cv_isi (by rfl) y_isinstance (by decide +kernel) (ea_cons (ee_var (pv 1)) (ea_cons (ee_ty (T := "tuple") (by rfl) y_tuple (by decide +kernel)) ea_nil))))) (ew_or (et_cmp (ov_ne hr.units150) (ee_callB cv_len (by rfl) y_len PySem.boot_len (ea_cons (ee_var (pv 1)) ea_nil)) ee_int (nomark _)) (ew_or1 (et_not (et_tru (ee_callB cv_isi (by rfl) y_isinstance (by decide +kernel) (ea_cons (ee_ix (iv_ix (hu_of hr)) (ee_var (pv 1)) ee_int) (ea_cons (ee_ty (T := "str") (by rfl) y_str (by decide +kernel)) ea_nil))))))))) (ess_one (es_ret ee_bl)) ess_nil)
      (ess_cons (es_asg (ee_var (pv 1)) (eg_tup rfl (egs_cons (eg_name (pg_name (i := 3) sc_one.nd rfl (Or.inl rfl) (hf := Or.inr rfl))) (egs_cons (eg_name (pg_name (i := 4) sc_one.nd rfl (Or.inl rfl) (hf := Or.inr rfl))) egs_nil))))
      (ess_cons (es_if (et_tru (ee_callB cv_isi (by rfl) y_isinstance (by decide +kernel) (ea_cons (ee_var (pv 4)) (ea_cons (ee_ty (T := "int") (by rfl) y_int (by decide +kernel)) ea_nil)))) (ess_one (es_ret (ee_and (ee_cmp (ov_eq hr.units150) (ee_callB (cv_repr hc (hr.mono (by omega))) (by rfl) y_repr (by decide +kernel) (ea_cons (ee_var (pv 4)) ea_nil)) ee_str (nomark _)) (ee_one (ee_cmp (ov_in hr.units (hu_of hr)) (ee_var (pv 3)) (ee_var (pv 0)) (by rfl)))))) ess_nil)
      (ess_cons (es_if (EW.et (ew_or (et_not (et_tru (ee_callB cv_isi (by rfl) y_isinstance (by decide +kernel) (ea_cons (ee_var (pv 4)) (ea_cons (ee_ty (T := "tuple") (by rfl) y_tuple (by decide +kernel)) ea_nil))))) (ew_or1 (et_cmp (ov_eq hr.units150) (ee_callB cv_len (by rfl) y_len PySem.boot_len (ea_cons (ee_var (pv 4)) ea_nil)) ee_int (nomark _))))) (ess_one (es_ret ee_bl)) ess_nil)
      (ess_cons (es_if (et_cmp (ov_ne hr.units150) (ee_var (pv 3)) ee_str (nomark _)) (ess_cons (es_if (EW.et (ew_or (et_cmp (ov_gt) (ee_callB cv_len (by rfl) y_len PySem.boot_len (ea_cons (ee_var (pv 3)) ea_nil)) ee_int (nomark _)) (ew_or1 (et_cmp (ov_ne hr.units150) (ee_lc (own := [("sign", 7)]) i0 rfl sc_one.nd (ei_it (ee_var (pv 3))) (blkOk_by (N := n_one) (sc := defScope sLawIsOne) (by decide +kernel)) (fun _ _ _ _ _ => (eg_name (pg_name (i := 7) sc_one.nd rfl (Or.inl rfl) (hf := Or.inr rfl)))) (fun _ _ _ _ _ => (ets_one (et_cmp (ov_notinS) (ee_var (pv 7)) ee_str (by rfl)))) (fun _ _ _ _ _ => (ee_var (pv 7)))) (ee_lst i0 ea_nil) (nomark _))))) (ess_one (es_ret ee_bl)) ess_nil)
      (ess_one (es_ret (ee_callB (cv_all rfl) (by rfl) y_all (by decide +kernel) (ea_cons (ee_lc (own := [("child", 6)]) i0 rfl sc_one.nd (ei_it (ee_var (pv 4))) (blkOk_by (N := n_one) (sc := defScope sLawIsOne) (by decide +kernel)) (fun _ _ _ _ _ => (eg_name (pg_name (i := 6) sc_one.nd rfl (Or.inl rfl) (hf := Or.inr rfl)))) (fun _ _ _ _ _ => ets_nil) (fun _ _ _ _ _ => (ee_callD D__law_is_one hc hr (by omega) (by rfl) (ea_cons (ee_var (pv 0)) (ea_cons (ee_var (pv 6)) (ea_cons (ee_var (pv 2)) ea_nil)))))) ea_nil))))) ess_nil)
      (ess_cons (es_for i0 PassesOwn.never rfl (ei_it (ee_var (pv 4))) (eg_name (pg_name (i := 5) sc_one.nd rfl (Or.inl rfl) (hf := Or.inr rfl))) (ess_cons (es_if (EW.et (ew_or (et_not (et_tru (ee_callB cv_isi (by rfl) y_isinstance (by decide +kernel) (ea_cons (ee_var (pv 5)) (ea_cons (ee_ty (T := "str") (by rfl) y_str (by decide +kernel)) ea_nil))))) (ew_or (et_cmp (ov_notin hr.units (hu_of hr)) (ee_var (pv 5)) (ee_var (pv 0)) (by rfl)) (ew_or1 (et_cmp (ov_in hr.units (hu_of hr)) (ee_var (pv 5)) (ee_var (pv 2)) (by rfl)))))) (ess_one (es_ret ee_bl)) ess_nil)
      (ess_one (es_expr (ee_mt PySem.F.slot_list_append PySem.F.type_list_append (mv_append i0) (ee_var (pv 2)) (ea_cons (ee_var (pv 5)) ea_nil))))))
      (ess_one (es_ret (ee_cmp (ov_eq hr.units150) (ee_callTy (cv_list i0) (by rfl) y_list (by decide +kernel) (ea_cons (ee_var (pv 4)) ea_nil)) (ee_callB (cv_sortedS i0) (by rfl) y_sorted (by decide +kernel) (ea_cons (ee_var (pv 4)) ea_nil)) (nomark _))))))))))
end
end K1

namespace K1
open PySem PySem.Spec PyProof.Rows L2 Own
/-! ### how long data is when shown -/
mutual
def wsD : PyData → Nat
  | .none => 4
  | .bool _ => 5
  | .int _ => 1921
  | .str z => 10 * z.length + 2
  | .list ds => wsAll ds + 3
  | .tuple ds => wsAll ds + 3
  | .dict _ => 0
def wsAll : List PyData → Nat
  | [] => 0
  | d :: r => wsD d + 2 + wsAll r
end
theorem textFrom_le : ∀ (ts : List Str) (k : Nat) (acc : Str), (textFrom k acc ts).length ≤ acc.length + piled ts
  | [], k, acc => by
    show acc.length ≤ acc.length + 0
    omega
  | t :: r, k, acc => by
    have ih := textFrom_le r (k + 1) (acc ++ (if k > 0 then ", " else "" : String) ++ t)
    rw [Str.length_append, Str.length_append] at ih
    have e : ((if k > 0 then ", " else "" : String) : Str).length ≤ 2 := by split <;> decide
    rw [piled_cons]
    show (textFrom (k + 1) (acc ++ (if k > 0 then ", " else "" : String) ++ t) r).length ≤ _
    omega
theorem listText_le (ts : List Str) : (listText ts).length ≤ piled ts + 2 := by
  unfold listText
  rw [Str.length_append]
  have a := textFrom_le ts 0 "["
  have b : ("[" : Str).length = 1 := rfl
  have c : ("]" : Str).length = 1 := rfl
  omega
theorem tupleText_le (ts : List Str) : (tupleText ts).length ≤ piled ts + 3 := by
  unfold tupleText
  rw [Str.length_append, Str.length_append]
  have b : ("(" : Str).length = 1 := rfl
  have c : ((if ts.length == 1 then ",)" else ")" : String) : Str).length ≤ 2 := by split <;> decide
  by_cases h : ts = []
  · subst h
    have d : (Str.join ", " ([] : List Str)).length = 0 := rfl
    rw [d, piled_nil]
    omega
  · have d := join_length_add ts h
    omega
theorem low_16 {z : Str} (h : PyData.strOk z = true) : ∀ c ∈ z.cps.toList, c < 16 ^ 8 := fun c hc => by
  have q : z.cps.all (· < 0x110000) = true := h
  rw [← Array.all_toList, List.all_eq_true] at q
  have r := of_decide_eq_true (q c hc)
  have e : (16 : Nat) ^ 8 = 4294967296 := by decide
  omega
mutual
theorem shown_le : ∀ d : PyData, okD d = true → d.showable = true → d.shown.length ≤ wsD d
  | .none, _, _ => by decide
  | .bool b, _, _ => by cases b <;> decide
  | .int i, _, h => int_text_len_1921 (of_decide_eq_true h)
  | .str z, h, _ => StrLaws.reprText_len z (low_16 (Bool.and_eq_true_iff.mp h).1)
  | .list ds, h, g => by
    have a := shownAll_le ds (Bool.and_eq_true_iff.mp h).2 g
    have b := listText_le (PyData.shownAll ds)
    show (listText (PyData.shownAll ds)).length ≤ wsAll ds + 3
    omega
  | .tuple ds, h, g => by
    have a := shownAll_le ds (Bool.and_eq_true_iff.mp h).2 g
    have b := tupleText_le (PyData.shownAll ds)
    show (tupleText (PyData.shownAll ds)).length ≤ wsAll ds + 3
    omega
  | .dict _, h, _ => nomatch h
theorem shownAll_le : ∀ ds : List PyData, okAll ds = true → PyData.showableAll ds = true → piled (PyData.shownAll ds) ≤ wsAll ds
  | [], _, _ => Nat.le_refl _
  | d :: r, h, g => by
    obtain ⟨h1, h2⟩ := Bool.and_eq_true_iff.mp (show (okD d && okAll r) = true from h)
    obtain ⟨g1, g2⟩ := Bool.and_eq_true_iff.mp (show (d.showable && PyData.showableAll r) = true from g)
    have a := shown_le d h1 g1
    have b := shownAll_le r h2 g2
    show piled (d.shown :: PyData.shownAll r) ≤ wsD d + 2 + wsAll r
    rw [piled_cons]
    omega
end
mutual
theorem nd_wt : ∀ d : PyData, okD d = true → ndD d ≤ wsD d
  | .none, _ => by decide
  | .bool _, _ => by
    show 1 ≤ 5
    decide
  | .int _, _ => by
    show 1 ≤ 1921
    decide
  | .str z, _ => by
    show 1 ≤ 10 * z.length + 2
    omega
  | .list ds, h => by
    have a := ndAll_wt ds (Bool.and_eq_true_iff.mp h).2
    show ndAll ds + 1 ≤ wsAll ds + 3
    omega
  | .tuple ds, h => by
    have a := ndAll_wt ds (Bool.and_eq_true_iff.mp h).2
    show ndAll ds + 1 ≤ wsAll ds + 3
    omega
  | .dict _, h => nomatch h
theorem ndAll_wt : ∀ ds : List PyData, okAll ds = true → ndAll ds ≤ wsAll ds
  | [], _ => Nat.le_refl _
  | d :: r, h => by
    obtain ⟨h1, h2⟩ := Bool.and_eq_true_iff.mp (show (okD d && okAll r) = true from h)
    have a := nd_wt d h1
    have b := ndAll_wt r h2
    show ndD d + ndAll r ≤ wsD d + 2 + wsAll r
    omega
end
theorem wsAll_app : ∀ a b : List PyData, wsAll (a ++ b) = wsAll a + wsAll b
  | [], b => (Nat.zero_add _).symm
  | d :: r, b => by
    show wsD d + 2 + wsAll (r ++ b) = wsD d + 2 + wsAll r + wsAll b
    rw [wsAll_app r b]
    omega
theorem wsAll_take (ds : List PyData) (n : Nat) : wsAll (ds.take n) ≤ wsAll ds := by
  have q := wsAll_app (ds.take n) (ds.drop n)
  rw [List.take_append_drop] at q
  omega
theorem wsAll_drop (ds : List PyData) (n : Nat) : wsAll (ds.drop n) ≤ wsAll ds := by
  have q := wsAll_app (ds.take n) (ds.drop n)
  rw [List.take_append_drop] at q
  omega
theorem wsAll_rev : ∀ ds : List PyData, wsAll ds.reverse = wsAll ds
  | [] => rfl
  | d :: r => by
    rw [List.reverse_cons, wsAll_app, wsAll_rev r]
    show wsAll r + (wsD d + 2 + 0) = wsD d + 2 + wsAll r
    omega
theorem showAll_of : ∀ {ds : List PyData}, (∀ d ∈ ds, d.showable = true) → PyData.showableAll ds = true
  | [], _ => rfl
  | d :: r, h => by
    show (d.showable && PyData.showableAll r) = true
    rw [h d (List.mem_cons_self ..), showAll_of fun x hx => h x (List.mem_cons_of_mem _ hx)]
    rfl
theorem showAll_mem : ∀ {ds : List PyData}, PyData.showableAll ds = true → ∀ d ∈ ds, d.showable = true
  | [], _, d, h => nomatch h
  | x :: r, e, d, h => by
    obtain ⟨e1, e2⟩ := Bool.and_eq_true_iff.mp (show (x.showable && PyData.showableAll r) = true from e)
    rcases List.mem_cons.mp h with q | q
    · rw [q]
      exact e1
    · exact showAll_mem e2 d q
/-! ### tame data: texts of nine signs at most, numbers from -1 to 1 -/
mutual
def tame : PyData → Bool
  | .none => true
  | .bool _ => true
  | .int i => decide (-1 ≤ i) && decide (i ≤ 1)
  | .str z => PyData.strOk z && decide (z.length ≤ 9)
  | .list ds => tameAll ds
  | .tuple ds => tameAll ds
  | .dict _ => false
def tameAll : List PyData → Bool
  | [] => true
  | d :: r => tame d && tameAll r
end
mutual
theorem tame_ok : ∀ {d : PyData}, tame d = true → ndD d ≤ 1000 → okD d = true
  | .none, _, _ => rfl
  | .bool _, _, _ => rfl
  | .int _, _, _ => rfl
  | .str z, h, _ => by
    obtain ⟨a, b⟩ := Bool.and_eq_true_iff.mp h
    show (PyData.strOk z && decide (z.length ≤ 1000)) = true
    rw [a, decide_eq_true (by have := of_decide_eq_true b; omega)]
    rfl
  | .list ds, h, n => by
    have n : ndAll ds + 1 ≤ 1000 := n
    have l := ndAll_len ds
    show (decide (ds.length ≤ 1000) && okAll ds) = true
    rw [tameAll_ok h (by omega), decide_eq_true (by omega)]
    rfl
  | .tuple ds, h, n => by
    have n : ndAll ds + 1 ≤ 1000 := n
    have l := ndAll_len ds
    show (decide (ds.length ≤ 1000) && okAll ds) = true
    rw [tameAll_ok h (by omega), decide_eq_true (by omega)]
    rfl
  | .dict _, h, _ => nomatch h
theorem tameAll_ok : ∀ {ds : List PyData}, tameAll ds = true → ndAll ds ≤ 1000 → okAll ds = true
  | [], _, _ => rfl
  | d :: r, h, n => by
    obtain ⟨a, b⟩ := Bool.and_eq_true_iff.mp (show (tame d && tameAll r) = true from h)
    have n : ndD d + ndAll r ≤ 1000 := n
    show (okD d && okAll r) = true
    rw [tame_ok a (by omega), tameAll_ok b (by omega)]
    rfl
end
mutual
theorem tame_show : ∀ {d : PyData}, tame d = true → d.showable = true ∧ wsD d + 2 ≤ 2000 * ndD d
  | .none, _ => ⟨rfl, by decide⟩
  | .bool _, _ => ⟨rfl, by show 5 + 2 ≤ 2000 * 1; decide⟩
  | .int i, h => by
    obtain ⟨a, b⟩ := Bool.and_eq_true_iff.mp h
    have a := of_decide_eq_true a
    have b := of_decide_eq_true b
    have c : i = -1 ∨ i = 0 ∨ i = 1 := by omega
    refine ⟨?_, by show 1921 + 2 ≤ 2000 * 1; decide⟩
    rcases c with rfl | rfl | rfl <;> decide +kernel
  | .str z, h => by
    have b := of_decide_eq_true (Bool.and_eq_true_iff.mp h).2
    exact ⟨rfl, by show 10 * z.length + 2 + 2 ≤ 2000 * 1; omega⟩
  | .list ds, h => by
    obtain ⟨a, b⟩ := tameAll_show h
    exact ⟨a, by show wsAll ds + 3 + 2 ≤ 2000 * (ndAll ds + 1); omega⟩
  | .tuple ds, h => by
    obtain ⟨a, b⟩ := tameAll_show h
    exact ⟨a, by show wsAll ds + 3 + 2 ≤ 2000 * (ndAll ds + 1); omega⟩
  | .dict _, h => nomatch h
theorem tameAll_show : ∀ {ds : List PyData}, tameAll ds = true → PyData.showableAll ds = true ∧ wsAll ds ≤ 2000 * ndAll ds
  | [], _ => ⟨rfl, Nat.le_refl _⟩
  | d :: r, h => by
    obtain ⟨a, b⟩ := Bool.and_eq_true_iff.mp (show (tame d && tameAll r) = true from h)
    obtain ⟨s1, l1⟩ := tame_show a
    obtain ⟨s2, l2⟩ := tameAll_show b
    refine ⟨by show (d.showable && PyData.showableAll r) = true; rw [s1, s2]; rfl, ?_⟩
    show wsD d + 2 + wsAll r ≤ 2000 * (ndD d + ndAll r)
    omega
end
theorem tameAll_of : ∀ {ds : List PyData}, (∀ d ∈ ds, tame d = true) → tameAll ds = true
  | [], _ => rfl
  | d :: r, h => by
    show (tame d && tameAll r) = true
    rw [h d (List.mem_cons_self ..), tameAll_of fun x hx => h x (List.mem_cons_of_mem _ hx)]
    rfl
theorem tameAll_mem : ∀ {ds : List PyData}, tameAll ds = true → ∀ d ∈ ds, tame d = true
  | [], _, d, h => nomatch h
  | x :: r, e, d, h => by
    obtain ⟨e1, e2⟩ := Bool.and_eq_true_iff.mp (show (tame x && tameAll r) = true from e)
    rcases List.mem_cons.mp h with q | q
    · rw [q]
      exact e1
    · exact tameAll_mem e2 d q
/-- tame, with at most N values, at most D deep -/
structure Td (N D : Nat) (d : PyData) : Prop where
  t : tame d = true
  n : ndD d ≤ N
  d : d.depth ≤ D
theorem Td.fit {N D : Nat} {d : PyData} (h : Td N D d) (n : N ≤ 1000) (k : D ≤ 60) : Fit d := ⟨tame_ok h.t (Nat.le_trans h.n n), Nat.le_trans h.d k⟩
theorem Td.shown {N D : Nat} {d : PyData} (h : Td N D d) (n : N ≤ 1000) (k : D ≤ 60) : d.showable = true ∧ d.canLay0 = true ∧ d.depth ≤ 100 ∧ d.shown.length ≤ sizeLine := by
  obtain ⟨s, l⟩ := tame_show h.t
  have f := h.fit n k
  have q := shown_le d f.ok s
  have := h.n
  have := h.d
  refine ⟨s, f.lay, by omega, ?_⟩
  rw [sizeLine_eq]
  omega
theorem Td.mono {N D N' D' : Nat} {d : PyData} (h : Td N D d) (n : N ≤ N') (k : D ≤ D') : Td N' D' d := ⟨h.t, Nat.le_trans h.n n, Nat.le_trans h.d k⟩
theorem Td.kid {N D : Nat} {ds : List PyData} (h : Td N (D + 1) (.tuple ds)) {d : PyData} (m : d ∈ ds) : Td (N - 1) D d := by
  have n : ndAll ds + 1 ≤ N := h.n
  have k : PyData.depthAll ds + 1 ≤ D + 1 := h.d
  have a := nd_mem m
  have b := dep_mem m
  exact ⟨tameAll_mem h.t d m, by omega, by omega⟩
end K1

namespace K1
open PySem PySem.Spec PyProof.Rows L2 Own Ev
/-! ### the law's own reading of templates -/
def gIO : Nat → GF
  | 0 => fun _ _ _ => False
  | n + 1 => g_one (gIO n) n
theorem tpl_nt {ns : List Str} {d : PyData} (h : isTupD d = false) : tplD ns d = false := by
  cases d with
  | tuple _ => cases h
  | _ => rw [tpl_else rfl]; rfl
theorem tpl_len {ns : List Str} {ds : List PyData} (h : ds.length ≠ 2) : tplD ns (.tuple ds) = false := by
  have p : isPairD (.tuple ds) = false := decide_eq_false h
  rw [tpl_else (group_no p), hole_no p, new_no p]
  rfl
theorem tpl_ns {ns : List Str} {h x : PyData} (e : isStrD h = false) : tplD ns (.tuple [h, x]) = false := by
  have e1 : msgD h = false := by cases h <;> first | rfl | cases e
  have e2 : PyData.eqv h (.str "*") = false := by cases h <;> first | rfl | cases e
  have e3 : inD ns h = false := by cases h <;> first | rfl | cases e
  have g : isGroupD (.tuple [h, x]) = false := by
    cases x with
    | tuple cs =>
      cases cs with
      | nil => rfl
      | cons c r => exact e1
    | _ => rfl
  rw [tpl_else g, hole_eq, e2, show newB ns (.tuple [h, x]) = (inD ns h && (isNumD x && PyData.eqv x (.int 0))) from rfl, e3]
  rfl
theorem tpl_nt2 {ns : List Str} {h x : PyData} (e : isTupD x = false) : isGroupD (.tuple [h, x]) = false ∧ holeB ns (.tuple [h, x]) = false := by
  cases x with
  | tuple _ => cases e
  | _ => exact ⟨rfl, rfl⟩
theorem int_num {x : PyData} (e : isIntD x = false) : isNumD x = false := by
  cases x <;> first | rfl | cases e
theorem shown_zero {x : PyData} (e : isIntD x = true) (t : tame x = true) : decide (x.shown = "0") = (isNumD x && PyData.eqv x (.int 0)) := by
  cases x with
  | bool b => cases b <;> decide +kernel
  | int i =>
    obtain ⟨a, b⟩ := Bool.and_eq_true_iff.mp t
    have a := of_decide_eq_true a
    have b := of_decide_eq_true b
    have c : i = -1 ∨ i = 0 ∨ i = 1 := by omega
    rcases c with rfl | rfl | rfl <;> decide +kernel
  | _ => cases e
def OneP (ns : List Str) (g : GF) (d : PyData) : Prop := ∀ (p : PV) (ms : List Str) (a : Addr) (st : Sto) (Q : QV), p.dat = some d → st a = some (.lst (strP ms)) → ms.Nodup → ms.length + ndD d ≤ 100000 →
  (∀ b ms' st', (∀ x, x ≠ a → st' x = st x) → st' a = some (.lst (strP ms')) → ms'.Nodup → ms'.length ≤ ms.length + ndD d → b = (tplD ns d && decide (ms ++ holesD ns d).Nodup) → (b = true → ms' = ms ++ holesD ns d) → Q (.bl b) st') → g [.lst (strP ns), p, .cell a] st Q
theorem star_no : msgD (.str "*") = false := by decide +kernel
theorem hole_all {ns : List Str} {m : PyData} {cs : List PyData} (h : holeB ns (.tuple [m, .tuple cs]) = true) : ∀ c ∈ cs, inD ns c = true := by
  have h1 := (Bool.and_eq_true_iff.mp h).2
  have h2 := (Bool.and_eq_true_iff.mp h1).2
  exact fun c hc => List.all_eq_true.mp (Bool.and_eq_true_iff.mp h2).1 c hc
theorem perm_sorted {zs us : List Str} (p : us.Perm zs) (s : sortedS us = true) : decide (zs = us) = sortedS zs := by
  rw [Bool.eq_iff_iff, decide_eq_true_iff]
  exact ⟨fun e => by rw [e]; exact s, fun h => sorted_one p.symm h s⟩
theorem msg_str {f : Str} (h8 : f.length ≤ 8) (h : ∀ c ∈ f.cps.toList, c ∈ abc.cps.toList) : msgD (.str f) = true := by
  show ((f == "") || nameB f) = true
  by_cases e : f = ""
  · rw [e]
    rfl
  · have l1 : 1 ≤ f.length := by
      by_cases z : f.length = 0
      · exact absurd (by
          obtain ⟨cps⟩ := f
          have z : cps.size = 0 := z
          rw [Array.eq_empty_of_size_eq_zero z]
          rfl) e
      · omega
    have n : nameB f = true := by
      unfold nameB
      rw [decide_eq_true l1, decide_eq_true h8, List.all_eq_true.mpr fun c hc => decide_eq_true (h c hc)]
      rfl
    rw [n, Bool.or_true]
theorem msg_no8 {f : Str} (h8 : 8 < f.length) : msgD (.str f) = false := by
  show ((f == "") || nameB f) = false
  have e : (f == "") = false := beq_eq_false_iff_ne.mpr fun e => by
    rw [e] at h8
    exact absurd h8 (by decide)
  have n : nameB f = false := by
    unfold nameB
    rw [decide_eq_false (by omega : ¬ f.length ≤ 8), Bool.false_and, Bool.and_false]
  rw [e, n]
  rfl
theorem msg_noc {f : Str} {c : Nat} (hc : c ∈ f.cps.toList) (h : c ∉ abc.cps.toList) : msgD (.str f) = false := by
  show ((f == "") || nameB f) = false
  have e : (f == "") = false := beq_eq_false_iff_ne.mpr fun e => by
    rw [e] at hc
    cases hc
  have n : nameB f = false := by
    have a : (f.cps.toList.all fun c => decide (c ∈ abc.cps.toList)) = false := by
      rw [Bool.eq_false_iff]
      intro q
      exact h (of_decide_eq_true (List.all_eq_true.mp q c hc))
    unfold nameB
    rw [a, Bool.and_false, Bool.and_false]
  rw [e, n]
  rfl
theorem tpl_nogrp {ns : List Str} {f : Str} {cs : List PyData} (g : isGroupD (.tuple [.str f, .tuple cs]) = false) (es : f ≠ "*") : tplD ns (.tuple [.str f, .tuple cs]) = false := by
  have e : PyData.eqv (.str f) (.str "*") = false := by
    show (f == "*") = false
    exact beq_eq_false_iff_ne.mpr es
  rw [tpl_else g, hole_eq, e, show newB ns (.tuple [.str f, .tuple cs]) = (inD ns (.str f) && (isNumD (.tuple cs) && PyData.eqv (.tuple cs) (.int 0))) from rfl, show isNumD (.tuple cs) = false from rfl, Bool.false_and, Bool.false_and, Bool.and_false]
  rfl
theorem one_step {ns : List Str} {gr : GF} {lv : Nat} {d : PyData} (few : ns.length ≤ 60) (nok : ∀ z ∈ ns, NameOk z) (td : Td 1000 60 d) (rc : ∀ m cs, d = .tuple [m, .tuple cs] → ∀ c ∈ cs, OneP ns gr c) : OneP ns (g_one gr lv) d := by
  intro p ms a st Q e ha nd sz k
  have no : tplD ns d = false → Q (.bl false) st := fun h => k false ms st (fun _ _ => rfl) ha nd (Nat.le_add_right _ _) (by rw [h]; rfl) (fun z => nomatch z)
  refine g_one_of ?_
  refine gSeq' (gIf' (gOr' (gNot' (gTru' (gCB' (aVar' rfl (aC' (nilA' (isiD' e (kt_tuple d) (truB' ?_)))))))))) 
  cases et : isTupD d with
  | false => exact no (tpl_nt et)
  | true =>
    obtain ⟨ds, rfl⟩ : ∃ ds, d = .tuple ds := by
      cases d with
      | tuple ds => exact ⟨ds, rfl⟩
      | _ => cases et
    obtain ⟨xs, e1, e2⟩ := dat_tupE e
    rw [show (!true) = false from rfl]
    refine len_seq' (tup_seqA e1) ?_
    refine eq_int' ?_
    rw [dat_len e2]
    by_cases hl : ds.length = 2
    case neg =>
      rw [decide_eq_false (by omega)]
      exact no (tpl_len hl)
    obtain ⟨h, x, rfl⟩ : ∃ h x, ds = [h, x] := by
      match ds, hl with
      | [h, x], _ => exact ⟨h, x, rfl⟩
    obtain ⟨p1, p2, rfl, ex, ey⟩ := dat_pair e2
    rw [decide_eq_true (by rfl), show xor true true = false from rfl]
    refine gNot' (gTru' (gCB' ?_))
    refine ix_seq' (tup_seqA e1) rfl ?_
    refine aC' (nilA' (isiD' ex (kt_str h) (truB' ?_)))
    cases eh : isStrD h with
    | false => exact no (tpl_ns eh)
    | true =>
    obtain ⟨f, rfl⟩ : ∃ f, h = .str f := by
      cases h with
      | str f => exact ⟨f, rfl⟩
      | _ => cases eh
    obtain rfl := dat_str ex
    have tf : tame (.str f) = true := tameAll_mem td.t _ (List.mem_cons_self ..)
    have tx : tame x = true := tameAll_mem td.t _ (List.mem_cons_of_mem _ (List.mem_cons_self ..))
    have nx : ndD x + 1 ≤ ndD (.tuple [.str f, x]) := by
      show ndD x + 1 ≤ (1 + (ndD x + 0)) + 1
      omega
    have tdx : Td 1000 60 x := ⟨tx, by have := td.n; omega, by
      have := td.d
      have q := dep_mem (ds := [.str f, x]) (d := x) (List.mem_cons_of_mem _ (List.mem_cons_self ..))
      have r : PyData.depthAll [.str f, x] + 1 ≤ 60 := td.d
      omega⟩
    rw [show (!true) = false from rfl]
    refine gSkip' ?_
    dsimp only
    refine gSeq' (gAsg' ?_)
    refine gVar' rfl ?_
    refine tp2' e1 ?_
    dsimp only [List.set]
    refine gSeq' (gIf' (gTru' (gCB' (aVar' rfl (aC' (nilA' (isiD' ey (kt_int x) (truB' ?_))))))))
    cases ei : isIntD x with
    | true =>
      obtain ⟨s1, s2, s3, s4⟩ := tdx.shown (by decide) (by decide)
      have ntx : isTupD x = false := by cases x <;> first | rfl | cases ei
      obtain ⟨ng, nh⟩ := tpl_nt2 (ns := ns) (h := .str f) ntx
      have te : tplD ns (.tuple [.str f, x]) = (decide (f ∈ ns) && (isNumD x && PyData.eqv x (.int 0))) := by
        rw [tpl_else ng, nh]
        rfl
      have he : holesD ns (.tuple [.str f, x]) = [] := holes_else ng nh
      have fin : Q (.bl (decide (x.shown = "0") && decide (f ∈ ns))) st := by
        refine k _ ms st (fun _ _ => rfl) ha nd (Nat.le_add_right _ _) ?_ (fun _ => by rw [he, List.append_nil])
        rw [te, he, List.append_nil, decide_eq_true nd, Bool.and_true, shown_zero ei tx, Bool.and_comm]
      refine gRet' ?_
      refine repr' ((dat_any ey).2.2 _) s1 s2 s3 s4 ?_
      refine eq_str' ?_
      rw [Bool.false_xor]
      cases ez : decide (x.shown = "0") with
      | false =>
        rw [ez] at fin
        exact fin
      | true =>
        rw [ez, Bool.true_and] at fin
        refine in_seq' rfl rfl (flat_strP ns) ?_
        rw [inV_str, Bool.false_xor]
        exact fin
    | false =>
      refine gSkip' ?_
      dsimp only
      refine gSeq' (gIf' (gOr' (gNot' (gTru' (gCB' (aVar' rfl (aC' (nilA' (isiD' ey (kt_tuple x) (truB' ?_))))))))))
      cases etx : isTupD x with
      | false =>
        obtain ⟨ng, nh⟩ := tpl_nt2 (ns := ns) (h := .str f) etx
        refine no ?_
        rw [tpl_else ng, nh, show newB ns (.tuple [.str f, x]) = (inD ns (.str f) && (isNumD x && PyData.eqv x (.int 0))) from rfl, int_num ei, Bool.false_and, Bool.and_false]
        rfl
      | true =>
      obtain ⟨cs, rfl⟩ : ∃ ds, x = .tuple ds := by
        cases x with
        | tuple ds => exact ⟨ds, rfl⟩
        | _ => cases etx
      obtain ⟨ys, e3, e4⟩ := dat_tupE ey
      have ly := dat_len e4
      rw [show (!true) = false from rfl]
      refine len_seq' (tup_seqA e3) ?_
      refine eq_int' ?_
      rw [ly]
      by_cases hc : cs.length = 0
      · rw [decide_eq_true (by omega)]
        have ec : cs = [] := List.length_eq_zero_iff.mp hc
        subst ec
        refine no ?_
        rw [tpl_else rfl, show newB ns (.tuple [.str f, .tuple []]) = (inD ns (.str f) && (isNumD (.tuple []) && PyData.eqv (.tuple []) (.int 0))) from rfl, hole_eq]
        show (PyData.eqv (.str f) (.str "*") && false || inD ns (.str f) && (false && _)) = false
        rw [Bool.and_false, Bool.false_and, Bool.and_false]
        rfl
      rw [decide_eq_false (by omega)]
      have grp : isGroupD (.tuple [.str f, .tuple cs]) = msgD (.str f) := by
        cases cs with
        | nil => exact absurd rfl hc
        | cons c r => rfl
      have nwf : newB ns (.tuple [.str f, .tuple cs]) = false := by
        show (inD ns (.str f) && (false && _)) = false
        rw [Bool.false_and, Bool.and_false]
      have ndc : ndAll cs + 2 ≤ ndD (.tuple [.str f, .tuple cs]) := by
        show ndAll cs + 2 ≤ (1 + ((ndAll cs + 1) + 0)) + 1
        omega
      have nlc := ndAll_len cs
      refine gSkip' ?_
      dsimp only
      refine gSeq' (gIf' (gBool' (gOp' ?_)))
      refine gVar' rfl ?_
      refine eq_str' ?_
      by_cases es : f = "*"
      · subst es
        rw [decide_eq_true rfl, show xor true true = false from rfl]
        rw [star_no] at grp
        have te : tplD ns (.tuple [.str "*", .tuple cs]) = holeB ns (.tuple [.str "*", .tuple cs]) := by rw [tpl_else grp, nwf, Bool.or_false]
        have no2 : ∀ c ∈ cs, inD ns c = false → tplD ns (.tuple [.str "*", .tuple cs]) = false := fun c hc q => by
          rw [te]
          cases eh : holeB ns (.tuple [.str "*", .tuple cs]) with
          | false => rfl
          | true =>
            rw [hole_all eh c hc] at q
            cases q
        refine gSkip' ?_
        dsimp only
        refine gSeq' ?_
        refine gForT' rfl e3 ?_
        refine for_by (fun j env s => ∃ v5 zs, env = [some (.lst (strP ns)), some p, some (.cell a), some (.str "*"), some p2, v5, none, none] ∧ (∀ x, x ≠ a → s x = st x) ∧ s a = some (.lst (strP (ms ++ zs))) ∧ cs.take j = zs.map PyData.str ∧ (∀ z ∈ zs, z ∈ ns) ∧ (ms ++ zs).Nodup) (fun _ _ _ _ _ => trivial) ?_ ?_ ⟨_, [], rfl, (fun _ _ => rfl), by rw [List.append_nil]; exact ha, rfl, (fun _ h => nomatch h), by rw [List.append_nil]; exact nd⟩
        · rintro j q env s hq ⟨v5, zs, rfl, oth, hs, ez, mz, ndz⟩
          obtain ⟨c, hc, eq⟩ := dat_at e4 hq
          have hj := (List.getElem?_eq_some_iff.mp hc).1
          have lz : zs.length = j := by
            have q := congrArg List.length ez
            rw [List.length_take, List.length_map] at q
            omega
          have bad : ∀ (D : Ev.GEnds), D.rt = Q → tplD ns (.tuple [.str "*", .tuple cs]) = false → D.rt (.bl false) s := fun D eD h => by
            rw [eD]
            exact k false (ms ++ zs) s oth hs ndz (by rw [List.length_append]; omega) (by rw [h]; rfl) (fun z => nomatch z)
          have hcm : c ∈ cs := List.mem_of_getElem? hc
          refine nmP' ?_
          dsimp only [List.set]
          refine gSeq' (gIf' (gOr' (gNot' (gTru' (gCB' (aVar' rfl (aC' (nilA' (isiD' eq (kt_str c) (truB' ?_))))))))))
          cases ec : isStrD c with
          | false =>
            refine bad _ rfl (no2 c hcm ?_)
            cases c <;> first | rfl | cases ec
          | true =>
            obtain ⟨z, rfl⟩ : ∃ z, c = .str z := by
              cases c with
              | str z => exact ⟨z, rfl⟩
              | _ => cases ec
            obtain rfl := dat_str eq
            rw [show (!true) = false from rfl]
            refine gOr' (gBool' (gOp' ?_))
            refine gVar' rfl ?_
            refine gVar' rfl ?_
            refine in_seq' rfl rfl (flat_strP ns) ?_
            rw [inV_str]
            by_cases hz : z ∈ ns
            case neg =>
              rw [decide_eq_false hz, show xor true false = true from rfl]
              exact bad _ rfl (no2 _ hcm (decide_eq_false hz))
            rw [decide_eq_true hz, show xor true true = false from rfl]
            refine gBool' (gOp' ?_)
            refine gVar' rfl ?_
            refine gVar' rfl ?_
            refine in_seq' (seqA_cell hs) rfl (flat_strP _) ?_
            rw [inV_str, Bool.false_xor]
            by_cases hd : z ∈ ms ++ zs
            · rw [decide_eq_true hd]
              refine k false (ms ++ zs) s oth hs ndz (by rw [List.length_append]; omega) ?_ (fun z => nomatch z)
              rw [te]
              cases eh : holeB ns (.tuple [.str "*", .tuple cs]) with
              | false => rfl
              | true =>
                obtain ⟨m, Z, e0, eZ, _⟩ := names_hole eh
                rw [holes_hole grp eh, eZ, Bool.true_and]
                refine (decide_eq_false fun q => ?_).symm
                have e0 : cs = Z.map PyData.str := PyData.tuple.inj (List.cons.inj (List.cons.inj (PyData.tuple.inj e0)).2).1
                have e6 : zs = Z.take j := by
                  rw [e0, ← List.map_take] at ez
                  have inj : ∀ {a b : List Str}, a.map PyData.str = b.map PyData.str → a = b := fun {a b} h => Option.some.inj (by rw [← strsOf_map a, h, strsOf_map b])
                  exact (inj ez).symm
                have e7 : Z[j]? = some z := by
                  rw [e0, List.getElem?_map] at hc
                  obtain ⟨y, hy, e8⟩ := Option.map_eq_some_iff.mp hc
                  rw [hy, PyData.str.inj e8]
                have e8 : ms ++ Z = (ms ++ zs) ++ Z.drop j := by rw [e6, List.append_assoc, List.take_append_drop]
                rw [e8] at q
                refine (List.nodup_append.mp q).2.2 z hd z ?_ rfl
                have hjZ := (List.getElem?_eq_some_iff.mp e7).1
                rw [List.drop_eq_getElem_cons hjZ]
                have e9 : Z[j] = z := (List.getElem?_eq_some_iff.mp e7).2
                rw [e9]
                exact List.mem_cons_self ..
            · rw [decide_eq_false hd]
              refine gSkip' ?_
              dsimp only
              refine gDrop' ?_
              refine gVar' rfl ?_
              refine ⟨by rw [seqL_cell hs]; rfl, ?_⟩
              refine aVar' rfl (nilA' ?_)
              refine append' (fun _ z => nomatch z) hs (by rw [List.length_map, List.length_append]; omega) ?_
              refine ⟨_, zs ++ [z], rfl, fun x n => by rw [put_ne n, oth x n], ?_, ?_, fun y hy => ?_, ?_⟩
              · rw [put_at, ← List.append_assoc]
                exact congrArg (fun l => some (MO.lst l)) (List.map_append (f := PV.str) (l₁ := ms ++ zs) (l₂ := [z])).symm
              · rw [List.take_add_one, hc, ez, List.map_append]
                rfl
              · rcases List.mem_append.mp hy with q | q
                · exact mz y q
                · rw [List.mem_singleton.mp q]
                  exact hz
              · rw [← List.append_assoc]
                exact List.nodup_append.mpr ⟨ndz, by simp, fun x hx y hy e => by
                  rw [List.mem_singleton.mp hy] at e
                  rw [e] at hx
                  exact hd hx⟩
        · rintro env s ⟨v5, zs, rfl, oth, hs, ez, mz, ndz⟩
          rw [ly, List.take_length] at ez
          subst ez
          have eys := dat_strs e4
          subst eys
          have ndzs : zs.Nodup := (List.nodup_append.mp ndz).2.1
          have lzs := nodup_len ndzs mz
          have lz : (zs.map PyData.str).length = zs.length := List.length_map _
          have low : ∀ z ∈ zs, Low z := fun z hz => name_low (nok z (mz z hz))
          dsimp only
          refine gRet' (gOp' ?_)
          refine gCB1' (gVar' rfl (list' (tup_seqA e3) ?_))
          refine gCB1' (gVar' rfl (sortedS' (tup_seqA e3) (by omega) fun us pm so => ?_))
          refine eq_gen' (d := .list (zs.map .str)) (e := .list (us.map .str)) (by show (datAll (zs.map PV.str)).map PyData.list = _; rw [strs_dat]; rfl) (by show (datAll (us.map PV.str)).map PyData.list = _; rw [strs_dat]; rfl) (strs_deep low) (strs_deep fun z hz => low z (pm.mem_iff.mp hz)) ?_
          rw [eqv_strs, perm_sorted pm so, Bool.false_xor]
          refine fz_not (fun _ z => nomatch z) ?_
          have eho : holeB ns (.tuple [.str "*", .tuple (zs.map .str)]) = sortedS zs := by
            have ne : (!(zs.map PyData.str).isEmpty) = true := by
              cases zs with
              | nil => exact absurd rfl hc
              | cons _ _ => rfl
            have al : (zs.map PyData.str).all (inD ns) = true := List.all_eq_true.mpr fun c hc => by
              obtain ⟨z, hz, rfl⟩ := List.mem_map.mp hc
              exact decide_eq_true (mz z hz)
            show (PyData.eqv (.str "*") (.str "*") && (!(zs.map PyData.str).isEmpty && ((zs.map PyData.str).all (inD ns) && (match strsOf (zs.map PyData.str) with
              | some zs => ascB zs
              | none => false)))) = _
            rw [ne, al, strsOf_map, show PyData.eqv (.str "*") (.str "*") = true from by decide +kernel]
            show ascB zs = _
            rw [ascB, decide_eq_true ndzs, Bool.and_true]
          refine k _ (ms ++ zs) s oth hs ndz (by rw [List.length_append]; omega) ?_ fun q => ?_
          · rw [te, eho]
            cases es : sortedS zs with
            | false => rfl
            | true =>
              rw [es] at eho
              rw [holes_hole grp eho]
              show true = (true && decide (ms ++ (strsOf (zs.map PyData.str)).getD []).Nodup)
              rw [strsOf_map]
              exact (decide_eq_true ndz).symm
          · rw [q] at eho
            rw [holes_hole grp eho]
            show _ = ms ++ (strsOf (zs.map PyData.str)).getD []
            rw [strsOf_map]
            rfl
      · rw [decide_eq_false es, show xor true false = true from rfl]
        have f9 := of_decide_eq_true (Bool.and_eq_true_iff.mp tf).2
        refine gSeq' (gIf' (gOr' (gBool' (gOp' (gCB1' ?_)))))
        refine gVar' rfl ?_
        refine len_str' (by omega) ?_
        refine int' trivial ?_
        by_cases c8 : 8 < f.length
        · rw [decide_eq_true (by omega)]
          rw [msg_no8 c8] at grp
          exact no (tpl_nogrp grp es)
        rw [decide_eq_false (by omega)]
        refine gBool' (gOp' ?_)
        refine gLcIt' ?_
        refine gVar' rfl ?_
        refine ⟨by rw [List.length_map, ← len_list]; omega, ?_⟩
        refine lc_flt (fun c => PV.str ⟨#[c]⟩) f.cps.toList (fun c => !decide (c ∈ abc.cps.toList)) (fun c => .str ⟨#[c]⟩) trivial (fun c hc => ?_) ?_
        · refine nmP' ?_
          dsimp only [List.set, wipeE]
          refine gBool' (gOp' ?_)
          refine gVar' rfl ?_
          refine inS' ?_
          refine ⟨by rw [Bool.true_xor]; rfl, rfl, fun _ => ?_⟩
          refine gVar' rfl ?_
          exact fz_not (fun _ z => nomatch z) ⟨rfl, rfl⟩
        · have low : ∀ z ∈ (f.cps.toList.filter fun c => !decide (c ∈ abc.cps.toList)).map (fun c => (⟨#[c]⟩ : Str)), Low z := fun z hz => by
            obtain ⟨c, hc, rfl⟩ := List.mem_map.mp hz
            have q : f.cps.all (· < 0x110000) = true := (Bool.and_eq_true_iff.mp tf).1
            rw [← Array.all_toList, List.all_eq_true] at q
            have r := q c (List.mem_filter.mp hc).1
            show (#[c] : Array Nat).all (· < 0x110000) = true
            rw [← Array.all_toList]
            show (decide (c < 0x110000) && true) = true
            rw [r]
            rfl
          refine eq_gen' (d := .list (((f.cps.toList.filter fun c => !decide (c ∈ abc.cps.toList)).map (fun c => (⟨#[c]⟩ : Str))).map .str)) (e := .list (([] : List Str).map .str)) ?_ rfl (strs_deep low) rfl ?_
          · show (datAll ((f.cps.toList.filter fun c => !decide (c ∈ abc.cps.toList)).map fun c => PV.str ⟨#[c]⟩)).map PyData.list = _
            have e : ((f.cps.toList.filter fun c => !decide (c ∈ abc.cps.toList)).map fun c => PV.str ⟨#[c]⟩) = ((f.cps.toList.filter fun c => !decide (c ∈ abc.cps.toList)).map (fun c => (⟨#[c]⟩ : Str))).map PV.str := by
              rw [List.map_map]
              rfl
            rw [e, strs_dat]
            rfl
          rw [eqv_strs]
          by_cases good : ∀ c ∈ f.cps.toList, c ∈ abc.cps.toList
          case neg =>
            obtain ⟨c, hc, nc⟩ : ∃ c, c ∈ f.cps.toList ∧ c ∉ abc.cps.toList := Classical.byContradiction fun q => good fun c hc => Classical.byContradiction fun nc => q ⟨c, hc, nc⟩
            rw [decide_eq_false (fun q => by
              have m : c ∈ f.cps.toList.filter fun c => !decide (c ∈ abc.cps.toList) := List.mem_filter.mpr ⟨hc, by rw [decide_eq_false nc]; rfl⟩
              rw [List.map_eq_nil_iff.mp q] at m
              cases m), show xor true false = true from rfl]
            rw [msg_noc hc nc] at grp
            exact no (tpl_nogrp grp es)
          have ef : (f.cps.toList.filter fun c => !decide (c ∈ abc.cps.toList)) = [] := List.filter_eq_nil_iff.mpr fun c hc => by
            rw [decide_eq_true (good c hc)]
            exact Bool.false_ne_true
          rw [ef, List.map_nil, decide_eq_true rfl, show xor true true = false from rfl]
          rw [msg_str (by omega) good] at grp
          have te : tplD ns (.tuple [.str f, .tuple cs]) = cs.all (tplD ns) := by
            rw [tpl_eq, if_pos grp]
            rfl
          have he : holesD ns (.tuple [.str f, .tuple cs]) = cs.flatMap (holesD ns) := holes_group grp
          refine gSkip' ?_
          dsimp only
          refine gRet' (gCB1' ?_)
          refine gLcT' rfl e3 ?_
          refine ⟨by omega, ?_⟩
          refine lc_by (fun j acc s => ∃ bs mj, acc = bs.map PV.bl ∧ (∀ x, x ≠ a → s x = st x) ∧ s a = some (.lst (strP mj)) ∧ mj.Nodup ∧ mj.length ≤ ms.length + ndAll (cs.take j) ∧ bs.all _root_.id = ((cs.take j).all (tplD ns) && decide (ms ++ (cs.take j).flatMap (holesD ns)).Nodup) ∧ (bs.all _root_.id = true → mj = ms ++ (cs.take j).flatMap (holesD ns))) (fun _ _ _ _ _ => trivial) ?_ ?_ ⟨[], ms, rfl, (fun _ _ => rfl), ha, nd, Nat.le_add_right _ _, ?_, fun _ => ?_⟩
          · rintro j q acc s hq ⟨bs, mj, rfl, oth, hs, ndj, lj, ebs, emj⟩
            obtain ⟨c, hc, eq⟩ := dat_at e4 hq
            have hcm : c ∈ cs := List.mem_of_getElem? hc
            have tk : cs.take (j + 1) = cs.take j ++ [c] := by
              rw [List.take_add_one, hc]
              rfl
            have nt : ndAll (cs.take (j + 1)) = ndAll (cs.take j) + (ndD c + 0) := by
              rw [tk, ndAll_app]
              rfl
            have nle : ndAll (cs.take (j + 1)) ≤ ndAll cs := by
              have q := ndAll_app (cs.take (j + 1)) (cs.drop (j + 1))
              rw [List.take_append_drop] at q
              omega
            refine upP.of (upT.of (upE.of ?_))
            refine gCall' (aVar' rfl (aVar' rfl (aVar' rfl (nilA' (up.of ?_)))))
            refine rc _ cs rfl c hcm q mj a s _ eq hs ndj (by omega) fun b m' s' oth' hs' nd' l' eb em => ?_
            refine fz_not (fun _ z => nomatch z) ?_
            have key : (bs ++ [b]).all _root_.id = ((cs.take (j + 1)).all (tplD ns) && decide (ms ++ (cs.take (j + 1)).flatMap (holesD ns)).Nodup) := by
              rw [List.all_append, List.all_cons, List.all_nil, Bool.and_true, tk, List.all_append, List.all_cons, List.all_nil, Bool.and_true, List.flatMap_append, List.flatMap_cons, List.flatMap_nil, List.append_nil, ← List.append_assoc]
              show (bs.all _root_.id && b) = _
              cases eA : bs.all _root_.id with
              | true =>
                rw [eA] at ebs
                have e1 := (Bool.and_eq_true_iff.mp ebs.symm).1
                rw [e1, eb, emj eA, Bool.true_and, Bool.true_and]
              | false =>
                rw [eA] at ebs
                rw [Bool.false_and]
                refine (Bool.eq_false_iff.mpr fun q => ?_).symm
                obtain ⟨q1, q2⟩ := Bool.and_eq_true_iff.mp q
                have q3 := (Bool.and_eq_true_iff.mp q1).1
                have q4 := (List.nodup_append.mp (of_decide_eq_true q2)).1
                rw [q3, decide_eq_true q4] at ebs
                cases ebs
            refine ⟨bs ++ [b], m', by rw [List.map_append]; rfl, fun x n => by rw [oth' x n, oth x n], hs', nd', by omega, key, fun q => ?_⟩
            rw [List.all_append, List.all_cons, List.all_nil, Bool.and_true] at q
            obtain ⟨q1, q2⟩ := Bool.and_eq_true_iff.mp q
            rw [em q2, emj q1, tk, List.flatMap_append, List.flatMap_cons, List.flatMap_nil, List.append_nil, ← List.append_assoc]
          · rintro acc s ⟨bs, mj, rfl, oth, hs, ndj, lj, ebs, emj⟩
            rw [ly, List.take_length] at ebs emj lj
            refine bools' rfl (by have q := bools_map (fun b => b) bs; rw [List.map_id'] at q; exact q) (fz_not (fun _ z => nomatch z) (k _ mj s oth hs ndj (by omega) ?_ fun q => ?_))
            · rw [te, he]
              exact ebs
            · rw [he]
              exact emj q
          · rw [List.take_zero, List.flatMap_nil, List.append_nil, decide_eq_true nd]
            rfl
          · rw [List.take_zero, List.flatMap_nil, List.append_nil]
theorem w_one {ns : List Str} (few : ns.length ≤ 60) (nok : ∀ z ∈ ns, NameOk z) : ∀ (n : Nat) (d : PyData), Td 1000 60 d → d.depth ≤ n → OneP ns (gIO (n + 1)) d := by
  intro n
  induction n with
  | zero =>
    intro d td dd
    exact one_step few nok td fun m cs e c hc => by
      rw [e] at dd
      have q : PyData.depthAll [m, .tuple cs] + 1 ≤ 0 := dd
      omega
  | succ n ih =>
    intro d td dd
    refine one_step few nok td fun m cs e c hc => ?_
    subst e
    have q : PyData.depthAll [m, .tuple cs] + 1 ≤ n + 1 := dd
    have q1 := dep_mem (ds := [m, .tuple cs]) (d := .tuple cs) (List.mem_cons_of_mem _ (List.mem_cons_self ..))
    have q2 : PyData.depthAll cs + 1 ≤ (PyData.tuple cs).depth := Nat.le_refl _
    have q3 := dep_mem hc
    have t1 : Td (1000 - 1) 59 (.tuple cs) := td.kid (List.mem_cons_of_mem _ (List.mem_cons_self ..))
    have t2 : Td (1000 - 1 - 1) 58 c := t1.kid hc
    exact ih c (t2.mono (by decide) (by decide)) (by omega)
end K1

namespace K1
open PySem PySem.Spec PyProof.Rows L2 Own Ev
/-! ### rows drawn -/
def Grow (st st' : Sto) : Prop := ∀ x m, st x = some m → st' x = some m
theorem Grow.refl (st : Sto) : Grow st st := fun _ _ h => h
theorem Grow.trans {a b c : Sto} (h : Grow a b) (g : Grow b c) : Grow a c := fun x m e => g x m (h x m e)
theorem Grow.new {st st' : Sto} {a : Addr} {m : Option MO} (h : Grow st st') (n : st a = none) : Grow st (st'.put a m) := fun x k e => by
  rw [put_ne (fun z => by rw [z, n] at e; cases e)]
  exact h x k e
/-- what may be drawn from a written list -/
theorem draw_at {xs : List PV} {R : PV → Prop} (h : ∀ x ∈ xs, R x) {d : Int} (d0 : 0 ≤ d) (d1 : d < xs.length) : ∃ p, atI xs d = some p ∧ R p := by
  obtain ⟨k, rfl⟩ : ∃ k : Nat, d = (k : Int) := ⟨d.toNat, by omega⟩
  have hk : k < xs.length := by omega
  exact ⟨xs[k], atI_nat (List.getElem?_eq_getElem hk), h _ (List.getElem_mem _)⟩
theorem rng_at {lo : Int} {n i : Nat} {p : PV} (h : (rngP lo n)[i]? = some p) : p = .int (lo + i) ∧ i < n := by
  unfold rngP at h
  rw [List.getElem?_map] at h
  obtain ⟨k, hk, e⟩ := Option.map_eq_some_iff.mp h
  obtain ⟨hi, ek⟩ := List.getElem?_eq_some_iff.mp hk
  rw [List.length_range] at hi
  rw [List.getElem_range] at ek
  subst ek
  exact ⟨e.symm, hi⟩
def Stem (z : Str) : Prop := z.length ≤ 7 ∧ ∀ c ∈ z.cps.toList, 97 ≤ c ∧ c ≤ 122
def rowN (z : Str) (a k : Nat) : Str := z ++ sg (97 + (a + 7 * k) % 26)
theorem rowN_ok {z : Str} (h : Stem z) (a k : Nat) : NameOk (rowN z a k) := by
  have l : (rowN z a k).length = z.length + 1 := by
    unfold rowN
    rw [Str.length_append]
    rfl
  refine ⟨by omega, by have := h.1; omega, fun c hc => ?_⟩
  unfold rowN at hc
  rw [app_list, sg_list] at hc
  rcases List.mem_append.mp hc with q | q
  · exact h.2 c q
  · rw [List.mem_singleton.mp q]
    omega
theorem rowN_one {z : Str} {a j k : Nat} (hj : j < 26) (hk : k < 26) (e : rowN z a j = rowN z a k) : j = k := by
  have q : (rowN z a j).cps.toList = (rowN z a k).cps.toList := by rw [e]
  unfold rowN at q
  rw [app_list, app_list, sg_list, sg_list] at q
  have q2 := (List.cons.inj (List.append_cancel_left q)).1
  omega
structure FarB (z : Str) (a i : Nat) (ls : List Ln) : Prop where
  nms : nms ls = (List.range i).map (rowN z a)
  base : ∀ (j : Nat) l, ls[j]? = some l → l.2.Nodup ∧ (∀ b ∈ l.2, b ∈ K1.nms (ls.take j)) ∧ l.2.length ≤ 7
theorem rowsN_nd {z : Str} {a i : Nat} (h : i ≤ 7) : ((List.range i).map (rowN z a)).Nodup := by
  have r : (List.range i).Pairwise (fun j k => j ≠ k ∧ j < 26 ∧ k < 26) := by
    refine List.Pairwise.imp_of_mem (R := fun j k => j ≠ k) (fun ha hb q => ⟨q, ?_, ?_⟩) List.nodup_range
    · have := List.mem_range.mp ha
      omega
    · have := List.mem_range.mp hb
      omega
  exact List.Pairwise.map _ (fun j k q e => q.1 (rowN_one q.2.1 q.2.2 e)) r
theorem FarB.len {z : Str} {a i : Nat} {ls : List Ln} (f : FarB z a i ls) : ls.length = i := by
  have q := congrArg List.length f.nms
  rw [List.length_map, List.length_map, List.length_range] at q
  exact q
theorem FarB.ok {z : Str} {a i : Nat} {ls : List Ln} (f : FarB z a i ls) (s : Stem z) (h : i ≤ 7) : LnsOk ls := by
  refine ⟨fun l hl => ?_, by rw [f.nms]; exact rowsN_nd h, by rw [f.len]; exact h, f.base⟩
  have q : l.1 ∈ K1.nms ls := List.mem_map.mpr ⟨l, hl, rfl⟩
  rw [f.nms] at q
  obtain ⟨k, _, e⟩ := List.mem_map.mp q
  rw [← e]
  exact rowN_ok s a k
theorem FarB.snoc {z : Str} {a i : Nat} {ls : List Ln} {bs : List Str} (f : FarB z a i ls) (h : i < 7) (sub : bs.Sublist (K1.nms ls)) : FarB z a (i + 1) (ls ++ [(rowN z a i, bs)]) := by
  have ndl : (K1.nms ls).Nodup := by rw [f.nms]; exact rowsN_nd (by omega)
  refine ⟨?_, fun j l hl => ?_⟩
  · rw [show K1.nms (ls ++ [(rowN z a i, bs)]) = K1.nms ls ++ [rowN z a i] from List.map_append .., f.nms, List.range_succ, List.map_append]
    rfl
  · have lf := f.len
    by_cases c : j < ls.length
    · rw [List.getElem?_append_left c] at hl
      obtain ⟨b1, b2, b3⟩ := f.base j l hl
      refine ⟨b1, fun b hb => ?_, b3⟩
      rw [List.take_append_of_le_length (by omega)]
      exact b2 b hb
    · rw [List.getElem?_append_right (by omega)] at hl
      have cj : j - ls.length = 0 := by
        have q := (List.getElem?_eq_some_iff.mp hl).1
        rw [List.length_singleton] at q
        omega
      rw [cj] at hl
      cases hl
      have sl := sub.length_le
      rw [List.length_map] at sl
      refine ⟨ndl.sublist sub, fun b hb => ?_, by show bs.length ≤ 7; omega⟩
      rw [show j = ls.length from by omega, List.take_left]
      exact sub.subset hb
theorem stem_at {d : Int} (d0 : 0 ≤ d) (d1 : d < 4) : ∃ z, atI [PV.str "", .str "k", .str "io", .str "abcdefg"] d = some (.str z) ∧ Stem z := by
  have c : d = 0 ∨ d = 1 ∨ d = 2 ∨ d = 3 := by omega
  rcases c with rfl | rfl | rfl | rfl
  · exact ⟨_, rfl, by decide, by decide⟩
  · exact ⟨_, rfl, by decide, by decide +kernel⟩
  · exact ⟨_, rfl, by decide, by decide +kernel⟩
  · exact ⟨_, rfl, by decide, by decide +kernel⟩
theorem lin_dat {ls : List Ln} {j : Nat} {q : PV} (h : (ls.map linP)[j]? = some q) : ∃ l, ls[j]? = some l ∧ q = linP l := by
  rw [List.getElem?_map] at h
  obtain ⟨l, hl, e⟩ := Option.map_eq_some_iff.mp h
  exact ⟨l, hl, e.symm⟩
theorem w_rows {s : Addr} {m : Nat} {st : Sto} {Q : QV} (hs : st s = some srcM) (m1 : 1 ≤ m) (m7 : m ≤ 7) (k : ∀ ls st', LnsOk ls → 1 ≤ ls.length → ls.length ≤ m → Grow st st' → Q (.lst (ls.map linP)) st') : g_rows [.cell s, .int (m : Nat)] st Q := by
  refine g_rows_of ?_
  refine up.of ⟨s, 4, rfl, hs, by decide, by decide, fun d d0 d1 => ?_⟩
  obtain ⟨z, hz, sz⟩ := stem_at d0 d1
  refine ix_seq' rfl hz ?_
  refine nmP' ?_
  dsimp only [List.set]
  refine gSeq' ?_
  refine up.of ⟨s, 26, rfl, hs, by decide, by decide, fun d2 e0 e1 => ?_⟩
  obtain ⟨a, rfl⟩ : ∃ k : Nat, d2 = (k : Int) := ⟨d2.toNat, by omega⟩
  intro f nf
  have sf : s ≠ f := fun e => by rw [e, nf] at hs; cases hs
  refine nilA' ?_
  dsimp only [List.set]
  refine gSeq' ?_
  refine up.of ⟨s, m, rfl, by rw [put_ne sf]; exact hs, by omega, by omega, fun d3 f0 f1 => ?_⟩
  refine add_int' ?_
  refine ⟨by omega, ?_⟩
  refine for_by (fun i e s' => ∃ v5 v6 v7 v8 v9 ls, e = [some (.cell s), some (.int (m : Nat)), some (.str z), some (.int (a : Nat)), some (.cell f), v5, v6, v7, v8, v9] ∧ Grow st s' ∧ s' f = some (.lst (ls.map linP)) ∧ FarB z a i ls) (fun _ _ _ _ _ => trivial) ?_ ?_ ⟨_, _, _, _, _, [], rfl, (Grow.refl st).new nf, put_at, rfl, fun j l h => by cases h⟩
  · rintro i p e s' hp ⟨v5, v6, v7, v8, v9, ls, rfl, gr, hf, far⟩
    obtain ⟨rfl, hi⟩ := rng_at hp
    have hs' := gr s _ hs
    have lf := far.len
    refine nmP' ?_
    dsimp only [List.set]
    refine gSeq' (gAsg' (gCB1' ?_))
    refine gLcC' rfl hf ?_
    refine ⟨by rw [List.length_map]; omega, ?_⟩
    refine lc_by (fun j acc s2 => s2 = s' ∧ ∃ bs : List Str, acc = strP bs ∧ bs.Sublist (nms (ls.take j))) (fun j acc s2 _ h => by rw [h.1]; exact hf) ?_ ?_ ⟨rfl, [], rfl, List.nil_sublist _⟩
    · rintro j q acc s2 hq ⟨rfl, bs, rfl, sub⟩
      obtain ⟨l, hl, rfl⟩ := lin_dat hq
      have tk : nms (ls.take (j + 1)) = nms (ls.take j) ++ [l.1] := by
        show (ls.take (j + 1)).map _ = _
        rw [List.take_add_one, hl, List.map_append]
        rfl
      refine upP.of (tp2' rfl (upT.of ?_))
      dsimp only [List.set, wipeE]
      refine up.of ⟨s, 3, rfl, hs', by decide, by decide, fun d5 g0 g1 => ?_⟩
      refine eq_int' ?_
      cases ed : decide (d5 = 0) with
      | true =>
        refine upE.of (gVar' rfl (fz_not (fun _ z => nomatch z) ⟨rfl, bs ++ [l.1], (List.map_append (f := PV.str) (l₁ := bs) (l₂ := [l.1])).symm, ?_⟩))
        rw [tk]
        exact sub.append (List.Sublist.refl _)
      | false =>
        refine ⟨rfl, bs, rfl, ?_⟩
        rw [tk]
        exact sub.trans (List.sublist_append_left _ _)
    · rintro acc s2 ⟨rfl, bs, rfl, sub⟩
      rw [List.length_map, List.take_length] at sub
      refine tuple' rfl ?_
      refine nmP' ?_
      dsimp only [List.set]
      refine gSeq' (gAsg' (gOp' ?_))
      refine int' (show CMulW 7 _ from ?_) ?_
      · show _ + _ < 1000000
        have q : (0 + (i : Int)).natAbs.log2 < 64 := by
          by_cases c : (0 + (i : Int)).natAbs = 0
          · rw [c]; decide
          · exact (Nat.log2_lt c).mpr (by omega)
        have r : (7 : Int).natAbs.log2 = 2 := by decide +kernel
        omega
      refine add_int' ?_
      refine int' (by decide) ?_
      have ix : atI abc.cps.toList (((a : Int) + 7 * (0 + (i : Int))) % 26) = some (97 + (a + 7 * i) % 26) := by
        rw [abc_at (Int.emod_nonneg _ (by decide)) (Int.emod_lt_of_pos _ (by decide))]
        congr 1
        omega
      refine ix_str' (by decide) ix ?_
      refine nmP' ?_
      dsimp only [List.set]
      refine gDrop' ?_
      refine gVar' rfl ?_
      refine ⟨by rw [seqL_cell hf]; rfl, ?_⟩
      refine add_str' (by have := sz.1; show z.length + 1 ≤ _; omega) ?_
      refine aVar' rfl (nilA' (fzA_cons (fun _ z => nomatch z) (fzA_cons (fun _ z => nomatch z) (fzNil' ?_))))
      refine nilA' ?_
      refine append' (fun _ z => nomatch z) hf (by rw [List.length_map]; omega) ?_
      refine ⟨_, _, _, _, _, ls ++ [(rowN z a i, bs)], rfl, gr.new nf, ?_, far.snoc (by omega) sub⟩
      rw [put_at, List.map_append]
      rfl
  · rintro e s' ⟨v5, v6, v7, v8, v9, ls, rfl, gr, hf, far⟩
    rw [rng_len] at far
    have lf := far.len
    dsimp only
    refine gRet' (gVar' rfl (fz_cell hf ?_))
    exact k ls _ (far.ok sz (by omega)) (by omega) (by omega) (gr.new nf)
end K1

namespace K1
open PySem PySem.Spec PyProof.Rows L2 Own Ev
/-! ### templates drawn -/
def gTP : Nat → GF
  | 0 => fun _ _ _ => False
  | n + 1 => g_tp (gTP n) n
/-- what the store keeps but at r -/
def But (r : Addr) (st st' : Sto) : Prop := ∀ x m, x ≠ r → st x = some m → st' x = some m
theorem But.refl (r : Addr) (st : Sto) : But r st st := fun _ _ _ h => h
theorem But.trans {r : Addr} {a b c : Sto} (h : But r a b) (g : But r b c) : But r a c := fun x m n e => g x m n (h x m n e)
theorem But.put {r : Addr} {a b : Sto} {m : Option MO} (h : But r a b) : But r a (b.put r m) := fun x k n e => by
  rw [put_ne n]
  exact h x k n e
theorem name_b {z : Str} (h : NameOk z) : nameB z = true := by
  unfold nameB
  rw [decide_eq_true h.1, decide_eq_true h.2.1, List.all_eq_true.mpr fun c hc => decide_eq_true (in_abc (h.2.2 c hc).1 (h.2.2 c hc).2)]
  rfl
theorem msg_name {z : Str} (h : NameOk z) : msgD (.str z) = true := by
  show ((z == "") || nameB z) = true
  rw [name_b h, Bool.or_true]
theorem tame_name {z : Str} (h : NameOk z) : tame (.str z) = true := by
  show (PyData.strOk z && decide (z.length ≤ 9)) = true
  rw [show PyData.strOk z = true from name_low h, decide_eq_true (by have := h.2.1; omega)]
  rfl
/-- what is drawn as a template: at most n groups deep -/
def szT : Nat → Nat
  | 0 => 10
  | n + 1 => 3 * szT n + 3
theorem szT_ge : ∀ n, 10 ≤ szT n
  | 0 => Nat.le_refl _
  | n + 1 => by
    have := szT_ge n
    show 10 ≤ 3 * szT n + 3
    omega
structure TpOk (ns : List Str) (n : Nat) (d : PyData) : Prop where
  td : Td (szT n) (2 * n + 2) d
  tp : tplD ns d = true
theorem tame_strs {zs : List Str} (h : ∀ z ∈ zs, NameOk z) : tameAll (zs.map PyData.str) = true := tameAll_of fun d hd => by
  obtain ⟨z, hz, rfl⟩ := List.mem_map.mp hd
  exact tame_name (h z hz)
theorem nd_strs : ∀ zs : List Str, ndAll (zs.map PyData.str) = zs.length
  | [] => rfl
  | z :: r => by
    show 1 + ndAll (r.map PyData.str) = r.length + 1
    rw [nd_strs r, Nat.add_comm]
theorem dep_strs : ∀ zs : List Str, PyData.depthAll (zs.map PyData.str) = 0
  | [] => rfl
  | z :: r => by
    show max 0 (PyData.depthAll (r.map PyData.str)) = 0
    rw [dep_strs r]
    rfl
theorem hole_ok {ns zs : List Str} (nok : ∀ z ∈ ns, NameOk z) (sub : ∀ z ∈ zs, z ∈ ns) (ne : zs ≠ []) (so : sortedS zs = true) (nd : zs.Nodup) : holeB ns (.tuple [.str "*", .tuple (zs.map .str)]) = true ∧ isGroupD (.tuple [.str "*", .tuple (zs.map .str)]) = false := by
  have g : isGroupD (.tuple [.str "*", .tuple (zs.map .str)]) = false := by
    cases zs with
    | nil => rfl
    | cons z r => exact star_no
  refine ⟨?_, g⟩
  have e1 : (!(zs.map PyData.str).isEmpty) = true := by
    cases zs with
    | nil => exact absurd rfl ne
    | cons _ _ => rfl
  have al : (zs.map PyData.str).all (inD ns) = true := List.all_eq_true.mpr fun c hc => by
    obtain ⟨z, hz, rfl⟩ := List.mem_map.mp hc
    exact decide_eq_true (sub z hz)
  show (PyData.eqv (.str "*") (.str "*") && (!(zs.map PyData.str).isEmpty && ((zs.map PyData.str).all (inD ns) && (match strsOf (zs.map PyData.str) with
    | some zs => ascB zs
    | none => false)))) = true
  rw [e1, al, strsOf_map, show PyData.eqv (.str "*") (.str "*") = true from by decide +kernel]
  show ascB zs = true
  rw [ascB, decide_eq_true nd, so]
  rfl
theorem str_atP {ns : List Str} {d : Int} (h0 : 0 ≤ d) (h1 : d < ns.length) : ∃ y, y ∈ ns ∧ atI (strP ns) d = some (.str y) := by
  obtain ⟨k, rfl⟩ : ∃ k : Nat, d = (k : Int) := ⟨d.toNat, by omega⟩
  have hk : k < ns.length := by omega
  exact ⟨ns[k], List.getElem_mem _, atI_nat (by rw [List.getElem?_map, List.getElem?_eq_getElem hk]; rfl)⟩
theorem four_msg {z : Str} {d : Int} (d0 : 0 ≤ d) (d1 : d < 4) (hz : NameOk z) : ∃ m, atI [PV.str "", .str "m", .str z, .str "abcdefgh"] d = some (.str m) ∧ msgD (.str m) = true ∧ tame (.str m) = true := by
  have c : d = 0 ∨ d = 1 ∨ d = 2 ∨ d = 3 := by omega
  rcases c with rfl | rfl | rfl | rfl
  · exact ⟨_, rfl, by decide +kernel, by decide +kernel⟩
  · exact ⟨_, rfl, by decide +kernel, by decide +kernel⟩
  · exact ⟨_, rfl, msg_name hz, tame_name hz⟩
  · exact ⟨_, rfl, by decide +kernel, by decide +kernel⟩
theorem perm_pop {zs xs L : List Str} {u : Nat} (h : u < xs.length) (p : (zs ++ xs).Perm L) : ((zs ++ [xs[u]]) ++ xs.eraseIdx u).Perm L := by
  rw [List.append_assoc]
  exact (List.Perm.append_left zs (erase_perm xs u h)).trans p
theorem eraseP : ∀ (xs : List Str) (u : Nat), (strP xs).eraseIdx u = strP (xs.eraseIdx u)
  | [], _ => rfl
  | x :: r, 0 => rfl
  | x :: r, u + 1 => by
    show PV.str x :: (strP r).eraseIdx u = PV.str x :: strP (r.eraseIdx u)
    rw [eraseP r u]
def TpP (ns : List Str) (s : Addr) (n : Nat) (g : GF) : Prop := ∀ (l : Addr) (L : List Str) (st : Sto) (Q : QV), st s = some srcM → st l = some (.lst (strP L)) → L.Nodup → (∀ z ∈ L, z ∈ ns) →
  (∀ p d L' st', p.dat = some d → TpOk ns n d → (holesD ns d ++ L').Perm L → But l st st' → st' l = some (.lst (strP L')) → Q p st') → g [.cell s, .lst (strP ns), .cell l, .int (n : Nat)] st Q
theorem eqv_nil (c : PyData) (r : List PyData) : PyData.eqv (.list (c :: r)) (.list []) = false := rfl
theorem tp_step {ns : List Str} {s : Addr} {n lv : Nat} {gr : GF} (l1 : 1 ≤ ns.length) (l7 : ns.length ≤ 7) (nok : ∀ z ∈ ns, NameOk z) (rc : ∀ m, n = m + 1 → TpP ns s m gr) : TpP ns s n (g_tp gr lv) := by
  intro l L st Q hs hl nd sub k
  have sl : s ≠ l := fun e => by rw [e, hl] at hs; cases hs
  have ln : L.length ≤ ns.length := nodup_len nd sub
  refine g_tp_of ?_
  refine up.of ⟨s, 4, rfl, hs, by decide, by decide, fun d d0 d1 => ?_⟩
  refine nmP' ?_
  dsimp only [List.set]
  -- what is left to do behind the first case
  have rest : gSeq (gIf (gOr (gBool (gOp (vEq false) (gVar 4) (gC (.int 1)))) (gBool (gOp (vEq false) (gVar 3) (gC (.int 0))))) (gRet (eTup (aCons (gOp vIx (gVar 1) (gCall (g_draw) (aCons (gVar 0) (aCons (gCB fLen (aCons (gVar 1) aNil)) aNil)))) (aCons (gC (.int 0)) aNil)))) gSkip)
    (gSeq (gAsg (gLc (gRng1 (aCons (gOp vAdd (gC (.int 1)) (gCall (g_draw) (aCons (gVar 0) (aCons (gC (.int 3)) aNil)))) aNil)) (nmP 7) gYes (gCall (gr) (aCons (gVar 0) (aCons (gVar 1) (aCons (gVar 2) (aCons (gOp (vI (fun _ _ => True) fun i j => .int (i - j)) (gVar 3) (gC (.int 1))) aNil))))) [7]) (nmP 5))
    (gRet (eTup (aCons (gOp vIx (gLst (aCons (gC (.str "")) (aCons (gC (.str "m")) (aCons (gOp vIx (gVar 1) (gC (.int 0))) (aCons (gC (.str "abcdefgh")) aNil))))) (gCall (g_draw) (aCons (gVar 0) (aCons (gC (.int 4)) aNil)))) (aCons (gCB fTuple (aCons (gVar 5) aNil)) aNil))))) [some (.cell s), some (.lst (strP ns)), some (.cell l), some (.int (n : Nat)), some (.int d), none, none, none] st { nx := fun _ s => Q .non s, rt := Q } := by
    have leaf : ∀ {D : Ev.GEnds}, D.rt = Q → gRet (eTup (aCons (gOp vIx (gVar 1) (gCall (g_draw) (aCons (gVar 0) (aCons (gCB fLen (aCons (gVar 1) aNil)) aNil)))) (aCons (gC (.int 0)) aNil))) [some (.cell s), some (.lst (strP ns)), some (.cell l), some (.int (n : Nat)), some (.int d), none, none, none] st D := fun {D} eD => by
      refine gRet' ?_
      refine len_seq' rfl ?_
      rw [List.length_map]
      refine up.of ⟨s, _, rfl, hs, by omega, by omega, fun d2 e0 e1 => ?_⟩
      obtain ⟨y, hy, hat⟩ := str_atP e0 e1
      refine ix_seq' rfl hat ?_
      refine aC' (nilA' (fzA_cons (fun _ z => nomatch z) (fzA_cons (fun _ z => nomatch z) (fzNil' (fz_not (fun _ z => nomatch z) ?_)))))
      rw [eD]
      have nw : newB ns (.tuple [.str y, .int 0]) = true := by
        show (decide (y ∈ ns) && (decide ((0 : Int) ≤ 0) && PyData.eqv (.int 0) (.int 0))) = true
        rw [decide_eq_true hy]
        decide
      have nh : holeB ns (.tuple [.str y, .int 0]) = false := rfl
      have ng : isGroupD (.tuple [.str y, .int 0]) = false := rfl
      have := szT_ge n
      refine k _ (.tuple [.str y, .int 0]) L st rfl ⟨⟨?_, by show 1 + (1 + 0) + 1 ≤ _; omega, by show max 0 (max 0 0) + 1 ≤ _; omega⟩, by rw [tpl_else ng, nh, nw]; rfl⟩ (by rw [holes_else ng nh]; exact .refl _) (But.refl _ _) hl
      show (tame (.str y) && (tame (.int 0) && true)) = true
      rw [tame_name (nok y hy)]
      rfl
    refine gSeq' (gIf' (gOr' (gBool' (gOp' ?_))))
    refine gVar' rfl ?_
    refine eq_int' ?_
    rw [Bool.false_xor]
    by_cases c1 : d = 1
    · rw [decide_eq_true c1]
      exact leaf rfl
    rw [decide_eq_false c1]
    refine gBool' (gOp' ?_)
    refine gVar' rfl ?_
    refine eq_int' ?_
    rw [Bool.false_xor]
    cases n with
    | zero =>
      rw [decide_eq_true (by rfl)]
      exact leaf rfl
    | succ n =>
    rw [decide_eq_false (by omega)]
    refine gSkip' ?_
    dsimp only
    refine gSeq' ?_
    refine up.of ⟨s, 3, rfl, hs, by decide, by decide, fun d2 e0 e1 => ?_⟩
    refine add_int' ?_
    refine ⟨by omega, by rw [rng_len]; omega, ?_⟩
    refine lc_by (fun i acc s' => ∃ cs L', datAll acc = some cs ∧ (∀ c ∈ cs, TpOk ns n c) ∧ (cs.flatMap (holesD ns) ++ L').Perm L ∧ But l st s' ∧ s' l = some (.lst (strP L')) ∧ ndAll cs ≤ szT n * i ∧ cs.length = i) (fun _ _ _ _ _ => trivial) ?_ ?_ ⟨[], L, rfl, (fun _ h => nomatch h), .refl _, But.refl _ _, hl, Nat.le_refl _, rfl⟩
    · rintro i p acc s' hp ⟨cs, L', ea, tp, pm, bt, hl', sz, lc⟩
      have hi := (List.getElem?_eq_some_iff.mp hp).1
      rw [rng_len] at hi
      have nd' : (cs.flatMap (holesD ns) ++ L').Nodup := pm.nodup_iff.mpr nd
      refine upP.of (upT.of (upE.of ?_))
      dsimp only [List.set, wipeE]
      refine gCall' (aVar' rfl (aVar' rfl (aVar' rfl ?_)))
      refine int' trivial ?_
      refine nilA' (up.of ?_)
      rw [show ((n + 1 : Nat) : Int) - 1 = ((n : Nat) : Int) from by omega]
      refine rc n rfl l L' s' _ (bt s _ sl hs) hl' (List.nodup_append.mp nd').2.1 (fun z hz => sub z (pm.mem_iff.mp (List.mem_append_right _ hz))) fun q e L2 s2 eq tq pm2 bt2 hl2 => ?_
      refine fz_not (dat_any eq).1 ⟨cs ++ [e], L2, dat_app ea (dat_one eq), fun c hc => ?_, ?_, bt.trans bt2, hl2, ?_, by rw [List.length_append, lc]; rfl⟩
      · rcases List.mem_append.mp hc with q | q
        · exact tp c q
        · rw [List.mem_singleton.mp q]
          exact tq
      · rw [List.flatMap_append, List.flatMap_cons, List.flatMap_nil, List.append_nil, List.append_assoc]
        exact (List.Perm.append_left _ pm2).trans pm
      · rw [ndAll_app]
        have := tq.td.n
        show ndAll cs + (ndD e + 0) ≤ szT n * (i + 1)
        rw [Nat.mul_add, Nat.mul_one]
        omega
    · rintro acc s' ⟨cs, L', ea, tp, pm, bt, hl', sz, lc⟩
      rw [rng_len] at sz lc
      have l3 : cs.length ≤ 3 := by omega
      have l0 : 1 ≤ cs.length := by omega
      refine nmP' ?_
      dsimp only [List.set]
      refine gRet' ?_
      obtain ⟨z0, r0, ens⟩ : ∃ z r, ns = z :: r := by
        cases ns with
        | nil => exact absurd l1 (by decide)
        | cons z r => exact ⟨z, r, rfl⟩
      refine ix_seq' (xs := strP ns) (p := .str z0) rfl (by rw [ens]; exact atI_nat (j := 0) rfl) ?_
      refine aC' (nilA' (fzA_cons (fun _ z => nomatch z) (fzA_cons (fun _ z => nomatch z) (fzA_cons (fun _ z => nomatch z) (fzA_cons (fun _ z => nomatch z) (fzNil' ?_))))))
      refine up.of ⟨s, 4, rfl, bt s _ sl hs, by decide, by decide, fun d4 f0 f1 => ?_⟩
      obtain ⟨m, hat, hm, tm⟩ := four_msg f0 f1 (nok z0 (by rw [ens]; exact List.mem_cons_self ..))
      refine ix_seq' rfl hat ?_
      refine tuple' rfl ?_
      refine nilA' (fzA_cons (fun _ z => nomatch z) (fzA_cons (fun _ z => nomatch z) (fzNil' (fz_not (fun _ z => nomatch z) ?_))))
      obtain ⟨c0, cr, ec⟩ : ∃ c r, cs = c :: r := by
        cases cs with
        | nil => exact absurd l0 (by decide)
        | cons c r => exact ⟨c, r, rfl⟩
      have g : isGroupD (.tuple [.str m, .tuple cs]) = true := by
        rw [ec]
        exact hm
      have q3 : szT n * (1 + d2).toNat ≤ szT n * 3 := Nat.mul_le_mul_left _ (by omega)
      have dd : PyData.depthAll cs ≤ 2 * n + 2 := dep_le fun c hc => (tp c hc).td.d
      refine k _ (.tuple [.str m, .tuple cs]) L' s' ?_ ⟨⟨?_, ?_, ?_⟩, ?_⟩ (by rw [holes_group g]; exact pm) bt hl'
      · exact tup_dat (xs := [.str m, .tup acc]) rfl (by rw [datAll, datAll, datAll, show (PV.tup acc).dat = some (.tuple cs) from tup_dat rfl ea]; rfl)
      · show (tame (.str m) && (tameAll cs && true)) = true
        rw [tm, tameAll_of fun c hc => (tp c hc).td.t]
        rfl
      · show 1 + ((ndAll cs + 1) + 0) + 1 ≤ 3 * szT n + 3
        omega
      · show max 0 (max (PyData.depthAll cs + 1) 0) + 1 ≤ 2 * (n + 1) + 2
        omega
      · rw [tpl_eq, if_pos g]
        exact List.all_eq_true.mpr fun c hc => (tp c hc).tp
  refine gSeq' (gIf' (gAnd' (gBool' (gOp' ?_))))
  refine gVar' rfl ?_
  refine eq_int' ?_
  rw [Bool.false_xor]
  by_cases c0 : d = 0
  case neg =>
    rw [decide_eq_false c0]
    exact rest
  rw [decide_eq_true c0]
  refine gBool' (gOp' ?_)
  refine gVar' rfl ?_
  have dl : datS st (.cell l) = some (.list (L.map .str)) := by
    show (match st l with
      | some (.lst xs) => (datAll xs).map PyData.list
      | _ => none) = _
    rw [hl]
    show (datAll (L.map PV.str)).map PyData.list = _
    rw [strs_dat]
    rfl
  have low : ∀ z ∈ L, Low z := fun z hz => name_low (nok z (sub z hz))
  refine eq_gen' dl (show datS st (.lst []) = some (.list []) from rfl) (strs_deep low) rfl ?_
  cases L with
  | nil => exact rest
  | cons x r =>
  rw [show PyData.eqv (.list ((x :: r).map .str)) (.list []) = false from rfl, show xor true false = true from rfl]
  refine gSeq' (gAsg' (gOp' ?_))
  refine len_seq' (seqA_cell hl) ?_
  rw [List.length_map]
  refine up.of ⟨s, _, rfl, hs, by rw [List.length_cons]; omega, by omega, fun d2 e0 e1 => ?_⟩
  refine add_int' ?_
  refine nmP' ?_
  dsimp only [List.set]
  refine gRet' (aC' (aE' (gCB1' (gCB1' (gLcR1' ?_)))))
  refine aVar' rfl (nilA' ?_)
  refine ⟨by omega, by rw [rng_len]; omega, ?_⟩
  refine lc_by (fun i acc s' => ∃ zs L', acc = strP zs ∧ (zs ++ L').Perm (x :: r) ∧ But l st s' ∧ s' l = some (.lst (strP L')) ∧ zs.length = i) (fun _ _ _ _ _ => trivial) ?_ ?_ ⟨[], x :: r, rfl, .refl _, But.refl _ _, hl, rfl⟩
  · rintro i p acc s' hp ⟨zs, L', rfl, pm, bt, hl', lz⟩
    have hi := (List.getElem?_eq_some_iff.mp hp).1
    rw [rng_len] at hi
    have lt := pm.length_eq
    rw [List.length_append] at lt
    refine upP.of (upT.of (upE.of ?_))
    dsimp only [List.set, wipeE]
    refine gVar' rfl ?_
    refine ⟨by rw [seqL_cell hl']; rfl, ?_⟩
    refine len_seq' (seqA_cell hl') ?_
    rw [List.length_map]
    refine up.of ⟨s, _, rfl, bt s _ sl hs, by omega, by omega, fun d3 f0 f1 => ?_⟩
    obtain ⟨u, rfl⟩ : ∃ k : Nat, d3 = (k : Int) := ⟨d3.toNat, by omega⟩
    have hu : u < L'.length := by omega
    refine nilA' (popAt' hl' (by omega) (y := .str L'[u]) (by rw [List.getElem?_map, List.getElem?_eq_getElem hu]; rfl) ?_)
    refine fz_not (fun _ z => nomatch z) ⟨zs ++ [L'[u]], L'.eraseIdx u, (List.map_append (f := PV.str) (l₁ := zs) (l₂ := [L'[u]])).symm, perm_pop hu pm, bt.put, by rw [put_at, eraseP], by rw [List.length_append, lz]; rfl⟩
  · rintro acc s' ⟨zs, L', rfl, pm, bt, hl', lz⟩
    rw [rng_len] at lz
    have lt := pm.length_eq
    rw [List.length_append] at lt
    have ndz : zs.Nodup := (List.nodup_append.mp (pm.nodup_iff.mpr nd)).1
    have sz : ∀ z ∈ zs, z ∈ ns := fun z hz => sub z (pm.mem_iff.mp (List.mem_append_left _ hz))
    refine sortedS' rfl (by omega) fun us pu so => ?_
    refine tuple' rfl ?_
    refine nilA' (fzA_cons (fun _ z => nomatch z) (fzA_cons (fun _ z => nomatch z) (fzNil' (fz_not (fun _ z => nomatch z) ?_))))
    have ndu : us.Nodup := pu.nodup_iff.mpr ndz
    have su : ∀ z ∈ us, z ∈ ns := fun z hz => sz z (pu.mem_iff.mp hz)
    have lu := pu.length_eq
    have neu : us ≠ [] := fun e => by rw [e] at lu; have lu : 0 = zs.length := lu; omega
    obtain ⟨hb, hg⟩ := hole_ok nok su neu so ndu
    have := szT_ge n
    refine k _ (.tuple [.str "*", .tuple (us.map .str)]) L' s' ?_ ⟨⟨?_, ?_, ?_⟩, by rw [tpl_else hg, hb]; rfl⟩ ?_ bt hl'
    · exact tup_dat (xs := [.str "*", .tup (stP us)]) rfl (by rw [datAll, datAll, datAll, show (PV.tup (stP us)).dat = some (.tuple (us.map .str)) from tup_dat rfl (strs_dat us)]; rfl)
    · show (tame (.str "*") && (tameAll (us.map .str) && true)) = true
      rw [tame_strs fun z hz => nok z (su z hz), show tame (.str "*") = true from by decide +kernel]
      rfl
    · show 1 + ((ndAll (us.map .str) + 1) + 0) + 1 ≤ _
      rw [nd_strs]
      have := nodup_len ndu su
      omega
    · show max 0 (max (PyData.depthAll (us.map .str) + 1) 0) + 1 ≤ _
      rw [dep_strs]
      omega
    · rw [holes_hole hg hb]
      show ((strsOf (us.map PyData.str)).getD [] ++ L').Perm _
      rw [strsOf_map]
      exact (List.Perm.append_right L' pu).trans pm
where
  dep_le {cs : List PyData} {n : Nat} (h : ∀ c ∈ cs, c.depth ≤ n) : PyData.depthAll cs ≤ n := by
    induction cs with
    | nil => exact Nat.zero_le _
    | cons c r ih =>
      show max c.depth (PyData.depthAll r) ≤ n
      exact Nat.max_le.mpr ⟨h c (List.mem_cons_self ..), ih fun x hx => h x (List.mem_cons_of_mem _ hx)⟩
theorem w_tp {ns : List Str} {s : Addr} (l1 : 1 ≤ ns.length) (l7 : ns.length ≤ 7) (nok : ∀ z ∈ ns, NameOk z) : ∀ n, TpP ns s n (gTP (n + 1))
  | 0 => tp_step l1 l7 nok fun m e => nomatch e
  | n + 1 => tp_step l1 l7 nok fun m e => by
    cases e
    exact w_tp l1 l7 nok n
end K1

namespace K1
open PySem PySem.Spec PyProof.Rows L2 Own Ev
/-! ### odd values, bent ones -/
/-- a value that is tame data -/
def Dt (N D : Nat) (p : PV) : Prop := ∃ d, p.dat = some d ∧ Td N D d
theorem Dt.mono {N D N' D' : Nat} {p : PV} (h : Dt N D p) (n : N ≤ N') (k : D ≤ D') : Dt N' D' p := by
  obtain ⟨d, e, t⟩ := h
  exact ⟨d, e, t.mono n k⟩
theorem str_td {z : Str} (h : tame (.str z) = true) : Dt 1 0 (.str z) := ⟨_, rfl, h, Nat.le_refl _, Nat.le_refl _⟩
theorem atI_neg {xs : List PV} {p : PV} (n : xs ≠ []) (h : xs[xs.length - 1]? = some p) : atI xs (-1) = some p := by
  have l := List.length_pos_iff.mpr n
  unfold atI ixN
  rw [if_neg (by decide), if_pos (by omega), Option.bind_some, show ((-1 : Int) + (xs.length : Int)).toNat = xs.length - 1 from by omega]
  exact h
theorem w_odd {ns : List Str} {s : Addr} {st : Sto} {Q : QV} (l1 : 1 ≤ ns.length) (l7 : ns.length ≤ 7) (nok : ∀ z ∈ ns, NameOk z) (hs : st s = some srcM) (k : ∀ p, Dt 20 2 p → Q p st) : g_odd [.cell s, .lst (strP ns)] st Q := by
  obtain ⟨z0, r0, ens⟩ : ∃ z r, ns = z :: r := by
    cases ns with
    | nil => exact absurd l1 (by decide)
    | cons z r => exact ⟨z, r, rfl⟩
  have h0 : atI (strP ns) 0 = some (.str z0) := by rw [ens]; exact atI_nat (j := 0) rfl
  have n0 : NameOk z0 := nok z0 (by rw [ens]; exact List.mem_cons_self ..)
  have hl : ns.length - 1 < ns.length := by omega
  have hm : atI (strP ns) (-1) = some (.str ns[ns.length - 1]) := atI_neg (by rw [ens]; exact fun z => nomatch z) (by rw [List.length_map, List.getElem?_map, List.getElem?_eq_getElem hl]; rfl)
  have nm : NameOk ns[ns.length - 1] := nok _ (List.getElem_mem _)
  generalize ns[ns.length - 1] = zm at hm nm
  refine g_odd_of ?_
  refine gSeq' (gAsg' ?_)
  refine gLst' ?_
  refine aC' ?_
  refine aC' ?_
  refine aC' ?_
  refine aC' ?_
  refine aC' ?_
  refine aC' ?_
  refine aC' ?_
  refine aC' ?_
  refine aC' ?_
  refine aC' ?_
  refine aE' ?_
  refine eTup' ?_
  refine nilA' ?_
  refine fzNil' ?_
  refine aE' ?_
  refine gLst' ?_
  refine nilA' ?_
  refine fzNil' ?_
  refine aC' ?_
  refine aE' ?_
  refine eTup' ?_
  refine aC' ?_
  refine nilA' ?_
  refine fzA_cons (fun _ z => nomatch z) ?_
  refine fzNil' ?_
  refine aE' ?_
  refine eTup' ?_
  refine aC' ?_
  refine aE' ?_
  refine eTup' ?_
  refine nilA' ?_
  refine fzNil' ?_
  refine nilA' ?_
  refine fzA_cons (fun _ z => nomatch z) ?_
  refine fzA_cons (fun _ z => nomatch z) ?_
  refine fzNil' ?_
  refine aE' ?_
  refine eTup' ?_
  refine aE' ?_
  refine gOp' (gVar' rfl (gC' ?_))
  refine ix_seq' (xs := strP ns) rfl h0 ?_
  refine aC' ?_
  refine nilA' ?_
  refine fzA_cons (fun _ z => nomatch z) ?_
  refine fzA_cons (fun _ z => nomatch z) ?_
  refine fzNil' ?_
  refine nilA' ?_
  refine fzA_cons (fun _ z => nomatch z) ?_
  refine fzA_cons (fun _ z => nomatch z) ?_
  refine fzA_cons (fun _ z => nomatch z) ?_
  refine fzA_cons (fun _ z => nomatch z) ?_
  refine fzA_cons (fun _ z => nomatch z) ?_
  refine fzA_cons (fun _ z => nomatch z) ?_
  refine fzA_cons (fun _ z => nomatch z) ?_
  refine fzA_cons (fun _ z => nomatch z) ?_
  refine fzA_cons (fun _ z => nomatch z) ?_
  refine fzA_cons (fun _ z => nomatch z) ?_
  refine fzA_cons (fun _ z => nomatch z) ?_
  refine fzA_cons (fun _ z => nomatch z) ?_
  refine fzA_cons (fun _ z => nomatch z) ?_
  refine fzA_cons (fun _ z => nomatch z) ?_
  refine fzA_cons (fun _ z => nomatch z) ?_
  refine fzA_cons (fun _ z => nomatch z) ?_
  refine fzNil' ?_
  refine nmP' ?_
  dsimp only [List.set]
  refine gSeq' (gAsg' (gOp' (gVar' rfl ?_)))
  refine gLst' ?_
  refine aE' ?_
  refine eTup' ?_
  refine aC' ?_
  refine aE' ?_
  refine eTup' ?_
  refine aE' ?_
  refine gOp' (gVar' rfl (gC' ?_))
  refine ix_seq' (xs := strP ns) rfl h0 ?_
  refine nilA' ?_
  refine fzA_cons (fun _ z => nomatch z) ?_
  refine fzNil' ?_
  refine nilA' ?_
  refine fzA_cons (fun _ z => nomatch z) ?_
  refine fzA_cons (fun _ z => nomatch z) ?_
  refine fzNil' ?_
  refine aE' ?_
  refine eTup' ?_
  refine aC' ?_
  refine aE' ?_
  refine eTup' ?_
  refine aE' ?_
  refine gOp' (gVar' rfl (gC' ?_))
  refine ix_seq' (xs := strP ns) rfl hm ?_
  refine aE' ?_
  refine gOp' (gVar' rfl (gC' ?_))
  refine ix_seq' (xs := strP ns) rfl hm ?_
  refine nilA' ?_
  refine fzA_cons (fun _ z => nomatch z) ?_
  refine fzA_cons (fun _ z => nomatch z) ?_
  refine fzNil' ?_
  refine nilA' ?_
  refine fzA_cons (fun _ z => nomatch z) ?_
  refine fzA_cons (fun _ z => nomatch z) ?_
  refine fzNil' ?_
  refine aE' ?_
  refine eTup' ?_
  refine aC' ?_
  refine aE' ?_
  refine gCB1' (gVar' rfl ?_)
  refine tuple' (xs := strP ns) rfl ?_
  refine nilA' ?_
  refine fzA_cons (fun _ z => nomatch z) ?_
  refine fzA_cons (fun _ z => nomatch z) ?_
  refine fzNil' ?_
  refine aE' ?_
  refine eTup' ?_
  refine aC' ?_
  refine aE' ?_
  refine gCB1' (gRevL' (gVar' rfl ⟨_, rfl, ?_⟩))
  refine tuple' (xs := (strP ns).reverse) rfl ?_
  refine nilA' ?_
  refine fzA_cons (fun _ z => nomatch z) ?_
  refine fzA_cons (fun _ z => nomatch z) ?_
  refine fzNil' ?_
  refine nilA' ?_
  refine fzA_cons (fun _ z => nomatch z) ?_
  refine fzA_cons (fun _ z => nomatch z) ?_
  refine fzA_cons (fun _ z => nomatch z) ?_
  refine fzA_cons (fun _ z => nomatch z) ?_
  refine fzNil' ?_
  refine add_lst' rfl rfl (show 16 + 4 ≤ 1000000 by decide) ?_
  refine nmP' ?_
  dsimp only [List.set]
  refine gRet' (gOp' (gVar' rfl ?_))
  refine up.of ⟨s, 20, rfl, hs, by decide, by decide, fun d d0 d1 => ?_⟩
  have st1 : ∀ {z : Str}, tame (.str z) = true → Dt 20 2 (.str z) := fun h => (str_td h).mono (by decide) (by decide)
  have tup1 : ∀ {xs : List PV} {ds : List PyData}, datAll xs = some ds → tameAll ds = true → ndAll ds ≤ 19 → PyData.depthAll ds ≤ 1 → Dt 20 2 (.tup xs) := fun {xs ds} e h n q => ⟨.tuple ds, tup_dat rfl e, h, by show ndAll ds + 1 ≤ 20; omega, by show PyData.depthAll ds + 1 ≤ 2; omega⟩
  have t0 := tame_name n0
  have tm := tame_name nm
  have th : ∀ zs : List Str, (∀ z ∈ zs, NameOk z) → zs.length ≤ 7 → Dt 20 2 (.tup [.str "*", .tup (strP zs)]) := fun zs hz lz => by
    refine tup1 (ds := [.str "*", .tuple (zs.map .str)]) (by rw [datAll, datAll, datAll, show (PV.tup (strP zs)).dat = some (.tuple (zs.map .str)) from tup_dat rfl (strs_dat zs)]; rfl) ?_ ?_ ?_
    · show (tame (.str "*") && (tameAll (zs.map .str) && true)) = true
      rw [tame_strs hz, show tame (.str "*") = true from by decide +kernel]
      rfl
    · show 1 + ((ndAll (zs.map .str) + 1) + 0) ≤ 19
      rw [nd_strs]
      omega
    · show max 0 (max (PyData.depthAll (zs.map .str) + 1) 0) ≤ 1
      rw [dep_strs]
      decide
  obtain ⟨p, hp, dp⟩ := draw_at (R := Dt 20 2) (xs := [PV.non, .bl true, .bl false, .int 0, .int 1, .int (-1), .str "", .str "*", .str "A", .str "m", .tup [], .lst [], .str "abcdefghi", .tup [.str "*"], .tup [.str "*", .tup []], .tup [.str z0, .int 0], .tup [.str "*", .tup [.str z0]], .tup [.str "*", .tup [.str zm, .str zm]], .tup [.str "*", .tup (strP ns)], .tup [.str "*", .tup (strP ns).reverse]]) (fun x hx => by
    simp only [List.mem_cons, List.not_mem_nil, or_false] at hx
    rcases hx with rfl | rfl | rfl | rfl | rfl | rfl | rfl | rfl | rfl | rfl | rfl | rfl | rfl | rfl | rfl | rfl | rfl | rfl | rfl | rfl
    · exact ⟨_, rfl, rfl, by decide, by decide⟩
    · exact ⟨_, rfl, rfl, by decide, by decide⟩
    · exact ⟨_, rfl, rfl, by decide, by decide⟩
    · exact ⟨_, rfl, by decide, by decide, by decide⟩
    · exact ⟨_, rfl, by decide, by decide, by decide⟩
    · exact ⟨_, rfl, by decide, by decide, by decide⟩
    · exact st1 (by decide +kernel)
    · exact st1 (by decide +kernel)
    · exact st1 (by decide +kernel)
    · exact st1 (by decide +kernel)
    · exact ⟨_, rfl, rfl, by decide, by decide⟩
    · exact ⟨_, rfl, rfl, by decide, by decide⟩
    · exact st1 (by decide +kernel)
    · exact ⟨_, rfl, by decide +kernel, by decide, by decide⟩
    · exact ⟨_, rfl, by decide +kernel, by decide, by decide⟩
    · exact tup1 (ds := [.str z0, .int 0]) rfl (by show (tame (.str z0) && (tame (.int 0) && true)) = true; rw [t0]; rfl) (by show 1 + (1 + 0) ≤ 19; decide) (by show max 0 (max 0 0) ≤ 1; decide)
    · exact th [z0] (fun z hz => by rw [List.mem_singleton.mp hz]; exact n0) (by show 1 ≤ 7; decide)
    · exact th [zm, zm] (fun z hz => by
        rcases List.mem_cons.mp hz with q | q
        · rw [q]; exact nm
        · rw [List.mem_singleton.mp q]; exact nm) (by show 2 ≤ 7; decide)
    · exact th ns nok l7
    · rw [← List.map_reverse]
      exact th ns.reverse (fun z hz => nok z (List.mem_reverse.mp hz)) (by rw [List.length_reverse]; exact l7)) d0 d1
  refine ix_seq' rfl hp ?_
  obtain ⟨e, ed, td⟩ := dp
  exact fz_not (dat_any ed).1 (k p ⟨e, ed, td⟩)
def gBT : Nat → GF
  | 0 => fun _ _ _ => False
  | n + 1 => g_bent (gBT n) n
def BentP (s : Addr) (g : GF) (N D : Nat) : Prop := ∀ (p : PV) (st : Sto) (Q : QV), Dt N D p → st s = some srcM → (∀ q, Dt (2 * N + 3) (D + 1) q → Q q st) → g [.cell s, p] st Q
theorem nd_take (ds : List PyData) (n : Nat) : ndAll (ds.take n) + ndAll (ds.drop n) = ndAll ds := by
  rw [← ndAll_app, List.take_append_drop]
theorem ndAll_rev : ∀ ds : List PyData, ndAll ds.reverse = ndAll ds
  | [] => rfl
  | d :: r => by
    rw [List.reverse_cons, ndAll_app, ndAll_rev r]
    show ndAll r + (ndD d + 0) = ndD d + ndAll r
    omega
theorem dep_all {ds : List PyData} {n : Nat} : PyData.depthAll ds ≤ n ↔ ∀ c ∈ ds, c.depth ≤ n := by
  induction ds with
  | nil => exact ⟨(fun _ _ h => nomatch h), fun _ => Nat.zero_le _⟩
  | cons c r ih =>
    show max c.depth (PyData.depthAll r) ≤ n ↔ _
    rw [Nat.max_le, ih, List.forall_mem_cons]
theorem tame_all {ds : List PyData} : tameAll ds = true ↔ ∀ c ∈ ds, tame c = true := ⟨fun h => tameAll_mem h, fun h => tameAll_of h⟩
theorem cut_lo' (xs : List PV) (k : Nat) (h : k ≤ xs.length) : cutP xs none (some ((k : Nat) : Int)) = xs.take k := by
  unfold cutP
  rw [HT.sIx_none, HT.sIx_nat, Nat.min_eq_left h]
  rfl
theorem cut_hi' (xs : List PV) (k : Nat) (h : k ≤ xs.length) : cutP xs (some ((k : Nat) : Int)) none = xs.drop k := by
  unfold cutP
  rw [HT.sIx_none, HT.sIx_nat, Nat.min_eq_left h, List.take_of_length_le]
  rw [List.length_drop]
  exact Nat.le_refl _


theorem bent_step {s : Addr} {N D lv : Nat} {gr : GF} (few : N ≤ 900) (dp : D ≤ 60) (rc : ∀ D' N', D = D' + 1 → N' ≤ 900 → BentP s gr N' D') : BentP s (g_bent gr lv) N D := by
  intro p st Q dt hs k
  obtain ⟨d, e, td⟩ := dt
  have nc := (dat_any e).1
  have np := nd_pos d
  have tn := td.n
  have one : ∀ {q : PV}, Dt 1 0 q → Dt (2 * N + 3) (D + 1) q := fun h => h.mono (by omega) (by omega)
  have base : ∀ (D1 : Ev.GEnds), D1.rt = Q → gRet (gOp vIx (gLst (aCons (gC .non) (aCons (gC (.bl true)) (aCons (gC (.int 1)) (aCons (gC (.int 0)) (aCons (gC (.str "")) (aCons (gC (.str "*")) (aCons (eTup aNil) (aCons (gC (.str "zzzz")) (aCons (gLst (aCons (gVar 1) aNil)) (aCons (eTup (aCons (gVar 1) aNil)) aNil))))))))))) (gCall (g_draw) (aCons (gVar 0) (aCons (gC (.int 10)) aNil)))) [some (.cell s), some p, none, none] st D1 := fun D1 eD => by
      refine gRet' (gOp' (gLst' ?_))
      refine aC' ?_
      refine aC' ?_
      refine aC' ?_
      refine aC' ?_
      refine aC' ?_
      refine aC' ?_
      refine aE' (eTup' (nilA' (fzNil' ?_)))
      refine aC' ?_
      refine aE' (gLst' (aVar' rfl (nilA' (fzA_cons nc (fzNil' ?_)))))
      refine aE' (eTup' (aVar' rfl (nilA' (fzA_cons nc (fzNil' ?_)))))
      refine nilA' ?_
      refine fzA_cons (fun _ z => nomatch z) ?_
      refine fzA_cons (fun _ z => nomatch z) ?_
      refine fzA_cons (fun _ z => nomatch z) ?_
      refine fzA_cons (fun _ z => nomatch z) ?_
      refine fzA_cons (fun _ z => nomatch z) ?_
      refine fzA_cons (fun _ z => nomatch z) ?_
      refine fzA_cons (fun _ z => nomatch z) ?_
      refine fzA_cons (fun _ z => nomatch z) ?_
      refine fzA_cons (fun _ z => nomatch z) ?_
      refine fzA_cons (fun _ z => nomatch z) ?_
      refine fzNil' ?_
      refine gCall' (aVar' rfl (aC' (nilA' ?_)))
      refine up.of ⟨s, 10, rfl, hs, by decide, by decide, fun d2 d0 d1 => ?_⟩
      obtain ⟨q, hq, dq⟩ := draw_at (R := Dt (2 * N + 3) (D + 1)) (xs := [PV.non, .bl true, .int 1, .int 0, .str "", .str "*", .tup [], .str "zzzz", .lst [p], .tup [p]]) (fun x hx => by
        simp only [List.mem_cons, List.not_mem_nil, or_false] at hx
        rcases hx with rfl | rfl | rfl | rfl | rfl | rfl | rfl | rfl | rfl | rfl
        · exact one ⟨_, rfl, rfl, by decide, by decide⟩
        · exact one ⟨_, rfl, rfl, by decide, by decide⟩
        · exact one ⟨_, rfl, by decide, by decide, by decide⟩
        · exact one ⟨_, rfl, by decide, by decide, by decide⟩
        · exact one (str_td (by decide +kernel))
        · exact one (str_td (by decide +kernel))
        · exact (show Dt 1 1 (.tup []) from ⟨_, rfl, rfl, by decide, by decide⟩).mono (by omega) (by omega)
        · exact one (str_td (by decide +kernel))
        · refine ⟨.list [d], by show (datAll [p]).map PyData.list = _; rw [dat_one e]; rfl, ?_, ?_, ?_⟩
          · show (tame d && true) = true
            rw [td.t]
            rfl
          · show ndD d + 0 + 1 ≤ _
            omega
          · show max d.depth 0 + 1 ≤ _
            have := td.d
            omega
        · refine ⟨.tuple [d], tup_dat rfl (dat_one e), ?_, ?_, ?_⟩
          · show (tame d && true) = true
            rw [td.t]
            rfl
          · show ndD d + 0 + 1 ≤ _
            omega
          · show max d.depth 0 + 1 ≤ _
            have := td.d
            omega) d0 d1
      refine ix_seq' rfl hq ?_
      rw [eD]
      obtain ⟨e2, h2, t2⟩ := dq
      exact fz_not (dat_any h2).1 (k q ⟨e2, h2, t2⟩)
  refine g_bent_of ?_
  refine gSeq' (gIf' (gOr' (gNot' (gTru' (gCB' (aVar' rfl (aC' (nilA' (isiD' e (kt_tuple d) (truB' ?_))))))))))
  cases et : isTupD d with
  | false => exact base _ rfl
  | true =>
  obtain ⟨ds, rfl⟩ : ∃ ds, d = .tuple ds := by
    cases d with
    | tuple ds => exact ⟨ds, rfl⟩
    | _ => cases et
  obtain ⟨xs, e1, e2⟩ := dat_tupE e
  have lx := dat_len e2
  have tds := tame_all.mp td.t
  have nds : ndAll ds + 1 ≤ N := td.n
  have dds : PyData.depthAll ds + 1 ≤ D := td.d
  have nl := ndAll_len ds
  rw [show (!true) = false from rfl]
  refine gOr' (gBool' (gOp' (gVar' rfl ?_)))
  refine eTup' (nilA' (fzNil' ?_))
  refine eq_gen' ((dat_any e).2.2 _) (show datS st (.tup []) = some (.tuple []) from rfl) (td.fit (by omega) dp).deep rfl ?_
  cases hds : ds with
  | nil => exact base _ rfl
  | cons c0 r0 =>
  rw [show PyData.eqv (.tuple (c0 :: r0)) (.tuple []) = false from rfl, Bool.false_xor]
  have l1 : 1 ≤ ds.length := by rw [hds, List.length_cons]; omega
  refine gBool' (gOp' (gCall' (aVar' rfl (aC' (nilA' ?_)))))
  refine up.of ⟨s, 5, rfl, hs, by decide, by decide, fun d5 a0 a1 => ?_⟩
  refine gC' (eq_int' ?_)
  rw [Bool.false_xor]
  cases e5 : decide (d5 = 0) with
  | true => exact base _ rfl
  | false =>
  refine gSkip' ?_
  dsimp only
  refine gSeq' ?_
  refine aE' (gCall' (aVar' rfl (aE' (gCB1' (gVar' rfl ?_)))))
  refine len_seq' (tup_seqA e1) (nilA' ?_)
  refine up.of ⟨s, _, rfl, hs, by rw [lx]; omega, by rw [lx]; omega, fun d6 b0 b1 => ?_⟩
  rw [lx] at b1
  obtain ⟨u, rfl⟩ : ∃ k : Nat, d6 = (k : Int) := ⟨d6.toNat, by omega⟩
  have hu : u < ds.length := by omega
  refine aE' (gCall' (aVar' rfl (aC' (nilA' ?_))))
  refine up.of ⟨s, 8, rfl, hs, by decide, by decide, fun d8 f0 f1 => ?_⟩
  refine nilA' ?_
  dsimp only [List.set]
  have c1 : cutP xs none (some (((u : Nat) : Int))) = xs.take u := cut_lo' xs u (by omega)
  have c2 : cutP xs (some (((u : Nat) : Int))) none = xs.drop u := cut_hi' xs u (by omega)
  have c3 : cutP xs none (some (((u : Nat) : Int) + 1)) = xs.take (u + 1) := by
    rw [show ((u : Nat) : Int) + 1 = ((u + 1 : Nat) : Int) from by omega]
    exact cut_lo' xs (u + 1) (by omega)
  have c4 : cutP xs (some (((u : Nat) : Int) + 1)) none = xs.drop (u + 1) := by
    rw [show ((u : Nat) : Int) + 1 = ((u + 1 : Nat) : Int) from by omega]
    exact cut_hi' xs (u + 1) (by omega)
  have q1 := nd_take ds u
  have q2 := nd_take ds (u + 1)
  have lt := ndAll_len (ds.take u)
  -- parts of the tuple, put together
  have part : ∀ {ys : List PV} {es : List PyData}, datAll ys = some es → (∀ c ∈ es, c ∈ ds) → ndAll es ≤ 2 * ndAll ds → Dt (2 * N + 3) (D + 1) (.tq ys) ∧ Dt (2 * N + 3) (D + 1) (.tup ys) ∧ Dt (2 * N + 3) (D + 1) (.lst ys) := fun {ys es} ey sub n => by
    have tt : tameAll es = true := tame_all.mpr fun c hc => tds c (sub c hc)
    have td : PyData.depthAll es ≤ D := dep_all.mpr fun c hc => by
      have := dep_mem (sub c hc)
      omega
    exact ⟨⟨.tuple es, tup_dat rfl ey, tt, by show ndAll es + 1 ≤ _; omega, by show PyData.depthAll es + 1 ≤ _; omega⟩, ⟨.tuple es, tup_dat rfl ey, tt, by show ndAll es + 1 ≤ _; omega, by show PyData.depthAll es + 1 ≤ _; omega⟩, ⟨.list es, by show (datAll ys).map PyData.list = _; rw [ey]; rfl, tt, by show ndAll es + 1 ≤ _; omega, by show PyData.depthAll es + 1 ≤ _; omega⟩⟩
  refine gSeq' (gIf' (gBool' (gOp' (gVar' rfl (gC' ?_)))))
  refine int' trivial ?_
  by_cases c8 : d8 < 4
  · rw [decide_eq_true c8]
    refine gRet' (gOp' (gLst' ?_))
    refine aE' (gOp' ?_)
    refine gSlV' rfl (noPart' ?_)
    refine partV' rfl (sl_tup' e1 ?_)
    rw [c1]
    refine gSlV' rfl (part' ?_)
    refine gOp' (gVar' rfl (gC' (add_int' ?_)))
    refine noPart' (sl_tup' e1 ?_)
    rw [c4]
    refine add_tup' rfl rfl (by rw [List.length_take, List.length_drop]; omega) ?_
    refine aE' (gOp' ?_)
    refine gSlV' rfl (noPart' (part' ?_))
    refine gOp' (gVar' rfl (gC' (add_int' ?_)))
    refine sl_tup' e1 ?_
    rw [c3]
    refine gSlV' rfl ?_
    refine partV' rfl (noPart' (sl_tup' e1 ?_))
    rw [c2]
    refine add_tup' rfl rfl (by rw [List.length_take, List.length_drop]; omega) ?_
    refine aE' (gRevT' (gVar' rfl ⟨xs, e1, ?_⟩))
    refine aE' (gCB1' (gVar' rfl (list' (tup_seqA e1) ?_)))
    refine nilA' ?_
    refine fzA_cons (fun _ z => nomatch z) ?_
    refine fzA_cons (fun _ z => nomatch z) ?_
    refine fzA_cons (fun _ z => nomatch z) ?_
    refine fzA_cons (fun _ z => nomatch z) ?_
    refine fzNil' ?_
    refine gVar' rfl ?_
    have mem_t : ∀ (n : Nat) c, c ∈ ds.take n → c ∈ ds := fun n c h => List.mem_of_mem_take h
    have mem_d : ∀ (n : Nat) c, c ∈ ds.drop n → c ∈ ds := fun n c h => List.mem_of_mem_drop h
    obtain ⟨q, hq, dq⟩ := draw_at (R := Dt (2 * N + 3) (D + 1)) (xs := [PV.tq (xs.take u ++ xs.drop (u + 1)), .tq (xs.take (u + 1) ++ xs.drop u), .tup xs.reverse, .lst xs]) (fun x hx => by
      simp only [List.mem_cons, List.not_mem_nil, or_false] at hx
      rcases hx with rfl | rfl | rfl | rfl
      · exact (part (dat_app (dat_take u e2) (dat_drop (u + 1) e2)) (fun c hc => (List.mem_append.mp hc).elim (mem_t _ c) (mem_d _ c)) (by rw [ndAll_app]; omega)).1
      · exact (part (dat_app (dat_take (u + 1) e2) (dat_drop u e2)) (fun c hc => (List.mem_append.mp hc).elim (mem_t _ c) (mem_d _ c)) (by rw [ndAll_app]; omega)).1
      · refine (part (dat_rev e2) (fun c hc => List.mem_reverse.mp hc) ?_).2.1
        rw [ndAll_rev]
        omega
      · exact (part e2 (fun c hc => hc) (by omega)).2.2) f0 (by show d8 < 4; exact c8)
    refine ix_seq' rfl hq ?_
    obtain ⟨e3, h3, t3⟩ := dq
    exact fz_not (dat_any h3).1 (k q ⟨e3, h3, t3⟩)
  · rw [decide_eq_false c8]
    refine gSkip' ?_
    dsimp only
    refine gRet' (gOp' (gOp' ?_))
    refine gSlV' rfl (noPart' ?_)
    refine partV' rfl (sl_tup' e1 ?_)
    rw [c1]
    refine eTup' (aE' (gCall' (aVar' rfl (aE' (gOp' (gVar' rfl (gVar' rfl ?_)))))))
    obtain ⟨D', rfl⟩ : ∃ D', D = D' + 1 := ⟨D - 1, by omega⟩
    have hc : ds[u]? = some ds[u] := List.getElem?_eq_getElem hu
    obtain ⟨x, hx, ex⟩ := dat_at' e2 hc
    have mc : ds[u] ∈ ds := List.getElem_mem _
    have nc2 := nd_mem mc
    have dc := dep_mem mc
    have tk : ndAll (ds.take (u + 1)) = ndAll (ds.take u) + (ndD ds[u] + 0) := by
      rw [List.take_add_one, hc, Option.toList_some, ndAll_app]
      rfl
    generalize ds[u] = c at hc ex mc nc2 dc tk
    refine ix_seq' (tup_seqA e1) (atI_nat hx) (nilA' (up.of ?_))
    refine rc D' (ndD c) rfl (by omega) x st _ ⟨c, ex, tds c mc, Nat.le_refl _, by omega⟩ hs fun q dq => ?_
    obtain ⟨e3, h3, t3⟩ := dq
    refine nilA' (fzA_cons (dat_any h3).1 (fzNil' ?_))
    refine add_tup' rfl rfl (by rw [List.length_take]; show _ + 1 ≤ _; omega) ?_
    refine gSlV' rfl (part' ?_)
    refine gOp' (gVar' rfl (gC' (add_int' ?_)))
    refine noPart' (sl_tup' e1 ?_)
    rw [c4]
    refine add_tup' rfl rfl (by rw [List.length_append, List.length_take, List.length_drop]; show _ + 1 + _ ≤ _; omega) ?_
    refine fz_not (fun _ z => nomatch z) (k _ ⟨.tuple (ds.take u ++ [e3] ++ ds.drop (u + 1)), tup_dat rfl (dat_app (dat_app (dat_take u e2) (dat_one h3)) (dat_drop (u + 1) e2)), ?_, ?_, ?_⟩)
    · refine tame_all.mpr fun c hc => ?_
      rcases List.mem_append.mp hc with q | q
      · rcases List.mem_append.mp q with q | q
        · exact tds c (List.mem_of_mem_take q)
        · rw [List.mem_singleton.mp q]
          exact t3.t
      · exact tds c (List.mem_of_mem_drop q)
    · have n3 := t3.n
      show ndAll _ + 1 ≤ _
      rw [ndAll_app, ndAll_app]
      show ndAll (ds.take u) + (ndD e3 + 0) + ndAll (ds.drop (u + 1)) + 1 ≤ _
      omega
    · have d3 := t3.d
      show PyData.depthAll _ + 1 ≤ _
      refine Nat.succ_le_succ (dep_all.mpr fun c hc => ?_)
      rcases List.mem_append.mp hc with q | q
      · rcases List.mem_append.mp q with q | q
        · have := dep_mem (List.mem_of_mem_take q)
          omega
        · rw [List.mem_singleton.mp q]
          omega
      · have := dep_mem (List.mem_of_mem_drop q)
        omega
theorem w_bent {s : Addr} : ∀ (n N : Nat), n ≤ 60 → N ≤ 900 → BentP s (gBT (n + 1)) N n
  | 0, N, _, h => bent_step h (by decide) fun D' N' e => nomatch e
  | n + 1, N, h0, h => bent_step h h0 fun D' N' e l => by
    cases e
    exact w_bent n N' (by omega) l
end K1

namespace K1
open PySem PySem.Spec PyProof.Rows L2 Own Ev
section
variable {I : Hp → Prop} {P : Program} {w : World} {K : PySem.W.Frag} {mg : Str → Option Value} {base : Heap}
abbrev n_law : List Str := ["script", "at", "bag", "rows", "names", "kinds", "whole", "things", "thing", "text", "one", "bases", "turn"]
theorem sc_law : FnScope n_law ["script"] (defScope sLaw) := ⟨rfl, rfl, rfl, by decide +kernel, rfl, by decide +kernel, by decide +kernel⟩
def b_law (C : Addr) : GS :=
  (gSeq (gFor (gRng1 (aCons (gCB (fI2 fun i j => if j > i then j else i) (aCons (gC (.int 2)) (aCons (gCB (fI2 fun i j => if j < i then j else i) (aCons (gC (.int 4)) (aCons (gCB fLen (aCons (gVar 0) aNil)) aNil))) aNil))) aNil)) (nmP 1) (gSeq (gAsg (gCall (g_source) (aCons (gVar 0) (aCons (gVar 1) aNil))) (nmP 2))
  (gSeq (gAsg (gCall (g_rows) (aCons (gVar 2) (aCons (gC (.int 5)) aNil))) (nmP 3))
  (gSeq (gPar 4 5 (aCons (gLc (gIt (gVar 3)) (tpP 2 (consP (nmP 10) (consP (nmP 11) nilP))) gYes (gVar 10) [10, 11]) (aCons (gKof C (gVar 3)) aNil)))
  (gSeq (gAsg (gCall ((gTP 4)) (aCons (gVar 2) (aCons (gVar 4) (aCons (gCB fListC (aCons (gVar 4) aNil)) (aCons (gC (.int 3)) aNil))))) (nmP 6))
  (gSeq (gAsg (gLst (aCons (gVar 6) (aCons (gCall (g_odd) (aCons (gVar 2) (aCons (gVar 4) aNil))) (aCons (gCall (g_odd) (aCons (gVar 2) (aCons (gVar 4) aNil))) (aCons (gLst (aCons (gVar 6) aNil)) (aCons (eTup (aCons (gC (.str "m")) (aCons (eTup (aCons (gVar 6) (aCons (gVar 6) aNil))) aNil))) (aCons (eTup (aCons (gVar 6) aNil)) aNil))))))) (nmP 7))
  (gSeq (gAsg (gOp vAdd (gOp vAdd (gVar 7) (gLc (gRng1 (aCons (gC (.int 8)) aNil)) (nmP 12) gYes (gCall ((gBT 9)) (aCons (gVar 2) (aCons (gVar 6) aNil))) [12])) (gLst (aCons (eTup (aCons (gC (.str "m")) (aCons (eTup (aCons (gVar 6) (aCons (eTup (aCons (gC (.str "*")) (aCons (eTup (aCons (gOp vIx (gVar 4) (gC (.int 0))) aNil)) aNil))) aNil))) aNil))) aNil))) (nmP 7))
  (gSeq (gFor (gIt (gVar 7)) (nmP 8) (gSeq (gAsg (gCB fRepr (aCons (gVar 8) aNil)) (nmP 9))
  (gIf (gOr (gBool (gOp (vEq true) (gCB fRepr (aCons (gCall ((g_istp C)) (aCons (gVar 5) (aCons (gVar 8) aNil))) aNil)) (gCB fRepr (aCons (gCall ((gIO 11)) (aCons (gVar 4) (aCons (gVar 8) (aCons (gLstC aNil) aNil)))) aNil)))) (gBool (gOp (vEq true) (gCB fRepr (aCons (gVar 8) aNil)) (gVar 9)))) (gRet (gC (.bl false))) gSkip)))
  (gIf (gOr (gBool (gOp (vIsB true) (gCall ((g_istp C)) (aCons (gVar 5) (aCons (gVar 6) aNil))) (gC (.bl true)))) (gBool (gOp (vIsB true) (gCall ((g_istp C)) (aCons (gVar 5) (aCons (eTup (aCons (gC (.str "zzzzzzzz")) (aCons (gC (.int 1)) aNil))) aNil))) (gC (.bl false))))) (gRet (gC (.bl false))) gSkip)))))))))
  (gRet (gC (.bl true))))
def g_law (C : Addr) : GF := gFun 13 1 (b_law C)
theorem g_law_of {C : Addr} {p0 : PV} {st : Sto} {Q : QV} (h : b_law C [some p0, none, none, none, none, none, none, none, none, none, none, none, none] st { nx := fun _ s => Q .non s, rt := Q }) : g_law C [p0] st Q := ⟨rfl, h⟩
theorem ok_law {C : Addr} {f : Addr} {fd : FuncData} (i0 : Inv0 I) (F : Fun K "law" "law" sLaw f fd) (D__law_bag : Dfn I P w K mg base "_law_bag" 1 ["script", "at"] (g_source)) (D__law_bent : Dfn I P w K mg base "_law_bent" 10 ["bag", "thing"] ((gBT 9))) (D__law_is_one : Dfn I P w K mg base "_law_is_one" 12 ["names", "thing", "met"] ((gIO 11))) (D__law_odd : Dfn I P w K mg base "_law_odd" 3 ["bag", "names"] (g_odd)) (D__law_rows : Dfn I P w K mg base "_law_rows" 3 ["bag", "most"] (g_rows)) (D__law_template : Dfn I P w K mg base "_law_template" 5 ["bag", "names", "left", "deep"] ((gTP 4))) (D_is_template : Dfn I P w K mg base "is_template" 6 ["kinds", "thing"] ((g_istp C))) (D_of : OfOk P w K mg base C) (y_len : mg "len" = none) (y_list : mg "list" = none) (y_max : mg "max" = none) (y_min : mg "min" = none) (y_range : mg "range" = none) (y_repr : mg "repr" = none) : FnG P w K mg base (20 + 1) f fd ["script"] (spE I K (gFun 13 1 (b_law C))) :=
  ok_E F sc_law fun cdv A out s H E hc hr => (ess_cons (es_for i0 PassesOwn.never rfl (ei_range1 (by rfl) y_range (ea_cons (ee_callB (cv_max2 rfl) (by rfl) y_max (by decide +kernel) (ea_cons ee_int (ea_cons (ee_callB (cv_min2 rfl) (by rfl) y_min (by decide +kernel) (ea_cons ee_int (ea_cons (ee_callB cv_len (by rfl) y_len PySem.boot_len (ea_cons (ee_var (pv 0)) ea_nil)) ea_nil))) ea_nil))) ea_nil)) (eg_name (pg_name (i := 1) sc_law.nd rfl (Or.inl rfl) (hf := Or.inr rfl))) (ess_cons (es_set (i := 2) sc_law.nd rfl (Or.inr rfl) (ee_callD D__law_bag hc hr (by decide) (by rfl) (ea_cons (ee_var (pv 0)) (ea_cons (ee_var (pv 1)) ea_nil))))
      (ess_cons (es_set (i := 3) sc_law.nd rfl (Or.inl rfl) (ee_callD D__law_rows hc hr (by decide) (by rfl) (ea_cons (ee_var (pv 2)) (ea_cons ee_int ea_nil))))
      (ess_cons (es_par (i := 4) (j := 5) rfl sc_law.nd rfl rfl (by decide) rfl rfl (ea_cons (ee_lc (t := (L2.gTup K 2 (L2.gCons (gName 10) (L2.gCons (gName 11) L2.gNil)))) (sl := [10, 11]) (own := [("one", 10), ("bases", 11)]) i0 rfl sc_law.nd (ei_it (ee_var (pv 3))) (blkOk_by (N := n_law) (sc := defScope sLaw) (by decide +kernel)) (fun _ _ _ _ _ => (eg_tup rfl (egs_cons (eg_name (pg_name (i := 10) sc_law.nd rfl (Or.inl rfl) (hf := Or.inr rfl))) (egs_cons (eg_name (pg_name (i := 11) sc_law.nd rfl (Or.inl rfl) (hf := Or.inr rfl))) egs_nil)))) (fun _ _ _ _ _ => ets_nil) (fun _ _ _ _ _ => (ee_var (pv 10)))) (ea_cons (ee_kof i0 D_of (hr.mono (by decide)) (by rfl) (ee_var (pv 3))) ea_nil)) (by rfl))
      (ess_cons (es_set (i := 6) sc_law.nd rfl (Or.inr rfl) (ee_callD D__law_template hc hr (by decide) (by rfl) (ea_cons (ee_var (pv 2)) (ea_cons (ee_var (pv 4)) (ea_cons (ee_callTy (cv_listC i0) (by rfl) y_list (by decide +kernel) (ea_cons (ee_var (pv 4)) ea_nil)) (ea_cons ee_int ea_nil))))))
      (ess_cons (es_set (i := 7) sc_law.nd rfl (Or.inl rfl) (ee_lst i0 (ea_cons (ee_var (pv 6)) (ea_cons (ee_callD D__law_odd hc hr (by decide) (by rfl) (ea_cons (ee_var (pv 2)) (ea_cons (ee_var (pv 4)) ea_nil))) (ea_cons (ee_callD D__law_odd hc hr (by decide) (by rfl) (ea_cons (ee_var (pv 2)) (ea_cons (ee_var (pv 4)) ea_nil))) (ea_cons (ee_lst i0 (ea_cons (ee_var (pv 6)) ea_nil)) (ea_cons (ee_tup i0 (ea_cons ee_str (ea_cons (ee_tup i0 (ea_cons (ee_var (pv 6)) (ea_cons (ee_var (pv 6)) ea_nil))) ea_nil))) (ea_cons (ee_tup i0 (ea_cons (ee_var (pv 6)) ea_nil)) ea_nil))))))))
      (ess_cons (es_set (i := 7) sc_law.nd rfl (Or.inl rfl) (ee_op (ov_add i0) (ee_op (ov_add i0) (ee_var (pv 7)) (ee_lc (own := [("turn", 12)]) i0 rfl sc_law.nd (ei_range1 (by rfl) y_range (ea_cons ee_int ea_nil)) (blkOk_by (N := n_law) (sc := defScope sLaw) (by decide +kernel)) (fun _ _ _ _ _ => (eg_name (pg_name (i := 12) sc_law.nd rfl (Or.inl rfl) (hf := Or.inr rfl)))) (fun _ _ _ _ _ => ets_nil) (fun _ _ _ _ _ => (ee_callD D__law_bent hc hr (by decide) (by rfl) (ea_cons (ee_var (pv 2)) (ea_cons (ee_var (pv 6)) ea_nil)))))) (ee_lst i0 (ea_cons (ee_tup i0 (ea_cons ee_str (ea_cons (ee_tup i0 (ea_cons (ee_var (pv 6)) (ea_cons (ee_tup i0 (ea_cons ee_str (ea_cons (ee_tup i0 (ea_cons (ee_ix (iv_ix (hu_of hr)) (ee_var (pv 4)) ee_int) ea_nil)) ea_nil))) ea_nil))) ea_nil))) ea_nil))))
      (ess_cons (es_for i0 PassesOwn.never rfl (ei_it (ee_var (pv 7))) (eg_name (pg_name (i := 8) sc_law.nd rfl (Or.inl rfl) (hf := Or.inr rfl))) (ess_cons (es_set (i := 9) sc_law.nd rfl (Or.inl rfl) (ee_callB (cv_repr hc (hr.mono (by decide))) (by rfl) y_repr (by decide +kernel) (ea_cons (ee_var (pv 8)) ea_nil)))
      (ess_one (es_if (EW.et (ew_or (et_cmp (ov_ne hr.units150) (ee_callB (cv_repr hc (hr.mono (by decide))) (by rfl) y_repr (by decide +kernel) (ea_cons (ee_callD D_is_template hc hr (by decide) (by rfl) (ea_cons (ee_var (pv 5)) (ea_cons (ee_var (pv 8)) ea_nil))) ea_nil)) (ee_callB (cv_repr hc (hr.mono (by decide))) (by rfl) y_repr (by decide +kernel) (ea_cons (ee_callD D__law_is_one hc hr (by decide) (by rfl) (ea_cons (ee_var (pv 4)) (ea_cons (ee_var (pv 8)) (ea_cons (ee_lstC i0 ea_nil) ea_nil)))) ea_nil)) (nomark _)) (ew_or1 (et_cmp (ov_ne hr.units150) (ee_callB (cv_repr hc (hr.mono (by decide))) (by rfl) y_repr (by decide +kernel) (ea_cons (ee_var (pv 8)) ea_nil)) (ee_var (pv 9)) (nomark _))))) (ess_one (es_ret ee_bl)) ess_nil))))
      (ess_one (es_if (EW.et (ew_or (et_cmp (ov_isnotB) (ee_callD D_is_template hc hr (by decide) (by rfl) (ea_cons (ee_var (pv 5)) (ea_cons (ee_var (pv 6)) ea_nil))) ee_bl (nomark _)) (ew_or1 (et_cmp (ov_isnotB) (ee_callD D_is_template hc hr (by decide) (by rfl) (ea_cons (ee_var (pv 5)) (ea_cons (ee_tup i0 (ea_cons ee_str (ea_cons ee_int ea_nil))) ea_nil))) ee_bl (nomark _))))) (ess_one (es_ret ee_bl)) ess_nil))))))))))
      (ess_one (es_ret ee_bl)))
end
end K1

namespace K1
open PySem PySem.Spec PyProof.Rows L2 Own Ev
/-! ### the law -/
theorem gKof' {C : Addr} {g : Ev.GE} {env : Ev.Env} {st : Sto} {Q : QV} (h : g env st fun p s => ∃ ls : List Ln, p = .lst (ls.map linP) ∧ LnsOk ls ∧ ∀ ls' T, SrtOf ls ls' → Tab Srt ls' T → Q (kindsP C ls ls' T) s) : gKof C g env st Q := h
theorem temp_ok {ns : List Str} {n : Nat} {d : PyData} {L L' : List Str} (t : TpOk ns n d) (nd : L.Nodup) (p : (holesD ns d ++ L').Perm L) : tempD ns d = true := by
  rw [tempD, t.tp, decide_eq_true (List.nodup_append.mp (p.nodup_iff.mpr nd)).1]
  rfl
theorem temp_z (ns : List Str) : tempD ns (.tuple [.str "zzzzzzzz", .int 1]) = false := by
  have e : tplD ns (.tuple [.str "zzzzzzzz", .int 1]) = false := by
    rw [tpl_else rfl, show holeB ns (.tuple [.str "zzzzzzzz", .int 1]) = false from rfl, show newB ns (.tuple [.str "zzzzzzzz", .int 1]) = (inD ns (.str "zzzzzzzz") && (isNumD (.int 1) && PyData.eqv (.int 1) (.int 0))) from rfl, show (isNumD (.int 1) && PyData.eqv (.int 1) (.int 0)) = false from by decide, Bool.and_false]
    rfl
  rw [tempD, e]
  rfl
theorem bool_shown (b : Bool) : (PyData.bool b).shown.length ≤ sizeLine := by
  rw [sizeLine_eq]
  cases b <;> decide
theorem w_law {C : Addr} {ns : List Int} {st : Sto} {Q : QV} (h63 : ns.length ≤ 63) (k : ∀ s, Q (.bl true) s) : g_law C [.sq (ns.map .int)] st Q := by
  refine g_law_of (len_seq' rfl (i2' (i2' ?_)))
  have cb : ∀ z : Int, (-(2 ^ 62) ≤ (if (if z < 4 then z else 4) > 2 then (if z < 4 then z else 4) else 2) ∧ (if (if z < 4 then z else 4) > 2 then (if z < 4 then z else 4) else 2) < 2 ^ 62) ∧ (if (if z < 4 then z else 4) > 2 then (if z < 4 then z else 4) else 2) ≤ 4 := fun z => by split <;> split at * <;> omega
  have c4 := (cb (((ns.map PV.int).length : Nat) : Int)).2
  refine ⟨(cb _).1, ?_⟩
  generalize (if (if (((ns.map PV.int).length : Nat) : Int) < 4 then (((ns.map PV.int).length : Nat) : Int) else 4) > 2 then (if (((ns.map PV.int).length : Nat) : Int) < 4 then (((ns.map PV.int).length : Nat) : Int) else 4) else 2) = many at c4
  refine for_by (fun i e s => ∃ v1 v2 v3 v4 v5 v6 v7 v8 v9 v10 v11 v12, e = [some (.sq (ns.map .int)), v1, v2, v3, v4, v5, v6, v7, v8, v9, v10, v11, v12]) (fun _ _ _ _ _ => trivial) ?_ ?_ ⟨_, _, _, _, _, _, _, _, _, _, _, _, rfl⟩
  · rintro i p e st hp ⟨v1, v2, v3, v4, v5, v6, v7, v8, v9, v10, v11, v12, rfl⟩
    obtain ⟨rfl, hi⟩ := rng_at hp
    refine nmP' ?_
    dsimp only [List.set]
    refine gSeq' (gAsg' (gCall' (aVar' rfl (aVar' rfl (nilA' ?_)))))
    refine up.of ⟨ns, _, rfl, h63, by omega, by omega, fun s ns_ => ?_⟩
    refine nmP' ?_
    dsimp only [List.set]
    refine gSeq' (gAsg' (gCall' (aVar' rfl (aC' (nilA' ?_)))))
    have hs0 : (st.put s (some srcM)) s = some srcM := put_at
    generalize st.put s (some srcM) = st0 at hs0
    refine up.of (w_rows (m := 5) hs0 (by decide) (by decide) fun ls st1 lok l1 l5 gr => ?_)
    have hs1 := gr s _ hs0
    refine nmP' ?_
    dsimp only [List.set]
    refine gSeq' (gPar' (aE' (gLcIt' (gVar' rfl ?_))))
    refine ⟨by rw [List.length_map]; omega, ?_⟩
    refine lc_map linP ls (fun l => .str l.1) trivial (fun l hl => tp2' rfl ⟨rfl, gVar' rfl (fz_not (fun _ z => nomatch z) ⟨rfl, rfl⟩)⟩) ?_
    have en : (ls.map fun l => PV.str l.1) = strP (nms ls) := (List.map_map ..).symm
    rw [en]
    refine aE' (gKof' (gVar' rfl ⟨ls, rfl, lok, fun ls' T so tab => ?_⟩))
    refine nilA' ?_
    dsimp only [List.set]
    have ln : (nms ls).length = ls.length := List.length_map _
    have nok : ∀ z ∈ nms ls, NameOk z := fun z hz => by
      obtain ⟨l, hl, e⟩ := List.mem_map.mp hz
      rw [← e]
      exact lok.names l hl
    refine gSeq' (gAsg' (gCall' (aVar' rfl (aVar' rfl (aE' (gCB1' (gVar' rfl ?_)))))))
    refine listC' (xs := strP (nms ls)) rfl fun l nl => ?_
    have sl : s ≠ l := fun e => by rw [e, nl] at hs1; cases hs1
    refine aC' (nilA' (up.of ?_))
    refine w_tp (s := s) (by omega) (by omega) nok 3 l (nms ls) _ _ (by rw [put_ne sl]; exact hs1) put_at lok.nd (fun _ h => h) fun q d L' st2 eq tp pm bt hl2 => ?_
    have hs2 : st2 s = some srcM := bt s _ sl (by rw [put_ne sl]; exact hs1)
    have tOk := temp_ok tp lok.nd pm
    have tdq : Td 309 8 d := tp.td
    have ncq := (dat_any eq).1
    refine nmP' ?_
    dsimp only [List.set]
    refine gSeq' (gAsg' (gLst' (aVar' rfl ?_)))
    refine aE' (gCall' (aVar' rfl (aVar' rfl (nilA' (up.of (w_odd (by omega) (by omega) nok hs2 fun o1 do1 => ?_))))))
    refine aE' (gCall' (aVar' rfl (aVar' rfl (nilA' (up.of (w_odd (by omega) (by omega) nok hs2 fun o2 do2 => ?_))))))
    refine aE' (gLst' (aVar' rfl (nilA' (fzA_cons ncq (fzNil' ?_)))))
    refine aE' (eTup' (aC' (aE' (eTup' (aVar' rfl (aVar' rfl (nilA' (fzA_cons ncq (fzA_cons ncq (fzNil' ?_)))))))))) 
    refine nilA' (fzA_cons (fun _ z => nomatch z) (fzA_cons (fun _ z => nomatch z) (fzNil' ?_)))
    refine aE' (eTup' (aVar' rfl (nilA' (fzA_cons ncq (fzNil' ?_)))))
    refine nilA' ?_
    have nc1 : ∀ {o : PV}, Dt 20 2 o → ∀ a, o ≠ .cell a := fun h => by
      obtain ⟨e, he, _⟩ := h
      exact (dat_any he).1
    refine fzA_cons ncq (fzA_cons (nc1 do1) (fzA_cons (nc1 do2) (fzA_cons (fun _ z => nomatch z) (fzA_cons (fun _ z => nomatch z) (fzA_cons (fun _ z => nomatch z) (fzNil' ?_))))))
    refine nmP' ?_
    dsimp only [List.set]
    refine gSeq' (gAsg' (gOp' (gOp' (gVar' rfl (gLcR1' (aC' (nilA' ?_)))))))
    refine ⟨⟨by decide, by decide⟩, by rw [rng_len]; decide, ?_⟩
    refine lc_by (fun i acc s' => s' = st2 ∧ (∀ x ∈ acc, Dt 621 9 x) ∧ acc.length = i) (fun _ _ _ _ _ => trivial) ?_ ?_ ⟨rfl, (fun _ h => nomatch h), rfl⟩
    · rintro j x acc s' hx ⟨rfl, hacc, lacc⟩
      refine upP.of (upT.of (upE.of ?_))
      dsimp only [List.set, wipeE]
      refine gCall' (aVar' rfl (aVar' rfl (nilA' (up.of ?_))))
      refine w_bent 8 309 (by decide) (by decide) q s' _ ⟨d, eq, tdq⟩ hs2 fun b db => ?_
      obtain ⟨e, he, te⟩ := db
      refine fz_not (dat_any he).1 ⟨rfl, fun x hx => ?_, by rw [List.length_append, lacc]; rfl⟩
      rcases List.mem_append.mp hx with z | z
      · exact hacc x z
      · rw [List.mem_singleton.mp z]
        exact ⟨e, he, te⟩
    · rintro acc s' ⟨rfl, hacc, lacc⟩
      rw [rng_len] at lacc
      obtain ⟨z0, r0, ens⟩ : ∃ z r, nms ls = z :: r := by
        cases e : nms ls with
        | nil => rw [e] at ln; have ln : 0 = ls.length := ln; omega
        | cons z r => exact ⟨z, r, rfl⟩
      have n0 : NameOk z0 := nok z0 (by rw [ens]; exact List.mem_cons_self ..)
      have l8 : acc.length ≤ 8 := by
        rw [lacc]
        decide
      refine add_lst' rfl rfl (show 6 + acc.length ≤ _ by omega) ?_
      refine gLst' (aE' (eTup' (aC' (aE' (eTup' ?_)))))
      refine aVar' rfl (aE' (eTup' (aC' (aE' (eTup' (aE' (gOp' ?_)))))))
      refine gVar' rfl (gC' ?_)
      refine ix_seq' (xs := strP (nms ls)) (p := .str z0) rfl (by rw [ens]; exact atI_nat (j := 0) rfl) ?_
      refine nilA' (fzA_cons (fun _ z => nomatch z) (fzNil' ?_))
      refine nilA' (fzA_cons (fun _ z => nomatch z) (fzA_cons (fun _ z => nomatch z) (fzNil' ?_)))
      refine nilA' (fzA_cons ncq (fzA_cons (fun _ z => nomatch z) (fzNil' ?_)))
      refine nilA' (fzA_cons (fun _ z => nomatch z) (fzA_cons (fun _ z => nomatch z) (fzNil' ?_)))
      refine nilA' (fzA_cons (fun _ z => nomatch z) (fzNil' ?_))
      refine add_lst' rfl rfl (by rw [List.length_append]; show 6 + acc.length + 1 ≤ _; omega) ?_
      have all : ∀ x ∈ ([q, o1, o2, .lst [q], .tup [.str "m", .tup [q, q]], .tup [q]] ++ acc) ++ [.tup [.str "m", .tup [q, .tup [.str "*", .tup [.str z0]]]]], Dt 1000 10 x := by
        intro x hx
        have nq := tdq.n
        have dq := tdq.d
        have tq := tdq.t
        have tm : tame (.str "m") = true := by decide +kernel
        have ts : tame (.str "*") = true := by decide +kernel
        rcases List.mem_append.mp hx with h | h
        · rcases List.mem_append.mp h with h | h
          · simp only [List.mem_cons, List.not_mem_nil, or_false] at h
            rcases h with rfl | rfl | rfl | rfl | rfl | rfl
            · exact ⟨d, eq, tdq.mono (by decide) (by decide)⟩
            · exact do1.mono (by decide) (by decide)
            · exact do2.mono (by decide) (by decide)
            · refine ⟨.list [d], by show (datAll [q]).map PyData.list = _; rw [dat_one eq]; rfl, ?_, ?_, ?_⟩
              · show (tame d && true) = true
                rw [tq]
                rfl
              · show ndD d + 0 + 1 ≤ _
                omega
              · show max d.depth 0 + 1 ≤ _
                omega
            · refine ⟨.tuple [.str "m", .tuple [d, d]], tup_dat rfl (by rw [datAll, datAll, datAll, show (PV.tup [q, q]).dat = some (.tuple [d, d]) from tup_dat rfl (by rw [datAll, datAll, datAll, eq])]; rfl), ?_, ?_, ?_⟩
              · show (tame (.str "m") && ((tame d && (tame d && true)) && true)) = true
                rw [tq, tm]
                rfl
              · show 1 + ((ndD d + (ndD d + 0) + 1) + 0) + 1 ≤ _
                omega
              · show max 0 (max (max d.depth (max d.depth 0) + 1) 0) + 1 ≤ _
                omega
            · refine ⟨.tuple [d], tup_dat rfl (dat_one eq), ?_, ?_, ?_⟩
              · show (tame d && true) = true
                rw [tq]
                rfl
              · show ndD d + 0 + 1 ≤ _
                omega
              · show max d.depth 0 + 1 ≤ _
                omega
          · exact (hacc x h).mono (by decide) (by decide)
        · rw [List.mem_singleton.mp h]
          refine ⟨.tuple [.str "m", .tuple [d, .tuple [.str "*", .tuple [.str z0]]]], tup_dat rfl (by
            rw [datAll, datAll, datAll, show (PV.tup [q, .tup [.str "*", .tup [.str z0]]]).dat = some (.tuple [d, .tuple [.str "*", .tuple [.str z0]]]) from tup_dat rfl (by
              rw [datAll, datAll, datAll, eq]
              rfl)]
            rfl), ?_, ?_, ?_⟩
          · show (tame (.str "m") && ((tame d && ((tame (.str "*") && ((tame (.str z0) && true) && true)) && true)) && true)) = true
            rw [tq, tm, ts, tame_name n0]
            rfl
          · show 1 + ((ndD d + ((1 + ((1 + 0 + 1) + 0) + 1) + 0) + 1) + 0) + 1 ≤ _
            omega
          · show max 0 (max (max d.depth (max (max 0 (max (max 0 0 + 1) 0) + 1) 0) + 1) 0) + 1 ≤ _
            omega
      have lt : (([q, o1, o2, PV.lst [q], PV.tup [PV.str "m", PV.tup [q, q]], PV.tup [q]] ++ acc) ++ [PV.tup [PV.str "m", PV.tup [q, PV.tup [PV.str "*", PV.tup [PV.str z0]]]]]).length ≤ 15 := by
        rw [List.length_append, List.length_append]
        show 6 + acc.length + 1 ≤ 15
        omega
      generalize ([q, o1, o2, PV.lst [q], PV.tup [PV.str "m", PV.tup [q, q]], PV.tup [q]] ++ acc) ++ [PV.tup [PV.str "m", PV.tup [q, PV.tup [PV.str "*", PV.tup [PV.str z0]]]]] = things at all lt ⊢
      refine nmP' ?_
      dsimp only [List.set]
      refine gSeq' (gForIt' (gVar' rfl ?_))
      refine for_by (fun _ e _ => ∃ v8 v9, e = [some (.sq (ns.map .int)), some (.int (0 + (i : Int))), some (.cell s), some (.lst (ls.map linP)), some (.lst (strP (nms ls))), some (kindsP C ls ls' T), some q, some (.lst things), v8, v9, v10, v11, v12]) (fun _ _ _ _ _ => trivial) ?_ ?_ ⟨_, _, rfl⟩
      · rintro j x e st ht ⟨v8, v9, rfl⟩
        obtain ⟨d2, ed, td⟩ := all x (List.mem_of_getElem? ht)
        have fit := td.fit (by decide) (by decide)
        obtain ⟨s1, s2, s3, s4⟩ := td.shown (by decide) (by decide)
        have few : (nms ls).length ≤ 60 := by omega
        refine nmP' ?_
        dsimp only [List.set]
        refine gSeq' (gAsg' (gCB1' (gVar' rfl (repr' ((dat_any ed).2.2 _) s1 s2 s3 s4 ?_))))
        refine nmP' ?_
        dsimp only [List.set]
        refine gIf' (gOr' (gBool' (gOp' (gCB1' (gCall' (aVar' rfl (aVar' rfl (nilA' (up.of ?_)))))))))
        refine w_istp ed fit few (by have := td.n; omega) fun st3 gr3 => ?_
        refine repr' (d := .bool _) rfl rfl rfl (Nat.zero_le _) (bool_shown _) ?_
        refine gCB1' (gCall' (aVar' rfl (aVar' rfl (aE' (gLstC' (nilA' (fzNil' ?_)))))))
        intro c nc
        refine nilA' (up.of ?_)
        refine w_one few nok 10 d2 (td.mono (Nat.le_refl _) (by decide)) td.d x [] c _ _ ed put_at List.nodup_nil (by have := td.n; show 0 + _ ≤ _; omega) fun b ms' st4 oth hc ndm lm eb em => ?_
        rw [List.nil_append] at eb
        have eb : b = tempD (nms ls) d2 := eb
        rw [eb]
        refine repr' (d := .bool _) rfl rfl rfl (Nat.zero_le _) (bool_shown _) ?_
        refine eq_str' ?_
        rw [decide_eq_true rfl, show xor true true = false from rfl]
        refine gBool' (gOp' (gCB1' (gVar' rfl (repr' ((dat_any ed).2.2 _) s1 s2 s3 s4 ?_))))
        refine gVar' rfl (eq_str' ?_)
        rw [decide_eq_true rfl, show xor true true = false from rfl]
        exact ⟨_, _, rfl⟩
      · rintro e st ⟨v8, v9, rfl⟩
        have few : (nms ls).length ≤ 60 := by omega
        dsimp only
        refine gIf' (gOr' (gBool' (gOp' (gCall' (aVar' rfl (aVar' rfl (nilA' (up.of ?_))))))))
        refine w_istp eq (tdq.fit (by decide) (by decide)) few (by have := tdq.n; omega) fun st3 gr3 => ?_
        rw [tOk]
        refine gC' (isB' ?_)
        rw [decide_eq_true rfl, show xor true true = false from rfl]
        refine gBool' (gOp' (gCall' (aVar' rfl (aE' (eTup' (aC' (aC' (nilA' (fzA_cons (fun _ z => nomatch z) (fzA_cons (fun _ z => nomatch z) (fzNil' ?_)))))))))))
        refine nilA' (up.of ?_)
        refine w_istp (d := .tuple [.str "zzzzzzzz", .int 1]) rfl ⟨by decide +kernel, by decide⟩ few (by decide) fun st4 gr4 => ?_
        rw [temp_z]
        refine gC' (isB' ?_)
        rw [decide_eq_true rfl, show xor true true = false from rfl]
        exact ⟨_, _, _, _, _, _, _, _, _, _, _, _, rfl⟩
  · rintro e st ⟨v1, v2, v3, v4, v5, v6, v7, v8, v9, v10, v11, v12, rfl⟩
    exact k _
end K1

namespace K1
open PySem PySem.Spec PyProof.Rows L2 Own Ev
/-! ### what the top has written -/
/-! ### the law, at its list of numbers -/
def spLaw (K : PySem.W.Frag) : Sp := fun vs H Q _ => ∃ (a : Addr) (ns : List Int), vs = [.ref a] ∧ SqL K H a (ns.map V.int) ∧ ns.length ≤ 63 ∧ ∀ H', Q (.bl true) H'
def anyI (_ : Hp) : Prop := True
theorem any_inv : Inv0 anyI := ⟨fun _ _ => trivial, fun _ _ _ _ => trivial, fun _ _ => trivial, fun _ _ _ _ => trivial⟩
section
variable {P : Program} {w : World} {K : PySem.W.Frag} {mg : Str → Option Value} {base : Heap} {k : Nat} {f : Addr} {fd : FuncData} {g : GF}
theorem ints_rp {G : Hp} : ∀ ns : List Int, RpAll K G (ns.map V.int) (ns.map PV.int)
  | [] => rfl
  | n :: r => ⟨_, _, rfl, rfl, ints_rp r⟩
theorem law_of {I : Hp → Prop} (hI : ∀ H, I H) (G : FnG P w K mg base k f fd ["script"] (spE I K g)) (h : ∀ ns : List Int, ns.length ≤ 63 → ∀ st Q, (∀ s, Q (.bl true) s) → g [.sq (ns.map .int)] st Q) : FnG P w K mg base k f fd ["script"] (spLaw K) := by
  have up' : ∀ vs H Q E, spLaw K vs H Q E → spE I K g vs H Q E := fun vs H Q E ⟨a, ns, e, hS, l, q⟩ => by
    subst e
    have nn : ∀ b, ¬ Nn (fun _ => False) (fun _ => none) b := fun b m => m.elim id fun q => q rfl
    refine ⟨fun _ => False, fun _ => none, [.sq (ns.map .int)], ⟨fun _ z => z.elim, fun _ z => z.elim, (fun _ _ z => nomatch z), hI H⟩, ⟨_, _, rfl, ⟨a, ns.map .int, rfl, hS.imp (fun r => r.elim (fun e => .inl (hd_some.mpr ⟨nn a, e, rfl⟩)) fun ⟨u, e⟩ => .inr ⟨u, hd_some.mpr ⟨nn a, e, rfl⟩⟩) id, ints_rp ns⟩, rfl⟩, up.of (h ns l _ _ fun s => ?_)⟩
    intro v H' _ _ r
    rw [show v = .bl true from r]
    exact q H'
  exact ⟨fun vs H Q E q => G.len vs H Q E (up' vs H Q E q), fun A out s H args us vs Q E a b c d e q => G.run A out s H args us vs Q E a b c d e (up' vs H Q E q)⟩
theorem dfn_mk {I : Hp → Prop} {x : Str} {ps : List Str} (G : FnG P w K mg base k f fd ps (spE I K g)) (hk : PySem.W.keepIn K (.ref f) = true) (hb : Binds K fd ps []) (hm : mg x = some (.ref f)) : Dfn I P w K mg base x k ps g := ⟨f, fd, G, hk, hb, hm⟩
theorem none_E {I : Hp → Prop} {ps : List Str} : FnG P w K mg base k f fd ps (spE I K fun _ _ _ => False) := ⟨fun vs H Q E ⟨F, st, qs, _, _, Q1, h, _⟩ => h.elim, fun A out s H args us vs Q E _ _ _ _ _ ⟨F, st, qs, _, _, Q1, h, _⟩ => h.elim⟩

theorem all_tp  {I : Hp → Prop} (i0 : Inv0 I) (F : Fun K "_law_template" "_law_template" sLawTemplate f fd) (hk : PySem.W.keepIn K (.ref f) = true) (hb : Binds K fd ["bag", "names", "left", "deep"] []) (hm : mg "_law_template" = some (.ref f)) (D__law_take : Dfn I P w K mg base "_law_take" 1 ["bag", "many"] (g_draw)) (y_len : mg "len" = none) (y_range : mg "range" = none) (y_sorted : mg "sorted" = none) (y_tuple : mg "tuple" = none) : ∀ m, FnG P w K mg base (m + 1) f fd ["bag", "names", "left", "deep"] (spE I K (gTP m)) := by
  intro m
  induction m with
  | zero => exact none_E
  | succ m ih => exact ok_tp (gr := gTP m) (lv := m) i0 F D__law_take (dfn_mk ih hk hb hm) y_len y_range y_sorted y_tuple
theorem all_bent  {I : Hp → Prop} (i0 : Inv0 I) (F : Fun K "_law_bent" "_law_bent" sLawBent f fd) (hk : PySem.W.keepIn K (.ref f) = true) (hb : Binds K fd ["bag", "thing"] []) (hm : mg "_law_bent" = some (.ref f)) (D__law_take : Dfn I P w K mg base "_law_take" 1 ["bag", "many"] (g_draw)) (y_isinstance : mg "isinstance" = none) (y_len : mg "len" = none) (y_list : mg "list" = none) (y_tuple : mg "tuple" = none) : ∀ m, FnG P w K mg base (m + 1) f fd ["bag", "thing"] (spE I K (gBT m)) := by
  intro m
  induction m with
  | zero => exact none_E
  | succ m ih => exact ok_bent (gr := gBT m) (lv := m) i0 F (dfn_mk ih hk hb hm) D__law_take y_isinstance y_len y_list y_tuple
theorem all_one  {I : Hp → Prop} (i0 : Inv0 I) (F : Fun K "_law_is_one" "_law_is_one" sLawIsOne f fd) (hk : PySem.W.keepIn K (.ref f) = true) (hb : Binds K fd ["names", "thing", "met"] []) (hm : mg "_law_is_one" = some (.ref f)) (y_all : mg "all" = none) (y_int : mg "int" = none) (y_isinstance : mg "isinstance" = none) (y_len : mg "len" = none) (y_list : mg "list" = none) (y_repr : mg "repr" = none) (y_sorted : mg "sorted" = none) (y_str : mg "str" = none) (y_tuple : mg "tuple" = none) : ∀ m, FnG P w K mg base (m + 1) f fd ["names", "thing", "met"] (spE I K (gIO m)) := by
  intro m
  induction m with
  | zero => exact none_E
  | succ m ih => exact ok_one (gr := gIO m) (lv := m) i0 F (dfn_mk ih hk hb hm) y_all y_int y_isinstance y_len y_list y_repr y_sorted y_str y_tuple
end
theorem all_mk {l : PySem.W.OpenLaw} {w : World} {K : PySem.W.Frag} {h : Heap} {mg : Str → Option Value} {fa C pF f1 f2 f3 f4 f5 f6 f7 f8 f9 f10 f11 f12 f13 f14 f15 f16 f17 f18 f19 f20 f21 f22 f23 f24 : Addr} (X : K.In h) (G : h.Ns mainGlobals mg) (hfa : mg "law" = some (.ref fa))
    {restF : List Value} {tM tL tA : Tok} {od1 an1 od2 an2 od3 an3 od4 an4 od5 an5 od6 an6 od7 an7 od8 an8 od9 an9 od10 an10 od11 an11 od12 an12 od13 an13 od14 an14 od15 an15 od16 an16 od17 an17 od18 an18 od19 an19 od20 an20 od21 an21 od22 an22 od23 an23 od24 an24 : Option Addr} {sl1 sl2 sl3 sl4 sl5 sl6 sl7 sl8 sl9 sl10 sl11 sl12 sl13 sl14 sl15 sl16 sl17 sl18 sl19 sl20 sl21 sl22 sl23 sl24 : Array (Option Value)}
    {oc1 kV1 dc1 pm1 cd1 ct1 oc2 kV2 dc2 pm2 cd2 ct2 oc3 kV3 dc3 pm3 cd3 ct3 oc4 kV4 dc4 pm4 cd4 ct4 oc5 kV5 dc5 pm5 cd5 ct5 oc6 kV6 dc6 pm6 cd6 ct6 oc7 kV7 dc7 pm7 cd7 ct7 oc8 kV8 dc8 pm8 cd8 ct8 oc9 kV9 dc9 pm9 cd9 ct9 oc10 kV10 dc10 pm10 cd10 ct10 oc11 kV11 dc11 pm11 cd11 ct11 oc12 kV12 dc12 pm12 cd12 ct12 oc13 kV13 dc13 pm13 cd13 ct13 oc14 kV14 dc14 pm14 cd14 ct14 oc15 kV15 dc15 pm15 cd15 ct15 oc16 kV16 dc16 pm16 cd16 ct16 oc17 kV17 dc17 pm17 cd17 ct17 oc18 kV18 dc18 pm18 cd18 ct18 oc19 kV19 dc19 pm19 cd19 ct19 oc20 kV20 dc20 pm20 cd20 ct20 oc21 kV21 dc21 pm21 cd21 ct21 oc22 kV22 dc22 pm22 cd22 ct22 oc23 kV23 dc23 pm23 cd23 ct23 oc24 kV24 dc24 pm24 cd24 ct24 : Value}
    (aC : PySem.W.nsIn K mainGlobals "Kinds" = some (some (.ref C)))
    (a1 : PySem.W.nsIn K mainGlobals "is_name" = some (some (.ref f1)))
    (l1 : K.lookup f1 = some ⟨oc1, od1, .func (PySem.W.fnOf "is_name" "is_name" (defArgs sIsName) (defBody sIsName) (defScope sIsName) .none kV1 dc1 pm1 an1 cd1 ct1), sl1⟩)
    (c1 : PySem.W.codeIn K cd1 "is_name" = true)
    (k1 : PySem.W.keepIn K (.ref f1) = true)
    (a2 : PySem.W.nsIn K mainGlobals "is_number" = some (some (.ref f2)))
    (l2 : K.lookup f2 = some ⟨oc2, od2, .func (PySem.W.fnOf "is_number" "is_number" (defArgs sIsNumber) (defBody sIsNumber) (defScope sIsNumber) .none kV2 dc2 pm2 an2 cd2 ct2), sl2⟩)
    (c2 : PySem.W.codeIn K cd2 "is_number" = true)
    (k2 : PySem.W.keepIn K (.ref f2) = true)
    (a3 : PySem.W.nsIn K mainGlobals "is_pair" = some (some (.ref f3)))
    (l3 : K.lookup f3 = some ⟨oc3, od3, .func (PySem.W.fnOf "is_pair" "is_pair" (defArgs sIsPair) (defBody sIsPair) (defScope sIsPair) .none kV3 dc3 pm3 an3 cd3 ct3), sl3⟩)
    (c3 : PySem.W.codeIn K cd3 "is_pair" = true)
    (k3 : PySem.W.keepIn K (.ref f3) = true)
    (a4 : PySem.W.nsIn K mainGlobals "is_group" = some (some (.ref f4)))
    (l4 : K.lookup f4 = some ⟨oc4, od4, .func (PySem.W.fnOf "is_group" "is_group" (defArgs sIsGroup) (defBody sIsGroup) (defScope sIsGroup) .none kV4 dc4 pm4 an4 cd4 ct4), sl4⟩)
    (c4 : PySem.W.codeIn K cd4 "is_group" = true)
    (k4 : PySem.W.keepIn K (.ref f4) = true)
    (a5 : PySem.W.nsIn K mainGlobals "is_template" = some (some (.ref f5)))
    (l5 : K.lookup f5 = some ⟨oc5, od5, .func (PySem.W.fnOf "is_template" "is_template" (defArgs sIsTemplate) (defBody sIsTemplate) (defScope sIsTemplate) .none kV5 dc5 pm5 an5 cd5 ct5), sl5⟩)
    (c5 : PySem.W.codeIn K cd5 "is_template" = true)
    (k5 : PySem.W.keepIn K (.ref f5) = true)
    (a6 : PySem.W.nsIn K mainGlobals "_is_hole_of" = some (some (.ref f6)))
    (l6 : K.lookup f6 = some ⟨oc6, od6, .func (PySem.W.fnOf "_is_hole_of" "_is_hole_of" (defArgs sIsHoleOf) (defBody sIsHoleOf) (defScope sIsHoleOf) .none kV6 dc6 pm6 an6 cd6 ct6), sl6⟩)
    (c6 : PySem.W.codeIn K cd6 "_is_hole_of" = true)
    (k6 : PySem.W.keepIn K (.ref f6) = true)
    (a7 : PySem.W.nsIn K mainGlobals "_is_new_leaf" = some (some (.ref f7)))
    (l7 : K.lookup f7 = some ⟨oc7, od7, .func (PySem.W.fnOf "_is_new_leaf" "_is_new_leaf" (defArgs sIsNewLeaf) (defBody sIsNewLeaf) (defScope sIsNewLeaf) .none kV7 dc7 pm7 an7 cd7 ct7), sl7⟩)
    (c7 : PySem.W.codeIn K cd7 "_is_new_leaf" = true)
    (k7 : PySem.W.keepIn K (.ref f7) = true)
    (a8 : PySem.W.nsIn K mainGlobals "_are_rows" = some (some (.ref f8)))
    (l8 : K.lookup f8 = some ⟨oc8, od8, .func (PySem.W.fnOf "_are_rows" "_are_rows" (defArgs sAreRows) (defBody sAreRows) (defScope sAreRows) .none kV8 dc8 pm8 an8 cd8 ct8), sl8⟩)
    (c8 : PySem.W.codeIn K cd8 "_are_rows" = true)
    (k8 : PySem.W.keepIn K (.ref f8) = true)
    (a9 : PySem.W.nsIn K mainGlobals "_check_names" = some (some (.ref f9)))
    (l9 : K.lookup f9 = some ⟨oc9, od9, .func (PySem.W.fnOf "_check_names" "_check_names" (defArgs sCkNames) (defBody sCkNames) (defScope sCkNames) .none kV9 dc9 pm9 an9 cd9 ct9), sl9⟩)
    (c9 : PySem.W.codeIn K cd9 "_check_names" = true)
    (k9 : PySem.W.keepIn K (.ref f9) = true)
    (a10 : PySem.W.nsIn K mainGlobals "_check_bases" = some (some (.ref f10)))
    (l10 : K.lookup f10 = some ⟨oc10, od10, .func (PySem.W.fnOf "_check_bases" "_check_bases" (defArgs sCkBases) (defBody sCkBases) (defScope sCkBases) .none kV10 dc10 pm10 an10 cd10 ct10), sl10⟩)
    (c10 : PySem.W.codeIn K cd10 "_check_bases" = true)
    (k10 : PySem.W.keepIn K (.ref f10) = true)
    (a11 : PySem.W.nsIn K mainGlobals "_are_bases" = some (some (.ref f11)))
    (l11 : K.lookup f11 = some ⟨oc11, od11, .func (PySem.W.fnOf "_are_bases" "_are_bases" (defArgs sAreBases) (defBody sAreBases) (defScope sAreBases) .none kV11 dc11 pm11 an11 cd11 ct11), sl11⟩)
    (c11 : PySem.W.codeIn K cd11 "_are_bases" = true)
    (k11 : PySem.W.keepIn K (.ref f11) = true)
    (a12 : PySem.W.nsIn K mainGlobals "_all_above" = some (some (.ref f12)))
    (l12 : K.lookup f12 = some ⟨oc12, od12, .func (PySem.W.fnOf "_all_above" "_all_above" (defArgs sAllAbove) (defBody sAllAbove) (defScope sAllAbove) .none kV12 dc12 pm12 an12 cd12 ct12), sl12⟩)
    (c12 : PySem.W.codeIn K cd12 "_all_above" = true)
    (k12 : PySem.W.keepIn K (.ref f12) = true)
    (a13 : PySem.W.nsIn K mainGlobals "_law_bag" = some (some (.ref f13)))
    (l13 : K.lookup f13 = some ⟨oc13, od13, .func (PySem.W.fnOf "_law_bag" "_law_bag" (defArgs sLawBag) (defBody sLawBag) (defScope sLawBag) .none kV13 dc13 pm13 an13 cd13 ct13), sl13⟩)
    (c13 : PySem.W.codeIn K cd13 "_law_bag" = true)
    (k13 : PySem.W.keepIn K (.ref f13) = true)
    (a14 : PySem.W.nsIn K mainGlobals "_law_take" = some (some (.ref f14)))
    (l14 : K.lookup f14 = some ⟨oc14, od14, .func (PySem.W.fnOf "_law_take" "_law_take" (defArgs sLawTake) (defBody sLawTake) (defScope sLawTake) .none kV14 dc14 pm14 an14 cd14 ct14), sl14⟩)
    (c14 : PySem.W.codeIn K cd14 "_law_take" = true)
    (k14 : PySem.W.keepIn K (.ref f14) = true)
    (a15 : PySem.W.nsIn K mainGlobals "_law_rows" = some (some (.ref f15)))
    (l15 : K.lookup f15 = some ⟨oc15, od15, .func (PySem.W.fnOf "_law_rows" "_law_rows" (defArgs sLawRows) (defBody sLawRows) (defScope sLawRows) .none kV15 dc15 pm15 an15 cd15 ct15), sl15⟩)
    (c15 : PySem.W.codeIn K cd15 "_law_rows" = true)
    (k15 : PySem.W.keepIn K (.ref f15) = true)
    (a16 : PySem.W.nsIn K mainGlobals "_law_template" = some (some (.ref f16)))
    (l16 : K.lookup f16 = some ⟨oc16, od16, .func (PySem.W.fnOf "_law_template" "_law_template" (defArgs sLawTemplate) (defBody sLawTemplate) (defScope sLawTemplate) .none kV16 dc16 pm16 an16 cd16 ct16), sl16⟩)
    (c16 : PySem.W.codeIn K cd16 "_law_template" = true)
    (k16 : PySem.W.keepIn K (.ref f16) = true)
    (a17 : PySem.W.nsIn K mainGlobals "_law_odd" = some (some (.ref f17)))
    (l17 : K.lookup f17 = some ⟨oc17, od17, .func (PySem.W.fnOf "_law_odd" "_law_odd" (defArgs sLawOdd) (defBody sLawOdd) (defScope sLawOdd) .none kV17 dc17 pm17 an17 cd17 ct17), sl17⟩)
    (c17 : PySem.W.codeIn K cd17 "_law_odd" = true)
    (k17 : PySem.W.keepIn K (.ref f17) = true)
    (a18 : PySem.W.nsIn K mainGlobals "_law_bent" = some (some (.ref f18)))
    (l18 : K.lookup f18 = some ⟨oc18, od18, .func (PySem.W.fnOf "_law_bent" "_law_bent" (defArgs sLawBent) (defBody sLawBent) (defScope sLawBent) .none kV18 dc18 pm18 an18 cd18 ct18), sl18⟩)
    (c18 : PySem.W.codeIn K cd18 "_law_bent" = true)
    (k18 : PySem.W.keepIn K (.ref f18) = true)
    (a19 : PySem.W.nsIn K mainGlobals "_law_is_one" = some (some (.ref f19)))
    (l19 : K.lookup f19 = some ⟨oc19, od19, .func (PySem.W.fnOf "_law_is_one" "_law_is_one" (defArgs sLawIsOne) (defBody sLawIsOne) (defScope sLawIsOne) .none kV19 dc19 pm19 an19 cd19 ct19), sl19⟩)
    (c19 : PySem.W.codeIn K cd19 "_law_is_one" = true)
    (k19 : PySem.W.keepIn K (.ref f19) = true)
    (a20 : PySem.W.nsIn K mainGlobals "law" = some (some (.ref f20)))
    (l20 : K.lookup f20 = some ⟨oc20, od20, .func (PySem.W.fnOf "law" "law" (defArgs sLaw) (defBody sLaw) (defScope sLaw) .none kV20 dc20 pm20 an20 cd20 ct20), sl20⟩)
    (c20 : PySem.W.codeIn K cd20 "law" = true)
    (k20 : PySem.W.keepIn K (.ref f20) = true)
    (a21 : PySem.W.findIn K (.ref C) "__init__" = some (some (.ref f21)))
    (i21 : PySem.W.isFn K (.ref f21) = true)
    (l21 : K.lookup f21 = some ⟨oc21, od21, .func (PySem.W.fnOf "__init__" "Kinds.__init__" (defArgs sInit) (defBody sInit) (defScope sInit) .none kV21 dc21 pm21 an21 cd21 ct21), sl21⟩)
    (c21 : PySem.W.codeIn K cd21 "Kinds.__init__" = true)
    (k21 : PySem.W.keepIn K (.ref f21) = true)
    (a22 : PySem.W.findIn K (.ref C) "_take" = some (some (.ref f22)))
    (i22 : PySem.W.isFn K (.ref f22) = true)
    (l22 : K.lookup f22 = some ⟨oc22, od22, .func (PySem.W.fnOf "_take" "Kinds._take" (defArgs sTake) (defBody sTake) (defScope sTake) .none kV22 dc22 pm22 an22 cd22 ct22), sl22⟩)
    (c22 : PySem.W.codeIn K cd22 "Kinds._take" = true)
    (k22 : PySem.W.keepIn K (.ref f22) = true)
    (a23 : PySem.W.findIn K (.ref C) "__contains__" = some (some (.ref f23)))
    (i23 : PySem.W.isFn K (.ref f23) = true)
    (l23 : K.lookup f23 = some ⟨oc23, od23, .func (PySem.W.fnOf "__contains__" "Kinds.__contains__" (defArgs sIn) (defBody sIn) (defScope sIn) .none kV23 dc23 pm23 an23 cd23 ct23), sl23⟩)
    (c23 : PySem.W.codeIn K cd23 "Kinds.__contains__" = true)
    (k23 : PySem.W.keepIn K (.ref f23) = true)
    (rd : PySem.W.readsIn K C (.type "type") = true)
    (ga : PySem.W.specialIn K (.ref C) "__getattribute__" = some (some (.builtin "type.__getattribute__")))
    (a24 : PySem.W.findCls K (.ref C) (.type "type") "of" = some (.get (.builtin "classmethod.__get__") (.ref pF) .none (.ref C)))
    (r24 : PySem.W.recIn K pF "classmethod" = some (.ref f24 :: restF))
    (i24 : PySem.W.fnIn K f24 = true)
    (l24 : K.lookup f24 = some ⟨oc24, od24, .func (PySem.W.fnOf "of" "Kinds.of" (defArgs sOf) (defBody sOf) (defScope sOf) .none kV24 dc24 pm24 an24 cd24 ct24), sl24⟩)
    (c24 : PySem.W.codeIn K cd24 "Kinds.of" = true)
    (k24 : PySem.W.keepIn K (.ref f24) = true)
    (pg : PySem.W.plainGet K C Str.empty = true)
    (hd : PySem.W.hasDictIn K C = true)
    (po : PySem.W.plainOver K C = true)
    (sa : PySem.W.findIn K (.ref C) "__setattr__" = some (some (.builtin "object.__setattr__")))
    (mk : PySem.W.makesIn K C = true)
    (kc : PySem.W.keepIn K (.ref C) = true)
    (nR : PySem.W.findIn K (.ref C) "_rows" = some none)
    (nA : PySem.W.findIn K (.ref C) "_above" = some none)
    (lm : PySem.W.findIn K (.ref C) "LIMIT" = some (some (.int 7 tM)))
    (lg : PySem.W.specialIn K (.int 7 tM) "__get__" = some none)
    (vL : PySem.W.nsIn K mainGlobals "LONGEST_NAME" = some (some (.int 8 tL)))
    (vA : PySem.W.nsIn K mainGlobals "LETTERS" = some (some (.str abc tA)))
    (z_len : PySem.W.nsIn K mainGlobals "len" = some none)
    (z_isinstance : PySem.W.nsIn K mainGlobals "isinstance" = some none)
    (z_str : PySem.W.nsIn K mainGlobals "str" = some none)
    (z_all : PySem.W.nsIn K mainGlobals "all" = some none)
    (z_tuple : PySem.W.nsIn K mainGlobals "tuple" = some none)
    (z_list : PySem.W.nsIn K mainGlobals "list" = some none)
    (z_sorted : PySem.W.nsIn K mainGlobals "sorted" = some none)
    (z_abs : PySem.W.nsIn K mainGlobals "abs" = some none)
    (z_range : PySem.W.nsIn K mainGlobals "range" = some none)
    (z_min : PySem.W.nsIn K mainGlobals "min" = some none)
    (z_max : PySem.W.nsIn K mainGlobals "max" = some none)
    (z_int : PySem.W.nsIn K mainGlobals "int" = some none)
    (z_bool : PySem.W.nsIn K mainGlobals "bool" = some none)
    (z_set : PySem.W.nsIn K mainGlobals "set" = some none)
    (z_repr : PySem.W.nsIn K mainGlobals "repr" = some none) :
    ∃ fd : FuncData, (∀ (s : Shared) (v : Value), BindsTo s fd ⟨[v], []⟩ [("script", v)]) ∧ ∀ base : Heap, K.In base → base.Ns mainGlobals mg → FnG l.prog w K mg base 21 fa fd ["script"] (spLaw K) := by
  have e := hfa.symm.trans (PySem.W.mg_of X G a20)
  cases e
  have F1 := fun_mk (st := sIsName) l1 c1 k1
  have b1 := F1.binds (ps := ["thing"]) fun _ _ _ _ _ _ us hl => match us, hl with | [_], _ => rfl
  have F2 := fun_mk (st := sIsNumber) l2 c2 k2
  have b2 := F2.binds (ps := ["thing"]) fun _ _ _ _ _ _ us hl => match us, hl with | [_], _ => rfl
  have F3 := fun_mk (st := sIsPair) l3 c3 k3
  have b3 := F3.binds (ps := ["thing"]) fun _ _ _ _ _ _ us hl => match us, hl with | [_], _ => rfl
  have F4 := fun_mk (st := sIsGroup) l4 c4 k4
  have b4 := F4.binds (ps := ["thing"]) fun _ _ _ _ _ _ us hl => match us, hl with | [_], _ => rfl
  have F5 := fun_mk (st := sIsTemplate) l5 c5 k5
  have b5 := F5.binds (ps := ["kinds", "thing"]) fun _ _ _ _ _ _ us hl => match us, hl with | [_, _], _ => rfl
  have F6 := fun_mk (st := sIsHoleOf) l6 c6 k6
  have b6 := F6.binds (ps := ["kinds", "thing"]) fun _ _ _ _ _ _ us hl => match us, hl with | [_, _], _ => rfl
  have F7 := fun_mk (st := sIsNewLeaf) l7 c7 k7
  have b7 := F7.binds (ps := ["kinds", "thing"]) fun _ _ _ _ _ _ us hl => match us, hl with | [_, _], _ => rfl
  have F8 := fun_mk (st := sAreRows) l8 c8 k8
  have b8 := F8.binds (ps := ["thing"]) fun _ _ _ _ _ _ us hl => match us, hl with | [_], _ => rfl
  have F9 := fun_mk (st := sCkNames) l9 c9 k9
  have b9 := F9.binds (ps := ["rows"]) fun _ _ _ _ _ _ us hl => match us, hl with | [_], _ => rfl
  have F10 := fun_mk (st := sCkBases) l10 c10 k10
  have b10 := F10.binds (ps := ["rows"]) fun _ _ _ _ _ _ us hl => match us, hl with | [_], _ => rfl
  have F11 := fun_mk (st := sAreBases) l11 c11 k11
  have b11 := F11.binds (ps := ["thing", "before"]) fun _ _ _ _ _ _ us hl => match us, hl with | [_, _], _ => rfl
  have F12 := fun_mk (st := sAllAbove) l12 c12 k12
  have b12 := F12.binds (ps := ["rows"]) fun _ _ _ _ _ _ us hl => match us, hl with | [_], _ => rfl
  have F13 := fun_mk (st := sLawBag) l13 c13 k13
  have b13 := F13.binds (ps := ["script", "at"]) fun _ _ _ _ _ _ us hl => match us, hl with | [_, _], _ => rfl
  have F14 := fun_mk (st := sLawTake) l14 c14 k14
  have b14 := F14.binds (ps := ["bag", "many"]) fun _ _ _ _ _ _ us hl => match us, hl with | [_, _], _ => rfl
  have F15 := fun_mk (st := sLawRows) l15 c15 k15
  have b15 := F15.binds (ps := ["bag", "most"]) fun _ _ _ _ _ _ us hl => match us, hl with | [_, _], _ => rfl
  have F16 := fun_mk (st := sLawTemplate) l16 c16 k16
  have b16 := F16.binds (ps := ["bag", "names", "left", "deep"]) fun _ _ _ _ _ _ us hl => match us, hl with | [_, _, _, _], _ => rfl
  have F17 := fun_mk (st := sLawOdd) l17 c17 k17
  have b17 := F17.binds (ps := ["bag", "names"]) fun _ _ _ _ _ _ us hl => match us, hl with | [_, _], _ => rfl
  have F18 := fun_mk (st := sLawBent) l18 c18 k18
  have b18 := F18.binds (ps := ["bag", "thing"]) fun _ _ _ _ _ _ us hl => match us, hl with | [_, _], _ => rfl
  have F19 := fun_mk (st := sLawIsOne) l19 c19 k19
  have b19 := F19.binds (ps := ["names", "thing", "met"]) fun _ _ _ _ _ _ us hl => match us, hl with | [_, _, _], _ => rfl
  have F20 := fun_mk (st := sLaw) l20 c20 k20
  have F21 := fun_mk (st := sInit) l21 c21 k21
  have F22 := fun_mk (st := sTake) l22 c22 k22
  have b22 := F22.binds (ps := ["self", "rows"]) fun _ _ _ _ _ _ us hl => match us, hl with | [_, _], _ => rfl
  have F23 := fun_mk (st := sIn) l23 c23 k23
  have b23 := F23.binds (ps := ["self", "x"]) fun _ _ _ _ _ _ us hl => match us, hl with | [_, _], _ => rfl
  have F24 := fun_mk (st := sOf) l24 c24 k24
  have b24 := F24.binds (ps := ["cls", "rows"]) fun _ _ _ _ _ _ us hl => match us, hl with | [_, _], _ => rfl
  have m1 := PySem.W.mg_of X G a1
  have m2 := PySem.W.mg_of X G a2
  have m3 := PySem.W.mg_of X G a3
  have m4 := PySem.W.mg_of X G a4
  have m5 := PySem.W.mg_of X G a5
  have m6 := PySem.W.mg_of X G a6
  have m7 := PySem.W.mg_of X G a7
  have m8 := PySem.W.mg_of X G a8
  have m9 := PySem.W.mg_of X G a9
  have m10 := PySem.W.mg_of X G a10
  have m11 := PySem.W.mg_of X G a11
  have m12 := PySem.W.mg_of X G a12
  have m13 := PySem.W.mg_of X G a13
  have m14 := PySem.W.mg_of X G a14
  have m15 := PySem.W.mg_of X G a15
  have m16 := PySem.W.mg_of X G a16
  have m17 := PySem.W.mg_of X G a17
  have m18 := PySem.W.mg_of X G a18
  have m19 := PySem.W.mg_of X G a19
  have y_len := PySem.W.mg_none_of X G z_len
  have y_isinstance := PySem.W.mg_none_of X G z_isinstance
  have y_str := PySem.W.mg_none_of X G z_str
  have y_all := PySem.W.mg_none_of X G z_all
  have y_tuple := PySem.W.mg_none_of X G z_tuple
  have y_list := PySem.W.mg_none_of X G z_list
  have y_sorted := PySem.W.mg_none_of X G z_sorted
  have y_abs := PySem.W.mg_none_of X G z_abs
  have y_range := PySem.W.mg_none_of X G z_range
  have y_min := PySem.W.mg_none_of X G z_min
  have y_max := PySem.W.mg_none_of X G z_max
  have y_int := PySem.W.mg_none_of X G z_int
  have y_bool := PySem.W.mg_none_of X G z_bool
  have y_set := PySem.W.mg_none_of X G z_set
  have y_repr := PySem.W.mg_none_of X G z_repr
  have T : KTxt K mg C := ⟨⟨pg, hd, po, sa⟩, nR, nA, ⟨_, lm, ⟨_, rfl⟩, lg, rfl⟩, PySem.W.mg_of X G aC, y_len, y_sorted, y_list⟩
  have M : Mk K C f21 := ⟨mk, a21, i21, kc⟩
  have mT : Meth K C "_take" f22 := ⟨a22, i22, k22⟩
  have cI : Spc K C "__contains__" f23 := ⟨a23, i23⟩
  have cr : ClX.CRead K C (.type "type") := ⟨rd, ga⟩
  have cm : ClX.CMet K C (.type "type") "of" pF f24 := ⟨a24, ⟨_, r24⟩, i24⟩
  refine ⟨PySem.W.fnOf "law" "law" (defArgs sLaw) (defBody sLaw) (defScope sLaw) .none kV20 dc20 pm20 an20 cd20 ct20, fun s v => .of_eq rfl, fun base _ _ => ?_⟩
  have GisName := ok_isName (P := l.prog) (w := w) (mg := mg) (base := base) F1 y_len y_isinstance y_str y_all (PySem.W.mg_of X G vL) (PySem.W.mg_of X G vA)
  have GisNameD := ok_isNameD (P := l.prog) (w := w) (mg := mg) (base := base) F1 y_len y_isinstance y_str y_all (PySem.W.mg_of X G vL) (PySem.W.mg_of X G vA)
  have GisPair := ok_isPair (P := l.prog) (w := w) (mg := mg) (base := base) F3 y_len y_isinstance y_tuple
  have GisPairD := ok_isPairD (P := l.prog) (w := w) (mg := mg) (base := base) F3 y_len y_isinstance y_tuple
  have GisNumD := ok_isNumD (P := l.prog) (w := w) (mg := mg) (base := base) F2 y_isinstance y_int y_bool
  have GisGroup := ok_isGroup (P := l.prog) (w := w) (mg := mg) (base := base) F4 GisPairD k3 b3 m3 GisNameD k1 b1 m1 y_len y_isinstance y_tuple
  have Gin := ok_in (P := l.prog) (w := w) (mg := mg) (base := base) F23 T y_isinstance y_str
  have GareRows := ok_areRows (P := l.prog) (w := w) (mg := mg) (base := base) F8 GisPair k3 b3 m3 y_isinstance y_all y_list y_tuple
  have GckNames := ok_ckNames (P := l.prog) (w := w) (mg := mg) (base := base) F9 GisName k1 b1 m1
  have GareBases := ok_areBases (P := l.prog) (w := w) (mg := mg) (base := base) F11 y_isinstance y_list y_tuple
  have GckBases := ok_ckBases (P := l.prog) (w := w) (mg := mg) (base := base) F10 GareBases k11 b11 m11
  have GallAbove := ok_allAbove (P := l.prog) (w := w) (mg := mg) (base := base) F12 y_sorted
  have Gtake := ok_take (P := l.prog) (w := w) (mg := mg) (base := base) F22 T GckNames k9 b9 m9 GckBases k10 b10 m10 GallAbove k12 b12 m12
  have Ginit := ok_init (P := l.prog) (w := w) (mg := mg) (base := base) F21 T Gtake mT b22
  have Gof := ok_of (P := l.prog) (w := w) (mg := mg) (base := base) F24 T M Ginit Gtake mT b22 GareRows k8 b8 m8
  have Gsource := ok_source (P := l.prog) (w := w) (mg := mg) (base := base) F13 y_len y_abs
  have Gdraw := ok_draw (P := l.prog) (w := w) (mg := mg) (base := base) F14
  have D__law_bag := dfn_mk (x := "_law_bag") (e_source any_inv Gsource) k13 b13 m13
  have D__law_take := dfn_mk (x := "_law_take") (e_draw any_inv Gdraw) k14 b14 m14
  have D_is_pair := dfn_mk (x := "is_pair") (e_D1 any_inv GisPairD) k3 b3 m3
  have D_is_name := dfn_mk (x := "is_name") (e_D1 any_inv GisNameD) k1 b1 m1
  have D_is_number := dfn_mk (x := "is_number") (e_D1 any_inv GisNumD) k2 b2 m2
  have D_is_group := dfn_mk (x := "is_group") (e_D1 any_inv GisGroup) k4 b4 m4
  have D_in : InOk l.prog w K mg base C := ⟨_, _, cI, Gin, b23⟩
  have D_of : OfOk l.prog w K mg base C := ⟨_, _, _, _, cr, cm, Gof, b24, PySem.W.mg_of X G aC⟩
  have D__law_rows := dfn_mk (x := "_law_rows") (ok_rows (P := l.prog) (w := w) (mg := mg) (base := base) any_inv F15 D__law_take y_range y_tuple) k15 b15 m15
  have D__law_template := dfn_mk (x := "_law_template") (all_tp (P := l.prog) (w := w) (mg := mg) (base := base) any_inv F16 k16 b16 m16 D__law_take y_len y_range y_sorted y_tuple 4) k16 b16 m16
  have D__law_odd := dfn_mk (x := "_law_odd") (ok_odd (P := l.prog) (w := w) (mg := mg) (base := base) any_inv F17 D__law_take y_tuple) k17 b17 m17
  have D__law_bent := dfn_mk (x := "_law_bent") (all_bent (P := l.prog) (w := w) (mg := mg) (base := base) any_inv F18 k18 b18 m18 D__law_take y_isinstance y_len y_list y_tuple 9) k18 b18 m18
  have D__law_is_one := dfn_mk (x := "_law_is_one") (all_one (P := l.prog) (w := w) (mg := mg) (base := base) any_inv F19 k19 b19 m19 y_all y_int y_isinstance y_len y_list y_repr y_sorted y_str y_tuple 11) k19 b19 m19
  have D__is_hole_of := dfn_mk (x := "_is_hole_of") (ok_hole (P := l.prog) (w := w) (mg := mg) (base := base) any_inv F6 D_is_pair D_in y_all y_isinstance y_list y_set y_sorted y_tuple) k6 b6 m6
  have D__is_new_leaf := dfn_mk (x := "_is_new_leaf") (ok_nleaf (P := l.prog) (w := w) (mg := mg) (base := base) any_inv F7 D_is_number D_is_pair D_in) k7 b7 m7
  have D_is_template := dfn_mk (x := "is_template") (ok_istp (P := l.prog) (w := w) (mg := mg) (base := base) any_inv F5 D__is_hole_of D__is_new_leaf D_is_group y_len y_set) k5 b5 m5
  exact law_of (fun _ => trivial) (ok_law (P := l.prog) (w := w) (mg := mg) (base := base) any_inv F20 D__law_bag D__law_bent D__law_is_one D__law_odd D__law_rows D__law_template D_is_template D_of y_len y_list y_max y_min y_range y_repr) fun ns l st Q k => w_law l k
theorem walk {l : PySem.W.OpenLaw} {q : Program} {loose : List Str} {XP : (Str → Option Value) → Heap → Prop} {YP : World → Heap → Prop} {d : DefRec} {K : Params → PySem.W.Frag} (hn : l.most = some 63) (hdf : d.params.defaults = [])
    (hY : ∀ (w : World) (h : Heap), YP w h → (K w.params).In h)
    (F : ∀ (w : World) (mg : Str → Option Value) (fa : Addr) (h : Heap), (K w.params).In h → h.Ns mainGlobals mg → mg d.name = some (.ref fa) →
      ∃ fd : FuncData, (∀ (s : Shared) (u : Value), BindsTo s fd ⟨[u], []⟩ [("script", u)]) ∧ ∀ base : Heap, (K w.params).In base → base.Ns mainGlobals mg → FnG l.prog w (K w.params) mg base 21 fa fd ["script"] (spLaw (K w.params))) :
    PySem.W.WalkO q loose XP YP l.row.toRowW d [] (fun f vs => PySem.call f vs) :=
  walk_ofG (n := 63) (k := 21) (x := "script") (sp := fun w => spLaw (K w.params)) hn (by decide) hdf ⟨rfl, by decide, by decide⟩ hY F (fun _ _ a ns hl hS => ⟨a, ns, rfl, hS, hl, fun _ => rfl⟩)
end K1

open PySem PySem.W PyProof.Rows in
set_option maxRecDepth 100000 in
set_option maxHeartbeats 0 in
theorem PySem.Challenge.cw_errorplaces_k30_is_template_holds : PySem.Challenge.rw_errorplaces_k30_is_template.Holds := by
  w_on; o_law; k_head; (case hw => w_witness2)
  k_fill
  refine K1.walk (l := PySem.Challenge.rw_errorplaces_k30_is_template) rfl rfl (fun w h Y => PySem.W.kIn_of Y) ?F
  case F =>
    intro w mg fa h KX G hmg
    refine' K1.all_mk KX G hmg ?aC ?a1 ?l1 ?c1 ?k1 ?a2 ?l2 ?c2 ?k2 ?a3 ?l3 ?c3 ?k3 ?a4 ?l4 ?c4 ?k4 ?a5 ?l5 ?c5 ?k5 ?a6 ?l6 ?c6 ?k6 ?a7 ?l7 ?c7 ?k7 ?a8 ?l8 ?c8 ?k8 ?a9 ?l9 ?c9 ?k9 ?a10 ?l10 ?c10 ?k10 ?a11 ?l11 ?c11 ?k11 ?a12 ?l12 ?c12 ?k12 ?a13 ?l13 ?c13 ?k13 ?a14 ?l14 ?c14 ?k14 ?a15 ?l15 ?c15 ?k15 ?a16 ?l16 ?c16 ?k16 ?a17 ?l17 ?c17 ?k17 ?a18 ?l18 ?c18 ?k18 ?a19 ?l19 ?c19 ?k19 ?a20 ?l20 ?c20 ?k20 ?a21 ?i21 ?l21 ?c21 ?k21 ?a22 ?i22 ?l22 ?c22 ?k22 ?a23 ?i23 ?l23 ?c23 ?k23 ?rd ?ga ?a24 ?r24 ?i24 ?l24 ?c24 ?k24 ?pg ?hd ?po ?sa ?mk ?kc ?nR ?nA ?lm ?lg ?vL ?vA ?z_len ?z_isinstance ?z_str ?z_all ?z_tuple ?z_list ?z_sorted ?z_abs ?z_range ?z_min ?z_max ?z_int ?z_bool ?z_set ?z_repr
    (case aC => k_is)
    (case a1 => k_is)
    (case l1 => k_is)
    (case c1 => k_is)
    (case k1 => k_is)
    (case a2 => k_is)
    (case l2 => k_is)
    (case c2 => k_is)
    (case k2 => k_is)
    (case a3 => k_is)
    (case l3 => k_is)
    (case c3 => k_is)
    (case k3 => k_is)
    (case a4 => k_is)
    (case l4 => k_is)
    (case c4 => k_is)
    (case k4 => k_is)
    (case a5 => k_is)
    (case l5 => k_is)
    (case c5 => k_is)
    (case k5 => k_is)
    (case a6 => k_is)
    (case l6 => k_is)
    (case c6 => k_is)
    (case k6 => k_is)
    (case a7 => k_is)
    (case l7 => k_is)
    (case c7 => k_is)
    (case k7 => k_is)
    (case a8 => k_is)
    (case l8 => k_is)
    (case c8 => k_is)
    (case k8 => k_is)
    (case a9 => k_is)
    (case l9 => k_is)
    (case c9 => k_is)
    (case k9 => k_is)
    (case a10 => k_is)
    (case l10 => k_is)
    (case c10 => k_is)
    (case k10 => k_is)
    (case a11 => k_is)
    (case l11 => k_is)
    (case c11 => k_is)
    (case k11 => k_is)
    (case a12 => k_is)
    (case l12 => k_is)
    (case c12 => k_is)
    (case k12 => k_is)
    (case a13 => k_is)
    (case l13 => k_is)
    (case c13 => k_is)
    (case k13 => k_is)
    (case a14 => k_is)
    (case l14 => k_is)
    (case c14 => k_is)
    (case k14 => k_is)
    (case a15 => k_is)
    (case l15 => k_is)
    (case c15 => k_is)
    (case k15 => k_is)
    (case a16 => k_is)
    (case l16 => k_is)
    (case c16 => k_is)
    (case k16 => k_is)
    (case a17 => k_is)
    (case l17 => k_is)
    (case c17 => k_is)
    (case k17 => k_is)
    (case a18 => k_is)
    (case l18 => k_is)
    (case c18 => k_is)
    (case k18 => k_is)
    (case a19 => k_is)
    (case l19 => k_is)
    (case c19 => k_is)
    (case k19 => k_is)
    (case a20 => k_is)
    (case l20 => k_is)
    (case c20 => k_is)
    (case k20 => k_is)
    (case a21 => k_is)
    (case i21 => k_is)
    (case l21 => k_is)
    (case c21 => k_is)
    (case k21 => k_is)
    (case a22 => k_is)
    (case i22 => k_is)
    (case l22 => k_is)
    (case c22 => k_is)
    (case k22 => k_is)
    (case a23 => k_is)
    (case i23 => k_is)
    (case l23 => k_is)
    (case c23 => k_is)
    (case k23 => k_is)
    (case rd => k_is)
    (case ga => k_is)
    (case a24 => k_is)
    (case r24 => k_is)
    (case i24 => k_is)
    (case l24 => k_is)
    (case c24 => k_is)
    (case k24 => k_is)
    (case pg => k_is)
    (case hd => k_is)
    (case po => k_is)
    (case sa => k_is)
    (case mk => k_is)
    (case kc => k_is)
    (case nR => k_is)
    (case nA => k_is)
    (case lm => k_is)
    (case lg => k_is)
    (case vL => k_is)
    (case vA => k_is)
    (case z_len => k_is)
    (case z_isinstance => k_is)
    (case z_str => k_is)
    (case z_all => k_is)
    (case z_tuple => k_is)
    (case z_list => k_is)
    (case z_sorted => k_is)
    (case z_abs => k_is)
    (case z_range => k_is)
    (case z_min => k_is)
    (case z_max => k_is)
    (case z_int => k_is)
    (case z_bool => k_is)
    (case z_set => k_is)
    (case z_repr => k_is)
