import PyProof.Rows.All
import Wide.All
import OpenK.AllK
import Wide.FinOn
import HandS.ForMost
import HandS.OwnEq
import HandS.Wide
import HandS.DictComp
import HandS.IsInst
import HandS.Codes
import HandS.Flow
import PyProof.ListStr
import PyProof.InstNe
import KE.KCallOwn
import KE.KOwnIter
import KE.KFmtOwn
import HandS.Style
import HandS.IterNext
import HandS.StrMore
import HandS.MakeKw
import HandS.IterVal
import HandS.More
import PyProof.DictUpdate
import HandS.RaiseMore
import HandS.Walk
import HandS.FStr
import HandS.ClsMeth
import HandS.MakeKwOnly
import HandS.ExcInit
import KE.GoesMore
import PySem.Challenge.RW_blindrepair_k13_misreadings_joined
import HandS.Defaults
import PyProof.P3Eq
import HandS.TryOnly
import HandS.Star
import HandS.WordsExc
import KE.KOpsOwn
import KE.KxText
import PyProof.Rows.StrReprJoin
import HandS.ExcValue
import HandS.ExcIs
import HandS.Lambda
import KE.KExcIs
import PyProof.InstEq
import PyProof.CallFns
import HandS.EndOwn
import KE.RegKIsAll
set_option Elab.async false
set_option linter.all false
set_option maxRecDepth 100000
set_option maxHeartbeats 4000000
/-! Rules of our own: the methods with two underscores of a text's own class, called by Python's signs; list(text). -/
namespace L2
open PySem PySem.Spec PyProof.Rows
section
variable {X : Cx} {n : Nat} {CX : CXT} {C f : Addr} {fd : FuncData} {ps : List Str} {sp : Sp} {E : XK}
/-- a def that is called from within a built-in -/
theorem run_own {A : Around} {pins : List (Addr × Obj)} {σ : St} {H : Hp} {s : Shared} {Q : VK} {us : List Value} {vs : List V} (sb : Sub X n A) (F : FnOk X.prog X.w X.K X.mg X.base CX n f fd ps sp) (hb : Binds X.K fd ps []) (hx : Passes CX X E)
    (I : Inv X pins σ H s) (r : Vals vs us) (h : sp vs H Q E) : wpAny (model X.prog X.w) A (call (.ref f) us) (EP X pins σ Q) X.xe s := by
  have e0 : Env0 X.prog X.w X.K X.mg X.base A X.stack s H := by
    have e := I.env0
    exact ⟨by rw [sb.fr]; exact e.frames, e.mod, e.bs, e.bsz, e.funs, e.frf, e.hok, e.bare⟩
  have hl := F.len _ _ _ _ h
  have hl2 : us.length = ps.length := by rw [← r.length]; exact hl
  refine wpAny_call (codeAny_mono (F.run A X.stack s H ⟨us, []⟩ us vs Q E sb.room e0 (by
    have := hb s us I.kIn (by simpa using hl2)
    simpa using this) r h) fun r s' hq => ?_)
  cases r with
  | error e => exact hx pins σ H s e s' I hq
  | ok fl =>
    cases fl with
    | ret w => exact I.after hq
    | next => exact False.elim hq
    | brk => exact False.elim hq
    | cont => exact False.elim hq
/-- the instance that H tells, for the library's rules -/
theorem inst_at {pins : List (Addr × Obj)} {σ : St} {H : Hp} {s : Shared} {a dx : Addr} {fs : List (Str × V)} (I : Inv X pins σ H s) (ha : H a = some (.ins C dx fs)) : ∃ od, PySem.W.InstAt s.heap a (PySem.W.instObj C dx) C od := by
  obtain ⟨mA, J, _⟩ := ins_get I.hok ha
  obtain ⟨od, J, _⟩ := J.look
  exact ⟨od, J⟩
/-- where one stands in a built-in, once or twice deeper -/
theorem Sub.here (hr : Room n X.A) : Sub X n X.A := ⟨hr, rfl⟩
/-- the facts of a method that a sign calls -/
structure Own (K : PySem.W.Frag) (C : Addr) (m : Str) (f : Addr) : Prop where
  find : PySem.W.findIn K (.ref C) m = some (some (.ref f))
  fn : PySem.W.isFn K (.ref f) = true
/-- list(text) -/
theorem call_listS (hc : X.calm = true) : CallR X (.type "list") (fun xs H Q => ∃ z, xs = [.str z] ∧ z.length ≤ sizeLine ∧ ∀ l, H l = none → Q (.ref l) (upd H l (.lst (z.cps.toList.map fun c => V.str ⟨#[c]⟩)))) := by
  intro pins s σ H xs us Q I r h
  obtain ⟨z, rfl, hz, q⟩ := h
  obtain ⟨u, rfl, t, rfl⟩ := vals1 r
  refine call_list_str (I.ok.hd hc) z t (fun h' tk acc c' kp e it => ?_) hz
  have rv : ∀ (xs : List Nat) (acc : List Value), acc.length = xs.length → (∀ (j : Nat) (v : Value), acc[j]? = some v → ∃ (c : Nat) (u : Tok), xs[j]? = some c ∧ v = Value.str ⟨#[c]⟩ u) → Vals (xs.map fun c => V.str ⟨#[c]⟩) acc := by
    intro xs
    induction xs with
    | nil =>
      intro acc hl _
      cases acc with
      | nil => exact .nil
      | cons a r => cases hl
    | cons x xs ih =>
      intro acc hl hi
      cases acc with
      | nil => cases hl
      | cons a r =>
        obtain ⟨c, u, e1, e2⟩ := hi 0 a rfl
        have e1' : x = c := by simpa using e1
        subst e1'
        exact .cons ⟨u, e2⟩ (ih r (by simpa using hl) fun j v hj => by
          obtain ⟨c, u, e1, e2⟩ := hi (j + 1) v (by simpa using hj)
          exact ⟨c, u, by simpa using e1, e2⟩)
  have R : Vals (z.cps.toList.map fun c => V.str ⟨#[c]⟩) acc.toList := rv _ _ (by rw [Array.length_toList, it.1, Array.length_toList]) fun j v hj => by
    obtain ⟨c, u, e1, e2⟩ := it.2 j v (by rw [← Array.getElem?_toList]; exact hj)
    exact ⟨c, u, by rw [Array.getElem?_toList]; exact e1, e2⟩
  refine ⟨.ref s.heap.objs.size, _, I.laid (t' := tk) kp (Nat.le_refl _) (show ObjOk X.prog X.w _ h' _ (.lst _) from ⟨?_, acc.toList, c', R, by rw [Array.toArray_toList]; exact e⟩), rfl, q _ (I.hok.fresh (Nat.le_refl _))⟩
  rw [List.length_map, Array.length_toList]
  exact hz
/-- len(o) by an own __len__ -/
theorem call_lenOwn (F : FnOk X.prog X.w X.K X.mg X.base CX n f fd ps sp) (hb : Binds X.K fd ps []) (hx : Passes CX X E) (o : Own X.K C "__len__" f) (hr : Room (n + 1) X.A) :
    CallR X (.builtin "len") (fun xs H Q => ∃ a dx fs, xs = [.ref a] ∧ H a = some (.ins C dx fs) ∧ sp [.ref a] H (fun v H' => ∃ k : Nat, v = .int k ∧ k ≤ sizeLine ∧ Q (.int k) H') E) := by
  intro pins s σ H xs us Q I r h
  obtain ⟨a, dx, fs, rfl, ha, hs⟩ := h
  obtain ⟨u, rfl, rx⟩ := vals1 r
  cases rx
  obtain ⟨od, J⟩ := inst_at I ha
  obtain ⟨m, hF⟩ := I.fr
  refine PySem.W.len_K hF I.ok.mod.kin J o.find o.fn (thn (run_own (Sub.here hr).in1 F hb hx I (show Vals [V.ref a] [Value.ref a] from .cons rfl .nil) hs) fun v s' q => ?_)
  obtain ⟨y, H', I', ry, k, rfl, hk, q⟩ := q
  obtain ⟨t, rfl⟩ := ry
  have h63 := line63
  exact ⟨⟨by omega, by omega⟩, .int k, H', I'.tok _, ⟨_, rfl⟩, q⟩
/-- v in o, v not in o by an own __contains__ that gives True or False -/
theorem op_inOwn (F : FnOk X.prog X.w X.K X.mg X.base CX n f fd ps sp) (hb : Binds X.K fd ps []) (hx : Passes CX X E) (o : Own X.K C "__contains__" f) (hr : Room n X.A) :
    OpR X (compareOp .In) (fun x y H Q => ∃ a dx fs, y = .ref a ∧ H a = some (.ins C dx fs) ∧ sp [.ref a, x] H (fun v H' => ∃ b, v = .bl b ∧ Q (.bl b) H') E) := by
  intro pins s σ H x y v u Q I rx ry h
  obtain ⟨a, dx, fs, rfl, ha, hs⟩ := h
  cases ry
  obtain ⟨od, J⟩ := inst_at I ha
  obtain ⟨m, hF⟩ := I.fr
  refine PySem.W.in_K hF I.ok.mod.kin J o.find o.fn (thn (run_own (Sub.here hr) F hb hx I (show Vals [V.ref a, x] [Value.ref a, v] from .cons rfl (.cons rx .nil)) hs) fun v s' q => ?_)
  obtain ⟨y, H', I', ry, b, rfl, q⟩ := q
  cases ry
  exact wpAny_truthy_bool ⟨.bl b, H', I', rfl, q⟩
theorem op_notInOwn (F : FnOk X.prog X.w X.K X.mg X.base CX n f fd ps sp) (hb : Binds X.K fd ps []) (hx : Passes CX X E) (o : Own X.K C "__contains__" f) (hr : Room n X.A) :
    OpR X (compareOp .NotIn) (fun x y H Q => ∃ a dx fs, y = .ref a ∧ H a = some (.ins C dx fs) ∧ sp [.ref a, x] H (fun v H' => ∃ b, v = .bl b ∧ Q (.bl (!b)) H') E) := by
  intro pins s σ H x y v u Q I rx ry h
  obtain ⟨a, dx, fs, rfl, ha, hs⟩ := h
  cases ry
  obtain ⟨od, J⟩ := inst_at I ha
  obtain ⟨m, hF⟩ := I.fr
  refine PySem.W.notIn_K hF I.ok.mod.kin J o.find o.fn (thn (run_own (Sub.here hr) F hb hx I (show Vals [V.ref a, x] [Value.ref a, v] from .cons rfl (.cons rx .nil)) hs) fun v s' q => ?_)
  obtain ⟨y, H', I', ry, b, rfl, q⟩ := q
  cases ry
  exact wpAny_truthy_bool ⟨.bl (!b), H', I', rfl, q⟩
/-- o[k] by an own __getitem__ -/
theorem pe_ixOwn {a b : Expr} {ta tb : TE} {pos : Pos} (F : FnOk X.prog X.w X.K X.mg X.base CX n f fd ps sp) (hb : Binds X.K fd ps []) (hx : Passes CX X E) (o : Own X.K C "__getitem__" f) (hf : PySem.W.fnIn X.K f = true) (hr : Room (n + 1) X.A) (hA : PE X a ta) (hB : PE X b tb)
    (hsl : ∀ v u, subscripted b true v u = runValue (.builtin "lifetime.subscript" ⟨[v, u], []⟩) := by intro _ _; rfl) :
    PE X (.Subscript a b pos) (tOp (fun x y H Q => ∃ a dx fs, x = .ref a ∧ H a = some (.ins C dx fs) ∧ sp [.ref a, y] H Q E) ta tb) := by
  refine ⟨fun pins s σ H Q I h => ?_⟩
  refine Subscript_ (binT hA hB I h fun v u s2 x y H2 I2 rx ry q => ?_)
  obtain ⟨a, dx, fs, rfl, ha, hs⟩ := q
  cases rx
  obtain ⟨od, J⟩ := inst_at I2 ha
  obtain ⟨m, hF⟩ := I2.fr
  exact PySem.W.sub_K hF I2.ok.mod.kin J o.find hf o.fn (run_own (Sub.here hr).in1 F hb hx I2 (show Vals [V.ref a, y] [Value.ref a, u] from .cons rfl (.cons ry .nil)) hs) (hsl _ _)
/-- str(o) by an own __str__ -/
theorem call_strOwn (F : FnOk X.prog X.w X.K X.mg X.base CX n f fd ps sp) (hb : Binds X.K fd ps []) (hx : Passes CX X E) (o : Own X.K C "__str__" f) (hr : Room (n + 2) X.A) :
    CallR X (.type "str") (fun xs H Q => ∃ a dx fs, xs = [.ref a] ∧ H a = some (.ins C dx fs) ∧ sp [.ref a] H (fun v H' => ∃ z, v = .str z ∧ Q (.str z) H') E) := by
  intro pins s σ H xs us Q I r h
  obtain ⟨a, dx, fs, rfl, ha, hs⟩ := h
  obtain ⟨u, rfl, rx⟩ := vals1 r
  cases rx
  obtain ⟨od, J⟩ := inst_at I ha
  have sb : Sub X n X.A.in1.in1 := (Sub.in1 (Sub.in1 (Sub.here hr)))
  refine PySem.W.kso_call sb.room.units0 I.kIn J o.find o.fn (thn (run_own sb F hb hx I (show Vals [V.ref a] [Value.ref a] from .cons rfl .nil) hs) fun v s' q => ?_)
  obtain ⟨y, H', I', ry, z, rfl, q⟩ := q
  obtain ⟨t, rfl⟩ := ry
  exact ⟨.str z, H', I', ⟨_, rfl⟩, q⟩
end
end L2

set_option Elab.async false
set_option linter.all false
set_option maxRecDepth 100000
set_option maxHeartbeats 4000000
/-! == and != by an own __eq__ that gives True or False. -/
namespace PySem.W
open PySem PySem.Calls PyProof.Rows Builtin
section
variable {prog : Program} {w : World} {A : Around} {E : Value → Shared → Prop} {s : Shared} {K : Frag} {x C L f : Addr} {h₀ : Heap} {m : Str → Option Value} {ox : Obj} {od : Option Obj} {b tb : Value}
theorem ifBoundB_K {M : Model} {name : Str} {id : String} {args : List Value} {Q : Option Value → Shared → Prop} (X : K.In s.heap) (I : InstAt s.heap x ox C od) (hs : findIn K (.ref C) name = some (some (.builtin id)))
    (hb : ∀ self, bindSpecial (.builtin id) self = pure (.builtin id, [self]))
    (h : wpAny M A (call (.builtin id) (.ref x :: args)) (fun v => Q (some v)) E s) : wpAny M A (callSpecialIfBound? (.ref x) name args) Q E s := by
  simp only [callSpecialIfBound?, bindSpecialIfBound?]
  refine wpAny_holding (wpAny_bind (wpAny_bind (wpAny_bind (I.type.here ((looks_findIn X hs).here ?_)))))
  simp only [hb]
  refine wpAny_bind (wpAny_askSetting (wpAny_ite ?_))
  have fin : wpAny M A (call (.builtin id) ([.ref x] ++ args) >>= fun v => pure (some v)) Q E s := wpAny_bind (wpAny_mono h (fun v s' h' => wpAny_pure h') fun _ _ h' => h')
  split
  · exact wpAny_bind (wpAny_pure (wpAny_pure (by exact fin)))
  · exact wpAny_tryCatch (wpAny_bind (wpAny_pure (wpAny_pure (by exact fin))))
theorem neO_K {Q : Value → Shared → Prop} (hu : A.in1.units < cLine) (X : K.In s.heap) (I : InstAt s.heap x ox C od) (hm : mroIn K C (.type "object") = some true) (hs : findIn K (.ref C) "__eq__" = some (some (.ref f))) (hf : isFn K (.ref f) = true)
    (h : wpAny (model prog w) A.in1 (call (.ref f) [.ref x, b]) (fun v s' => ∃ r, v = .bool r ∧ Q (.bool (!r)) s') E s) : wpAny (model prog w) A (call (.builtin "object.__ne__") [.ref x, b]) Q E s := by
  refine wpAny_call (codeAny_call_builtin F.cmp_object.ne.plain F.cmpEntry_ne (check_slot (i := "object.__ne__") (owner := "object") (n := "__ne__") F.cmpKind_ne F.cmpSplit_ne (I.type.andThen (looks_mroIn X hm)) (F.cmpArgs_ne _ _) ?_))
  unfold Builtin.«object.__ne__»
  refine wpAny_bind (m := slotArgs "__ne__" 1 _) (wpAny_pure ?_)
  refine wpAny_bind (m := cRoomFor _ _) (wpAny_cRoomFor hu ?_)
  refine wpAny_bind (m := callSpecialIfBound? (.ref x) (Str.ofString "__eq__") _) (ifBound_K X I hs hf (wpAny_mono h (fun r s' hq => ?_) fun _ _ y => y))
  obtain ⟨r, rfl, hq⟩ := hq
  exact wpAny_bind (wpAny_truthy_bool (wpAny_pure hq))
theorem neq_K {Q : Value → Shared → Prop} (hu : A.in1.units < cLine) (hu0 : A.units < cLine) (F : Fr h₀ L s.heap m) (X₀ : K.In h₀) (I : InstAt s.heap x ox C od) (hb : Looks (model prog w) s.heap (typeOf b) tb) (hn : notFirst K C tb = true)
    (hne : findIn K (.ref C) "__ne__" = some (some (.builtin "object.__ne__"))) (hm : mroIn K C (.type "object") = some true) (hs : findIn K (.ref C) "__eq__" = some (some (.ref f))) (hf : isFn K (.ref f) = true)
    (h : wpAny (model prog w) A.in1 (call (.ref f) [.ref x, b]) (fun v s' => ∃ r, v = .bool r ∧ Q (.bool (!r)) s') E s) : wpAny (model prog w) A (richCompare .NotEq (.ref x) b) Q E s := by
  have X := X₀.keeps F.keep
  have one : wpAny (model prog w) A (tryCompare (.ref x) (cmpInfo .NotEq).2.1 b) (fun r s' => ∃ v, r = some v ∧ Q v s') E s := by
    unfold tryCompare
    refine wpAny_bind (ifBoundB_K X I (by exact hne) PySem.F.cmp_object.ne.bind ?_)
    refine wpAny_mono (neO_K (Q := fun v s' => ∃ r, v = .bool r ∧ Q (.bool r) s') hu X I hm hs hf (wpAny_mono h (fun v s' hv => ?_) fun _ _ e => e)) (fun v s' hv => ?_) fun _ _ e => e
    · obtain ⟨r, rfl, hq⟩ := hv
      exact ⟨r, rfl, !r, rfl, hq⟩
    · obtain ⟨r, rfl, hq⟩ := hv
      exact wpAny_pure ⟨_, rfl, hq⟩
  unfold richCompare
  simp only [oneThing_ref]
  refine wpAny_holding (wpAny_bind (wpAny_cRoomFor hu0 ?_))
  refine wpAny_bind (I.type.here (wpAny_bind (hb.here ?_)))
  split
  · rename_i q
    have e : subIn K tb (.ref C) = some false := by
      rcases Bool.or_eq_true_iff.mp hn with e | e
      · rw [beq_iff_eq.mp e] at q; simp at q
      · exact beq_iff_eq.mp e
    refine wpAny_bind ((looks_subIn X e).here ?_)
    simp only [Bool.false_eq_true, if_false]
    refine wpAny_bind (wpAny_mono one (fun r s' z => ?_) fun _ _ e => e)
    obtain ⟨v, rfl, hq⟩ := z
    exact wpAny_pure hq
  · refine wpAny_bind (wpAny_pure ?_)
    simp only [Bool.false_eq_true, if_false]
    refine wpAny_bind (wpAny_mono one (fun r s' z => ?_) fun _ _ e => e)
    obtain ⟨v, rfl, hq⟩ := z
    exact wpAny_pure hq
end
end PySem.W
namespace L2
open PySem PySem.Spec PyProof.Rows
section
variable {X : Cx} {n : Nat} {CX : CXT} {C f : Addr} {fd : FuncData} {ps : List Str} {sp : Sp} {E : XK}
def rEqOwn (K : PySem.W.Frag) (C : Addr) (sp : Sp) (E : XK) (g : Bool → Bool) : R2 := fun x y H Q => ∃ a dx fs tb, x = .ref a ∧ H a = some (.ins C dx fs) ∧ TyX K H y tb ∧ PySem.W.notFirst K C tb = true ∧ sp [.ref a, y] H (fun v H' => ∃ b, v = .bl b ∧ Q (.bl (g b)) H') E
theorem op_eqOwn (F : FnOk X.prog X.w X.K X.mg X.base CX n f fd ps sp) (hb : Binds X.K fd ps []) (hx : Passes CX X E) (o : Own X.K C "__eq__" f) (hr : Room n X.A) : OpR X (compareOp .Eq) (rEqOwn X.K C sp E id) := by
  intro pins s σ H x y v u Q I rx ry h
  obtain ⟨a, dx, fs, tb, rfl, ha, ty, hn, hs⟩ := h
  cases rx
  obtain ⟨od, J⟩ := inst_at I ha
  obtain ⟨m, hF⟩ := I.fr
  obtain ⟨P, Z, p, _⟩ := kit_of I ry ty
  refine PySem.W.cmp_K (op := .Eq) hr.units0 hF I.ok.mod.kin J (Z.ty _ _ I.kIn p) hn o.find o.fn (thn (run_own (Sub.here hr) F hb hx I (show Vals [V.ref a, y] [Value.ref a, u] from .cons rfl (.cons ry .nil)) hs) fun v s' q => ?_)
  obtain ⟨y, H', I', ry, b, rfl, q⟩ := q
  cases ry
  exact ⟨.bl b, H', I', rfl, q⟩
theorem op_neOwn (F : FnOk X.prog X.w X.K X.mg X.base CX n f fd ps sp) (hb : Binds X.K fd ps []) (hx : Passes CX X E) (o : Own X.K C "__eq__" f) (hne : PySem.W.findIn X.K (.ref C) "__ne__" = some (some (.builtin "object.__ne__")))
    (hm : PySem.W.mroIn X.K C (.type "object") = some true) (hr : Room (n + 1) X.A) : OpR X (compareOp .NotEq) (rEqOwn X.K C sp E not) := by
  intro pins s σ H x y v u Q I rx ry h
  obtain ⟨a, dx, fs, tb, rfl, ha, ty, hn, hs⟩ := h
  cases rx
  obtain ⟨od, J⟩ := inst_at I ha
  obtain ⟨m, hF⟩ := I.fr
  obtain ⟨P, Z, p, _⟩ := kit_of I ry ty
  refine PySem.W.neq_K hr.in1.units0 hr.units0 hF I.ok.mod.kin J (Z.ty _ _ I.kIn p) hn hne hm o.find o.fn (thn (run_own (Sub.here hr).in1 F hb hx I (show Vals [V.ref a, y] [Value.ref a, u] from .cons rfl (.cons ry .nil)) hs) fun v s' q => ?_)
  obtain ⟨y, H', I', ry, b, rfl, q⟩ := q
  cases ry
  exact ⟨b, rfl, .bl (!b), H', I', rfl, q⟩
end
end L2

set_option Elab.async false
set_option linter.all false
set_option maxRecDepth 100000
set_option maxHeartbeats 4000000
/-! for x in o, by an own __iter__ that gives iter(a tuple). -/
namespace L2
open PySem PySem.Spec PyProof.Rows ItX
abbrev itTObj (l : Addr) : Obj := { cls := .type "tuple_iterator", data := .fields #[.ref l, .int 0 0] }
/-- at it a fresh iterator of the tuple at l -/
def ItT (l it : Addr) : HO := .ext fun h => h.get? it = some (itTObj l)
theorem itT_ok {P : Program} {w : World} {H : Hp} {h : Heap} {l it : Addr} (e : h.get? it = some (itTObj l)) : ObjOk P w H h it (ItT l it) := ⟨e, ⟨_, e⟩, fun h1 h2 q k => k _ q⟩
theorem call_iterTup {prog : Program} {w : World} {A : Around} {E : Value → Shared → Prop} {s : Shared} {l : Addr} {items : Array Value} {Q : Value → Shared → Prop} (hl : s.heap.IsTuple l items) (h : Q (.ref s.heap.objs.size) { s with heap := s.heap.push (itTObj l) }) : wpAny (model prog w) A (call (.builtin "iter") [.ref l]) Q E s := by
  refine Calls.call_function_entry (by decide +kernel) (by decide +kernel) PySem.W.kdk_entry_iter (PySem.W.kdk_args_iter _) ?_
  unfold Builtin.«iter»
  refine wpAny_bind (m := someArgs "iter" 1 2 _) (wpAny_of_eq (a := [Value.ref l]) (by first | rfl | kernel_rfl!) ?_)
  show wpAny _ _ (pyIter (.ref l) >>= _) _ _ _
  refine wpAny_bind (wpAny_pyIter_tuple hl ?_)
  exact wpAny_pure ⟨_, rfl, h⟩
section
variable {X : Cx}
theorem call_iterT : CallR X (.builtin "iter") (fun xs H Q => ∃ (l : Addr) (zs : List V), xs = [.ref l] ∧ SqT X.K H l zs ∧ ∀ it, H it = none → X.s_0.heap.objs.size ≤ it → Q (.ref it) (upd H it (ItT l it))) := by
  intro pins s σ H xs us Q I r h
  obtain ⟨l, zs, rfl, hq, q⟩ := h
  obtain rfl := Vals.ref1 r
  obtain ⟨its, rv, pl, hz⟩ := I.tuple hq
  refine call_iterTup (show s.heap.IsTuple l its.toArray from pl) ?_
  exact ⟨.ref s.heap.objs.size, _, I.laid (t' := s.toks) (fun b u e => Heap.get?_push_of_some _ e) (Nat.le_refl _) (itT_ok (Heap.get?_push_size _ rfl)), rfl, q _ (I.hok.fresh (Nat.le_refl _)) I.sz⟩
variable {n : Nat} {CX : CXT} {C f : Addr} {fd : FuncData} {ps : List Str} {sp : Sp} {E : XK}
/-- a def whose promise may speak of how many objects stand at its entry -/
structure FnN (P : Program) (w : World) (K : PySem.W.Frag) (mg : Str → Option Value) (base : Heap) (CX : CXT) (k : Nat) (f : Addr) (fd : FuncData) (ps : List Str) (sn : Nat → Sp) : Prop where
  many : ∀ m vs H Q E, sn m vs H Q E → vs.length = ps.length
  goes : ∀ (A : Around) (outer : List Env) (s : Shared) (H : Hp) (args : Args) (us : List Value) (vs : List V) (Q : VK) (E : XK), Room k A → Env0 P w K mg base A outer s H → BindsTo s fd args (ps.zip us) → Vals vs us →
    sn s.heap.objs.size vs H Q E → codeAny (model P w) A (.call (.ref f) args) (CR CX outer P w H s Q E) s
theorem fnN_mk {CX : CXT} {P : Program} {w : World} {K : PySem.W.Frag} {mg : Str → Option Value} {base : Heap} {k : Nat} {f : Addr} {x qual : Str} {st : Stmt} {fd : FuncData} {N ps : List Str} {sn : Nat → Sp}
    (F : Fun K x qual st f fd) (S : FnScope N ps (defScope st)) (many : ∀ m vs H Q E, sn m vs H Q E → vs.length = ps.length)
    (body : ∀ (cdv : Value) (A : Around) (outer : List Env) (s : Shared) (H : Hp) (vs : List V) (Q : VK) (E : XK), Room k (A.deeper (envOfC qual (defScope st) s.heap.objs.size f cdv)) → sn s.heap.objs.size vs H Q E →
      ∃ t, PSs (cxOf CX P w K mg base N qual (defScope st) f cdv A outer s H E) (defBody st) t ∧ t { nx := fun _ H' => Q .non H', rt := Q } (start N vs) H) : FnN P w K mg base CX (k + 1) f fd ps sn := by
  obtain ⟨oc, od, kV, doc, pm, an, cdv, ct, osl, rfl, lk, hcd⟩ := F.ex
  refine ⟨many, fun A₁ out s₁ H₁ ar us₁ vs₁ Q₁ E₁ room ev bd rel prom => ?_⟩
  have len₁ := many _ _ _ _ _ prom
  have kin₁ : K.In s₁.heap := ev.mod.kin.keeps (fun a o z => (ev.bs a o z).left)
  have kinds : ∀ y ∈ ps.zip us₁, (defScope st).names.lookup y.1 = some .local ∨ ((defScope st).names.lookup y.1 = some .cell ∧ ((cellsFrom (s₁.heap.objs.size + 1) (defScope st).names []).lookup y.1).isSome = true) := by
    rintro ⟨nm, vl⟩ mem
    rcases S.par nm (List.of_mem_zip mem).1 with z | z
    · exact Or.inl z
    · exact Or.inr ⟨z, PySem.W.cellsFrom_some _ _ _ (Or.inl z)⟩
  refine codeAny_call_function room.depth (kin₁ _ _ lk) rfl S.co S.gen rfl (PySem.W.codeRec_of kin₁ hcd) (bd _ _ _ _ ?_)
  refine wpAny_newFunctionEnv_cells S.kind kinds (fun e₁ is₁ s₂ made => ?_)
  subst is₁
  refine ⟨Heap.NoLimit.keeps (ev.mod.nolimit.keeps fun a o z => (ev.bs a o z).left) made.toInCall.keep, codeAny_func ?_⟩
  obtain ⟨t₁, term, reads⟩ := body cdv A₁ out s₁ H₁ vs₁ Q₁ E₁ (room.deeper _) prom
  have inv₁ := inv_start (CX := CX) (P := P) (w := w) (mg := mg) (base := base) (E := E₁) S room.hd ev len₁ rel made
  refine wpAny_mono (term.run [] s₂ (start N vs₁) H₁ _ inv₁ reads) (fun flow s₃ done => ?_) (fun _ _ z => z)
  cases flow with
  | ret u₁ =>
    obtain ⟨v₁, _, H₂, J, rv, q⟩ := done
    exact ⟨v₁, H₂, J.os, J.bare, J.base, J.hok, rv, q⟩
  | next =>
    obtain ⟨_, H₂, J, q⟩ := done
    exact ⟨V.non, H₂, J.os, J.bare, J.base, J.hok, rfl, q⟩
  | brk => exact (done.elim fun _ z => z.elim fun _ z => z.2).elim
  | cont => exact (done.elim fun _ z => z.elim fun _ z => z.2).elim
variable {sn : Nat → Sp}
theorem run_N {A : Around} {pins : List (Addr × Obj)} {σ : St} {H : Hp} {s : Shared} {Q : VK} {us : List Value} {vs : List V} (sb : Sub X n A) (F : FnN X.prog X.w X.K X.mg X.base CX n f fd ps sn) (hb : Binds X.K fd ps []) (hx : Passes CX X E)
    (I : Inv X pins σ H s) (r : Vals vs us) (h : sn s.heap.objs.size vs H Q E) : wpAny (model X.prog X.w) A (call (.ref f) us) (EP X pins σ Q) X.xe s := by
  have e0 : Env0 X.prog X.w X.K X.mg X.base A X.stack s H := by
    have e := I.env0
    exact ⟨by rw [sb.fr]; exact e.frames, e.mod, e.bs, e.bsz, e.funs, e.frf, e.hok, e.bare⟩
  have hl := F.many _ _ _ _ _ h
  have hl2 : us.length = ps.length := by rw [← r.length]; exact hl
  refine wpAny_call (codeAny_mono (F.goes A X.stack s H ⟨us, []⟩ us vs Q E sb.room e0 (by
    have := hb s us I.kIn (by simpa using hl2)
    simpa using this) r h) fun r s' hq => ?_)
  cases r with
  | error e => exact hx pins σ H s e s' I hq
  | ok fl =>
    cases fl with
    | ret w => exact I.after hq
    | next => exact False.elim hq
    | brk => exact False.elim hq
    | cont => exact False.elim hq
def iOwn (K : PySem.W.Frag) (C : Addr) (m : Nat) (sn : Nat → Sp) (E : XK) (tl : TE) : TI := fun σ H R => tl σ H fun x H1 => ∃ a dx fs, x = .ref a ∧ H1 a = some (.ins C dx fs) ∧
  ∀ k, m ≤ k → sn k [.ref a] H1 (fun v H' => ∃ it t, v = .ref it ∧ k ≤ it ∧ H' it = some (ItT t it) ∧ R (Itt K t) (dropH H' it)) E
theorem pi_own {tg l : Expr} {tl : TE} (F : FnN X.prog X.w X.K X.mg X.base CX n f fd ps sn) (hb : Binds X.K fd ps []) (hx : Passes CX X E) (o : Own X.K C "__iter__" f) (hr : Room n X.A) (hl : PE X l tl) : PI X tg l (iOwn X.K C X.s_0.heap.objs.size sn E tl) := by
  refine ⟨fun pins s σ H R I h => ?_⟩
  refine thn (hl.run pins s σ H _ I h) fun v s1 ⟨x, H1, I1, r1, q1⟩ => ?_
  obtain ⟨a, dx, fs, rfl, ha, hs⟩ := q1
  cases r1
  obtain ⟨od, J⟩ := inst_at I1 ha
  obtain ⟨m, hF⟩ := I1.fr
  refine PySem.W.owit_iter hF I1.ok.mod.kin J o.find o.fn (thn (run_N (Sub.here hr) F hb hx I1 (show Vals [V.ref a] [Value.ref a] from .cons rfl .nil) (hs s1.heap.objs.size I1.sz)) fun v s' q => ?_)
  obtain ⟨y, H', I', ry, ⟨it, t, rfl, hn, hi, q⟩⟩ := q
  cases ry
  have hy := Nat.le_trans I1.sz hn
  have hit : s'.heap.get? it = some (itTObj t) := (I'.hok it _ hi).1
  unfold PySem.W.OwitIt
  refine wpAny_specialOf (T := "tuple_iterator") (v := .ref it) ⟨_, hit, rfl⟩ PySem.F.slot_tuple_iterator_next.lookup ?_
  refine ⟨it, [it], _, _, dropH H' it, rfl, inv_drop I' hi, turn_tuple t _, ⟨_, hit, rfl, rfl⟩, fun b hb => ?_, q⟩
  have e : b = it := by simpa using hb
  subst e
  exact inv_fp I' hi hy
end
end L2

set_option Elab.async false
set_option linter.all false
set_option maxRecDepth 100000
set_option maxHeartbeats 4000000
/-! {**a, **b}: two dicts of ints and texts, one behind the other, into a new one. -/
namespace PySem
open PyProof.Rows
section
variable {prog : Program} {w : World} {A : Around} {E : Value → Shared → Prop} {s : Shared} {K : Type} [DecidableEq K] {knd : KeyKind prog w K}
theorem put_pairs {a : Addr} {old : List (K × Value)} {c : K} {u v : Value} {R : Unit → Shared → Prop} (isC : knd.is c u = true) (D : s.heap.DictOf knd a old)
    (next : ∀ hp, hp.DictOf knd a (stored old c v) → Heap.SameBut a s.heap hp → R () { s with heap := hp }) (few : old.length ≤ sizeLine) :
    wpAny (model prog w) A (dictPut a (knd.hash c) u v) R E s := by
  obtain ⟨ob, es, ep, at_, exact_, dat, keyed, prs, uniq⟩ := D
  have szs : es.size ≤ sizeLine := by
    have l1 := prs.length
    have l2 : es.toList.length = es.size := by simp
    omega
  unfold dictPut
  refine wpAny_bind (wpAny_dictFind_of isC at_ dat keyed ?_)
  have same : (es.findIdx? fun e => knd.is c e.key) = old.findIdx? fun kv => decide (kv.1 = c) := by
    have z := prs.findIdx c
    obtain ⟨lst⟩ := es
    simpa using z
  cases found : es.findIdx? fun e => knd.is c e.key with
  | some j =>
    have there : (old.any fun kv => decide (kv.1 = c)) = true := any_of_findIdx_some (same ▸ found)
    refine wpAny_updateDict at_ dat (next _ ⟨_, _, ep, Heap.get?_update_self _ at_ (Obj.isFreed_of_dict (Obj.data_mapDict dat _)), exact_.mapDict _, Obj.data_mapDict dat _, keyed.modify _ _, ?_, ?_⟩ (Heap.SameBut.update ..))
    · have inList : (es.toList.findIdx? fun e => knd.is c e.key) = some j := by
        rw [← found]
        obtain ⟨lst⟩ := es
        simp
      have z := prs.modify uniq inList v
      rw [stored, if_pos there]
      obtain ⟨lst⟩ := es
      simpa using z
    · rw [stored, if_pos there, keys_map_store]
      exact uniq
  | none =>
    have notIn : c ∉ old.map (·.1) := not_mem_of_findIdx_none (same ▸ found)
    have gone : ¬ (old.any fun kv => decide (kv.1 = c)) = true := fun z => by
      obtain ⟨kv, mem, eq⟩ := List.any_eq_true.mp z
      exact notIn (List.mem_map.mpr ⟨kv, mem, of_decide_eq_true eq⟩)
    refine wpAny_updateDictKeys (hz := szs) at_ dat (next _ ⟨_, _, ep + 1, Heap.get?_update_self _ at_ (Obj.isFreed_of_dict (Obj.data_mapDictKeys dat _)), exact_.mapDictKeys _, Obj.data_mapDictKeys dat _, keyed.push isC _, ?_, ?_⟩ (Heap.SameBut.update ..))
    · have z := prs.append isC (knd.hash c) v
      rw [stored, if_neg gone]
      obtain ⟨lst⟩ := es
      simpa using z
    · rw [stored, if_neg gone, List.map_append]
      refine List.nodup_append.mpr ⟨uniq, by simp, fun x hx y hy => ?_⟩
      have ey : y = c := by simpa using hy
      intro exy
      exact notIn (by rw [← ey, ← exy]; exact hx)
end
section
variable {prog : Program} {w : World} {A : Around} {E : Value → Shared → Prop} {s : Shared}
open L2
theorem dict_sub : isSubtype (.type "dict") (.type "dict") = pure true := by rw [isSubtype_type]; kernel_rfl
theorem mergeMapping_mix {d o : Addr} {kvs more : List (Key × Value)} {Q : Unit → Shared → Prop} (hdo : d ≠ o) (hoS : (o == sysModules) = false)
    (hd : s.heap.DictOf (mixKind prog w) d kvs) (ho : s.heap.DictOf (mixKind prog w) o more)
    (hQ : ∀ h', h'.DictOf (mixKind prog w) d (merged kvs more) → Heap.SameBut d s.heap h' → Q () { s with heap := h' }) (hsz : kvs.length + more.length ≤ sizeLine) :
    wpAny (model prog w) A (mergeMapping d (.ref o) false) Q E s := by
  obtain ⟨oo, eso, epo, hoo, hco, hdo', hko, hpo, hno⟩ := id ho
  obtain ⟨od, esd, epd, hod, hcd, hdd, _⟩ := id hd
  have hlen : more.length = eso.size := by
    have z := hpo.length
    simpa using z.symm
  have loop : wpAny (model prog w) A (do
      let l ← dictEntries o
      let epoch ← dictEpoch o
      forIn (List.range l.size) PUnit.unit fun i (_ : PUnit) => (do
        let l' ← dictEntries o
        match l'[i]? with
          | some e => do
            holding [e.key, e.val] (dictPut d e.hash e.key e.val)
            let ep' ← dictEpoch o
            if (ep' != epoch) = true then do
                (unsupported "dict.changed-during-merge" : Sem PUnit)
                pure (ForInStep.yield PUnit.unit)
              else pure (ForInStep.yield PUnit.unit)
          | _ => do
            (unsupported "dict.changed-during-merge" : Sem PUnit)
            pure (ForInStep.yield PUnit.unit) : Sem (ForInStep PUnit))
      pure ()) Q E s := by
    refine wpAny_bind (wpAny_dictEntries hoo hdo' ?_)
    refine wpAny_bind (wpAny_dictEpoch hoo hdo' ?_)
    refine wpAny_bind ?_
    refine wpAny_forIn_list _ (fun left _ t => ∃ hp j, t = { s with heap := hp } ∧ left = (List.range eso.size).drop j ∧ j ≤ eso.size ∧ hp.DictOf (mixKind prog w) d (merged kvs (more.take j)) ∧ hp.get? o = some oo ∧ Heap.SameBut d s.heap hp) _ ?_ ?_ _ _
      ⟨s.heap, 0, rfl, by simp, Nat.zero_le _, by simpa [merged] using hd, hoo, Heap.SameBut.refl _ _⟩
    · rintro y left b t ⟨hp, j, rfl, hr, hj, hdj, hoj, hsb⟩
      have hlt : j < eso.size := by
        rcases Nat.lt_or_ge j eso.size with z | z
        · exact z
        · rw [List.drop_of_length_le (by rw [List.length_range]; exact z)] at hr
          cases hr
      have hd1 : (List.range eso.size).drop j = j :: (List.range eso.size).drop (j + 1) := by
        rw [List.drop_eq_getElem_cons (by rw [List.length_range]; exact hlt), List.getElem_range]
      rw [hd1] at hr
      obtain ⟨rfl, hleft⟩ : y = j ∧ left = (List.range eso.size).drop (j + 1) := by
        injection hr with z1 z2
        exact ⟨z1, z2⟩
      refine wpAny_bind (wpAny_dictEntries hoj hdo' ?_)
      rw [Array.getElem?_eq_getElem hlt]
      have hym : y < more.length := by rw [hlen]; exact hlt
      obtain ⟨isK, isV⟩ := hpo.get? (e := eso[y]) (by simp [hlt]) (List.getElem?_eq_getElem hym)
      obtain ⟨c, isC, isH⟩ := hko eso[y] (Array.getElem_mem hlt)
      have ec : c = more[y].1 := (mixKind prog w).inj _ _ _ isC isK
      show wpAny _ _ (holding [eso[y].key, eso[y].val] (dictPut d eso[y].hash eso[y].key eso[y].val) >>= _) _ _ _
      rw [isH, isV]
      have few : (merged kvs (more.take y)).length ≤ sizeLine := by
        have z1 := merged_length_le kvs (more.take y)
        have z2 : (more.take y).length ≤ more.length := by rw [List.length_take]; omega
        omega
      refine wpAny_bind (wpAny_holding (put_pairs isC hdj (fun hp2 hd2 hs2 => ?_) few))
      have ho2 : hp2.get? o = some oo := (hs2.2 o (Ne.symm hdo)).trans hoj
      refine wpAny_bind (wpAny_dictEpoch ho2 hdo' ?_)
      rw [if_neg (by simp)]
      refine wpAny_pure ⟨hp2, y + 1, rfl, hleft, hlt, ?_, ho2, hsb.trans hs2⟩
      rw [merged_take_succ kvs more y more[y] (List.getElem?_eq_getElem hym), ← ec]
      exact hd2
    · rintro b t ⟨hp, j, rfl, hr, hj, hdj, hoj, hsb⟩
      have hje : j = eso.size := by
        rcases Nat.lt_or_ge j eso.size with z | z
        · have e := congrArg List.length hr
          rw [List.length_drop, List.length_range] at e
          simp at e
          omega
        · exact Nat.le_antisymm hj z
      refine wpAny_pure (hQ hp ?_ hsb)
      rw [hje, ← hlen, List.take_length] at hdj
      exact hdj
  unfold mergeMapping
  refine wpAny_bind (wpAny_isInstance (T := "dict") (b := true) ho.typeIs dict_sub ?_)
  simp only [if_true]
  refine wpAny_bind (wpAny_specialOf (T := "dict") (v := .ref o) ho.typeIs PySem.F.slot_dict_iter.lookup (wpAny_bind (wpAny_pure ?_)))
  rw [show (some (Value.builtin "dict.__iter__") == some (Value.builtin "dict.__iter__")) = true from beq_self_eq_true _]
  dsimp only
  rw [if_neg (by rw [hoS]; exact Bool.false_ne_true)]
  refine wpAny_bind (wpAny_dictEntries hod hdd ?_)
  split
  · refine wpAny_bind (wpAny_dictEntries hoo hdo' ?_)
    refine wpAny_bind ?_
    rw [← Array.forIn_toList]
    refine wpAny_forIn_list _ (fun (left : List DictEntry) _ t => t = s ∧ ∀ e ∈ left, ∃ c : Key, keyIs c e.key = true) _ ?_ ?_ _ _ ⟨rfl, fun e he => ?_⟩
    · rintro e left b t ⟨rfl, all⟩
      obtain ⟨c, hc⟩ := all e List.mem_cons_self
      have more' : ∀ e ∈ left, ∃ c : Key, keyIs c e.key = true := fun e he => all e (List.mem_cons_of_mem _ he)
      rcases keyIs_shape hc with ⟨i, u, _, ek⟩ | ⟨z, u, _, ek⟩
      · rw [ek]
        exact wpAny_pure ⟨rfl, more'⟩
      · rw [ek]
        exact wpAny_pure ⟨rfl, more'⟩
    · rintro b t ⟨rfl, _⟩
      exact loop
    · obtain ⟨c, hc, _⟩ := hko e (by simpa using he)
      exact ⟨c, hc⟩
  · exact loop
end
end PySem

set_option Elab.async false
set_option linter.all false
set_option maxRecDepth 100000
set_option maxHeartbeats 4000000
namespace L2
open PySem PySem.Spec PyProof.Rows
/-- {**a, **b}: a new dict stands empty at p, the first one's pairs come into it, then the second one's -/
def tMerge2 (t1 t2 : TE) : TE := fun σ H Q => ∀ p, H p = none → t1 σ (upd H p (.dK [])) fun x H1 => ∃ a kvs, x = .ref a ∧ a ≠ p ∧ H1 p = some (.dK []) ∧ Rd H1 a (.dK kvs) ∧ kvs.length ≤ 1000 ∧
  t2 σ (upd H1 p (.dK (mergeK [] kvs))) fun y H2 => ∃ b acc more, y = .ref b ∧ b ≠ p ∧ H2 p = some (.dK acc) ∧ acc.length ≤ 1000 ∧ Rd H2 b (.dK more) ∧ more.length ≤ 1000 ∧ Q (.ref p) (upd H2 p (.dK (mergeK acc more)))
section
variable {X : Cx}
theorem merge_in {pins : List (Addr × Obj)} {σ : St} {H : Hp} {s : Shared} {p a : Addr} {acc kvs : List (Key × V)} {R : Unit → Shared → Prop} {E : Value → Shared → Prop} {A : Around} (I : Inv X pins σ H s) (ne : a ≠ p) (hp : H p = some (.dK acc)) (ha : Rd H a (.dK kvs))
    (l1 : acc.length ≤ 1000) (l2 : kvs.length ≤ 1000) (k : ∀ s', Inv X pins σ (upd H p (.dK (mergeK acc kvs))) s' → R () s') : wpAny (model X.prog X.w) A (mergeMapping p (.ref a) false) R E s := by
  obtain ⟨z, hd, vs, r, dd⟩ := dk_of I.hok hp
  obtain ⟨z2, hd2, ws, r2, dd2⟩ := dk_rd I.hok ha
  have e1 : vs.length = acc.length := (Paired.length r).symm
  have e2 : ws.length = kvs.length := (Paired.length r2).symm
  refine mergeMapping_mix (Ne.symm ne) hd2 dd dd2 (fun h' dd' sb => k _ ?_) (by rw [sizeLine_eq]; omega)
  have hz : (mergeK acc kvs).length ≤ sizeLine := by
    have h1 := length_mergeK kvs acc
    rw [sizeLine_eq]; omega
  have he : ∃ q, h'.get? p = some q := let ⟨q, _, _, hq, _⟩ := dd'; ⟨q, hq⟩
  exact d_write I (by rw [hp]; exact True.intro) sb he (dk_new hz hd (r2.merge r) dd')
theorem pe_merge2 {e1 e2 : Expr} {t1 t2 : TE} {pos : Pos} (h1 : PE X e1 t1) (h2 : PE X e2 t2) : PE X (.Dict [none, none] [e1, e2] pos) (tMerge2 t1 t2) := by
  refine ⟨fun pins s σ H Q I q => ?_⟩
  have hn := I.hok.fresh (Nat.le_refl s.heap.objs.size)
  have I1 := I.laid (a := s.heap.objs.size) (o := .dK []) (h' := s.heap.push { cls := .type "dict", data := .dict #[] }) (t' := s.toks) (fun _ _ q => Heap.get?_push_of_some _ q) (Nat.le_refl _) (dk_empty s.heap I.big)
  rw [arm_eval_Dict]
  refine wpAny_bind (wpAny_standAt ?_)
  show wpAny _ _ (dictDisplay [(none, do let x ← eval e1 X.env; standAt pos; pure x), (none, do let x ← eval e2 X.env; standAt pos; pure x)]) _ _ _
  unfold dictDisplay
  simp only [List.forIn_cons, List.forIn_nil, List.isEmpty_nil, if_true]
  refine wpAny_bind (wpAny_bind (wpAny_bind (wpAny_pure ?_)))
  dsimp only
  refine wpAny_bind (wpAny_alloc ?_)
  refine wpAny_bind (wpAny_holding (wpAny_bind (thn (h1.run pins _ σ _ _ I1 (q _ hn)) fun u s1 ⟨x, H1, I2, r1, a, kvs, ex, ne, e0, ra, l1, q1⟩ => ?_)))
  subst ex
  cases r1
  refine wpAny_bind (wpAny_standAt (wpAny_pure ?_))
  refine wpAny_bind (wpAny_onRaise (wpAny_tryCatch (wpAny_onRaise (wpAny_holding (merge_in I2 ne e0 ra (by simp) l1 fun s2 I3 => ?_)))))
  refine wpAny_pure ?_
  dsimp only
  simp only [List.isEmpty_nil, if_true]
  refine wpAny_bind (wpAny_bind (wpAny_pure ?_))
  dsimp only
  refine wpAny_bind (wpAny_pure ?_)
  refine wpAny_bind (wpAny_holding (wpAny_bind (thn (h2.run pins _ σ _ _ I3 q1) fun u s3 ⟨y, H2, I4, r2, b, acc, more, ey, ne2, e1', l2, rb, l3, q2⟩ => ?_)))
  subst ey
  cases r2
  refine wpAny_bind (wpAny_standAt (wpAny_pure ?_))
  refine wpAny_bind (wpAny_onRaise (wpAny_tryCatch (wpAny_onRaise (wpAny_holding (merge_in I4 ne2 e1' rb l2 l3 fun s4 I5 => ?_)))))
  refine wpAny_pure ?_
  dsimp only
  refine wpAny_pure ?_
  simp only [List.isEmpty_nil, if_true]
  refine wpAny_bind (wpAny_pure ?_)
  dsimp only
  exact wpAny_pure ⟨.ref _, _, I5, rfl, q2⟩
end
end L2

set_option Elab.async false
set_option linter.all false
set_option maxRecDepth 100000
set_option maxHeartbeats 4000000
namespace L2
open PySem PySem.Spec PyProof.Rows
/-- a def of the text, by its name, without defaults -/
structure Df (P : Program) (w : World) (K : PySem.W.Frag) (mg : Str → Option Value) (base : Heap) (k : Nat) (x : Str) (sp : Sp) : Prop where
  ex : ∃ (f : Addr) (fd : FuncData) (ps : List Str), FnOk P w K mg base CX0 k f fd ps sp ∧ mg x = some (.ref f) ∧ PySem.W.keepIn K (.ref f) = true ∧ Binds K fd ps []
/-- a method of the text's own, by its address -/
structure Mf (P : Program) (w : World) (K : PySem.W.Frag) (mg : Str → Option Value) (base : Heap) (k : Nat) (C : Addr) (m : Str) (sp : Sp) : Prop where
  ex : ∃ (f : Addr) (fd : FuncData) (ps : List Str), FnOk P w K mg base CX0 k f fd ps sp ∧ Meth K C m f ∧ Own K C m f ∧ PySem.W.fnIn K f = true ∧ Binds K fd ps []
section
variable {X : Cx} {k j : Nat} {C : Addr} {x m : Str} {sp : Sp} {p pos apos : Pos} {e o : Expr} {es : List Expr} {ta tb : TE} {t : TA}
theorem pe_c (c : Df X.prog X.w X.K X.mg X.base k x sp) (hr : Room j X.A) (hk : k ≤ j) (hg : Gl X x) (ha : PA X (e :: es) t)
    (hdb : (x == ("__debug__" : Str)) = false := by decide) (he : starEach (e :: es) X.env = (false, eval e X.env) :: starEach es X.env := by rfl) (hpl : (backTo pos (starEach es X.env)).any (·.1) = false := by rfl) :
    PE X (.Call (.Name x p) (e :: es) [] pos) (tCall sp [] E0 t) := by
  obtain ⟨f, fd, ps, F, hm, kp, b⟩ := c.ex
  exact pe_call F (hr.mono hk) hg hm kp b .nil pass0 ha hdb he hpl
theorem op_inO (c : Mf X.prog X.w X.K X.mg X.base k C "__contains__" sp) (hr : Room j X.A) (hk : k ≤ j) :
    OpR X (compareOp .In) (fun x y H Q => ∃ a dx fs, y = .ref a ∧ H a = some (.ins C dx fs) ∧ sp [.ref a, x] H (fun v H' => ∃ b, v = .bl b ∧ Q (.bl b) H') E0) := by
  obtain ⟨f, fd, ps, F, _, o, _, b⟩ := c.ex
  exact op_inOwn F b pass0 o (hr.mono hk)
theorem op_notInO (c : Mf X.prog X.w X.K X.mg X.base k C "__contains__" sp) (hr : Room j X.A) (hk : k ≤ j) :
    OpR X (compareOp .NotIn) (fun x y H Q => ∃ a dx fs, y = .ref a ∧ H a = some (.ins C dx fs) ∧ sp [.ref a, x] H (fun v H' => ∃ b, v = .bl b ∧ Q (.bl (!b)) H') E0) := by
  obtain ⟨f, fd, ps, F, _, o, _, b⟩ := c.ex
  exact op_notInOwn F b pass0 o (hr.mono hk)
theorem call_lenO (c : Mf X.prog X.w X.K X.mg X.base k C "__len__" sp) (hr : Room j X.A) (hk : k + 1 ≤ j) :
    CallR X (.builtin "len") (fun xs H Q => ∃ a dx fs, xs = [.ref a] ∧ H a = some (.ins C dx fs) ∧ sp [.ref a] H (fun v H' => ∃ k : Nat, v = .int k ∧ k ≤ sizeLine ∧ Q (.int k) H') E0) := by
  obtain ⟨f, fd, ps, F, _, o, _, b⟩ := c.ex
  exact call_lenOwn F b pass0 o (hr.mono hk)
theorem call_strO (c : Mf X.prog X.w X.K X.mg X.base k C "__str__" sp) (hr : Room j X.A) (hk : k + 2 ≤ j) :
    CallR X (.type "str") (fun xs H Q => ∃ a dx fs, xs = [.ref a] ∧ H a = some (.ins C dx fs) ∧ sp [.ref a] H (fun v H' => ∃ z, v = .str z ∧ Q (.str z) H') E0) := by
  obtain ⟨f, fd, ps, F, _, o, _, b⟩ := c.ex
  exact call_strOwn F b pass0 o (hr.mono hk)
theorem pe_ixO {a b : Expr} (c : Mf X.prog X.w X.K X.mg X.base k C "__getitem__" sp) (hr : Room j X.A) (hk : k + 1 ≤ j) (hA : PE X a ta) (hB : PE X b tb)
    (hsl : ∀ v u, subscripted b true v u = runValue (.builtin "lifetime.subscript" ⟨[v, u], []⟩) := by intro _ _; rfl) :
    PE X (.Subscript a b pos) (tOp (fun x y H Q => ∃ a dx fs, x = .ref a ∧ H a = some (.ins C dx fs) ∧ sp [.ref a, y] H Q E0) ta tb) := by
  obtain ⟨f, fd, ps, F, _, o, fi, b⟩ := c.ex
  exact pe_ixOwn F b pass0 o fi (hr.mono hk) hA hB hsl
theorem op_eqO (c : Mf X.prog X.w X.K X.mg X.base k C "__eq__" sp) (hr : Room j X.A) (hk : k ≤ j) : OpR X (compareOp .Eq) (rEqOwn X.K C sp E0 id) := by
  obtain ⟨f, fd, ps, F, _, o, _, b⟩ := c.ex
  exact op_eqOwn F b pass0 o (hr.mono hk)
theorem op_neO (c : Mf X.prog X.w X.K X.mg X.base k C "__eq__" sp) (hne : PySem.W.findIn X.K (.ref C) "__ne__" = some (some (.builtin "object.__ne__"))) (hm : PySem.W.mroIn X.K C (.type "object") = some true) (hr : Room j X.A) (hk : k + 1 ≤ j) :
    OpR X (compareOp .NotEq) (rEqOwn X.K C sp E0 not) := by
  obtain ⟨f, fd, ps, F, _, o, _, b⟩ := c.ex
  exact op_neOwn F b pass0 o hne hm (hr.mono hk)
end
end L2

set_option Elab.async false
set_option linter.all false
set_option maxRecDepth 100000
set_option maxHeartbeats 4000000
/-! The rules whose readings name X.K, with K said: for what stands in a comprehension's block. -/
namespace L2
open PySem PySem.Spec PyProof.Rows
section
variable {X : Cx} {K : PySem.W.Frag} {o e a b : Expr} {es : List Expr} {to ta tb : TE} {t : TA} {name f : Str} {apos cpos pos : Pos} {T id : String} {r : V → List V → Hp → VK → Prop}
theorem pe_bm0K (hK : X.K = K) (pa : PlainAttrs T) (slot : Slot T name id) (hty : typeOf (.builtin id) = pure (.type "method_descriptor")) (hm : MtR X id r) (ho : PE X o to) (hbase : attributeBase o name X.env (eval o X.env) = eval o X.env := by rfl) (hline : (apos.endLine == cpos.line) = true := by rfl) : PE X (.Call (.Attribute o name apos) [] [] cpos) (tBM0 K T r to) := by
  subst hK
  exact pe_bm0 pa slot hty hm ho hbase hline
theorem pe_bmK (hK : X.K = K) (pa : PlainAttrs T) (slot : Slot T name id) (hty : typeOf (.builtin id) = pure (.type "method_descriptor")) (hm : MtR X id r) (ho : PE X o to) (ha : PA X (e :: es) t) (hbase : attributeBase o name X.env (eval o X.env) = eval o X.env := by rfl) (hfew : ((backTo cpos (starEach (e :: es) X.env)).all (fun x => !x.1) && (backToKw cpos (keywordEach [] X.env)).all (fun x => x.1.isSome) && decide ((e :: es).length + ([] : List Keyword).length + (if ([] : List Keyword).isEmpty then 0 else 1) < 30)) = true := by rfl) (hline : (apos.endLine == cpos.line) = true := by rfl) (hs : starEach (e :: es) X.env = (false, eval e X.env) :: starEach es X.env := by rfl) (hplain : (backTo cpos (starEach es X.env)).any (·.1) = false := by rfl) :
    PE X (.Call (.Attribute o name apos) (e :: es) [] cpos) (tBM K T r to t) := by
  subst hK
  exact pe_bm pa slot hty hm ho ha hbase hfew hline hs hplain
theorem pe_fldK (hK : X.K = K) (he : PE X e ta) (hb : attributeBase e f X.env (eval e X.env) = eval e X.env) : PE X (.Attribute e f pos) (tFld K ta f) := by
  subst hK
  exact pe_fld he hb
def rLenSeq (K : PySem.W.Frag) : List V → Hp → VK → Prop := fun xs H Q => ∃ p ys, xs = [.ref p] ∧ (SqL K H p ys ∨ SqT K H p ys) ∧ Q (.int ys.length) H
theorem call_len_seqK (hK : X.K = K) : CallR X (.builtin "len") (rLenSeq K) := by
  subst hK
  exact call_len_seq
theorem ix_listK (hK : X.K = K) : IxR X (rIxL K) := by
  subst hK
  exact ix_list
theorem ix_tupK (hK : X.K = K) : IxR X (rIxT K) := by
  subst hK
  exact ix_tup
theorem sl_listK (hK : X.K = K) : SlR X (rSlL K) := by
  subst hK
  exact sl_list
theorem op_neDK (hK : X.K = K) (hu : X.A.units + 64 < cLine) : OpR X (compareOp .NotEq) (rNeD K) := by
  subst hK
  exact op_neD hu
theorem op_eqDK (hK : X.K = K) (hu : X.A.units + 64 < cLine) : OpR X (compareOp .Eq) (rEqD K) := by
  subst hK
  exact op_eqD hu
def rListOf (K : PySem.W.Frag) : List V → Hp → VK → Prop := fun xs H Q => ∃ p ys, xs = [.ref p] ∧ (SqL K H p ys ∨ SqT K H p ys) ∧ ∀ l, H l = none → Q (.ref l) (upd H l (.lst ys))
theorem call_list_ofK (hK : X.K = K) : CallR X (.type "list") (rListOf K) := by
  subst hK
  exact call_list_of
def rJoin (K : PySem.W.Frag) : V → List V → Hp → VK → Prop := fun x xs H Q => ∃ a p, ∃ ys : List Str, x = .str a ∧ xs = [.ref p] ∧ (SqL K H p (ys.map V.str) ∨ SqT K H p (ys.map V.str)) ∧ (ys.map (·.length)).sum + ys.length * a.length ≤ 16777216 ∧ Q (.str (Txt.join a ys)) H
theorem pe_joinK (hK : X.K = K) (ho : PE X o to) (he : PE X e ta) (hs : starEach [e] X.env = [(false, eval e X.env)] := by rfl) (hbase : attributeBase o "join" X.env (eval o X.env) = eval o X.env := by rfl) (hline : (apos.endLine == pos.line) = true := by rfl) : PE X (.Call (.Attribute o "join" apos) [e] [] pos) (tM1 (rJoin K) to ta) := by
  subst hK
  exact pe_join ho he hs hbase hline
theorem call_strS : CallR X (.type "str") (fun xs H Q => ∃ a, xs = [.str a] ∧ Q (.str a) H) := SkE.call_str_str
def rTupleOf (K : PySem.W.Frag) : List V → Hp → VK → Prop := fun xs H Q => ∃ p ys, xs = [.ref p] ∧ ((SqL K H p ys ∧ ∀ l, H l = none → Q (.ref l) (upd H l (.tup ys))) ∨ (SqT K H p ys ∧ Q (.ref p) H))
theorem call_tuple_ofK (hK : X.K = K) : CallR X (.type "tuple") (rTupleOf K) := by
  subst hK
  exact call_tuple_of
end
end L2

set_option Elab.async false
set_option linter.all false
set_option maxRecDepth 100000
set_option maxHeartbeats 4000000
namespace L2
open PySem PySem.Spec PyProof.Rows
/-- a name of the module holds a value -/
def GV (mg : Str → Option Value) (x : Str) (v : V) : Prop := ∃ u, mg x = some u ∧ RelV v u
theorem pe_gv {X : Cx} {x : Str} {v : V} {pos : Pos} (h : GV X.mg x v) (hg : Gl X x) (hd : (x == ("__debug__" : Str)) = false := by decide) : PE X (.Name x pos) (tC v) := by
  obtain ⟨u, h1, h2⟩ := h
  exact pe_glob hg h1 h2 hd
theorem pj_nil {X : Cx} : PJ X [] [] := .nil
theorem pj_cons {X : Cx} {e : Expr} {t : TE} {es : List Expr} {ts : List TE} (h : PE X e t) (r : PJ X es ts) : PJ X (e :: es) (t :: ts) := .cons h r
/-- a dict comprehension over what a Walk tells -/
theorem dc_it {J : It} {m : Nat} {G : Hp → Prop} {Y : Nat → Hp → V → Hp → Prop} (w : Walk J m G Y) {g : TG} {tt : TT} {tk tv : TE} {own : List Nat} {σ : St} {H1 : Hp} {D : Addr} {Qd : Hp → Prop} (Pv : Nat → Hp → Prop) (start : Pv 0 (upd H1 D (.dK []))) (keeps : ∀ i H, i ≤ m → Pv i H → G H)
    (turn : ∀ i x H H', i < m → Pv i H → Y i H x H' → g x (wipe σ own) H' fun σ2 H2 => wipe σ2 own = wipe σ own ∧ tt σ2 H2 fun b H3 =>
      if b = true then tk σ2 H3 fun y H4 => tv σ2 H4 fun z H5 => ∃ kvs k, y = kV k ∧ H5 D = some (.dK kvs) ∧ kvs.length < sizeLine ∧ Pv (i + 1) (upd H5 D (.dK (putK kvs k z))) else Pv (i + 1) H3) (done : ∀ H, Pv m H → Qd H) :
    ∃ W : Nat → Nat → Hp → Prop, (∃ j, W 0 j (upd H1 D (.dK []))) ∧ ∀ i j H, W i j H →
      (J.stop i H ∧ Qd H) ∨ (J.go i H ∧ ∃ Nx : Hp → Prop, (∀ H', Nx H' → ∃ j', j' < j ∧ W (i + 1) j' H') ∧ ∀ x H', J.yld i H x H' → g x (wipe σ own) H' fun σ2 H2 => wipe σ2 own = wipe σ own ∧ tt σ2 H2 fun b H3 =>
        if b = true then tk σ2 H3 fun y H4 => tv σ2 H4 fun z H5 => ∃ kvs k, y = kV k ∧ H5 D = some (.dK kvs) ∧ kvs.length < sizeLine ∧ Nx (upd H5 D (.dK (putK kvs k z))) else Nx H3) := by
  refine ⟨fun i j H => j = m - i ∧ i ≤ m ∧ Pv i H, ⟨m, by simp, Nat.zero_le _, start⟩, ?_⟩
  rintro i j H ⟨rfl, hi, pv⟩
  have kp := keeps i H hi pv
  rcases Nat.lt_or_ge i m with less | more
  · exact .inr ⟨w.goes i H less kp, Pv (i + 1), fun H' p' => ⟨m - (i + 1), by omega, rfl, less, p'⟩, fun x H' y => turn i x H H' less pv (w.yields i H x H' less kp y)⟩
  · obtain rfl : i = m := Nat.le_antisymm hi more
    exact .inl ⟨w.stops H kp, done H pv⟩
section
variable {X : Cx}
/-- y = {k: v for ..}: the name is stored within the comprehension's frame -/
theorem ps_setDc {j : Nat} {y : Str} {yp : Pos} {kx vx tg iter : Expr} {ifs : List Expr} {scope : Scope} {own : List (Str × Nat)} {cp sp : Pos} {wi : TI} {g : TG} {tt : TT} {tk tv : TE} (calm : X.calm = true) (nodup : X.N.Nodup) (atJ : X.N[j]? = some y) (isLoc : X.env.scope.names.lookup y = some .local)
    (swaps : swapsWith (.DictComp kx vx [⟨tg, iter, ifs, 0⟩] scope cp) (some (.Name y yp)) sp.line X.env = pure true) (walks : PI X tg iter wi) (blk : BlkOk X.N X.env.scope scope own)
    (target : ∀ (s : Shared) (H : Hp) (C : Addr) (cl : List (Str × Addr)) (fp : List Addr), PG (X.blk s H scope (compEnvC scope cl C X.env) fp) tg g) (tests : ∀ (s : Shared) (H : Hp) (C : Addr) (cl : List (Str × Addr)) (fp : List Addr), PTs (X.blk s H scope (compEnvC scope cl C X.env) fp) ifs tt)
    (keys : ∀ (s : Shared) (H : Hp) (C : Addr) (cl : List (Str × Addr)) (fp : List Addr), PE (X.blk s H scope (compEnvC scope cl C X.env) fp) kx tk)
    (vals : ∀ (s : Shared) (H : Hp) (C : Addr) (cl : List (Str × Addr)) (fp : List Addr), PE (X.blk s H scope (compEnvC scope cl C X.env) fp) vx tv) (plain : ∀ x, foldedSetIterable iter X.env x = pure x := by intro _; rfl) :
    PS X (.Assign [.Name y yp] (.DictComp kx vx [⟨tg, iter, ifs, 0⟩] scope cp) sp) (tAsg (tDc wi g tt tk tv (own.map (·.2))) (gName j)) := by
  refine ⟨fun pins s σ H D I want => ?_⟩
  rw [exec_Assign_Name_used _ _ _ _ swaps]
  refine wpAny_bind (wpAny_standAt (wpAny_bind ?_))
  show wpAny _ X.A (do let _ ← comprehension (.DictComp kx vx [⟨tg, iter, ifs, 0⟩] scope cp) scope X.env (firstIterPos [⟨tg, iter, ifs, 0⟩] cp) newDict false (eval iter X.env) (some (assign (.Name y yp) X.env))) _ _ s
  have want' : tDc wi g tt tk tv (own.map (·.2)) σ H (fun x H1 => gName j x σ H1 D.nx) := want
  refine wpAny_bind (thn (dc_core (Qf := fun _ s' => SP X pins D .next s') calm nodup I walks blk target tests keys vals plain want' fun made frame s' m H' J q hn young => ?_) fun _ s' z => wpAny_pure (wpAny_pure z))
  show wpAny _ _ (assign (.Name y yp) X.env (.ref made)) _ _ _
  refine wpAny_assign_Name (store_ok2 (v := V.ref made) J nodup atJ (.inl isLoc) rfl (fun s2 J2 ⟨a, but, isA⟩ => ?_) (.inr isLoc))
  obtain ⟨y0, y1, y2, y3, y4, y5⟩ := young
  have apart : frame ≠ a := by
    rcases isA with z | z
    · rw [z]
      exact y1
    · intro e
      exact y4 y a z e.symm
  refine ⟨m, hn.sameBut but apart, fun h3 but3 => ?_⟩
  exact ⟨_, H', J2.turned (t' := s2.toks) (fun b o hb e => (but3.2 b hb).trans e) y0 y1 y3 y4 y5, q⟩
theorem sw_trueD {kx vx : Expr} {gs : List Comprehension} {scope : Scope} {pos py : Pos} {y : Str} {l : Nat} {env : Env} (isFun : env.scope.kind = .function) (isLoc : env.scope.names.lookup y = some .local) (line : (py.line == pos.line) = true)
    (apart : (scope.names.any fun (n, k) => n == y && (k == .local || k == .cell)) = false) : swapsWith (.DictComp kx vx gs scope pos) (some (.Name y py)) l env = pure true := by
  have k1 : env.kindOf y = some .local := isLoc
  have k2 : env.blockKind = .function := by
    unfold Env.blockKind
    rw [isFun]
    rfl
  unfold swapsWith
  simp only [k2, k1, apart, Expr.pos, line]
  rfl
end
/-- not x, by truth, K said -/
theorem pe_notTK {X : Cx} {K : PySem.W.Frag} {a : Expr} {ta : TE} {pos : Pos} (hK : X.K = K) (ha : PE X a ta) : PE X (.UnaryOp .Not a pos) (tNotT K ta) := by
  subst hK
  exact pe_notT ha
end L2

set_option Elab.async false
set_option linter.all false
set_option maxRecDepth 100000
set_option maxHeartbeats 4000000
/-! Dicts of texts compared both ways; a staticmethod called by the class's name. -/
namespace L2
open PySem PySem.Spec PyProof.Rows
def Strs (ks : List (Key × V)) : Prop := ∀ p ∈ ks, ∃ z, p.2 = .str z
def sameD (ks ls : List (Key × V)) : Bool := ks.length == ls.length && ks.all fun p => decide (valV ls p.1 = some p.2)
theorem valV_mem {ls : List (Key × V)} {k : Key} {y : V} (h : valV ls k = some y) : ∃ p ∈ ls, p.2 = y := by
  unfold valV at h
  cases e : ls.find? (fun kv => decide (kv.1 = k)) with
  | none =>
    rw [e] at h
    cases h
  | some q =>
    rw [e] at h
    exact ⟨q, List.mem_of_find?_eq_some e, Option.some.inj h⟩
theorem eqAt_strs {A : Around} {s : Shared} {x y : Str} {u u' : Value} (r : RelV (.str x) u) (r' : RelV (.str y) u') : SeqAt.EqAt A s u u' (decide (x = y)) := by
  obtain ⟨t, rfl⟩ := (show ∃ t, u = Value.str x t from r)
  obtain ⟨t', rfl⟩ := (show ∃ t, u' = Value.str y t from r')
  have q := SeqAt.EqAt.str_str (A := A) (s := s) x t y t'
  have e : (x == y) = decide (x = y) := by
    rw [Bool.eq_iff_iff]
    simp
  rw [e] at q
  exact q
theorem hits_str {A : Around} {s : Shared} {ls : List (Key × V)} {vb : List (Key × Value)} (rb : KV ls vb) (sl : Strs ls) {ks : List (Key × V)} {va : List (Key × Value)} (ra : KV ks va) :
    Strs ks → PySem.W.KeqHits A s vb va (ks.all fun p => decide (valV ls p.1 = some p.2)) := by
  unfold KV at ra
  induction ra with
  | nil => intro _; exact .nil
  | @cons p q ps qs h t ih =>
    intro hp
    obtain ⟨h1, h2⟩ := h
    obtain ⟨z, ez⟩ := hp p List.mem_cons_self
    have rr : RelO (valV ls p.1) (valueAt vb p.1) := rb.val p.1
    obtain ⟨k, v⟩ := q
    have h1' : p.1 = k := h1
    rw [h1'] at rr
    rw [List.all_cons, h1']
    cases e : valV ls k with
    | none =>
      rw [e] at rr
      have hn : valueAt vb k = none := RelO.none_of rr
      have ef : decide ((none : Option V) = some p.2) = false := rfl
      rw [ef, Bool.false_and]
      exact .miss hn
    | some y =>
      rw [e] at rr
      obtain ⟨y', hy, ry⟩ := rr.some_of
      obtain ⟨q2, hm, e2⟩ := valV_mem e
      obtain ⟨z2, ez2⟩ := sl q2 hm
      have ey : y = .str z2 := e2.symm.trans ez2
      subst ey
      rw [ez] at h2
      have hh := eqAt_strs (A := A) (s := s) h2 ry
      have ed : decide (some (V.str z2) = some p.2) = decide (z = z2) := by
        rw [ez]
        by_cases c : z = z2
        · rw [c]
          simp
        · rw [decide_eq_false c, decide_eq_false]
          intro w
          exact c (V.str.inj (Option.some.inj w)).symm
      rw [ed]
      exact .hit hy hh (ih fun p' hm => hp p' (List.mem_cons_of_mem _ hm))
section
variable {X : Cx}
def rEqDT (g : Bool → Bool) : R2 := fun x y H Q => ∃ a b ks ls, x = .ref a ∧ y = .ref b ∧ Rd H a (.dK ks) ∧ Rd H b (.dK ls) ∧ Strs ks ∧ Strs ls ∧ Q (.bl (g (sameD ks ls))) H
theorem op_eqDT (hu : X.A.units + 1 < cLine) : OpR X (compareOp .Eq) (rEqDT id) := by
  intro pins s σ H x y v u Q I rx ry h
  obtain ⟨a, b, ks, ls, rfl, rfl, ea, eb, sk, sl, q⟩ := h
  obtain rfl : v = Value.ref a := rx
  obtain rfl : u = Value.ref b := ry
  obtain ⟨_, ya, va, ra, da⟩ := dk_rd I.hok ea
  obtain ⟨_, yb, vb, rb, db⟩ := dk_rd I.hok eb
  have h1 : va.length = ks.length := (Paired.length ra).symm
  have h2 : vb.length = ls.length := (Paired.length rb).symm
  exact PySem.W.keq_eq (knd := mixKind X.prog X.w) ya yb da db (Nat.lt_of_succ_lt hu) (fun _ => hits_str rb sl ra sk) (fin_bl I q (by rw [h1, h2]; rfl))
theorem op_neDT (hu : X.A.units + 1 < cLine) : OpR X (compareOp .NotEq) (rEqDT not) := by
  intro pins s σ H x y v u Q I rx ry h
  obtain ⟨a, b, ks, ls, rfl, rfl, ea, eb, sk, sl, q⟩ := h
  obtain rfl : v = Value.ref a := rx
  obtain rfl : u = Value.ref b := ry
  obtain ⟨_, ya, va, ra, da⟩ := dk_rd I.hok ea
  obtain ⟨_, yb, vb, rb, db⟩ := dk_rd I.hok eb
  have h1 : va.length = ks.length := (Paired.length ra).symm
  have h2 : vb.length = ls.length := (Paired.length rb).symm
  exact PySem.W.keq_ne (knd := mixKind X.prog X.w) ya yb da db (Nat.lt_of_succ_lt hu) (fun _ => hits_str rb sl ra sk) (fin_bl I q (by rw [h1, h2]; rfl))
end
/-- C.m is a staticmethod: its record at p, its def at g -/
structure SMet (K : PySem.W.Frag) (C : Addr) (mc : Value) (m : Str) (p g : Addr) : Prop where
  at_ : PySem.W.findCls K (.ref C) mc m = some (.get (.builtin "staticmethod.__get__") (.ref p) .none (.ref C))
  rc : ∃ rest, PySem.W.recIn K p "staticmethod" = some (.ref g :: rest)
  kp : PySem.W.keepIn K (.ref g) = true
section
variable {X : Cx} {CX : CXT} {k : Nat} {C p g : Addr} {mc : Value} {sp : Sp} {E : XK} {o e : Expr} {es : List Expr} {m : Str} {pos apos : Pos} {ta : TE} {t : TA} {pl : Sem Bool} {fd : FuncData} {ps : List Str}
theorem getmethsm_ok {pins : List (Addr × Obj)} {σ : L2.St} {H : Hp} {s : Shared} {A : Around} {E : Value → Shared → Prop} {Q : Value × List Value → Shared → Prop} (I : Inv X pins σ H s) (r : ClX.CRead X.K C mc) (k : SMet X.K C mc m p g)
    (h : ∀ s', Inv X pins σ H s' → Q (.ref g, []) s') : wpAny (model X.prog X.w) A (getMethod (.ref C) m pl) Q E s := by
  obtain ⟨rest, hp⟩ := k.rc
  refine PySem.W.method_cls I.kIn r.ga ?_
  refine PySem.W.cls_bind I.kIn r.rd k.at_ ?_
  refine wpAny_call (PySem.W.sm_get (s := { s with toks := s.toks + 1 }) I.kIn hp (PySem.W.handed_on rfl ?_))
  exact h _ (I.tok _)
/-- e.m(..), e the class at C, m a staticmethod -/
def tSMeth (C : Addr) (sp : Sp) (E : XK) (ta : TE) (t : TA) : TE := fun σ H Q => ta σ H fun x H1 => x = .ref C ∧ t σ H1 fun vs H2 => sp vs H2 Q E
theorem pe_smeth (he : PE X o ta) (r : ClX.CRead X.K C mc) (c : SMet X.K C mc m p g) (F : FnOk X.prog X.w X.K X.mg X.base CX k g fd ps sp) (hr : Room k X.A) (hb : Binds X.K fd ps []) (hx : Passes CX X E) (ha : PA X (e :: es) t)
    (hst : starEach (e :: es) X.env = (false, eval e X.env) :: starEach es X.env := by rfl) (hpl : (backTo pos (starEach es X.env)).any (·.1) = false := by rfl)
    (ht : eval (.Call (.Attribute o m apos) (e :: es) [] pos) X.env = (do
      let ov ← eval o X.env
      standAt apos.atName
      let (f, first) ← holding [ov] (getMethod ov m pl)
      callWith pos f first (backTo pos (starEach (e :: es) X.env)) (backToKw pos (keywordEach [] X.env))) := by rfl) :
    PE X (.Call (.Attribute o m apos) (e :: es) [] pos) (tSMeth C sp E ta t) := by
  refine ⟨fun pins s σ H Q I h => ?_⟩
  refine PySem.W.methodCall_KW (pl := pl) (thn (he.run pins s σ H _ I h) fun u s1 ⟨x, H1, I1, rx, ex, q⟩ => ?_) ht
  subst ex
  obtain rfl : u = Value.ref C := rx
  refine getmethsm_ok I1 r c fun s2 I2 => ?_
  refine PySem.W.callWith_K (h₀ := X.base) I.ok.mod.kin c.kp (thn (ha.run pos pins s2 σ H1 _ I2 q) fun us s3 ⟨vs, H2, I3, rv, q2⟩ => ⟨I3.kIn, ?_⟩) hst hpl
  exact run_fn (us := us) (dvs := []) (ds := []) F hr hb .nil hx I3 rv (by rw [List.append_nil]; exact q2)
/-- e.m(k = v, ..) -/
def tSMethK (C : Addr) (sp : Sp) (gV : List V → List V → List V) (E : XK) (ta : TE) (tk : TA) : TE := fun σ H Q => ta σ H fun x H1 => x = .ref C ∧ tk σ H1 fun zs H2 => sp (gV [] zs) H2 Q E
theorem pe_smethK0 {kws : List Keyword} {tk : TA} {ks : List Str} {gg : List Value → List Value → List Value} {gV : List V → List V → List V} (he : PE X o ta) (r : ClX.CRead X.K C mc) (c : SMet X.K C mc m p g) (F : FnOk X.prog X.w X.K X.mg X.base CX k g fd ps sp) (hr : Room k X.A) (hb : KBinds X.K fd ps ks gg gV) (hx : Passes CX X E) (hkw : PK X kws tk)
    (hall : (backToKw pos (keywordEach kws X.env)).all (·.1.isSome) = true := by rfl) (hks : (backToKw pos (keywordEach kws X.env)).filterMap (·.1) = ks := by rfl)
    (hpl : ((backTo pos (starEach [] X.env)).any (·.1) || (backToKw pos (keywordEach kws X.env)).any (·.1.isNone)) = false := by rfl)
    (ht : eval (.Call (.Attribute o m apos) [] kws pos) X.env = (do
      let ov ← eval o X.env
      standAt apos.atName
      let (f, first) ← holding [ov] (getMethod ov m pl)
      callWith pos f first (backTo pos (starEach [] X.env)) (backToKw pos (keywordEach kws X.env))) := by rfl) :
    PE X (.Call (.Attribute o m apos) [] kws pos) (tSMethK C sp gV E ta tk) := by
  refine ⟨fun pins s σ H Q I h => ?_⟩
  refine PySem.W.methodCall_KW (pl := pl) (thn (he.run pins s σ H _ I h) fun u s1 ⟨x, H1, I1, rx, ex, q⟩ => ?_) ht
  subst ex
  obtain rfl : u = Value.ref C := rx
  refine getmethsm_ok I1 r c fun s2 I2 => ?_
  refine PySem.W.callWith_KW0 (h₀ := X.base) I.ok.mod.kin c.kp hall (thn (hkw.run pos pins s2 σ H1 _ I2 q) fun ws s3 ⟨zs, H2, I3, rz, q2⟩ => ⟨I3.kIn, ?_⟩) hpl
  rw [hks]
  exact run_fnk (us := []) (vs := []) F hr hb hx I3 .nil rz q2
end
/-- f'..' of two parts or more, by a name -/
def tJo (ts : List TE) : TE := fun σ H Q => tJs ts Str.empty σ H fun out H1 => Q (.str out) H1
theorem pe_joinedT {X : Cx} {v1 v2 : Expr} {rest : List Expr} {ts : List TE} {pos : Pos} (h : PJ X (v1 :: v2 :: rest) ts) : PE X (.JoinedStr (v1 :: v2 :: rest) pos) (tJo ts) := pe_joined h
end L2

set_option Elab.async false
set_option linter.all false
set_option maxRecDepth 100000
set_option maxHeartbeats 4000000
/-! An own error's `__init__` that calls the base error's by the base's name, where the base has none of its own. -/
namespace L2
open PySem PySem.Spec PyProof.Rows
section
variable {X : Cx} {e : Expr} {es : List Expr} {ta : TA} {x : Str} {CR : Addr} {mc : Value} {p1 p2 pos : Pos} {pl : Sem Bool}
theorem pe_baseinit (hg : Gl X x) (hm : X.mg x = some (.ref CR)) (r : ClX.CRead X.K CR mc) (vV : PySem.W.findCls X.K (.ref CR) mc "__init__" = some (.val (.builtin "ValueError.__init__"))) (ha : PA X (e :: es) ta)
    (hdb : (x == ("__debug__" : Str)) = false := by decide)
    (hc : eval (.Call (.Attribute (.Name x p1) "__init__" p2) (e :: es) [] pos) X.env = (do
      let ov ← eval (.Name x p1) X.env
      standAt p2.atName
      let (f, first) ← holding [ov] (getMethod ov "__init__" pl)
      callWith pos f first (backTo pos (starEach (e :: es) X.env)) (backToKw pos (keywordEach [] X.env))) := by rfl)
    (he : starEach (e :: es) X.env = (false, eval e X.env) :: starEach es X.env := by rfl) (hpl : (backTo pos (starEach es X.env)).any (·.1) = false := by rfl) :
    PE X (.Call (.Attribute (.Name x p1) "__init__" p2) (e :: es) [] pos) (tVeI X.K ta) := by
  refine ⟨fun pins s σ H Q I h => ?_⟩
  refine PySem.W.methodCall_KW (pl := pl) (ld_glob I hg hm ?_ hdb) hc
  refine PySem.W.method_cls I.kIn r.ga ?_
  refine PySem.W.cls_value I.kIn r.rd vV (by decide +kernel) ?_
  show wpAny _ _ (callWith pos (Value.builtin "ValueError.__init__") [] (backTo pos (starEach (e :: es) X.env)) []) _ _ _
  refine PyProof.Rows.callWith_method1 (thn (ha.run pos pins _ σ H _ (I.tok _) h) fun us s1 ⟨vs, H1, I1, r1, a, C, ws, ev, hl, T, ea, q⟩ => ?_) he hpl
  subst ev
  cases r1 with
  | @cons _ u0 _ ur ra rw' =>
    obtain rfl : u0 = Value.ref a := ra
    have hlen : ur.length ≤ sizeLine := by
      rw [← Paired.length rw', sizeLine_eq]
      omega
    exact oinit_ok T I1 ea hlen fun s' J => ⟨.non, H1, J, rfl, q⟩
end
end L2

set_option Elab.async false
set_option linter.all false
set_option maxRecDepth 100000
set_option maxHeartbeats 4000000
/-! a | b, a >> b .. by an own method, both of the same class; a <= b by an own one (its answer a bool). -/
namespace L2
open PySem PySem.Spec PyProof.Rows
section
variable {X : Cx} {n : Nat} {CX : CXT} {C f : Addr} {fd : FuncData} {ps : List Str} {sp : Sp} {E : XK}
theorem notNI {v : V} {u : Value} (r : RelV v u) {Q : Value → Shared → Prop} {s : Shared} (q : Q u s) : PySem.W.CmpBack Q u s := by
  cases v <;> first
    | (obtain ⟨t, rfl⟩ := r; exact q)
    | (cases r; exact q)
def rBinOwn (K : PySem.W.Frag) (C : Addr) (sp : Sp) (E : XK) : R2 := fun x y H Q => ∃ a dx fs b dy gs, x = .ref a ∧ H a = some (.ins C dx fs) ∧ y = .ref b ∧ H b = some (.ins C dy gs) ∧ sp [.ref a, y] H Q E
theorem op_binOwn {op : Operator} (F : FnOk X.prog X.w X.K X.mg X.base CX n f fd ps sp) (hb : Binds X.K fd ps []) (hx : Passes CX X E) (hs : PySem.W.findIn X.K (.ref C) (PySem.dunder op.info.2) = some (some (.ref f))) (hf : PySem.W.isFn X.K (.ref f) = true) (hc : PySem.W.selfFirst X.K C = true) (hr : Room n X.A) :
    OpR X (binaryOp op) (rBinOwn X.K C sp E) := by
  intro pins s σ H x y v u Q I rx ry h
  obtain ⟨a, dx, fs, b, dy, gs, rfl, ha, rfl, hbb, hsp⟩ := h
  cases rx
  cases ry
  obtain ⟨od, J⟩ := inst_at I ha
  obtain ⟨od2, J2⟩ := inst_at I hbb
  obtain ⟨m, hF⟩ := I.fr
  refine PySem.W.binop_K hF I.ok.mod.kin J J2.type hc hs hf (thn (run_own (Sub.here hr) F hb hx I (show Vals [V.ref a, V.ref b] [Value.ref a, Value.ref b] from .cons rfl (.cons rfl .nil)) hsp) fun r s' q => ?_)
  obtain ⟨z, H', I', rz, q⟩ := q
  exact notNI rz ⟨z, H', I', rz, q⟩
def rLeOwn (K : PySem.W.Frag) (C : Addr) (sp : Sp) (E : XK) : R2 := fun x y H Q => ∃ a dx fs tb, x = .ref a ∧ H a = some (.ins C dx fs) ∧ TyX K H y tb ∧ PySem.W.notFirst K C tb = true ∧ sp [.ref a, y] H Q E
theorem op_leOwn (F : FnOk X.prog X.w X.K X.mg X.base CX n f fd ps sp) (hb : Binds X.K fd ps []) (hx : Passes CX X E) (o : Own X.K C "__le__" f) (hr : Room n X.A) : OpR X (compareOp .LtE) (rLeOwn X.K C sp E) := by
  intro pins s σ H x y v u Q I rx ry h
  obtain ⟨a, dx, fs, tb, rfl, ha, ty, hn, hs⟩ := h
  cases rx
  obtain ⟨od, J⟩ := inst_at I ha
  obtain ⟨m, hF⟩ := I.fr
  obtain ⟨P, Z, p, _⟩ := kit_of I ry ty
  refine PySem.W.cmp_K (op := .LtE) hr.units0 hF I.ok.mod.kin J (Z.ty _ _ I.kIn p) hn o.find o.fn (thn (run_own (Sub.here hr) F hb hx I (show Vals [V.ref a, y] [Value.ref a, u] from .cons rfl (.cons ry .nil)) hs) fun r s' q => ?_)
  obtain ⟨z, H', I', rz, q⟩ := q
  exact notNI rz ⟨z, H', I', rz, q⟩
end
end L2

set_option Elab.async false
set_option linter.all false
set_option maxRecDepth 100000
set_option maxHeartbeats 4000000
/-! enumerate(text). -/
namespace L2
open PySem PySem.Spec PyProof.Rows
/-- the signs of a text, each in a new pair behind its number -/
def ItSe (z : Str) : It :=
  ⟨fun i _ => i < z.cps.size, fun i H v H' => ∃ T c, v = .ref T ∧ H T = none ∧ H' = upd H T (.tup [.int (i : Nat), .str ⟨#[c]⟩]) ∧ z.cps[i]? = some c, fun i _ => i = z.cps.size⟩
theorem turn_enumS {P : Program} {w : World} {K : PySem.W.Frag} {elts : List Expr} {kk : Nat} {tpos : Pos} (z : Str) (t : Tok) (e it : Addr) :
    Turn P w K (.Tuple elts kk tpos) (ItSe z) [e, it] e (fun i h => (∃ old, IsEnum h e it ((i : Nat) : Int) old) ∧ h.IsStrIter it (strIterType z) z t i ∧ e ≠ it) where
  mem := by simp
  obj := fun i h st b hb => by
    obtain ⟨⟨old, he⟩, ⟨o, ho, hc, hd⟩, _⟩ := st
    have e' : b = e ∨ b = it := by simpa using hb
    rcases e' with z | z
    · rw [z]; exact ⟨_, he, fun v q => nomatch q⟩
    · rw [z]; exact ⟨o, ho, fun v q => by rw [hd] at q; cases q⟩
  keep := fun i h h' st k => by
    obtain ⟨⟨old, he⟩, ⟨o, ho, r⟩, hne⟩ := st
    exact ⟨⟨old, k e (by simp) _ he⟩, ⟨o, k it (by simp) o ho, r⟩, hne⟩
  item := by
    intro X hP hw hK hc i pins s σ H E I hf st hg
    subst hP hw hK
    obtain ⟨⟨old, he⟩, hit, hne⟩ := st
    have hel : e < s.heap.objs.size := Heap.lt_size he
    have hil : it < s.heap.objs.size := by obtain ⟨_, q, _⟩ := hit; exact Heap.lt_size q
    refine wpAny_pyNext_enum_itemD (Draws.text (A := X.A.in1) (I.ok.hd hc) it z t) he hit hg hne (by simpa using hne) fun x h' tk hx ho hit' hT hsz hk => ?_
    obtain ⟨c, u, hcx, rfl⟩ := hx
    refine ⟨_, rfl, wpAny_letOwnedTupleGo_enum (s := { s with heap := h', toks := tk + 1 }) ho fun h'' he' sb => ?_⟩
    have hT2 : h''.get? s.heap.objs.size = some { cls := .type "tuple", data := .seq #[.int i tk, .str ⟨#[c]⟩ u] } := (sb.2 _ (Nat.ne_of_gt hel)).trans hT
    have new : ObjOk X.prog X.w (upd H s.heap.objs.size (.tup [.int (i : Nat), .str ⟨#[c]⟩])) h'' s.heap.objs.size (.tup [.int (i : Nat), .str ⟨#[c]⟩]) :=
      ⟨by show 2 ≤ sizeLine; decide, [.int i tk, .str ⟨#[c]⟩ u], .cons ⟨_, rfl⟩ (.cons ⟨_, rfl⟩ .nil), ⟨_, hT2, rfl, _, rfl⟩⟩
    have I1 : Inv X pins σ (upd H s.heap.objs.size (.tup [.int (i : Nat), .str ⟨#[c]⟩])) { s with heap := h'', toks := tk + 1 } :=
      I.turnedNew (ch := [e, it]) (fun b ob hb q => (sb.2 b (fun z => hb (by simp [z]))).trans (hk b ob (fun z => hb (by simp [z])) (fun z => hb (by simp [z])) q)) hf (Nat.le_refl _) new
    refine ⟨.ref s.heap.objs.size, _, I1, rfl, ⟨_, c, rfl, I.hok.fresh (Nat.le_refl _), rfl, hcx⟩, ⟨⟨.str ⟨#[c]⟩ u, ?_⟩, ?_, hne⟩, fun b hb => ?_⟩
    · have e1 : ((i + 1 : Nat) : Int) = (i : Int) + 1 := by omega
      rw [e1]; exact he'
    · obtain ⟨o, q, r⟩ := hit'
      exact ⟨o, (sb.2 it (Ne.symm hne)).trans q, r⟩
    · have hb' : b < s.heap.objs.size := by
        have e' : b = e ∨ b = it := by simpa using hb
        rcases e' with z | z
        · rw [z]; exact hel
        · rw [z]; exact hil
      rw [upd_ne (Nat.ne_of_lt hb')]
      exact (hf b hb).1
  done := by
    intro X hP hw hK hc i pins s σ H E I hf st hg
    subst hP hw hK
    obtain ⟨⟨old, he⟩, hit, hne⟩ := st
    have hi : i = z.cps.size := hg
    obtain ⟨f0, f1, f2, f3, f4, f5⟩ := hf it (by simp)
    subst hi
    exact wpAny_pyNext_enum_endD (Draws.text (A := X.A.in1) (I.ok.hd hc) it z t) he hit fun h' eb => ⟨rfl, I.turned (t' := s.toks) (fun b o hb q => eb b o hb q) f0 f1 f3 f4 f5⟩
  self := fun A i s Q E st h => let ⟨⟨_, he⟩, _⟩ := st; wpAny_pyIter_enum he h
def iEnumS (ta : TA) : TI := fun σ H R => ta σ H fun vs H1 => ∃ z, vs = [.str z] ∧ R (ItSe z) H1
theorem pi_enumS {X : Cx} {e : Expr} {ta : TA} {p pos tpos : Pos} {elts : List Expr} {kk : Nat} (hg : Gl X "enumerate") (hm : X.mg "enumerate" = none) (ha : PA X [e] ta) (hs : starEach [e] X.env = [(false, eval e X.env)] := by rfl) :
    PI X (.Tuple elts kk tpos) (.Call (.Name "enumerate" p) [e] [] pos) (iEnumS ta) := by
  refine ⟨fun pins s σ H R I h => ?_⟩
  refine Call_ (ld_blt I hg hm boot_enumerate (PyProof.Rows.callWith_type1 (thn (ha.run pos pins s σ H _ I h) fun us s1 ⟨vs, H1, I1, r1, q1⟩ => ?_) hs rfl))
  obtain ⟨z, ex, q⟩ := q1
  subst ex
  cases r1 with
  | cons r rr =>
    cases rr
    obtain ⟨t, rfl⟩ := r
    refine call_enumerate_str fun h' he hit hsz hk => wpAny_pyIter_enum he ?_
    have I2 : Inv X pins σ H1 { s1 with heap := h' } := I1.kept (t' := s1.toks) hk
    refine ⟨s1.heap.objs.size + 1, [s1.heap.objs.size + 1, s1.heap.objs.size], _, _, H1, rfl, I2, turn_enumS z t (s1.heap.objs.size + 1) s1.heap.objs.size, ⟨⟨.none, he⟩, hit, Nat.succ_ne_self _⟩, fun b hb => ?_, q⟩
    have e' : b = s1.heap.objs.size + 1 ∨ b = s1.heap.objs.size := by simpa using hb
    have hle : s1.heap.objs.size ≤ b := by
      rcases e' with z | z
      · rw [z]; exact Nat.le_add_right _ _
      · rw [z]; exact Nat.le_refl _
    exact I1.fpOk hle (I1.hok.fresh hle)
theorem walk_enumS {z : Str} : Walk (ItSe z) z.cps.size (fun _ => True) (fun i H v H' => ∃ T c, v = .ref T ∧ H T = none ∧ H' = upd H T (.tup [.int (i : Nat), .str ⟨#[c]⟩]) ∧ z.cps[i]? = some c) :=
  ⟨fun _ _ hi _ => hi, fun _ _ => rfl, fun _ _ _ _ _ _ y => y⟩
end L2

set_option Elab.async false
set_option linter.all false
set_option maxRecDepth 100000
set_option maxHeartbeats 4000000
/-! The drawing of the law: the pen, a draw, a pick. -/
namespace V8
open PySem PySem.Spec PyProof.Rows L2
def topS (i : Nat) : Stmt := PySem.Challenge.pw_blindrepair_k13_misreadings_joined.main.body.getD i (.Pass ⟨0, 0, 0, 0⟩)
abbrev s_pen : Stmt := topS 35
abbrev n_pen : List Str := ["_law_script"]
theorem sc_pen : FnScope ["_law_script"] ["_law_script"] (defScope s_pen) := ⟨rfl, rfl, rfl, by decide +kernel, rfl, by decide +kernel, by decide +kernel⟩
abbrev s_draw : Stmt := topS 36
abbrev n_draw : List Str := ["_law_pen_here", "_law_many", "_law_digit", "_law_spot", "_law_cell", "_law_great", "_law_stirred"]
theorem sc_draw : FnScope ["_law_pen_here", "_law_many", "_law_digit", "_law_spot", "_law_cell", "_law_great", "_law_stirred"] ["_law_pen_here", "_law_many"] (defScope s_draw) := ⟨rfl, rfl, rfl, by decide +kernel, rfl, by decide +kernel, by decide +kernel⟩
abbrev s_pick : Stmt := topS 37
abbrev n_pick : List Str := ["_law_pen_here", "_law_some"]
theorem sc_pick : FnScope ["_law_pen_here", "_law_some"] ["_law_pen_here", "_law_some"] (defScope s_pick) := ⟨rfl, rfl, rfl, by decide +kernel, rfl, by decide +kernel, by decide +kernel⟩

/-- all but the object at p stands as it stood -/
def Fr (p : Addr) (H H' : Hp) : Prop := ∀ b o, H b = some o → b ≠ p → H' b = some o
theorem Fr.refl {p : Addr} {H : Hp} : Fr p H H := fun _ _ h _ => h
theorem Fr.trans {p : Addr} {H H1 H2 : Hp} (a : Fr p H H1) (b : Fr p H1 H2) : Fr p H H2 := fun c o h n => b c o (a c o h n) n
theorem Fr.new {p q : Addr} {o : HO} {H : Hp} (h : H q = none) : Fr p H (upd H q o) := fun b u e _ => by
  rw [upd_ne (ne_of_none e h)]; exact e
theorem Fr.at {p : Addr} {o : HO} {H : Hp} : Fr p H (upd H p o) := fun b u e n => by
  rw [upd_ne n]; exact e
theorem Fr.none' {p q : Addr} {H H' : Hp} (a : Fr p H H') (hp : H' p ≠ none) (h : H' q = none) : H q = none := by
  cases e : H q with
  | none => rfl
  | some o =>
    by_cases hq : q = p
    · subst hq; exact absurd h hp
    · rw [a q o e hq] at h; cases h
/-- the pen at p, the script's ints at l, n draws are let -/
structure PenAt (H : Hp) (p l : Addr) (ns : List Int) (n : Nat) : Prop where
  here : ∃ (spot great : Int), H p = some (.lst [.ref l, .int spot, .int great]) ∧ 0 ≤ spot ∧ spot + n ≤ 1000000 ∧ 0 ≤ great
  nums : H l = some (.lst (ns.map V.int))
  ne : l ≠ p
  short : ns.length ≤ 63
theorem PenAt.less {H : Hp} {p l : Addr} {ns : List Int} {n m : Nat} (P : PenAt H p l ns n) (h : m ≤ n) : PenAt H p l ns m := by
  obtain ⟨⟨s, g, h1, h2, h3, h4⟩, i, e, sh⟩ := P
  exact ⟨⟨s, g, h1, h2, by omega, h4⟩, i, e, sh⟩
theorem PenAt.some' {H : Hp} {p l : Addr} {ns : List Int} {n : Nat} (P : PenAt H p l ns n) : H p ≠ none := by
  obtain ⟨⟨s, g, h1, _⟩, _⟩ := P
  rw [h1]; exact fun z => nomatch z
theorem PenAt.new {H : Hp} {p l q : Addr} {o : HO} {ns : List Int} {n : Nat} (P : PenAt H p l ns n) (h : H q = none) : PenAt (upd H q o) p l ns n := by
  obtain ⟨⟨s, g, h1, h2, h3, h4⟩, i, e, sh⟩ := P
  exact ⟨⟨s, g, by rw [upd_ne (ne_of_none h1 h)]; exact h1, h2, h3, h4⟩, by rw [upd_ne (ne_of_none i h)]; exact i, e, sh⟩
/-- another object is written -/
theorem PenAt.other {H : Hp} {p l q : Addr} {o : HO} {ns : List Int} {n : Nat} (P : PenAt H p l ns n) (h : q ≠ p) (h' : q ≠ l) : PenAt (upd H q o) p l ns n := by
  obtain ⟨⟨s, g, h1, h2, h3, h4⟩, i, e, sh⟩ := P
  exact ⟨⟨s, g, by rw [upd_ne (Ne.symm h)]; exact h1, h2, h3, h4⟩, by rw [upd_ne (Ne.symm h')]; exact i, e, sh⟩
def spDraw : Sp := fun vs H Q _ => ∃ (p l : Addr) (ns : List Int) (n : Nat) (many : Int), vs = [.ref p, .int many] ∧ PenAt H p l ns (n + 1) ∧ 0 < many ∧ many < 1000 ∧
  ∀ (v : Int) (H' : Hp), 0 ≤ v → v < many → PenAt H' p l ns n → Fr p H H' → Q (.int v) H'
section
variable {P : Program} {w : World} {K : PySem.W.Frag} {mg : Str → Option Value} {base : Heap}
theorem ints_at {ns : List Int} {i : Int} (h0 : 0 ≤ i) (h : i < ns.length) : ∃ z : Int, atI (ns.map V.int) i = some (.int z) := by
  obtain ⟨j, rfl⟩ : ∃ j : Nat, i = j := ⟨i.toNat, by omega⟩
  have hj : j < ns.length := by omega
  exact ⟨ns[j], atI_nat (by rw [List.getElem?_map, List.getElem?_eq_getElem hj]; rfl)⟩
def dInts (ns : List Int) : List PyData := ns.map PyData.int
theorem dp_ints {H : Hp} : ∀ ns : List Int, DpAll K H (ns.map V.int) (dInts ns)
  | [] => .nil
  | n :: ns => .cons (.int n) (dp_ints ns)
theorem lay_ints : ∀ ns : List Int, PyData.canLayAll0 (dInts ns) = true
  | [] => by simp [dInts, PyData.canLayAll0]
  | n :: ns => by
    have h := lay_ints ns
    simp only [dInts, List.map_cons, PyData.canLayAll0, PyData.canLay0, Bool.true_and]
    exact h
theorem depth_ints : ∀ ns : List Int, PyData.depthAll (dInts ns) = 0
  | [] => by simp [dInts, PyData.depthAll]
  | n :: ns => by
    have h := depth_ints ns
    simp only [dInts, List.map_cons, PyData.depthAll, PyData.depth]
    unfold dInts at h
    omega
theorem shaped_ints (ns : List Int) : SeqAt.shaped (.list (dInts ns)) = true := by
  have h2 : PyData.depth (.list (dInts ns)) ≤ 64 := by
    simp only [PyData.depth, depth_ints]
    omega
  show (PyData.canLay0 (.list (dInts ns)) && decide (PyData.depth (.list (dInts ns)) ≤ 64)) = true
  rw [Bool.and_eq_true]
  exact ⟨by simp only [PyData.canLay0]; exact lay_ints ns, decide_eq_true h2⟩
structure Blt (mg : Str → Option Value) : Prop where
  list : mg "list" = none
  int : mg "int" = none
  len : mg "len" = none
  abs : mg "abs" = none
  range : mg "range" = none
  dict : mg "dict" = none
  str : mg "str" = none
  sorted : mg "sorted" = none
  tuple : mg "tuple" = none
theorem pw2 {st spot : Int} (s0 : 0 ≤ st) (s1 : st < 2147469829) (h0 : 0 ≤ spot) (h1 : spot ≤ 1000000) : (st * (2 * spot + 121) + 60073 * spot * spot + 91).natAbs < 2 ^ 64 := by
  have a1 : st * (2 * spot + 121) ≤ 2147483647 * 2000999 := Int.mul_le_mul (by omega) (by omega) (by omega) (by omega)
  have a0 : 0 ≤ st * (2 * spot + 121) := Int.mul_nonneg s0 (by omega)
  have c1 : 60073 * spot * spot ≤ 99999000000 * 1000000 := Int.mul_le_mul (by omega) h1 h0 (by omega)
  have c0 : 0 ≤ 60073 * spot * spot := Int.mul_nonneg (by omega) h0
  omega
theorem ok_draw {f : Addr} {fd : FuncData} {k : Nat} (F : Fun K "_law_draw" "_law_draw" s_draw f fd) (T : Blt mg) : FnOk P w K mg base CX0 (k + 1) f fd ["_law_pen_here", "_law_many"] spDraw := by
  refine F.ok sc_draw (fun vs H Q E h => ?_) (fun cdv A outer s H vs Q E hr h => ?_)
  · obtain ⟨p, l, ns, n, many, rfl, _⟩ := h
    rfl
  · obtain ⟨p, l, ns, n, many, rfl, PA, m0, m1, q⟩ := h
    obtain ⟨⟨spot, great, hp, hs0, hsn, hg⟩, hl, hne, hsh⟩ := id PA
    refine ⟨_, (pss_cons (ps_if (pt_cmpR op_gt (pe_ix (ix_listK (K := K) rfl) (pv 0) pe_int (fun _ _ => rfl)) pe_int (nomark _))
        (pss_cons (ps_set (i := 2) sc_draw.nd rfl (.inl rfl) (pe_op op_mod (pe_callTy call_int1 (by rfl) T.int (by decide +kernel) (pa_cons (pe_ix (ix_listK (K := K) rfl) (pv 0) pe_int (fun _ _ => rfl)) pa_nil)) (pv 1)))
        (pss_cons (ps_asg (pe_op op_fdiv (pe_callTy call_int1 (by rfl) T.int (by decide +kernel) (pa_cons (pe_ix (ix_listK (K := K) rfl) (pv 0) pe_int (fun _ _ => rfl)) pa_nil)) (pv 1)) (pg_sub (pv 0) pe_int set_list))
        (pss_one (ps_ret (pv 2)))))
        pss_nil)
      (pss_cons (ps_set (i := 3) sc_draw.nd rfl (.inl rfl) (pe_ix (ix_listK (K := K) rfl) (pv 0) pe_int (fun _ _ => rfl)))
      (pss_cons (ps_asg (pe_op op_add (pv 3) pe_int) (pg_sub (pv 0) pe_int set_list))
      (pss_cons (ps_set (i := 4) sc_draw.nd rfl (.inl rfl) (pe_op op_add (pe_op op_mul pe_int (pv 3)) pe_int))
      (pss_cons (ps_if (pt_cmpR (op_neDK (K := K) rfl hr.units) (pe_ix (ix_listK (K := K) rfl) (pv 0) pe_int (fun _ _ => rfl)) (pe_lst pa_nil) (nomark _))
        (pss_one (ps_set (i := 4) sc_draw.nd rfl (.inl rfl) (pe_ix (ix_listK (K := K) rfl) (pe_ix (ix_listK (K := K) rfl) (pv 0) pe_int (fun _ _ => rfl)) (pe_op op_mod (pe_callTy call_int1 (by rfl) T.int (by decide +kernel) (pa_cons (pv 3) pa_nil)) (pe_callB (call_len_seqK (K := K) rfl) (by rfl) T.len (by decide +kernel) (pa_cons (pe_ix (ix_listK (K := K) rfl) (pv 0) pe_int (fun _ _ => rfl)) pa_nil))) (fun _ _ => rfl))))
        pss_nil)
      (pss_cons (ps_if (PW.pt (pw_and (pt_cmpR op_lt (pv 3) (pe_callB (call_len_seqK (K := K) rfl) (by rfl) T.len (by decide +kernel) (pa_cons (pe_ix (ix_listK (K := K) rfl) (pv 0) pe_int (fun _ _ => rfl)) pa_nil)) (nomark _)) (pw_and1 (pt_cmpR op_ge (pe_callB call_abs (by rfl) T.abs (by decide +kernel) (pa_cons (pv 4) pa_nil)) (pe_op op_pow pe_int pe_int) (nomark _)))))
        (pss_cons (ps_set (i := 5) sc_draw.nd rfl (.inl rfl) (pe_op op_add (pe_op op_mul pe_int (pe_op op_sub (pe_callB call_abs (by rfl) T.abs (by decide +kernel) (pa_cons (pv 4) pa_nil)) (pe_op op_pow pe_int pe_int))) (pe_callTy call_int1 (by rfl) T.int (by decide +kernel) (pa_cons (pe_cmpR op_lt (pv 4) pe_int (nomark _)) pa_nil))))
        (pss_cons (ps_asg (pe_op op_fdiv (pe_callTy call_int1 (by rfl) T.int (by decide +kernel) (pa_cons (pv 5) pa_nil)) (pv 1)) (pg_sub (pv 0) pe_int set_list))
        (pss_one (ps_ret (pe_op op_mod (pe_callTy call_int1 (by rfl) T.int (by decide +kernel) (pa_cons (pv 5) pa_nil)) (pv 1))))))
        pss_nil)
      (pss_cons (ps_set (i := 6) sc_draw.nd rfl (.inl rfl) (pe_op op_mod (pe_callTy call_int1 (by rfl) T.int (by decide +kernel) (pa_cons (pe_op op_pow (pe_op op_add (pe_op op_add (pe_op op_mod (pe_callTy call_int1 (by rfl) T.int (by decide +kernel) (pa_cons (pv 4) pa_nil)) pe_int) (pe_op op_mul pe_int (pv 3))) pe_int) pe_int) pa_nil)) pe_int))
      (pss_cons (ps_set (i := 6) sc_draw.nd rfl (.inl rfl) (pe_op op_mod (pe_callTy call_int1 (by rfl) T.int (by decide +kernel) (pa_cons (pe_op op_pow (pe_op op_add (pe_op op_add (pe_op op_mul (pv 6) (pe_op op_add (pe_op op_mul pe_int (pv 3)) pe_int)) (pe_op op_mul (pe_op op_mul pe_int (pv 3)) (pv 3))) pe_int) pe_int) pa_nil)) pe_int))
      (pss_one (ps_ret (pe_op op_mod (pe_callTy call_int1 (by rfl) T.int (by decide +kernel) (pa_cons (pe_op op_fdiv (pv 6) pe_int) pa_nil)) (pv 1)))))))))))), ?_⟩
    -- pen[2] > 0
    refine ⟨_, rfl, p, _, 2, _, rfl, rfl, SqL.of hp, rfl, great, 0, rfl, rfl, _, rfl, ?_⟩
    refine ite2 (fun e => ?_) (fun e => ?_)
    · refine ⟨_, rfl, p, _, 2, _, rfl, rfl, SqL.of hp, rfl, .inl ⟨_, rfl, _, rfl, _, _, rfl, rfl, m0, ?_⟩⟩
      refine ⟨_, rfl, p, _, 2, _, rfl, rfl, SqL.of hp, rfl, .inl ⟨_, rfl, _, rfl, _, _, rfl, rfl, ⟨m0, by omega⟩, _, rfl, p, _, 2, 2, rfl, rfl, hp, rfl, ?_⟩⟩
      refine ⟨_, rfl, q _ _ (Int.emod_nonneg _ (by omega)) (Int.emod_lt_of_pos _ m0) ⟨⟨spot, great / many, upd_same, hs0, by omega, Int.ediv_nonneg hg (by omega)⟩, by rw [upd_ne hne]; exact hl, hne, hsh⟩ Fr.at⟩
    -- spot = pen[1]; pen[1] = spot + 1; cell = ..
    refine ⟨_, rfl, p, _, 1, _, rfl, rfl, SqL.of hp, rfl, ?_⟩
    refine ⟨_, rfl, _, _, rfl, rfl, _, rfl, p, _, 1, 1, rfl, rfl, hp, rfl, ?_⟩
    refine ⟨_, rfl, _, _, rfl, rfl, .inl ⟨by decide, by decide⟩, _, _, rfl, rfl, ?_⟩
    have hp1 : upd H p (.lst [.ref l, .int (spot + 1), .int great]) p = some (.lst [.ref l, .int (spot + 1), .int great]) := upd_same
    have hl1 : upd H p (.lst [.ref l, .int (spot + 1), .int great]) l = some (.lst (ns.map V.int)) := by rw [upd_ne hne]; exact hl
    dsimp only [List.set_cons_succ, List.set_cons_zero]
    -- pen[0] != []
    refine ⟨_, rfl, p, _, 0, _, rfl, rfl, SqL.of hp1, rfl, Nat.zero_le _, fun o no => ?_⟩
    have hpo : p ≠ o := ne_of_none hp1 no
    have hlo : l ≠ o := ne_of_none hl1 no
    have hp2 : upd (upd H p (.lst [.ref l, .int (spot + 1), .int great])) o (.lst []) p = some (.lst [.ref l, .int (spot + 1), .int great]) := by rw [upd_ne hpo]; exact hp1
    have hl2 : upd (upd H p (.lst [.ref l, .int (spot + 1), .int great])) o (.lst []) l = some (.lst (ns.map V.int)) := by rw [upd_ne hlo]; exact hl1
    have fr2 : Fr p H (upd (upd H p (.lst [.ref l, .int (spot + 1), .int great])) o (.lst [])) := Fr.at.trans (Fr.new no)
    refine ⟨_, _, .lst (SqL.of hl2) (dp_ints ns), .lst (SqL.of upd_same) .nil, shaped_ints ns, by decide, _, rfl, ?_⟩
    generalize upd (upd H p (.lst [.ref l, .int (spot + 1), .int great])) o (.lst []) = H2 at hp2 hl2 fr2 ⊢
    refine ite2 (fun e => ?g1) (fun e => ?g2)
    case' g1 =>
      have hns : 0 < ns.length := by
        cases ns with
        | nil => simp [dInts, PyData.eqv, PyData.eqvAll] at e
        | cons a r => simp
      have hpos : (0 : Int) < ((ns.map V.int).length : Int) := by rw [List.length_map]; omega
      obtain ⟨z, hz⟩ := ints_at (ns := ns) (i := spot % ((ns.map V.int).length : Int)) (Int.emod_nonneg _ (by omega)) (by
        have := Int.emod_lt_of_pos spot hpos
        rw [List.length_map] at this ⊢
        exact this)
      refine ⟨_, rfl, p, _, 0, _, rfl, rfl, SqL.of hp2, rfl, _, rfl, .inl ⟨_, rfl, _, rfl, p, _, 0, _, rfl, rfl, SqL.of hp2, rfl, l, _, rfl, .inl (SqL.of hl2), _, _, rfl, rfl, hpos, l, _, _, _, rfl, rfl, SqL.of hl2, hz, ?_⟩⟩
      generalize z = c
      refine ⟨_, rfl, _, rfl, p, _, 0, _, rfl, rfl, SqL.of hp2, rfl, l, _, rfl, .inl (SqL.of hl2), _, _, rfl, rfl, _, rfl, ?_⟩
      refine ite2 (fun e1 => ?a3) (fun e1 => ?a4)
      case' a3 =>
        refine ⟨_, rfl, _, rfl, _, _, rfl, rfl, ⟨by decide, by decide, by decide⟩, _, _, rfl, rfl, _, rfl, ?_⟩
        refine ite2 (fun e2 => ?a5) (fun e2 => ?a6)
        case' a5 =>
          have hge := of_decide_eq_true e2
          refine ⟨_, rfl, _, rfl, _, _, rfl, rfl, ⟨by decide, by decide, by decide⟩, _, _, rfl, rfl, _, _, rfl, rfl, .inl ⟨by decide, by decide⟩, _, rfl, _, _, rfl, rfl, .inr ⟨_, rfl, _, _, rfl, rfl, ?_⟩⟩
          have hG : 0 ≤ 2 * ((if c < 0 then -c else c) - 10 ^ (18 : Int).toNat) + (if decide (c < 0) = true then 1 else 0) := by
            have h1 : (10 : Int) ^ (18 : Int).toNat ≤ (if c < 0 then -c else c) := hge
            have h2 : (0 : Int) ≤ (if decide (c < 0) = true then 1 else 0) := by split <;> decide
            omega
          refine ⟨_, rfl, .inl ⟨_, rfl, _, rfl, _, _, rfl, rfl, ⟨m0, by omega⟩, _, rfl, p, _, 2, 2, rfl, rfl, hp2, rfl, ?_⟩⟩
          refine ⟨_, rfl, .inl ⟨_, rfl, _, rfl, _, _, rfl, rfl, m0, ?_⟩⟩
          exact q _ _ (Int.emod_nonneg _ (by omega)) (Int.emod_lt_of_pos _ m0) ⟨⟨spot + 1, _, upd_same, by omega, by omega, Int.ediv_nonneg hG (by omega)⟩, by rw [upd_ne hne]; exact hl2, hne, hsh⟩ (fr2.trans Fr.at)
      case' a4 => refine iteF ?_
    case' g2 =>
      generalize 80091 * spot + 731 = c
      refine ⟨_, rfl, _, rfl, p, _, 0, _, rfl, rfl, SqL.of hp2, rfl, l, _, rfl, .inl (SqL.of hl2), _, _, rfl, rfl, _, rfl, ?_⟩
      refine ite2 (fun e1 => ?b3) (fun e1 => ?b4)
      case' b3 =>
        refine ⟨_, rfl, _, rfl, _, _, rfl, rfl, ⟨by decide, by decide, by decide⟩, _, _, rfl, rfl, _, rfl, ?_⟩
        refine ite2 (fun e2 => ?b5) (fun e2 => ?b6)
        case' b5 =>
          have hge := of_decide_eq_true e2
          refine ⟨_, rfl, _, rfl, _, _, rfl, rfl, ⟨by decide, by decide, by decide⟩, _, _, rfl, rfl, _, _, rfl, rfl, .inl ⟨by decide, by decide⟩, _, rfl, _, _, rfl, rfl, .inr ⟨_, rfl, _, _, rfl, rfl, ?_⟩⟩
          have hG : 0 ≤ 2 * ((if c < 0 then -c else c) - 10 ^ (18 : Int).toNat) + (if decide (c < 0) = true then 1 else 0) := by
            have h1 : (10 : Int) ^ (18 : Int).toNat ≤ (if c < 0 then -c else c) := hge
            have h2 : (0 : Int) ≤ (if decide (c < 0) = true then 1 else 0) := by split <;> decide
            omega
          refine ⟨_, rfl, .inl ⟨_, rfl, _, rfl, _, _, rfl, rfl, ⟨m0, by omega⟩, _, rfl, p, _, 2, 2, rfl, rfl, hp2, rfl, ?_⟩⟩
          refine ⟨_, rfl, .inl ⟨_, rfl, _, rfl, _, _, rfl, rfl, m0, ?_⟩⟩
          exact q _ _ (Int.emod_nonneg _ (by omega)) (Int.emod_lt_of_pos _ m0) ⟨⟨spot + 1, _, upd_same, by omega, by omega, Int.ediv_nonneg hG (by omega)⟩, by rw [upd_ne hne]; exact hl2, hne, hsh⟩ (fr2.trans Fr.at)
      case' b4 => refine iteF ?_
    all_goals
      have b0 := Int.emod_nonneg c (show (2147479879 : Int) ≠ 0 by decide)
      have b1 := Int.emod_lt_of_pos c (show (0 : Int) < 2147479879 by decide)
      refine ⟨_, rfl, .inl ⟨_, rfl, _, _, rfl, rfl, (show (0 : Int) < 2147479879 by decide), _, rfl, _, _, rfl, rfl, .inl ⟨by decide, by decide⟩, _, _, rfl, rfl, _, _, rfl, rfl, _, _, rfl, rfl, ⟨by decide, by decide, by omega⟩, .inl ⟨_, rfl, _, _, rfl, rfl, (show (0 : Int) < 2147469829 by decide), ?_⟩⟩⟩
      have s0 : 0 ≤ ((c % 2147479879 + 71121 * spot + 337) ^ (5 : Int).toNat) % 2147469829 := Int.emod_nonneg _ (by decide)
      have s1 : ((c % 2147479879 + 71121 * spot + 337) ^ (5 : Int).toNat) % 2147469829 < 2147469829 := Int.emod_lt_of_pos _ (by decide)
      have hsp : spot ≤ 1000000 := by omega
      refine ⟨_, rfl, _, rfl, _, _, rfl, rfl, .inl ⟨by decide, by decide⟩, _, _, rfl, rfl, _, _, rfl, rfl, .inl ⟨by omega, by omega⟩, _, rfl, _, _, rfl, rfl, .inl ⟨by decide, by decide⟩, _, rfl, _, _, rfl, rfl, .inl ⟨by omega, by omega⟩, _, _, rfl, rfl, _, _, rfl, rfl, _, _, rfl, rfl, ⟨by decide, by decide, pw2 s0 s1 hs0 hsp⟩, .inl ⟨_, rfl, _, _, rfl, rfl, (show (0 : Int) < 2147459917 by decide), ?_⟩⟩
      refine ⟨_, rfl, _, _, rfl, rfl, ⟨by decide, by decide⟩, .inl ⟨_, rfl, _, rfl, _, _, rfl, rfl, m0, ?_⟩⟩
      exact q _ _ (Int.emod_nonneg _ (by omega)) (Int.emod_lt_of_pos _ m0) ⟨⟨spot + 1, great, hp2, by omega, by omega, hg⟩, hl2, hne, hsh⟩ fr2
end
end V8

set_option Elab.async false
set_option linter.all false
set_option maxRecDepth 100000
set_option maxHeartbeats 4000000
/-! What the law draws: a pick, letters, images, tables. -/
namespace V8
open PySem PySem.Spec PyProof.Rows L2
/-- the text of one sign; of several -/
def L1 (c : Nat) : Str := ⟨#[c]⟩
def Sx (cs : List Nat) : Str := ⟨cs.toArray⟩
theorem L1_Sx (c : Nat) : L1 c = Sx [c] := rfl
theorem L1_inj {a b : Nat} (h : L1 a = L1 b) : a = b := by
  have h1 : (#[a] : Array Nat) = #[b] := congrArg Str.cps h
  simpa using h1
theorem Sx_inj {a b : List Nat} (h : Sx a = Sx b) : a = b := by
  have h1 : a.toArray = b.toArray := congrArg Str.cps h
  simpa using h1
def isLt (c : Nat) : Prop := 97 ≤ c ∧ c ≤ 122
instance (c : Nat) : Decidable (isLt c) := inferInstanceAs (Decidable (97 ≤ c ∧ c ≤ 122))
def lets (cs : List Nat) : List V := cs.map fun c => V.str (L1 c)
theorem lets_len (cs : List Nat) : (lets cs).length = cs.length := List.length_map ..
theorem lets_erase (cs : List Nat) (k : Nat) : (lets cs).eraseIdx k = lets (cs.eraseIdx k) := by
  unfold lets
  rw [List.eraseIdx_eq_take_drop_succ, List.eraseIdx_eq_take_drop_succ, List.map_append, List.map_take, List.map_drop]
theorem lets_snoc (cs : List Nat) (c : Nat) : lets (cs ++ [c]) = lets cs ++ [V.str (L1 c)] := by
  unfold lets
  rw [List.map_append]
  rfl
/-- a thing that is new, as seen from the start, is written -/
theorem Fr.put {p a : Addr} {o : HO} {H H1 : Hp} (f : Fr p H H1) (hn : H a = none) : Fr p H (upd H1 a o) := fun b u e n => by
  rw [upd_ne (ne_of_none e hn)]
  exact f b u e n
theorem lets_mem {cs : List Nat} {v : V} (h : v ∈ lets cs) : ∃ c ∈ cs, v = .str (L1 c) := by
  obtain ⟨c, hc, e⟩ := List.mem_map.mp h
  exact ⟨c, hc, e.symm⟩
/-- a to z -/
def abc : List Nat := (List.range 26).map (· + 97)
theorem abc_len : abc.length = 26 := by decide
theorem abc_nd : abc.Nodup := by decide
theorem abc_mem {c : Nat} : c ∈ abc ↔ isLt c := by
  unfold abc isLt
  rw [List.mem_map]
  constructor
  · rintro ⟨a, ha, rfl⟩
    have := List.mem_range.mp ha
    omega
  · rintro ⟨h1, h2⟩
    exact ⟨c - 97, List.mem_range.mpr (by omega), by omega⟩
def abcS : Str := "abcdefghijklmnopqrstuvwxyz"
theorem abcS_cps : abcS.cps.toList = abc := by decide +kernel
abbrev s_some_letters : Stmt := topS 38
abbrev n_some_letters : List Str := ["_law_pen_here", "_law_many", "_law_pool", "_law_k"]
theorem sc_some_letters : FnScope ["_law_pen_here", "_law_many", "_law_pool", "_law_k"] ["_law_pen_here", "_law_many"] (defScope s_some_letters) := ⟨rfl, rfl, rfl, by decide +kernel, rfl, by decide +kernel, by decide +kernel⟩

def spPick (K : PySem.W.Frag) : Sp := fun vs H Q _ => ∃ (p l a : Addr) (ns : List Int) (n : Nat) (xs : List V), vs = [.ref p, .ref a] ∧ PenAt H p l ns (n + 1) ∧ SqL K H a xs ∧ 0 < xs.length ∧ xs.length < 1000 ∧
  (∀ H', Fr p H H' → SqL K H' a xs) ∧ ∀ (v : V) (H' : Hp), v ∈ xs → PenAt H' p l ns n → Fr p H H' → Q v H'
theorem SqL.fr {K : PySem.W.Frag} {H H' : Hp} {p a : Addr} {xs : List V} (h : SqL K H a xs) (f : Fr p H H') (ne : a ≠ p) : SqL K H' a xs :=
  h.elim (fun h => .inl (h.elim (fun h => .inl (f _ _ h ne)) fun ⟨o, h⟩ => .inr ⟨o, f _ _ h ne⟩)) fun h => .inr h
def spLetters : Sp := fun vs H Q _ => ∃ (p l : Addr) (ns : List Int) (n : Nat) (many : Nat), vs = [.ref p, .int many] ∧ PenAt H p l ns (n + many) ∧ many ≤ 26 ∧
  ∀ (D : Addr) (cs : List Nat) (H' : Hp), cs.length = many → cs.Nodup → (∀ c ∈ cs, isLt c) → PenAt H' p l ns n → Fr p H H' → H D = none → H' D = some (.lst (lets cs)) → Q (.ref D) H'
section
variable {P : Program} {w : World} {K : PySem.W.Frag} {mg : Str → Option Value} {base : Heap}
theorem ok_pick {f : Addr} {fd : FuncData} (F : Fun K "_law_pick" "_law_pick" s_pick f fd) (T : Blt mg) (D_draw : Df P w K mg base 1 "_law_draw" spDraw) : FnOk P w K mg base CX0 2 f fd ["_law_pen_here", "_law_some"] (spPick K) := by
  refine F.ok sc_pick (fun vs H Q E h => ?_) (fun cdv A outer s H vs Q E hr h => ?_)
  · obtain ⟨p, l, a, ns, n, xs, rfl, _⟩ := h
    rfl
  · obtain ⟨p, l, a, ns, n, xs, rfl, PA, hS, h0, h1, st, q⟩ := h
    refine ⟨_, (pss_one (ps_ret (pe_ix (ix_listK (K := K) rfl) (pv 1) (pe_c D_draw hr (by decide) (by rfl) (pa_cons (pv 0) (pa_cons (pe_callB (call_len_seqK (K := K) rfl) (by rfl) T.len (by decide +kernel) (pa_cons (pv 1) pa_nil)) pa_nil))) (fun _ _ => rfl)))), ?_⟩
    refine ⟨.ref a, rfl, .ref p, rfl, .ref a, rfl, a, xs, rfl, .inl hS, p, l, ns, n, _, rfl, PA, by omega, by omega, fun v H' v0 v1 PA' fr => ?_⟩
    obtain ⟨j, rfl⟩ : ∃ j : Nat, v = j := ⟨v.toNat, by omega⟩
    have hj : j < xs.length := by omega
    exact ⟨a, xs, j, xs[j], rfl, rfl, st H' fr, atI_nat (List.getElem?_eq_getElem hj), q _ _ (List.getElem_mem hj) PA' fr⟩
theorem perm_erase {got rest : List Nat} {k : Nat} {y : Nat} (hp : (got ++ rest).Perm abc) (hy : rest[k]? = some y) : ((got ++ [y]) ++ rest.eraseIdx k).Perm abc := by
  refine List.Perm.trans ?_ hp
  rw [List.append_assoc]
  refine List.Perm.append_left got ?_
  show (y :: rest.eraseIdx k).Perm rest
  obtain ⟨hk, e⟩ := List.getElem?_eq_some_iff.mp hy
  rw [List.eraseIdx_eq_take_drop_succ]
  have h2 : rest = rest.take k ++ (y :: rest.drop (k + 1)) := by
    rw [← e, ← List.drop_eq_getElem_cons hk, List.take_append_drop]
  exact (List.perm_middle.symm).trans (List.Perm.of_eq h2.symm)
theorem ok_some_letters {f : Addr} {fd : FuncData} (F : Fun K "_law_some_letters" "_law_some_letters" s_some_letters f fd) (T : Blt mg) (D_draw : Df P w K mg base 1 "_law_draw" spDraw) : FnOk P w K mg base CX0 2 f fd ["_law_pen_here", "_law_many"] spLetters := by
  refine F.ok sc_some_letters (fun vs H Q E h => ?_) (fun cdv A outer s H vs Q E hr h => ?_)
  · obtain ⟨p, l, ns, n, many, rfl, _⟩ := h
    rfl
  · obtain ⟨p, l, ns, n, many, rfl, PA, hm, q⟩ := h
    refine ⟨_, (pss_cons (ps_set (i := 2) sc_some_letters.nd rfl (.inr rfl) (pe_callTy (call_listS rfl) (by rfl) T.list (by decide +kernel) (pa_cons pe_str pa_nil)))
      (pss_one (ps_ret (pe_lc (own := [("_law_k", 3)]) (g := gName 3) (by rfl) sc_some_letters.nd (pi_range1 (by rfl) T.range (pa_cons (pv 1) pa_nil)) (blkOk_by (own := [("_law_k", 3)]) (N := n_some_letters) (sc := defScope s_some_letters) (by decide +kernel)) (fun _ _ _ _ _ => (pg_name (i := 3) sc_some_letters.nd rfl (.inl rfl))) (fun _ _ _ _ _ => pts_nil) (fun _ _ _ _ _ => (pe_bmK (K := K) rfl PySem.F.plainAttrs_list PySem.F.slot_list_pop PySem.F.type_list_pop mt_popAt (pv 2) (pa_cons (pe_c D_draw hr (by decide) (by rfl) (pa_cons (pv 0) (pa_cons (pe_callB (call_len_seqK (K := K) rfl) (by rfl) T.len (by decide +kernel) (pa_cons (pv 2) pa_nil)) pa_nil))) pa_nil))))))), ?_⟩
    refine ⟨_, rfl, by decide, fun a na => ?_⟩
    have ePool : (List.map (fun c => V.str ⟨#[c]⟩) (Str.ofString "abcdefghijklmnopqrstuvwxyz").cps.toList) = lets abc := by
      show List.map (fun c => V.str (L1 c)) abcS.cps.toList = lets abc
      rw [abcS_cps]
      rfl
    rw [ePool]
    have PA1 := PA.new (o := .lst (lets abc)) na
    have hap : p ≠ a := by
      obtain ⟨⟨sp, g, h1, _⟩, _⟩ := PA
      exact ne_of_none h1 na
    have hla : l ≠ a := ne_of_none PA.nums na
    refine ⟨_, rfl, many, rfl, by omega, by omega, fun D nD => lc_range (lo := 0) (n := many) (fun i H2 => ∃ got rest : List Nat, (got ++ rest).Perm abc ∧ got.length = i ∧ H2 D = some (.lst (lets got)) ∧ H2 a = some (.lst (lets rest)) ∧ PenAt H2 p l ns (n + (many - i)) ∧ Fr p H H2) ?_ ?_ ?_⟩
    · have hDa : a ≠ D := ne_of_none upd_same nD
      refine ⟨[], abc, List.Perm.refl _, rfl, upd_same, by rw [upd_ne hDa, upd_same], (PA1.new nD).less (by omega), (Fr.new na).trans (Fr.new nD)⟩
    · rintro i H2 hi ⟨got, rest, pm, hg, hD, ha, PA2, fr⟩
      have hlen : got.length + rest.length = 26 := by
        have := pm.length_eq
        rw [List.length_append, abc_len] at this
        exact this
      have hDa : D ≠ a := by
        intro e
        subst e
        rw [upd_same] at nD
        cases nD
      have nDH : H D = none := by
        cases e : H D with
        | none => rfl
        | some o =>
          rw [upd_ne (ne_of_none e na), e] at nD
          cases nD
      have hDp : D ≠ p := by
        intro e
        subst e
        obtain ⟨⟨sp, g, h1, _⟩, _⟩ := PA1
        rw [h1] at nD
        cases nD
      have hDl : D ≠ l := by
        intro e
        subst e
        rw [PA1.nums] at nD
        cases nD
      have hr0 : 0 < (lets rest).length := by rw [lets_len]; omega
      refine ⟨rfl, ⟨_, rfl, .inl ⟨rfl, _, SqL.of ha⟩, _, rfl, _, rfl, a, _, rfl, .inl (SqL.of ha), p, l, ns, n + (many - (i + 1)), _, rfl, PA2.less (by omega), by omega, by rw [lets_len]; omega, fun v H3 v0 v1 PA3 fr3 => ?_⟩⟩
      obtain ⟨j, rfl⟩ : ∃ j : Nat, v = j := ⟨v.toNat, by omega⟩
      have hj : j < rest.length := by rw [lets_len] at v1; omega
      have hx : (lets rest)[j]? = some (.str (L1 rest[j])) := by
        unfold lets
        rw [List.getElem?_map, List.getElem?_eq_getElem hj]
        rfl
      have ha3 : H3 a = some (.lst (lets rest)) := fr3 _ _ ha (Ne.symm hap)
      have hD3 : H3 D = some (.lst (lets got)) := fr3 _ _ hD hDp
      have hk : seqIndex? (j : Int) (lets rest).length = some j := by
        unfold seqIndex?
        rw [lets_len]
        simp
        omega
      refine ⟨a, _, _, j, _, rfl, rfl, ha3, by omega, by omega, hk, hx, lets got, by rw [upd_ne hDa]; exact hD3, by rw [lets_len]; exact small1000 (by omega), got ++ [rest[j]], rest.eraseIdx j, perm_erase pm (List.getElem?_eq_getElem hj), by simp [hg], ?_, ?_, ?_, ?_⟩
      · rw [upd_same]
        unfold lets
        rw [List.map_append]
        rfl
      · rw [upd_ne (Ne.symm hDa), upd_same]
        rw [lets_erase]
      · exact (PA3.other (Ne.symm hap) (Ne.symm hla)).other hDp hDl
      · exact ((fr.trans fr3).put na).put nDH
    · rintro H2 ⟨got, rest, pm, hg, hD, ha, PA2, fr⟩
      have hnd : (got ++ rest).Nodup := pm.nodup_iff.mpr abc_nd
      have nD' : H D = none := by
        cases e : H D with
        | none => rfl
        | some o =>
          rw [upd_ne (ne_of_none e na), e] at nD
          cases nD
      refine q D got H2 hg (List.nodup_append.mp hnd).1 (fun c hc => abc_mem.mp (pm.mem_iff.mp (List.mem_append_left _ hc))) (PA2.less (by omega)) fr nD' hD
end
end V8

set_option Elab.async false
set_option linter.all false
set_option maxRecDepth 100000
set_option maxHeartbeats 4000000
/-! Tables of letters and images, as the law draws them. -/
namespace V8
open PySem PySem.Spec PyProof.Rows L2
abbrev Tab := List (Nat × List Nat)
def encT (t : Tab) : List (Key × V) := t.map fun q => (Sum.inr (L1 q.1), V.str (Sx q.2))
def lookT (t : Tab) (c : Nat) : Option (List Nat) := (t.find? fun q => decide (q.1 = c)).map (·.2)
def putT (t : Tab) (c : Nat) (s : List Nat) : Tab := if (t.any fun q => decide (q.1 = c)) = true then t.map (fun q => if q.1 = c then (q.1, s) else q) else t ++ [(c, s)]
theorem encT_len (t : Tab) : (encT t).length = t.length := List.length_map ..
theorem key_dec (a c : Nat) : decide ((Sum.inr (L1 a) : Key) = Sum.inr (L1 c)) = decide (a = c) := by
  by_cases h : a = c
  · subst h
    simp
  · rw [decide_eq_false h, decide_eq_false]
    intro e
    exact h (L1_inj (Sum.inr.inj e))
theorem key_iff (a c : Nat) : ((Sum.inr (L1 a) : Key) = Sum.inr (L1 c)) ↔ a = c := by
  have := key_dec a c
  constructor
  · intro e
    exact L1_inj (Sum.inr.inj e)
  · intro e
    rw [e]
theorem valV_enc (c : Nat) : ∀ t : Tab, valV (encT t) (Sum.inr (L1 c)) = (lookT t c).map fun s => V.str (Sx s)
  | [] => rfl
  | q :: t => by
    have ih := valV_enc c t
    by_cases h : q.1 = c
    · subst h
      show valV ((Sum.inr (L1 q.1), V.str (Sx q.2)) :: encT t) _ = _
      rw [valV_pos rfl]
      simp [lookT]
    · show valV ((Sum.inr (L1 q.1), V.str (Sx q.2)) :: encT t) _ = _
      rw [valV_neg (fun e => h ((key_iff _ _).mp e)), ih]
      simp [lookT, List.find?_cons, h]
theorem any_enc (c : Nat) : ∀ t : Tab, ((encT t).any fun kv => decide (kv.1 = (Sum.inr (L1 c) : Key))) = t.any fun q => decide (q.1 = c)
  | [] => rfl
  | q :: t => by
    show (decide ((Sum.inr (L1 q.1) : Key) = Sum.inr (L1 c)) || (encT t).any _) = _
    rw [any_enc c t, key_dec]
    rfl
theorem putK_enc (t : Tab) (c : Nat) (s : List Nat) : putK (encT t) (Sum.inr (L1 c)) (V.str (Sx s)) = encT (putT t c s) := by
  unfold putK putT
  rw [any_enc]
  split
  · unfold encT
    rw [List.map_map, List.map_map]
    refine List.map_congr_left fun q _ => ?_
    show (if (Sum.inr (L1 q.1) : Key) = Sum.inr (L1 c) then _ else _) = _
    by_cases h : q.1 = c
    · rw [if_pos ((key_iff _ _).mpr h)]
      simp [h]
    · rw [if_neg (fun e => h ((key_iff _ _).mp e))]
      simp [h]
  · unfold encT
    rw [List.map_append]
    rfl
theorem keys_put {t : Tab} {c : Nat} {s : List Nat} : ∀ x ∈ putT t c s, (x ∈ t ∨ x = (c, s)) := by
  intro x hx
  unfold putT at hx
  split at hx
  · obtain ⟨q, hq, e⟩ := List.mem_map.mp hx
    by_cases h : q.1 = c
    · rw [if_pos h] at e
      rw [← e, h]
      exact .inr rfl
    · rw [if_neg h] at e
      rw [← e]
      exact .inl hq
  · rcases List.mem_append.mp hx with h | h
    · exact .inl h
    · exact .inr (List.mem_singleton.mp h)
theorem put_nd {t : Tab} {c : Nat} {s : List Nat} (h : (t.map (·.1)).Nodup) : ((putT t c s).map (·.1)).Nodup := by
  unfold putT
  split
  · rw [List.map_map]
    have e : t.map ((·.1) ∘ fun q : Nat × List Nat => if q.1 = c then (q.1, s) else q) = t.map (·.1) := List.map_congr_left fun q _ => by
      show (if q.1 = c then (q.1, s) else q).1 = q.1
      split <;> rfl
    rw [e]
    exact h
  · rename_i hn
    rw [List.map_append]
    refine List.nodup_append.mpr ⟨h, by simp, fun x hx y hy e => ?_⟩
    have ey : y = c := by simpa using hy
    obtain ⟨q, hq, eq⟩ := List.mem_map.mp hx
    refine hn (List.any_eq_true.mpr ⟨q, hq, decide_eq_true ?_⟩)
    rw [eq, e, ey]
theorem put_len (t : Tab) (c : Nat) (s : List Nat) : (putT t c s).length ≤ t.length + 1 := by
  unfold putT
  split
  · rw [List.length_map]
    omega
  · rw [List.length_append]
    exact Nat.le_refl _
/-- an image that may be told -/
def GoodI (cs s : List Nat) : Prop := 1 ≤ s.length ∧ s.length ≤ 4 ∧ ∀ d ∈ s, d ∈ cs
structure GoodT (cs : List Nat) (t : Tab) : Prop where
  nd : (t.map (·.1)).Nodup
  key : ∀ q ∈ t, q.1 ∈ cs
  img : ∀ q ∈ t, GoodI cs q.2
theorem GoodT.nil {cs : List Nat} : GoodT cs [] := by
  refine ⟨List.nodup_nil, fun q h => ?_, fun q h => ?_⟩
  · cases h
  · cases h
theorem GoodT.put {cs : List Nat} {t : Tab} {c : Nat} {s : List Nat} (g : GoodT cs t) (hc : c ∈ cs) (hs : GoodI cs s) : GoodT cs (putT t c s) := by
  refine ⟨put_nd g.nd, fun q hq => ?_, fun q hq => ?_⟩
  · rcases keys_put q hq with h | rfl
    · exact g.key q h
    · exact hc
  · rcases keys_put q hq with h | rfl
    · exact g.img q h
    · exact hs
/-- joined signs -/
theorem join_L1 : ∀ cs : List Nat, Txt.join Str.empty (cs.map L1) = Sx cs := by
  intro cs
  rw [TL.join_eq]
  have h : TL.tl (Str.join Str.empty (cs.map L1)) = cs := by
    rw [TL.tl_join]
    have : ∀ l : List Nat, TL.joinL (TL.tl Str.empty) ((l.map L1).map TL.tl) = l := by
      intro l
      induction l with
      | nil => rfl
      | cons c r ih =>
        cases r with
        | nil => rfl
        | cons d r =>
          show TL.tl (L1 c) ++ (TL.tl Str.empty ++ TL.joinL (TL.tl Str.empty) ((((d :: r).map L1).map TL.tl))) = _
          rw [ih]
          rfl
    exact this cs
  have e2 : (Str.join Str.empty (cs.map L1)).cps.toList = cs := h
  show Str.join Str.empty (cs.map L1) = Sx cs
  unfold Sx
  cases hx : Str.join Str.empty (cs.map L1) with
  | mk a =>
    rw [hx] at e2
    have : a.toList = cs := e2
    rw [← this]
theorem sum_ones : ∀ l : List Nat, (l.map fun _ => 1).sum = l.length
  | [] => rfl
  | a :: r => by
    rw [List.map_cons, List.sum_cons, sum_ones r, List.length_cons]
    omega
theorem Sx_len (cs : List Nat) : (Sx cs).length = cs.length := by
  show cs.toArray.size = cs.length
  simp
abbrev s_any_image : Stmt := topS 40
abbrev n_any_image : List Str := ["_law_pen_here", "_law_some", "_law_many", "_law_k"]
theorem sc_any_image : FnScope ["_law_pen_here", "_law_some", "_law_many", "_law_k"] ["_law_pen_here", "_law_some"] (defScope s_any_image) := ⟨rfl, rfl, rfl, by decide +kernel, rfl, by decide +kernel, by decide +kernel⟩
abbrev s_escaped : Stmt := topS 39
abbrev n_escaped : List Str := ["_law_pen_here", "_law_some", "_law_tails", "_law_found", "_law_letter", "_law_stays"]
theorem sc_escaped : FnScope ["_law_pen_here", "_law_some", "_law_tails", "_law_found", "_law_letter", "_law_stays"] ["_law_pen_here", "_law_some"] (defScope s_escaped) := ⟨rfl, rfl, rfl, by decide +kernel, rfl, by decide +kernel, by decide +kernel⟩
abbrev s_table : Stmt := topS 41
abbrev n_table : List Str := ["_law_pen_here", "_law_some", "_law_way", "_law_left", "_law_found", "_law_letter"]
theorem sc_table : FnScope ["_law_pen_here", "_law_some", "_law_way", "_law_left", "_law_found", "_law_letter"] ["_law_pen_here", "_law_some"] (defScope s_table) := ⟨rfl, rfl, rfl, by decide +kernel, rfl, by decide +kernel, by decide +kernel⟩
def spImage : Sp := fun vs H Q _ => ∃ (p l a : Addr) (ns : List Int) (n : Nat) (cs : List Nat), vs = [.ref p, .ref a] ∧ PenAt H p l ns (n + 5) ∧ H a = some (.lst (lets cs)) ∧ a ≠ p ∧ cs ≠ [] ∧ cs.length ≤ 26 ∧ (∀ c ∈ cs, isLt c) ∧
  ∀ (s : List Nat) (H' : Hp), GoodI cs s → PenAt H' p l ns n → Fr p H H' → Q (.str (Sx s)) H'
def spTab (cost : Nat) : Sp := fun vs H Q _ => ∃ (p l a : Addr) (ns : List Int) (n : Nat) (cs : List Nat), vs = [.ref p, .ref a] ∧ PenAt H p l ns (n + cost) ∧ H a = some (.lst (lets cs)) ∧ a ≠ p ∧ cs ≠ [] ∧ cs.Nodup ∧ cs.length ≤ 26 ∧ (∀ c ∈ cs, isLt c) ∧
  ∀ (d : Addr) (t : Tab) (H' : Hp), GoodT cs t → PenAt H' p l ns n → Fr p H H' → H d = none → H' d = some (.dK (encT t)) → Q (.ref d) H'
theorem Fr.back {p q : Addr} {H H1 : Hp} (f : Fr p H H1) (hn : H1 q = none) (hp : q ≠ p) : H q = none := by
  cases e : H q with
  | none => rfl
  | some o =>
    rw [f _ _ e hp] at hn
    cases hn
theorem PenAt.nep {H : Hp} {p l q : Addr} {ns : List Int} {n : Nat} (P : PenAt H p l ns n) (h : H q = none) : q ≠ p := by
  intro e
  subst e
  exact P.some' h
theorem PenAt.nel {H : Hp} {p l q : Addr} {ns : List Int} {n : Nat} (P : PenAt H p l ns n) (h : H q = none) : q ≠ l := by
  intro e
  subst e
  rw [P.nums] at h
  cases h
section
variable {P : Program} {w : World} {K : PySem.W.Frag} {mg : Str → Option Value} {base : Heap}
theorem ok_any_image {f : Addr} {fd : FuncData} (F : Fun K "_law_any_image" "_law_any_image" s_any_image f fd) (T : Blt mg) (D_pick : Df P w K mg base 2 "_law_pick" (spPick K)) : FnOk P w K mg base CX0 3 f fd ["_law_pen_here", "_law_some"] spImage := by
  refine F.ok sc_any_image (fun vs H Q E h => ?_) (fun cdv A outer s H vs Q E hr h => ?_)
  · obtain ⟨p, l, a, ns, n, cs, rfl, _⟩ := h
    rfl
  · obtain ⟨p, l, a, ns, n, cs, rfl, PA, ha, hap, hne, h26, hlt, q⟩ := h
    refine ⟨_, (pss_cons (ps_set (i := 2) sc_any_image.nd rfl (.inl rfl) (pe_c D_pick hr (by decide) (by rfl) (pa_cons (pv 0) (pa_cons (pe_lst (pa_cons pe_int (pa_cons pe_int (pa_cons pe_int (pa_cons pe_int (pa_cons pe_int (pa_cons pe_int pa_nil))))))) pa_nil))))
      (pss_one (ps_ret (pe_joinK (K := K) rfl pe_str (pe_lc (own := [("_law_k", 3)]) (g := gName 3) (by rfl) sc_any_image.nd (pi_range1 (by rfl) T.range (pa_cons (pv 2) pa_nil)) (blkOk_by (own := [("_law_k", 3)]) (N := n_any_image) (sc := defScope s_any_image) (by decide +kernel)) (fun _ _ _ _ _ => (pg_name (i := 3) sc_any_image.nd rfl (.inl rfl))) (fun _ _ _ _ _ => pts_nil) (fun _ _ _ _ _ => (pe_c D_pick hr (by decide) (by rfl) (pa_cons (pv 0) (pa_cons (pv 1) pa_nil))))))))), ?_⟩
    have hcs : 0 < cs.length := List.length_pos_iff.mpr hne
    -- pick(pen, [1, 1, 2, 2, 3, 4])
    refine ⟨.ref p, rfl, by decide, fun b nb => ?_⟩
    have hbp := PA.nep nb
    refine ⟨p, l, b, ns, n + 4, [.int 1, .int 1, .int 2, .int 2, .int 3, .int 4], rfl, PA.new nb, SqL.of upd_same, by decide, by decide, fun H' fr => SqL.of (fr _ _ upd_same hbp), fun v H1 hv PA1 fr1 => ?_⟩
    obtain ⟨k, rfl, k1, k4⟩ : ∃ k : Nat, v = .int k ∧ 1 ≤ k ∧ k ≤ 4 := by
      simp at hv
      rcases hv with rfl | rfl | rfl | rfl
      · exact ⟨1, rfl, by omega, by omega⟩
      · exact ⟨2, rfl, by omega, by omega⟩
      · exact ⟨3, rfl, by omega, by omega⟩
      · exact ⟨4, rfl, by omega, by omega⟩
    have fr01 : Fr p H H1 := (Fr.new nb).trans fr1
    -- ''.join([..])
    refine ⟨⟨_, rfl⟩, _, rfl, k, rfl, by omega, by omega, fun D nD => lc_range (lo := 0) (n := k) (fun i H2 => ∃ got : List Nat, got.length = i ∧ (∀ d ∈ got, d ∈ cs) ∧ H2 D = some (.lst (lets got)) ∧ PenAt H2 p l ns (n + (4 - i)) ∧ Fr p H H2) ?_ ?_ ?_⟩
    · exact ⟨[], rfl, fun d h => (by cases h), upd_same, (PA1.new nD).less (by omega), fr01.trans (Fr.new nD)⟩
    · rintro i H2 hi ⟨got, hg, hin, hD, PA2, fr2⟩
      have hDp := PA1.nep nD
      have ha2 := fr2 _ _ ha hap
      refine ⟨rfl, ⟨_, rfl, _, rfl, p, l, a, ns, n + (4 - (i + 1)), lets cs, rfl, PA2.less (by omega), SqL.of ha2, by rw [lets_len]; omega, by rw [lets_len]; omega, fun H' fr => SqL.of (fr _ _ ha2 hap), fun v H3 hv PA3 fr3 => ?_⟩⟩
      obtain ⟨c, hc, rfl⟩ := lets_mem hv
      have hD3 := fr3 _ _ hD hDp
      refine ⟨lets got, hD3, by rw [lets_len]; exact small1000 (by omega), got ++ [c], by simp [hg], ?_, by rw [upd_same, lets_snoc], PA3.other hDp (PA1.nel nD), (fr2.trans fr3).put (fr01.back nD hDp)⟩
      intro d hd
      rcases List.mem_append.mp hd with h | h
      · exact hin d h
      · rw [List.mem_singleton.mp h]
        exact hc
    · rintro H2 ⟨got, hg, hin, hD, PA2, fr2⟩
      refine ⟨Str.empty, D, got.map L1, rfl, rfl, .inl (by rw [List.map_map]; exact SqL.of hD), ?_, ?_⟩
      · have e : (got.map L1).map (·.length) = got.map fun _ => 1 := by
          rw [List.map_map]
          rfl
        rw [e, List.length_map]
        rw [sum_ones]
        show got.length + got.length * 0 ≤ _
        omega
      · rw [join_L1]
        exact q got H2 ⟨by omega, by omega, hin⟩ (PA2.less (by omega)) fr2
end
end V8

set_option Elab.async false
set_option linter.all false
set_option maxRecDepth 100000
set_option maxHeartbeats 4000000
namespace V8
open PySem PySem.Spec PyProof.Rows L2
theorem app_Sx (a : Nat) (s : List Nat) : L1 a ++ Sx s = Sx (a :: s) := by
  show Str.append _ _ = _
  unfold Sx L1
  show (⟨#[a] ++ s.toArray⟩ : Str) = ⟨(a :: s).toArray⟩
  congr 1
  simp
section
variable {P : Program} {w : World} {K : PySem.W.Frag} {mg : Str → Option Value} {base : Heap}
theorem lets_get {cs : List Nat} {i : Nat} {x : V} (h : (lets cs)[i]? = some x) : ∃ hi : i < cs.length, x = .str (L1 cs[i]) := by
  unfold lets at h
  rw [List.getElem?_map] at h
  cases e : cs[i]? with
  | none =>
    rw [e] at h
    cases h
  | some c =>
    obtain ⟨hi, ec⟩ := List.getElem?_eq_some_iff.mp e
    rw [e] at h
    exact ⟨hi, by rw [ec]; exact (Option.some.inj h).symm⟩
theorem lets_at {cs : List Nat} {j : Nat} (hj : j < cs.length) : (lets cs)[j]? = some (.str (L1 cs[j])) := by
  unfold lets
  rw [List.getElem?_map, List.getElem?_eq_getElem hj]
  rfl
theorem seq_ix {j n : Nat} (h : j < n) : seqIndex? (j : Int) n = some j := by
  unfold seqIndex?
  simp
  omega
theorem erase_len {xs : List Nat} {k : Nat} (h : k < xs.length) : (xs.eraseIdx k).length = xs.length - 1 := List.length_eraseIdx_of_lt h
theorem goodI1 {cs : List Nat} {a : Nat} (h : a ∈ cs) : GoodI cs [a] := ⟨Nat.le_refl _, by show 1 ≤ 4; decide, fun x hx => by rw [List.mem_singleton.mp hx]; exact h⟩
theorem goodI2 {cs : List Nat} {a b : Nat} (h : a ∈ cs) (h' : b ∈ cs) : GoodI cs [a, b] := by
  refine ⟨by show 1 ≤ 2; decide, by show 2 ≤ 4; decide, fun x hx => ?_⟩
  rcases List.mem_cons.mp hx with e | hx
  · rw [e]
    exact h
  · rw [List.mem_singleton.mp hx]
    exact h'
theorem ok_escaped {f : Addr} {fd : FuncData} (F : Fun K "_law_escaped" "_law_escaped" s_escaped f fd) (T : Blt mg) (D_draw : Df P w K mg base 1 "_law_draw" spDraw) : FnOk P w K mg base CX0 2 f fd ["_law_pen_here", "_law_some"] (spTab 52) := by
  refine F.ok sc_escaped (fun vs H Q E h => ?_) (fun cdv A outer s H vs Q E hr h => ?_)
  · obtain ⟨p, l, a, ns, n, cs, rfl, _⟩ := h
    rfl
  · obtain ⟨p, l, a, ns, n, cs, rfl, PA, ha, hap, hne, hnd, h26, hlt, q⟩ := h
    refine ⟨_, (pss_cons (ps_par (i := 2) (j := 3) (by rfl) sc_escaped.nd rfl rfl (by decide) rfl rfl (pa_cons (pe_callTy (call_list_ofK (K := K) rfl) (by rfl) T.list (by decide +kernel) (pa_cons (pv 1) pa_nil)) (pa_cons pe_dnewK pa_nil)) (by rfl))
      (pss_cons (ps_for PassesOwn.never rfl (pi_list (pv 1)) (pg_name (i := 4) sc_escaped.nd rfl (.inl rfl))
        (pss_cons (ps_set (i := 5) sc_escaped.nd rfl (.inl rfl) (pe_and (pe_cmpR op_ne (pv 4) (pe_ix (ix_listK (K := K) rfl) (pv 1) pe_int (fun _ _ => rfl)) (nomark _)) (pe_one (pe_cmpR op_eq (pe_c D_draw hr (by decide) (by rfl) (pa_cons (pv 0) (pa_cons pe_int pa_nil))) pe_int (nomark _)))))
        (pss_one (ps_dput (hu_of hr) (pv 3) (pv 4) (pe_ifExp (pt_val (pv 5)) (pv 4) (pe_op op_add_str (pe_ix (ix_listK (K := K) rfl) (pv 1) pe_int (fun _ _ => rfl)) (pe_bmK (K := K) rfl PySem.F.plainAttrs_list PySem.F.slot_list_pop PySem.F.type_list_pop mt_popAt (pv 2) (pa_cons (pe_c D_draw hr (by decide) (by rfl) (pa_cons (pv 0) (pa_cons (pe_callB (call_len_seqK (K := K) rfl) (by rfl) T.len (by decide +kernel) (pa_cons (pv 2) pa_nil)) pa_nil))) pa_nil)))) rfl))))
      (pss_one (ps_ret (pv 3))))), ?_⟩
    have hcs : 0 < cs.length := List.length_pos_iff.mpr hne
    -- tails, found = list(some), {}
    refine ⟨.ref a, rfl, a, _, rfl, .inl (SqL.of ha), fun b nb d nd => ⟨_, _, rfl, ?_⟩⟩
    have hbp := PA.nep nb
    have hbl := PA.nel nb
    have PA1 := (PA.new (o := .lst (lets cs)) nb).new (o := .dK []) nd
    have hdp := (PA.new (o := .lst (lets cs)) nb).nep nd
    have hdl := (PA.new (o := .lst (lets cs)) nb).nel nd
    have hbd : b ≠ d := ne_of_none upd_same nd
    have hab : a ≠ b := ne_of_none ha nb
    have ndH : H d = none := (Fr.new (p := p) nb).back nd hdp
    have had : a ≠ d := ne_of_none ha ndH
    refine ⟨_, rfl, a, rfl, ⟨_, SqL.of (by rw [upd_ne had, upd_ne hab]; exact ha)⟩, for_list (K := K) (a := a) (xs := lets cs) (fun i σ H2 => ∃ (tails : List Nat) (t : Tab) (v4 v5 : Option V), σ = [some (.ref p), some (.ref a), some (.ref b), some (.ref d), v4, v5] ∧
        H2 a = some (.lst (lets cs)) ∧ H2 b = some (.lst (lets tails)) ∧ cs.length ≤ tails.length + i ∧ tails.length ≤ 26 ∧ (∀ x ∈ tails, x ∈ cs) ∧ H2 d = some (.dK (encT t)) ∧ t.length ≤ i ∧ GoodT cs t ∧ PenAt H2 p l ns (n + 2 * (26 - i)) ∧ Fr p H H2) ?_ ?_ ?_ ?_⟩
    · exact ⟨cs, [], none, none, rfl, by rw [upd_ne had, upd_ne hab]; exact ha, by rw [upd_ne hbd, upd_same], by omega, h26, fun x h => h, upd_same, Nat.le_refl _, GoodT.nil, PA1.less (by omega), (Fr.new nb).trans (Fr.new nd)⟩
    · rintro i σ H2 hi ⟨tails, t, v4, v5, rfl, ha2, _⟩
      exact SqL.of ha2
    · rintro i x σ H2 hx ⟨tails, t, v4, v5, rfl, ha2, hb2, htl, ht6, hts, hd2, htn, G, PA2, fr2⟩
      obtain ⟨hi, rfl⟩ := lets_get hx
      -- stays = letter != some[0] and draw(pen, 2) == 0
      refine ⟨_, rfl, _, rfl, a, _, 0, _, rfl, rfl, SqL.of ha2, atI_nat (j := 0) (lets_at hcs), rfl, _, rfl, ?_⟩
      refine ite2 (fun e => ?g1) (fun e => ?g2)
      case' g1 =>
        refine ⟨_, rfl, p, l, ns, n + 2 * (26 - (i + 1)) + 1, 2, rfl, PA2.less (by omega), by decide, by decide, fun v H3 v0 v1 PA3 fr3 => ?_⟩
        refine ⟨rfl, ?_⟩
        generalize decide (V.int v = V.int 0) = bb
      case' g2 =>
        have PA3 : PenAt H2 p l ns (n + 2 * (26 - (i + 1)) + 1) := PA2.less (by omega)
        have fr3 : Fr p H2 H2 := Fr.refl
        generalize false = bb
      all_goals
        have ha3 := fr3 _ _ ha2 hap
        have hb3 := fr3 _ _ hb2 hbp
        have hd3 := fr3 _ _ hd2 hdp
        refine ⟨_, rfl, _, rfl, ?_⟩
        refine ite2 (fun e5 => ?_) (fun e5 => ?_)
        · refine ⟨_, rfl, _, rfl, _, rfl, d, _, rfl, DPut.k (k := Sum.inr (L1 cs[i])) hd3 (by rw [encT_len]; exact small1000 (by omega)), ?_⟩
          have ep : putK (encT t) (Sum.inr (L1 cs[i])) (V.str (L1 cs[i])) = encT (putT t cs[i] [cs[i]]) := putK_enc t cs[i] [cs[i]]
          rw [ep]
          have hmem : cs[i] ∈ cs := List.getElem_mem hi
          refine ⟨tails, putT t cs[i] [cs[i]], _, _, rfl, by rw [upd_ne had]; exact ha3, by rw [upd_ne hbd]; exact hb3, by omega, ht6, hts, upd_same, Nat.le_trans (put_len t _ _) (by omega), G.put hmem (goodI1 hmem), (PA3.other hdp hdl).less (by omega), (fr2.trans fr3).put ndH⟩
        · have htp : 0 < tails.length := by omega
          refine ⟨_, rfl, a, _, 0, _, rfl, rfl, SqL.of ha3, atI_nat (j := 0) (lets_at hcs), ?_⟩
          refine ⟨_, rfl, .inl ⟨rfl, _, SqL.of hb3⟩, _, rfl, _, rfl, b, _, rfl, .inl (SqL.of hb3), p, l, ns, n + 2 * (26 - (i + 1)), _, rfl, PA3, by rw [lets_len]; omega, by rw [lets_len]; omega, fun v4 H4 w0 w1 PA4 fr4 => ?_⟩
          obtain ⟨j, rfl⟩ : ∃ j : Nat, v4 = j := ⟨v4.toNat, by omega⟩
          have hj : j < tails.length := by rw [lets_len] at w1; omega
          have hb4 := fr4 _ _ hb3 hbp
          have hd4 := fr4 _ _ hd3 hdp
          have ha4 := fr4 _ _ ha3 hap
          refine ⟨b, _, _, j, _, rfl, rfl, hb4, by omega, by omega, by rw [lets_len]; exact seq_ix hj, lets_at hj, _, _, rfl, rfl, by show 1 + 1 ≤ sizeLine; decide, ?_⟩
          refine ⟨_, rfl, _, rfl, d, _, rfl, DPut.k (k := Sum.inr (L1 cs[i])) (by rw [upd_ne (Ne.symm hbd)]; exact hd4) (by rw [encT_len]; exact small1000 (by omega)), ?_⟩
          have ep : putK (encT t) (Sum.inr (L1 cs[i])) (V.str (L1 cs[0] ++ L1 tails[j])) = encT (putT t cs[i] [cs[0], tails[j]]) := by
            rw [← putK_enc]
            rfl
          rw [ep]
          have hmem : cs[i] ∈ cs := List.getElem_mem hi
          have htm : tails[j] ∈ cs := hts _ (List.getElem_mem hj)
          refine ⟨tails.eraseIdx j, putT t cs[i] [cs[0], tails[j]], _, _, rfl, by rw [upd_ne had, upd_ne hab]; exact ha4, by rw [upd_ne hbd, upd_same, lets_erase], by rw [erase_len hj]; omega, by rw [erase_len hj]; omega, fun x hx => hts x (List.mem_of_mem_eraseIdx hx), upd_same,
            Nat.le_trans (put_len t _ _) (by omega), G.put hmem (goodI2 (List.getElem_mem hcs) htm), ((PA4.other hbp hbl).other hdp hdl).less (by omega), (((fr2.trans fr3).trans fr4).put nb).put ndH⟩
    · rintro σ H2 ⟨tails, t, v4, v5, rfl, ha2, hb2, htl, ht6, hts, hd2, htn, G, PA2, fr2⟩
      exact ⟨_, rfl, q d t H2 G (PA2.less (by omega)) fr2 ndH hd2⟩
end
end V8

set_option Elab.async false
set_option linter.all false
set_option maxRecDepth 100000
set_option maxHeartbeats 8000000
namespace V8
open PySem PySem.Spec PyProof.Rows L2
theorem nd_len : ∀ {a b : List Nat}, a.Nodup → (∀ x ∈ a, x ∈ b) → a.length ≤ b.length
  | [], _, _, _ => Nat.zero_le _
  | x :: a, b, h, hs => by
    have hx : x ∈ b := hs x (List.mem_cons_self ..)
    have h1 := List.nodup_cons.mp h
    have ih := nd_len (a := a) (b := b.erase x) h1.2 fun y hy => by
      have hne : y ≠ x := fun e => h1.1 (e ▸ hy)
      exact (List.mem_erase_of_ne hne).mpr (hs y (List.mem_cons_of_mem _ hy))
    rw [List.length_erase_of_mem hx] at ih
    have : 0 < b.length := List.length_pos_of_mem hx
    rw [List.length_cons]
    omega
theorem GoodT.len {cs : List Nat} {t : Tab} (g : GoodT cs t) : t.length ≤ cs.length := by
  have := nd_len g.nd fun x hx => by
    obtain ⟨q, hq, rfl⟩ := List.mem_map.mp hx
    exact g.key q hq
  rw [List.length_map] at this
  exact this
def mergeT (a b : Tab) : Tab := b.foldl (fun acc q => putT acc q.1 q.2) a
theorem mergeK_enc : ∀ (b a : Tab), mergeK (encT a) (encT b) = encT (mergeT a b)
  | [], _ => rfl
  | q :: b, a => by
    show mergeK (putK (encT a) (Sum.inr (L1 q.1)) (V.str (Sx q.2))) (encT b) = _
    rw [putK_enc, mergeK_enc b]
    rfl
theorem GoodT.merge {cs : List Nat} : ∀ {b a : Tab}, GoodT cs a → (∀ q ∈ b, q.1 ∈ cs ∧ GoodI cs q.2) → GoodT cs (mergeT a b)
  | [], _, g, _ => g
  | q :: b, a, g, h => by
    have h1 := h q (List.mem_cons_self ..)
    exact GoodT.merge (b := b) (a := putT a q.1 q.2) (g.put h1.1 h1.2) fun x hx => h x (List.mem_cons_of_mem _ hx)
/-- tuples of a letter and its image stand at ps -/
def PairsAt (H : Hp) (ps : List Addr) (t : Tab) : Prop := Paired (fun b (q : Nat × List Nat) => H b = some (.tup [V.str (L1 q.1), V.str (Sx q.2)])) ps t
theorem PairsAt.mono {H H' : Hp} {ps : List Addr} {t : Tab} (h : PairsAt H ps t) (k : ∀ b xs, H b = some (.tup xs) → H' b = some (.tup xs)) : PairsAt H' ps t := Paired.mapP h fun _ _ e => k _ _ e
theorem PairsAt.snoc {H : Hp} : ∀ {ps : List Addr} {t : Tab} {b : Addr} {q : Nat × List Nat}, PairsAt H ps t → H b = some (.tup [V.str (L1 q.1), V.str (Sx q.2)]) → PairsAt H (ps ++ [b]) (t ++ [q])
  | _, _, _, _, .nil, e => .cons e .nil
  | _, _, _, _, .cons h r, e => .cons h (PairsAt.snoc r e)
theorem PairsAt.sq {K : PySem.W.Frag} {H : Hp} : ∀ {ps : List Addr} {t : Tab}, PairsAt H ps t → Paired (fun p (kv : Key × V) => SqT K H p [kV kv.1, kv.2]) ps (encT t)
  | _, _, .nil => .nil
  | _, _, .cons h r => .cons (.inl (.inl h)) (PairsAt.sq r)
theorem PairsAt.len {H : Hp} {ps : List Addr} {t : Tab} (h : PairsAt H ps t) : ps.length = t.length := Paired.length h
theorem tup_fr {p : Addr} {xs : List V} {H H' : Hp} (f : Fr p H H') (hp : H p = some (.lst xs)) : ∀ b ys, H b = some (.tup ys) → H' b = some (.tup ys) := fun b ys e => f b _ e (ne_of e hp (fun z => nomatch z))
theorem tup_upd {D : Addr} {xs : List V} {o : HO} {H : Hp} (hp : H D = some (.lst xs)) : ∀ b ys, H b = some (.tup ys) → upd H D o b = some (.tup ys) := fun b ys e => by
  rw [upd_ne (ne_of e hp (fun z => nomatch z))]
  exact e
theorem tup_new {q : Addr} {o : HO} {H : Hp} (hp : H q = none) : ∀ b ys, H b = some (.tup ys) → upd H q o b = some (.tup ys) := fun b ys e => by
  rw [upd_ne (ne_of_none e hp)]
  exact e
theorem PenAt.pen {H : Hp} {p l : Addr} {ns : List Int} {n : Nat} (P : PenAt H p l ns n) : ∃ xs, H p = some (.lst xs) := by
  obtain ⟨⟨s, g, h1, _⟩, _⟩ := P
  exact ⟨_, h1⟩
theorem enc_at {t : Tab} {i : Nat} {k : Key} {v : V} (h : (encT t)[i]? = some (k, v)) : ∃ hi : i < t.length, k = Sum.inr (L1 t[i].1) ∧ v = V.str (Sx t[i].2) := by
  unfold encT at h
  rw [List.getElem?_map] at h
  cases e : t[i]? with
  | none =>
    rw [e] at h
    cases h
  | some c =>
    obtain ⟨hi, ec⟩ := List.getElem?_eq_some_iff.mp e
    rw [e] at h
    have h' := Option.some.inj h
    refine ⟨hi, ?_, ?_⟩
    · rw [ec]
      exact (congrArg Prod.fst h').symm
    · rw [ec]
      exact (congrArg Prod.snd h').symm
theorem look_at : ∀ {t : Tab} {i : Nat}, (t.map (·.1)).Nodup → ∀ hi : i < t.length, lookT t t[i].1 = some t[i].2
  | [], i, _, hi => absurd hi (Nat.not_lt_zero _)
  | q :: t, 0, _, _ => by
    unfold lookT
    simp
  | q :: t, i + 1, h, hi => by
    have hi' : i < t.length := by simpa using hi
    have h1 := List.nodup_cons.mp (by simpa using h : (q.1 :: t.map (·.1)).Nodup)
    have hne : ¬ q.1 = t[i].1 := fun e => h1.1 (e ▸ List.mem_map_of_mem (List.getElem_mem hi'))
    have ih := look_at (t := t) (i := i) h1.2 hi'
    show lookT (q :: t) t[i].1 = some t[i].2
    unfold lookT at ih ⊢
    rw [List.find?_cons_of_neg (by simpa using hne)]
    exact ih
section
variable {P : Program} {w : World} {K : PySem.W.Frag} {mg : Str → Option Value} {base : Heap}
theorem ok_table {f : Addr} {fd : FuncData} (F : Fun K "_law_table" "_law_table" s_table f fd) (T : Blt mg) (D_draw : Df P w K mg base 1 "_law_draw" spDraw) (D_escaped : Df P w K mg base 2 "_law_escaped" (spTab 52)) (D_any_image : Df P w K mg base 3 "_law_any_image" spImage) : FnOk P w K mg base CX0 4 f fd ["_law_pen_here", "_law_some"] (spTab 260) := by
  refine F.ok sc_table (fun vs H Q E h => ?_) (fun cdv A outer s H vs Q E hr h => ?_)
  · obtain ⟨p, l, a, ns, n, cs, rfl, _⟩ := h
    rfl
  · obtain ⟨p, l, a, ns, n, cs, rfl, PA, ha, hap, hne, hnd, h26, hlt, q⟩ := h
    refine ⟨_, (pss_cons (ps_asg (pe_tup (pa_cons (pe_c D_draw hr (by decide) (by rfl) (pa_cons (pv 0) (pa_cons pe_int pa_nil))) (pa_cons (pe_callTy (call_list_ofK (K := K) rfl) (by rfl) T.list (by decide +kernel) (pa_cons (pv 1) pa_nil)) (pa_cons pe_dnewK pa_nil)))) (pg_tup (by rfl) (pgs_cons (pg_name (i := 2) sc_table.nd rfl (.inl rfl)) (pgs_cons (pg_name (i := 3) sc_table.nd rfl (.inl rfl)) (pgs_cons (pg_name (i := 4) sc_table.nd rfl (.inr rfl)) pgs_nil)))))
      (pss_cons (ps_if (pt_cmpR op_lt (pv 2) pe_int (nomark _))
        (pss_one (ps_set (i := 4) sc_table.nd rfl (.inr rfl) (pe_c D_escaped hr (by decide) (by rfl) (pa_cons (pv 0) (pa_cons (pv 1) pa_nil)))))
        pss_nil)
      (pss_cons (ps_for PassesOwn.never rfl (pi_list (pv 1)) (pg_name (i := 5) sc_table.nd rfl (.inl rfl))
        (pss_one (ps_if (pt_cmpR op_eq (pv 2) pe_int (nomark _))
          (pss_one (ps_dput (hu_of hr) (pv 4) (pv 5) (pe_bmK (K := K) rfl PySem.F.plainAttrs_list PySem.F.slot_list_pop PySem.F.type_list_pop mt_popAt (pv 3) (pa_cons (pe_c D_draw hr (by decide) (by rfl) (pa_cons (pv 0) (pa_cons (pe_callB (call_len_seqK (K := K) rfl) (by rfl) T.len (by decide +kernel) (pa_cons (pv 3) pa_nil)) pa_nil))) pa_nil)) rfl))
          (pss_one (ps_if (pt_cmpR op_gt (pv 2) pe_int (nomark _))
            (pss_one (ps_dput (hu_of hr) (pv 4) (pv 5) (pe_ifExp (pt_cmpR op_eq (pe_c D_draw hr (by decide) (by rfl) (pa_cons (pv 0) (pa_cons pe_int pa_nil))) pe_int (nomark _)) (pv 5) (pe_c D_any_image hr (by decide) (by rfl) (pa_cons (pv 0) (pa_cons (pv 1) pa_nil)))) rfl))
            pss_nil)))))
      (pss_cons (ps_if (pt_cmpR op_gt (pe_c D_draw hr (by decide) (by rfl) (pa_cons (pv 0) (pa_cons pe_int pa_nil))) pe_int (nomark _))
        (pss_one (ps_ret (pv 4)))
        pss_nil)
      (pss_one (ps_ret (pe_callTy (call_dictP rfl) (by rfl) T.dict (by decide +kernel) (pa_cons (pe_lock (pe_lc (own := [("_law_letter", 5)]) (g := gName 5) (by rfl) sc_table.nd (pi_keys (pv 4)) (blkOk_by (own := [("_law_letter", 5)]) (N := n_table) (sc := defScope s_table) (by decide +kernel)) (fun _ _ _ _ _ => (pg_name (i := 5) sc_table.nd rfl (.inl rfl))) (fun _ _ _ _ _ => (pts_one (pt_cmpR op_gt (pe_c D_draw hr (by decide) (by rfl) (pa_cons (pv 0) (pa_cons pe_int pa_nil))) pe_int (nomark _)))) (fun _ _ _ _ _ => (pe_tup (pa_cons (pv 5) (pa_cons (pe_dget (hu_of hr) (pv 4) (pv 5) (fun _ _ => rfl)) pa_nil)))))) pa_nil)))))))), ?_⟩
    have hcs : 0 < cs.length := List.length_pos_iff.mpr hne
    -- way, left, found = draw(pen, 6), list(some), {}
    refine ⟨_, rfl, p, l, ns, n + 259, 6, rfl, PA.less (by omega), by decide, by decide, fun way H1 y0 y1 PA1 fr1 => ?_⟩
    have ha1 := fr1 _ _ ha hap
    refine ⟨.ref a, rfl, a, _, rfl, .inl (SqL.of ha1), fun b nb d nd => ⟨by show 3 ≤ sizeLine; decide, fun tp ntp => ?_⟩⟩
    refine ⟨tp, [.int way, .ref b, .ref d], rfl, .inl (.inl upd_same), rfl, _, _, rfl, _, _, rfl, _, _, rfl, rfl, ?_⟩
    have hbp := PA1.nep nb
    have hbl := PA1.nel nb
    have PAb := PA1.new (o := .lst (lets cs)) nb
    have hdp := PAb.nep nd
    have hdl := PAb.nel nd
    have PAd := PAb.new (o := .dK []) nd
    have hbd : b ≠ d := ne_of_none upd_same nd
    have hab : a ≠ b := ne_of_none ha1 nb
    have had : a ≠ d := by
      refine ne_of_none (o := .lst (lets cs)) ?_ nd
      rw [upd_ne hab]
      exact ha1
    have htd : d ≠ tp := ne_of_none upd_same ntp
    have htb : b ≠ tp := ne_of_none (o := .lst (lets cs)) (by rw [upd_ne hbd]; exact upd_same) ntp
    have hta : a ≠ tp := ne_of_none (o := .lst (lets cs)) (by rw [upd_ne had, upd_ne hab]; exact ha1) ntp
    have nbH : H b = none := fr1.back nb hbp
    have ndH : H d = none := (fr1.trans (Fr.new nb)).back nd hdp
    have PAx := (PAd.new (o := .tup [.int way, .ref b, .ref d]) ntp).less (m := n + 259) (by omega)
    have frx : Fr p H (upd (upd (upd H1 b (.lst (lets cs))) d (.dK [])) tp (.tup [.int way, .ref b, .ref d])) := ((fr1.trans (Fr.new nb)).trans (Fr.new nd)).trans (Fr.new ntp)
    have hax : upd (upd (upd H1 b (.lst (lets cs))) d (.dK [])) tp (.tup [.int way, .ref b, .ref d]) a = some (.lst (lets cs)) := by rw [upd_ne hta, upd_ne had, upd_ne hab]; exact ha1
    have hbx : upd (upd (upd H1 b (.lst (lets cs))) d (.dK [])) tp (.tup [.int way, .ref b, .ref d]) b = some (.lst (lets cs)) := by rw [upd_ne htb, upd_ne hbd, upd_same]
    have hdx : upd (upd (upd H1 b (.lst (lets cs))) d (.dK [])) tp (.tup [.int way, .ref b, .ref d]) d = some (.dK (encT [])) := by rw [upd_ne htd, upd_same]; rfl
    generalize upd (upd (upd H1 b (.lst (lets cs))) d (.dK [])) tp (.tup [.int way, .ref b, .ref d]) = Hx at PAx frx hax hbx hdx ⊢
    clear PAd PAb nd ntp nb
    -- if way < 2: found = escaped(pen, some)
    refine ⟨_, rfl, way, 2, rfl, rfl, _, rfl, ?_⟩
    refine ite2 (fun e => ?g1) (fun e => ?g2)
    case' g1 =>
      refine ⟨_, rfl, _, rfl, p, l, a, ns, n + 207, cs, rfl, PAx.less (by omega), hax, hap, hne, hnd, h26, hlt, fun d2 t2 H3 G2 PA3 fr3 nd2 hd2 => ?_⟩
      have ha3 := fr3 _ _ hax hap
      have hb3 := fr3 _ _ hbx hbp
      have hbd2 : b ≠ d2 := ne_of_none hbx nd2
      have had2 : a ≠ d2 := ne_of_none hax nd2
      have hd2p := PAx.nep nd2
      have hd2l := PAx.nel nd2
      have nd2H : H d2 = none := frx.back nd2 hd2p
      have fr03 := frx.trans fr3
    case' g2 =>
      obtain ⟨d2, rfl⟩ : ∃ d2, d2 = d := ⟨d, rfl⟩
      have G2 : GoodT cs [] := GoodT.nil
      have PA3 : PenAt Hx p l ns (n + 207) := PAx.less (by omega)
      have ha3 := hax
      have hb3 := hbx
      have hd2 := hdx
      have hbd2 := hbd
      have had2 := had
      have hd2p := hdp
      have hd2l := hdl
      have nd2H := ndH
      have fr03 := frx
    all_goals
      refine ⟨_, rfl, a, rfl, ⟨_, SqL.of ha3⟩, for_list (K := K) (a := a) (xs := lets cs) (fun i σ H2 => ∃ (left : List Nat) (t : Tab) (v5 : Option V), σ = [some (.ref p), some (.ref a), some (.int way), some (.ref b), some (.ref d2), v5] ∧
        H2 a = some (.lst (lets cs)) ∧ H2 b = some (.lst (lets left)) ∧ (way = 2 → cs.length ≤ left.length + i) ∧ left.length ≤ 26 ∧ (∀ x ∈ left, x ∈ cs) ∧ H2 d2 = some (.dK (encT t)) ∧ GoodT cs t ∧ PenAt H2 p l ns (n + 30 + 6 * (26 - i)) ∧ Fr p H H2) ?_ ?_ ?_ ?_⟩
      · exact ⟨cs, _, none, rfl, ha3, hb3, fun _ => by omega, h26, fun x h => h, hd2, G2, PA3.less (by omega), fr03⟩
      · rintro i σ H2 hi ⟨left, t, v5, rfl, ha2, _⟩
        exact SqL.of ha2
      · rintro i x σ H2 hx ⟨left, t, v5, rfl, ha2, hb2, hl2, hl6, hls, hd4, G, PA2, fr2⟩
        obtain ⟨hi, rfl⟩ := lets_get hx
        have hmem : cs[i] ∈ cs := List.getElem_mem hi
        have tl26 := G.len
        have small : (encT t).length < sizeLine := by rw [encT_len]; exact small1000 (by omega)
        refine ⟨_, rfl, rfl, _, rfl, ?_⟩
        refine ite2 (fun e2 => ?_) (fun e2 => ?_)
        · have ew : way = 2 := V.int.inj (of_decide_eq_true e2)
          have hlp := hl2 ew
          refine ⟨_, rfl, .inl ⟨rfl, _, SqL.of hb2⟩, _, rfl, _, rfl, b, _, rfl, .inl (SqL.of hb2), p, l, ns, n + 30 + 6 * (26 - (i + 1)), _, rfl, PA2.less (by omega), by rw [lets_len]; omega, by rw [lets_len]; omega, fun v4 H4 w0 w1 PA4 fr4 => ?_⟩
          obtain ⟨j, rfl⟩ : ∃ j : Nat, v4 = j := ⟨v4.toNat, by omega⟩
          have hj : j < left.length := by rw [lets_len] at w1; omega
          have hb4 := fr4 _ _ hb2 hbp
          have hd5 := fr4 _ _ hd4 hd2p
          have ha4 := fr4 _ _ ha2 hap
          refine ⟨b, _, _, j, _, rfl, rfl, hb4, by omega, by omega, by rw [lets_len]; exact seq_ix hj, lets_at hj, ?_⟩
          refine ⟨_, rfl, _, rfl, d2, _, rfl, DPut.k (k := Sum.inr (L1 cs[i])) (by rw [upd_ne (Ne.symm hbd2)]; exact hd5) small, ?_⟩
          have ep : putK (encT t) (Sum.inr (L1 cs[i])) (V.str (L1 left[j])) = encT (putT t cs[i] [left[j]]) := putK_enc t cs[i] [left[j]]
          rw [ep]
          have htm : left[j] ∈ cs := hls _ (List.getElem_mem hj)
          exact ⟨left.eraseIdx j, putT t cs[i] [left[j]], _, rfl, by rw [upd_ne had2, upd_ne hab]; exact ha4, by rw [upd_ne hbd2, upd_same, lets_erase], fun _ => by rw [erase_len hj]; omega, by rw [erase_len hj]; omega, fun x hx => hls x (List.mem_of_mem_eraseIdx hx), upd_same,
            G.put hmem (goodI1 htm), (PA4.other hbp hbl).other hd2p hd2l, ((fr2.trans fr4).put nbH).put nd2H⟩
        · have ew : way ≠ 2 := fun z => e2 (by rw [z]; decide)
          refine ⟨_, rfl, _, _, rfl, rfl, _, rfl, ?_⟩
          refine ite2 (fun e3 => ?_) (fun e3 => ?_)
          · refine ⟨_, rfl, p, l, ns, n + 35 + 6 * (26 - (i + 1)), 3, rfl, PA2.less (by omega), by decide, by decide, fun v4 H4 w0 w1 PA4 fr4 => ⟨rfl, _, rfl, ?_⟩⟩
            have hb4 := fr4 _ _ hb2 hbp
            have hd5 := fr4 _ _ hd4 hd2p
            have ha4 := fr4 _ _ ha2 hap
            refine ite2 (fun e4 => ?_) (fun e4 => ?_)
            · refine ⟨_, rfl, _, rfl, _, rfl, d2, _, rfl, DPut.k (k := Sum.inr (L1 cs[i])) hd5 small, ?_⟩
              have ep : putK (encT t) (Sum.inr (L1 cs[i])) (V.str (L1 cs[i])) = encT (putT t cs[i] [cs[i]]) := putK_enc t cs[i] [cs[i]]
              rw [ep]
              exact ⟨left, putT t cs[i] [cs[i]], _, rfl, by rw [upd_ne had2]; exact ha4, by rw [upd_ne hbd2]; exact hb4, fun z => absurd z ew, hl6, hls, upd_same, G.put hmem (goodI1 hmem), (PA4.other hd2p hd2l).less (by omega), (fr2.trans fr4).put nd2H⟩
            · refine ⟨_, rfl, _, rfl, p, l, a, ns, n + 30 + 6 * (26 - (i + 1)), cs, rfl, PA4.less (by omega), ha4, hap, hne, h26, hlt, fun s H5 gs PA5 fr5 => ?_⟩
              have hb6 := fr5 _ _ hb4 hbp
              have hd6 := fr5 _ _ hd5 hd2p
              have ha6 := fr5 _ _ ha4 hap
              refine ⟨_, rfl, _, rfl, d2, _, rfl, DPut.k (k := Sum.inr (L1 cs[i])) hd6 small, ?_⟩
              rw [putK_enc]
              exact ⟨left, putT t cs[i] s, _, rfl, by rw [upd_ne had2]; exact ha6, by rw [upd_ne hbd2]; exact hb6, fun z => absurd z ew, hl6, hls, upd_same, G.put hmem gs, (PA5.other hd2p hd2l).less (by omega), ((fr2.trans fr4).trans fr5).put nd2H⟩
          · exact ⟨left, t, _, rfl, ha2, hb2, fun z => absurd z ew, hl6, hls, hd4, G, PA2.less (by omega), fr2⟩
      · rintro σ H2 ⟨left, t, v5, rfl, ha2, hb2, hl2, hl6, hls, hd4, G, PA2, fr2⟩
        have tl26 := G.len
        refine ⟨_, rfl, p, l, ns, n + 29, 3, rfl, PA2.less (by omega), by decide, by decide, fun v4 H4 w0 w1 PA4 fr4 => ⟨_, _, rfl, rfl, _, rfl, ?_⟩⟩
        have hd5 := fr4 _ _ hd4 hd2p
        refine ite2 (fun e4 => ?_) (fun e4 => ?_)
        · exact ⟨_, rfl, q d2 t H4 G (PA4.less (by omega)) (fr2.trans fr4) nd2H hd5⟩
        · refine ⟨d2, _, hd5, True.intro, fun od => ⟨_, rfl, d2, od, rfl, .inl ⟨_, upd_same, fun D nD => lc_it walk_keys (fun i H2 => ∃ (ps : List Addr) (t2 : Tab), (∀ x ∈ t2, x.1 ∈ cs ∧ GoodI cs x.2) ∧ ps.length ≤ i ∧ H2 D = some (.lst (ps.map V.ref)) ∧ PairsAt H2 ps t2 ∧
            H2 d2 = some (.frz od (.dK (encT t))) ∧ PenAt H2 p l ns (n + (29 - i)) ∧ Fr p H H2) ?_ ?_ ?_ ?_⟩⟩⟩
          · have hDd : d2 ≠ D := ne_of_none upd_same nD
            refine ⟨[], [], fun x h => (by cases h), Nat.le_refl _, upd_same, .nil, by rw [upd_ne hDd, upd_same], ((PA4.other hd2p hd2l).new nD).less (by omega), ((fr2.trans fr4).put nd2H).trans (Fr.new nD)⟩
          · rintro i H2 hi ⟨ps, t2, _, _, _, _, h, _⟩
            exact h
          · rintro i x H2 H2' hi ⟨ps, t2, ht2, hps, hD, hpa, hfz, PA5, fr5⟩ ⟨rfl, k, v, hk, rfl⟩
            obtain ⟨hit, rfl, rfl⟩ := enc_at hk
            have hDp : D ≠ p := (PA4.other (o := .frz od (.dK (encT t))) hd2p hd2l).nep nD
            have hDl : D ≠ l := (PA4.other (o := .frz od (.dK (encT t))) hd2p hd2l).nel nD
            have nDH : H D = none := ((fr2.trans fr4).put (a := d2) nd2H).back nD hDp
            refine ⟨rfl, _, rfl, p, l, ns, n + (29 - (i + 1)), 3, rfl, PA5.less (by omega), by decide, by decide, fun v6 H6 u0 u1 PA6 fr6 => ⟨_, _, rfl, rfl, _, rfl, ?_⟩⟩
            obtain ⟨pl, hpl⟩ := PA5.pen
            have hpa6 := hpa.mono (tup_fr fr6 hpl)
            have hD6 := fr6 _ _ hD hDp
            have hfz6 := fr6 _ _ hfz hd2p
            refine ite2 (fun e6 => ?_) (fun e6 => ?_)
            · refine ⟨_, rfl, _, rfl, _, rfl, d2, V.str (Sx t[i].2), rfl, .inl ⟨_, Sum.inr (L1 t[i].1), .inr ⟨od, hfz6⟩, rfl, ?_⟩, by show 2 ≤ sizeLine; decide, fun tq ntq => ?_⟩
              · rw [valV_enc, look_at G.nd hit]
                rfl
              · have htD : D ≠ tq := ne_of_none hD6 ntq
                refine ⟨ps.map V.ref, by rw [upd_ne htD]; exact hD6, by rw [List.length_map]; exact small1000 (by omega), ps ++ [tq], t2 ++ [t[i]], ?_, by rw [List.length_append]; exact Nat.succ_le_succ hps, ?_, ?_, ?_, ?_, ?_⟩
                · intro x hx
                  rcases List.mem_append.mp hx with h | h
                  · exact ht2 x h
                  · rw [List.mem_singleton.mp h]
                    exact ⟨G.key _ (List.getElem_mem hit), G.img _ (List.getElem_mem hit)⟩
                · rw [upd_same, List.map_append]
                  rfl
                · refine PairsAt.snoc ((hpa6.mono (tup_new ntq)).mono (tup_upd (by rw [upd_ne htD]; exact hD6))) ?_
                  exact (upd_ne (Ne.symm htD)).trans upd_same
                · rw [upd_ne (ne_of hfz6 hD6 (fun z => nomatch z)), upd_ne (ne_of_none hfz6 ntq)]
                  exact hfz6
                · exact ((PA6.new ntq).other hDp hDl)
                · exact ((fr5.trans fr6).trans (Fr.new ntq)).put nDH
            · exact ⟨ps, t2, ht2, by omega, hD6, hpa6, hfz6, PA6, fr5.trans fr6⟩
          · rintro H2 ⟨ps, t2, ht2, hps, hD, hpa, hfz, PA5, fr5⟩
            have hDd : D ≠ d2 := ne_of hD hfz (fun z => nomatch z)
            refine ⟨hfz, D, ps, encT t2, rfl, SqL.of (by rw [upd_ne hDd]; exact hD), (PairsAt.sq (hpa.mono fun b ys e => by rw [upd_ne (ne_of e hfz (fun z => nomatch z))]; exact e)), fun r nr => ?_⟩
            have em : mergeK [] (encT t2) = encT (mergeT [] t2) := mergeK_enc t2 []
            rw [em]
            have PA7 := (PA5.other (o := .dK (encT t)) hd2p hd2l)
            have fr7 := fr5.put (a := d2) (o := .dK (encT t)) nd2H
            exact q r (mergeT [] t2) _ (GoodT.merge GoodT.nil ht2) ((PA7.new nr).less (by omega)) (fr7.trans (Fr.new nr)) (fr7.back nr (PA7.nep nr)) upd_same
end
end V8

set_option Elab.async false
set_option linter.all false
set_option maxRecDepth 100000
set_option maxHeartbeats 8000000
/-! Letters, texts, images: the program's own tests. -/
namespace V8
open PySem PySem.Spec PyProof.Rows L2
abbrev s_is_letter : Stmt := topS 17
abbrev n_is_letter : List Str := ["value"]
theorem sc_is_letter : FnScope ["value"] ["value"] (defScope s_is_letter) := ⟨rfl, rfl, rfl, by decide +kernel, rfl, by decide +kernel, by decide +kernel⟩
abbrev s_is_text : Stmt := topS 18
abbrev n_is_text : List Str := ["value"]
theorem sc_is_text : FnScope ["value"] ["value"] (defScope s_is_text) := ⟨rfl, rfl, rfl, by decide +kernel, rfl, by decide +kernel, by decide +kernel⟩
abbrev s_all_letters : Stmt := topS 19
abbrev n_all_letters : List Str := ["string"]
theorem sc_all_letters : FnScope ["string"] ["string"] (defScope s_all_letters) := ⟨rfl, rfl, rfl, by decide +kernel, rfl, by decide +kernel, by decide +kernel⟩
abbrev s_is_image : Stmt := topS 30
abbrev n_is_image : List Str := ["value"]
theorem sc_is_image : FnScope ["value"] ["value"] (defScope s_is_image) := ⟨rfl, rfl, rfl, by decide +kernel, rfl, by decide +kernel, by decide +kernel⟩
abbrev s_told_images : Stmt := topS 32
abbrev n_told_images : List Str := ["images", "keeps", "key", "letter", "kept"]
theorem sc_told_images : FnScope ["images", "keeps", "key", "letter", "kept"] ["images", "keeps"] (defScope s_told_images) := ⟨rfl, rfl, rfl, by decide +kernel, rfl, by decide +kernel, by decide +kernel⟩
/-- what the top has left, of the names and of the two classes -/
structure Tx (K : PySem.W.Frag) (mg : Str → Option Value) (CM CJ : Addr) : Prop extends Blt mg where
  isinstance : mg "isinstance" = none
  iter : mg "iter" = none
  gLETTERS : GV mg "LETTERS" (.str abcS)
  gLONGEST : GV mg "LONGEST" (.int 2000)
  gLONGEST_TOLD : GV mg "LONGEST_TOLD" (.int 4)
  gMOST_LETTERS : GV mg "MOST_LETTERS" (.int 12)
  gMisreading : GV mg "Misreading" (.ref CM)
  gJoined : GV mg "Joined" (.ref CJ)
  dJ : PySem.W.kitOne K (.type "dict") (.ref CJ) = some false
  dM : PySem.W.kitOne K (.type "dict") (.ref CM) = some false
  sM : PySem.W.kitOne K (.type "str") (.ref CM) = some false
  iM : PySem.W.kitOne K (.type "int") (.ref CM) = some false
  cl : Cls K CM
  nL : NoAttr K CM "_letters"
  nI : NoAttr K CM "_images"
  nC : NoAttr K CM "changed"
  tA : PySem.W.findIn K (.ref CM) "__class__" = some (some (.builtin "object.__class__"))
  tB : PySem.W.specialIn K (.builtin "object.__class__") "__get__" = some (some (.builtin "getset_descriptor.__get__"))
  tC : PySem.W.takesIn K (.builtin "object.__class__") = some true
  tD : PySem.W.mroIn K CM (.type "object") = some true
  ne : PySem.W.findIn K (.ref CM) "__ne__" = some (some (.builtin "object.__ne__"))
  fd : PySem.W.notFirst K CM (.type "dict") = true
  fs : PySem.W.notFirst K CM (.type "str") = true
  fi : PySem.W.notFirst K CM (.type "int") = true
/-- nothing but what is new has changed -/
abbrev Sm := Same
def spIsLetter (K : PySem.W.Frag) : Sp := fun vs H Q _ => ∃ x, vs = [x] ∧ ((∃ c, x = .str (L1 c) ∧ Q (.bl (decide (c ∈ abc))) H) ∨ (∃ z, x = .str z ∧ z.length ≤ sizeLine ∧ z.length ≠ 1 ∧ Q (.bl false) H) ∨ (∃ t, TyX K H x t ∧ PySem.W.kitOne K t (.type "str") = some false ∧ Q (.bl false) H))
def spAllLetters : Sp := fun vs H Q _ => ∃ cs : List Nat, vs = [.str (Sx cs)] ∧ (∀ c ∈ cs, isLt c) ∧ cs.length ≤ 2000 ∧ Q (.bl true) H
def spIsText : Sp := spAllLetters
def spIsImage : Sp := fun vs H Q _ => ∃ s : List Nat, vs = [.str (Sx s)] ∧ (1 ≤ s.length ∧ s.length ≤ 4 ∧ ∀ d ∈ s, isLt d) ∧ Q (.bl true) H
theorem tw_all {p : Nat → Bool} : ∀ {l : List Nat}, (∀ c ∈ l, p c = true) → l.takeWhile p = l
  | [], _ => rfl
  | a :: r, h => by
    rw [List.takeWhile_cons, if_pos (h a (List.mem_cons_self ..)), tw_all fun c hc => h c (List.mem_cons_of_mem _ hc)]
theorem strip_all {cs : List Nat} (h : ∀ c ∈ cs, isLt c) : (Txt.stripChars (Sx cs) abcS).length = 0 := by
  have ha : ∀ c ∈ cs, abcS.cps.contains c = true := fun c hc => by
    have h1 : c ∈ abcS.cps.toList := by
      rw [abcS_cps]
      exact abc_mem.mpr (h c hc)
    exact Array.contains_iff_mem.mpr (Array.mem_toList_iff.mp h1)
  have hl : stripLo abcS.cps.contains true (Sx cs) = cs.length := by
    unfold stripLo
    rw [if_pos rfl]
    show (List.takeWhile abcS.cps.contains cs).length = cs.length
    rw [tw_all ha]
  unfold Txt.stripChars
  rw [stripBy_eq, hl]
  have e := TL.tl_strSub (Sx cs) cs.length (stripHi abcS.cps.contains true (Sx cs) cs.length)
  have e2 : TL.tl (Sx cs) = cs := rfl
  rw [e2, List.drop_length, List.take_nil] at e
  have e3 := congrArg List.length e
  exact e3
theorem dec_t {p : Prop} [Decidable p] (h : p) : V.bl (decide p) = V.bl true := by rw [decide_eq_true h]
theorem dec_f {p : Prop} [Decidable p] (h : ¬ p) : V.bl (decide p) = V.bl false := by rw [decide_eq_false h]
theorem ty_str {K : PySem.W.Frag} {H : Hp} (z : Str) : TyX K H (.str z) (.type "str") := .base (.str z)
section
variable {P : Program} {w : World} {K : PySem.W.Frag} {mg : Str → Option Value} {base : Heap} {CM CJ : Addr}
theorem ok_is_letter {f : Addr} {fd : FuncData} (F : Fun K "is_letter" "is_letter" s_is_letter f fd) (T : Tx K mg CM CJ) : FnOk P w K mg base CX0 1 f fd ["value"] (spIsLetter K) := by
  refine F.ok sc_is_letter (fun vs H Q E h => ?_) (fun cdv A outer s H vs Q E hr h => ?_)
  · obtain ⟨x, rfl, _⟩ := h
    rfl
  · obtain ⟨x, rfl, h⟩ := h
    refine ⟨_, (pss_one (ps_ret (pe_and (pe_callB call_isi (by rfl) T.isinstance (by decide +kernel) (pa_cons (pv 0) (pa_cons (pe_bltn (v := .ty "str") (by rfl) T.str (by decide +kernel) rfl) pa_nil))) (pe_and (pe_cmpR op_eq (pe_callB call_len_str (by rfl) T.len (by decide +kernel) (pa_cons (pv 0) pa_nil)) pe_int (nomark _)) (pe_one (pe_cmpR op_in_sign (pv 0) (pe_gv T.gLETTERS (by rfl)) rfl)))))), ?_⟩
    rcases h with ⟨c, rfl, q⟩ | ⟨z, rfl, hz, h1, q⟩ | ⟨t, ty, e, q⟩
    · refine ⟨_, rfl, _, .ty "str", .type "str", .type "str", true, rfl, .ty _, ty_str _, kit_ty (by decide +kernel), true, rfl, ?_⟩
      refine ⟨_, rfl, _, rfl, by show 1 ≤ sizeLine; decide, rfl, true, rfl, ?_⟩
      refine ⟨_, rfl, c, abcS, rfl, rfl, ?_⟩
      rw [abcS_cps]
      exact q
    · refine ⟨_, rfl, _, .ty "str", .type "str", .type "str", true, rfl, .ty _, ty_str _, kit_ty (by decide +kernel), true, rfl, ?_⟩
      refine ⟨_, rfl, _, rfl, hz, rfl, false, ?_, ?_⟩
      · rw [decide_eq_false]
        intro e
        have e' := V.int.inj e
        omega
      · exact q
    · exact ⟨_, rfl, _, .ty "str", t, .type "str", false, rfl, .ty _, ty, e, false, rfl, q⟩
theorem ok_all_letters {f : Addr} {fd : FuncData} (F : Fun K "all_letters" "all_letters" s_all_letters f fd) (T : Tx K mg CM CJ) : FnOk P w K mg base CX0 1 f fd ["string"] spAllLetters := by
  refine F.ok sc_all_letters (fun vs H Q E h => ?_) (fun cdv A outer s H vs Q E hr h => ?_)
  · obtain ⟨cs, rfl, _⟩ := h
    rfl
  · obtain ⟨cs, rfl, hl, hn, q⟩ := h
    refine ⟨_, (pss_one (ps_ret (pe_notTK (K := K) rfl (pe_bmK (K := K) rfl PySem.F.plainAttrs_str PySem.F.slot_str_strip PySem.F.type_str_strip mt_stripChars (pv 0) (pa_cons (pe_gv T.gLETTERS (by rfl)) pa_nil))))), ?_⟩
    have hz : (Sx cs).length ≤ sizeLine := by rw [Sx_len, sizeLine_eq]; omega
    refine ⟨_, rfl, rfl, _, abcS, rfl, rfl, hz, false, ⟨?_, ?_⟩, q⟩
    · exact Nat.le_trans (len_stripChars _ _) hz
    · rw [strip_all hl]
      rfl
theorem ok_is_text {f : Addr} {fd : FuncData} (F : Fun K "is_text" "is_text" s_is_text f fd) (T : Tx K mg CM CJ) (D_all_letters : Df P w K mg base 1 "all_letters" spAllLetters) : FnOk P w K mg base CX0 2 f fd ["value"] spIsText := by
  refine F.ok sc_is_text (fun vs H Q E h => ?_) (fun cdv A outer s H vs Q E hr h => ?_)
  · obtain ⟨cs, rfl, _⟩ := h
    rfl
  · obtain ⟨cs, rfl, hl, hn, q⟩ := h
    refine ⟨_, (pss_one (ps_ret (pe_and (pe_callB call_isi (by rfl) T.isinstance (by decide +kernel) (pa_cons (pv 0) (pa_cons (pe_bltn (v := .ty "str") (by rfl) T.str (by decide +kernel) rfl) pa_nil))) (pe_and (pe_cmpR op_le (pe_callB call_len_str (by rfl) T.len (by decide +kernel) (pa_cons (pv 0) pa_nil)) (pe_gv T.gLONGEST (by rfl)) (nomark _)) (pe_one (pe_c D_all_letters hr (by decide) (by rfl) (pa_cons (pv 0) pa_nil))))))), ?_⟩
    have hz : (Sx cs).length ≤ sizeLine := by rw [Sx_len, sizeLine_eq]; omega
    refine ⟨_, rfl, _, .ty "str", .type "str", .type "str", true, rfl, .ty _, ty_str _, kit_ty (by decide +kernel), true, rfl, ?_⟩
    refine ⟨_, rfl, _, rfl, hz, _, _, rfl, rfl, true, ?_, ?_⟩
    · rw [Sx_len]
      exact dec_t (show (cs.length : Int) ≤ 2000 by omega)
    · exact ⟨_, rfl, cs, rfl, hl, hn, q⟩
theorem ok_is_image {f : Addr} {fd : FuncData} (F : Fun K "is_image" "is_image" s_is_image f fd) (T : Tx K mg CM CJ) (D_is_text : Df P w K mg base 2 "is_text" spIsText) : FnOk P w K mg base CX0 3 f fd ["value"] spIsImage := by
  refine F.ok sc_is_image (fun vs H Q E h => ?_) (fun cdv A outer s H vs Q E hr h => ?_)
  · obtain ⟨cs, rfl, _⟩ := h
    rfl
  · obtain ⟨cs, rfl, ⟨g1, g4, gl⟩, q⟩ := h
    refine ⟨_, (pss_one (ps_ret (pe_and (pe_c D_is_text hr (by decide) (by rfl) (pa_cons (pv 0) pa_nil)) (pe_one (pe_chain op_le op_le pe_int (pe_callB call_len_str (by rfl) T.len (by decide +kernel) (pa_cons (pv 0) pa_nil)) (pe_gv T.gLONGEST_TOLD (by rfl))))))), ?_⟩
    have hz : (Sx cs).length ≤ sizeLine := by rw [Sx_len, sizeLine_eq]; omega
    refine ⟨_, rfl, cs, rfl, gl, by omega, true, rfl, ?_⟩
    refine ⟨_, rfl, _, rfl, hz, _, _, rfl, rfl, true, ?_, ?_⟩
    · rw [Sx_len]
      exact dec_t (show (1 : Int) ≤ (cs.length : Int) by omega)
    · refine ⟨_, _, rfl, rfl, ?_⟩
      rw [Sx_len]
      have e := dec_t (show (cs.length : Int) ≤ 4 by omega)
      show Q (V.bl (decide ((cs.length : Int) ≤ 4))) H
      rw [e]
      exact q
/-- the letters that stay, as a table -/
def keepT (st : List Nat) : Tab := mergeT [] (st.map fun c => (c, [c]))
theorem keepT_good {cs st : List Nat} (hs : ∀ c ∈ st, c ∈ cs) (hl : ∀ c ∈ cs, isLt c) : GoodT cs (keepT st) := GoodT.merge GoodT.nil fun q hq => by
  obtain ⟨c, hc, rfl⟩ := List.mem_map.mp hq
  exact ⟨hs c hc, goodI1 (hs c hc)⟩
def toldT (st : List Nat) (t : Tab) : Tab := mergeT (mergeT [] (keepT st)) t
theorem toldT_good {cs st : List Nat} {t : Tab} (hs : ∀ c ∈ st, c ∈ cs) (hl : ∀ c ∈ cs, isLt c) (g : GoodT cs t) : GoodT cs (toldT st t) := by
  have g1 := keepT_good hs hl
  exact GoodT.merge (GoodT.merge GoodT.nil fun q hq => ⟨g1.key q hq, g1.img q hq⟩) fun q hq => ⟨g.key q hq, g.img q hq⟩
def spTold : Sp := fun vs H Q _ => ∃ (d : Addr) (cs st : List Nat) (t : Tab), vs = [.ref d, .str (Sx st)] ∧ H d = some (.dK (encT t)) ∧ GoodT cs t ∧ cs.length ≤ 26 ∧ (∀ c ∈ cs, isLt c) ∧ (∀ c ∈ st, c ∈ cs) ∧ st.length ≤ 500 ∧
  ∀ (r : Addr) (H' : Hp), Same H H' → H r = none → H' r = some (.dK (encT (toldT st t))) → Q (.ref r) H'
theorem Same.upd_back {H : Hp} {d : Addr} {o u : HO} (h : H d = some u) : upd (upd H d o) d u = H := by
  rw [upd_upd]
  funext b
  by_cases hb : b = d
  · rw [hb, upd_same, h]
  · rw [upd_ne hb]
theorem sx_at {st : List Nat} {i : Nat} {c : Nat} (h : (Sx st).cps[i]? = some c) : st[i]? = some c := by
  have : (Sx st).cps = st.toArray := rfl
  rw [this] at h
  simpa using h
theorem sx_size (st : List Nat) : (Sx st).cps.size = st.length := by
  show st.toArray.size = _
  simp
theorem look_in : ∀ {t : Tab} {c : Nat} {s : List Nat}, lookT t c = some s → (c, s) ∈ t := by
  intro t c s h
  unfold lookT at h
  cases e : t.find? (fun q => decide (q.1 = c)) with
  | none =>
    rw [e] at h
    cases h
  | some q =>
    rw [e] at h
    have h1 := List.find?_some e
    have h2 := List.mem_of_find?_eq_some e
    have h3 : q.1 = c := by simpa using h1
    have h4 : q.2 = s := by simpa using h
    rw [← h3, ← h4]
    exact h2
theorem keep_take {cs st : List Nat} (hs : ∀ c ∈ st, c ∈ cs) (hl : ∀ c ∈ cs, isLt c) (i : Nat) : GoodT cs (mergeT [] ((st.take i).map fun c => (c, [c]))) := keepT_good (st := st.take i) (fun c hc => hs c (List.mem_of_mem_take hc)) hl
theorem keep_succ {st : List Nat} {i c : Nat} (h : st[i]? = some c) : mergeT [] ((st.take (i + 1)).map fun c => (c, [c])) = putT (mergeT [] ((st.take i).map fun c => (c, [c]))) c [c] := by
  rw [List.take_add_one, h, List.map_append]
  unfold mergeT
  rw [List.foldl_append]
  rfl
theorem ok_told_images {f : Addr} {fd : FuncData} (F : Fun K "told_images" "told_images" s_told_images f fd) (T : Tx K mg CM CJ) (D_is_letter : Df P w K mg base 1 "is_letter" (spIsLetter K)) (D_is_text : Df P w K mg base 2 "is_text" spIsText)
    (D_is_image : Df P w K mg base 3 "is_image" spIsImage) : FnOk P w K mg base CX0 4 f fd ["images", "keeps"] spTold := by
  refine F.ok sc_told_images (fun vs H Q E h => ?_) (fun cdv A outer s H vs Q E hr h => ?_)
  · obtain ⟨d, cs, st, t, rfl, _⟩ := h
    rfl
  · obtain ⟨d, cs, st, t, rfl, hd, G, h26, hlt, hst, hs5, q⟩ := h
    refine ⟨_, (pss_cons (ps_if (pt_not (pt_val (pe_callB call_isi (by rfl) T.isinstance (by decide +kernel) (pa_cons (pv 0) (pa_cons (pe_bltn (v := .ty "dict") (by rfl) T.dict (by decide +kernel) rfl) pa_nil)))))
        (pss_one ps_never)
        pss_nil)
      (pss_cons (ps_lock (ps_for PassesOwn.never rfl (pi_keys (pv 0)) (pg_name (i := 2) sc_told_images.nd rfl (.inl rfl))
        (pss_one (ps_if (pt_not (pt_val (pe_c D_is_letter hr (by decide) (by rfl) (pa_cons (pv 2) pa_nil))))
          (pss_one ps_never)
          pss_nil))))
      (pss_cons (ps_for PassesOwn.never rfl (pi_str (pe_gv T.gLETTERS (by rfl))) (pg_name (i := 3) sc_told_images.nd rfl (.inl rfl))
        (pss_one (ps_if (PW.pt (pw_and (pt_cmp (pc_din (hu_of hr) (pv 3) (pv 0))) (pw_and1 (pt_not (pt_val (pe_c D_is_image hr (by decide) (by rfl) (pa_cons (pe_dget (hu_of hr) (pv 0) (pv 3) (fun _ _ => rfl)) pa_nil)))))))
          (pss_one ps_never)
          pss_nil)))
      (pss_cons (ps_if (pt_not (pt_val (pe_c D_is_text hr (by decide) (by rfl) (pa_cons (pv 1) pa_nil))))
        (pss_one ps_never)
        pss_nil)
      (pss_cons (ps_setDc (j := 4) (own := [("letter", 3)]) (g := gName 3) (by rfl) sc_told_images.nd rfl rfl (sw_trueD rfl rfl rfl (by decide +kernel)) (pi_str (pv 1)) (blkOk_by (own := [("letter", 3)]) (N := n_told_images) (sc := defScope s_told_images) (by decide +kernel)) (fun _ _ _ _ _ => (pg_name (i := 3) sc_told_images.nd rfl (.inl rfl))) (fun _ _ _ _ _ => pts_nil) (fun _ _ _ _ _ => (pv 3)) (fun _ _ _ _ _ => (pv 3)))
      (pss_one (ps_ret (pe_merge2 (pv 4) (pv 0))))))))), ?_⟩
    have tl := G.len
    -- isinstance(images, dict)
    refine ⟨_, rfl, _, .ty "dict", .type "dict", .type "dict", true, rfl, .ty _, .base (.dK hd), kit_ty (by decide +kernel), true, rfl, ?_⟩
    refine iteF ?_
    -- for key in images
    refine ⟨d, _, hd, True.intro, fun od => ⟨_, rfl, d, od, rfl, .inl ⟨_, upd_same, for_it walk_keys (fun i σ H2 => ∃ v2, σ = [some (.ref d), some (.str (Sx st)), v2, none, none] ∧ H2 = upd H d (.frz od (.dK (encT t)))) ⟨none, rfl, rfl⟩ ?_ ?_ ?_⟩⟩⟩
    · rintro i σ H2 hi ⟨v2, rfl, rfl⟩
      exact upd_same
    · rintro i x σ H2 H2' hi ⟨v2, rfl, rfl⟩ ⟨rfl, k, v, hk, rfl⟩
      obtain ⟨hit, rfl, rfl⟩ := enc_at hk
      have hc : t[i].1 ∈ abc := abc_mem.mpr (hlt _ (G.key _ (List.getElem_mem hit)))
      refine ⟨_, rfl, _, rfl, .inl ⟨t[i].1, rfl, ?_⟩⟩
      rw [decide_eq_true hc]
      exact ⟨true, rfl, iteF ⟨_, rfl, rfl⟩⟩
    · rintro σ H2 ⟨v2, rfl, rfl⟩
      refine ⟨upd_same, ?_⟩
      rw [Same.upd_back hd]
      -- for letter in LETTERS
      refine ⟨abcS, rfl, for_it walk_str (fun i σ H2 => ∃ v3, σ = [some (.ref d), some (.str (Sx st)), v2, v3, none] ∧ H = H2) ⟨none, rfl, rfl⟩ ?_ ?_ ?_⟩
      · rintro i σ H2 hi _
        trivial
      · rintro i x σ H2 H2' hi ⟨v3, rfl, rfl⟩ ⟨rfl, c, hc, rfl⟩
        refine ⟨_, rfl, _, rfl, d, _, rfl, DGet.k (k := Sum.inr (L1 c)) hd, _, rfl, ?_⟩
        rw [valV_enc]
        cases e : lookT t c with
        | none =>
          refine iteF ?_
          exact ⟨_, rfl, rfl⟩
        | some s =>
          refine iteT ?_
          refine ⟨_, rfl, _, rfl, d, V.str (Sx s), rfl, .inl ⟨_, Sum.inr (L1 c), .inl hd, rfl, by rw [valV_enc, e]; rfl⟩, s, rfl, ⟨(G.img _ (look_in e)).1, (G.img _ (look_in e)).2.1, fun z hz => hlt z ((G.img _ (look_in e)).2.2 z hz)⟩, true, rfl, ?_⟩
          exact ⟨_, rfl, rfl⟩
      · rintro σ H2 ⟨v3, rfl, rfl⟩
        -- is_text(keeps)
        refine ⟨_, rfl, st, rfl, fun c hc => hlt c (hst c hc), by omega, true, rfl, iteF ?_⟩
        -- kept
        refine ⟨_, rfl, Sx st, rfl, fun D nD => dc_it walk_str (fun i H3 => H3 = upd H D (.dK (encT (mergeT [] ((st.take i).map fun c => (c, [c])))))) ?_ ?_ ?_ ?_⟩
        · rfl
        · rintro i H3 hi _
          trivial
        · rintro i x H3 H3' hi rfl ⟨rfl, c, hc, rfl⟩
          have hc' := sx_at hc
          rw [sx_size] at hi
          have gk := keep_take (cs := cs) hst hlt i
          refine ⟨rfl, _, rfl, _, rfl, _, Sum.inr (L1 c), rfl, upd_same, by rw [encT_len]; have := gk.len; exact small1000 (by omega), ?_⟩
          rw [upd_upd]
          have ep : putK (encT (mergeT [] ((st.take i).map fun c => (c, [c])))) (Sum.inr (L1 c)) (V.str ⟨#[c]⟩) = encT (mergeT [] ((st.take (i + 1)).map fun c => (c, [c]))) := by
            rw [keep_succ hc']
            exact putK_enc _ c [c]
          rw [ep]
        · rintro H3 rfl
          rw [sx_size, List.take_length]
          have gk := keepT_good hst hlt
          have lk := gk.len
          have hdD : d ≠ D := ne_of_none hd nD
          -- {**kept, **images}
          have em : mergeK [] (encT (keepT st)) = encT (mergeT [] (keepT st)) := mergeK_enc (keepT st) []
          have gm : GoodT cs (mergeT [] (keepT st)) := GoodT.merge GoodT.nil fun x hx => ⟨gk.key x hx, gk.img x hx⟩
          have lm := gm.len
          refine fun r nr => ?_
          have hDr : D ≠ r := ne_of_none (H := upd H D (.dK (encT (keepT st)))) upd_same nr
          have hdr : d ≠ r := by
            refine ne_of_none (H := upd H D (.dK (encT (keepT st)))) (o := .dK (encT t)) ?_ nr
            rw [upd_ne hdD]
            exact hd
          refine ⟨_, rfl, D, encT (keepT st), rfl, hDr, upd_same, .inl ?_, by rw [encT_len]; omega, ?_⟩
          · rw [upd_ne hDr, upd_same]
            rfl
          · rw [em]
            refine ⟨_, rfl, d, encT (mergeT [] (keepT st)), encT t, rfl, hdr, upd_same, by rw [encT_len]; omega, .inl ?_, by rw [encT_len]; omega, ?_⟩
            · rw [upd_ne hdr, upd_ne hdr, upd_ne hdD]
              exact hd
            · rw [mergeK_enc]
              have s1 : Same H (upd H D (.dK (encT (keepT st)))) := fun b o e => by
                rw [upd_ne (ne_of_none e nD)]
                exact e
              have nrH : H r = none := s1.free nr
              refine q r _ (fun b o e => ?_) nrH upd_same
              have hb := ne_of_none e nrH
              rw [upd_ne hb, upd_ne hb, upd_ne hb]
              exact s1 b o e
end
end V8

set_option Elab.async false
set_option linter.all false
set_option maxRecDepth 100000
set_option maxHeartbeats 8000000
/-! The class Misreading, as far as the law asks it. -/
namespace V8
open PySem PySem.Spec PyProof.Rows L2
abbrev s_Misreading_init : Stmt := inClass (topS 29) 0
abbrev n_Misreading_init : List Str := ["self", "images", "keeps", "told", "letter"]
theorem sc_Misreading_init : FnScope ["self", "images", "keeps", "told", "letter"] ["self", "images", "keeps"] (defScope s_Misreading_init) := ⟨rfl, rfl, rfl, by decide +kernel, rfl, by decide +kernel, by decide +kernel⟩
abbrev s_Misreading_contains : Stmt := inClass (topS 29) 1
abbrev n_Misreading_contains : List Str := ["self", "x"]
theorem sc_Misreading_contains : FnScope ["self", "x"] ["self", "x"] (defScope s_Misreading_contains) := ⟨rfl, rfl, rfl, by decide +kernel, rfl, by decide +kernel, by decide +kernel⟩
abbrev s_Misreading_len : Stmt := inClass (topS 29) 2
abbrev n_Misreading_len : List Str := ["self"]
theorem sc_Misreading_len : FnScope ["self"] ["self"] (defScope s_Misreading_len) := ⟨rfl, rfl, rfl, by decide +kernel, rfl, by decide +kernel, by decide +kernel⟩
abbrev s_Misreading_iter : Stmt := inClass (topS 29) 3
abbrev n_Misreading_iter : List Str := ["self"]
theorem sc_Misreading_iter : FnScope ["self"] ["self"] (defScope s_Misreading_iter) := ⟨rfl, rfl, rfl, by decide +kernel, rfl, by decide +kernel, by decide +kernel⟩
abbrev s_Misreading_getitem : Stmt := inClass (topS 29) 4
abbrev n_Misreading_getitem : List Str := ["self", "at"]
theorem sc_Misreading_getitem : FnScope ["self", "at"] ["self", "at"] (defScope s_Misreading_getitem) := ⟨rfl, rfl, rfl, by decide +kernel, rfl, by decide +kernel, by decide +kernel⟩
abbrev s_Misreading_eq : Stmt := inClass (topS 29) 13
abbrev n_Misreading_eq : List Str := ["self", "other"]
theorem sc_Misreading_eq : FnScope ["self", "other"] ["self", "other"] (defScope s_Misreading_eq) := ⟨rfl, rfl, rfl, by decide +kernel, rfl, by decide +kernel, by decide +kernel⟩
abbrev s_Misreading_same : Stmt := inClass (topS 29) 15
abbrev n_Misreading_same : List Str := ["letters"]
theorem sc_Misreading_same : FnScope ["letters"] ["letters"] (defScope s_Misreading_same) := ⟨rfl, rfl, rfl, by decide +kernel, rfl, by decide +kernel, by decide +kernel⟩
abbrev s_Misreading_str : Stmt := inClass (topS 29) 16
abbrev n_Misreading_str : List Str := ["self", "letter"]
theorem sc_Misreading_str : FnScope ["self", "letter"] ["self"] (defScope s_Misreading_str) := ⟨rfl, rfl, rfl, by decide +kernel, rfl, by decide +kernel, by decide +kernel⟩
def keysOf (u : Tab) : List Nat := abc.filter fun c => (lookT u c).isSome
def ims (u : Tab) : Tab := (keysOf u).map fun c => (c, (lookT u c).getD [])
def chg (u : Tab) : List Nat := (keysOf u).filter fun c => decide (lookT u c ≠ some [c])
theorem kLI : ¬ (("_letters" : Str) = "_images") := by decide +kernel
theorem kLC : ¬ (("_letters" : Str) = "changed") := by decide +kernel
theorem kIC : ¬ (("_images" : Str) = "changed") := by decide +kernel
def f1 (a : Addr) : List (Str × V) := putF "_letters" (.ref a) []
def f2 (a b : Addr) : List (Str × V) := putF "_images" (.ref b) (f1 a)
def f3 (a b c : Addr) : List (Str × V) := putF "changed" (.ref c) (f2 a b)
theorem f1_L (a : Addr) : (f1 a).lookup ("_letters" : Str) = some (.ref a) := by
  unfold f1
  rw [lookup_putF, if_pos rfl]
theorem f2_L (a b : Addr) : (f2 a b).lookup ("_letters" : Str) = some (.ref a) := by
  unfold f2
  rw [lookup_putF, if_neg kLI]
  exact f1_L a
theorem f3_L (a b c : Addr) : (f3 a b c).lookup ("_letters" : Str) = some (.ref a) := by
  unfold f3
  rw [lookup_putF, if_neg kLC]
  exact f2_L a b
theorem f3_I (a b c : Addr) : (f3 a b c).lookup ("_images" : Str) = some (.ref b) := by
  unfold f3 f2
  rw [lookup_putF, if_neg kIC, lookup_putF, if_pos rfl]
theorem f3_C (a b c : Addr) : (f3 a b c).lookup ("changed" : Str) = some (.ref c) := by
  unfold f3
  rw [lookup_putF, if_pos rfl]
theorem f1_len (a : Addr) : (f1 a).length < 1000 := by
  show 1 < 1000
  decide
theorem f2_len (a b : Addr) : (f2 a b).length < 1000 := by
  have e : f2 a b = [(("_letters" : Str), V.ref a), ("_images", V.ref b)] := by
    show (if ("_letters" : Str) = "_images" then [(("_letters" : Str), V.ref b)] else (("_letters" : Str), V.ref a) :: [(("_images" : Str), V.ref b)]) = _
    rw [if_neg kLI]
  rw [e]
  show 2 < 1000
  decide
/-- a Misreading stands at x: its images are those of the table u, letters ascending -/
structure MisAt (C : Addr) (H : Hp) (x : Addr) (u : Tab) : Prop where
  at_ : ∃ dx a b c, H x = some (.ins C dx (f3 a b c)) ∧ H a = some (.tup (lets (keysOf u))) ∧ H b = some (.dK (encT (ims u))) ∧ H c = some (.tup (lets (chg u)))
theorem MisAt.mono {C : Addr} {H H' : Hp} {x : Addr} {u : Tab} (m : MisAt C H x u) (k : ∀ b o, H b = some o → (∀ xs, o ≠ .lst xs) → H' b = some o) : MisAt C H' x u := by
  obtain ⟨dx, a, b, c, h1, h2, h3, h4⟩ := m.at_
  exact ⟨dx, a, b, c, k _ _ h1 (fun _ z => nomatch z), k _ _ h2 (fun _ z => nomatch z), k _ _ h3 (fun _ z => nomatch z), k _ _ h4 (fun _ z => nomatch z)⟩
/-- .. made of what is new behind H0 -/
structure MisN (C : Addr) (H0 H : Hp) (x : Addr) (u : Tab) : Prop where
  at_ : ∃ dx a b c, H x = some (.ins C dx (f3 a b c)) ∧ H a = some (.tup (lets (keysOf u))) ∧ H b = some (.dK (encT (ims u))) ∧ H c = some (.tup (lets (chg u))) ∧ H0 a = none ∧ H0 b = none ∧ H0 c = none
theorem MisN.mis {C : Addr} {H0 H : Hp} {x : Addr} {u : Tab} (m : MisN C H0 H x u) : MisAt C H x u := by
  obtain ⟨dx, a, b, c, h1, h2, h3, h4, _⟩ := m.at_
  exact ⟨dx, a, b, c, h1, h2, h3, h4⟩
/-- what stood there is written -/
theorem MisN.write {C d : Addr} {H0 H : Hp} {x : Addr} {u : Tab} {o o' : HO} (m : MisN C H0 H x u) (h : H0 d = some o) (hx : H0 x = none) : MisAt C (upd H d o') x u := by
  obtain ⟨dx, a, b, c, h1, h2, h3, h4, n1, n2, n3⟩ := m.at_
  exact ⟨dx, a, b, c, by rw [upd_ne (ne_of_none h hx).symm]; exact h1, by rw [upd_ne (ne_of_none h n1).symm]; exact h2, by rw [upd_ne (ne_of_none h n2).symm]; exact h3, by rw [upd_ne (ne_of_none h n3).symm]; exact h4⟩
theorem keysOf_sub (u : Tab) : ∀ c ∈ keysOf u, isLt c := fun c h => abc_mem.mp (List.mem_filter.mp h).1
theorem keysOf_len (u : Tab) : (keysOf u).length ≤ 26 := by
  have := List.length_filter_le (fun c => (lookT u c).isSome) abc
  rw [abc_len] at this
  exact this
theorem keysOf_nd (u : Tab) : (keysOf u).Nodup := abc_nd.filter _
def spInit (CM : Addr) : Sp := fun vs H Q _ => ∃ (x dx d : Addr) (cs st : List Nat) (t : Tab), vs = [.ref x, .ref d, .str (Sx st)] ∧ H x = some (.ins CM dx []) ∧ H d = some (.dK (encT t)) ∧ GoodT cs t ∧ ((toldT st t).length ≤ 12 ∧ cs.length ≤ 26) ∧ (∀ c ∈ cs, isLt c) ∧ (∀ c ∈ st, c ∈ cs) ∧ st.length ≤ 500 ∧
  ∀ H', MisN CM H H' x (toldT st t) → (∀ b o, H b = some o → b ≠ x → H' b = some o) → Q .non H'
section
variable {P : Program} {w : World} {K : PySem.W.Frag} {mg : Str → Option Value} {base : Heap} {CM CJ : Addr}
theorem some_put (u : Tab) (i : Nat) (c : Nat) (h : abc[i]? = some c) : (abc.take (i + 1)).filter (fun c => (lookT u c).isSome) = (abc.take i).filter (fun c => (lookT u c).isSome) ++ (if (lookT u c).isSome = true then [c] else []) := by
  rw [List.take_add_one, h, List.filter_append]
  congr 1
  show List.filter _ [c] = _
  by_cases e : (lookT u c).isSome = true
  · rw [if_pos e]
    exact List.filter_eq_self.mpr (fun x hx => by rw [List.mem_singleton.mp hx]; exact e)
  · rw [if_neg e]
    simp [e]
theorem ims_succ {ks : List Nat} {u : Tab} {i : Nat} {s : List Nat} (nd : ks.Nodup) (hi : i < ks.length) (e : (lookT u ks[i]).getD [] = s) : putT ((ks.take i).map fun c => (c, (lookT u c).getD [])) ks[i] s = (ks.take (i + 1)).map fun c => (c, (lookT u c).getD []) := by
  have hn : ¬ (((ks.take i).map fun c => (c, (lookT u c).getD [])).any fun q => decide (q.1 = ks[i])) = true := by
    intro h
    obtain ⟨q, hq, e1⟩ := List.any_eq_true.mp h
    obtain ⟨c, hc, rfl⟩ := List.mem_map.mp hq
    have e2 : c = ks[i] := by simpa using e1
    obtain ⟨j, hj, ej⟩ := List.getElem_of_mem hc
    rw [List.length_take] at hj
    rw [List.getElem_take] at ej
    have : j = i := (List.getElem_inj nd).mp (ej.trans e2)
    omega
  unfold putT
  rw [if_neg hn, List.take_add_one, List.getElem?_eq_getElem hi, List.map_append]
  show _ = _ ++ [(ks[i], (lookT u ks[i]).getD [])]
  rw [e]
theorem chg_succ {u : Tab} {i : Nat} {ks : List Nat} (hi : i < ks.length) : (ks.take (i + 1)).filter (fun c => decide (lookT u c ≠ some [c])) = (ks.take i).filter (fun c => decide (lookT u c ≠ some [c])) ++ (if decide (lookT u ks[i] ≠ some [ks[i]]) = true then [ks[i]] else []) := by
  rw [List.take_add_one, List.getElem?_eq_getElem hi, List.filter_append]
  congr 1
  show List.filter _ [ks[i]] = _
  rw [List.filter_cons]
  rfl
theorem ok_init {f : Addr} {fd : FuncData} {dvs : List V} (F : FunD K "__init__" "Misreading.__init__" (defArgs s_Misreading_init) (defBody s_Misreading_init) (defScope s_Misreading_init) dvs [] f fd) (T : Tx K mg CM CJ) (D_told_images : Df P w K mg base 4 "told_images" spTold) : FnOk P w K mg base CX0 5 f fd ["self", "images", "keeps"] (spInit CM) := by
  refine F.ok sc_Misreading_init (fun vs H Q E h => ?_) (fun cdv A outer s H vs Q E hr h => ?_)
  · obtain ⟨x, dx, d, cs, st, t, rfl, _⟩ := h
    rfl
  · obtain ⟨x, dx, d, cs, st, t, rfl, hx, hd, G, ⟨h12, h26⟩, hlt, hst, hs5, q⟩ := h
    refine ⟨_, (pss_cons (ps_set (i := 3) sc_Misreading_init.nd rfl (.inr rfl) (pe_ifExp (pt_val (pe_callB call_isi (by rfl) T.isinstance (by decide +kernel) (pa_cons (pv 1) (pa_cons (pe_gv T.gJoined (by rfl)) pa_nil)))) (pe_fldK (K := K) rfl (pv 1) rfl) (pe_c D_told_images hr (by decide) (by rfl) (pa_cons (pv 1) (pa_cons (pv 2) pa_nil)))))
      (pss_cons (ps_if (pt_cmpR op_gt (pe_callB call_lenD (by rfl) T.len (by decide +kernel) (pa_cons (pv 3) pa_nil)) (pe_gv T.gMOST_LETTERS (by rfl)) (nomark _))
        (pss_one ps_never)
        pss_nil)
      (pss_cons (ps_fld (pv 0) (pe_callTy (call_tuple_ofK (K := K) rfl) (by rfl) T.tuple (by decide +kernel) (pa_cons (pe_lc (own := [("letter", 4)]) (g := gName 4) (by rfl) sc_Misreading_init.nd (pi_str (pe_gv T.gLETTERS (by rfl))) (blkOk_by (own := [("letter", 4)]) (N := n_Misreading_init) (sc := defScope s_Misreading_init) (by decide +kernel)) (fun _ _ _ _ _ => (pg_name (i := 4) sc_Misreading_init.nd rfl (.inl rfl))) (fun _ _ _ _ _ => (pts_one (pt_cmp (pc_din (hu_of hr) (pv 4) (pv 3))))) (fun _ _ _ _ _ => (pv 4))) pa_nil)) rfl)
      (pss_cons (ps_fld (pv 0) (pe_dc (own := [("letter", 4)]) (g := gName 4) (by rfl) sc_Misreading_init.nd (pi_tup (pe_fldK (K := K) rfl (pv 0) rfl)) (blkOk_by (own := [("letter", 4)]) (N := n_Misreading_init) (sc := defScope s_Misreading_init) (by decide +kernel)) (fun _ _ _ _ _ => (pg_name (i := 4) sc_Misreading_init.nd rfl (.inl rfl))) (fun _ _ _ _ _ => pts_nil) (fun _ _ _ _ _ => (pv 4)) (fun _ _ _ _ _ => (pe_dget (hu_of hr) (pv 3) (pv 4) (fun _ _ => rfl)))) rfl)
      (pss_one (ps_fld (pv 0) (pe_callTy (call_tuple_ofK (K := K) rfl) (by rfl) T.tuple (by decide +kernel) (pa_cons (pe_lc (own := [("letter", 4)]) (g := gName 4) (by rfl) sc_Misreading_init.nd (pi_tup (pe_fldK (K := K) rfl (pv 0) rfl)) (blkOk_by (own := [("letter", 4)]) (N := n_Misreading_init) (sc := defScope s_Misreading_init) (by decide +kernel)) (fun _ _ _ _ _ => (pg_name (i := 4) sc_Misreading_init.nd rfl (.inl rfl))) (fun _ _ _ _ _ => (pts_one (pt_cmpR op_ne (pe_dget (hu_of hr) (pv 3) (pv 4) (fun _ _ => rfl)) (pv 4) (nomark _)))) (fun _ _ _ _ _ => (pv 4))) pa_nil)) rfl)))))), ?_⟩
    have gu := toldT_good hst hlt G
    have lu := h12
    -- told
    refine ⟨_, rfl, _, .ref CJ, .type "dict", .ref CJ, false, rfl, .own _, .base (.dK hd), T.dJ, false, rfl, ?_⟩
    refine iteF ?_
    refine ⟨_, rfl, _, rfl, d, cs, st, t, rfl, hd, G, by omega, hlt, hst, hs5, fun r H1 sm nr hr1 => ?_⟩
    generalize toldT st t = u at gu lu q hr1 ⊢
    have hx1 := sm _ _ hx
    -- len(told) > 12
    refine ⟨_, rfl, r, _, rfl, hr1, _, _, rfl, rfl, _, rfl, ?_⟩
    rw [encT_len, decide_eq_false (by show ¬ ((12 : Int) < (u.length : Int)); omega)]
    refine iteF ?_
    have hx0 : ∀ b o, H b = some o → b ≠ x → H1 b = some o := fun b o e _ => sm b o e
    -- self._letters
    refine ⟨abcS, rfl, fun D nD => lc_it walk_str (fun i H2 => H2 = upd H1 D (.lst (lets ((abc.take i).filter fun c => (lookT u c).isSome)))) rfl (fun _ _ _ _ => trivial) ?_ ?_⟩
    · rintro i z H2 H2' hi rfl ⟨rfl, c, hc, rfl⟩
      have hc' : abc[i]? = some c := by
        rw [← abcS_cps]
        simpa using hc
      have hrD : r ≠ D := ne_of_none hr1 nD
      refine ⟨rfl, _, rfl, _, rfl, r, _, rfl, DGet.k (k := Sum.inr (L1 c)) (by rw [upd_ne hrD]; exact hr1), _, rfl, ?_⟩
      rw [valV_enc]
      have hs := some_put u i c hc'
      by_cases e : (lookT u c).isSome = true
      · have e2 : (Option.map (fun s => V.str (Sx s)) (lookT u c)).isSome = true := by rw [Option.isSome_map]; exact e
        rw [e2]
        refine iteT ?_
        rw [if_pos e] at hs
        refine ⟨_, rfl, lets ((abc.take i).filter fun c => (lookT u c).isSome), upd_same, ?_, ?_⟩
        · rw [lets_len]
          have h1 := List.length_filter_le (fun c => (lookT u c).isSome) (abc.take i)
          have h2 : (abc.take i).length ≤ 26 := by rw [List.length_take, abc_len]; omega
          exact small1000 (by omega)
        · rw [upd_upd, hs, lets_snoc]
          rfl
      · have e2 : (Option.map (fun s => V.str (Sx s)) (lookT u c)).isSome = false := by
          rw [Option.isSome_map]
          exact Bool.eq_false_iff.mpr e
        rw [e2]
        refine iteF ?_
        rw [if_neg e, List.append_nil] at hs
        rw [hs]
    · rintro H2 rfl
      have hsz : abcS.cps.size = 26 := by decide +kernel
      rw [hsz]
      have ek : (abc.take 26).filter (fun c => (lookT u c).isSome) = keysOf u := by
        rw [List.take_of_length_le (by rw [abc_len]; exact Nat.le_refl _)]
        rfl
      rw [ek]
      refine ⟨D, _, rfl, .inl ⟨SqL.of upd_same, fun a na => ?_⟩⟩
      have hxD : x ≠ D := ne_of_none hx1 nD
      have hxa : x ≠ a := ne_of_none (H := upd H1 D (.lst (lets (keysOf u)))) (o := .ins CM dx []) (by rw [upd_ne hxD]; exact hx1) na
      have hrD : r ≠ D := ne_of_none hr1 nD
      have hra : r ≠ a := ne_of_none (H := upd H1 D (.lst (lets (keysOf u)))) (o := .dK (encT u)) (by rw [upd_ne hrD]; exact hr1) na
      have hrx : r ≠ x := ne_of hr1 hx1 (fun z => nomatch z)
      refine ⟨_, rfl, x, CM, dx, [], rfl, by rw [upd_ne hxa, upd_ne hxD]; exact hx1, T.cl, T.nL, by show 0 < 1000; decide, ?_⟩
      have fr3 : ∀ b o, H b = some o → b ≠ x → upd (upd (upd H1 D (.lst (lets (keysOf u)))) a (.tup (lets (keysOf u)))) x (.ins CM dx (f1 a)) b = some o := fun b o e hb => by
        have e1 := sm b o e
        have hbD := ne_of_none e1 nD
        rw [upd_ne hb, upd_ne (ne_of_none (H := upd H1 D (.lst (lets (keysOf u)))) (o := o) (by rw [upd_ne hbD]; exact e1) na), upd_ne hbD]
        exact e1
      have hx3 : upd (upd (upd H1 D (.lst (lets (keysOf u)))) a (.tup (lets (keysOf u)))) x (.ins CM dx (f1 a)) x = some (.ins CM dx (f1 a)) := upd_same
      have ha3 : upd (upd (upd H1 D (.lst (lets (keysOf u)))) a (.tup (lets (keysOf u)))) x (.ins CM dx (f1 a)) a = some (.tup (lets (keysOf u))) := by rw [upd_ne (Ne.symm hxa), upd_same]
      have hr3 : upd (upd (upd H1 D (.lst (lets (keysOf u)))) a (.tup (lets (keysOf u)))) x (.ins CM dx (f1 a)) r = some (.dK (encT u)) := by rw [upd_ne hrx, upd_ne hra, upd_ne hrD]; exact hr1
      show tSeq _ _ _ _ (upd (upd (upd H1 D (.lst (lets (keysOf u)))) a (.tup (lets (keysOf u)))) x (.ins CM dx (f1 a)))
      generalize upd (upd (upd H1 D (.lst (lets (keysOf u)))) a (.tup (lets (keysOf u)))) x (.ins CM dx (f1 a)) = H3 at fr3 hx3 ha3 hr3 ⊢
      have naH : H a = none := by
        cases e : H a with
        | none => rfl
        | some o =>
          have e1 := sm _ _ e
          have e2 : upd H1 D (.lst (lets (keysOf u))) a = some o := by rw [upd_ne (ne_of_none e1 nD)]; exact e1
          rw [e2] at na
          cases na
      clear na nD hxD hxa hrD hra
      -- self._images
      refine ⟨_, rfl, x, CM, dx, _, _, rfl, hx3, T.cl, T.nL, f1_L a, a, rfl, ⟨_, .inl (.inl ha3)⟩, fun D2 nD2 => dc_it (walk_tup (K := K) (a := a) (xs := lets (keysOf u))) (fun i H4 => H4 = upd H3 D2 (.dK (encT (((keysOf u).take i).map fun c => (c, (lookT u c).getD []))))) rfl ?_ ?_ ?_⟩
      · rintro i H4 hi rfl
        exact .inl (.inl (by rw [upd_ne (ne_of_none ha3 nD2)]; exact ha3))
      · rintro i z H4 H4' hi rfl ⟨rfl, hz⟩
        obtain ⟨hik, rfl⟩ := lets_get hz
        obtain ⟨s, es⟩ := Option.isSome_iff_exists.mp (List.mem_filter.mp (List.getElem_mem hik)).2
        refine ⟨rfl, _, rfl, _, rfl, _, rfl, r, V.str (Sx s), rfl, .inl ⟨_, Sum.inr (L1 (keysOf u)[i]), .inl (by rw [upd_ne (ne_of_none hr3 nD2)]; exact hr3), rfl, by rw [valV_enc, es]; rfl⟩, _, Sum.inr (L1 (keysOf u)[i]), rfl, upd_same, ?_, ?_⟩
        · rw [encT_len, List.length_map, List.length_take]
          have := keysOf_len u
          exact small1000 (by omega)
        · rw [upd_upd, putK_enc]
          congr 3
          exact ims_succ (keysOf_nd u) hik (by rw [es]; rfl)
      · rintro H4 rfl
        rw [lets_len, List.take_length]
        have hxD2 : x ≠ D2 := ne_of_none hx3 nD2
        have haD2 : a ≠ D2 := ne_of_none ha3 nD2
        have hrD2 : r ≠ D2 := ne_of_none hr3 nD2
        refine ⟨_, rfl, x, CM, dx, f1 a, rfl, by rw [upd_ne hxD2]; exact hx3, T.cl, T.nI, f1_len a, ?_⟩
        have hax : a ≠ x := ne_of ha3 hx3 (fun z => nomatch z)
        have nbH : H D2 = none := by
          cases e : H D2 with
          | none => rfl
          | some o =>
            have e1 := fr3 _ _ e (Ne.symm hxD2)
            rw [e1] at nD2
            cases nD2
        have fr5 : ∀ b o, H b = some o → b ≠ x → upd (upd H3 D2 (.dK (encT (ims u)))) x (.ins CM dx (f2 a D2)) b = some o := fun b o e hb => by
          have e1 := fr3 b o e hb
          rw [upd_ne hb, upd_ne (ne_of_none e1 nD2)]
          exact e1
        have hx5 : upd (upd H3 D2 (.dK (encT (ims u)))) x (.ins CM dx (f2 a D2)) x = some (.ins CM dx (f2 a D2)) := upd_same
        have ha5 : upd (upd H3 D2 (.dK (encT (ims u)))) x (.ins CM dx (f2 a D2)) a = some (.tup (lets (keysOf u))) := by rw [upd_ne hax, upd_ne haD2]; exact ha3
        have hr5 : upd (upd H3 D2 (.dK (encT (ims u)))) x (.ins CM dx (f2 a D2)) r = some (.dK (encT u)) := by rw [upd_ne hrx, upd_ne hrD2]; exact hr3
        have hd5 : upd (upd H3 D2 (.dK (encT (ims u)))) x (.ins CM dx (f2 a D2)) D2 = some (.dK (encT (ims u))) := by rw [upd_ne (Ne.symm hxD2), upd_same]
        show Ends.nx _ _ (upd (upd H3 D2 (.dK (encT (ims u)))) x (.ins CM dx (f2 a D2)))
        generalize upd (upd H3 D2 (.dK (encT (ims u)))) x (.ins CM dx (f2 a D2)) = H5 at fr5 hx5 ha5 hr5 hd5 ⊢
        -- self.changed
        refine ⟨_, rfl, x, CM, dx, _, _, rfl, hx5, T.cl, T.nL, f2_L a D2, a, rfl, ⟨_, .inl (.inl ha5)⟩, fun D3 nD3 => lc_it (walk_tup (K := K) (a := a) (xs := lets (keysOf u))) (fun i H6 => H6 = upd H5 D3 (.lst (lets (((keysOf u).take i).filter fun c => decide (lookT u c ≠ some [c]))))) rfl ?_ ?_ ?_⟩
        · rintro i H6 hi rfl
          exact .inl (.inl (by rw [upd_ne (ne_of_none ha5 nD3)]; exact ha5))
        · rintro i z H6 H6' hi rfl ⟨rfl, hz⟩
          obtain ⟨hik, rfl⟩ := lets_get hz
          obtain ⟨s, es⟩ := Option.isSome_iff_exists.mp (List.mem_filter.mp (List.getElem_mem hik)).2
          refine ⟨rfl, _, rfl, _, rfl, r, V.str (Sx s), rfl, .inl ⟨_, Sum.inr (L1 (keysOf u)[i]), .inl (by rw [upd_ne (ne_of_none hr5 nD3)]; exact hr5), rfl, by rw [valV_enc, es]; rfl⟩, _, rfl, rfl, _, rfl, ?_⟩
          have hs := chg_succ (u := u) hik
          by_cases e : s = [(keysOf u)[i]]
          · have e1 : lookT u (keysOf u)[i] = some [(keysOf u)[i]] := by rw [es, e]
            rw [if_neg (by simp [e1]), List.append_nil] at hs
            rw [decide_eq_true (show V.str (Sx s) = V.str (L1 (keysOf u)[i]) by rw [e]; rfl)]
            refine iteF ?_
            rw [hs]
          · have e1 : ¬ lookT u (keysOf u)[i] = some [(keysOf u)[i]] := by
              rw [es]
              exact fun z => e (Option.some.inj z)
            rw [if_pos (by simpa using e1)] at hs
            rw [decide_eq_false (show ¬ V.str (Sx s) = V.str (L1 (keysOf u)[i]) from fun z => e (Sx_inj (V.str.inj z)))]
            refine iteT ?_
            refine ⟨_, rfl, _, upd_same, ?_, ?_⟩
            · rw [lets_len]
              have h1 := List.length_filter_le (fun c => decide (lookT u c ≠ some [c])) ((keysOf u).take i)
              have h2 := keysOf_len u
              have h3 : ((keysOf u).take i).length ≤ (keysOf u).length := by rw [List.length_take]; omega
              exact small1000 (by omega)
            · rw [upd_upd, hs, lets_snoc]
        · rintro H6 rfl
          rw [lets_len, List.take_length]
          refine ⟨D3, _, rfl, .inl ⟨SqL.of upd_same, fun c nc => ?_⟩⟩
          have hxD3 : x ≠ D3 := ne_of_none hx5 nD3
          have up : ∀ b o, H5 b = some o → upd (upd H5 D3 (.lst (lets (chg u)))) c (.tup (lets (chg u))) b = some o := fun b o e => by
            have hb := ne_of_none e nD3
            rw [upd_ne (ne_of_none (H := upd H5 D3 (.lst (lets (chg u)))) (o := o) (by rw [upd_ne hb]; exact e) nc), upd_ne hb]
            exact e
          have hxc : x ≠ c := ne_of_none (H := upd H5 D3 (.lst (lets (chg u)))) (o := .ins CM dx (f2 a D2)) (by rw [upd_ne hxD3]; exact hx5) nc
          refine ⟨_, rfl, x, CM, dx, f2 a D2, rfl, up _ _ hx5, T.cl, T.nC, f2_len a D2, ?_⟩
          have ncH : H c = none := by
            have nc' : upd H5 D3 (.lst (lets (chg u))) c = none := nc
            cases e : H c with
            | none => rfl
            | some o =>
              have e3 := fr5 _ _ e (Ne.symm hxc)
              have e2 : upd H5 D3 (.lst (lets (chg u))) c = some o := by
                rw [upd_ne (ne_of_none e3 nD3)]
                exact e3
              rw [e2] at nc'
              cases nc'
          have hD2x : D2 ≠ x := ne_of hd5 hx5 (fun z => nomatch z)
          refine q _ ⟨dx, a, D2, c, upd_same, ?_, ?_, ?_, naH, nbH, ncH⟩ fun b o e hb => ?_
          · rw [upd_ne hax]
            exact up _ _ ha5
          · rw [upd_ne hD2x]
            exact up _ _ hd5
          · rw [upd_ne (Ne.symm hxc)]
            exact upd_same
          · rw [upd_ne hb]
            exact up _ _ (fr5 b o e hb)
end
end V8

set_option Elab.async false
set_option linter.all false
set_option maxRecDepth 100000
set_option maxHeartbeats 8000000
/-! Misreading: in, len, iteration, [ ]. -/
namespace V8
open PySem PySem.Spec PyProof.Rows L2
theorem lookT_map (f : Nat → List Nat) (c : Nat) : ∀ ks : List Nat, lookT (ks.map fun c => (c, f c)) c = if c ∈ ks then some (f c) else none
  | [] => by rw [if_neg List.not_mem_nil]; rfl
  | k :: ks => by
    have ih := lookT_map f c ks
    unfold lookT at ih ⊢
    rw [List.map_cons, List.find?_cons]
    by_cases h : k = c
    · subst h
      simp
    · simp only [h, decide_false]
      have e : (c ∈ k :: ks) ↔ c ∈ ks := by
        simp [Ne.symm h]
      rw [ih]
      by_cases h2 : c ∈ ks
      · rw [if_pos h2, if_pos (e.mpr h2)]
      · rw [if_neg h2, if_neg (fun z => h2 (e.mp z))]
theorem look_ims (u : Tab) (c : Nat) : lookT (ims u) c = if c ∈ keysOf u then some ((lookT u c).getD []) else none := lookT_map _ c _
theorem keysOf_mem {u : Tab} {c : Nat} : c ∈ keysOf u ↔ c ∈ abc ∧ (lookT u c).isSome = true := List.mem_filter
theorem look_ims_some {u : Tab} {c : Nat} (h : c ∈ keysOf u) : lookT (ims u) c = lookT u c := by
  rw [look_ims, if_pos h]
  obtain ⟨s, e⟩ := Option.isSome_iff_exists.mp (keysOf_mem.mp h).2
  rw [e]
  rfl
structure Ty (K : PySem.W.Frag) (mg : Str → Option Value) (CM CJ : Addr) : Prop extends Tx K mg CM CJ where
  mM : PySem.W.kitOne K (.ref CM) (.ref CM) = some true
  MJ : PySem.W.kitOne K (.ref CM) (.ref CJ) = some false
  Ms : PySem.W.kitOne K (.ref CM) (.type "str") = some false
  ls : PySem.W.kitOne K (.type "list") (.type "str") = some false
def spIn (K : PySem.W.Frag) (CM : Addr) : Sp := fun vs H Q _ => ∃ (x : Addr) (u : Tab) (y : V), vs = [.ref x, y] ∧ MisAt CM H x u ∧ ((∃ c, y = .str (L1 c) ∧ Q (.bl (decide (c ∈ keysOf u))) H) ∨ (∃ z, y = .str z ∧ z.length ≤ sizeLine ∧ z.length ≠ 1 ∧ Q (.bl false) H) ∨
  (∃ t, TyX K H y t ∧ PySem.W.kitOne K t (.type "str") = some false ∧ Q (.bl false) H))
def spLen (CM : Addr) : Sp := fun vs H Q _ => ∃ (x : Addr) (u : Tab), vs = [.ref x] ∧ MisAt CM H x u ∧ Q (.int (keysOf u).length) H
def spGet (CM : Addr) : Sp := fun vs H Q _ => ∃ (x : Addr) (u : Tab) (c : Nat) (s : List Nat), vs = [.ref x, .str (L1 c)] ∧ MisAt CM H x u ∧ c ∈ keysOf u ∧ lookT u c = some s ∧ Q (.str (Sx s)) H
def snIter (CM : Addr) : Nat → Sp := fun n vs H Q _ => ∃ (x : Addr) (u : Tab), vs = [.ref x] ∧ MisAt CM H x u ∧ ∀ it a, H it = none → n ≤ it → H a = some (.tup (lets (keysOf u))) → Q (.ref it) (upd H it (ItT a it))
section
variable {P : Program} {w : World} {K : PySem.W.Frag} {mg : Str → Option Value} {base : Heap} {CM CJ : Addr}
theorem ok_in {f : Addr} {fd : FuncData} (F : Fun K "__contains__" "Misreading.__contains__" s_Misreading_contains f fd) (T : Tx K mg CM CJ) (D_is_letter : Df P w K mg base 1 "is_letter" (spIsLetter K)) : FnOk P w K mg base CX0 2 f fd ["self", "x"] (spIn K CM) := by
  refine F.ok sc_Misreading_contains (fun vs H Q E h => ?_) (fun cdv A outer s H vs Q E hr h => ?_)
  · obtain ⟨x, u, y, rfl, _⟩ := h
    rfl
  · obtain ⟨x, u, y, rfl, ⟨dx, a, b, c', hx, ha, hb, hc⟩, h⟩ := h
    refine ⟨_, (pss_one (ps_ret (pe_and (pe_c D_is_letter hr (by decide) (by rfl) (pa_cons (pv 1) pa_nil)) (pe_one (pe_cmp (pc_din (hu_of hr) (pv 1) (pe_fldK (K := K) rfl (pv 0) rfl)) rfl))))), ?_⟩
    rcases h with ⟨c, rfl, q⟩ | ⟨z, rfl, hz, h1, q⟩ | ⟨t, ty, e, q⟩
    · refine ⟨_, rfl, _, rfl, .inl ⟨c, rfl, _, rfl, ?_⟩⟩
      by_cases e : c ∈ abc
      · rw [decide_eq_true e]
        refine iteT ?_
        refine ⟨_, rfl, _, rfl, x, CM, dx, _, _, rfl, hx, T.cl, T.nI, f3_I a b c', b, _, rfl, DGet.k (k := Sum.inr (L1 c)) hb, ?_⟩
        rw [valV_enc, Option.isSome_map, look_ims]
        by_cases h : c ∈ keysOf u
        · rw [if_pos h]
          rw [decide_eq_true h] at q
          exact q
        · rw [if_neg h]
          rw [decide_eq_false h] at q
          exact q
      · rw [decide_eq_false e]
        refine iteF ?_
        rw [decide_eq_false (fun h => e (keysOf_mem.mp h).1)] at q
        exact q
    · refine ⟨_, rfl, _, rfl, .inr (.inl ⟨z, rfl, hz, h1, _, rfl, ?_⟩)⟩
      exact q
    · refine ⟨_, rfl, _, rfl, .inr (.inr ⟨t, ty, e, _, rfl, ?_⟩)⟩
      exact q
theorem ok_len {f : Addr} {fd : FuncData} (F : Fun K "__len__" "Misreading.__len__" s_Misreading_len f fd) (T : Tx K mg CM CJ) : FnOk P w K mg base CX0 1 f fd ["self"] (spLen CM) := by
  refine F.ok sc_Misreading_len (fun vs H Q E h => ?_) (fun cdv A outer s H vs Q E hr h => ?_)
  · obtain ⟨x, u, rfl, _⟩ := h
    rfl
  · obtain ⟨x, u, rfl, ⟨dx, a, b, c, hx, ha, hb, hc⟩, q⟩ := h
    refine ⟨_, (pss_one (ps_ret (pe_callB (call_len_seqK (K := K) rfl) (by rfl) T.len (by decide +kernel) (pa_cons (pe_fldK (K := K) rfl (pv 0) rfl) pa_nil)))), ?_⟩
    refine ⟨_, rfl, x, CM, dx, _, _, rfl, hx, T.cl, T.nL, f3_L a b c, a, _, rfl, .inr (.inl (.inl ha)), ?_⟩
    rw [lets_len]
    exact q
theorem ok_get {f : Addr} {fd : FuncData} (F : Fun K "__getitem__" "Misreading.__getitem__" s_Misreading_getitem f fd) (T : Tx K mg CM CJ) (D_is_letter : Df P w K mg base 1 "is_letter" (spIsLetter K)) : FnOk P w K mg base CX0 2 f fd ["self", "at"] (spGet CM) := by
  refine F.ok sc_Misreading_getitem (fun vs H Q E h => ?_) (fun cdv A outer s H vs Q E hr h => ?_)
  · obtain ⟨x, u, c, z, rfl, _⟩ := h
    rfl
  · obtain ⟨x, u, c, z, rfl, ⟨dx, a, b, c', hx, ha, hb, hc⟩, hm, hl, q⟩ := h
    refine ⟨_, (pss_cons (ps_if (pt_not (pt_val (pe_c D_is_letter hr (by decide) (by rfl) (pa_cons (pv 1) pa_nil))))
        (pss_one ps_never)
        pss_nil)
      (pss_cons (ps_if (pt_cmp (pc_dnotin (hu_of hr) (pv 1) (pe_fldK (K := K) rfl (pv 0) rfl)))
        (pss_one ps_never)
        pss_nil)
      (pss_one (ps_ret (pe_dget (hu_of hr) (pe_fldK (K := K) rfl (pv 0) rfl) (pv 1) (fun _ _ => rfl)))))), ?_⟩
    refine ⟨_, rfl, _, rfl, .inl ⟨c, rfl, ?_⟩⟩
    rw [decide_eq_true (keysOf_mem.mp hm).1]
    refine ⟨true, rfl, iteF ?_⟩
    refine ⟨_, rfl, _, rfl, x, CM, dx, _, _, rfl, hx, T.cl, T.nI, f3_I a b c', b, _, rfl, DGet.k (k := Sum.inr (L1 c)) hb, _, rfl, ?_⟩
    rw [valV_enc, Option.isSome_map, look_ims_some hm, hl]
    refine iteF ?_
    refine ⟨_, rfl, x, CM, dx, _, _, rfl, hx, T.cl, T.nI, f3_I a b c', _, rfl, b, V.str (Sx z), rfl, .inl ⟨_, Sum.inr (L1 c), .inl hb, rfl, by rw [valV_enc, look_ims_some hm, hl]; rfl⟩, ?_⟩
    exact q
end
end V8

set_option Elab.async false
set_option linter.all false
set_option maxRecDepth 100000
set_option maxHeartbeats 8000000
/-! Misreading: iteration, ==, str. -/
namespace V8
open PySem PySem.Spec PyProof.Rows L2
/-- the same images -/
def eqM (u v : Tab) : Prop := ∀ c ∈ abc, lookT u c = lookT v c
instance (u v : Tab) : Decidable (eqM u v) := inferInstanceAs (Decidable (∀ c ∈ abc, lookT u c = lookT v c))
theorem strs_enc (t : Tab) : Strs (encT t) := fun p hp => by
  obtain ⟨q, _, rfl⟩ := List.mem_map.mp hp
  exact ⟨_, rfl⟩
theorem keysOf_congr {u v : Tab} (h : eqM u v) : keysOf u = keysOf v := List.filter_congr fun c hc => by rw [h c hc]
theorem ims_len (u : Tab) : (ims u).length = (keysOf u).length := List.length_map ..
theorem sameD_ims (u v : Tab) : sameD (encT (ims u)) (encT (ims v)) = decide (eqM u v) := by
  unfold sameD
  rw [encT_len, encT_len, ims_len, ims_len]
  have e1 : ((encT (ims u)).all fun p => decide (valV (encT (ims v)) p.1 = some p.2)) = decide (∀ c ∈ keysOf u, lookT (ims v) c = lookT u c) := by
    rw [Bool.eq_iff_iff, List.all_eq_true, decide_eq_true_iff]
    constructor
    · intro h c hc
      obtain ⟨s, es⟩ := Option.isSome_iff_exists.mp (keysOf_mem.mp hc).2
      have hm : ((Sum.inr (L1 c) : Key), V.str (Sx s)) ∈ encT (ims u) := List.mem_map.mpr ⟨(c, (lookT u c).getD []), List.mem_map.mpr ⟨c, hc, rfl⟩, by rw [es]; rfl⟩
      have z := of_decide_eq_true (h _ hm)
      rw [valV_enc] at z
      cases e : lookT (ims v) c with
      | none =>
        rw [e] at z
        cases z
      | some s2 =>
        rw [e] at z
        have z2 : V.str (Sx s2) = V.str (Sx s) := Option.some.inj z
        rw [es, Sx_inj (V.str.inj z2)]
    · intro h p hp
      obtain ⟨q, hq, rfl⟩ := List.mem_map.mp hp
      obtain ⟨c, hc, rfl⟩ := List.mem_map.mp hq
      obtain ⟨s, es⟩ := Option.isSome_iff_exists.mp (keysOf_mem.mp hc).2
      rw [decide_eq_true_iff]
      show valV (encT (ims v)) (Sum.inr (L1 c)) = _
      rw [valV_enc, h c hc, es]
      rfl
  rw [e1]
  by_cases h : eqM u v
  · rw [decide_eq_true h, keysOf_congr h, beq_self_eq_true, Bool.true_and, decide_eq_true_iff]
    intro c hc
    have h2 := h c (keysOf_mem.mp hc).1
    rw [look_ims_some hc, h2]
  · rw [decide_eq_false h]
    rw [Bool.and_eq_false_iff]
    by_cases l : (keysOf u).length = (keysOf v).length
    · right
      rw [decide_eq_false]
      intro z
      refine h fun c hc => ?_
      have sub : ∀ c ∈ keysOf u, c ∈ keysOf v := fun c hc => by
        have e := z c hc
        rw [look_ims] at e
        by_cases m : c ∈ keysOf v
        · exact m
        · rw [if_neg m] at e
          have := (keysOf_mem.mp hc).2
          rw [← e] at this
          cases this
      have ek : (keysOf v).filter (fun c => (lookT u c).isSome) = keysOf u := by
        unfold keysOf
        rw [List.filter_filter]
        refine List.filter_congr fun c hc => ?_
        by_cases m : (lookT u c).isSome = true
        · have := (keysOf_mem.mp (sub c (keysOf_mem.mpr ⟨hc, m⟩))).2
          rw [m, this]
          rfl
        · rw [Bool.eq_false_iff.mpr m]
          rfl
      have es : (keysOf v).filter (fun c => (lookT u c).isSome) = keysOf v := List.filter_sublist.eq_of_length (by rw [ek, l])
      have ee : keysOf u = keysOf v := ek.symm.trans es
      by_cases m : c ∈ keysOf u
      · rw [← z c m, look_ims_some (ee ▸ m)]
      · have m2 : ¬ c ∈ keysOf v := ee ▸ m
        have n1 : lookT u c = none := by
          cases e : lookT u c with
          | none => rfl
          | some s => exact absurd (keysOf_mem.mpr ⟨hc, by rw [e]; rfl⟩) m
        have n2 : lookT v c = none := by
          cases e : lookT v c with
          | none => rfl
          | some s => exact absurd (keysOf_mem.mpr ⟨hc, by rw [e]; rfl⟩) m2
        rw [n1, n2]
    · left
      exact beq_eq_false_iff_ne.mpr l
def spEq (K : PySem.W.Frag) (CM : Addr) : Sp := fun vs H Q _ => ∃ (x : Addr) (u : Tab) (y : V), vs = [.ref x, y] ∧ MisAt CM H x u ∧ ((∃ z v, y = .ref z ∧ MisAt CM H z v ∧ Q (.bl (decide (eqM u v))) H) ∨ (∃ t, TyX K H y t ∧ PySem.W.kitOne K t (.ref CM) = some false ∧ Q (.bl false) H))
section
variable {P : Program} {w : World} {K : PySem.W.Frag} {mg : Str → Option Value} {base : Heap} {CM CJ : Addr}
theorem ok_iter {f : Addr} {fd : FuncData} (F : Fun K "__iter__" "Misreading.__iter__" s_Misreading_iter f fd) (T : Tx K mg CM CJ) : FnN P w K mg base CX0 1 f fd ["self"] (snIter CM) := by
  refine fnN_mk F sc_Misreading_iter (fun n vs H Q E h => ?_) (fun cdv A outer s H vs Q E hr h => ?_)
  · obtain ⟨x, u, rfl, _⟩ := h
    rfl
  · obtain ⟨x, u, rfl, ⟨dx, a, b, c, hx, ha, hb, hc⟩, q⟩ := h
    refine ⟨_, (pss_one (ps_ret (pe_callB call_iterT (by rfl) T.iter (by decide +kernel) (pa_cons (pe_fldK (K := K) rfl (pv 0) rfl) pa_nil)))), ?_⟩
    refine ⟨_, rfl, x, CM, dx, _, _, rfl, hx, T.cl, T.nL, f3_L a b c, a, _, rfl, .inl (.inl ha), fun it ni hi => ?_⟩
    exact q it a ni hi ha
theorem ok_eq {f : Addr} {fd : FuncData} (F : Fun K "__eq__" "Misreading.__eq__" s_Misreading_eq f fd) (T : Ty K mg CM CJ) : FnOk P w K mg base CX0 1 f fd ["self", "other"] (spEq K CM) := by
  refine F.ok sc_Misreading_eq (fun vs H Q E h => ?_) (fun cdv A outer s H vs Q E hr h => ?_)
  · obtain ⟨x, u, y, rfl, _⟩ := h
    rfl
  · obtain ⟨x, u, y, rfl, ⟨dx, a, b, c', hx, ha, hb, hc⟩, h⟩ := h
    refine ⟨_, (pss_one (ps_ret (pe_and (pe_callB call_isi (by rfl) T.isinstance (by decide +kernel) (pa_cons (pv 1) (pa_cons (pe_gv T.gMisreading (by rfl)) pa_nil))) (pe_one (pe_cmpR (op_eqDT (hu_of hr)) (pe_fldK (K := K) rfl (pv 0) rfl) (pe_fldK (K := K) rfl (pv 1) rfl) (nomark _)))))), ?_⟩
    rcases h with ⟨z, v, rfl, ⟨dx2, a2, b2, c2, hx2, ha2, hb2, hc2⟩, q⟩ | ⟨t, ty, e, q⟩
    · refine ⟨_, rfl, _, .ref CM, .ref CM, .ref CM, true, rfl, .own _, .base (.ins hx2 T.cl T.tA T.tB T.tC T.tD), T.mM, true, rfl, ?_⟩
      refine iteT ?_
      refine ⟨_, rfl, x, CM, dx, _, _, rfl, hx, T.cl, T.nI, f3_I a b c', _, rfl, z, CM, dx2, _, _, rfl, hx2, T.cl, T.nI, f3_I a2 b2 c2, b, b2, _, _, rfl, rfl, .inl hb, .inl hb2, strs_enc _, strs_enc _, ?_⟩
      rw [sameD_ims]
      exact q
    · refine ⟨_, rfl, y, .ref CM, t, .ref CM, false, rfl, .own _, ty, e, false, rfl, ?_⟩
      exact iteF q
end
end V8

set_option Elab.async false
set_option linter.all false
set_option maxRecDepth 100000
set_option maxHeartbeats 8000000
/-! The pen made; what is due. -/
namespace V8
open PySem PySem.Spec PyProof.Rows L2
def spPen (K : PySem.W.Frag) : Sp := fun vs H Q _ => ∃ (a : Addr) (ns : List Int), vs = [.ref a] ∧ SqL K H a (ns.map V.int) ∧ ns.length ≤ 63 ∧ ∀ (p l : Addr) (H' : Hp), H p = none → Same H H' → PenAt H' p l ns 1000000 → Q (.ref p) H'
section
variable {P : Program} {w : World} {K : PySem.W.Frag} {mg : Str → Option Value} {base : Heap} {CM CJ : Addr}
theorem ok_pen {f : Addr} {fd : FuncData} (F : Fun K "_law_pen" "_law_pen" s_pen f fd) (T : Blt mg) : FnOk P w K mg base CX0 1 f fd ["_law_script"] (spPen K) := by
  refine F.ok sc_pen (fun vs H Q E h => ?_) (fun cdv A outer s H vs Q E hr h => ?_)
  · obtain ⟨a, ns, rfl, _⟩ := h
    rfl
  · obtain ⟨a, ns, rfl, hS, hn, q⟩ := h
    refine ⟨_, (pss_one (ps_ret (pe_lst (pa_cons (pe_callTy (call_list_ofK (K := K) rfl) (by rfl) T.list (by decide +kernel) (pa_cons (pe_slice (sl_listK (K := K) rfl) (pv 0) po_none (po_some pe_int)) pa_nil)) (pa_cons pe_int (pa_cons pe_int pa_nil)))))), ?_⟩
    refine ⟨_, rfl, 63, rfl, a, ns.map V.int, rfl, hS, fun l1 n1 => ?_⟩
    have hc : cutV (ns.map V.int) none (some 63) = ns.map V.int := by
      have e : HT.sIx (ns.map V.int).length (ns.map V.int).length (some 63) = (ns.map V.int).length := by
        show HT.sIx _ _ (some ((63 : Nat) : Int)) = _
        rw [HT.sIx_nat, List.length_map]
        omega
      unfold cutV
      rw [HT.sIx_none, List.drop_zero, e]
      exact List.take_of_length_le (Nat.le_refl _)
    rw [hc]
    refine ⟨l1, ns.map V.int, rfl, .inl (SqL.of upd_same), fun l n2 => ⟨by show 3 ≤ sizeLine; decide, fun p n3 => ?_⟩⟩
    have h1 : l1 ≠ l := ne_of_none upd_same n2
    have hl : l ≠ p := ne_of_none upd_same n3
    have n2H : upd H l1 (.lst (ns.map V.int)) l = none := n2
    have sm : Same H (upd (upd (upd H l1 (.lst (ns.map V.int))) l (.lst (ns.map V.int))) p (.lst [.ref l, .int 0, .int 0])) := fun b o e => by
      have b1 := ne_of_none e n1
      have e1 : upd H l1 (.lst (ns.map V.int)) b = some o := by rw [upd_ne b1]; exact e
      have b2 := ne_of_none e1 n2
      have e2 : upd (upd H l1 (.lst (ns.map V.int))) l (.lst (ns.map V.int)) b = some o := by rw [upd_ne b2]; exact e1
      rw [upd_ne (ne_of_none e2 n3)]
      exact e2
    refine q p l _ ?_ sm ⟨⟨0, 0, upd_same, by omega, by omega, by omega⟩, by rw [upd_ne hl]; exact upd_same, hl, hn⟩
    cases e : H p with
    | none => rfl
    | some o =>
      have b1 := ne_of_none e n1
      have e1 : upd H l1 (.lst (ns.map V.int)) p = some o := by rw [upd_ne b1]; exact e
      have b2 := ne_of_none e1 n2
      rw [upd_ne b2, e1] at n3
      cases n3
end
end V8

set_option Elab.async false
set_option linter.all false
set_option maxRecDepth 100000
set_option maxHeartbeats 8000000
/-! Misreadings made by the class's name; same. -/
namespace V8
open PySem PySem.Spec PyProof.Rows L2
def mkR (CM : Addr) : List V → Hp → VK → Prop := fun vs H Q => ∃ (d : Addr) (cs st : List Nat) (t : Tab), vs = [.ref d, .str (Sx st)] ∧ H d = some (.dK (encT t)) ∧ GoodT cs t ∧ ((toldT st t).length ≤ 12 ∧ cs.length ≤ 26) ∧ (∀ c ∈ cs, isLt c) ∧ (∀ c ∈ st, c ∈ cs) ∧ st.length ≤ 500 ∧
  ∀ x H', H x = none → MisN CM H H' x (toldT st t) → Same H H' → Q (.ref x) H'
theorem misn_of {C : Addr} {H H' : Hp} {x dx : Addr} {u : Tab} {o o' : HO} (m : MisN C (upd (upd H dx o) x o') H' x u) (hx : H x = none) (hdx : H dx = none) : MisN C H H' x u := by
  obtain ⟨ex, a, b, c, h1, h2, h3, h4, n1, n2, n3⟩ := m.at_
  have back : ∀ b, upd (upd H dx o) x o' b = none → H b = none := fun b n => by
    cases e : H b with
    | none => rfl
    | some z =>
      rw [upd_ne (ne_of_none e hx), upd_ne (ne_of_none e hdx), e] at n
      cases n
  exact ⟨ex, a, b, c, h1, h2, h3, h4, back _ n1, back _ n2, back _ n3⟩
theorem mk_of {CM : Addr} {vs : List V} {H : Hp} {Q : VK} {E : XK} (h : mkR CM vs H Q) : ∀ x dx, H x = none → H dx = none → dx ≠ x → spInit CM (.ref x :: vs) (upd (upd H dx (.own x)) x (.ins CM dx [])) (fun v H2 => v = .non ∧ Q (.ref x) H2) E := by
  obtain ⟨d, cs, st, t, rfl, hd, G, h12, hlt, hst, hs5, q⟩ := h
  intro x dx hx hdx ne
  have hd2 : upd (upd H dx (.own x)) x (.ins CM dx []) d = some (.dK (encT t)) := by
    rw [upd_ne (ne_of_none hd hx), upd_ne (ne_of_none hd hdx)]
    exact hd
  refine ⟨x, dx, d, cs, st, t, rfl, upd_same, hd2, G, h12, hlt, hst, hs5, fun H' m fr => ⟨rfl, q x H' hx (misn_of m hx hdx) fun b o e => ?_⟩⟩
  have bx := ne_of_none e hx
  refine fr b o ?_ bx
  rw [upd_ne bx, upd_ne (ne_of_none e hdx)]
  exact e
def pI : List Str := ["self", "images", "keeps"]
/-- the class by its name -/
structure Mkr (P : Program) (w : World) (K : PySem.W.Frag) (mg : Str → Option Value) (base : Heap) (CM : Addr) : Prop where
  ex : ∃ (f : Addr) (fd : FuncData), Mk K CM f ∧ FnOk P w K mg base CX0 5 f fd pI (spInit CM) ∧ mg "Misreading" = some (.ref CM) ∧ Binds K fd pI [] ∧ (∃ ds, Vals [.str (Sx [])] ds ∧ Binds K fd pI ds) ∧
    KBn K fd pI 1 ["keeps", "images"] (fun us ws => us ++ ws.reverse) (fun vs zs => vs ++ zs.reverse) ∧ (∃ its : List Value, KBn K fd pI 1 ["images"] (fun us ws => us ++ ws ++ its) (fun vs zs => vs ++ zs ++ [.str (Sx [])])) ∧
    KBn K fd pI 2 ["keeps"] (fun us ws => us ++ ws) (fun vs zs => vs ++ zs)
def tMk2 (CM : Addr) (t : TA) : TE := fun σ H Q => t σ H fun vs H1 => mkR CM vs H1 Q
def tMk1 (CM : Addr) (t : TA) : TE := fun σ H Q => t σ H fun vs H1 => mkR CM (vs ++ [.str (Sx [])]) H1 Q
def tMkKI (CM : Addr) (tk : TA) : TE := fun σ H Q => tk σ H fun zs H1 => zs.length = 2 ∧ mkR CM zs.reverse H1 Q
def tMkI (CM : Addr) (tk : TA) : TE := fun σ H Q => tk σ H fun zs H1 => zs.length = 1 ∧ mkR CM (zs ++ [.str (Sx [])]) H1 Q
def tMk1K (CM : Addr) (t tk : TA) : TE := fun σ H Q => t σ H fun vs H1 => tk σ H1 fun zs H2 => vs.length = 1 ∧ zs.length = 1 ∧ mkR CM (vs ++ zs) H2 Q
section
variable {X : Cx} {j : Nat} {CM : Addr} {p pos : Pos} {e : Expr} {es : List Expr} {kws : List Keyword} {t tk : TA}
theorem pe_mk2 (M : Mkr X.prog X.w X.K X.mg X.base CM) (hr : Room j X.A) (hj : 6 ≤ j) (hg : Gl X "Misreading") (ha : PA X (e :: es) t) (he : starEach (e :: es) X.env = (false, eval e X.env) :: starEach es X.env := by rfl) (hpl : (backTo pos (starEach es X.env)).any (·.1) = false := by rfl) :
    PE X (.Call (.Name "Misreading" p) (e :: es) [] pos) (tMk2 CM t) := by
  obtain ⟨f, fd, M, F, hm, b0, b1, k2, k1, k11⟩ := M.ex
  refine ⟨fun pins s σ H Q I h => ?_⟩
  refine wpAny_Call_Name_kw (ld_glob I hg hm ?_ (by decide))
  refine PySem.W.callWith_K (h₀ := X.base) I.ok.mod.kin M.kp (thn (ha.run pos pins s σ H _ I h) fun us s1 ⟨vs, H1, I1, r, q⟩ => ⟨I1.kIn, ?_⟩) he hpl
  exact run_make (dvs := []) (ds := []) M F (hr.mono hj) b0 .nil pass0 I1 r (by rw [List.append_nil]; exact mk_of q)
theorem pe_mk1 (M : Mkr X.prog X.w X.K X.mg X.base CM) (hr : Room j X.A) (hj : 6 ≤ j) (hg : Gl X "Misreading") (ha : PA X (e :: es) t) (he : starEach (e :: es) X.env = (false, eval e X.env) :: starEach es X.env := by rfl) (hpl : (backTo pos (starEach es X.env)).any (·.1) = false := by rfl) :
    PE X (.Call (.Name "Misreading" p) (e :: es) [] pos) (tMk1 CM t) := by
  obtain ⟨f, fd, M, F, hm, b0, ⟨ds, hd, b1⟩, k2, k1, k11⟩ := M.ex
  refine ⟨fun pins s σ H Q I h => ?_⟩
  refine wpAny_Call_Name_kw (ld_glob I hg hm ?_ (by decide))
  refine PySem.W.callWith_K (h₀ := X.base) I.ok.mod.kin M.kp (thn (ha.run pos pins s σ H _ I h) fun us s1 ⟨vs, H1, I1, r, q⟩ => ⟨I1.kIn, ?_⟩) he hpl
  exact run_make M F (hr.mono hj) b1 hd pass0 I1 r (mk_of q)
theorem pe_mkKI (M : Mkr X.prog X.w X.K X.mg X.base CM) (hr : Room j X.A) (hj : 6 ≤ j) (hg : Gl X "Misreading") (hkw : PK X kws tk) (hall : (backToKw pos (keywordEach kws X.env)).all (·.1.isSome) = true := by rfl) (hks : (backToKw pos (keywordEach kws X.env)).filterMap (·.1) = (["keeps", "images"] : List Str) := by rfl)
    (hpl : ((backTo pos (starEach [] X.env)).any (·.1) || (backToKw pos (keywordEach kws X.env)).any (·.1.isNone)) = false := by rfl) : PE X (.Call (.Name "Misreading" p) [] kws pos) (tMkKI CM tk) := by
  obtain ⟨f, fd, M, F, hm, b0, b1, k2, k1, k11⟩ := M.ex
  refine ⟨fun pins s σ H Q I h => ?_⟩
  refine wpAny_Call_Name_kw (ld_glob I hg hm ?_ (by decide))
  refine PySem.W.callWith_KW0 (h₀ := X.base) I.ok.mod.kin M.kp hall ?_ hpl
  refine thn (hkw.run pos pins s σ H _ I h) fun ws s2 ⟨zs, H2, I2, rz, l2, q2⟩ => ⟨I2.kIn, ?_⟩
  rw [hks]
  exact run_makeK (us := []) (vs := []) M F (hr.mono hj) k2 pass0 I2 .nil rz rfl l2 (mk_of q2)
theorem pe_mkI (M : Mkr X.prog X.w X.K X.mg X.base CM) (hr : Room j X.A) (hj : 6 ≤ j) (hg : Gl X "Misreading") (hkw : PK X kws tk) (hall : (backToKw pos (keywordEach kws X.env)).all (·.1.isSome) = true := by rfl) (hks : (backToKw pos (keywordEach kws X.env)).filterMap (·.1) = (["images"] : List Str) := by rfl)
    (hpl : ((backTo pos (starEach [] X.env)).any (·.1) || (backToKw pos (keywordEach kws X.env)).any (·.1.isNone)) = false := by rfl) : PE X (.Call (.Name "Misreading" p) [] kws pos) (tMkI CM tk) := by
  obtain ⟨f, fd, M, F, hm, b0, b1, k2, ⟨its, k1⟩, k11⟩ := M.ex
  refine ⟨fun pins s σ H Q I h => ?_⟩
  refine wpAny_Call_Name_kw (ld_glob I hg hm ?_ (by decide))
  refine PySem.W.callWith_KW0 (h₀ := X.base) I.ok.mod.kin M.kp hall ?_ hpl
  refine thn (hkw.run pos pins s σ H _ I h) fun ws s2 ⟨zs, H2, I2, rz, l2, q2⟩ => ⟨I2.kIn, ?_⟩
  rw [hks]
  exact run_makeK (us := []) (vs := []) M F (hr.mono hj) k1 pass0 I2 .nil rz rfl l2 (mk_of q2)
theorem pe_mk1K (M : Mkr X.prog X.w X.K X.mg X.base CM) (hr : Room j X.A) (hj : 6 ≤ j) (hg : Gl X "Misreading") (ha : PA X (e :: es) t) (hkw : PK X kws tk) (hall : (backToKw pos (keywordEach kws X.env)).all (·.1.isSome) = true := by rfl) (hks : (backToKw pos (keywordEach kws X.env)).filterMap (·.1) = (["keeps"] : List Str) := by rfl)
    (he : starEach (e :: es) X.env = (false, eval e X.env) :: starEach es X.env := by rfl) (hpl : ((backTo pos (starEach (e :: es) X.env)).any (·.1) || (backToKw pos (keywordEach kws X.env)).any (·.1.isNone)) = false := by rfl) :
    PE X (.Call (.Name "Misreading" p) (e :: es) kws pos) (tMk1K CM t tk) := by
  obtain ⟨f, fd, M, F, hm, b0, b1, k2, k1, k11⟩ := M.ex
  refine ⟨fun pins s σ H Q I h => ?_⟩
  refine wpAny_Call_Name_kw (ld_glob I hg hm ?_ (by decide))
  refine PySem.W.callWith_KW (h₀ := X.base) I.ok.mod.kin M.kp hall (thn (ha.run pos pins s σ H _ I h) fun us s1 ⟨vs, H1, I1, r, q⟩ => ?_) hpl he
  refine thn (hkw.run pos pins s1 σ H1 _ I1 q) fun ws s2 ⟨zs, H2, I2, rz, l1, l2, q2⟩ => ⟨I2.kIn, ?_⟩
  rw [hks]
  exact run_makeK (n := 1) M F (hr.mono hj) k11 pass0 I2 r rz l1 l2 (mk_of q2)
end
theorem vals_rev : ∀ {xs : List V} {us : List Value}, Vals xs us → Vals xs.reverse us.reverse
  | _, _, .nil => .nil
  | _, _, .cons h r => by
    rw [List.reverse_cons, List.reverse_cons]
    exact (vals_rev r).append (.cons h .nil)
/-- what K holds of the def, as the rules above want it -/
theorem mkr_of {P : Program} {w : World} {K : PySem.W.Frag} {mg : Str → Option Value} {base : Heap} {CM CJ f : Addr} {fd : FuncData} (F : FunD K "__init__" "Misreading.__init__" (defArgs s_Misreading_init) (defBody s_Misreading_init) (defScope s_Misreading_init) [.str (Sx [])] [] f fd) (T : Tx K mg CM CJ)
    (D_told_images : Df P w K mg base 4 "told_images" spTold) (M : Mk K CM f) (hm : mg "Misreading" = some (.ref CM)) : Mkr P w K mg base CM := by
  refine ⟨f, fd, M, ok_init F T D_told_images, hm, ?_, ?_, ?_, ?_, ?_⟩
  · obtain ⟨ds, h1, h2⟩ := F.binds1 (ps := pI) 3 1 (fun z => nomatch z) rfl (fun T kV doc pm an cdv ct us its h1 h2 => match us, its, h1, h2 with | [_, _, _], [_], _, _ => ⟨_, rfl, rfl⟩)
    cases h1
    exact h2
  · obtain ⟨ds, h1, h2⟩ := F.binds1 (ps := pI) 2 0 (fun z => nomatch z) rfl (fun T kV doc pm an cdv ct us its h1 h2 => match us, its, h1, h2 with | [_, _], [_], _, _ => ⟨_, rfl, rfl⟩)
    exact ⟨ds, h1, h2⟩
  · obtain ⟨its, h⟩ := F.kbindsD (ps := pI) 1 ["keeps", "images"] (fun us _ ws => us ++ ws.reverse) (fun z => nomatch z) (fun r1 _ r3 => r1.append (vals_rev r3)) (fun T kV doc pm an cdv ct us its ws h1 h2 h3 => match us, its, ws, h1, h2, h3 with | [_], [_], [_, _], _, _, _ => ⟨_, rfl, rfl⟩)
    exact h
  · obtain ⟨its, h⟩ := F.kbindsD (ps := pI) 1 ["images"] (fun us ds ws => us ++ ws ++ ds) (fun z => nomatch z) (fun r1 r2 r3 => (r1.append r3).append r2) (fun T kV doc pm an cdv ct us its ws h1 h2 h3 => match us, its, ws, h1, h2, h3 with | [_], [_], [_], _, _, _ => ⟨_, rfl, rfl⟩)
    exact ⟨its, h⟩
  · obtain ⟨its, h⟩ := F.kbindsD (ps := pI) 2 ["keeps"] (fun us _ ws => us ++ ws) (fun z => nomatch z) (fun r1 _ r3 => r1.append r3) (fun T kV doc pm an cdv ct us its ws h1 h2 h3 => match us, its, ws, h1, h2, h3 with | [_, _], [_], [_], _, _, _ => ⟨_, rfl, rfl⟩)
    exact h
end V8

set_option Elab.async false
set_option linter.all false
set_option maxRecDepth 100000
set_option maxHeartbeats 16000000
/-! Helps: lists compared, lists gathered, an own class iterated. -/
namespace V8
open PySem PySem.Spec PyProof.Rows L2
theorem dp_map {K : PySem.W.Frag} {H : Hp} {α : Type} (f : α → V) (g : α → PyData) (h : ∀ a, Dp K H (f a) (g a)) : ∀ l : List α, DpAll K H (l.map f) (l.map g)
  | [] => .nil
  | a :: r => .cons (h a) (dp_map f g h r)
theorem lay_map {α : Type} (g : α → PyData) : ∀ l : List α, (∀ a ∈ l, (g a).canLay0 = true) → PyData.canLayAll0 (l.map g) = true
  | [], _ => by simp [PyData.canLayAll0]
  | a :: r, h => by
    have ih := lay_map g r fun x hx => h x (List.mem_cons_of_mem _ hx)
    simp only [List.map_cons, PyData.canLayAll0, h a (List.mem_cons_self ..), Bool.true_and]
    exact ih
theorem depth_map {α : Type} (g : α → PyData) (h : ∀ a, (g a).depth = 0) : ∀ l : List α, PyData.depthAll (l.map g) = 0
  | [] => by simp [PyData.depthAll]
  | a :: r => by
    have ih := depth_map g h r
    simp only [List.map_cons, PyData.depthAll, h a]
    omega
theorem shaped_map {α : Type} (g : α → PyData) (l : List α) (h1 : ∀ a ∈ l, (g a).canLay0 = true) (h2 : ∀ a, (g a).depth = 0) : SeqAt.shaped (.list (l.map g)) = true := by
  have h3 : PyData.depth (.list (l.map g)) ≤ 64 := by
    simp only [PyData.depth, depth_map g h2]
    omega
  show (PyData.canLay0 (.list (l.map g)) && decide (PyData.depth (.list (l.map g)) ≤ 64)) = true
  rw [Bool.and_eq_true]
  exact ⟨by simp only [PyData.canLay0]; exact lay_map g l h1, decide_eq_true h3⟩
theorem shaped_mapT {α : Type} (g : α → PyData) (l : List α) (h1 : ∀ a ∈ l, (g a).canLay0 = true) (h2 : ∀ a, (g a).depth = 0) : SeqAt.shaped (.tuple (l.map g)) = true := by
  have h3 : PyData.depth (.tuple (l.map g)) ≤ 64 := by
    simp only [PyData.depth, depth_map g h2]
    omega
  show (PyData.canLay0 (.tuple (l.map g)) && decide (PyData.depth (.tuple (l.map g)) ≤ 64)) = true
  rw [Bool.and_eq_true]
  exact ⟨by simp only [PyData.canLay0]; exact lay_map g l h1, decide_eq_true h3⟩
theorem lay_of {d : PyData} (h : SeqAt.shaped d = true) : d.canLay0 = true := by
  have h' : (PyData.canLay0 d && decide (PyData.depth d ≤ 64)) = true := h
  exact (Bool.and_eq_true _ _ ▸ h').1
section
variable {K : PySem.W.Frag} {H : Hp} {a b : Addr} {Q : VK} {CM : Addr} {u : Tab}
theorem ne_same {x y : V} {d : PyData} (hx : Dp K H x d) (hy : Dp K H y d) (sh : SeqAt.shaped d = true) (q : Q (.bl false) H) : rNeD K x y H Q := by
  refine ⟨d, d, hx, hy, sh, sh, ?_⟩
  rw [SeqAt.eqv_refl d (lay_of sh)]
  exact q
def dS : Str → PyData := PyData.str
theorem ne_strs {ss : List Str} (ok : ∀ z ∈ ss, PyData.strOk z = true) (ha : SqL K H a (ss.map V.str)) (hb : SqL K H b (ss.map V.str)) (q : Q (.bl false) H) : rNeD K (.ref a) (.ref b) H Q :=
  ne_same (.lst ha (dp_map _ PyData.str (fun s => .str s) ss)) (.lst hb (dp_map _ PyData.str (fun s => .str s) ss)) (shaped_map _ ss (fun z hz => by simp only [PyData.canLay0]; exact ok z hz) (fun _ => by simp [PyData.depth])) q
theorem ne_strsT {ss : List Str} (ok : ∀ z ∈ ss, PyData.strOk z = true) (ha : SqT K H a (ss.map V.str)) (hb : SqT K H b (ss.map V.str)) (q : Q (.bl false) H) : rNeD K (.ref a) (.ref b) H Q :=
  ne_same (.tup ha (dp_map _ PyData.str (fun s => .str s) ss)) (.tup hb (dp_map _ PyData.str (fun s => .str s) ss)) (shaped_mapT _ ss (fun z hz => by simp only [PyData.canLay0]; exact ok z hz) (fun _ => by simp [PyData.depth])) q
theorem ne_bls {ss : List Bool} (ha : SqL K H a (ss.map V.bl)) (hb : SqL K H b (ss.map V.bl)) (q : Q (.bl false) H) : rNeD K (.ref a) (.ref b) H Q :=
  ne_same (.lst ha (dp_map _ PyData.bool (fun s => .bl s) ss)) (.lst hb (dp_map _ PyData.bool (fun s => .bl s) ss)) (shaped_map _ ss (fun _ _ => by simp [PyData.canLay0]) (fun _ => by simp [PyData.depth])) q
theorem acc_ok {D : Addr} {zs : List V} {i : Nat} {y : V} (hz : zs[i]? = some y) (sm : zs.length < 1000) :
    ∃ acc, upd H D (.lst (zs.take i)) D = some (.lst acc) ∧ acc.length < sizeLine ∧ upd (upd H D (.lst (zs.take i))) D (.lst (acc ++ [y])) = upd H D (.lst (zs.take (i + 1))) := by
  refine ⟨_, upd_same, ?_, ?_⟩
  · rw [List.length_take]
    exact small1000 (by omega)
  · rw [upd_upd, List.take_add_one, hz]
    rfl
theorem same_put {H H' : Hp} {D : Addr} {o : HO} (s : Same H H') (n : H' D = none) : Same H (upd H' D o) := fun b u e => by
  rw [upd_ne (ne_of_none (s b u e) n)]
  exact s b u e
theorem same_over {H H' : Hp} {D : Addr} {o : HO} (s : Same H H') (n : H D = none) : Same H (upd H' D o) := fun b u e => by
  rw [upd_ne (ne_of_none e n)]
  exact s b u e
theorem same_none {H H' : Hp} {D : Addr} (s : Same H H') (n : H' D = none) : H D = none := by
  cases e : H D with
  | none => rfl
  | some o =>
    rw [s _ _ e] at n
    cases n
theorem MisAt.same {C : Addr} {H H' : Hp} {x : Addr} {u : Tab} (m : MisAt C H x u) (s : Same H H') : MisAt C H' x u := m.mono fun b o e _ => s b o e
theorem dropH_upd {H : Hp} {it : Addr} {o : HO} (n : H it = none) : ItX.dropH (upd H it o) it = H := by
  funext b
  unfold ItX.dropH
  by_cases h : b = it
  · rw [if_pos h, h, n]
  · rw [if_neg h, upd_ne h]
theorem own_mis {m i : Nat} {E : XK} {σ : L2.St} {R : It → Hp → Prop} {x : Addr} (hs : σ[i]? = some (some (.ref x))) (M : MisAt CM H x u) (h : ∀ a, H a = some (.tup (lets (keysOf u))) → R (Itt K a) H) : iOwn K CM m (snIter CM) E (tVar i) σ H R := by
  obtain ⟨dx, a, b, c, h1, h2, h3, h4⟩ := id M.at_
  refine ⟨_, hs, x, dx, _, rfl, h1, fun k hk => ⟨x, u, rfl, M, fun it a' ni hi ha => ⟨it, a', rfl, hi, upd_same, ?_⟩⟩⟩
  rw [dropH_upd ni]
  exact h a' ha
end
end V8

set_option Elab.async false
set_option linter.all false
set_option maxRecDepth 100000
set_option maxHeartbeats 8000000
/-! Misreading: str. -/
namespace V8
open PySem PySem.Spec PyProof.Rows L2
theorem sx_add (a b : List Nat) : Sx a ++ Sx b = Sx (a ++ b) := by
  show (Str.mk (a.toArray ++ b.toArray)) = Str.mk _
  rw [List.append_toArray]
theorem colon : (":" : Str) = Sx [58] := by decide +kernel
theorem emp : Str.empty = Sx [] := rfl
def wordM (c : Nat) (s : List Nat) : Str := Sx (c :: 58 :: s)
def wordsM (u : Tab) (ks : List Nat) : List Str := ks.map fun c => wordM c ((lookT u c).getD [])
def strM (u : Tab) : Str := if keysOf u = [] then "-" else Txt.join " " (wordsM u (keysOf u))
def SmallT (u : Tab) : Prop := ∀ c s, lookT u c = some s → s.length ≤ 64
def spStr (CM : Addr) : Sp := fun vs H Q _ => ∃ (x : Addr) (u : Tab), vs = [.ref x] ∧ MisAt CM H x u ∧ SmallT u ∧ ∀ H', Same H H' → Q (.str (strM u)) H'
theorem sum_le (f : Str → Nat) (k : Nat) : ∀ l : List Str, (∀ x ∈ l, f x ≤ k) → (l.map f).sum ≤ k * l.length
  | [], _ => Nat.le_refl _
  | a :: r, h => by
    rw [List.map_cons, List.sum_cons, List.length_cons]
    have h1 := h a (List.mem_cons_self ..)
    have h2 := sum_le f k r fun x hx => h x (List.mem_cons_of_mem _ hx)
    rw [Nat.mul_succ]
    omega
theorem lets_isEmpty (cs : List Nat) : (lets cs).isEmpty = cs.isEmpty := by cases cs <;> rfl
section
variable {P : Program} {w : World} {K : PySem.W.Frag} {mg : Str → Option Value} {base : Heap} {CM CJ : Addr}
theorem ok_str {f : Addr} {fd : FuncData} (F : Fun K "__str__" "Misreading.__str__" s_Misreading_str f fd) (T : Ty K mg CM CJ) : FnOk P w K mg base CX0 1 f fd ["self"] (spStr CM) := by
  refine F.ok sc_Misreading_str (fun vs H Q E h => ?_) (fun cdv A outer s H vs Q E hr h => ?_)
  · obtain ⟨x, u, rfl, _⟩ := h
    rfl
  · obtain ⟨x, u, rfl, ⟨dx, a, b, c', hx, ha, hb, hc⟩, sm, q⟩ := h
    refine ⟨_, (pss_cons (ps_if (pt_not (pt_truth (pe_fldK (K := K) rfl (pv 0) rfl) (by intro _; rfl)))
        (pss_one (ps_ret pe_str))
        pss_nil)
      (pss_one (ps_ret (pe_joinK (K := K) rfl pe_str (pe_lc (own := [("letter", 1)]) (g := gName 1) (by rfl) sc_Misreading_str.nd (pi_tup (pe_fldK (K := K) rfl (pv 0) rfl)) (blkOk_by (own := [("letter", 1)]) (N := n_Misreading_str) (sc := defScope s_Misreading_str) (by decide +kernel)) (fun _ _ _ _ _ => (pg_name (i := 1) sc_Misreading_str.nd rfl (.inl rfl))) (fun _ _ _ _ _ => pts_nil) (fun _ _ _ _ _ => (pe_joinedT (pj_cons (pe_fmt (pv 1)) (pj_cons pe_str (pj_cons (pe_fmt (pe_dget (hu_of hr) (pe_fldK (K := K) rfl (pv 0) rfl) (pv 1) (fun _ _ => rfl))) pj_nil)))))))))), ?_⟩
    refine ⟨_, rfl, x, CM, dx, _, _, rfl, hx, T.cl, T.nL, f3_L a b c', _, .inr (.inl ⟨_, .inl (.inl ha), rfl⟩), ?_⟩
    rw [lets_isEmpty]
    by_cases e : keysOf u = []
    · have es : strM u = "-" := if_pos e
      rw [e]
      refine iteT ?_
      show Q (V.str "-") H
      rw [← es]
      exact q H (Same.refl H)
    · have es : strM u = Txt.join " " (wordsM u (keysOf u)) := if_neg e
      have ee : (keysOf u).isEmpty = false := by
        cases h : keysOf u with
        | nil => exact absurd h e
        | cons a r => rfl
      rw [ee]
      refine iteF ?_
      refine ⟨⟨_, rfl⟩, _, rfl, x, CM, dx, _, _, rfl, hx, T.cl, T.nL, f3_L a b c', a, rfl, ⟨_, .inl (.inl ha)⟩, fun D nD => lc_it (walk_tup (K := K) (a := a) (xs := lets (keysOf u))) (fun i H2 => H2 = upd H D (.lst ((wordsM u ((keysOf u).take i)).map V.str))) rfl ?_ ?_ ?_⟩
      · rintro i H2 hi rfl
        exact .inl (.inl (by rw [upd_ne (ne_of_none ha nD)]; exact ha))
      · rintro i z H2 H2' hi rfl ⟨rfl, hz⟩
        obtain ⟨hik, rfl⟩ := lets_get hz
        obtain ⟨s2, e2⟩ := Option.isSome_iff_exists.mp (List.mem_filter.mp (List.getElem_mem hik)).2
        have hx2 : upd H D (.lst ((wordsM u ((keysOf u).take i)).map V.str)) x = some (.ins CM dx (f3 a b c')) := by rw [upd_ne (ne_of_none hx nD)]; exact hx
        have hb2 : upd H D (.lst ((wordsM u ((keysOf u).take i)).map V.str)) b = some (.dK (encT (ims u))) := by rw [upd_ne (ne_of_none hb nD)]; exact hb
        have s64 := sm _ _ e2
        have l1 : (Str.empty ++ L1 (keysOf u)[i]) = Sx [(keysOf u)[i]] := by rw [emp, L1_Sx, sx_add]; rfl
        have l2 : ((Str.empty ++ L1 (keysOf u)[i]) ++ (":" : Str)) = Sx [(keysOf u)[i], 58] := by rw [l1, colon, sx_add]; rfl
        have l3 : (((Str.empty ++ L1 (keysOf u)[i]) ++ (":" : Str)) ++ Sx s2) = wordM (keysOf u)[i] s2 := by rw [l2, sx_add]; rfl
        refine ⟨rfl, _, rfl, .inl ⟨L1 (keysOf u)[i], rfl, by show 1 ≤ sizeLine; decide, L1 (keysOf u)[i], rfl, ?_, _, rfl, ?_, ?_⟩⟩
        · rw [l1]
          show 1 ≤ sizeLine
          decide
        · rw [l2]
          show 2 ≤ sizeLine
          decide
        · refine ⟨_, rfl, x, CM, dx, _, _, rfl, hx2, T.cl, T.nI, f3_I a b c', _, rfl, b, V.str (Sx s2), rfl, .inl ⟨_, Sum.inr (L1 (keysOf u)[i]), .inl hb2, rfl, by rw [valV_enc, look_ims_some (List.getElem_mem hik), e2]; rfl⟩, .inl ⟨Sx s2, rfl, ?_, Sx s2, rfl, ?_, _, upd_same, ?_, ?_⟩⟩
          · rw [Sx_len]
            exact Nat.le_of_lt (small1000 (by omega))
          · rw [l3]
            show (Sx _).length ≤ _
            rw [Sx_len, List.length_cons, List.length_cons]
            exact Nat.le_of_lt (small1000 (by omega))
          · rw [List.length_map]
            unfold wordsM
            rw [List.length_map, List.length_take]
            have := keysOf_len u
            exact small1000 (by omega)
          · rw [upd_upd, l3]
            congr 2
            unfold wordsM
            rw [List.take_add_one, List.getElem?_eq_getElem hik, List.map_append, List.map_append]
            show _ ++ [V.str (wordM (keysOf u)[i] s2)] = _ ++ [V.str (wordM (keysOf u)[i] ((lookT u (keysOf u)[i]).getD []))]
            rw [e2]
            rfl
      · rintro H2 rfl
        rw [lets_len, List.take_length]
        refine ⟨_, D, wordsM u (keysOf u), rfl, rfl, .inl (SqL.of upd_same), ?_, ?_⟩
        · have hk := keysOf_len u
          have h1 : ((wordsM u (keysOf u)).map fun x => x.length).sum ≤ _ := sum_le (fun x => x.length) 66 (wordsM u (keysOf u)) fun x hx => by
            obtain ⟨c, hc, rfl⟩ := List.mem_map.mp hx
            obtain ⟨s2, e2⟩ := Option.isSome_iff_exists.mp (keysOf_mem.mp hc).2
            rw [e2]
            show (Sx _).length ≤ _
            rw [Sx_len, List.length_cons, List.length_cons]
            have := sm _ _ e2
            show s2.length + 1 + 1 ≤ _
            omega
          have h2 : (wordsM u (keysOf u)).length = (keysOf u).length := List.length_map ..
          rw [h2] at h1 ⊢
          show _ + _ * 1 ≤ _
          have h3 : 66 * (keysOf u).length ≤ 66 * 26 := Nat.mul_le_mul_left _ hk
          omega
        · rw [← es]
          exact q _ fun b o e => by
            rw [upd_ne (ne_of_none e nD)]
            exact e
end
end V8

set_option Elab.async false
set_option linter.all false
set_option maxRecDepth 100000
set_option maxHeartbeats 16000000
/-! Whether a misreading is right. -/
namespace V8
open PySem PySem.Spec PyProof.Rows L2
theorem lets_ss (ks : List Nat) : lets ks = (ks.map L1).map V.str := by
  rw [List.map_map]
  rfl
theorem ok_sx {cs : List Nat} (h : ∀ c ∈ cs, isLt c) : PyData.strOk (Sx cs) = true := by
  have e : (Sx cs).cps = cs.toArray := rfl
  unfold PyData.strOk
  rw [e, List.all_toArray, List.all_eq_true]
  intro c hc
  have := (h c hc).2
  exact decide_eq_true (show c < 0x110000 by omega)
theorem ok_lets {ks : List Nat} (h : ∀ c ∈ ks, isLt c) : ∀ z ∈ ks.map L1, PyData.strOk z = true := fun z hz => by
  obtain ⟨c, hc, rfl⟩ := List.mem_map.mp hz
  exact ok_sx (cs := [c]) fun a ha => by
    rw [List.mem_singleton.mp ha]
    exact h c hc
def imgS (u : Tab) (ks : List Nat) : List Str := ks.map fun c => Sx ((lookT u c).getD [])
theorem imgS_at {u : Tab} {ks : List Nat} {i : Nat} {s : List Nat} (hi : i < ks.length) (e : lookT u ks[i] = some s) : ((imgS u ks).map V.str)[i]? = some (.str (Sx s)) := by
  unfold imgS
  rw [List.getElem?_map, List.getElem?_map, List.getElem?_eq_getElem hi]
  show some (V.str (Sx ((lookT u ks[i]).getD []))) = _
  rw [e]
  rfl
theorem len_app (a b : Str) : (a ++ b).length = a.length + b.length := Array.size_append
theorem join_Sx : ∀ ss : List (List Nat), Txt.join Str.empty (ss.map Sx) = Sx ss.flatten := by
  intro ss
  rw [TL.join_eq]
  have h : TL.tl (Str.join Str.empty (ss.map Sx)) = ss.flatten := by
    rw [TL.tl_join]
    have : ∀ l : List (List Nat), TL.joinL (TL.tl Str.empty) ((l.map Sx).map TL.tl) = l.flatten := by
      intro l
      induction l with
      | nil => rfl
      | cons c r ih =>
        cases r with
        | nil =>
          show TL.tl (Sx c) = [c].flatten
          simp
          rfl
        | cons d r =>
          show TL.tl (Sx c) ++ (TL.tl Str.empty ++ TL.joinL (TL.tl Str.empty) ((((d :: r).map Sx).map TL.tl))) = _
          rw [ih]
          rfl
    exact this ss
  have e2 : (Str.join Str.empty (ss.map Sx)).cps.toList = ss.flatten := h
  show Str.join Str.empty (ss.map Sx) = Sx _
  unfold Sx at e2 ⊢
  cases hx : Str.join Str.empty (ss.map fun cs => (⟨cs.toArray⟩ : Str)) with
  | mk a =>
    rw [hx] at e2
    have e3 : a.toList = ss.flatten := e2
    rw [← e3]
/-- iteration of the class's own -/
structure ItM (P : Program) (w : World) (K : PySem.W.Frag) (mg : Str → Option Value) (base : Heap) (k : Nat) (C : Addr) (sn : Nat → Sp) : Prop where
  ex : ∃ (f : Addr) (fd : FuncData) (ps : List Str), FnN P w K mg base CX0 k f fd ps sn ∧ Own K C "__iter__" f ∧ Binds K fd ps []
theorem pi_ownI {X : Cx} {k j : Nat} {C : Addr} {sn : Nat → Sp} {tg l : Expr} {tl : TE} (c : ItM X.prog X.w X.K X.mg X.base k C sn) (hr : Room j X.A) (hk : k ≤ j) (hl : PE X l tl) : PI X tg l (iOwn X.K C X.s_0.heap.objs.size sn E0 tl) := by
  obtain ⟨f, fd, ps, F, o, b⟩ := c.ex
  exact pi_own F b pass0 o (hr.mono hk) hl
end V8

set_option Elab.async false
set_option linter.all false
set_option maxRecDepth 100000
set_option maxHeartbeats 16000000
/-! same; whether a misreading is equal to what has the same images, and to nothing else. -/
namespace V8
open PySem PySem.Spec PyProof.Rows L2
def spSame (CM : Addr) : Sp := fun vs H Q _ => ∃ (cs st : List Nat), vs = [.str (Sx st)] ∧ cs.length ≤ 12 ∧ (∀ c ∈ cs, isLt c) ∧ (∀ c ∈ st, c ∈ cs) ∧ st.length ≤ 500 ∧ ∀ x H', H x = none → MisAt CM H' x (toldT st []) → Same H H' → Q (.ref x) H'
structure Sms (P : Program) (w : World) (K : PySem.W.Frag) (mg : Str → Option Value) (base : Heap) (CM : Addr) : Prop where
  ex : ∃ (p g : Addr) (fd : FuncData) (mc : Value), ClX.CRead K CM mc ∧ SMet K CM mc "same" p g ∧ FnOk P w K mg base CX0 7 g fd ["letters"] (spSame CM) ∧ Binds K fd ["letters"] [] ∧ KBinds K fd ["letters"] ["letters"] (fun us ws => us ++ ws) (fun vs zs => vs ++ zs)
section
variable {X : Cx} {j : Nat} {CM : Addr} {o e : Expr} {es : List Expr} {pos apos : Pos} {ta : TE} {t : TA} {pl : Sem Bool}
theorem pe_sm (c : Sms X.prog X.w X.K X.mg X.base CM) (hr : Room j X.A) (hj : 7 ≤ j) (he : PE X o ta) (ha : PA X (e :: es) t)
    (hst : starEach (e :: es) X.env = (false, eval e X.env) :: starEach es X.env := by rfl) (hpl : (backTo pos (starEach es X.env)).any (·.1) = false := by rfl)
    (ht : eval (.Call (.Attribute o "same" apos) (e :: es) [] pos) X.env = (do
      let ov ← eval o X.env
      standAt apos.atName
      let (f, first) ← holding [ov] (getMethod ov "same" pl)
      callWith pos f first (backTo pos (starEach (e :: es) X.env)) (backToKw pos (keywordEach [] X.env))) := by rfl) :
    PE X (.Call (.Attribute o "same" apos) (e :: es) [] pos) (tSMeth CM (spSame CM) E0 ta t) := by
  obtain ⟨p, g, fd, mc, r, m, F, b, kb⟩ := c.ex
  exact pe_smeth (pl := pl) he r m F (hr.mono hj) b pass0 ha hst hpl ht
theorem pe_smK {kws : List Keyword} {tk : TA} (c : Sms X.prog X.w X.K X.mg X.base CM) (hr : Room j X.A) (hj : 7 ≤ j) (he : PE X o ta) (hkw : PK X kws tk)
    (hall : (backToKw pos (keywordEach kws X.env)).all (·.1.isSome) = true := by rfl) (hks : (backToKw pos (keywordEach kws X.env)).filterMap (·.1) = (["letters"] : List Str) := by rfl)
    (hpl : ((backTo pos (starEach [] X.env)).any (·.1) || (backToKw pos (keywordEach kws X.env)).any (·.1.isNone)) = false := by rfl)
    (ht : eval (.Call (.Attribute o "same" apos) [] kws pos) X.env = (do
      let ov ← eval o X.env
      standAt apos.atName
      let (f, first) ← holding [ov] (getMethod ov "same" pl)
      callWith pos f first (backTo pos (starEach [] X.env)) (backToKw pos (keywordEach kws X.env))) := by rfl) :
    PE X (.Call (.Attribute o "same" apos) [] kws pos) (tSMethK CM (spSame CM) (fun vs zs => vs ++ zs) E0 ta tk) := by
  obtain ⟨p, g, fd, mc, r, m, F, b, kb⟩ := c.ex
  exact pe_smethK0 (pl := pl) he r m F (hr.mono hj) kb pass0 hkw hall hks hpl ht
end
/-! ### tables -/
theorem putT_new {t : Tab} {c : Nat} {s : List Nat} (h : c ∉ t.map (·.1)) : putT t c s = t ++ [(c, s)] := by
  unfold putT
  rw [if_neg]
  intro z
  obtain ⟨q, hq, e⟩ := List.any_eq_true.mp z
  have e' : q.1 = c := by simpa using e
  exact h (List.mem_map.mpr ⟨q, hq, e'⟩)
theorem mergeT_app : ∀ {t a : Tab}, ((a ++ t).map (·.1)).Nodup → mergeT a t = a ++ t
  | [], a, _ => by rw [List.append_nil]; rfl
  | q :: t, a, h => by
    have hq : q.1 ∉ a.map (·.1) := by
      rw [List.map_append, List.nodup_append] at h
      intro z
      exact h.2.2 _ z q.1 (by simp) rfl
    show mergeT (putT a q.1 q.2) t = _
    rw [putT_new hq, mergeT_app (t := t) (a := a ++ [(q.1, q.2)])]
    · rw [List.append_assoc]
      rfl
    · rw [List.append_assoc]
      exact h
theorem mergeT_nil {t : Tab} (h : (t.map (·.1)).Nodup) : mergeT [] t = t := mergeT_app (a := []) h
theorem toldT_nil {t : Tab} (h : (t.map (·.1)).Nodup) : toldT [] t = t := mergeT_nil h
theorem look_mem : ∀ {t : Tab} {c : Nat} {s : List Nat}, (t.map (·.1)).Nodup → (c, s) ∈ t → lookT t c = some s := by
  intro t c s nd h
  obtain ⟨i, hi, e⟩ := List.getElem_of_mem h
  have z := look_at nd hi
  rw [e] at z
  exact z
theorem look_ext {t t' : Tab} (n : (t.map (·.1)).Nodup) (n' : (t'.map (·.1)).Nodup) (h : ∀ q, q ∈ t ↔ q ∈ t') (c : Nat) : lookT t c = lookT t' c := by
  cases e : lookT t c with
  | some s => exact (look_mem n' ((h _).mp (look_in e))).symm
  | none =>
    cases e' : lookT t' c with
    | none => rfl
    | some s =>
      rw [look_mem n ((h _).mpr (look_in e'))] at e
      cases e
theorem rev_nd {t : Tab} (n : (t.map (·.1)).Nodup) : (t.reverse.map (·.1)).Nodup := by
  rw [List.map_reverse]
  exact (List.reverse_perm _).nodup_iff.mpr n
theorem look_rev {t : Tab} (n : (t.map (·.1)).Nodup) (c : Nat) : lookT t.reverse c = lookT t c := look_ext (rev_nd n) n (fun q => List.mem_reverse) c
theorem GoodT.rev {cs : List Nat} {t : Tab} (g : GoodT cs t) : GoodT cs t.reverse := ⟨rev_nd g.nd, fun q h => g.key q (List.mem_reverse.mp h), fun q h => g.img q (List.mem_reverse.mp h)⟩
def dropT (t : Tab) (c : Nat) : Tab := t.filter fun q => decide (q.1 ≠ c)
theorem GoodT.drop {cs : List Nat} {t : Tab} (g : GoodT cs t) (c : Nat) : GoodT cs (dropT t c) := ⟨(List.filter_sublist.map _).nodup g.nd, fun q h => g.key q (List.mem_filter.mp h).1, fun q h => g.img q (List.mem_filter.mp h).1⟩
theorem look_drop (t : Tab) (c : Nat) : lookT (dropT t c) c = none := by
  cases e : lookT (dropT t c) c with
  | none => rfl
  | some s =>
    have := (List.mem_filter.mp (look_in e)).2
    simp at this
theorem enc_inj {a b : Option (List Nat)} (h : a.map (fun s => V.str (Sx s)) = b.map fun s => V.str (Sx s)) : a = b := by
  cases a with
  | none =>
    cases b with
    | none => rfl
    | some y => cases h
  | some x =>
    cases b with
    | none => cases h
    | some y => rw [Sx_inj (V.str.inj (Option.some.inj h))]
theorem look_put (t : Tab) (c : Nat) (s : List Nat) (c' : Nat) : lookT (putT t c s) c' = if c' = c then some s else lookT t c' := by
  have e := valV_put (encT t) (Sum.inr (L1 c)) (Sum.inr (L1 c')) (V.str (Sx s))
  rw [putK_enc, valV_enc, valV_enc] at e
  refine enc_inj ?_
  rw [e]
  by_cases h : c' = c
  · rw [if_pos h, if_pos ((key_iff _ _).mpr h)]
    rfl
  · rw [if_neg h, if_neg fun z => h ((key_iff _ _).mp z)]
theorem drop_enc (t : Tab) (c : Nat) : dropK (encT t) (Sum.inr (L1 c)) = encT (dropT t c) := by
  unfold dropK encT dropT
  rw [List.filter_map]
  congr 1
  refine List.filter_congr fun q _ => ?_
  show decide ((Sum.inr (L1 q.1) : Key) ≠ Sum.inr (L1 c)) = decide (q.1 ≠ c)
  by_cases h : q.1 = c
  · rw [h]
    simp
  · rw [decide_eq_true h, decide_eq_true]
    exact fun z => h ((key_iff _ _).mp z)
theorem eqM_symm {u v : Tab} (h : eqM u v) : eqM v u := fun c hc => (h c hc).symm
theorem fr_same {p : Addr} {H H' : Hp} (s : Same H H') : Fr p H H' := fun b o e _ => s b o e
theorem pen_same {H H' : Hp} {p l : Addr} {ns : List Int} {n : Nat} (P : PenAt H p l ns n) (s : Same H H') : PenAt H' p l ns n := by
  obtain ⟨⟨a, g, h1, h2, h3, h4⟩, i, e, sh⟩ := P
  exact ⟨⟨a, g, s _ _ h1, h2, h3, h4⟩, s _ _ i, e, sh⟩
theorem mis_fr {C : Addr} {H H' : Hp} {x p l : Addr} {u : Tab} {ns : List Int} {n : Nat} (m : MisAt C H x u) (P : PenAt H p l ns n) (f : Fr p H H') : MisAt C H' x u := m.mono fun b o e hl => f b o e fun z => by
  obtain ⟨xs, hp⟩ := P.pen
  rw [z] at e
  rw [hp] at e
  exact hl xs (Option.some.inj e).symm
section
variable {P : Program} {w : World} {K : PySem.W.Frag} {mg : Str → Option Value} {base : Heap} {CM CJ : Addr}
theorem ok_same {f : Addr} {fd : FuncData} (F : Fun K "same" "Misreading.same" s_Misreading_same f fd) (T : Ty K mg CM CJ) (D_mk : Mkr P w K mg base CM) : FnOk P w K mg base CX0 7 f fd ["letters"] (spSame CM) := by
  refine F.ok sc_Misreading_same (fun vs H Q E h => ?_) (fun cdv A outer s H vs Q E hr h => ?_)
  · obtain ⟨cs, st, rfl, _⟩ := h
    rfl
  · obtain ⟨cs, st, rfl, h12, hlt, hst, hs5, q⟩ := h
    refine ⟨_, (pss_one (ps_ret (pe_mk2 D_mk hr (by decide) (by rfl) (pa_cons pe_dnewK (pa_cons (pv 0) pa_nil))))), ?_⟩
    refine fun d nd => ⟨_, rfl, d, cs, st, [], rfl, upd_same, GoodT.nil, ⟨Nat.le_trans (toldT_good hst hlt GoodT.nil).len h12, by omega⟩, hlt, hst, hs5, fun x H' nx m sm => ?_⟩
    exact q x H' (same_none (s := same_put (s := fun _ _ e => e) nd) nx) m.mis (fun b o e => sm b o (by rw [upd_ne (ne_of_none e nd)]; exact e))
theorem nf_self {K : PySem.W.Frag} {C : Addr} : PySem.W.notFirst K C (.ref C) = true := by
  unfold PySem.W.notFirst
  simp
theorem MisAt.ins {C : Addr} {H : Hp} {x : Addr} {u : Tab} (m : MisAt C H x u) : ∃ dx fs, H x = some (.ins C dx fs) := by
  obtain ⟨dx, a, b, c, h, _⟩ := m.at_
  exact ⟨dx, _, h⟩
/-- two misreadings compared -/
theorem eq_mis (T : Ty K mg CM CJ) {H : Hp} {Q : VK} {g : Bool → Bool} {x y : Addr} {u v : Tab} (mx : MisAt CM H x u) (my : MisAt CM H y v) (q : Q (.bl (g (decide (eqM u v)))) H) : rEqOwn K CM (spEq K CM) E0 g (.ref x) (.ref y) H Q := by
  obtain ⟨dx, fs, hx⟩ := mx.ins
  obtain ⟨dy, gs, hy⟩ := my.ins
  exact ⟨x, dx, fs, .ref CM, rfl, hx, .base (.ins hy T.cl T.tA T.tB T.tC T.tD), nf_self, x, u, .ref y, rfl, mx, .inl ⟨y, v, rfl, my, _, rfl, q⟩⟩
theorem eq_else {H : Hp} {Q : VK} {g : Bool → Bool} {x : Addr} {u : Tab} {y : V} {t : Value} (mx : MisAt CM H x u) (ty : TyX K H y t) (nf : PySem.W.notFirst K CM t = true) (kt : PySem.W.kitOne K t (.ref CM) = some false) (q : Q (.bl (g false)) H) : rEqOwn K CM (spEq K CM) E0 g (.ref x) y H Q := by
  obtain ⟨dx, fs, hx⟩ := mx.ins
  exact ⟨x, dx, fs, t, rfl, hx, ty, nf, x, u, y, rfl, mx, .inr ⟨t, ty, kt, _, rfl, q⟩⟩
end
end V8

set_option Elab.async false
set_option linter.all false
set_option maxRecDepth 100000
set_option maxHeartbeats 8000000
/-! Misreadings as functions from letters to images. -/
namespace V8
open PySem PySem.Spec PyProof.Rows L2
/-! functions from letters to images -/
abbrev Fu := Nat → Option (List Nat)
def imF (f : Fu) : List Nat → Option (List Nat)
  | [] => some []
  | c :: cs => (f c).bind fun a => (imF f cs).map (a ++ ·)
theorem imF_app (f : Fu) : ∀ a b : List Nat, imF f (a ++ b) = (imF f a).bind fun x => (imF f b).map (x ++ ·)
  | [], b => by
    show imF f b = (imF f b).map ([] ++ ·)
    cases imF f b <;> rfl
  | c :: a, b => by
    show (f c).bind (fun z => (imF f (a ++ b)).map (z ++ ·)) = ((f c).bind fun z => (imF f a).map (z ++ ·)).bind _
    rw [imF_app f a b]
    cases f c with
    | none => rfl
    | some z =>
      cases imF f a with
      | none => rfl
      | some x =>
        cases imF f b with
        | none => rfl
        | some y =>
          show some (z ++ (x ++ y)) = some ((z ++ x) ++ y)
          rw [List.append_assoc]
def cF (f g : Fu) : Fu := fun c => (f c).bind (imF g)
theorem imF_cF (f g : Fu) : ∀ w : List Nat, imF (cF f g) w = (imF f w).bind (imF g)
  | [] => rfl
  | c :: w => by
    show ((f c).bind (imF g)).bind (fun a => (imF (cF f g) w).map (a ++ ·)) = ((f c).bind fun a => (imF f w).map (a ++ ·)).bind (imF g)
    rw [imF_cF f g w]
    cases f c with
    | none => rfl
    | some z =>
      cases h : imF f w with
      | none =>
        show (imF g z).bind (fun a => Option.map (a ++ ·) none) = none
        cases imF g z <;> rfl
      | some x =>
        show (imF g z).bind (fun a => (imF g x).map (a ++ ·)) = imF g (z ++ x)
        rw [imF_app]
theorem cF_assoc (f g h : Fu) : cF (cF f g) h = cF f (cF g h) := by
  funext c
  show ((f c).bind (imF g)).bind (imF h) = (f c).bind (imF (cF g h))
  cases f c with
  | none => rfl
  | some z => exact (imF_cF g h z).symm
/-- letters that stay -/
def idF (cs : List Nat) : Fu := fun c => if c ∈ cs then some [c] else none
theorem imF_id {cs : List Nat} : ∀ {w : List Nat}, (∀ c ∈ w, c ∈ cs) → imF (idF cs) w = some w
  | [], _ => rfl
  | c :: w, h => by
    show (if c ∈ cs then some [c] else none).bind (fun a => (imF (idF cs) w).map (a ++ ·)) = _
    rw [if_pos (h c (List.mem_cons_self ..)), imF_id fun x hx => h x (List.mem_cons_of_mem _ hx)]
    rfl
/-- over letters cs alone, in images too -/
structure Ovr (cs : List Nat) (f : Fu) : Prop where
  key : ∀ c s, f c = some s → c ∈ cs
  img : ∀ c s, f c = some s → ∀ d ∈ s, d ∈ cs
theorem cF_id {cs : List Nat} {f : Fu} (o : Ovr cs f) : cF f (idF cs) = f := by
  funext c
  show (f c).bind (imF (idF cs)) = f c
  cases h : f c with
  | none => rfl
  | some s => exact imF_id (o.img c s h)
theorem cF_id' {cs : List Nat} {f : Fu} (o : Ovr cs f) : cF (idF cs) f = f := by
  funext c
  show (if c ∈ cs then some [c] else none).bind (imF f) = f c
  by_cases h : c ∈ cs
  · rw [if_pos h]
    show (f c).bind (fun a => (some []).map (a ++ ·)) = f c
    cases f c with
    | none => rfl
    | some s =>
      show some (s ++ []) = some s
      rw [List.append_nil]
  · rw [if_neg h]
    cases e : f c with
    | none => rfl
    | some s => exact absurd (o.key c s e) h
theorem imF_over {cs : List Nat} {f : Fu} (o : Ovr cs f) : ∀ {w s : List Nat}, imF f w = some s → ∀ d ∈ s, d ∈ cs
  | [], s, h, d, hd => by
    cases Option.some.inj h
    cases hd
  | c :: w, s, h, d, hd => by
    have h' : (f c).bind (fun a => (imF f w).map (a ++ ·)) = some s := h
    cases e : f c with
    | none =>
      rw [e] at h'
      cases h'
    | some z =>
      cases e2 : imF f w with
      | none =>
        rw [e, e2] at h'
        cases h'
      | some x =>
        rw [e, e2] at h'
        have h3 : z ++ x = s := Option.some.inj h'
        rw [← h3] at hd
        rcases List.mem_append.mp hd with q | q
        · exact o.img c z e d q
        · exact imF_over o e2 d q
theorem Ovr.comp {cs : List Nat} {f g : Fu} (o : Ovr cs f) (p : Ovr cs g) : Ovr cs (cF f g) := by
  refine ⟨fun c s h => ?_, fun c s h d hd => ?_⟩
  · have h' : (f c).bind (imF g) = some s := h
    cases e : f c with
    | none =>
      rw [e] at h'
      cases h'
    | some z => exact o.key c z e
  · have h' : (f c).bind (imF g) = some s := h
    cases e : f c with
    | none =>
      rw [e] at h'
      cases h'
    | some z =>
      rw [e] at h'
      exact imF_over p h' d hd
/-- images of at most n letters -/
def Bnd (n : Nat) (f : Fu) : Prop := ∀ c s, f c = some s → s.length ≤ n
theorem imF_len {n : Nat} {f : Fu} (b : Bnd n f) : ∀ {w s : List Nat}, imF f w = some s → s.length ≤ n * w.length
  | [], s, h => by
    cases Option.some.inj h
    exact Nat.zero_le _
  | c :: w, s, h => by
    have h' : (f c).bind (fun a => (imF f w).map (a ++ ·)) = some s := h
    cases e : f c with
    | none =>
      rw [e] at h'
      cases h'
    | some z =>
      cases e2 : imF f w with
      | none =>
        rw [e, e2] at h'
        cases h'
      | some x =>
        rw [e, e2] at h'
        have h3 : z ++ x = s := Option.some.inj h'
        have h1 := b c z e
        have h2 := imF_len b e2
        rw [← h3, List.length_append, List.length_cons, Nat.mul_succ]
        omega
theorem Bnd.comp {a b : Nat} {f g : Fu} (hf : Bnd a f) (hg : Bnd b g) : Bnd (b * a) (cF f g) := fun c s h => by
  have h' : (f c).bind (imF g) = some s := h
  cases e : f c with
  | none =>
    rw [e] at h'
    cases h'
  | some z =>
    rw [e] at h'
    exact Nat.le_trans (imF_len hg h') (Nat.mul_le_mul_left _ (hf c z e))
theorem Bnd.le {a b : Nat} {f : Fu} (h : Bnd a f) (l : a ≤ b) : Bnd b f := fun c s e => Nat.le_trans (h c s e) l
theorem Bnd.id {cs : List Nat} : Bnd 1 (idF cs) := fun c s h => by
  have h' : (if c ∈ cs then some [c] else none) = some s := h
  by_cases e : c ∈ cs
  · rw [if_pos e] at h'
    cases Option.some.inj h'
    exact Nat.le_refl _
  · rw [if_neg e] at h'
    cases h'
theorem Ovr.id {cs : List Nat} : Ovr cs (idF cs) := by
  refine ⟨fun c s h => ?_, fun c s h d hd => ?_⟩ <;>
  · have h' : (if c ∈ cs then some [c] else none) = some s := h
    by_cases e : c ∈ cs
    · first
      | exact e
      | rw [if_pos e] at h'
        cases Option.some.inj h'
        rw [List.mem_singleton.mp hd]
        exact e
    · rw [if_neg e] at h'
      cases h'
/-- powers -/
def pF (f : Fu) : Nat → Fu
  | 0 => f
  | n + 1 => cF (pF f n) f
theorem pF_id {cs : List Nat} : ∀ n, pF (idF cs) n = idF cs
  | 0 => rfl
  | n + 1 => by
    show cF (pF (idF cs) n) (idF cs) = _
    rw [pF_id n, cF_id Ovr.id]
/-- cut to the letters of a text -/
def oF (f : Fu) (w : List Nat) : Fu := fun c => if c ∈ w then f c else none
theorem imF_oF (f : Fu) (w : List Nat) : ∀ {ws : List Nat}, (∀ c ∈ ws, c ∈ w) → imF (oF f w) ws = imF f ws
  | [], _ => rfl
  | c :: ws, h => by
    show (if c ∈ w then f c else none).bind (fun a => (imF (oF f w) ws).map (a ++ ·)) = (f c).bind (fun a => (imF f ws).map (a ++ ·))
    rw [if_pos (h c (List.mem_cons_self ..)), imF_oF f w fun x hx => h x (List.mem_cons_of_mem _ hx)]
theorem oF_oF (f : Fu) (w : List Nat) : oF (oF f w) w = oF f w := by
  funext c
  show (if c ∈ w then (if c ∈ w then f c else none) else none) = if c ∈ w then f c else none
  by_cases h : c ∈ w
  · rw [if_pos h]
  · rw [if_neg h, if_neg h]
theorem oF_all {cs : List Nat} {f : Fu} (o : Ovr cs f) : oF f cs = f := by
  funext c
  show (if c ∈ cs then f c else none) = f c
  by_cases h : c ∈ cs
  · rw [if_pos h]
  · rw [if_neg h]
    cases e : f c with
    | none => rfl
    | some s => exact absurd (o.key c s e) h
theorem oF_nil (f : Fu) : oF f [] = fun _ => none := by
  funext c
  show (if c ∈ ([] : List Nat) then f c else none) = none
  rw [if_neg List.not_mem_nil]
theorem oF_twice (f : Fu) (w : List Nat) : oF f (w ++ w) = oF f w := by
  funext c
  show (if c ∈ w ++ w then f c else none) = if c ∈ w then f c else none
  by_cases h : c ∈ w
  · rw [if_pos h, if_pos (List.mem_append_left _ h)]
  · rw [if_neg h, if_neg fun z => (List.mem_append.mp z).elim h h]
theorem Bnd.only {n : Nat} {f : Fu} (b : Bnd n f) (w : List Nat) : Bnd n (oF f w) := fun c s h => by
  have h' : (if c ∈ w then f c else none) = some s := h
  by_cases e : c ∈ w
  · rw [if_pos e] at h'
    exact b c s h'
  · rw [if_neg e] at h'
    cases h'
theorem Ovr.only {cs : List Nat} {f : Fu} (o : Ovr cs f) (w : List Nat) : Ovr cs (oF f w) := by
  have h : ∀ c s, oF f w c = some s → f c = some s := fun c s h => by
    have h' : (if c ∈ w then f c else none) = some s := h
    by_cases e : c ∈ w
    · rw [if_pos e] at h'
      exact h'
    · rw [if_neg e] at h'
      cases h'
  exact ⟨fun c s e => o.key c s (h c s e), fun c s e => o.img c s (h c s e)⟩
/-- each letter of the one has the same image by the other -/
def leF (f g : Fu) : Prop := ∀ c s, f c = some s → g c = some s
theorem oF_le (f : Fu) (w : List Nat) : leF (oF f w) f := fun c s h => by
  have h' : (if c ∈ w then f c else none) = some s := h
  by_cases e : c ∈ w
  · rw [if_pos e] at h'
    exact h'
  · rw [if_neg e] at h'
    cases h'
theorem cF_le {f f' : Fu} (g : Fu) (h : leF f f') : leF (cF f g) (cF f' g) := fun c s e => by
  have e' : (f c).bind (imF g) = some s := e
  show (f' c).bind (imF g) = some s
  cases z : f c with
  | none =>
    rw [z] at e'
    cases e'
  | some x =>
    rw [h c x z]
    rw [z] at e'
    exact e'
/-- both together -/
def uF (f g : Fu) : Fu := fun c => (g c).orElse fun _ => f c
theorem uF_le {f g : Fu} (h : leF f g) : uF f g = g := by
  funext c
  show (g c).orElse (fun _ => f c) = g c
  cases e : g c with
  | some s => rfl
  | none =>
    show f c = none
    cases e2 : f c with
    | none => rfl
    | some s =>
      rw [h c s e2] at e
      cases e
theorem imF_none {f : Fu} : ∀ {w : List Nat}, imF f w = none ↔ ∃ c ∈ w, f c = none
  | [] => by
    constructor
    · intro h
      cases h
    · rintro ⟨c, h, _⟩
      cases h
  | c :: w => by
    have ih := imF_none (f := f) (w := w)
    show (f c).bind (fun a => (imF f w).map (a ++ ·)) = none ↔ _
    cases e : f c with
    | none => exact ⟨fun _ => ⟨c, List.mem_cons_self .., e⟩, fun _ => rfl⟩
    | some z =>
      constructor
      · intro h
        cases e2 : imF f w with
        | some x =>
          rw [e2] at h
          cases h
        | none =>
          obtain ⟨d, h1, h2⟩ := ih.mp e2
          exact ⟨d, List.mem_cons_of_mem _ h1, h2⟩
      · rintro ⟨d, h1, h2⟩
        rcases List.mem_cons.mp h1 with q | q
        · rw [q, e] at h2
          cases h2
        · rw [ih.mpr ⟨d, q, h2⟩]
          rfl
theorem imF_some {f : Fu} : ∀ {w : List Nat}, (∀ c ∈ w, (f c).isSome = true) → imF f w = some ((w.map fun c => (f c).getD []).flatten)
  | [], _ => rfl
  | c :: w, h => by
    show (f c).bind (fun a => (imF f w).map (a ++ ·)) = _
    rw [imF_some fun x hx => h x (List.mem_cons_of_mem _ hx)]
    have h1 := h c (List.mem_cons_self ..)
    cases e : f c with
    | none =>
      rw [e] at h1
      cases h1
    | some z =>
      show some (z ++ _) = _
      rw [List.map_cons, List.flatten_cons, e]
      rfl

/-! what a Misreading's table tells -/
def lk (u : Tab) : Fu := fun c => if c ∈ abc then lookT u c else none
theorem lk_mem {u : Tab} {c : Nat} : c ∈ keysOf u ↔ (lk u c).isSome = true := by
  rw [keysOf_mem]
  show _ ↔ (if c ∈ abc then lookT u c else none).isSome = true
  by_cases h : c ∈ abc
  · rw [if_pos h]
    exact ⟨fun z => z.2, fun z => ⟨h, z⟩⟩
  · rw [if_neg h]
    exact ⟨fun z => absurd z.1 h, fun z => by cases z⟩
theorem lk_look {u : Tab} {c : Nat} (h : c ∈ keysOf u) : lookT u c = lk u c := by
  show _ = (if c ∈ abc then lookT u c else none)
  rw [if_pos (keysOf_mem.mp h).1]
theorem lk_some {u : Tab} {c : Nat} {s : List Nat} (h : lk u c = some s) : c ∈ keysOf u ∧ lookT u c = some s := by
  have m : c ∈ keysOf u := lk_mem.mpr (by rw [h]; rfl)
  exact ⟨m, (lk_look m).trans h⟩
theorem lk_not {u : Tab} {c : Nat} (h : c ∉ keysOf u) : lk u c = none := by
  cases e : lk u c with
  | none => rfl
  | some s => exact absurd (lk_some e).1 h
theorem eqM_lk {u v : Tab} : eqM u v ↔ lk u = lk v := by
  constructor
  · intro h
    funext c
    show (if c ∈ abc then lookT u c else none) = (if c ∈ abc then lookT v c else none)
    by_cases m : c ∈ abc
    · rw [if_pos m, if_pos m, h c m]
    · rw [if_neg m, if_neg m]
  · intro h c m
    have e := congrFun h c
    have e' : (if c ∈ abc then lookT u c else none) = (if c ∈ abc then lookT v c else none) := e
    rw [if_pos m, if_pos m] at e'
    exact e'
theorem lk_nil : lk [] = fun _ => none := by
  funext c
  show (if c ∈ abc then lookT [] c else none) = none
  by_cases m : c ∈ abc
  · rw [if_pos m]
    rfl
  · rw [if_neg m]
theorem keys_abc {u : Tab} {c : Nat} (h : c ∈ keysOf u) : c ∈ abc := (keysOf_mem.mp h).1
/-- a table told over letters cs -/
theorem good_over {cs : List Nat} {t : Tab} (g : GoodT cs t) : Ovr cs (lk t) := ⟨fun c s h => g.key _ (look_in (lk_some h).2), fun c s h => (g.img _ (look_in (lk_some h).2)).2.2⟩
theorem good_bnd {cs : List Nat} {t : Tab} (g : GoodT cs t) : Bnd 4 (lk t) := fun c s h => (g.img _ (look_in (lk_some h).2)).2.1
theorem imF_look {u : Tab} {cs : List Nat} (h : ∀ c ∈ cs, c ∈ keysOf u) : imF (lk u) cs = some ((cs.map fun c => (lookT u c).getD []).flatten) := by
  rw [imF_some fun c hc => lk_mem.mp (h c hc)]
  have e : (cs.map fun c => (lk u c).getD []) = cs.map fun c => (lookT u c).getD [] := List.map_congr_left fun c hc => by rw [lk_look (h c hc)]
  rw [e]
theorem imF_keys {u : Tab} {cs r : List Nat} (h : imF (lk u) cs = some r) : ∀ c ∈ cs, c ∈ keysOf u := fun c hc => by
  by_cases m : c ∈ keysOf u
  · exact m
  · have e := imF_none.mpr ⟨c, hc, lk_not m⟩
    rw [h] at e
    cases e
theorem imF_bar {u : Tab} {cs : List Nat} (h : imF (lk u) cs = none) : ¬ ∀ c ∈ cs, c ∈ keysOf u := fun z => by
  rw [imF_look z] at h
  cases h
/-- tables put together letter by letter -/
theorem look_app {t : Tab} {c : Nat} {s : List Nat} (h : c ∉ t.map (·.1)) (c' : Nat) : lookT (t ++ [(c, s)]) c' = if c' = c then some s else lookT t c' := by
  rw [← putT_new h, look_put]
/-- the table that f makes of the letters ks -/
def mkT (f : Fu) (ks : List Nat) : Tab := ks.filterMap fun c => (f c).map fun s => (c, s)
theorem mkT_keys (f : Fu) (ks : List Nat) : ∀ c ∈ (mkT f ks).map (·.1), c ∈ ks := fun c h => by
  obtain ⟨q, hq, rfl⟩ := List.mem_map.mp h
  obtain ⟨d, hd, e⟩ := List.mem_filterMap.mp hq
  cases z : f d with
  | none =>
    rw [z] at e
    cases e
  | some s =>
    rw [z] at e
    have e' : (d, s) = q := Option.some.inj e
    rw [← e']
    exact hd
theorem mkT_len (f : Fu) (ks : List Nat) : (mkT f ks).length ≤ ks.length := List.length_filterMap_le _ _
theorem mkT_snoc (f : Fu) (ks : List Nat) (c : Nat) : mkT f (ks ++ [c]) = mkT f ks ++ (match f c with | some s => [(c, s)] | none => []) := by
  unfold mkT
  rw [List.filterMap_append]
  congr 1
  cases e : f c with
  | none => simp [e]
  | some s => simp [e]
theorem look_cons (k : Nat) (s : List Nat) (t : Tab) (c : Nat) : lookT ((k, s) :: t) c = if k = c then some s else lookT t c := by
  unfold lookT
  rw [List.find?_cons]
  by_cases h : k = c
  · rw [if_pos h]
    simp [h]
  · rw [if_neg h]
    simp [h]
theorem mkT_cons (f : Fu) (k : Nat) (ks : List Nat) : mkT f (k :: ks) = (match f k with | some s => [(k, s)] | none => []) ++ mkT f ks := by
  unfold mkT
  rw [List.filterMap_cons]
  cases e : f k with
  | none => rfl
  | some s => rfl
theorem mkT_look (f : Fu) : ∀ {ks : List Nat}, ks.Nodup → ∀ c, lookT (mkT f ks) c = if c ∈ ks then f c else none
  | [], _, c => by rw [if_neg List.not_mem_nil]; rfl
  | k :: ks, nd, c => by
    have nd1 := List.nodup_cons.mp nd
    have ih' := mkT_look f nd1.2 c
    rw [mkT_cons]
    cases e : f k with
    | none =>
      show lookT (mkT f ks) c = _
      rw [ih']
      by_cases h2 : c = k
      · rw [h2, if_neg nd1.1, if_pos (List.mem_cons_self ..), e]
      · by_cases h : c ∈ ks
        · rw [if_pos h, if_pos (List.mem_cons_of_mem _ h)]
        · rw [if_neg h, if_neg (fun z => (List.mem_cons.mp z).elim h2 h)]
    | some s =>
      show lookT ((k, s) :: mkT f ks) c = _
      rw [look_cons, ih']
      by_cases h2 : k = c
      · rw [if_pos h2, ← h2, if_pos (List.mem_cons_self ..), e]
      · rw [if_neg h2]
        by_cases h : c ∈ ks
        · rw [if_pos h, if_pos (List.mem_cons_of_mem _ h)]
        · rw [if_neg h, if_neg (fun z => (List.mem_cons.mp z).elim (fun y => h2 y.symm) h)]
theorem mkT_lk {f : Fu} {ks : List Nat} (nd : ks.Nodup) (h : ∀ c s, f c = some s → c ∈ ks ∧ c ∈ abc) : lk (mkT f ks) = f := by
  funext c
  show (if c ∈ abc then lookT (mkT f ks) c else none) = f c
  rw [mkT_look f nd]
  cases e : f c with
  | none => by_cases a : c ∈ abc <;> by_cases b : c ∈ ks <;> simp [a, b, e]
  | some s =>
    obtain ⟨a, b⟩ := h c s e
    rw [if_pos b, if_pos a]
theorem keys12 {u : Tab} {n : Nat} (h : (keysOf u).length ≤ n) (f : Fu) : (mkT f (keysOf u)).length ≤ n := Nat.le_trans (mkT_len _ _) h
end V8

set_option Elab.async false
set_option linter.all false
set_option maxRecDepth 100000
set_option maxHeartbeats 4000000
/-! Signs of an own class by its own methods, by an address; a ** k. -/
namespace L2
open PySem PySem.Spec PyProof.Rows
/-- an own method that a sign of two calls -/
structure Bo (P : Program) (w : World) (K : PySem.W.Frag) (mg : Str → Option Value) (base : Heap) (k : Nat) (C : Addr) (m : Str) (sp : Sp) : Prop where
  ex : ∃ (f : Addr) (fd : FuncData) (ps : List Str), FnOk P w K mg base CX0 k f fd ps sp ∧ Binds K fd ps [] ∧ PySem.W.findIn K (.ref C) m = some (some (.ref f)) ∧ PySem.W.isFn K (.ref f) = true ∧ PySem.W.selfFirst K C = true
/-- what the sign of the power asks of int -/
structure IntP (K : PySem.W.Frag) (C : Addr) : Prop where
  rp : PySem.W.findIn K (.ref C) "__rpow__" = some none
  h1 : ∃ fo, PySem.W.findIn K (.type "int") "__pow__" = some fo
  h2 : ∃ ro, PySem.W.findIn K (.type "int") "__rpow__" = some ro
  sub : PySem.W.subIn K (.type "int") (.ref C) = some false
def rPowOwn (K : PySem.W.Frag) (C : Addr) (sp : Sp) (E : XK) : R2 := fun x y H Q => ∃ a dx fs i, x = .ref a ∧ H a = some (.ins C dx fs) ∧ y = .int i ∧ sp [.ref a, .int i] H Q E
section
variable {X : Cx} {k j : Nat} {C : Addr} {sp : Sp}
theorem op_bin {op : Operator} {m : Str} (c : Bo X.prog X.w X.K X.mg X.base k C m sp) (hr : Room j X.A) (hk : k ≤ j) (hm : PySem.dunder op.info.2 = m := by rfl) : OpR X (binaryOp op) (rBinOwn X.K C sp E0) := by
  obtain ⟨f, fd, ps, F, b, h1, h2, h3⟩ := c.ex
  subst hm
  exact op_binOwn F b pass0 h1 h2 h3 (hr.mono hk)
theorem op_powO {m : Str} (c : Bo X.prog X.w X.K X.mg X.base k C m sp) (ip : IntP X.K C) (hr : Room j X.A) (hk : k ≤ j) (hm : PySem.dunder (Operator.info .Pow).2 = m := by rfl) : OpR X (binaryOp .Pow) (rPowOwn X.K C sp E0) := by
  obtain ⟨f, fd, ps, F, b, h1, h2, h3⟩ := c.ex
  subst hm
  intro pins s σ H x y v u Q I rx ry h
  obtain ⟨a, dx, fs, i, rfl, ha, rfl, hsp⟩ := h
  obtain rfl : v = Value.ref a := rx
  obtain ⟨od, J⟩ := inst_at I ha
  obtain ⟨m, hF⟩ := I.fr
  obtain ⟨fo, e1⟩ := ip.h1
  obtain ⟨ro, e2⟩ := ip.h2
  have hb : typeOf u = pure (.type "int") := by
    obtain ⟨t, rfl⟩ := (show ∃ t, u = Value.int i t from ry)
    rfl
  refine PySem.W.ksp_binT hF I.ok.mod.kin J hb h3 h1 h2 ip.rp (.inl rfl) e1 e2 ip.sub (thn (run_own (Sub.here (hr.mono hk)) F b pass0 I (show Vals [V.ref a, V.int i] [Value.ref a, u] from .cons rfl (.cons ry .nil)) hsp) fun r s' q => ?_)
  obtain ⟨z, H', I', rz, q⟩ := q
  exact notNI rz ⟨z, H', I', rz, q⟩
theorem pe_mt {pl : Sem Bool} {m : Str} {o e : Expr} {es : List Expr} {apos pos : Pos} {ta : TE} {t : TA} (c : Cls X.K C) (D : Mf X.prog X.w X.K X.mg X.base k C m sp) (hr : Room j X.A) (hk : k ≤ j) (he : PE X o ta) (ha : PA X (e :: es) t)
    (hst : starEach (e :: es) X.env = (false, eval e X.env) :: starEach es X.env := by rfl) (hpl : (backTo pos (starEach es X.env)).any (·.1) = false := by rfl)
    (ht : eval (.Call (.Attribute o m apos) (e :: es) [] pos) X.env = (do
      let ov ← eval o X.env
      standAt apos.atName
      let (f, first) ← holding [ov] (getMethod ov m pl)
      callWith pos f first (backTo pos (starEach (e :: es) X.env)) (backToKw pos (keywordEach [] X.env))) := by rfl) :
    PE X (.Call (.Attribute o m apos) (e :: es) [] pos) (tMeth C m sp [] E0 ta t) := by
  obtain ⟨f, fd, ps, F, hm, _, _, b⟩ := D.ex
  exact pe_meth (pl := pl) he c hm F (hr.mono hk) b .nil pass0 ha hst hpl ht
theorem op_leM (c : Bo X.prog X.w X.K X.mg X.base k C "__le__" sp) (hr : Room j X.A) (hk : k ≤ j) : OpR X (compareOp .LtE) (rLeOwn X.K C sp E0) := by
  obtain ⟨f, fd, ps, F, b, h1, h2, h3⟩ := c.ex
  exact op_leOwn F b pass0 ⟨h1, h2⟩ (hr.mono hk)
end
end L2

set_option Elab.async false
set_option linter.all false
set_option maxRecDepth 100000
set_option maxHeartbeats 8000000
/-! The program's small tests; a Misreading of what other ones have joined. -/
namespace V8
open PySem PySem.Spec PyProof.Rows L2
abbrev s_check_text : Stmt := topS 22
abbrev n_check_text : List Str := ["value"]
theorem sc_check_text : FnScope ["value"] ["value"] (defScope s_check_text) := ⟨rfl, rfl, rfl, by decide +kernel, rfl, by decide +kernel, by decide +kernel⟩
abbrev s_bounded : Stmt := topS 23
abbrev n_bounded : List Str := ["string"]
theorem sc_bounded : FnScope ["string"] ["string"] (defScope s_bounded) := ⟨rfl, rfl, rfl, by decide +kernel, rfl, by decide +kernel, by decide +kernel⟩
abbrev s_check_other : Stmt := topS 33
abbrev n_check_other : List Str := ["other"]
theorem sc_check_other : FnScope ["other"] ["other"] (defScope s_check_other) := ⟨rfl, rfl, rfl, by decide +kernel, rfl, by decide +kernel, by decide +kernel⟩
abbrev s_is_integer : Stmt := topS 20
abbrev n_is_integer : List Str := ["value"]
theorem sc_is_integer : FnScope ["value"] ["value"] (defScope s_is_integer) := ⟨rfl, rfl, rfl, by decide +kernel, rfl, by decide +kernel, by decide +kernel⟩
abbrev s_is_between : Stmt := topS 21
abbrev n_is_between : List Str := ["value", "least", "most"]
theorem sc_is_between : FnScope ["value", "least", "most"] ["value", "least", "most"] (defScope s_is_between) := ⟨rfl, rfl, rfl, by decide +kernel, rfl, by decide +kernel, by decide +kernel⟩
abbrev s_Joined_init : Stmt := inClass (topS 28) 0
abbrev n_Joined_init : List Str := ["self", "images"]
theorem sc_Joined_init : FnScope ["self", "images"] ["self", "images"] (defScope s_Joined_init) := ⟨rfl, rfl, rfl, by decide +kernel, rfl, by decide +kernel, by decide +kernel⟩
abbrev s_Misreading_first_barred : Stmt := inClass (topS 29) 7
abbrev n_Misreading_first_barred : List Str := ["self", "text", "at", "letter"]
theorem sc_Misreading_first_barred : FnScope ["self", "text", "at", "letter"] ["self", "text"] (defScope s_Misreading_first_barred) := ⟨rfl, rfl, rfl, by decide +kernel, rfl, by decide +kernel, by decide +kernel⟩
abbrev s_Misreading_image : Stmt := inClass (topS 29) 8
abbrev n_Misreading_image : List Str := ["self", "text", "letter"]
theorem sc_Misreading_image : FnScope ["self", "text", "letter"] ["self", "text"] (defScope s_Misreading_image) := ⟨rfl, rfl, rfl, by decide +kernel, rfl, by decide +kernel, by decide +kernel⟩
structure Tz (K : PySem.W.Frag) (mg : Str → Option Value) (CM CJ : Addr) : Prop extends Ty K mg CM CJ where
  enumerate : mg "enumerate" = none
  all : mg "all" = none
  bool : mg "bool" = none
  gLONGEST_JOINED : GV mg "LONGEST_JOINED" (.int 64)
  clJ : Cls K CJ
  nJ : NoAttr K CJ "images"
  jA : PySem.W.findIn K (.ref CJ) "__class__" = some (some (.builtin "object.__class__"))
  jD : PySem.W.mroIn K CJ (.type "object") = some true
  ip : IntP K CM
  JJ : PySem.W.kitOne K (.ref CJ) (.ref CJ) = some true
def spChkT : Sp := fun vs H Q _ => ∃ cs : List Nat, vs = [.str (Sx cs)] ∧ (∀ c ∈ cs, isLt c) ∧ cs.length ≤ 2000 ∧ Q .non H
def spBound : Sp := fun vs H Q _ => ∃ cs : List Nat, vs = [.str (Sx cs)] ∧ cs.length ≤ 2000 ∧ Q (.str (Sx cs)) H
def spChkO (CM : Addr) : Sp := fun vs H Q _ => ∃ z u, vs = [.ref z] ∧ MisAt CM H z u ∧ Q .non H
def spInt : Sp := fun vs H Q _ => ∃ i, vs = [.int i] ∧ Q (.bl true) H
def spBtw : Sp := fun vs H Q _ => ∃ i a b : Int, vs = [.int i, .int a, .int b] ∧ a ≤ i ∧ i ≤ b ∧ Q (.bl true) H
def fJ (d : Addr) : List (Str × V) := putF "images" (.ref d) []
theorem fJ_i (d : Addr) : (fJ d).lookup ("images" : Str) = some (.ref d) := by
  unfold fJ
  rw [lookup_putF, if_pos rfl]
def spJ (CJ : Addr) : Sp := fun vs H Q _ => ∃ (j dj d : Addr), vs = [.ref j, .ref d] ∧ H j = some (.ins CJ dj []) ∧ Q .non (upd H j (.ins CJ dj (fJ d)))
def spInitJ (CM CJ : Addr) : Sp := fun vs H Q _ => ∃ (x dx j dj d : Addr) (t : Tab), vs = [.ref x, .ref j, .str (Sx [])] ∧ H x = some (.ins CM dx []) ∧ H j = some (.ins CJ dj (fJ d)) ∧ H d = some (.dK (encT t)) ∧ t.length ≤ 12 ∧
  ∀ H', MisN CM H H' x t → (∀ b o, H b = some o → b ≠ x → H' b = some o) → Q .non H'
def spFB (CM : Addr) : Sp := fun vs H Q _ => ∃ (x : Addr) (u : Tab) (cs : List Nat), vs = [.ref x, .str (Sx cs)] ∧ MisAt CM H x u ∧ cs.length ≤ 4000 ∧ (∀ r H', imF (lk u) cs = some r → Same H H' → Q .non H') ∧ (∀ (i : Nat) H', i < cs.length → imF (lk u) cs = none → Same H H' → Q (.int i) H')
def spImg (CM : Addr) : Sp := fun vs H Q _ => ∃ (x : Addr) (u : Tab) (cs r : List Nat), vs = [.ref x, .str (Sx cs)] ∧ MisAt CM H x u ∧ Bnd 64 (lk u) ∧ imF (lk u) cs = some r ∧ cs.length ≤ 2000 ∧ ∀ H', Same H H' → Q (.str (Sx r)) H'
section
variable {P : Program} {w : World} {K : PySem.W.Frag} {mg : Str → Option Value} {base : Heap} {CM CJ : Addr}
theorem ok_check_text {f : Addr} {fd : FuncData} (F : Fun K "check_text" "check_text" s_check_text f fd) (T : Tx K mg CM CJ) (D_is_text : Df P w K mg base 2 "is_text" spIsText) : FnOk P w K mg base CX0 3 f fd ["value"] spChkT := by
  refine F.ok sc_check_text (fun vs H Q E h => ?_) (fun cdv A outer s H vs Q E hr h => ?_)
  · obtain ⟨cs, rfl, _⟩ := h
    rfl
  · obtain ⟨cs, rfl, hl, hn, q⟩ := h
    refine ⟨_, (pss_one (ps_if (pt_not (pt_val (pe_c D_is_text hr (by decide) (by rfl) (pa_cons (pv 0) pa_nil))))
        (pss_one ps_never)
        pss_nil)), ?_⟩
    exact ⟨_, rfl, cs, rfl, hl, hn, true, rfl, iteF q⟩
theorem ok_bounded {f : Addr} {fd : FuncData} (F : Fun K "bounded" "bounded" s_bounded f fd) (T : Tx K mg CM CJ) : FnOk P w K mg base CX0 1 f fd ["string"] spBound := by
  refine F.ok sc_bounded (fun vs H Q E h => ?_) (fun cdv A outer s H vs Q E hr h => ?_)
  · obtain ⟨cs, rfl, _⟩ := h
    rfl
  · obtain ⟨cs, rfl, hn, q⟩ := h
    refine ⟨_, (pss_cons (ps_if (pt_cmpR op_gt (pe_callB call_len_str (by rfl) T.len (by decide +kernel) (pa_cons (pv 0) pa_nil)) (pe_gv T.gLONGEST (by rfl)) (nomark _))
        (pss_one ps_never)
        pss_nil)
      (pss_one (ps_ret (pv 0)))), ?_⟩
    have hz : (Sx cs).length ≤ sizeLine := by rw [Sx_len, sizeLine_eq]; omega
    refine ⟨_, rfl, _, rfl, hz, _, _, rfl, rfl, _, rfl, ?_⟩
    rw [Sx_len, decide_eq_false (by show ¬ ((2000 : Int) < (cs.length : Int)); omega)]
    exact iteF ⟨_, rfl, q⟩
theorem ok_check_other {f : Addr} {fd : FuncData} (F : Fun K "check_other" "check_other" s_check_other f fd) (T : Ty K mg CM CJ) : FnOk P w K mg base CX0 1 f fd ["other"] (spChkO CM) := by
  refine F.ok sc_check_other (fun vs H Q E h => ?_) (fun cdv A outer s H vs Q E hr h => ?_)
  · obtain ⟨z, u, rfl, _⟩ := h
    rfl
  · obtain ⟨z, u, rfl, M, q⟩ := h
    refine ⟨_, (pss_one (ps_if (pt_not (pt_val (pe_callB call_isi (by rfl) T.isinstance (by decide +kernel) (pa_cons (pv 0) (pa_cons (pe_gv T.gMisreading (by rfl)) pa_nil)))))
        (pss_one ps_never)
        pss_nil)), ?_⟩
    obtain ⟨dx, fs, hx⟩ := M.ins
    exact ⟨_, rfl, _, .ref CM, .ref CM, .ref CM, true, rfl, .own _, .base (.ins hx T.cl T.tA T.tB T.tC T.tD), T.mM, true, rfl, iteF q⟩
theorem ok_is_integer {f : Addr} {fd : FuncData} (F : Fun K "is_integer" "is_integer" s_is_integer f fd) (T : Tz K mg CM CJ) : FnOk P w K mg base CX0 1 f fd ["value"] spInt := by
  refine F.ok sc_is_integer (fun vs H Q E h => ?_) (fun cdv A outer s H vs Q E hr h => ?_)
  · obtain ⟨i, rfl, _⟩ := h
    rfl
  · obtain ⟨i, rfl, q⟩ := h
    refine ⟨_, (pss_one (ps_ret (pe_and (pe_callB call_isi (by rfl) T.isinstance (by decide +kernel) (pa_cons (pv 0) (pa_cons (pe_bltn (v := .ty "int") (by rfl) T.int (by decide +kernel) rfl) pa_nil))) (pe_one (pe_not (pe_callB call_isi (by rfl) T.isinstance (by decide +kernel) (pa_cons (pv 0) (pa_cons (pe_bltn (v := .ty "bool") (by rfl) T.bool (by decide +kernel) rfl) pa_nil)))))))), ?_⟩
    refine ⟨_, rfl, _, .ty "int", .type "int", .type "int", true, rfl, .ty _, .base (.int i), kit_ty (by decide +kernel), true, rfl, ?_⟩
    refine ⟨_, rfl, _, .ty "bool", .type "int", .type "bool", false, rfl, .ty _, .base (.int i), kit_ty (by decide +kernel), ?_⟩
    exact ⟨_, rfl, q⟩
theorem ok_is_between {f : Addr} {fd : FuncData} (F : Fun K "is_between" "is_between" s_is_between f fd) (T : Tz K mg CM CJ) (D_is_integer : Df P w K mg base 1 "is_integer" spInt) : FnOk P w K mg base CX0 2 f fd ["value", "least", "most"] spBtw := by
  refine F.ok sc_is_between (fun vs H Q E h => ?_) (fun cdv A outer s H vs Q E hr h => ?_)
  · obtain ⟨i, a, b, rfl, _⟩ := h
    rfl
  · obtain ⟨i, a, b, rfl, ha, hb, q⟩ := h
    refine ⟨_, (pss_one (ps_ret (pe_and (pe_c D_is_integer hr (by decide) (by rfl) (pa_cons (pv 0) pa_nil)) (pe_one (pe_chain op_le op_le (pv 1) (pv 0) (pv 2)))))), ?_⟩
    refine ⟨_, rfl, i, rfl, true, rfl, iteT ?_⟩
    refine ⟨_, rfl, _, rfl, _, _, rfl, rfl, true, dec_t ha, ?_⟩
    refine ⟨_, rfl, _, _, rfl, rfl, ?_⟩
    show Q (V.bl (decide (i ≤ b))) H
    rw [decide_eq_true hb]
    exact q
theorem ok_Joined {f : Addr} {fd : FuncData} (F : Fun K "__init__" "Joined.__init__" s_Joined_init f fd) (T : Tz K mg CM CJ) : FnOk P w K mg base CX0 1 f fd ["self", "images"] (spJ CJ) := by
  refine F.ok sc_Joined_init (fun vs H Q E h => ?_) (fun cdv A outer s H vs Q E hr h => ?_)
  · obtain ⟨j, dj, d, rfl, _⟩ := h
    rfl
  · obtain ⟨j, dj, d, rfl, hj, q⟩ := h
    refine ⟨_, (pss_one (ps_fld (pv 0) (pv 1) rfl)), ?_⟩
    exact ⟨_, rfl, _, rfl, j, CJ, dj, [], rfl, hj, T.clJ, T.nJ, by decide, q⟩
theorem ok_initJ {f : Addr} {fd : FuncData} {dvs : List V} (F : FunD K "__init__" "Misreading.__init__" (defArgs s_Misreading_init) (defBody s_Misreading_init) (defScope s_Misreading_init) dvs [] f fd) (T : Tz K mg CM CJ) (D_told_images : Df P w K mg base 4 "told_images" spTold) : FnOk P w K mg base CX0 5 f fd ["self", "images", "keeps"] (spInitJ CM CJ) := by
  refine F.ok sc_Misreading_init (fun vs H Q E h => ?_) (fun cdv A outer s H vs Q E hr h => ?_)
  · obtain ⟨x, dx, j, dj, d, t, rfl, _⟩ := h
    rfl
  · obtain ⟨x, dx, j, dj, r, u, rfl, hx, hj, hr1, lu, q⟩ := h
    refine ⟨_, (pss_cons (ps_set (i := 3) sc_Misreading_init.nd rfl (.inr rfl) (pe_ifExp (pt_val (pe_callB call_isi (by rfl) T.isinstance (by decide +kernel) (pa_cons (pv 1) (pa_cons (pe_gv T.gJoined (by rfl)) pa_nil)))) (pe_fldK (K := K) rfl (pv 1) rfl) (pe_c D_told_images hr (by decide) (by rfl) (pa_cons (pv 1) (pa_cons (pv 2) pa_nil)))))
      (pss_cons (ps_if (pt_cmpR op_gt (pe_callB call_lenD (by rfl) T.len (by decide +kernel) (pa_cons (pv 3) pa_nil)) (pe_gv T.gMOST_LETTERS (by rfl)) (nomark _))
        (pss_one ps_never)
        pss_nil)
      (pss_cons (ps_fld (pv 0) (pe_callTy (call_tuple_ofK (K := K) rfl) (by rfl) T.tuple (by decide +kernel) (pa_cons (pe_lc (own := [("letter", 4)]) (g := gName 4) (by rfl) sc_Misreading_init.nd (pi_str (pe_gv T.gLETTERS (by rfl))) (blkOk_by (own := [("letter", 4)]) (N := n_Misreading_init) (sc := defScope s_Misreading_init) (by decide +kernel)) (fun _ _ _ _ _ => (pg_name (i := 4) sc_Misreading_init.nd rfl (.inl rfl))) (fun _ _ _ _ _ => (pts_one (pt_cmp (pc_din (hu_of hr) (pv 4) (pv 3))))) (fun _ _ _ _ _ => (pv 4))) pa_nil)) rfl)
      (pss_cons (ps_fld (pv 0) (pe_dc (own := [("letter", 4)]) (g := gName 4) (by rfl) sc_Misreading_init.nd (pi_tup (pe_fldK (K := K) rfl (pv 0) rfl)) (blkOk_by (own := [("letter", 4)]) (N := n_Misreading_init) (sc := defScope s_Misreading_init) (by decide +kernel)) (fun _ _ _ _ _ => (pg_name (i := 4) sc_Misreading_init.nd rfl (.inl rfl))) (fun _ _ _ _ _ => pts_nil) (fun _ _ _ _ _ => (pv 4)) (fun _ _ _ _ _ => (pe_dget (hu_of hr) (pv 3) (pv 4) (fun _ _ => rfl)))) rfl)
      (pss_one (ps_fld (pv 0) (pe_callTy (call_tuple_ofK (K := K) rfl) (by rfl) T.tuple (by decide +kernel) (pa_cons (pe_lc (own := [("letter", 4)]) (g := gName 4) (by rfl) sc_Misreading_init.nd (pi_tup (pe_fldK (K := K) rfl (pv 0) rfl)) (blkOk_by (own := [("letter", 4)]) (N := n_Misreading_init) (sc := defScope s_Misreading_init) (by decide +kernel)) (fun _ _ _ _ _ => (pg_name (i := 4) sc_Misreading_init.nd rfl (.inl rfl))) (fun _ _ _ _ _ => (pts_one (pt_cmpR op_ne (pe_dget (hu_of hr) (pv 3) (pv 4) (fun _ _ => rfl)) (pv 4) (nomark _)))) (fun _ _ _ _ _ => (pv 4))) pa_nil)) rfl)))))), ?_⟩
    refine ⟨_, rfl, _, .ref CJ, .ref CJ, .ref CJ, true, rfl, .own _, .base (.ins hj T.clJ T.jA T.tB T.tC T.jD), T.JJ, true, rfl, ?_⟩
    refine iteT ?_
    refine ⟨_, rfl, j, CJ, dj, _, _, rfl, hj, T.clJ, T.nJ, fJ_i r, ?_⟩
    obtain ⟨H1, e1⟩ : ∃ H1, H1 = H := ⟨H, rfl⟩
    have sm : Same H H1 := by
      rw [e1]
      exact Same.refl H
    have hx1 := sm _ _ hx
    replace hr1 := sm _ _ hr1
    have h12 : (12 : Nat) ≤ 12 := Nat.le_refl _
    show tSeq _ _ _ _ H
    rw [show tSeq _ _ _ _ H = tSeq _ _ _ _ H1 from by rw [e1]]
    clear e1
    -- len(told) > 12
    refine ⟨_, rfl, r, _, rfl, hr1, _, _, rfl, rfl, _, rfl, ?_⟩
    rw [encT_len, decide_eq_false (by show ¬ ((12 : Int) < (u.length : Int)); omega)]
    refine iteF ?_
    have hx0 : ∀ b o, H b = some o → b ≠ x → H1 b = some o := fun b o e _ => sm b o e
    -- self._letters
    refine ⟨abcS, rfl, fun D nD => lc_it walk_str (fun i H2 => H2 = upd H1 D (.lst (lets ((abc.take i).filter fun c => (lookT u c).isSome)))) rfl (fun _ _ _ _ => trivial) ?_ ?_⟩
    · rintro i z H2 H2' hi rfl ⟨rfl, c, hc, rfl⟩
      have hc' : abc[i]? = some c := by
        rw [← abcS_cps]
        simpa using hc
      have hrD : r ≠ D := ne_of_none hr1 nD
      refine ⟨rfl, _, rfl, _, rfl, r, _, rfl, DGet.k (k := Sum.inr (L1 c)) (by rw [upd_ne hrD]; exact hr1), _, rfl, ?_⟩
      rw [valV_enc]
      have hs := some_put u i c hc'
      by_cases e : (lookT u c).isSome = true
      · have e2 : (Option.map (fun s => V.str (Sx s)) (lookT u c)).isSome = true := by rw [Option.isSome_map]; exact e
        rw [e2]
        refine iteT ?_
        rw [if_pos e] at hs
        refine ⟨_, rfl, lets ((abc.take i).filter fun c => (lookT u c).isSome), upd_same, ?_, ?_⟩
        · rw [lets_len]
          have h1 := List.length_filter_le (fun c => (lookT u c).isSome) (abc.take i)
          have h2 : (abc.take i).length ≤ 26 := by rw [List.length_take, abc_len]; omega
          exact small1000 (by omega)
        · rw [upd_upd, hs, lets_snoc]
          rfl
      · have e2 : (Option.map (fun s => V.str (Sx s)) (lookT u c)).isSome = false := by
          rw [Option.isSome_map]
          exact Bool.eq_false_iff.mpr e
        rw [e2]
        refine iteF ?_
        rw [if_neg e, List.append_nil] at hs
        rw [hs]
    · rintro H2 rfl
      have hsz : abcS.cps.size = 26 := by decide +kernel
      rw [hsz]
      have ek : (abc.take 26).filter (fun c => (lookT u c).isSome) = keysOf u := by
        rw [List.take_of_length_le (by rw [abc_len]; exact Nat.le_refl _)]
        rfl
      rw [ek]
      refine ⟨D, _, rfl, .inl ⟨SqL.of upd_same, fun a na => ?_⟩⟩
      have hxD : x ≠ D := ne_of_none hx1 nD
      have hxa : x ≠ a := ne_of_none (H := upd H1 D (.lst (lets (keysOf u)))) (o := .ins CM dx []) (by rw [upd_ne hxD]; exact hx1) na
      have hrD : r ≠ D := ne_of_none hr1 nD
      have hra : r ≠ a := ne_of_none (H := upd H1 D (.lst (lets (keysOf u)))) (o := .dK (encT u)) (by rw [upd_ne hrD]; exact hr1) na
      have hrx : r ≠ x := ne_of hr1 hx1 (fun z => nomatch z)
      refine ⟨_, rfl, x, CM, dx, [], rfl, by rw [upd_ne hxa, upd_ne hxD]; exact hx1, T.cl, T.nL, by show 0 < 1000; decide, ?_⟩
      have fr3 : ∀ b o, H b = some o → b ≠ x → upd (upd (upd H1 D (.lst (lets (keysOf u)))) a (.tup (lets (keysOf u)))) x (.ins CM dx (f1 a)) b = some o := fun b o e hb => by
        have e1 := sm b o e
        have hbD := ne_of_none e1 nD
        rw [upd_ne hb, upd_ne (ne_of_none (H := upd H1 D (.lst (lets (keysOf u)))) (o := o) (by rw [upd_ne hbD]; exact e1) na), upd_ne hbD]
        exact e1
      have hx3 : upd (upd (upd H1 D (.lst (lets (keysOf u)))) a (.tup (lets (keysOf u)))) x (.ins CM dx (f1 a)) x = some (.ins CM dx (f1 a)) := upd_same
      have ha3 : upd (upd (upd H1 D (.lst (lets (keysOf u)))) a (.tup (lets (keysOf u)))) x (.ins CM dx (f1 a)) a = some (.tup (lets (keysOf u))) := by rw [upd_ne (Ne.symm hxa), upd_same]
      have hr3 : upd (upd (upd H1 D (.lst (lets (keysOf u)))) a (.tup (lets (keysOf u)))) x (.ins CM dx (f1 a)) r = some (.dK (encT u)) := by rw [upd_ne hrx, upd_ne hra, upd_ne hrD]; exact hr1
      show tSeq _ _ _ _ (upd (upd (upd H1 D (.lst (lets (keysOf u)))) a (.tup (lets (keysOf u)))) x (.ins CM dx (f1 a)))
      generalize upd (upd (upd H1 D (.lst (lets (keysOf u)))) a (.tup (lets (keysOf u)))) x (.ins CM dx (f1 a)) = H3 at fr3 hx3 ha3 hr3 ⊢
      have naH : H a = none := by
        cases e : H a with
        | none => rfl
        | some o =>
          have e1 := sm _ _ e
          have e2 : upd H1 D (.lst (lets (keysOf u))) a = some o := by rw [upd_ne (ne_of_none e1 nD)]; exact e1
          rw [e2] at na
          cases na
      clear na nD hxD hxa hrD hra
      -- self._images
      refine ⟨_, rfl, x, CM, dx, _, _, rfl, hx3, T.cl, T.nL, f1_L a, a, rfl, ⟨_, .inl (.inl ha3)⟩, fun D2 nD2 => dc_it (walk_tup (K := K) (a := a) (xs := lets (keysOf u))) (fun i H4 => H4 = upd H3 D2 (.dK (encT (((keysOf u).take i).map fun c => (c, (lookT u c).getD []))))) rfl ?_ ?_ ?_⟩
      · rintro i H4 hi rfl
        exact .inl (.inl (by rw [upd_ne (ne_of_none ha3 nD2)]; exact ha3))
      · rintro i z H4 H4' hi rfl ⟨rfl, hz⟩
        obtain ⟨hik, rfl⟩ := lets_get hz
        obtain ⟨s, es⟩ := Option.isSome_iff_exists.mp (List.mem_filter.mp (List.getElem_mem hik)).2
        refine ⟨rfl, _, rfl, _, rfl, _, rfl, r, V.str (Sx s), rfl, .inl ⟨_, Sum.inr (L1 (keysOf u)[i]), .inl (by rw [upd_ne (ne_of_none hr3 nD2)]; exact hr3), rfl, by rw [valV_enc, es]; rfl⟩, _, Sum.inr (L1 (keysOf u)[i]), rfl, upd_same, ?_, ?_⟩
        · rw [encT_len, List.length_map, List.length_take]
          have := keysOf_len u
          exact small1000 (by omega)
        · rw [upd_upd, putK_enc]
          congr 3
          exact ims_succ (keysOf_nd u) hik (by rw [es]; rfl)
      · rintro H4 rfl
        rw [lets_len, List.take_length]
        have hxD2 : x ≠ D2 := ne_of_none hx3 nD2
        have haD2 : a ≠ D2 := ne_of_none ha3 nD2
        have hrD2 : r ≠ D2 := ne_of_none hr3 nD2
        refine ⟨_, rfl, x, CM, dx, f1 a, rfl, by rw [upd_ne hxD2]; exact hx3, T.cl, T.nI, f1_len a, ?_⟩
        have hax : a ≠ x := ne_of ha3 hx3 (fun z => nomatch z)
        have nbH : H D2 = none := by
          cases e : H D2 with
          | none => rfl
          | some o =>
            have e1 := fr3 _ _ e (Ne.symm hxD2)
            rw [e1] at nD2
            cases nD2
        have fr5 : ∀ b o, H b = some o → b ≠ x → upd (upd H3 D2 (.dK (encT (ims u)))) x (.ins CM dx (f2 a D2)) b = some o := fun b o e hb => by
          have e1 := fr3 b o e hb
          rw [upd_ne hb, upd_ne (ne_of_none e1 nD2)]
          exact e1
        have hx5 : upd (upd H3 D2 (.dK (encT (ims u)))) x (.ins CM dx (f2 a D2)) x = some (.ins CM dx (f2 a D2)) := upd_same
        have ha5 : upd (upd H3 D2 (.dK (encT (ims u)))) x (.ins CM dx (f2 a D2)) a = some (.tup (lets (keysOf u))) := by rw [upd_ne hax, upd_ne haD2]; exact ha3
        have hr5 : upd (upd H3 D2 (.dK (encT (ims u)))) x (.ins CM dx (f2 a D2)) r = some (.dK (encT u)) := by rw [upd_ne hrx, upd_ne hrD2]; exact hr3
        have hd5 : upd (upd H3 D2 (.dK (encT (ims u)))) x (.ins CM dx (f2 a D2)) D2 = some (.dK (encT (ims u))) := by rw [upd_ne (Ne.symm hxD2), upd_same]
        show Ends.nx _ _ (upd (upd H3 D2 (.dK (encT (ims u)))) x (.ins CM dx (f2 a D2)))
        generalize upd (upd H3 D2 (.dK (encT (ims u)))) x (.ins CM dx (f2 a D2)) = H5 at fr5 hx5 ha5 hr5 hd5 ⊢
        -- self.changed
        refine ⟨_, rfl, x, CM, dx, _, _, rfl, hx5, T.cl, T.nL, f2_L a D2, a, rfl, ⟨_, .inl (.inl ha5)⟩, fun D3 nD3 => lc_it (walk_tup (K := K) (a := a) (xs := lets (keysOf u))) (fun i H6 => H6 = upd H5 D3 (.lst (lets (((keysOf u).take i).filter fun c => decide (lookT u c ≠ some [c]))))) rfl ?_ ?_ ?_⟩
        · rintro i H6 hi rfl
          exact .inl (.inl (by rw [upd_ne (ne_of_none ha5 nD3)]; exact ha5))
        · rintro i z H6 H6' hi rfl ⟨rfl, hz⟩
          obtain ⟨hik, rfl⟩ := lets_get hz
          obtain ⟨s, es⟩ := Option.isSome_iff_exists.mp (List.mem_filter.mp (List.getElem_mem hik)).2
          refine ⟨rfl, _, rfl, _, rfl, r, V.str (Sx s), rfl, .inl ⟨_, Sum.inr (L1 (keysOf u)[i]), .inl (by rw [upd_ne (ne_of_none hr5 nD3)]; exact hr5), rfl, by rw [valV_enc, es]; rfl⟩, _, rfl, rfl, _, rfl, ?_⟩
          have hs := chg_succ (u := u) hik
          by_cases e : s = [(keysOf u)[i]]
          · have e1 : lookT u (keysOf u)[i] = some [(keysOf u)[i]] := by rw [es, e]
            rw [if_neg (by simp [e1]), List.append_nil] at hs
            rw [decide_eq_true (show V.str (Sx s) = V.str (L1 (keysOf u)[i]) by rw [e]; rfl)]
            refine iteF ?_
            rw [hs]
          · have e1 : ¬ lookT u (keysOf u)[i] = some [(keysOf u)[i]] := by
              rw [es]
              exact fun z => e (Option.some.inj z)
            rw [if_pos (by simpa using e1)] at hs
            rw [decide_eq_false (show ¬ V.str (Sx s) = V.str (L1 (keysOf u)[i]) from fun z => e (Sx_inj (V.str.inj z)))]
            refine iteT ?_
            refine ⟨_, rfl, _, upd_same, ?_, ?_⟩
            · rw [lets_len]
              have h1 := List.length_filter_le (fun c => decide (lookT u c ≠ some [c])) ((keysOf u).take i)
              have h2 := keysOf_len u
              have h3 : ((keysOf u).take i).length ≤ (keysOf u).length := by rw [List.length_take]; omega
              exact small1000 (by omega)
            · rw [upd_upd, hs, lets_snoc]
        · rintro H6 rfl
          rw [lets_len, List.take_length]
          refine ⟨D3, _, rfl, .inl ⟨SqL.of upd_same, fun c nc => ?_⟩⟩
          have hxD3 : x ≠ D3 := ne_of_none hx5 nD3
          have up : ∀ b o, H5 b = some o → upd (upd H5 D3 (.lst (lets (chg u)))) c (.tup (lets (chg u))) b = some o := fun b o e => by
            have hb := ne_of_none e nD3
            rw [upd_ne (ne_of_none (H := upd H5 D3 (.lst (lets (chg u)))) (o := o) (by rw [upd_ne hb]; exact e) nc), upd_ne hb]
            exact e
          have hxc : x ≠ c := ne_of_none (H := upd H5 D3 (.lst (lets (chg u)))) (o := .ins CM dx (f2 a D2)) (by rw [upd_ne hxD3]; exact hx5) nc
          refine ⟨_, rfl, x, CM, dx, f2 a D2, rfl, up _ _ hx5, T.cl, T.nC, f2_len a D2, ?_⟩
          have ncH : H c = none := by
            have nc' : upd H5 D3 (.lst (lets (chg u))) c = none := nc
            cases e : H c with
            | none => rfl
            | some o =>
              have e3 := fr5 _ _ e (Ne.symm hxc)
              have e2 : upd H5 D3 (.lst (lets (chg u))) c = some o := by
                rw [upd_ne (ne_of_none e3 nD3)]
                exact e3
              rw [e2] at nc'
              cases nc'
          have hD2x : D2 ≠ x := ne_of hd5 hx5 (fun z => nomatch z)
          refine q _ ⟨dx, a, D2, c, upd_same, ?_, ?_, ?_, naH, nbH, ncH⟩ fun b o e hb => ?_
          · rw [upd_ne hax]
            exact up _ _ ha5
          · rw [upd_ne hD2x]
            exact up _ _ hd5
          · rw [upd_ne (Ne.symm hxc)]
            exact upd_same
          · rw [upd_ne hb]
            exact up _ _ (fr5 b o e hb)
end
end V8

set_option Elab.async false
set_option linter.all false
set_option maxRecDepth 100000
set_option maxHeartbeats 8000000
/-! first_barred, image. -/
namespace V8
open PySem PySem.Spec PyProof.Rows L2
section
variable {P : Program} {w : World} {K : PySem.W.Frag} {mg : Str → Option Value} {base : Heap} {CM CJ : Addr}
theorem ok_first_barred {f : Addr} {fd : FuncData} (F : Fun K "first_barred" "Misreading.first_barred" s_Misreading_first_barred f fd) (T : Tz K mg CM CJ) : FnOk P w K mg base CX0 1 f fd ["self", "text"] (spFB CM) := by
  refine F.ok sc_Misreading_first_barred (fun vs H Q E h => ?_) (fun cdv A outer s H vs Q E hr h => ?_)
  · obtain ⟨x, u, cs, rfl, _⟩ := h
    rfl
  · obtain ⟨x, u, cs, rfl, ⟨dx, a, b, c', hx, ha, hb, hc⟩, h4, q1, q2⟩ := h
    refine ⟨_, (pss_cons (ps_for PassesOwn.never rfl (pi_enumS (by rfl) T.enumerate (pa_cons (pv 1) pa_nil)) (pg_tup (by rfl) (pgs_cons (pg_name (i := 2) sc_Misreading_first_barred.nd rfl (.inl rfl)) (pgs_cons (pg_name (i := 3) sc_Misreading_first_barred.nd rfl (.inl rfl)) pgs_nil)))
        (pss_one (ps_if (pt_cmp (pc_dnotin (hu_of hr) (pv 3) (pe_fldK (K := K) rfl (pv 0) rfl)))
          (pss_one (ps_ret (pv 2)))
          pss_nil)))
      (pss_one (ps_ret pe_non))), ?_⟩
    refine ⟨_, rfl, Sx cs, rfl, for_it walk_enumS (fun i σ H2 => (∃ v2 v3 : Option V, σ = [some (.ref x), some (.str (Sx cs)), v2, v3]) ∧ Same H H2 ∧ ∀ c ∈ cs.take i, c ∈ keysOf u) ⟨⟨none, none, rfl⟩, Same.refl H, fun c h => by simp at h⟩ (fun _ _ _ _ _ => trivial) ?_ ?_⟩
    · rintro i z σ H2 H2' hi ⟨⟨v2, v3, rfl⟩, s2, hk⟩ ⟨tq, c, rfl, ntq, rfl, hc0⟩
      have hc1 := sx_at hc0
      obtain ⟨hi', ec⟩ := List.getElem?_eq_some_iff.mp hc1
      refine ⟨tq, _, rfl, .inl (.inl upd_same), rfl, _, _, rfl, _, _, rfl, rfl, ?_⟩
      have s3 := same_put (s := s2) (o := .tup [.int (i : Nat), .str ⟨#[c]⟩]) ntq
      refine ⟨_, rfl, _, rfl, x, CM, dx, _, _, rfl, s3 _ _ hx, T.cl, T.nI, f3_I a b c', b, _, rfl, DGet.k (k := Sum.inr (L1 c)) (s3 _ _ hb), _, rfl, ?_⟩
      rw [valV_enc, Option.isSome_map, look_ims]
      by_cases m : c ∈ keysOf u
      · rw [if_pos m]
        refine iteF ⟨⟨_, _, rfl⟩, s3, fun d hd => ?_⟩
        rw [List.take_add_one, hc1] at hd
        rcases List.mem_append.mp hd with h | h
        · exact hk d h
        · rw [List.mem_singleton.mp h]
          exact m
      · rw [if_neg m]
        refine iteT ⟨_, rfl, q2 i _ hi' ?_ s3⟩
        exact imF_none.mpr ⟨c, ec ▸ List.getElem_mem hi', lk_not m⟩
    · rintro σ H2 ⟨⟨v2, v3, rfl⟩, s2, hk⟩
      rw [sx_size, List.take_length] at hk
      exact q1 _ H2 (imF_look hk) s2
theorem ok_image {f : Addr} {fd : FuncData} (F : Fun K "image" "Misreading.image" s_Misreading_image f fd) (T : Tz K mg CM CJ) : FnOk P w K mg base CX0 1 f fd ["self", "text"] (spImg CM) := by
  refine F.ok sc_Misreading_image (fun vs H Q E h => ?_) (fun cdv A outer s H vs Q E hr h => ?_)
  · obtain ⟨x, u, cs, r, rfl, _⟩ := h
    rfl
  · obtain ⟨x, u, cs, r, rfl, ⟨dx, a, b, c', hx, ha, hb, hc⟩, sm, er, h2, q⟩ := h
    refine ⟨_, (pss_one (ps_ret (pe_joinK (K := K) rfl pe_str (pe_lc (own := [("letter", 2)]) (g := gName 2) (by rfl) sc_Misreading_image.nd (pi_str (pv 1)) (blkOk_by (own := [("letter", 2)]) (N := n_Misreading_image) (sc := defScope s_Misreading_image) (by decide +kernel)) (fun _ _ _ _ _ => (pg_name (i := 2) sc_Misreading_image.nd rfl (.inl rfl))) (fun _ _ _ _ _ => pts_nil) (fun _ _ _ _ _ => (pe_dget (hu_of hr) (pe_fldK (K := K) rfl (pv 0) rfl) (pv 2) (fun _ _ => rfl))))))), ?_⟩
    have hin := imF_keys er
    have e0 := imF_look hin
    rw [e0] at er
    have e1 := Option.some.inj er
    obtain ⟨ss, ess⟩ : ∃ ss, ss = cs.map fun c => (lookT u c).getD [] := ⟨_, rfl⟩
    rw [← ess] at e1
    have hz : ∀ (i : Nat) (hi : i < cs.length), ((ss.map Sx).map V.str)[i]? = some (V.str (Sx ((lookT u cs[i]).getD []))) := fun i hi => by
      rw [ess, List.getElem?_map, List.getElem?_map, List.getElem?_map, List.getElem?_eq_getElem hi]
      rfl
    have hl : ((ss.map Sx).map V.str).length = cs.length := by
      rw [ess, List.length_map, List.length_map, List.length_map]
    refine ⟨⟨_, rfl⟩, _, rfl, Sx cs, rfl, fun D nD => lc_it walk_str (fun i H2 => H2 = upd H D (.lst (((ss.map Sx).map V.str).take i))) rfl (fun _ _ _ _ => trivial) ?_ ?_⟩
    · rintro i z H2 H2' hi rfl ⟨rfl, c, hc0, rfl⟩
      have hc1 := sx_at hc0
      obtain ⟨hi', ec⟩ := List.getElem?_eq_some_iff.mp hc1
      have hm : c ∈ keysOf u := hin c (ec ▸ List.getElem_mem hi')
      obtain ⟨s2, e2⟩ := Option.isSome_iff_exists.mp (keysOf_mem.mp hm).2
      have s1 : Same H (upd H D (.lst (((ss.map Sx).map V.str).take i))) := same_put (s := fun _ _ e => e) nD
      have hz2 := hz i hi'
      rw [ec, e2] at hz2
      refine ⟨rfl, _, rfl, x, CM, dx, _, _, rfl, s1 _ _ hx, T.cl, T.nI, f3_I a b c', _, rfl, b, V.str (Sx s2), rfl, .inl ⟨_, Sum.inr (L1 c), .inl (s1 _ _ hb), rfl, by rw [valV_enc, look_ims_some hm, e2]; rfl⟩, ?_⟩
      refine ⟨_, upd_same, ?_, ?_⟩
      · rw [List.length_take, sizeLine_eq]
        omega
      · rw [upd_upd, List.take_add_one, hz2]
        rfl
    · rintro H2 rfl
      rw [sx_size, List.take_of_length_le (by rw [hl]; exact Nat.le_refl _)]
      refine ⟨Str.empty, D, ss.map Sx, rfl, rfl, .inl (SqL.of upd_same), ?_, ?_⟩
      · have h1 : ((ss.map Sx).map fun x => x.length).sum ≤ _ := sum_le (fun x => x.length) 64 _ fun y hy => by
          obtain ⟨s3, hs3, rfl⟩ := List.mem_map.mp hy
          rw [ess] at hs3
          obtain ⟨c, hc, rfl⟩ := List.mem_map.mp hs3
          obtain ⟨s2, e2⟩ := Option.isSome_iff_exists.mp (keysOf_mem.mp (hin c hc)).2
          rw [Sx_len, e2]
          exact sm c _ (by rw [← lk_look (hin c hc)]; exact e2)
        have h3 : (ss.map Sx).length = cs.length := by
          rw [ess, List.length_map, List.length_map]
        rw [h3] at h1 ⊢
        show _ + _ * 0 ≤ _
        have h4 : 64 * cs.length ≤ 64 * 2000 := Nat.mul_le_mul_left _ h2
        omega
      · rw [join_Sx, e1]
        exact q _ (same_put (s := fun _ _ e => e) nD)
end
end V8

set_option Elab.async false
set_option linter.all false
set_option maxRecDepth 100000
set_option maxHeartbeats 8000000
/-! Joined and Misreadings of it made. -/
namespace V8
open PySem PySem.Spec PyProof.Rows L2
structure MkrJ (P : Program) (w : World) (K : PySem.W.Frag) (mg : Str → Option Value) (base : Heap) (CJ : Addr) : Prop where
  ex : ∃ (f : Addr) (fd : FuncData), Mk K CJ f ∧ FnOk P w K mg base CX0 1 f fd ["self", "images"] (spJ CJ) ∧ mg "Joined" = some (.ref CJ) ∧ Binds K fd ["self", "images"] []
structure MkrM (P : Program) (w : World) (K : PySem.W.Frag) (mg : Str → Option Value) (base : Heap) (CM CJ : Addr) : Prop where
  ex : ∃ (f : Addr) (fd : FuncData), Mk K CM f ∧ FnOk P w K mg base CX0 5 f fd pI (spInitJ CM CJ) ∧ mg "Misreading" = some (.ref CM) ∧ ∃ ds, Vals [.str (Sx [])] ds ∧ Binds K fd pI ds
def tMkJ (CJ : Addr) (t : TA) : TE := fun σ H Q => t σ H fun vs H1 => ∃ d, vs = [.ref d] ∧ ∀ j dj H', H1 j = none → H' j = some (.ins CJ dj (fJ d)) → Same H1 H' → Q (.ref j) H'
def tMkMJ (CM CJ : Addr) (t : TA) : TE := fun σ H Q => t σ H fun vs H1 => ∃ j dj d tb, vs = [.ref j] ∧ H1 j = some (.ins CJ dj (fJ d)) ∧ H1 d = some (.dK (encT tb)) ∧ tb.length ≤ 12 ∧ ∀ x H', H1 x = none → MisAt CM H' x tb → Same H1 H' → Q (.ref x) H'
section
variable {X : Cx} {j : Nat} {CM CJ : Addr} {p pos : Pos} {e : Expr} {es : List Expr} {t : TA}
theorem pe_mkJ (M : MkrJ X.prog X.w X.K X.mg X.base CJ) (hr : Room j X.A) (hj : 2 ≤ j) (hg : Gl X "Joined") (ha : PA X (e :: es) t) (he : starEach (e :: es) X.env = (false, eval e X.env) :: starEach es X.env := by rfl) (hpl : (backTo pos (starEach es X.env)).any (·.1) = false := by rfl) :
    PE X (.Call (.Name "Joined" p) (e :: es) [] pos) (tMkJ CJ t) := by
  obtain ⟨f, fd, M, F, hm, b0⟩ := M.ex
  refine ⟨fun pins s σ H Q I h => ?_⟩
  refine wpAny_Call_Name_kw (ld_glob I hg hm ?_ (by decide))
  refine PySem.W.callWith_K (h₀ := X.base) I.ok.mod.kin M.kp (thn (ha.run pos pins s σ H _ I h) fun us s1 ⟨vs, H1, I1, r, q⟩ => ⟨I1.kIn, ?_⟩) he hpl
  obtain ⟨d, rfl, q⟩ := q
  refine run_make (dvs := []) (ds := []) M F (hr.mono hj) b0 .nil pass0 I1 r fun x dx hx hdx ne => ?_
  rw [List.append_nil]
  refine ⟨x, dx, d, rfl, upd_same, rfl, q x dx _ hx upd_same fun b o eo => ?_⟩
  have b1 := ne_of_none eo hx
  rw [upd_ne b1, upd_ne b1, upd_ne (ne_of_none eo hdx)]
  exact eo
theorem pe_mkMJ (M : MkrM X.prog X.w X.K X.mg X.base CM CJ) (hr : Room j X.A) (hj : 6 ≤ j) (hg : Gl X "Misreading") (ha : PA X (e :: es) t) (he : starEach (e :: es) X.env = (false, eval e X.env) :: starEach es X.env := by rfl) (hpl : (backTo pos (starEach es X.env)).any (·.1) = false := by rfl) :
    PE X (.Call (.Name "Misreading" p) (e :: es) [] pos) (tMkMJ CM CJ t) := by
  obtain ⟨f, fd, M, F, hm, ds, hd, b1⟩ := M.ex
  refine ⟨fun pins s σ H Q I h => ?_⟩
  refine wpAny_Call_Name_kw (ld_glob I hg hm ?_ (by decide))
  refine PySem.W.callWith_K (h₀ := X.base) I.ok.mod.kin M.kp (thn (ha.run pos pins s σ H _ I h) fun us s1 ⟨vs, H1, I1, r, q⟩ => ⟨I1.kIn, ?_⟩) he hpl
  obtain ⟨j, dj, d, tb, rfl, hj1, hd1, l12, q⟩ := q
  refine run_make M F (hr.mono hj) b1 hd pass0 I1 r fun x dx hx hdx ne => ?_
  have up : ∀ b o, H1 b = some o → upd (upd H1 dx (.own x)) x (.ins CM dx []) b = some o := fun b o eo => by
    rw [upd_ne (ne_of_none eo hx), upd_ne (ne_of_none eo hdx)]
    exact eo
  refine ⟨x, dx, j, dj, d, tb, rfl, upd_same, up _ _ hj1, up _ _ hd1, l12, fun H' m fr => ⟨rfl, q x H' hx m.mis fun b o eo => fr b o (up _ _ eo) (ne_of_none eo hx)⟩⟩
end
/-- what K holds of the def, as the rule above wants it -/
theorem mkrM_of {P : Program} {w : World} {K : PySem.W.Frag} {mg : Str → Option Value} {base : Heap} {CM CJ f : Addr} {fd : FuncData} (F : FunD K "__init__" "Misreading.__init__" (defArgs s_Misreading_init) (defBody s_Misreading_init) (defScope s_Misreading_init) [.str (Sx [])] [] f fd) (T : Tz K mg CM CJ)
    (D_told_images : Df P w K mg base 4 "told_images" spTold) (M : Mk K CM f) (hm : mg "Misreading" = some (.ref CM)) : MkrM P w K mg base CM CJ := by
  refine ⟨f, fd, M, ok_initJ F T D_told_images, hm, ?_⟩
  obtain ⟨ds, h1, h2⟩ := F.binds1 (ps := pI) 2 0 (fun z => nomatch z) rfl (fun T kV doc pm an cdv ct us its h1 h2 => match us, its, h1, h2 with | [_, _], [_], _, _ => ⟨_, rfl, rfl⟩)
  exact ⟨ds, h1, h2⟩
end V8

set_option Elab.async false
set_option linter.all false
set_option maxRecDepth 100000
set_option maxHeartbeats 8000000
/-! one >> other. -/
namespace V8
open PySem PySem.Spec PyProof.Rows L2
abbrev s_Misreading_rshift : Stmt := inClass (topS 29) 9
abbrev n_Misreading_rshift : List Str := ["self", "other", "images", "letter", "middle"]
theorem sc_Misreading_rshift : FnScope ["self", "other", "images", "letter", "middle"] ["self", "other"] (defScope s_Misreading_rshift) := ⟨rfl, rfl, rfl, by decide +kernel, rfl, by decide +kernel, by decide +kernel⟩
theorem f3_no {a b c : Addr} {m : Str} (h1 : ¬ m = "_letters") (h2 : ¬ m = "_images") (h3 : ¬ m = "changed") : (f3 a b c).lookup m = none := by
  unfold f3 f2 f1
  rw [lookup_putF, if_neg h3, lookup_putF, if_neg h2, lookup_putF, if_neg h1]
  rfl
theorem keys_le {u : Tab} {cs : List Nat} (o : Ovr cs (lk u)) : (keysOf u).length ≤ cs.length := nd_len (keysOf_nd u) fun c hc => by
  obtain ⟨s, e⟩ := Option.isSome_iff_exists.mp (lk_mem.mp hc)
  exact o.key c s e
/-- a Misreading made anew of f -/
def Makes (CM : Addr) (H : Hp) (f : Fu) (Q : VK) : Prop := ∀ z H' t, H z = none → MisAt CM H' z t → lk t = f → Same H H' → Q (.ref z) H'
def spRsh (CM : Addr) : Sp := fun vs H Q _ => ∃ (x y : Addr) (u v : Tab) (cs : List Nat), vs = [.ref x, .ref y] ∧ MisAt CM H x u ∧ MisAt CM H y v ∧ Bnd 64 (lk u) ∧ Bnd 64 (lk v) ∧ Bnd 64 (cF (lk u) (lk v)) ∧ Ovr cs (lk u) ∧ cs.length ≤ 12 ∧ Makes CM H (cF (lk u) (lk v)) Q
section
variable {P : Program} {w : World} {K : PySem.W.Frag} {mg : Str → Option Value} {base : Heap} {CM CJ : Addr}
theorem ok_rshift {f : Addr} {fd : FuncData} (F : Fun K "__rshift__" "Misreading.__rshift__" s_Misreading_rshift f fd) (T : Tz K mg CM CJ) (D_check_other : Df P w K mg base 1 "check_other" (spChkO CM)) (D_first_barred : Mf P w K mg base 1 CM "first_barred" (spFB CM)) (D_image : Mf P w K mg base 1 CM "image" (spImg CM))
    (D_mkJ : MkrJ P w K mg base CJ) (D_mkMJ : MkrM P w K mg base CM CJ) : FnOk P w K mg base CX0 7 f fd ["self", "other"] (spRsh CM) := by
  refine F.ok sc_Misreading_rshift (fun vs H Q E h => ?_) (fun cdv A outer s H vs Q E hr h => ?_)
  · obtain ⟨x, y, u, v, cs, rfl, _⟩ := h
    rfl
  · obtain ⟨x, y, u, v, cs, rfl, mx, my, bu, bv, bc, ov, h12, q⟩ := h
    refine ⟨_, (pss_cons (ps_expr (pe_c D_check_other hr (by decide) (by rfl) (pa_cons (pv 1) pa_nil)))
      (pss_cons (ps_set (i := 2) sc_Misreading_rshift.nd rfl (.inl rfl) pe_dnewK)
      (pss_cons (ps_for PassesOwn.never rfl (pi_tup (pe_fldK (K := K) rfl (pv 0) rfl)) (pg_name (i := 3) sc_Misreading_rshift.nd rfl (.inl rfl))
        (pss_cons (ps_set (i := 4) sc_Misreading_rshift.nd rfl (.inl rfl) (pe_dget (hu_of hr) (pe_fldK (K := K) rfl (pv 0) rfl) (pv 3) (fun _ _ => rfl)))
        (pss_one (ps_if (pt_cmpR op_isN (pe_mt T.cl D_first_barred hr (by decide) (pv 1) (pa_cons (pv 4) pa_nil)) pe_non (nomark _))
          (pss_cons (ps_dput (hu_of hr) (pv 2) (pv 3) (pe_mt T.cl D_image hr (by decide) (pv 1) (pa_cons (pv 4) pa_nil)) rfl)
          (pss_one (ps_if (pt_cmpR op_gt (pe_callB call_len_str (by rfl) T.len (by decide +kernel) (pa_cons (pe_dget (hu_of hr) (pv 2) (pv 3) (fun _ _ => rfl)) pa_nil)) (pe_gv T.gLONGEST_JOINED (by rfl)) (nomark _))
            (pss_one ps_never)
            pss_nil)))
          pss_nil))))
      (pss_one (ps_ret (pe_mkMJ D_mkMJ hr (by decide) (by rfl) (pa_cons (pe_mkJ D_mkJ hr (by decide) (by rfl) (pa_cons (pv 2) pa_nil)) pa_nil))))))), ?_⟩
    have kl := keys_le ov
    obtain ⟨dx, a, b, c', hx, ha, hb, hc⟩ := id mx.at_
    refine ⟨_, rfl, y, v, rfl, my, fun D nD => ?_⟩
    have s0 := same_put (s := Same.refl H) (o := .dK (encT [])) nD
    refine ⟨_, rfl, x, CM, dx, _, _, rfl, s0 _ _ hx, T.cl, T.nL, f3_L a b c', a, rfl, ⟨_, .inl (.inl (s0 _ _ ha))⟩, for_it (walk_tup (K := K) (a := a) (xs := lets (keysOf u))) (fun i σ H2 => (∃ v3 v4 : Option V, σ = [some (.ref x), some (.ref y), some (.ref D), v3, v4]) ∧ Same H H2 ∧ H2 D = some (.dK (encT (mkT (cF (lk u) (lk v)) ((keysOf u).take i))))) ⟨⟨none, none, rfl⟩, s0, upd_same⟩ ?_ ?_ ?_⟩
    · rintro i σ H2 hi ⟨_, s2, _⟩
      exact .inl (.inl (s2 _ _ ha))
    · rintro i z σ H2 H2' hi ⟨⟨v3, v4, rfl⟩, s2, hD⟩ ⟨rfl, hz⟩
      obtain ⟨hik, rfl⟩ := lets_get hz
      have hm := List.getElem_mem hik
      obtain ⟨s, e2⟩ := Option.isSome_iff_exists.mp (keysOf_mem.mp hm).2
      have e3 : lk u (keysOf u)[i] = some s := by rw [← lk_look hm]; exact e2
      have s64 := bu _ _ e3
      refine ⟨_, rfl, x, CM, dx, _, _, rfl, s2 _ _ hx, T.cl, T.nI, f3_I a b c', _, rfl, b, V.str (Sx s), rfl, .inl ⟨_, Sum.inr (L1 (keysOf u)[i]), .inl (s2 _ _ hb), rfl, by rw [valV_enc, look_ims_some hm, e2]; rfl⟩, ?_⟩
      obtain ⟨dy, a2, b2, c2, hy, ha2, hb2, hc2⟩ := id my.at_
      refine ⟨_, rfl, y, dy, _, rfl, s2 _ _ hy, f3_no (by decide +kernel) (by decide +kernel) (by decide +kernel), _, rfl, y, v, s, rfl, my.same s2, by omega, fun r H3 er s3 => ?_, fun k H3 hk en s3 => ?_⟩
      · -- the image is let
        have hn2 := mkT_snoc (cF (lk u) (lk v)) ((keysOf u).take i) (keysOf u)[i]
        have hcf : cF (lk u) (lk v) (keysOf u)[i] = some r := by
          show (lk u (keysOf u)[i]).bind (imF (lk v)) = some r
          rw [e3]
          exact er
        have r64 := bc _ _ hcf
        rw [hcf] at hn2
        refine ⟨rfl, true, rfl, iteT ?_⟩
        refine ⟨_, rfl, y, dy, _, rfl, s3 _ _ (s2 _ _ hy), f3_no (by decide +kernel) (by decide +kernel) (by decide +kernel), _, rfl, y, v, s, r, rfl, (my.same s2).same s3, bv, er, by omega, fun H4 s4 => ?_⟩
        have hD4 := s4 _ _ (s3 _ _ hD)
        have tl := mkT_len (cF (lk u) (lk v)) ((keysOf u).take i)
        rw [List.length_take] at tl
        refine ⟨_, rfl, _, rfl, D, _, rfl, DPut.k (k := Sum.inr (L1 (keysOf u)[i])) hD4 (by rw [encT_len]; exact small1000 (by omega)), ?_⟩
        have eT : (keysOf u).take (i + 1) = (keysOf u).take i ++ [(keysOf u)[i]] := by
          rw [List.take_add_one, List.getElem?_eq_getElem hik]
          rfl
        have nk : (keysOf u)[i] ∉ (mkT (cF (lk u) (lk v)) ((keysOf u).take i)).map (·.1) := fun z => by
          have h1 := mkT_keys _ _ _ z
          have nd := keysOf_nd u
          rw [← List.take_append_drop (i + 1) (keysOf u), eT] at nd
          exact (List.nodup_append.mp (List.nodup_append.mp nd).1).2.2 _ h1 _ (by simp) rfl
        have ep : putK (encT (mkT (cF (lk u) (lk v)) ((keysOf u).take i))) (Sum.inr (L1 (keysOf u)[i])) (V.str (Sx r)) = encT (mkT (cF (lk u) (lk v)) ((keysOf u).take (i + 1))) := by
          rw [putK_enc, putT_new nk, eT, hn2]
        rw [ep]
        have s5 : Same H (upd H4 D (.dK (encT (mkT (cF (lk u) (lk v)) ((keysOf u).take (i + 1)))))) := same_over (s := fun b o e => s4 _ _ (s3 _ _ (s2 _ _ e))) nD
        have hD5 : upd H4 D (.dK (encT (mkT (cF (lk u) (lk v)) ((keysOf u).take (i + 1))))) D = some (.dK (encT (mkT (cF (lk u) (lk v)) ((keysOf u).take (i + 1))))) := upd_same
        have lkn : lookT (mkT (cF (lk u) (lk v)) ((keysOf u).take (i + 1))) (keysOf u)[i] = some r := by
          rw [eT, hn2, look_app nk, if_pos rfl]
        refine ⟨_, rfl, _, rfl, D, V.str (Sx r), rfl, .inl ⟨_, Sum.inr (L1 (keysOf u)[i]), .inl hD5, rfl, by rw [valV_enc, lkn]; rfl⟩, _, rfl, by rw [Sx_len, sizeLine_eq]; omega, _, _, rfl, rfl, _, rfl, ?_⟩
        rw [Sx_len, decide_eq_false (by show ¬ ((64 : Int) < (r.length : Int)); omega)]
        exact iteF ⟨⟨_, _, rfl⟩, s5, hD5⟩
      · -- it is barred
        refine ⟨rfl, false, rfl, iteF ⟨⟨_, _, rfl⟩, fun b o e => s3 _ _ (s2 _ _ e), ?_⟩⟩
        have hcf : cF (lk u) (lk v) (keysOf u)[i] = none := by
          show (lk u (keysOf u)[i]).bind (imF (lk v)) = none
          rw [e3]
          exact en
        rw [List.take_add_one, List.getElem?_eq_getElem hik]
        show H3 D = some (.dK (encT (mkT _ ((keysOf u).take i ++ [(keysOf u)[i]]))))
        rw [mkT_snoc, hcf]
        show H3 D = some (.dK (encT (mkT _ ((keysOf u).take i) ++ [])))
        rw [List.append_nil]
        exact s3 _ _ hD
    · rintro σ H2 ⟨⟨v3, v4, rfl⟩, s2, hD⟩
      rw [lets_len, List.take_length] at hD
      have tl := mkT_len (cF (lk u) (lk v)) (keysOf u)
      refine ⟨_, rfl, D, rfl, fun j dj H3 nj hj s3 => ?_⟩
      refine ⟨j, dj, D, _, rfl, hj, s3 _ _ hD, by omega, fun z H4 nz mz s4 => ?_⟩
      refine q z H4 _ (same_none (s := fun b o e => s3 _ _ (s2 _ _ e)) nz) mz (mkT_lk (keysOf_nd u) fun c s h => ?_) fun b o e => s4 _ _ (s3 _ _ (s2 _ _ e))
      have hm : c ∈ keysOf u := lk_mem.mpr (by
        have h' : (lk u c).bind (imF (lk v)) = some s := h
        cases e : lk u c with
        | none =>
          rw [e] at h'
          cases h'
        | some z => rfl)
      exact ⟨hm, keys_abc hm⟩
end
end V8

set_option Elab.async false
set_option linter.all false
set_option maxRecDepth 100000
set_option maxHeartbeats 4000000
/-! try: .. except E as n: k = n, where k is read later: the caught exception becomes a thing of the abstract heap. -/
namespace L2
open PySem PySem.Spec PyProof.Rows
/-- an exception that was caught and is kept: its class, its dict -/
def CaughtO (cls : Value) (d : Option Addr) (a : Addr) : HO := .ext fun h => ∃ (oe : Obj) (vs : Array Value), h.get? a = some oe ∧ Zc cls d oe ∧ oe.data = .fields vs
/-- a caught exception stands on the ground of X, and nothing of X has known it before -/
structure Down (X : Cx) (pins : List (Addr × Obj)) (σ : St) (H : Hp) (cls : Value) (d : Option Addr) (a : Addr) (B : Heap) (s : Shared) : Prop where
  inv : Inv X pins σ H s
  fly : HandSPX.FlyingZ B X.stack a (Zc cls d) s.heap
  unk : H a = none
  notL : a ≠ X.env.locals
  notF : a ∉ X.fs
  notS : ∀ o, X.s_0.heap.get? a = some o → a ∉ X.ex → False
  notP : ∀ p ∈ X.pn ++ pins, p.1 ≠ a
  gnd : ∃ s0 : Shared, Inv X pins σ H s0 ∧ (∀ c o, s0.heap.get? c = some o → c ∉ frs X.stack → B.get? c = some o) ∧ s0.heap.UpToSlots s.heap ∧ s.os = s0.os ∧ AllBare s.gens
section
variable {X : Cx} {pins : List (Addr × Obj)} {σ : St} {H : Hp} {cls : Value} {d : Option Addr} {a : Addr} {B : Heap} {s : Shared}
theorem Down.obj (W : Down X pins σ H cls d a B s) : ∃ (oe : Obj) (vs : Array Value), s.heap.get? a = some oe ∧ Zc cls d oe ∧ oe.data = .fields vs := W.fly.there
/-- from now on it is tracked -/
theorem Down.tracked (W : Down X pins σ H cls d a B s) : Inv X pins σ (upd H a (CaughtO cls d a)) s := by
  obtain ⟨oe, vs, q1, q2, q3⟩ := W.obj
  obtain ⟨i1, i2, i3, i4, i5, i6, i7, i8, i9, i10, i11⟩ := W.inv
  have off : ∀ c, c ≠ a → upd H a (CaughtO cls d a) c = H c := fun c h => upd_ne h
  have off' : ∀ c u, H c = some u → upd H a (CaughtO cls d a) c = some u := fun c u h => (off c (ne_of_none h W.unk)).trans h
  have tell : ObjOk X.prog X.w (upd H a (CaughtO cls d a)) s.heap a (CaughtO cls d a) := by
    refine ⟨⟨oe, vs, q1, q2, q3⟩, ⟨oe, q1⟩, fun g g' hg keep => ?_⟩
    obtain ⟨o, v, r1, r2⟩ := hg
    exact ⟨o, v, keep o r1, r2⟩
  refine ⟨i1, i2, i3, ⟨i4.keep, i4.slot, fun c o e n x => ?_, i4.there, fun c xs e => off' c _ (i4.tups c xs e), fun c o u e => off' c _ (i4.frzs c o u e), fun c ps e => ?_⟩, i5, i6, (off _ (Ne.symm W.notL)).trans i7, fun y c e => ?_, fun p hp => ?_, i10.laidN (fun _ _ z => z) W.unk tell, i11⟩
  · by_cases hc : c = a
    · rw [hc] at e x
      exact (W.notS o e x).elim
    · exact (off c hc).trans (i4.free c o e n x)
  · obtain ⟨more, z⟩ := i4.tbls c ps e
    exact ⟨more, off' c _ z⟩
  · have hc : c ≠ a := fun z => by
      obtain ⟨v, o, r1, r2⟩ := i6 y c e
      rw [z, q1] at r1
      rw [← Option.some.inj r1, q3] at r2
      cases r2
    exact (off c hc).trans (i8 y c e)
  · obtain ⟨p1, p2, p3⟩ := i9 p hp
    exact ⟨p1, (off _ (W.notP p hp)).trans p2, p3⟩
/-- an exception that X lets through lands -/
theorem down_of {M : Model} {x' : Value → Shared → Prop} {pn : List (Addr × Obj)} {W : WX} {u : Value} {E : Value → Shared → Prop} {Q : Shared → Prop} (ok : X.Ok) (hst : X.stack = X.env :: X.outer) (hfl : X.env.frame = some X.env.locals) (xx : XE (X.tr (X.pn ++ pn) x') W u s)
    (hQ : ∀ (a : Addr) (B : Heap) (cls : Value) (d : Option Addr) (σ : St) (H : Hp) (s' : Shared), u = .ref a → W cls d σ H → Down X pn σ H cls d a B s' → Q s') : wpAny M X.A (noteFrame u X.env) (fun _ s1 => wpAny M X.A (setFlight u none) (fun _ s2 => Q s2) E s1) E s := by
  obtain ⟨a, B, sI, more, σ1, H1, cls, d, rfl, IT, gr, ups, sky, none1, eos, bar, wish⟩ := xx
  have I1 : Inv X pn σ1 H1 sI := Inv.ofTry IT ok
  have frameEq : X.A.frames = some (X.env :: X.outer) := ok.frames.trans (by rw [hst])
  have sky1 : Sky B (X.env :: X.outer) a (Zc cls d) X.env.locals s.heap := hst ▸ sky
  refine Sky.land (Q := fun _ => Q) Zc.steady frameEq hfl sky1 fun hL fly up2 => ?_
  obtain ⟨oe, vs, r1, _, r3⟩ := HandSPX.FlyingZ.there fly
  have out : a ∉ frs X.stack := fun hm => by
    rw [hst] at hm
    obtain ⟨_, o, eo, no⟩ := fly.2.2.1.mem hm
    rw [r1] at eo
    exact no vs (by rw [← Option.some.inj eo]; exact r3)
  have never : ∀ o, sI.heap.get? a = some o → False := fun o e => by
    have q := gr a o e out
    rw [fly.2.1] at q
    cases q
  refine hQ a B cls d σ1 H1 { s with heap := hL } rfl wish ⟨I1.landed gr fly.1 (ups.trans up2) eos bar, by rw [hst]; exact fly, none1, fun z => ?_, fun z => ?_, fun o e x => ?_, fun p hp z => ?_, sI, I1, gr, ups.trans up2, eos, bar⟩
  · exact out (by rw [hst]; exact List.mem_filterMap.mpr ⟨X.env, List.mem_cons_self, by rw [hfl, z]⟩)
  · obtain ⟨e, he, q⟩ := List.mem_filterMap.mp z
    exact out (by rw [hst]; exact List.mem_filterMap.mpr ⟨e, List.mem_cons_of_mem _ he, q⟩)
  · obtain ⟨o2, q⟩ := I1.base.there a o e x
    exact never o2 q
  · exact never _ (z ▸ (I1.pin p hp).1)
/-- .. and once more, when the suite begins -/
theorem Down.again {M : Model} {A : Around} {Q : Shared → Prop} {E : Value → Shared → Prop} (W : Down X pins σ H cls d a B s) (h : ∀ s', Down X pins σ H cls d a B s' → Q s') : wpAny M A (setFlight (.ref a) none) (fun _ => Q) E s := by
  obtain ⟨s0, J, gr, ups, eos, bar⟩ := W.gnd
  exact HandSPX.lands_againZ (Q := fun _ => Q) W.fly fun hL fly up2 => h { s with heap := hL } ⟨J.landed gr fly.1 (ups.trans up2) eos bar, fly, W.unk, W.notL, W.notF, W.notS, W.notP, s0, J, gr, ups.trans up2, eos, bar⟩
/-- its class is what the clause names -/
theorem Down.meets {A : Around} {E : Value → Shared → Prop} {c : Value} {Q : Bool → Shared → Prop} (W : Down X pins σ H cls d a B s) (hm : PySem.W.exmOne X.K cls c = some true) (h : Q true s) : wpAny (model X.prog X.w) A (excMatches (.ref a) c) Q E s := by
  obtain ⟨oe, vs, q1, q2, _⟩ := W.obj
  refine (PySem.W.exm_one (M := model X.prog X.w) W.inv.kIn (cls := cls) ?_ hm).here h
  intro A1 Q1 E1 s1 keep q
  exact wpAny_typeOf_ref (keep _ _ q1) (q2.1 ▸ q)
/-- the suite's context, the exception tracked -/
theorem Down.suite (W : Down X pins σ H cls d a B s) (ok : X.Ok) : Inv (X.suite a (X.pn ++ pins)) [] σ (upd H a (CaughtO cls d a)) s := by
  have I := W.tracked
  exact ⟨ok.suite _ _, I.os, I.bare, I.base, I.loc, I.cell, I.free, I.freeC, fun p hp => I.pin p (List.append_nil (X.pn ++ pins) ▸ hp), I.hok, I.len⟩
theorem unsuite_inv {σ' : St} {H' : Hp} {s' : Shared} (ok : X.Ok) (I : Inv (X.suite a (X.pn ++ pins)) [] σ' H' s') : Inv X pins σ' H' s' :=
  ⟨ok, I.os, I.bare, I.base, I.loc, I.cell, I.free, I.freeC, fun p hp => I.pin p ((List.append_nil (X.pn ++ pins)).symm ▸ hp), I.hok, I.len⟩
end
/-- what the clause wishes of an exception of the body, which is one of c: slot i is n's -/
def wKeep (K : PySem.W.Frag) (k : Nat) (c : Value) (i : Nat) (ts : Addr → TS) (D : Ends) : WX := fun cls d σ H =>
  PySem.W.exmOne K cls c = some true ∧ (σ.length = k → ∀ a, H a = none → ts a { nx := fun σ' H' => D.nx (σ'.set i none) H', rt := D.rt, bk := fun _ _ => False, ct := fun _ _ => False } (σ.set i (some (.ref a))) (upd H a (CaughtO cls d a)))
section
variable {X : Cx} {x n : Str} {c : Value} {i : Nat} {body suite : List Stmt} {b₀ : Stmt} {np pos pos' : Pos} {tb : WX → TS} {ts : Addr → TS}
theorem ps_try_keep (hst : X.stack = X.env :: X.outer) (hfl : X.env.frame = some X.env.locals) (nd : X.N.Nodup) (hi : X.N[i]? = some n) (hn : X.env.kindOf n = some .local) (nm : Names X x c)
    (hb : ∀ (W : WX) (pn : List (Addr × Obj)) (xe : Value → Shared → Prop), Takes (X.tr pn xe) W → PassesOwn (model X.prog X.w) X.A X.env xe → PSs (X.tr pn xe) body (tb W)) (hs : ∀ (a : Addr) (pn : List (Addr × Obj)), PSs (X.suite a pn) (b₀ :: suite) (ts a)) :
    PS X (.Try body [.ExceptHandler (some (.Name x np)) (some n) (b₀ :: suite) pos'] [] [] pos) (fun D σ H => tb (wKeep X.K X.N.length c i ts D) D σ H) := by
  constructor
  intro pins s σ H D I0 reading
  have ok := I0.ok
  apply wpAny_Try_except
  -- what a landed exception meets
  have clause : ∀ (a : Addr) (B : Heap) (cls : Value) (d : Option Addr) (σ1 : St) (H1 : Hp) (s1 : Shared), wKeep X.K X.N.length c i ts D cls d σ1 H1 → Down X pins σ1 H1 cls d a B s1 → wpAny (model X.prog X.w) X.A (handleBy (.ref a) X.env [.ExceptHandler (some (.Name x np)) (some n) (b₀ :: suite) pos']) (SP X pins D) X.xe s1 := by
    rintro a B cls d σ1 H1 s1 ⟨hm, go⟩ W
    apply wpAny_handleBy_cons
    · apply codeAny_handlers_test
      have named : ∀ {Q1 : Value → Shared → Prop} {E1 : Value → Shared → Prop}, Q1 c s1 → wpAny (model X.prog X.w) (X.suite a (X.pn ++ pins)).A (eval (.Name x np) X.env) Q1 E1 s1 := fun {Q1 E1} q => by
        have I := W.suite ok
        rcases nm with ⟨g, db, m | ⟨m, v, w⟩⟩
        · exact ld_glob (X := X.suite a (X.pn ++ pins)) I g m q db
        · exact ld_blt (X := X.suite a (X.pn ++ pins)) I g m v q w db
      refine named (W.meets hm ?_)
      apply codeAny_handlers_suite_as
      refine W.again fun s2 W2 => ?_
      refine store_ok (X := X.suite a (X.pn ++ pins)) (v := .ref a) (W2.suite ok) nd hi (.inl hn) rfl (fun s3 I3 => ?_) (.inr hn)
      refine wpAny_mono ((hs a (X.pn ++ pins)).run [] s3 _ _ _ I3 (go W.inv.len a W.unk)) (fun f s4 sp => ?_) fun _ _ z => False.elim z
      -- the clause's name goes
      have away : ∀ {σ5 : St} {H5 : Hp} {Q5 : Shared → Prop}, Inv (X.suite a (X.pn ++ pins)) [] σ5 H5 s4 → (∀ s6, Inv X pins (σ5.set i none) H5 s6 → Q5 s6) → wpAny (model X.prog X.w) X.A (do bindName X.env n .none; unbindBehindTheSuite X.env n pos') (fun _ => Q5) X.xe s4 :=
        fun I5 h5 => gone_ok (unsuite_inv ok I5) nd hi hn h5
      match f, sp with
      | .next, ⟨σ5, H5, I5, q5⟩ => exact away I5 fun s6 I6 => ⟨_, _, I6, q5⟩
      | .ret u, ⟨v, σ5, H5, I5, r5, q5⟩ => exact away I5 fun s6 I6 => ⟨_, _, _, I6, r5, q5⟩
      | .brk, ⟨_, _, _, z⟩ => exact z.elim
      | .cont, ⟨_, _, _, z⟩ => exact z.elim
    · intro z
      cases z
  refine wpAny_mono ((hb (wKeep X.K X.N.length c i ts D) (X.pn ++ pins) _ (fun u s' xx => down_of ok hst hfl xx fun a B cls d σ1 H1 s1 e wish W => e ▸ clause a B cls d σ1 H1 s1 wish W) PassesOwn.looking).run [] s σ H D (I0.toTry _) reading) (fun f s1 sp => ?_) fun _ _ z => z
  match f, sp with
  | .next, ⟨σ1, H1, I1, q1⟩ => exact wpAny_execs_nil ⟨σ1, H1, Inv.ofTry I1 ok, q1⟩
  | .ret u, ⟨v, σ1, H1, I1, r1, q1⟩ => exact ⟨v, σ1, H1, Inv.ofTry I1 ok, r1, q1⟩
  | .brk, ⟨σ1, H1, I1, q1⟩ => exact ⟨σ1, H1, Inv.ofTry I1 ok, q1⟩
  | .cont, ⟨σ1, H1, I1, q1⟩ => exact ⟨σ1, H1, Inv.ofTry I1 ok, q1⟩
end
end L2

set_option Elab.async false
set_option linter.all false
set_option maxRecDepth 100000
set_option maxHeartbeats 4000000
/-! A kept exception: isinstance, its fields. -/
namespace L2
open PySem PySem.Spec PyProof.Rows
/-- at a a kept exception of the own class D, with these fields -/
structure KeptX (K : PySem.W.Frag) (H : Hp) (a D : Addr) (fs : List (Str × V)) : Prop where
  ex : ∃ d, H a = some (CaughtO (.ref D) (some d) a) ∧ H d = some (.xd fs)
  cl : ExcC K D
section
variable {X : Cx} {pins : List (Addr × Obj)} {σ : St} {H : Hp} {s : Shared} {a D : Addr} {fs : List (Str × V)}
theorem kept_inst (I : Inv X pins σ H s) (k : KeptX X.K H a D fs) : ∃ (oe : Obj) (od : Obj), PySem.W.InstAt s.heap a oe D (some od) ∧ ∀ f, ∃ o, PySem.W.lookIn f od = some o ∧ RelO (fs.lookup f) o := by
  obtain ⟨d, h1, h2⟩ := k.ex
  obtain ⟨⟨oe, vs, q1, ⟨q2, q3⟩, q4⟩, _, _⟩ := I.hok a _ h1
  obtain ⟨m, ns, rel⟩ := I.hok d _ h2
  obtain ⟨od, ho, hl⟩ := lookIn_ns ns
  refine ⟨oe, od, ⟨q1, q2, ?_, ?_⟩, fun f => ⟨m f, hl f, rel f⟩⟩
  · unfold PySem.W.notCls
    rw [q4]
  · rw [q3]
    exact ho
/-- isinstance(e, c) -/
def rIsK (K : PySem.W.Frag) : List V → Hp → VK → Prop := fun xs H Q => ∃ (a D : Addr) (fs : List (Str × V)) (c : V) (cv : Value) (b : Bool), xs = [.ref a, c] ∧ KeptX K H a D fs ∧ (∀ u, RelV c u → u = cv) ∧ PySem.W.kitOne K (.ref D) cv = some b ∧ Q (.bl b) H
theorem call_isK : CallR X (.builtin "isinstance") (rIsK X.K) := by
  intro pins s σ H xs us Q I r h
  obtain ⟨a, D, fs, c, cv, b, rfl, k, hc, e, q⟩ := h
  match us, r with
  | [u1, u2], .cons r1 (.cons r2 .nil) =>
    obtain rfl : u1 = Value.ref a := r1
    rw [hc _ r2]
    obtain ⟨oe, od, J, _⟩ := kept_inst I k
    have C := k.cl
    obtain ⟨cd, e1, _⟩ := PySem.W.any_some C.hd
    exact PySem.W.kia_one (PySem.W.kitx_exc (by rw [e1]; rfl) C.hg C.hk C.hs C.ha C.hn C.ht C.hm) I.kIn J e (fun z => nomatch z) fun tk => ⟨.bl b, H, I.tok _, rfl, q⟩
/-- e.f -/
def tKeptF (K : PySem.W.Frag) (f : Str) (te : TE) : TE := fun σ H Q => te σ H fun x H1 => ∃ (a D : Addr) (fs : List (Str × V)) (v : V), x = .ref a ∧ KeptX K H1 a D fs ∧ PySem.W.findIn K (.ref D) f = some none ∧ fs.lookup f = some v ∧ Q v H1
theorem pe_keptF {e : Expr} {f : Str} {te : TE} {pos : Pos} (he : PE X e te) (hb : attributeBase e f X.env (eval e X.env) = eval e X.env := by rfl) : PE X (.Attribute e f pos) (tKeptF X.K f te) := by
  refine ⟨fun pins s σ H Q I h => attr_of hb (thn (he.run pins s σ H _ I h) fun u s1 hh => ?_)⟩
  obtain ⟨x, H1, I1, rx, a, D, fs, v, rfl, k, no, hl, q⟩ := hh
  obtain rfl : u = Value.ref a := rx
  obtain ⟨oe, od, J, look⟩ := kept_inst I1 k
  obtain ⟨o, l1, l2⟩ := look f
  obtain ⟨w', ew, rw'⟩ := RelO.some_of (v := v) (o := o) (hl ▸ l2)
  exact HandSPX.exc_get I1.kIn J k.cl.hg k.cl.hk k.cl.hs (PySem.W.findObj_own k.cl.hd no rfl (by rw [l1, ew])) (handed_of rw') ⟨v, H1, I1.tok _, rw', q⟩
end
end L2

set_option Elab.async false
set_option linter.all false
set_option maxRecDepth 100000
set_option maxHeartbeats 8000000
/-! What an error keeps of a flat value. -/
namespace V8
open PySem PySem.Spec PyProof.Rows L2
abbrev s_copied : Stmt := topS 2
abbrev n_copied : List Str := ["value", "part", "key"]
theorem sc_copied : FnScope ["value", "part", "key"] ["value"] (defScope s_copied) := ⟨rfl, rfl, rfl, by decide +kernel, rfl, by decide +kernel, by decide +kernel⟩
/-- a flat value is handed back as it is -/
def spCopied (K : PySem.W.Frag) : Sp := fun vs H Q _ => ∃ (x : V) (t : Value), vs = [x] ∧ TyX K H x t ∧ PySem.W.kitOne K t (.type "list") = some false ∧ PySem.W.kitOne K t (.type "tuple") = some false ∧ PySem.W.kitOne K t (.type "dict") = some false ∧ Q x H
section
variable {P : Program} {w : World} {K : PySem.W.Frag} {mg : Str → Option Value} {base : Heap} {CM CJ : Addr}
theorem ok_copied {f : Addr} {fd : FuncData} (F : Fun K "copied" "copied" s_copied f fd) (T : Tx K mg CM CJ) : FnOk P w K mg base CX0 1 f fd ["value"] (spCopied K) := by
  refine F.ok sc_copied (fun vs H Q E h => ?_) (fun cdv A outer s H vs Q E hr h => ?_)
  · obtain ⟨x, t, rfl, _⟩ := h
    rfl
  · obtain ⟨x, t, rfl, ty, e1, e2, e3, q⟩ := h
    refine ⟨_, (pss_cons (ps_if (pt_val (pe_callB call_isi (by rfl) T.isinstance (by decide +kernel) (pa_cons (pv 0) (pa_cons (pe_bltn (v := .ty "list") (by rfl) T.list (by decide +kernel) rfl) pa_nil))))
        (pss_one ps_never)
        pss_nil)
      (pss_cons (ps_if (pt_val (pe_callB call_isi (by rfl) T.isinstance (by decide +kernel) (pa_cons (pv 0) (pa_cons (pe_bltn (v := .ty "tuple") (by rfl) T.tuple (by decide +kernel) rfl) pa_nil))))
        (pss_one ps_never)
        pss_nil)
      (pss_cons (ps_if (pt_val (pe_callB call_isi (by rfl) T.isinstance (by decide +kernel) (pa_cons (pv 0) (pa_cons (pe_bltn (v := .ty "dict") (by rfl) T.dict (by decide +kernel) rfl) pa_nil))))
        (pss_one ps_never)
        pss_nil)
      (pss_one (ps_ret (pv 0)))))), ?_⟩
    refine ⟨_, rfl, _, .ty "list", t, .type "list", false, rfl, .ty _, ty, e1, false, rfl, iteF ?_⟩
    refine ⟨_, rfl, _, .ty "tuple", t, .type "tuple", false, rfl, .ty _, ty, e2, false, rfl, iteF ?_⟩
    refine ⟨_, rfl, _, .ty "dict", t, .type "dict", false, rfl, .ty _, ty, e3, false, rfl, iteF ?_⟩
    exact ⟨_, rfl, q⟩
end
end V8

set_option Elab.async false
set_option linter.all false
set_option maxRecDepth 100000
set_option maxHeartbeats 8000000
/-! An own error made: its one field. -/
namespace V8
open PySem PySem.Spec PyProof.Rows L2
abbrev s_Barred_init : Stmt := inClass (topS 10) 0
abbrev n_Barred_init : List Str := ["self", "at"]
theorem sc_Barred_init : FnScope ["self", "at"] ["self", "at"] (defScope s_Barred_init) := ⟨rfl, rfl, rfl, by decide +kernel, rfl, by decide +kernel, by decide +kernel⟩
/-- the base of the errors, by its name -/
structure Tb (K : PySem.W.Frag) (mg : Str → Option Value) (CR : Addr) : Prop where
  bE : mg "RepairError" = some (.ref CR)
  bR : ClX.CRead K CR (.type "type")
  bV : PySem.W.findCls K (.ref CR) (.type "type") "__init__" = some (.val (.builtin "ValueError.__init__"))
/-- what repr makes of a text or a number -/
def ReprV (x : V) (r : Str) : Prop := (∃ y, x = .str y ∧ r = reprText y) ∨ ∃ i : Int, x = .int i ∧ i.natAbs.log2 < 1920 ∧ r = toString i
theorem fmtR_of {te : TE} {σ : L2.St} {H H1 : Hp} {Q : VK} {x : V} {r : Str} (hr : ReprV x r) (h8 : r.length ≤ 8000000) (ev : ∀ R : VK, R x H1 → te σ H R) (q : Q (.str r) H1) : tFmtR te σ H Q := by
  rcases hr with ⟨y, rfl, rfl⟩ | ⟨i, rfl, hi, rfl⟩
  · exact ev _ (.inl ⟨y, rfl, by rw [sizeLine_eq]; omega, q⟩)
  · exact ev _ (.inr ⟨i, rfl, hi, q⟩)
def spErr1 (K : PySem.W.Frag) (C : Addr) (fld : Str) : Sp := fun vs H Q _ => ∃ (a : Addr) (x : V) (t : Value) (r : Str), vs = [.ref a, x] ∧ H a = some (exo a C none) ∧ OexC K C ∧ PySem.W.findIn K (.ref C) fld = some none ∧ ReprV x r ∧ r.length ≤ 8000000 ∧
  TyX K H x t ∧ PySem.W.kitOne K t (.type "list") = some false ∧ PySem.W.kitOne K t (.type "tuple") = some false ∧ PySem.W.kitOne K t (.type "dict") = some false ∧
  ∀ dx, H dx = none → dx ≠ a → Q .non (upd (upd H dx (exd dx [(fld, x)])) a (exo a C (some dx)))
section
variable {P : Program} {w : World} {K : PySem.W.Frag} {mg : Str → Option Value} {base : Heap} {CR C : Addr}
theorem ok_Barred {f : Addr} {fd : FuncData} (F : Fun K "__init__" "Barred.__init__" s_Barred_init f fd) (T : Tb K mg CR) (D_copied : Df P w K mg base 1 "copied" (spCopied K)) : FnOk P w K mg base CX0 2 f fd ["self", "at"] (spErr1 K C "at") := by
  refine F.ok sc_Barred_init (fun vs H Q E h => ?_) (fun cdv A outer s H vs Q E hr h => ?_)
  · obtain ⟨a, x, t, r, rfl, _⟩ := h
    rfl
  · obtain ⟨a, x, t, r, rfl, ha, oc, no, rx, r8, ty, e1, e2, e3, q⟩ := h
    refine ⟨_, (pss_cons (ps_expr (pe_baseinit (by rfl) T.bE T.bR T.bV (pa_cons (pv 0) (pa_cons (pe_joinedT (pj_cons pe_str (pj_cons (pe_fmtR (pv 1)) pj_nil))) pa_nil))))
      (pss_one (ps_ost (pv 0) (pe_c D_copied hr (by decide) (by rfl) (pa_cons (pv 1) pa_nil)) rfl))), ?_⟩
    have hh : (Str.empty ++ ("the misreading cannot happen, because of what stands at " : Str)).length ≤ 1000 := by decide +kernel
    refine ⟨_, rfl, _, rfl, ?_, fmtR_of rx r8 (fun R h => ⟨_, rfl, h⟩) ⟨r, rfl, ?_, a, C, _, rfl, (by show 1 ≤ 1000; decide), oc, ha, ?_⟩⟩
    · rw [sizeLine_eq]
      omega
    · rw [len_app, sizeLine_eq]
      omega
    · exact ⟨_, rfl, x, t, rfl, ty, e1, e2, e3, _, rfl, a, C, rfl, oc, no, .inl ⟨ha, fun dx n ne => q dx n ne⟩⟩
end
end V8

set_option Elab.async false
set_option linter.all false
set_option maxRecDepth 100000
set_option maxHeartbeats 8000000
/-! The errors of one field, and TooMany. -/
namespace V8
open PySem PySem.Spec PyProof.Rows L2
abbrev s_BadTable_init : Stmt := inClass (topS 9) 0
abbrev n_BadTable_init : List Str := ["self", "part"]
theorem sc_BadTable_init : FnScope ["self", "part"] ["self", "part"] (defScope s_BadTable_init) := ⟨rfl, rfl, rfl, by decide +kernel, rfl, by decide +kernel, by decide +kernel⟩
abbrev s_Unlike_init : Stmt := inClass (topS 11) 0
abbrev n_Unlike_init : List Str := ["self", "letter"]
theorem sc_Unlike_init : FnScope ["self", "letter"] ["self", "letter"] (defScope s_Unlike_init) := ⟨rfl, rfl, rfl, by decide +kernel, rfl, by decide +kernel, by decide +kernel⟩
section
variable {P : Program} {w : World} {K : PySem.W.Frag} {mg : Str → Option Value} {base : Heap} {CR C : Addr}
theorem ok_BadTable {f : Addr} {fd : FuncData} (F : Fun K "__init__" "BadTable.__init__" s_BadTable_init f fd) (T : Tb K mg CR) (D_copied : Df P w K mg base 1 "copied" (spCopied K)) : FnOk P w K mg base CX0 2 f fd ["self", "part"] (spErr1 K C "part") := by
  refine F.ok sc_BadTable_init (fun vs H Q E h => ?_) (fun cdv A outer s H vs Q E hr h => ?_)
  · obtain ⟨a, x, t, r, rfl, _⟩ := h
    rfl
  · obtain ⟨a, x, t, r, rfl, ha, oc, no, rx, r8, ty, e1, e2, e3, q⟩ := h
    refine ⟨_, (pss_cons (ps_expr (pe_baseinit (by rfl) T.bE T.bR T.bV (pa_cons (pv 0) (pa_cons (pe_joinedT (pj_cons (pe_fmtR (pv 1)) (pj_cons pe_str pj_nil))) pa_nil))))
      (pss_one (ps_ost (pv 0) (pe_c D_copied hr (by decide) (by rfl) (pa_cons (pv 1) pa_nil)) rfl))), ?_⟩
    have hh : Str.empty.length ≤ 1000 := by decide +kernel
    have ht : (" is not of the kind that it should be" : Str).length ≤ 1000 := by decide +kernel
    rcases rx with ⟨y, rfl, rfl⟩ | ⟨i, rfl, hi, rfl⟩
    · refine ⟨_, rfl, _, rfl, .inl ⟨y, rfl, ?_, reprText y, rfl, ?_, _, rfl, ?_, a, C, _, rfl, (by show 1 ≤ 1000; decide), oc, ha, ?_⟩⟩
      · rw [sizeLine_eq]
        omega
      · rw [len_app, sizeLine_eq]
        omega
      · rw [len_app, len_app, sizeLine_eq]
        omega
      · exact ⟨_, rfl, _, t, rfl, ty, e1, e2, e3, _, rfl, a, C, rfl, oc, no, .inl ⟨ha, fun dx n ne => q dx n ne⟩⟩
    · refine ⟨_, rfl, _, rfl, .inr ⟨i, rfl, hi, toString i, rfl, ?_, _, rfl, ?_, a, C, _, rfl, (by show 1 ≤ 1000; decide), oc, ha, ?_⟩⟩
      · rw [len_app, sizeLine_eq]
        omega
      · rw [len_app, len_app, sizeLine_eq]
        omega
      · exact ⟨_, rfl, _, t, rfl, ty, e1, e2, e3, _, rfl, a, C, rfl, oc, no, .inl ⟨ha, fun dx n ne => q dx n ne⟩⟩
theorem ok_Unlike {f : Addr} {fd : FuncData} (F : Fun K "__init__" "Unlike.__init__" s_Unlike_init f fd) (T : Tb K mg CR) (D_copied : Df P w K mg base 1 "copied" (spCopied K)) : FnOk P w K mg base CX0 2 f fd ["self", "letter"] (spErr1 K C "letter") := by
  refine F.ok sc_Unlike_init (fun vs H Q E h => ?_) (fun cdv A outer s H vs Q E hr h => ?_)
  · obtain ⟨a, x, t, r, rfl, _⟩ := h
    rfl
  · obtain ⟨a, x, t, r, rfl, ha, oc, no, rx, r8, ty, e1, e2, e3, q⟩ := h
    refine ⟨_, (pss_cons (ps_expr (pe_baseinit (by rfl) T.bE T.bR T.bV (pa_cons (pv 0) (pa_cons (pe_joinedT (pj_cons (pe_fmtR (pv 1)) (pj_cons pe_str pj_nil))) pa_nil))))
      (pss_one (ps_ost (pv 0) (pe_c D_copied hr (by decide) (by rfl) (pa_cons (pv 1) pa_nil)) rfl))), ?_⟩
    have hh : Str.empty.length ≤ 1000 := by decide +kernel
    have ht : (" is told in two unlike ways" : Str).length ≤ 1000 := by decide +kernel
    rcases rx with ⟨y, rfl, rfl⟩ | ⟨i, rfl, hi, rfl⟩
    · refine ⟨_, rfl, _, rfl, .inl ⟨y, rfl, ?_, reprText y, rfl, ?_, _, rfl, ?_, a, C, _, rfl, (by show 1 ≤ 1000; decide), oc, ha, ?_⟩⟩
      · rw [sizeLine_eq]
        omega
      · rw [len_app, sizeLine_eq]
        omega
      · rw [len_app, len_app, sizeLine_eq]
        omega
      · exact ⟨_, rfl, _, t, rfl, ty, e1, e2, e3, _, rfl, a, C, rfl, oc, no, .inl ⟨ha, fun dx n ne => q dx n ne⟩⟩
    · refine ⟨_, rfl, _, rfl, .inr ⟨i, rfl, hi, toString i, rfl, ?_, _, rfl, ?_, a, C, _, rfl, (by show 1 ≤ 1000; decide), oc, ha, ?_⟩⟩
      · rw [len_app, sizeLine_eq]
        omega
      · rw [len_app, len_app, sizeLine_eq]
        omega
      · exact ⟨_, rfl, _, t, rfl, ty, e1, e2, e3, _, rfl, a, C, rfl, oc, no, .inl ⟨ha, fun dx n ne => q dx n ne⟩⟩
end
end V8

set_option Elab.async false
set_option linter.all false
set_option maxRecDepth 100000
set_option maxHeartbeats 8000000
/-! A def that raises an own error of one field. -/
namespace V8
open PySem PySem.Spec PyProof.Rows L2
/-- an own error by its name: what makes it -/
structure Erm (P : Program) (w : World) (K : PySem.W.Frag) (mg : Str → Option Value) (base : Heap) (x fld : Str) (C : Addr) : Prop where
  oc : OexC K C
  no : PySem.W.findIn K (.ref C) fld = some none
  ex : ∃ (fI : Addr) (fd : FuncData) (ps : List Str), PySem.W.findIn K (.ref C) "__init__" = some (some (.ref fI)) ∧ PySem.W.typeIn K (.ref fI) = some (.type "function") ∧ FnOk P w K mg base CX0 2 fI fd ps (spErr1 K C fld) ∧ Binds K fd ps [] ∧ mg x = some (.ref C)
section
variable {X : Cx} {x fld : Str} {C : Addr} {j : Nat} {p pos pos2 : Pos} {e : Expr} {es : List Expr} {ta : TA} {W : WX}
theorem ps_raise1 (M : Erm X.prog X.w X.K X.mg X.base x fld C) (hc : X.calm = true) (tk : Takes X W) (hr : Room j X.A) (hj : 3 ≤ j) (hg : Gl X x) (ha : PA X (e :: es) ta)
    (hdb : (x == ("__debug__" : Str)) = false := by decide) (he : starEach (e :: es) X.env = (false, eval e X.env) :: starEach es X.env := by rfl) (hpl : (backTo pos (starEach es X.env)).any (·.1) = false := by rfl) :
    PS X (.Raise (some (.Call (.Name x p) (e :: es) [] pos)) none pos2) (fun _ σ H => tMkO C (spErr1 X.K C fld) [] ta σ H fun cls d H' => W cls d σ H') := by
  obtain ⟨fI, fd, ps, iC, tI, F, b, hm⟩ := M.ex
  exact ps_raise hc tk (pmk_oex M.oc iC tI F (hr.mono hj) b .nil pass0 hg hm ha hdb he hpl)
/-- what the making of such an error asks -/
theorem made1 {K : PySem.W.Frag} {C : Addr} {fld : Str} {H : Hp} {Q : XK} {x : V} {t : Value} {r : Str} (oc : OexC K C) (no : PySem.W.findIn K (.ref C) fld = some none) (rx : ReprV x r) (r8 : r.length ≤ 8000000) (ty : ∀ a, H a = none → TyX K (upd H a (exo a C none)) x t)
    (e1 : PySem.W.kitOne K t (.type "list") = some false) (e2 : PySem.W.kitOne K t (.type "tuple") = some false) (e3 : PySem.W.kitOne K t (.type "dict") = some false) (q : ∀ d H', H d = none → Same H H' → H' d = some (.xd [(fld, x)]) → Q (.ref C) (some d) H') (a : Addr) (na : H a = none) :
    spErr1 K C fld (.ref a :: ([x] ++ [])) (upd H a (exo a C none)) (fun v H2 => v = .non ∧ ∃ (d : Addr) (fs : List (Str × V)), H2 a = some (exo a C (some d)) ∧ H2 d = some (exd d fs) ∧ H d = none ∧ Q (.ref C) (some d) (upd (del H2 a) d (.xd fs))) (fun _ _ _ => False) := by
  refine ⟨a, x, t, r, rfl, upd_same, oc, no, rx, r8, ty a na, e1, e2, e3, fun dx n ne => ⟨rfl, dx, [(fld, x)], upd_same, ?_, ?_, ?_⟩⟩
  · rw [upd_ne ne]
    exact upd_same
  · rw [upd_ne ne] at n
    exact n
  · rw [upd_ne ne] at n
    refine q dx _ n (fun b o e => ?_) upd_same
    have hb := ne_of_none e n
    have hba := ne_of_none e na
    rw [upd_ne hb, del_ne hba, upd_ne hba, upd_ne hb, upd_ne hba]
    exact e
end
def spCheck (K : PySem.W.Frag) (CM CB : Addr) : Sp := fun vs H Q E => ∃ y, vs = [y] ∧ ((∃ z u, y = .ref z ∧ MisAt CM H z u ∧ Q .non H) ∨ (∃ t, TyX K H y t ∧ PySem.W.kitOne K t (.ref CM) = some false ∧ ∀ d H', H d = none → Same H H' → H' d = some (.xd [("part", .str "other")]) → E (.ref CB) (some d) H'))
section
variable {P : Program} {w : World} {K : PySem.W.Frag} {mg : Str → Option Value} {base : Heap} {CM CJ CB : Addr}
theorem ok_check_otherX {f : Addr} {fd : FuncData} (F : Fun K "check_other" "check_other" s_check_other f fd) (T : Ty K mg CM CJ) (E_BadTable : Erm P w K mg base "BadTable" "part" CB) : FnOk P w K mg base (L2.CX P w) 4 f fd ["other"] (spCheck K CM CB) := by
  refine F.okX sc_check_other (fun vs H Q E h => ?_) (fun cdv A outer s H vs Q E hr h => ?_)
  · obtain ⟨y, rfl, _⟩ := h
    rfl
  · obtain ⟨y, rfl, h⟩ := h
    refine ⟨_, (pss_one (ps_if (pt_not (pt_val (pe_callB call_isi (by rfl) T.isinstance (by decide +kernel) (pa_cons (pv 0) (pa_cons (pe_gv T.gMisreading (by rfl)) pa_nil)))))
        (pss_one (ps_raise1 E_BadTable rfl (takes_of rfl rfl rfl rfl) hr (by decide) (by rfl) (pa_cons pe_str pa_nil)))
        pss_nil)), ?_⟩
    rcases h with ⟨z, u, rfl, M, q⟩ | ⟨t, ty, e, q⟩
    · obtain ⟨dx, fs, hx⟩ := M.ins
      exact ⟨_, rfl, _, .ref CM, .ref CM, .ref CM, true, rfl, .own _, .base (.ins hx T.cl T.tA T.tB T.tC T.tD), T.mM, true, rfl, iteF q⟩
    · refine ⟨_, rfl, y, .ref CM, t, .ref CM, false, rfl, .own _, ty, e, false, rfl, iteT ⟨by show 1 ≤ 1000; decide, fun a na => ?_⟩⟩
      exact made1 E_BadTable.oc E_BadTable.no (.inl ⟨_, rfl, rfl⟩) (by decide +kernel) (fun _ _ => ty_str _) (kit_ty (by decide +kernel)) (kit_ty (by decide +kernel)) (kit_ty (by decide +kernel)) q a na
end
end V8

set_option Elab.async false
set_option linter.all false
set_option maxRecDepth 100000
set_option maxHeartbeats 8000000
/-! TooMany. -/
namespace V8
open PySem PySem.Spec PyProof.Rows L2
abbrev s_TooMany_init : Stmt := inClass (topS 12) 0
abbrev n_TooMany_init : List Str := ["self", "what", "most"]
theorem sc_TooMany_init : FnScope ["self", "what", "most"] ["self", "what", "most"] (defScope s_TooMany_init) := ⟨rfl, rfl, rfl, by decide +kernel, rfl, by decide +kernel, by decide +kernel⟩
def spTooMany (K : PySem.W.Frag) (C : Addr) : Sp := fun vs H Q _ => ∃ (a : Addr) (y : Str) (i : Int), vs = [.ref a, .str y, .int i] ∧ H a = some (exo a C none) ∧ OexC K C ∧ PySem.W.findIn K (.ref C) "what" = some none ∧ PySem.W.findIn K (.ref C) "most" = some none ∧ (reprText y).length ≤ 8000000 ∧ i.natAbs.log2 < 1920 ∧ (toString i : Str).length ≤ 8000 ∧
  ∀ dx, H dx = none → dx ≠ a → Q .non (upd (upd (upd H dx (exd dx [("what", .str y)])) a (exo a C (some dx))) dx (exd dx [("most", .int i), ("what", .str y)]))
section
variable {P : Program} {w : World} {K : PySem.W.Frag} {mg : Str → Option Value} {base : Heap} {CR C : Addr}
theorem ok_TooMany {f : Addr} {fd : FuncData} (F : Fun K "__init__" "TooMany.__init__" s_TooMany_init f fd) (T : Tb K mg CR) (D_copied : Df P w K mg base 1 "copied" (spCopied K)) : FnOk P w K mg base CX0 2 f fd ["self", "what", "most"] (spTooMany K C) := by
  refine F.ok sc_TooMany_init (fun vs H Q E h => ?_) (fun cdv A outer s H vs Q E hr h => ?_)
  · obtain ⟨a, y, i, rfl, _⟩ := h
    rfl
  · obtain ⟨a, y, i, rfl, ha, oc, n1, n2, ly, hi, li, q⟩ := h
    refine ⟨_, (pss_cons (ps_expr (pe_baseinit (by rfl) T.bE T.bR T.bV (pa_cons (pv 0) (pa_cons (pe_joinedT (pj_cons pe_str (pj_cons (pe_fmtR (pv 1)) (pj_cons pe_str (pj_cons (pe_fmtR (pv 2)) pj_nil))))) pa_nil))))
      (pss_cons (ps_ost (pv 0) (pe_c D_copied hr (by decide) (by rfl) (pa_cons (pv 1) pa_nil)) rfl)
      (pss_one (ps_ost (pv 0) (pe_c D_copied hr (by decide) (by rfl) (pa_cons (pv 2) pa_nil)) rfl)))), ?_⟩
    have h1 : (Str.empty ++ ("too many: " : Str)).length ≤ 1000 := by decide +kernel
    have h2 : (", of which there can be " : Str).length ≤ 1000 := by decide +kernel
    refine ⟨_, rfl, _, rfl, ?_, _, rfl, .inl ⟨y, rfl, ?_, reprText y, rfl, ?_, _, rfl, ?_, _, rfl, .inr ⟨i, rfl, hi, toString i, rfl, ?_, a, C, _, rfl, (by show 1 ≤ 1000; decide), oc, ha, ?_⟩⟩⟩
    · rw [sizeLine_eq]
      omega
    · rw [sizeLine_eq]
      omega
    · rw [len_app, sizeLine_eq]
      omega
    · rw [len_app, len_app, sizeLine_eq]
      omega
    · rw [len_app, len_app, len_app, sizeLine_eq]
      omega
    · refine ⟨_, rfl, _, _, rfl, ty_str _, kit_ty (by decide +kernel), kit_ty (by decide +kernel), kit_ty (by decide +kernel), _, rfl, a, C, rfl, oc, n1, .inl ⟨ha, fun dx n ne => ?_⟩⟩
      refine ⟨_, rfl, _, _, rfl, .base (.int i), kit_ty (by decide +kernel), kit_ty (by decide +kernel), kit_ty (by decide +kernel), _, rfl, a, C, rfl, oc, n2, .inr ⟨dx, [("what", .str y)], upd_same, ?_, (by show 1 ≤ 900; decide), q dx n ne⟩⟩
      rw [upd_ne ne]
      exact upd_same
end
end V8

set_option Elab.async false
set_option linter.all false
set_option maxRecDepth 100000
set_option maxHeartbeats 8000000
/-! one <= other; only. -/
namespace V8
open PySem PySem.Spec PyProof.Rows L2
abbrev s_Misreading_le : Stmt := inClass (topS 29) 12
abbrev n_Misreading_le : List Str := ["self", "other", "letter"]
theorem sc_Misreading_le : FnScope ["self", "other", "letter"] ["self", "other"] (defScope s_Misreading_le) := ⟨rfl, rfl, rfl, by decide +kernel, rfl, by decide +kernel, by decide +kernel⟩
theorem keys_take {u : Tab} {i : Nat} (hik : i < (keysOf u).length) : (keysOf u).take (i + 1) = (keysOf u).take i ++ [(keysOf u)[i]] := by
  rw [List.take_add_one, List.getElem?_eq_getElem hik]
  rfl
theorem keys_not {u : Tab} {i : Nat} {f : Fu} (hik : i < (keysOf u).length) : (keysOf u)[i] ∉ (mkT f ((keysOf u).take i)).map (·.1) := fun z => by
  have h1 := mkT_keys _ _ _ z
  have nd := keysOf_nd u
  rw [← List.take_append_drop (i + 1) (keysOf u), keys_take hik] at nd
  exact (List.nodup_append.mp (List.nodup_append.mp nd).1).2.2 _ h1 _ (by simp) rfl
/-- one letter more in the table -/
theorem put_take {u : Tab} {i : Nat} {f : Fu} {r : List Nat} (hik : i < (keysOf u).length) (e : f (keysOf u)[i] = some r) : putK (encT (mkT f ((keysOf u).take i))) (Sum.inr (L1 (keysOf u)[i])) (V.str (Sx r)) = encT (mkT f ((keysOf u).take (i + 1))) := by
  rw [putK_enc, putT_new (keys_not hik), keys_take hik, mkT_snoc, e]
theorem skip_take {u : Tab} {i : Nat} {f : Fu} (hik : i < (keysOf u).length) (e : f (keysOf u)[i] = none) : mkT f ((keysOf u).take i) = mkT f ((keysOf u).take (i + 1)) := by
  rw [keys_take hik, mkT_snoc, e]
  exact (List.append_nil _).symm
theorem mkT_small {u : Tab} (f : Fu) (i : Nat) : (encT (mkT f ((keysOf u).take i))).length < sizeLine := by
  have tl := mkT_len f ((keysOf u).take i)
  rw [List.length_take] at tl
  have := keysOf_len u
  rw [encT_len]
  exact small1000 (by omega)
end V8

set_option Elab.async false
set_option linter.all false
set_option maxRecDepth 100000
set_option maxHeartbeats 4000000
/-! Signs of an own class: with a value of any other kind on the right; x >= y, where y's own <= answers; x |= y, where there is no __ior__. -/
namespace PySem.W
open PySem PySem.Spec PySem.Calls PyProof.Rows
theorem slot_obj_ge : Slot "object" "__ge__" "object.__ge__" := by
  refine .of (owner := "object") (n := "__ge__") ?_ (by decide +kernel) (by decide +kernel) (by decide +kernel) (.inl (by decide +kernel)) ?_
  · rw [typeLookup_type, builtinLookup_eq_fast]
    kernel_rfl
  · rw [isSubtype_type]
    kernel_rfl
theorem entry_obj_ge : entryFor table "object.__ge__" = some Builtin.«object.__ge__» := entryFor_of_tree (by kernel_rfl)
theorem args_obj_ge (u v : Value) : argsOk "object.__ge__" ⟨[u, v], []⟩ := by
  unfold argsOk
  kernel_rfl
section
variable {prog : Program} {w : World} {A : Around} {E : Value → Shared → Prop} {s : Shared} {K : Frag} {m : Str → Option Value} {h₀ : Heap} {L x y C f : Addr} {ox oy : Obj} {od od2 : Option Obj}
/-- object's own >= says that it does not know -/
theorem obj_ge_none {b : Value} {Q : Value → Shared → Prop} (X : K.In s.heap) (I : InstAt s.heap x ox C od) (hm : mroIn K C (.type "object") = some true) (q : Q .notImplemented s) : wpAny (model prog w) A (call (.builtin "object.__ge__") [.ref x, b]) Q E s := by
  refine wpAny_call (codeAny_call_builtin slot_obj_ge.plain entry_obj_ge (check_slot (n := "__ge__") (by decide +kernel) (by decide +kernel) (I.type.andThen (looks_mroIn X hm)) (args_obj_ge _ _) ?_))
  have e : Builtin.«object.__ge__» ⟨[.ref x, b], []⟩ = (do
      let _ ← slotArgs "__ge__" 1 ⟨[.ref x, b], []⟩
      ret .notImplemented) := rfl
  rw [e]
  repeat wp_step
  exact q
theorem try_ge {b : Value} {Q : Option Value → Shared → Prop} (X : K.In s.heap) (I : InstAt s.heap x ox C od) (hm : mroIn K C (.type "object") = some true) (no : findIn K (.ref C) "__ge__" = some (some (.builtin "object.__ge__"))) (q : Q none s) : wpAny (model prog w) A (tryCompare (.ref x) "__ge__" b) Q E s := by
  unfold tryCompare
  have told : wpAny (model prog w) A (callSpecialIfBound? (.ref x) "__ge__" [b]) (fun r s' => r = some .notImplemented ∧ s' = s) E s := by
    simp only [callSpecialIfBound?, bindSpecialIfBound?]
    refine wpAny_holding (wpAny_bind (wpAny_bind (wpAny_bind (I.type.here ((looks_findIn X no).here (wpAny_bind (wpAny_askSetting (wpAny_ite ?_))))))))
    have last : wpAny (model prog w) A (call (.builtin "object.__ge__") ([.ref x] ++ [b]) >>= fun v => pure (some v)) (fun r s' => r = some .notImplemented ∧ s' = s) E s :=
      wpAny_bind (obj_ge_none X I hm (wpAny_pure ⟨rfl, rfl⟩))
    split
    · exact wpAny_bind (wpAny_of_eq (slot_obj_ge.bind _) (wpAny_pure last))
    · exact wpAny_tryCatch (wpAny_bind (wpAny_of_eq (slot_obj_ge.bind _) (wpAny_pure last)))
  refine wpAny_bind (wpAny_mono told (fun r s' z => ?_) fun _ _ e => e)
  obtain ⟨rfl, rfl⟩ := z
  exact wpAny_pure q
/-- x >= y -/
theorem ge_back {Q : Value → Shared → Prop} (hu : A.units < cLine) (F : Fr h₀ L s.heap m) (X₀ : K.In h₀) (I : InstAt s.heap x ox C od) (J : InstAt s.heap y oy C od2) (hm : mroIn K C (.type "object") = some true) (no : findIn K (.ref C) "__ge__" = some (some (.builtin "object.__ge__")))
    (hs : findIn K (.ref C) "__le__" = some (some (.ref f))) (hf : isFn K (.ref f) = true) (h : wpAny (model prog w) A (call (.ref f) [.ref y, .ref x]) (CmpBack Q) E s) : wpAny (model prog w) A (richCompare .GtE (.ref x) (.ref y)) Q E s := by
  have X := X₀.keeps F.keep
  have own : wpAny (model prog w) A (tryCompare (.ref y) "__le__" (.ref x)) (fun r s' => ∃ v, r = some v ∧ Q v s') E s := by
    unfold tryCompare
    refine wpAny_bind (ifBound_K X J hs hf (wpAny_mono h (fun v s' hv => ?_) fun _ _ e => e))
    cases v <;> first
      | exact hv.elim
      | exact wpAny_pure ⟨_, rfl, hv⟩
  unfold richCompare
  simp only [oneThing_ref, cmpInfo]
  refine wpAny_holding (wpAny_bind (wpAny_cRoomFor hu (wpAny_bind (I.type.here (wpAny_bind (J.type.here ?_))))))
  rw [if_neg (by simp)]
  refine wpAny_bind (wpAny_pure ?_)
  simp only [Bool.false_eq_true, if_false, Bool.not_false, if_true]
  refine wpAny_bind (try_ge X I hm no ?_)
  refine wpAny_bind (wpAny_mono own (fun r s' z => ?_) fun _ _ e => e)
  obtain ⟨v, rfl, q⟩ := z
  exact wpAny_pure q
/-- x op b, b of a built-in type T -/
theorem bin_any {op : Operator} {T : String} {b : Value} {fo ro rc : Option Value} {Q : Value → Shared → Prop} (F : Fr h₀ L s.heap m) (X₀ : K.In h₀) (I : InstAt s.heap x ox C od) (hb : Looks (model prog w) s.heap (typeOf b) (.type T)) (hc : selfFirst K C = true)
    (hs : findIn K (.ref C) (PySem.dunder op.info.2) = some (some (.ref f))) (hf : isFn K (.ref f) = true) (hr : findIn K (.ref C) (dunderR op.info.2) = some rc) (hp : rc = none ∨ ∃ g : Addr, rc = some (.ref g))
    (h1 : findIn K (.type T) (PySem.dunder op.info.2) = some fo) (h2 : findIn K (.type T) (dunderR op.info.2) = some ro) (hsub : subIn K (.type T) (.ref C) = some false) (h : wpAny (model prog w) A (call (.ref f) [.ref x, b]) (CmpBack Q) E s) :
    wpAny (model prog w) A (binaryOp op (.ref x) b) Q E s := by
  have X := X₀.keeps F.keep
  obtain ⟨cd, more, e1, e2⟩ := ksp_first hc
  rcases hi : op.info with ⟨sg, nm⟩
  rw [hi] at hs hr h1 h2
  dsimp only at hs hr h1 h2
  have go := ksp_try X I hs hf h
  have tx := I.type (M := model prog w)
  have lf := fills_K (M := model prog w) X e1 e2 hs
  have rf := ksp_fillsT (M := model prog w) X h1 h2
  have su := looks_subIn (M := model prog w) X hsub
  have py := ksp_inPy (M := model prog w) X hs hr hp
  have nopy : Looks (model prog w) s.heap (numberSlotInPython (.type T) nm) false := Looks.of_pure rfl
  have rl := looks_findIn (M := model prog w) X h2
  have ne : (Value.ref C == Value.type T) = false := rfl
  obtain ⟨hh, g, d, tt, os⟩ := s
  simp only [binaryOp, hi]
  refine wpAny_holding (wpAny_bind ?_)
  unfold binaryOp1
  refine wpAny_bind (tx.at (wpAny_bind (hb.at (wpAny_bind (lf.at ?_)))))
  simp only [ne, Bool.false_eq_true, if_false]
  cases hri : ((fo.isSome && !isSeqSlot fo) || (ro.isSome && !isSeqSlot ro)) <;> rw [hri] at rf
  all_goals
    ksp_lk
    refine wpAny_mono go (fun r s' z => ?_) fun _ _ e => e
    obtain ⟨v, rfl, q⟩ := z
    ksp_lk
    exact q
end
end PySem.W

set_option Elab.async false
set_option linter.all false
set_option maxRecDepth 100000
set_option maxHeartbeats 4000000
/-! x op= y of one own class, which has no method for it in place. -/
namespace PySem.W
open PySem PySem.Spec PySem.Calls PyProof.Rows
section
variable {prog : Program} {w : World} {A : Around} {E : Value → Shared → Prop} {s : Shared} {K : Frag} {m : Str → Option Value} {h₀ : Heap} {L x y C f : Addr} {ox oy : Obj} {od od2 : Option Obj}
theorem no_inplace {M : Model} {h : Heap} {nm : String} {add : Bool} {cd : ClassData} (X : K.In h) (hc : clsIn K C = some cd) (hm : cd.mro = [.ref C, .type "object"]) (n1 : findIn K (.ref C) (dunderI nm) = some none) (n2 : typeLookup (.type "object") (dunderI nm) = pure none) : Looks M h (fillsInplaceSlot (.ref C) nm add) false := by
  intro A Q E s k q
  have Lm := ((looks_clsIn (M := M) X hc).andThen (f := fun cd => pure cd.mro) .now).keeps k
  obtain ⟨hh, g, d, tt, os⟩ := s
  have X' : K.In hh := X.keeps k
  have t1 : Looks M hh (typeLookup (.ref C) (dunderI nm)) none := looks_findIn X' n1
  have t2 : Looks M hh (typeLookup (.type "object") (dunderI nm)) none := Looks.of_pure n2
  unfold fillsInplaceSlot
  refine wpAny_bind (Lm.at ?_)
  rw [hm, List.anyM_cons]
  refine wpAny_bind ?_
  repeat lk
  exact q
theorem in_own {op : Operator} {b : Value} {cd : ClassData} {Q : Value → Shared → Prop} (F : Fr h₀ L s.heap m) (X₀ : K.In h₀) (I : InstAt s.heap x ox C od) (hb : Looks (model prog w) s.heap (typeOf b) (.ref C)) (hc : clsIn K C = some cd) (hm : cd.mro = [.ref C, .type "object"])
    (n1 : findIn K (.ref C) (dunderI op.info.2) = some none) (n2 : typeLookup (.type "object") (dunderI op.info.2) = pure none) (hs : findIn K (.ref C) (PySem.dunder op.info.2) = some (some (.ref f))) (hf : isFn K (.ref f) = true)
    (h : wpAny (model prog w) A (call (.ref f) [.ref x, b]) (CmpBack Q) E s) : wpAny (model prog w) A (inplaceOp op (.ref x) b) Q E s := by
  have X := X₀.keeps F.keep
  have go := ksp_try X I hs hf h
  have tx := I.type (M := model prog w)
  have lf := fills_K (M := model prog w) X hc hm hs
  have ni := no_inplace (M := model prog w) (add := op == .Add) X hc hm n1 n2
  obtain ⟨hh, g, d, tt, os⟩ := s
  unfold inplaceOp
  refine wpAny_holding (wpAny_bind (tx.at (wpAny_bind (ni.at ?_))))
  simp only [Bool.false_eq_true, if_false]
  refine wpAny_bind (m := binaryOp1 op.info.2 (.ref x) b) ?_
  unfold binaryOp1
  refine wpAny_bind (tx.at (wpAny_bind (hb.at (wpAny_bind (lf.at ?_)))))
  simp only [beq_self_eq_true, if_true]
  ksp_lk
  refine wpAny_mono go (fun r s' z => ?_) fun _ _ e => e
  obtain ⟨v, rfl, q⟩ := z
  ksp_lk
  exact q
end
end PySem.W

set_option Elab.async false
set_option linter.all false
set_option maxRecDepth 100000
set_option maxHeartbeats 4000000
/-! The rules for these signs. -/
namespace L2
open PySem PySem.Spec PyProof.Rows
section
variable {X : Cx} {n : Nat} {CX : CXT} {C f : Addr} {fd : FuncData} {ps : List Str} {sp : Sp} {E : XK}
/-- what a built-in type says of a sign, beside an own class -/
structure BesideT (K : PySem.W.Frag) (C : Addr) (nm : String) (t : Value) : Prop where
  ex : ∃ (T : String) (fo ro : Option Value), t = .type T ∧ PySem.W.findIn K (.type T) (PySem.dunder nm) = some fo ∧ PySem.W.findIn K (.type T) (PySem.dunderR nm) = some ro ∧ PySem.W.subIn K (.type T) (.ref C) = some false
def rBinAny (K : PySem.W.Frag) (C : Addr) (nm : String) (sp : Sp) (E : XK) : R2 := fun x y H Q => ∃ a dx fs t, x = .ref a ∧ H a = some (.ins C dx fs) ∧ TyX K H y t ∧ BesideT K C nm t ∧ sp [.ref a, y] H Q E
theorem op_binAny {op : Operator} (F : FnOk X.prog X.w X.K X.mg X.base CX n f fd ps sp) (hb : Binds X.K fd ps []) (hx : Passes CX X E) (hs : PySem.W.findIn X.K (.ref C) (PySem.dunder op.info.2) = some (some (.ref f))) (hf : PySem.W.isFn X.K (.ref f) = true) (hc : PySem.W.selfFirst X.K C = true)
    (hr : PySem.W.findIn X.K (.ref C) (PySem.dunderR op.info.2) = some none) (hm : Room n X.A) : OpR X (binaryOp op) (rBinAny X.K C op.info.2 sp E) := by
  intro pins s σ H x y v u Q I rx ry h
  obtain ⟨a, dx, fs, t, rfl, ha, ty, bt, hsp⟩ := h
  cases rx
  obtain ⟨od, J⟩ := inst_at I ha
  obtain ⟨m, hF⟩ := I.fr
  obtain ⟨P, Z, p, _⟩ := kit_of I ry ty
  obtain ⟨T, fo, ro, rfl, h1, h2, h3⟩ := bt.ex
  refine PySem.W.bin_any hF I.ok.mod.kin J (Z.ty _ _ I.kIn p) hc hs hf hr (.inl rfl) h1 h2 h3 (thn (run_own (Sub.here hm) F hb hx I (show Vals [V.ref a, y] [Value.ref a, u] from .cons rfl (.cons ry .nil)) hsp) fun r s' q => ?_)
  obtain ⟨z, H', I', rz, q⟩ := q
  exact notNI rz ⟨z, H', I', rz, q⟩
def rGeOwn (C : Addr) (sp : Sp) (E : XK) : R2 := fun x y H Q => ∃ a dx fs b dy gs, x = .ref a ∧ H a = some (.ins C dx fs) ∧ y = .ref b ∧ H b = some (.ins C dy gs) ∧ sp [.ref b, .ref a] H Q E
theorem op_geOwn (F : FnOk X.prog X.w X.K X.mg X.base CX n f fd ps sp) (hb : Binds X.K fd ps []) (hx : Passes CX X E) (o : Own X.K C "__le__" f) (no : PySem.W.findIn X.K (.ref C) "__ge__" = some (some (.builtin "object.__ge__"))) (hm : PySem.W.mroIn X.K C (.type "object") = some true) (hr : Room n X.A) : OpR X (compareOp .GtE) (rGeOwn C sp E) := by
  intro pins s σ H x y v u Q I rx ry h
  obtain ⟨a, dx, fs, b, dy, gs, rfl, ha, rfl, hb2, hsp⟩ := h
  cases rx
  cases ry
  obtain ⟨od, J⟩ := inst_at I ha
  obtain ⟨od2, J2⟩ := inst_at I hb2
  obtain ⟨m, hF⟩ := I.fr
  refine PySem.W.ge_back hr.units0 hF I.ok.mod.kin J J2 hm no o.find o.fn (thn (run_own (Sub.here hr) F hb hx I (show Vals [V.ref b, V.ref a] [Value.ref b, Value.ref a] from .cons rfl (.cons rfl .nil)) hsp) fun r s' q => ?_)
  obtain ⟨z, H', I', rz, q⟩ := q
  exact notNI rz ⟨z, H', I', rz, q⟩
theorem op_inOwnP {op : Operator} {cd : ClassData} (F : FnOk X.prog X.w X.K X.mg X.base CX n f fd ps sp) (hb : Binds X.K fd ps []) (hx : Passes CX X E) (hs : PySem.W.findIn X.K (.ref C) (PySem.dunder op.info.2) = some (some (.ref f))) (hf : PySem.W.isFn X.K (.ref f) = true) (hc : PySem.W.clsIn X.K C = some cd) (hm : cd.mro = [.ref C, .type "object"])
    (n1 : PySem.W.findIn X.K (.ref C) (PySem.dunderI op.info.2) = some none) (n2 : typeLookup (.type "object") (PySem.dunderI op.info.2) = pure none) (hr : Room n X.A) : OpR X (inplaceOp op) (rBinOwn X.K C sp E) := by
  intro pins s σ H x y v u Q I rx ry h
  obtain ⟨a, dx, fs, b, dy, gs, rfl, ha, rfl, hb2, hsp⟩ := h
  cases rx
  cases ry
  obtain ⟨od, J⟩ := inst_at I ha
  obtain ⟨od2, J2⟩ := inst_at I hb2
  obtain ⟨m, hF⟩ := I.fr
  refine PySem.W.in_own hF I.ok.mod.kin J J2.type hc hm n1 n2 hs hf (thn (run_own (Sub.here hr) F hb hx I (show Vals [V.ref a, V.ref b] [Value.ref a, Value.ref b] from .cons rfl (.cons rfl .nil)) hsp) fun r s' q => ?_)
  obtain ⟨z, H', I', rz, q⟩ := q
  exact notNI rz ⟨z, H', I', rz, q⟩
end
theorem no_ior : typeLookup (.type "object") (PySem.dunderI (Operator.info .BitOr).2) = pure none := by
  rw [typeLookup_type, builtinLookup_eq_fast]
  kernel_rfl
end L2

set_option Elab.async false
set_option linter.all false
set_option maxRecDepth 100000
set_option maxHeartbeats 8000000
/-! Defs, signs and makers that may raise. -/
namespace V8
open PySem PySem.Spec PyProof.Rows L2
/-- a def of the text that may raise, by its name -/
structure DfX (P : Program) (w : World) (K : PySem.W.Frag) (mg : Str → Option Value) (base : Heap) (k : Nat) (x : Str) (sp : Sp) : Prop where
  ex : ∃ (f : Addr) (fd : FuncData) (ps : List Str), FnOk P w K mg base (L2.CX P w) k f fd ps sp ∧ mg x = some (.ref f) ∧ PySem.W.keepIn K (.ref f) = true ∧ Binds K fd ps []
/-- a sign's method that may raise -/
structure BoX (P : Program) (w : World) (K : PySem.W.Frag) (mg : Str → Option Value) (base : Heap) (k : Nat) (C : Addr) (m : Str) (sp : Sp) : Prop where
  ex : ∃ (f : Addr) (fd : FuncData) (ps : List Str), FnOk P w K mg base (L2.CX P w) k f fd ps sp ∧ Binds K fd ps [] ∧ PySem.W.findIn K (.ref C) m = some (some (.ref f)) ∧ PySem.W.isFn K (.ref f) = true ∧ PySem.W.selfFirst K C = true
/-- what a context lets through -/
theorem passTk {X : Cx} {E : XK} (tk : Takes X fun cls d _ H => E cls d H) : Passes (L2.CX X.prog X.w) X E := passes_call tk fun _ _ _ _ h => h
section
variable {X : Cx} {k j : Nat} {C : Addr} {x : Str} {sp : Sp} {p pos : Pos} {e : Expr} {es : List Expr} {t : TA} {E : XK}
theorem pe_cX (c : DfX X.prog X.w X.K X.mg X.base k x sp) (hx : Passes (L2.CX X.prog X.w) X E) (hr : Room j X.A) (hk : k ≤ j) (hg : Gl X x) (ha : PA X (e :: es) t)
    (hdb : (x == ("__debug__" : Str)) = false := by decide) (he : starEach (e :: es) X.env = (false, eval e X.env) :: starEach es X.env := by rfl) (hpl : (backTo pos (starEach es X.env)).any (·.1) = false := by rfl) : PE X (.Call (.Name x p) (e :: es) [] pos) (tCall sp [] E t) := by
  obtain ⟨f, fd, ps, F, hm, kp, b⟩ := c.ex
  exact pe_call F (hr.mono hk) hg hm kp b .nil hx ha hdb he hpl
theorem op_binX {op : Operator} {m : Str} (c : BoX X.prog X.w X.K X.mg X.base k C m sp) (hx : Passes (L2.CX X.prog X.w) X E) (hr : Room j X.A) (hk : k ≤ j) (hm : PySem.dunder op.info.2 = m := by rfl) : OpR X (binaryOp op) (rBinOwn X.K C sp E) := by
  obtain ⟨f, fd, ps, F, b, h1, h2, h3⟩ := c.ex
  subst hm
  exact op_binOwn F b hx h1 h2 h3 (hr.mono hk)
theorem op_anyX {op : Operator} {m : Str} (c : BoX X.prog X.w X.K X.mg X.base k C m sp) (hx : Passes (L2.CX X.prog X.w) X E) (hn : PySem.W.findIn X.K (.ref C) (PySem.dunderR op.info.2) = some none) (hr : Room j X.A) (hk : k ≤ j) (hm : PySem.dunder op.info.2 = m := by rfl) : OpR X (binaryOp op) (rBinAny X.K C op.info.2 sp E) := by
  obtain ⟨f, fd, ps, F, b, h1, h2, h3⟩ := c.ex
  subst hm
  exact op_binAny F b hx h1 h2 h3 hn (hr.mono hk)
theorem op_leX (c : BoX X.prog X.w X.K X.mg X.base k C "__le__" sp) (hx : Passes (L2.CX X.prog X.w) X E) (hr : Room j X.A) (hk : k ≤ j) : OpR X (compareOp .LtE) (rLeOwn X.K C sp E) := by
  obtain ⟨f, fd, ps, F, b, h1, h2, h3⟩ := c.ex
  exact op_leOwn F b hx ⟨h1, h2⟩ (hr.mono hk)
theorem op_geX (c : BoX X.prog X.w X.K X.mg X.base k C "__le__" sp) (hx : Passes (L2.CX X.prog X.w) X E) (no : PySem.W.findIn X.K (.ref C) "__ge__" = some (some (.builtin "object.__ge__"))) (hm : PySem.W.mroIn X.K C (.type "object") = some true) (hr : Room j X.A) (hk : k ≤ j) : OpR X (compareOp .GtE) (rGeOwn C sp E) := by
  obtain ⟨f, fd, ps, F, b, h1, h2, h3⟩ := c.ex
  exact op_geOwn F b hx ⟨h1, h2⟩ no hm (hr.mono hk)
/-- what | in place asks of the class -/
structure NoIn (K : PySem.W.Frag) (C : Addr) : Prop where
  ex : ∃ cd, PySem.W.clsIn K C = some cd ∧ cd.mro = [.ref C, .type "object"]
  n1 : PySem.W.findIn K (.ref C) "__ior__" = some none
theorem ip_orX (c : BoX X.prog X.w X.K X.mg X.base k C "__or__" sp) (hx : Passes (L2.CX X.prog X.w) X E) (ni : NoIn X.K C) (hr : Room j X.A) (hk : k ≤ j) : PIp X .BitOr (rBinOwn X.K C sp E) := by
  obtain ⟨f, fd, ps, F, b, h1, h2, h3⟩ := c.ex
  obtain ⟨cd, e1, e2⟩ := ni.ex
  intro pins s σ H x y v u Q I r1 r2 h
  exact op_inOwnP (op := .BitOr) F b hx h1 h2 e1 e2 ni.n1 no_ior (hr.mono hk) pins s σ H x y v u Q I r1 r2 h
end
/-- TooMany by its name -/
structure ErmT (P : Program) (w : World) (K : PySem.W.Frag) (mg : Str → Option Value) (base : Heap) (C : Addr) : Prop where
  oc : OexC K C
  n1 : PySem.W.findIn K (.ref C) "what" = some none
  n2 : PySem.W.findIn K (.ref C) "most" = some none
  ex : ∃ (fI : Addr) (fd : FuncData) (ps : List Str), PySem.W.findIn K (.ref C) "__init__" = some (some (.ref fI)) ∧ PySem.W.typeIn K (.ref fI) = some (.type "function") ∧ FnOk P w K mg base CX0 2 fI fd ps (spTooMany K C) ∧ Binds K fd ps [] ∧ mg "TooMany" = some (.ref C)
section
variable {X : Cx} {C : Addr} {j : Nat} {p pos pos2 : Pos} {e : Expr} {es : List Expr} {ta : TA} {W : WX}
theorem ps_raise2 (M : ErmT X.prog X.w X.K X.mg X.base C) (hc : X.calm = true) (tk : Takes X W) (hr : Room j X.A) (hj : 3 ≤ j) (hg : Gl X "TooMany") (ha : PA X (e :: es) ta)
    (hdb : (("TooMany" : Str) == ("__debug__" : Str)) = false := by decide) (he : starEach (e :: es) X.env = (false, eval e X.env) :: starEach es X.env := by rfl) (hpl : (backTo pos (starEach es X.env)).any (·.1) = false := by rfl) :
    PS X (.Raise (some (.Call (.Name "TooMany" p) (e :: es) [] pos)) none pos2) (fun _ σ H => tMkO C (spTooMany X.K C) [] ta σ H fun cls d H' => W cls d σ H') := by
  obtain ⟨fI, fd, ps, iC, tI, F, b, hm⟩ := M.ex
  exact ps_raise hc tk (pmk_oex M.oc iC tI F (hr.mono hj) b .nil pass0 hg hm ha hdb he hpl)
theorem made2 {K : PySem.W.Frag} {C : Addr} {H : Hp} {Q : XK} {y : Str} {i : Int} (oc : OexC K C) (n1 : PySem.W.findIn K (.ref C) "what" = some none) (n2 : PySem.W.findIn K (.ref C) "most" = some none) (l1 : (reprText y).length ≤ 8000000) (l2 : i.natAbs.log2 < 1920) (l3 : (toString i : Str).length ≤ 8000)
    (q : ∀ d H', H d = none → Same H H' → H' d = some (.xd [("most", .int i), ("what", .str y)]) → Q (.ref C) (some d) H') (a : Addr) (na : H a = none) :
    spTooMany K C (.ref a :: ([.str y, .int i] ++ [])) (upd H a (exo a C none)) (fun v H2 => v = .non ∧ ∃ (d : Addr) (fs : List (Str × V)), H2 a = some (exo a C (some d)) ∧ H2 d = some (exd d fs) ∧ H d = none ∧ Q (.ref C) (some d) (upd (del H2 a) d (.xd fs))) (fun _ _ _ => False) := by
  refine ⟨a, y, i, rfl, upd_same, oc, n1, n2, l1, l2, l3, fun dx n ne => ⟨rfl, dx, [("most", .int i), ("what", .str y)], ?_, upd_same, ?_, ?_⟩⟩
  · rw [upd_ne (Ne.symm ne)]
    exact upd_same
  · rw [upd_ne ne] at n
    exact n
  · rw [upd_ne ne] at n
    refine q dx _ n (fun b o e => ?_) upd_same
    have hb := ne_of_none e n
    have hba := ne_of_none e na
    rw [upd_ne hb, del_ne hba, upd_ne hb, upd_ne hba, upd_ne hb, upd_ne hba]
    exact e
end
end V8

set_option Elab.async false
set_option linter.all false
set_option maxRecDepth 100000
set_option maxHeartbeats 8000000
/-! A Misreading of joined images, or TooMany. -/
namespace V8
open PySem PySem.Spec PyProof.Rows L2
/-- two promises of one def, of which the one raises nothing -/
theorem FnOk.either {P : Program} {w : World} {K : PySem.W.Frag} {mg : Str → Option Value} {base : Heap} {k : Nat} {f : Addr} {fd : FuncData} {ps : List Str} {sp1 sp2 : Sp} {CXa : CXT} (F1 : FnOk P w K mg base CX0 k f fd ps sp1) (F2 : FnOk P w K mg base CXa k f fd ps sp2) :
    FnOk P w K mg base CXa k f fd ps (fun vs H Q E => sp1 vs H Q E0 ∨ sp2 vs H Q E) := by
  refine ⟨fun vs H Q E h => h.elim (F1.len _ _ _ _) (F2.len _ _ _ _), fun A outer s H args us vs Q E hr e0 b r h => ?_⟩
  rcases h with h | h
  · refine codeAny_mono (F1.run A outer s H args us vs Q E0 hr e0 b r h) fun x s' q => ?_
    cases x with
    | error e => exact (show False from q).elim
    | ok fl => cases fl <;> exact q
  · exact F2.run A outer s H args us vs Q E hr e0 b r h
/-- the way out of TooMany(what, most) -/
def OutT (CT : Addr) (H : Hp) (y : Str) (i : Int) (E : XK) : Prop := ∀ d H', H d = none → Same H H' → H' d = some (.xd [("most", .int i), ("what", .str y)]) → E (.ref CT) (some d) H'
def spInitT (CM CJ CT : Addr) : Sp := fun vs H _ E => ∃ (x dx j dj d : Addr) (t : Tab), vs = [.ref x, .ref j, .str (Sx [])] ∧ H x = some (.ins CM dx []) ∧ H j = some (.ins CJ dj (fJ d)) ∧ H d = some (.dK (encT t)) ∧ 12 < t.length ∧ t.length ≤ 100 ∧ OutT CT H "letters" 12 E
def spInitJX (CM CJ CT : Addr) : Sp := fun vs H Q E => spInitJ CM CJ vs H Q E0 ∨ spInitT CM CJ CT vs H Q E
structure MkrMX (P : Program) (w : World) (K : PySem.W.Frag) (mg : Str → Option Value) (base : Heap) (CM CJ CT : Addr) : Prop where
  ex : ∃ (f : Addr) (fd : FuncData), Mk K CM f ∧ FnOk P w K mg base (L2.CX P w) 5 f fd pI (spInitJX CM CJ CT) ∧ mg "Misreading" = some (.ref CM) ∧ ∃ ds, Vals [.str (Sx [])] ds ∧ Binds K fd pI ds
/-- Misreading(Joined(t)), made or refused -/
def tMkMJX (CM CJ CT : Addr) (E : XK) (t : TA) : TE := fun σ H Q => t σ H fun vs H1 => ∃ j dj d tb, vs = [.ref j] ∧ H1 j = some (.ins CJ dj (fJ d)) ∧ H1 d = some (.dK (encT tb)) ∧ ((tb.length ≤ 12 ∧ ∀ x H', H1 x = none → MisAt CM H' x tb → Same H1 H' → Q (.ref x) H') ∨ (12 < tb.length ∧ tb.length ≤ 100 ∧ OutT CT H1 "letters" 12 E))
section
variable {P : Program} {w : World} {K : PySem.W.Frag} {mg : Str → Option Value} {base : Heap} {CM CJ CT : Addr}
theorem ok_initT {f : Addr} {fd : FuncData} {dvs : List V} (F : FunD K "__init__" "Misreading.__init__" (defArgs s_Misreading_init) (defBody s_Misreading_init) (defScope s_Misreading_init) dvs [] f fd) (T : Tz K mg CM CJ) (D_told_images : Df P w K mg base 4 "told_images" spTold) (E_TooMany : ErmT P w K mg base CT) : FnOk P w K mg base (L2.CX P w) 5 f fd ["self", "images", "keeps"] (spInitT CM CJ CT) := by
  refine F.ok sc_Misreading_init (fun vs H Q E h => ?_) (fun cdv A outer s H vs Q E hr h => ?_)
  · obtain ⟨x, dx, j, dj, d, t, rfl, _⟩ := h
    rfl
  · obtain ⟨x, dx, j, dj, r, u, rfl, hx, hj, hr1, l1, l2, q⟩ := h
    refine ⟨_, (pss_cons (ps_set (i := 3) sc_Misreading_init.nd rfl (.inr rfl) (pe_ifExp (pt_val (pe_callB call_isi (by rfl) T.isinstance (by decide +kernel) (pa_cons (pv 1) (pa_cons (pe_gv T.gJoined (by rfl)) pa_nil)))) (pe_fldK (K := K) rfl (pv 1) rfl) (pe_c D_told_images hr (by decide) (by rfl) (pa_cons (pv 1) (pa_cons (pv 2) pa_nil)))))
      (pss_cons (ps_if (pt_cmpR op_gt (pe_callB call_lenD (by rfl) T.len (by decide +kernel) (pa_cons (pv 3) pa_nil)) (pe_gv T.gMOST_LETTERS (by rfl)) (nomark _))
        (pss_one (ps_raise2 E_TooMany rfl (takes_of rfl rfl rfl rfl) hr (by decide) (by rfl) (pa_cons pe_str (pa_cons (pe_gv T.gMOST_LETTERS (by rfl)) pa_nil))))
        pss_nil)
      (pss_cons (ps_fld (pv 0) (pe_callTy (call_tuple_ofK (K := K) rfl) (by rfl) T.tuple (by decide +kernel) (pa_cons (pe_lc (own := [("letter", 4)]) (g := gName 4) (by rfl) sc_Misreading_init.nd (pi_str (pe_gv T.gLETTERS (by rfl))) (blkOk_by (own := [("letter", 4)]) (N := n_Misreading_init) (sc := defScope s_Misreading_init) (by decide +kernel)) (fun _ _ _ _ _ => (pg_name (i := 4) sc_Misreading_init.nd rfl (.inl rfl))) (fun _ _ _ _ _ => (pts_one (pt_cmp (pc_din (hu_of hr) (pv 4) (pv 3))))) (fun _ _ _ _ _ => (pv 4))) pa_nil)) rfl)
      (pss_cons (ps_fld (pv 0) (pe_dc (own := [("letter", 4)]) (g := gName 4) (by rfl) sc_Misreading_init.nd (pi_tup (pe_fldK (K := K) rfl (pv 0) rfl)) (blkOk_by (own := [("letter", 4)]) (N := n_Misreading_init) (sc := defScope s_Misreading_init) (by decide +kernel)) (fun _ _ _ _ _ => (pg_name (i := 4) sc_Misreading_init.nd rfl (.inl rfl))) (fun _ _ _ _ _ => pts_nil) (fun _ _ _ _ _ => (pv 4)) (fun _ _ _ _ _ => (pe_dget (hu_of hr) (pv 3) (pv 4) (fun _ _ => rfl)))) rfl)
      (pss_one (ps_fld (pv 0) (pe_callTy (call_tuple_ofK (K := K) rfl) (by rfl) T.tuple (by decide +kernel) (pa_cons (pe_lc (own := [("letter", 4)]) (g := gName 4) (by rfl) sc_Misreading_init.nd (pi_tup (pe_fldK (K := K) rfl (pv 0) rfl)) (blkOk_by (own := [("letter", 4)]) (N := n_Misreading_init) (sc := defScope s_Misreading_init) (by decide +kernel)) (fun _ _ _ _ _ => (pg_name (i := 4) sc_Misreading_init.nd rfl (.inl rfl))) (fun _ _ _ _ _ => (pts_one (pt_cmpR op_ne (pe_dget (hu_of hr) (pv 3) (pv 4) (fun _ _ => rfl)) (pv 4) (nomark _)))) (fun _ _ _ _ _ => (pv 4))) pa_nil)) rfl)))))), ?_⟩
    refine ⟨_, rfl, _, .ref CJ, .ref CJ, .ref CJ, true, rfl, .own _, .base (.ins hj T.clJ T.jA T.tB T.tC T.jD), T.JJ, true, rfl, ?_⟩
    refine iteT ?_
    refine ⟨_, rfl, j, CJ, dj, _, _, rfl, hj, T.clJ, T.nJ, fJ_i r, ?_⟩
    refine ⟨_, rfl, r, _, rfl, hr1, _, _, rfl, rfl, _, rfl, ?_⟩
    rw [encT_len, decide_eq_true (by show (12 : Int) < (u.length : Int); omega)]
    refine iteT ⟨by show 2 ≤ 1000; decide, fun a na => ?_⟩
    exact made2 E_TooMany.oc E_TooMany.n1 E_TooMany.n2 (by decide +kernel) (by decide) (by decide +kernel) q a na
theorem mkrMX_of {CXa : CXT} {f : Addr} {fd : FuncData} (F : FunD K "__init__" "Misreading.__init__" (defArgs s_Misreading_init) (defBody s_Misreading_init) (defScope s_Misreading_init) [.str (Sx [])] [] f fd) (T : Tz K mg CM CJ)
    (D_told_images : Df P w K mg base 4 "told_images" spTold) (E_TooMany : ErmT P w K mg base CT) (M : Mk K CM f) (hm : mg "Misreading" = some (.ref CM)) : MkrMX P w K mg base CM CJ CT := by
  refine ⟨f, fd, M, FnOk.either (ok_initJ F T D_told_images) (ok_initT F T D_told_images E_TooMany), hm, ?_⟩
  obtain ⟨ds, h1, h2⟩ := F.binds1 (ps := pI) 2 0 (fun z => nomatch z) rfl (fun T kV doc pm an cdv ct us its h1 h2 => match us, its, h1, h2 with | [_, _], [_], _, _ => ⟨_, rfl, rfl⟩)
  exact ⟨ds, h1, h2⟩
end
section
variable {X : Cx} {j : Nat} {CM CJ CT : Addr} {p pos : Pos} {e : Expr} {es : List Expr} {t : TA} {E : XK}
theorem pe_mkMJX (M : MkrMX X.prog X.w X.K X.mg X.base CM CJ CT) (hx : Passes (L2.CX X.prog X.w) X E) (hr : Room j X.A) (hj : 6 ≤ j) (hg : Gl X "Misreading") (ha : PA X (e :: es) t) (he : starEach (e :: es) X.env = (false, eval e X.env) :: starEach es X.env := by rfl) (hpl : (backTo pos (starEach es X.env)).any (·.1) = false := by rfl) :
    PE X (.Call (.Name "Misreading" p) (e :: es) [] pos) (tMkMJX CM CJ CT E t) := by
  obtain ⟨f, fd, M, F, hm, ds, hd, b1⟩ := M.ex
  refine ⟨fun pins s σ H Q I h => ?_⟩
  refine wpAny_Call_Name_kw (ld_glob I hg hm ?_ (by decide))
  refine PySem.W.callWith_K (h₀ := X.base) I.ok.mod.kin M.kp (thn (ha.run pos pins s σ H _ I h) fun us s1 ⟨vs, H1, I1, r, q⟩ => ⟨I1.kIn, ?_⟩) he hpl
  obtain ⟨j, dj, d, tb, rfl, hj1, hd1, q⟩ := q
  refine run_make M F (hr.mono hj) b1 hd hx I1 r fun x dx hx1 hdx ne => ?_
  have up : ∀ b o, H1 b = some o → upd (upd H1 dx (.own x)) x (.ins CM dx []) b = some o := fun b o eo => by
    rw [upd_ne (ne_of_none eo hx1), upd_ne (ne_of_none eo hdx)]
    exact eo
  rcases q with ⟨l12, q⟩ | ⟨l1, l2, q⟩
  · exact .inl ⟨x, dx, j, dj, d, tb, rfl, upd_same, up _ _ hj1, up _ _ hd1, l12, fun H' m fr => ⟨rfl, q x H' hx1 m.mis fun b o eo => fr b o (up _ _ eo) (ne_of_none eo hx1)⟩⟩
  · refine .inr ⟨x, dx, j, dj, d, tb, rfl, upd_same, up _ _ hj1, up _ _ hd1, l1, l2, fun d2 H' n2 sm h2 => q d2 H' ?_ (fun b o eo => sm b o (up _ _ eo)) h2⟩
    cases e2 : H1 d2 with
    | none => rfl
    | some o =>
      rw [up _ _ e2] at n2
      cases n2
end
end V8

set_option Elab.async false
set_option linter.all false
set_option maxRecDepth 100000
set_option maxHeartbeats 8000000
/-! one <= other, of two misreadings or of any other value. -/
namespace V8
open PySem PySem.Spec PyProof.Rows L2
abbrev s_Misreading_or : Stmt := inClass (topS 29) 11
abbrev n_Misreading_or : List Str := ["self", "other", "letter", "images"]
theorem sc_Misreading_or : FnScope ["self", "other", "letter", "images"] ["self", "other"] (defScope s_Misreading_or) := ⟨rfl, rfl, rfl, by decide +kernel, rfl, by decide +kernel, by decide +kernel⟩
/-- whether each letter of the one has the same image by the other -/
def leB (u v : Tab) : Bool := ((keysOf u).map fun c => decide (lk v c = lk u c)).all id
theorem leB_iff {u v : Tab} : leB u v = true ↔ leF (lk u) (lk v) := by
  unfold leB
  rw [List.all_eq_true]
  constructor
  · intro h c s e
    have m := (lk_some e).1
    have z := h _ (List.mem_map.mpr ⟨c, m, rfl⟩)
    rw [of_decide_eq_true z]
    exact e
  · intro h b hb
    obtain ⟨c, m, rfl⟩ := List.mem_map.mp hb
    obtain ⟨s, e⟩ := Option.isSome_iff_exists.mp (lk_mem.mp m)
    exact decide_eq_true ((h c s e).trans e.symm)
/-- the way out of BadTable("other") -/
def OutB (CB : Addr) (H : Hp) (E : XK) : Prop := ∀ d H', H d = none → Same H H' → H' d = some (.xd [("part", .str "other")]) → E (.ref CB) (some d) H'
def spLeX (K : PySem.W.Frag) (CM CB : Addr) : Sp := fun vs H Q E => ∃ (x : Addr) (y : V) (u : Tab), vs = [.ref x, y] ∧ MisAt CM H x u ∧ ((∃ z v, y = .ref z ∧ MisAt CM H z v ∧ ∀ H', Same H H' → Q (.bl (leB u v)) H') ∨ (∃ t, TyX K H y t ∧ PySem.W.kitOne K t (.ref CM) = some false ∧ OutB CB H E))
section
variable {P : Program} {w : World} {K : PySem.W.Frag} {mg : Str → Option Value} {base : Heap} {CM CJ CB : Addr}
theorem ok_leX {f : Addr} {fd : FuncData} (F : Fun K "__le__" "Misreading.__le__" s_Misreading_le f fd) (T : Tz K mg CM CJ) (D_check_other : DfX P w K mg base 4 "check_other" (spCheck K CM CB)) (D_in : Mf P w K mg base 2 CM "__contains__" (spIn K CM)) (D_get : Mf P w K mg base 2 CM "__getitem__" (spGet CM)) : FnOk P w K mg base (L2.CX P w) 5 f fd ["self", "other"] (spLeX K CM CB) := by
  refine F.okX sc_Misreading_le (fun vs H Q E h => ?_) (fun cdv A outer s H vs Q E hr h => ?_)
  · obtain ⟨x, y, u, rfl, _⟩ := h
    rfl
  · obtain ⟨x, y, u, rfl, mx, h⟩ := h
    refine ⟨_, (pss_cons (ps_expr (pe_cX D_check_other (passTk (takes_of rfl rfl rfl rfl)) hr (by decide) (by rfl) (pa_cons (pv 1) pa_nil)))
      (pss_one (ps_ret (pe_callB (cr_all rfl) (by rfl) T.all (by decide +kernel) (pa_cons (pe_lc (own := [("letter", 2)]) (g := gName 2) (by rfl) sc_Misreading_le.nd (pi_tup (pe_fldK (K := K) rfl (pv 0) rfl)) (blkOk_by (own := [("letter", 2)]) (N := n_Misreading_le) (sc := defScope s_Misreading_le) (by decide +kernel)) (fun _ _ _ _ _ => (pg_name (i := 2) sc_Misreading_le.nd rfl (.inl rfl))) (fun _ _ _ _ _ => pts_nil) (fun _ _ _ _ _ => (pe_and (pe_cmpR (op_inO D_in hr (by decide)) (pv 2) (pv 1) rfl) (pe_one (pe_cmpR op_eq (pe_ixO D_get hr (by decide) (pv 1) (pv 2)) (pe_dget (hu_of hr) (pe_fldK (K := K) rfl (pv 0) rfl) (pv 2) (fun _ _ => rfl)) (nomark _)))))) pa_nil))))), ?_⟩
    rcases h with ⟨y, v, rfl, my, q⟩ | ⟨t, ty, e, q⟩
    · obtain ⟨dx, a, b, c', hx, ha, hb, hc⟩ := id mx.at_
      obtain ⟨dy, a2, b2, c2, hy, ha2, hb2, hc2⟩ := id my.at_
      refine ⟨_, rfl, _, rfl, .inl ⟨y, v, rfl, my, ?_⟩⟩
      obtain ⟨bs, ebs⟩ : ∃ bs : List Bool, bs = (keysOf u).map fun c => decide (lk v c = lk u c) := ⟨_, rfl⟩
      have lb : (bs.map V.bl).length = (keysOf u).length := by rw [ebs, List.length_map, List.length_map]
      have kl := keysOf_len u
      refine ⟨_, rfl, x, CM, dx, _, _, rfl, hx, T.cl, T.nL, f3_L a b c', a, rfl, ⟨_, .inl (.inl ha)⟩, fun D nD => lc_it (walk_tup (K := K) (a := a) (xs := lets (keysOf u))) (fun i H2 => H2 = upd H D (.lst ((bs.map V.bl).take i))) rfl ?_ ?_ ?_⟩
      · rintro i H2 hi rfl
        exact .inl (.inl (by rw [upd_ne (ne_of_none ha nD)]; exact ha))
      · rintro i z H2 H2' hi rfl ⟨rfl, hz⟩
        obtain ⟨hik, rfl⟩ := lets_get hz
        have hm := List.getElem_mem hik
        obtain ⟨s, e2⟩ := Option.isSome_iff_exists.mp (keysOf_mem.mp hm).2
        have e3 : lk u (keysOf u)[i] = some s := by rw [← lk_look hm]; exact e2
        have s1 : Same H (upd H D (.lst ((bs.map V.bl).take i))) := same_put (s := Same.refl H) nD
        have bi : (bs.map V.bl)[i]? = some (.bl (decide (lk v (keysOf u)[i] = lk u (keysOf u)[i]))) := by
          rw [ebs, List.getElem?_map, List.getElem?_map, List.getElem?_eq_getElem hik]
          rfl
        refine ⟨rfl, _, rfl, _, rfl, y, dy, _, rfl, s1 _ _ hy, y, v, _, rfl, my.same s1, .inl ⟨_, rfl, _, rfl, ?_⟩⟩
        by_cases m : (keysOf u)[i] ∈ keysOf v
        · obtain ⟨r, e4⟩ := Option.isSome_iff_exists.mp (keysOf_mem.mp m).2
          have e5 : lk v (keysOf u)[i] = some r := by rw [← lk_look m]; exact e4
          refine ⟨true, by rw [decide_eq_true m], iteT ?_⟩
          refine ⟨_, rfl, _, rfl, y, dy, _, rfl, s1 _ _ hy, y, v, _, r, rfl, my.same s1, m, e4, ?_⟩
          refine ⟨_, rfl, x, CM, dx, _, _, rfl, s1 _ _ hx, T.cl, T.nI, f3_I a b c', _, rfl, b, V.str (Sx s), rfl, .inl ⟨_, Sum.inr (L1 (keysOf u)[i]), .inl (s1 _ _ hb), rfl, by rw [valV_enc, look_ims_some hm, e2]; rfl⟩, rfl, ?_⟩
          refine acc_ok ?_ (by omega)
          rw [bi, e5, e3]
          by_cases z : r = s
          · rw [decide_eq_true (show some r = some s by rw [z]), decide_eq_true (show V.str (Sx r) = V.str (Sx s) by rw [z])]
          · rw [decide_eq_false (show ¬ some r = some s from fun q => z (Option.some.inj q)), decide_eq_false (show ¬ V.str (Sx r) = V.str (Sx s) from fun q => z (Sx_inj (V.str.inj q)))]
        · refine ⟨false, by rw [decide_eq_false m], iteF ?_⟩
          refine acc_ok ?_ (by omega)
          rw [bi, lk_not m, e3, decide_eq_false (fun z => nomatch z)]
      · rintro H2 rfl
        rw [lets_len, List.take_of_length_le (by omega)]
        refine ⟨D, bs, rfl, SqL.of upd_same, ?_⟩
        rw [ebs]
        exact q _ (same_put (s := Same.refl H) nD)
    · exact ⟨_, rfl, _, rfl, .inr ⟨t, ty, e, q⟩⟩
end
end V8

set_option Elab.async false
set_option linter.all false
set_option maxRecDepth 100000
set_option maxHeartbeats 8000000
/-! one | other, joined or refused. -/
namespace V8
open PySem PySem.Spec PyProof.Rows L2
theorem look_merge : ∀ {b : Tab}, (b.map (·.1)).Nodup → ∀ (a : Tab) (c : Nat), lookT (mergeT a b) c = (lookT b c).orElse fun _ => lookT a c
  | [], _, a, c => rfl
  | q :: b, nd, a, c => by
    have nd1 := List.nodup_cons.mp nd
    show lookT (mergeT (putT a q.1 q.2) b) c = _
    rw [look_merge nd1.2, look_put]
    have e := look_cons q.1 q.2 b c
    have e' : lookT (q :: b) c = if q.1 = c then some q.2 else lookT b c := e
    rw [e']
    by_cases h : q.1 = c
    · rw [if_pos h, if_pos h.symm]
      have hn : lookT b c = none := by
        cases z : lookT b c with
        | none => rfl
        | some s => exact absurd (look_iff'.mp (by rw [z]; rfl)) (by rw [← h]; exact nd1.1)
      rw [hn]
      rfl
    · rw [if_neg h, if_neg (fun z => h z.symm)]
where
  look_iff' {t : Tab} {c : Nat} : (lookT t c).isSome = true ↔ c ∈ t.map (·.1) := by
    constructor
    · intro h
      obtain ⟨s, e⟩ := Option.isSome_iff_exists.mp h
      exact List.mem_map.mpr ⟨_, look_in e, rfl⟩
    · intro h
      obtain ⟨q, hq, rfl⟩ := List.mem_map.mp h
      unfold lookT
      rw [Option.isSome_map, List.find?_isSome]
      exact ⟨q, hq, by simp⟩
theorem merge_nd : ∀ {b a : Tab}, (a.map (·.1)).Nodup → ((mergeT a b).map (·.1)).Nodup
  | [], _, h => h
  | q :: b, a, h => merge_nd (b := b) (a := putT a q.1 q.2) (put_nd h)
theorem merge_key {p : Nat → Prop} : ∀ {b a : Tab}, (∀ q ∈ a, p q.1) → (∀ q ∈ b, p q.1) → ∀ q ∈ mergeT a b, p q.1
  | [], _, h, _ => h
  | q :: b, a, h, h2 => merge_key (b := b) (a := putT a q.1 q.2) (fun z hz => by
      rcases keys_put z hz with y | rfl
      · exact h z y
      · exact h2 q (List.mem_cons_self ..)) fun z hz => h2 z (List.mem_cons_of_mem _ hz)
theorem tab_len {p : List Nat} {t : Tab} (nd : (t.map (·.1)).Nodup) (h : ∀ q ∈ t, q.1 ∈ p) : t.length ≤ p.length := by
  have := nd_len nd fun x hx => by
    obtain ⟨q, hq, rfl⟩ := List.mem_map.mp hx
    exact h q hq
  rw [List.length_map] at this
  exact this
theorem mkT_nd (f : Fu) : ∀ {ks : List Nat}, ks.Nodup → ((mkT f ks).map (·.1)).Nodup
  | [], _ => List.nodup_nil
  | k :: ks, nd => by
    have nd1 := List.nodup_cons.mp nd
    rw [mkT_cons]
    cases e : f k with
    | none => exact mkT_nd f nd1.2
    | some s =>
      show (k :: (mkT f ks).map (·.1)).Nodup
      exact List.nodup_cons.mpr ⟨fun z => nd1.1 (mkT_keys f ks k z), mkT_nd f nd1.2⟩
theorem ims_keys (u : Tab) : (ims u).map (·.1) = keysOf u := by
  unfold ims
  rw [List.map_map]
  exact List.map_id _
/-- the first letter of unlike images -/
def cfl (u v : Tab) : Option Nat := (keysOf u).find? fun c => decide (c ∈ keysOf v ∧ lookT v c ≠ lookT u c)
/-- the letters that one of two has, in number -/
def nU (u v : Tab) : Nat := (abc.filter fun c => decide (c ∈ keysOf u ∨ c ∈ keysOf v)).length
theorem rep1 : ∀ c ∈ abc, (reprText (L1 c)).length ≤ 8000000 := by decide +kernel
theorem nd_same {l l' : List Nat} (n : l.Nodup) (n' : l'.Nodup) (h : ∀ c, c ∈ l ↔ c ∈ l') : l.length = l'.length :=
  Nat.le_antisymm (nd_len n fun c hc => (h c).mp hc) (nd_len n' fun c hc => (h c).mpr hc)
theorem cfl_none {u v : Tab} (h : cfl u v = none) {c : Nat} {s r : List Nat} (e1 : lk u c = some s) (e2 : lk v c = some r) : s = r := by
  have m1 := (lk_some e1).1
  have m2 := (lk_some e2).1
  have z := List.find?_eq_none.mp h c m1
  by_cases q : lookT v c = lookT u c
  · rw [lk_look m1, lk_look m2, e1, e2] at q
    exact (Option.some.inj q).symm
  · exact absurd (decide_eq_true ⟨m2, q⟩) z
theorem find_at {l : List Nat} {p : Nat → Bool} {i : Nat} (hi : i < l.length) (h : ∀ c ∈ l.take i, p c = false) (hp : p l[i] = true) : l.find? p = some l[i] := by
  have e : l = l.take i ++ l[i] :: l.drop (i + 1) := by
    rw [← List.drop_eq_getElem_cons hi, List.take_append_drop]
  have e2 : (l.take i).find? p = none := List.find?_eq_none.mpr fun c hc => by rw [h c hc]; exact Bool.false_ne_true
  conv => lhs; rw [e]
  rw [List.find?_append, e2, List.find?_cons, hp]
  rfl
theorem mergeT_keys : ∀ {b a : Tab} {c : Nat}, c ∈ (mergeT a b).map (·.1) ↔ c ∈ a.map (·.1) ∨ c ∈ b.map (·.1)
  | [], a, c => by
    show c ∈ a.map (·.1) ↔ _
    simp
  | q :: b, a, c => by
    show c ∈ (mergeT (putT a q.1 q.2) b).map (·.1) ↔ _
    rw [mergeT_keys]
    have h : c ∈ (putT a q.1 q.2).map (·.1) ↔ c ∈ a.map (·.1) ∨ c = q.1 := by
      constructor
      · intro z
        obtain ⟨w, hw, rfl⟩ := List.mem_map.mp z
        rcases keys_put w hw with y | rfl
        · exact .inl (List.mem_map_of_mem y)
        · exact .inr rfl
      · have has : (lookT (putT a q.1 q.2) c).isSome = true → c ∈ (putT a q.1 q.2).map (·.1) := fun z => by
          obtain ⟨s, e⟩ := Option.isSome_iff_exists.mp z
          exact List.mem_map.mpr ⟨_, look_in e, rfl⟩
        intro z
        refine has ?_
        rw [look_put]
        by_cases hc : c = q.1
        · rw [if_pos hc]
          rfl
        · rw [if_neg hc]
          rcases z with z | z
          · obtain ⟨w, hw, rfl⟩ := List.mem_map.mp z
            unfold lookT
            rw [Option.isSome_map, List.find?_isSome]
            exact ⟨w, hw, by simp⟩
          · exact absurd z hc
    rw [h, List.map_cons, List.mem_cons]
    constructor
    · rintro ((z | z) | z)
      · exact .inl z
      · exact .inr (.inl z)
      · exact .inr (.inr z)
    · rintro (z | z | z)
      · exact .inl (.inl z)
      · exact .inl (.inr z)
      · exact .inr z
theorem mkT_lk_keys {v : Tab} {c : Nat} : c ∈ (mkT (lk v) (keysOf v)).map (·.1) ↔ c ∈ keysOf v := by
  refine ⟨fun h => mkT_keys _ _ c h, fun h => ?_⟩
  obtain ⟨s, e⟩ := Option.isSome_iff_exists.mp (lk_mem.mp h)
  exact List.mem_map.mpr ⟨(c, s), List.mem_filterMap.mpr ⟨c, h, by rw [e]; rfl⟩, rfl⟩
theorem merged_len (u v : Tab) : (mergeT (ims u) (mkT (lk v) (keysOf v))).length = nU u v := by
  have n1 : ((mergeT (ims u) (mkT (lk v) (keysOf v))).map (·.1)).Nodup := merge_nd (by rw [ims_keys]; exact keysOf_nd u)
  have n2 : (abc.filter fun c => decide (c ∈ keysOf u ∨ c ∈ keysOf v)).Nodup := List.filter_sublist.nodup abc_nd
  rw [← List.length_map (f := (·.1))]
  refine nd_same n1 n2 fun c => ?_
  rw [mergeT_keys, ims_keys, mkT_lk_keys, List.mem_filter, decide_eq_true_iff]
  exact ⟨fun h => ⟨h.elim keys_abc keys_abc, h⟩, fun h => h.2⟩
/-- the way out of Unlike(letter) -/
def OutU (CU : Addr) (H : Hp) (c : Nat) (E : XK) : Prop := ∀ d H', H d = none → Same H H' → H' d = some (.xd [("letter", .str (L1 c))]) → E (.ref CU) (some d) H'
/-- joined: what becomes of two -/
def Joins (CM CU CT : Addr) (H : Hp) (u v : Tab) (Q : VK) (E : XK) : Prop := (∀ c, cfl u v = some c → OutU CU H c E) ∧ (cfl u v = none → 12 < nU u v → OutT CT H "letters" 12 E) ∧ (cfl u v = none → nU u v ≤ 12 → Makes CM H (uF (lk u) (lk v)) Q)
def spOrX (K : PySem.W.Frag) (CM CB CU CT : Addr) : Sp := fun vs H Q E => ∃ (x : Addr) (y : V) (u : Tab), vs = [.ref x, y] ∧ MisAt CM H x u ∧ ((∃ z v, y = .ref z ∧ MisAt CM H z v ∧ Joins CM CU CT H u v Q E) ∨ (∃ t, TyX K H y t ∧ PySem.W.kitOne K t (.ref CM) = some false ∧ OutB CB H E))
section
variable {P : Program} {w : World} {K : PySem.W.Frag} {mg : Str → Option Value} {base : Heap} {CM CJ CB CU CT : Addr}
theorem ok_orX {f : Addr} {fd : FuncData} (F : Fun K "__or__" "Misreading.__or__" s_Misreading_or f fd) (T : Tz K mg CM CJ) (D_check_other : DfX P w K mg base 4 "check_other" (spCheck K CM CB)) (D_in : Mf P w K mg base 2 CM "__contains__" (spIn K CM)) (D_get : Mf P w K mg base 2 CM "__getitem__" (spGet CM)) (D_iter : ItM P w K mg base 1 CM (snIter CM))
    (D_mkJ : MkrJ P w K mg base CJ) (D_mkMJX : MkrMX P w K mg base CM CJ CT) (E_Unlike : Erm P w K mg base "Unlike" "letter" CU) : FnOk P w K mg base (L2.CX P w) 7 f fd ["self", "other"] (spOrX K CM CB CU CT) := by
  refine F.okX sc_Misreading_or (fun vs H Q E h => ?_) (fun cdv A outer s H vs Q E hr h => ?_)
  · obtain ⟨x, y, u, rfl, _⟩ := h
    rfl
  · obtain ⟨x, y, u, rfl, mx, h⟩ := h
    refine ⟨_, (pss_cons (ps_expr (pe_cX D_check_other (passTk (takes_of rfl rfl rfl rfl)) hr (by decide) (by rfl) (pa_cons (pv 1) pa_nil)))
      (pss_cons (ps_for (passes_of rfl) rfl (pi_tup (pe_fldK (K := K) rfl (pv 0) rfl)) (pg_name (i := 2) sc_Misreading_or.nd rfl (.inl rfl))
        (pss_one (ps_if (PW.pt (pw_and (pt_cmpR (op_inO D_in hr (by decide)) (pv 2) (pv 1) rfl) (pw_and1 (pt_cmpR op_ne (pe_ixO D_get hr (by decide) (pv 1) (pv 2)) (pe_dget (hu_of hr) (pe_fldK (K := K) rfl (pv 0) rfl) (pv 2) (fun _ _ => rfl)) (nomark _)))))
          (pss_one (ps_raise1 E_Unlike rfl (takes_of rfl rfl rfl rfl) hr (by decide) (by rfl) (pa_cons (pv 2) pa_nil)))
          pss_nil)))
      (pss_cons (ps_setDc (j := 3) (own := [("letter", 2)]) (g := gName 2) (by rfl) sc_Misreading_or.nd rfl rfl (sw_trueD rfl rfl rfl (by decide +kernel)) (pi_ownI D_iter hr (by decide) (pv 1)) (blkOk_by (own := [("letter", 2)]) (N := n_Misreading_or) (sc := defScope s_Misreading_or) (by decide +kernel)) (fun _ _ _ _ _ => (pg_name (i := 2) sc_Misreading_or.nd rfl (.inl rfl))) (fun _ _ _ _ _ => pts_nil) (fun _ _ _ _ _ => (pv 2)) (fun _ _ _ _ _ => (pe_ixO D_get hr (by decide) (pv 1) (pv 2))))
      (pss_one (ps_ret (pe_mkMJX D_mkMJX (passTk (takes_of rfl rfl rfl rfl)) hr (by decide) (by rfl) (pa_cons (pe_mkJ D_mkJ hr (by decide) (by rfl) (pa_cons (pe_merge2 (pe_fldK (K := K) rfl (pv 0) rfl) (pv 3)) pa_nil)) pa_nil))))))), ?_⟩
    rcases h with ⟨y, v, rfl, my, qc, qt, q⟩ | ⟨t, ty, e, q⟩
    · obtain ⟨dx, a, b, c', hx, ha, hb, hc⟩ := id mx.at_
      obtain ⟨dy, a2, b2, c2, hy, ha2, hb2, hc2⟩ := id my.at_
      refine ⟨_, rfl, _, rfl, .inl ⟨y, v, rfl, my, ?_⟩⟩
      refine ⟨_, rfl, x, CM, dx, _, _, rfl, hx, T.cl, T.nL, f3_L a b c', a, rfl, ⟨_, .inl (.inl ha)⟩, for_it (walk_tup (K := K) (a := a) (xs := lets (keysOf u))) (fun i σ H2 => (∃ v2 : Option V, σ = [some (.ref x), some (.ref y), v2, none]) ∧ H2 = H ∧ ∀ c ∈ (keysOf u).take i, decide (c ∈ keysOf v ∧ lookT v c ≠ lookT u c) = false) ⟨⟨none, rfl⟩, rfl, fun c h => by simp at h⟩ ?_ ?_ ?_⟩
      · rintro i σ H2 hi ⟨_, rfl, _⟩
        exact .inl (.inl ha)
      · rintro i z σ H2 H2' hi ⟨⟨v2, rfl⟩, rfl, nc⟩ ⟨rfl, hz⟩
        obtain ⟨hik, rfl⟩ := lets_get hz
        have hm := List.getElem_mem hik
        obtain ⟨s, e2⟩ := Option.isSome_iff_exists.mp (keysOf_mem.mp hm).2
        have eT : (keysOf u).take (i + 1) = (keysOf u).take i ++ [(keysOf u)[i]] := keys_take hik
        have more : decide ((keysOf u)[i] ∈ keysOf v ∧ lookT v (keysOf u)[i] ≠ lookT u (keysOf u)[i]) = false → ∀ c ∈ (keysOf u).take (i + 1), decide (c ∈ keysOf v ∧ lookT v c ≠ lookT u c) = false := fun h c hc => by
          rw [eT] at hc
          rcases List.mem_append.mp hc with y | y
          · exact nc c y
          · rw [List.mem_singleton.mp y]
            exact h
        refine ⟨_, rfl, _, rfl, y, dy, _, rfl, hy, y, v, _, rfl, my, .inl ⟨_, rfl, _, rfl, ?_⟩⟩
        by_cases m : (keysOf u)[i] ∈ keysOf v
        · obtain ⟨r, e4⟩ := Option.isSome_iff_exists.mp (keysOf_mem.mp m).2
          refine ⟨true, by rw [decide_eq_true m], iteT ?_⟩
          refine ⟨_, rfl, _, rfl, y, dy, _, rfl, hy, y, v, _, r, rfl, my, m, e4, ?_⟩
          refine ⟨_, rfl, x, CM, dx, _, _, rfl, hx, T.cl, T.nI, f3_I a b c', _, rfl, b, V.str (Sx s), rfl, .inl ⟨_, Sum.inr (L1 (keysOf u)[i]), .inl hb, rfl, by rw [valV_enc, look_ims_some hm, e2]; rfl⟩, rfl, ?_⟩
          by_cases z : r = s
          · refine ⟨false, by rw [decide_eq_true (show V.str (Sx r) = V.str (Sx s) by rw [z])]; rfl, iteF ?_⟩
            exact ⟨⟨_, rfl⟩, rfl, more (decide_eq_false fun w => w.2 (by rw [e4, e2, z]))⟩
          · refine ⟨true, by rw [decide_eq_false (show ¬ V.str (Sx r) = V.str (Sx s) from fun q => z (Sx_inj (V.str.inj q)))]; rfl, iteT ?_⟩
            have ec : cfl u v = some (keysOf u)[i] := find_at hik nc (decide_eq_true ⟨m, fun w => z (by rw [e4, e2] at w; exact Option.some.inj w)⟩)
            refine ⟨_, rfl, (by show 1 ≤ 1000; decide), fun an na => ?_⟩
            exact made1 E_Unlike.oc E_Unlike.no (.inl ⟨_, rfl, rfl⟩) (rep1 _ (keys_abc hm)) (fun _ _ => ty_str _) (kit_ty (by decide +kernel)) (kit_ty (by decide +kernel)) (kit_ty (by decide +kernel)) (qc _ ec) an na
        · refine ⟨false, by rw [decide_eq_false m], iteF ?_⟩
          exact ⟨⟨_, rfl⟩, rfl, more (decide_eq_false fun w => m w.1)⟩
      · rintro σ H2 ⟨⟨v2, rfl⟩, rfl, nc⟩
        rw [lets_len, List.take_length] at nc
        have ec : cfl u v = none := List.find?_eq_none.mpr fun c hc => by rw [nc c hc]; exact Bool.false_ne_true
        have klu := keysOf_len u
        have klv := keysOf_len v
        refine ⟨_, rfl, y, dy, _, rfl, hy, fun k hk => ⟨y, v, rfl, my, fun it a3 ni hi ha3 => ⟨it, a3, rfl, hi, upd_same, ?_⟩⟩⟩
        rw [dropH_upd ni]
        refine fun D nD => dc_it (walk_tup (K := K) (a := a3) (xs := lets (keysOf v))) (fun i H3 => H3 = upd H2 D (.dK (encT (mkT (lk v) ((keysOf v).take i))))) rfl ?_ ?_ ?_
        · rintro i H3 hi rfl
          exact .inl (.inl (by rw [upd_ne (ne_of_none ha3 nD)]; exact ha3))
        · rintro i z H3 H3' hi rfl ⟨rfl, hz⟩
          obtain ⟨hik, rfl⟩ := lets_get hz
          have hm := List.getElem_mem hik
          obtain ⟨s, e2⟩ := Option.isSome_iff_exists.mp (keysOf_mem.mp hm).2
          have e3 : lk v (keysOf v)[i] = some s := by rw [← lk_look hm]; exact e2
          have s1 : Same H2 (upd H2 D (.dK (encT (mkT (lk v) ((keysOf v).take i))))) := same_put (s := Same.refl H2) nD
          refine ⟨rfl, _, rfl, _, rfl, _, rfl, y, dy, _, rfl, s1 _ _ hy, y, v, _, s, rfl, my.same s1, hm, e2, _, Sum.inr (L1 (keysOf v)[i]), rfl, upd_same, mkT_small _ _, ?_⟩
          rw [upd_upd, put_take hik e3]
        · rintro H3 rfl
          rw [lets_len, List.take_length]
          have s1 : Same H2 (upd H2 D (.dK (encT (mkT (lk v) (keysOf v))))) := same_put (s := Same.refl H2) nD
          have hD : upd H2 D (.dK (encT (mkT (lk v) (keysOf v)))) D = some (.dK (encT (mkT (lk v) (keysOf v)))) := upd_same
          generalize upd H2 D (.dK (encT (mkT (lk v) (keysOf v)))) = H4 at s1 hD ⊢
          clear nD ni ha3 hi
          -- {**self._images, **images}
          have nm := mergeT_nil (t := ims u) (by rw [ims_keys]; exact keysOf_nd u)
          have em : mergeK [] (encT (ims u)) = encT (ims u) := by
            have z : mergeK [] (encT (ims u)) = encT (mergeT [] (ims u)) := mergeK_enc _ []
            rw [z, nm]
          have hb4 := s1 _ _ hb
          have il : (ims u).length = (keysOf u).length := ims_len u
          have tl := mkT_len (lk v) (keysOf v)
          refine fun r nr => ?_
          have s2 : Same H2 (upd H4 r (.dK [])) := same_put (s := s1) nr
          have hDr : D ≠ r := ne_of_none hD nr
          have hbr : b ≠ r := ne_of_none hb4 nr
          refine ⟨_, rfl, x, CM, dx, _, _, rfl, s2 _ _ hx, T.cl, T.nI, f3_I a b c', b, encT (ims u), rfl, hbr, upd_same, .inl (by rw [upd_ne hbr]; exact hb4), by rw [encT_len]; omega, ?_⟩
          rw [em]
          refine ⟨_, rfl, D, encT (ims u), encT (mkT (lk v) (keysOf v)), rfl, hDr, upd_same, by rw [encT_len]; omega, .inl (by rw [upd_ne hDr, upd_ne hDr]; exact hD), by rw [encT_len]; omega, ?_⟩
          rw [mergeK_enc, upd_upd, upd_upd]
          have nrH := same_none (s := s1) nr
          have s3 : Same H2 (upd H4 r (.dK (encT (mergeT (ims u) (mkT (lk v) (keysOf v)))))) := same_put (s := s1) nr
          have hr3 : upd H4 r (.dK (encT (mergeT (ims u) (mkT (lk v) (keysOf v))))) r = some (.dK (encT (mergeT (ims u) (mkT (lk v) (keysOf v))))) := upd_same
          generalize upd H4 r (.dK (encT (mergeT (ims u) (mkT (lk v) (keysOf v))))) = H5 at s3 hr3 ⊢
          have ml := merged_len u v
          have m24 : (mergeT (ims u) (mkT (lk v) (keysOf v))).length ≤ 26 := by
            rw [ml]
            exact Nat.le_trans (List.length_filter_le _ _) (by rw [abc_len]; exact Nat.le_refl _)
          refine ⟨r, rfl, fun j dj H6 nj hj s6 => ?_⟩
          by_cases h12 : nU u v ≤ 12
          · refine ⟨j, dj, r, _, rfl, hj, s6 _ _ hr3, .inl ⟨by omega, fun z H7 nz mz s7 => ?_⟩⟩
            refine q ec h12 z H7 _ (same_none (s := fun b o e => s6 _ _ (s3 _ _ e)) nz) mz ?_ fun b o e => s7 _ _ (s6 _ _ (s3 _ _ e))
            funext c
            show (if c ∈ abc then lookT (mergeT (ims u) (mkT (lk v) (keysOf v))) c else none) = (lk v c).orElse fun _ => lk u c
            rw [look_merge (mkT_nd _ (keysOf_nd v)), mkT_look _ (keysOf_nd v), look_ims]
            by_cases hv : c ∈ keysOf v
            · rw [if_pos (keys_abc hv), if_pos hv]
              by_cases hu : c ∈ keysOf u
              · rw [if_pos hu]
                obtain ⟨s, e⟩ := Option.isSome_iff_exists.mp (lk_mem.mp hv)
                rw [e]
                rfl
              · rw [if_neg hu, lk_not hu]
            · rw [if_neg hv, lk_not hv]
              by_cases hu : c ∈ keysOf u
              · rw [if_pos (keys_abc hu), if_pos hu, lk_look hu]
                obtain ⟨s, e⟩ := Option.isSome_iff_exists.mp (lk_mem.mp hu)
                rw [e]
                rfl
              · rw [if_neg hu, lk_not hu]
                by_cases ha : c ∈ abc
                · rw [if_pos ha]
                · rw [if_neg ha]
                  rfl
          · refine ⟨j, dj, r, _, rfl, hj, s6 _ _ hr3, .inr ⟨by omega, by omega, fun d2 H7 n2 s7 h2 => ?_⟩⟩
            exact qt ec (by omega) d2 H7 (same_none (s := fun b o e => s6 _ _ (s3 _ _ e)) n2) (fun b o e => s7 _ _ (s6 _ _ (s3 _ _ e))) h2
    · exact ⟨_, rfl, _, rfl, .inr ⟨t, ty, e, q⟩⟩
end
end V8

set_option Elab.async false
set_option linter.all false
set_option maxRecDepth 100000
set_option maxHeartbeats 8000000
/-! What is heard of a call: what it returns, or its error. -/
namespace V8
open PySem PySem.Spec PyProof.Rows L2 LamX
abbrev s_heard : Stmt := topS 42
abbrev n_heard : List Str := ["_law_ask", "_law_caught", "_law_found", "error"]
theorem sc_heard : FnScope ["_law_ask", "_law_caught", "_law_found", "error"] ["_law_ask"] (defScope s_heard) := ⟨rfl, rfl, rfl, by decide +kernel, rfl, by decide +kernel, by decide +kernel⟩
structure Th (K : PySem.W.Frag) (mg : Str → Option Value) (CM CJ CB CU CT CR : Addr) : Prop extends Tz K mg CM CJ where
  gBadTable : GV mg "BadTable" (.ref CB)
  gUnlike : GV mg "Unlike" (.ref CU)
  gTooMany : GV mg "TooMany" (.ref CT)
  gE : mg "RepairError" = some (.ref CR)
  eB : PySem.W.exmOne K (.ref CB) (.ref CR) = some true
  eU : PySem.W.exmOne K (.ref CU) (.ref CR) = some true
  eT : PySem.W.exmOne K (.ref CT) (.ref CR) = some true
  kBB : PySem.W.kitOne K (.ref CB) (.ref CB) = some true
  kUB : PySem.W.kitOne K (.ref CU) (.ref CB) = some false
  kUU : PySem.W.kitOne K (.ref CU) (.ref CU) = some true
  kTB : PySem.W.kitOne K (.ref CT) (.ref CB) = some false
  kTU : PySem.W.kitOne K (.ref CT) (.ref CU) = some false
  kTT : PySem.W.kitOne K (.ref CT) (.ref CT) = some true
  xB : ExcC K CB
  xU : ExcC K CU
  xT : ExcC K CT
  nB : PySem.W.findIn K (.ref CB) "part" = some none
  nU : PySem.W.findIn K (.ref CU) "letter" = some none
  n1 : PySem.W.findIn K (.ref CT) "what" = some none
  n2 : PySem.W.findIn K (.ref CT) "most" = some none
/-- heard: what is returned of an error -/
def HearE (CB CU CT : Addr) (Q : VK) : XK := fun cls d H => ∃ dd, d = some dd ∧
  ((cls = .ref CB ∧ ∃ v, H dd = some (.xd [("part", v)]) ∧ ∀ t H2, Same H H2 → H2 t = some (.tup [.str "table", v]) → Q (.ref t) H2) ∨
   (cls = .ref CU ∧ ∃ v, H dd = some (.xd [("letter", v)]) ∧ ∀ t H2, Same H H2 → H2 t = some (.tup [.str "unlike", v]) → Q (.ref t) H2) ∨
   (cls = .ref CT ∧ ∃ m v, H dd = some (.xd [("most", m), ("what", v)]) ∧ ∀ t H2, Same H H2 → H2 t = some (.tup [v, m]) → Q (.ref t) H2))
/-- .. of a value -/
def HearV (Q : VK) : VK := fun v H => ∀ l H2, Same H H2 → H l = none → H2 l = some (.lst [v]) → Q (.ref l) H2
def TTheard (CB CU CT : Addr) : (XK → Hp → VK → Prop) → Hp → VK → Prop := fun tl H Q => ∀ (R : VK) (H1 : Hp), (∀ v H', HearV Q v H' → R v H') → Same H H1 → tl (HearE CB CU CT Q) H1 R
theorem four_of {l : L2.St} (h : l.length = 4) : ∃ a b c d, l = [a, b, c, d] := by
  match l, h with
  | [a, b, c, d], _ => exact ⟨a, b, c, d, rfl⟩
theorem heard_gives {X : Cx} {CM CJ CB CU CT CR g : Addr} {cdg : Value} {q : Str} (T : Th X.K X.mg CM CJ CB CU CT CR) (hr3 : ∀ (s : Shared), Room 1 (X.A.deeper (envOfC "_law_heard" (defScope s_heard) s.heap.objs.size g cdg))) : GivesTo X n_heard "_law_heard" (defScope s_heard) g cdg (defBody s_heard) "_law_ask" q (TTheard CB CU CT) := by
  intro f c' s H Q tl act hc h
  have hr := hr3 s
  refine ⟨_, (pss_cons (ps_asg (pe_tup (pa_cons pe_non (pa_cons pe_non pa_nil))) (pg_tup (by rfl) (pgs_cons (pg_name (i := 1) sc_heard.nd rfl (.inl rfl)) (pgs_cons (pg_name (i := 2) sc_heard.nd rfl (.inl rfl)) pgs_nil))))
      (pss_cons (ps_try_keep (X := (cxOf C8.CX0 X.prog X.w X.K X.mg X.base n_heard "_law_heard" (defScope s_heard) g cdg X.A X.stack s H C8.E0).nox) (c := .ref CR) (i := 3) (tb := fun W D σ H => ∃ Ech : XK, (∀ cls d σ' H', Ech cls d H' → W cls d σ' H') ∧ σ[0]? = some (some (.ref f)) ∧ H c' = some (CodeO c' q) ∧ tl Ech H (fun v H' => D.nx (σ.set 2 (some v)) H')) rfl rfl sc_heard.nd rfl rfl ⟨by rfl, by decide, .inl T.gE⟩ (fun W pn xe tk _ => ?_) (fun a pn => pss_one (ps_set (i := 1) sc_heard.nd rfl (.inl rfl) (pv 3))))
      (pss_cons (ps_if (pt_cmpR op_isN (pv 1) pe_non (nomark _))
        (pss_one (ps_ret (pe_lst (pa_cons (pv 2) pa_nil))))
        pss_nil)
      (pss_cons (ps_if (pt_val (pe_callB call_isK (by rfl) T.isinstance (by decide +kernel) (pa_cons (pv 1) (pa_cons (pe_gv T.gBadTable (by rfl)) pa_nil))))
        (pss_one (ps_ret (pe_tup (pa_cons pe_str (pa_cons (pe_keptF (pv 1)) pa_nil)))))
        pss_nil)
      (pss_cons (ps_if (pt_val (pe_callB call_isK (by rfl) T.isinstance (by decide +kernel) (pa_cons (pv 1) (pa_cons (pe_gv T.gUnlike (by rfl)) pa_nil))))
        (pss_one (ps_ret (pe_tup (pa_cons pe_str (pa_cons (pe_keptF (pv 1)) pa_nil)))))
        pss_nil)
      (pss_one (ps_ret (pe_ifExp (pt_val (pe_callB call_isK (by rfl) T.isinstance (by decide +kernel) (pa_cons (pv 1) (pa_cons (pe_gv T.gTooMany (by rfl)) pa_nil)))) (pe_tup (pa_cons (pe_keptF (pv 1)) (pa_cons (pe_keptF (pv 1)) pa_nil))) (pe_tup (pa_cons pe_str (pa_cons pe_non pa_nil))))))))))), ?_⟩
  · refine ⟨fun pins s' σ H' D I h' => ?_⟩
    obtain ⟨Ech, hW, h1, h2, h3⟩ := h'
    exact PSs.run (pss_one (ps_set (i := 2) sc_heard.nd rfl (.inl rfl) (act W pn xe Ech _ _ tk hW))) pins s' σ H' D I ⟨h1, h2, h3⟩
  · refine ⟨by show 2 ≤ sizeLine; decide, fun t0 n0 => ⟨t0, _, rfl, .inl (.inl upd_same), rfl, _, _, rfl, _, _, rfl, rfl, ?_⟩⟩
    have s0 : Same H (upd H t0 (.tup [.non, .non])) := same_put (s := Same.refl H) n0
    have hc1 := s0 _ _ hc
    refine ⟨HearE CB CU CT Q, ?_, rfl, hc1, h _ _ (fun v H' hv => ?_) s0⟩
    · rintro cls d σ' H' ⟨dd, rfl, hh⟩
      have kept : ∀ {C : Addr} {fs : List (Str × V)} {a : Addr}, H' a = none → H' dd = some (.xd fs) → ExcC X.K C → KeptX X.K (upd H' a (CaughtO (.ref C) (some dd) a)) a C fs := fun na hx cl =>
        ⟨⟨dd, upd_same, by rw [upd_ne (ne_of_none hx na)]; exact hx⟩, cl⟩
      rcases hh with ⟨rfl, v, hx, hq⟩ | ⟨rfl, v, hx, hq⟩ | ⟨rfl, m, v, hx, hq⟩
      · refine ⟨T.eB, fun len a na => ?_⟩
        obtain ⟨s0, s1, s2, s3, rfl⟩ := four_of len
        have k := kept na hx T.xB
        refine ⟨_, rfl, _, rfl, rfl, false, rfl, iteF ?_⟩
        refine ⟨_, rfl, a, CB, _, .ref CB, .ref CB, true, rfl, k, fun u r => r, T.kBB, true, rfl, iteT ?_⟩
        exact ⟨_, rfl, a, CB, _, v, rfl, k, T.nB, by simp [List.lookup], by show 2 ≤ sizeLine; decide, fun t nt => hq t _ (same_put (s := same_put (s := Same.refl H') na) nt) upd_same⟩
      · refine ⟨T.eU, fun len a na => ?_⟩
        obtain ⟨s0, s1, s2, s3, rfl⟩ := four_of len
        have k := kept na hx T.xU
        refine ⟨_, rfl, _, rfl, rfl, false, rfl, iteF ?_⟩
        refine ⟨_, rfl, a, CU, _, .ref CB, .ref CB, false, rfl, k, fun u r => r, T.kUB, false, rfl, iteF ?_⟩
        refine ⟨_, rfl, a, CU, _, .ref CU, .ref CU, true, rfl, k, fun u r => r, T.kUU, true, rfl, iteT ?_⟩
        exact ⟨_, rfl, a, CU, _, v, rfl, k, T.nU, by simp [List.lookup], by show 2 ≤ sizeLine; decide, fun t nt => hq t _ (same_put (s := same_put (s := Same.refl H') na) nt) upd_same⟩
      · refine ⟨T.eT, fun len a na => ?_⟩
        obtain ⟨s0, s1, s2, s3, rfl⟩ := four_of len
        have k := kept na hx T.xT
        refine ⟨_, rfl, _, rfl, rfl, false, rfl, iteF ?_⟩
        refine ⟨_, rfl, a, CT, _, .ref CB, .ref CB, false, rfl, k, fun u r => r, T.kTB, false, rfl, iteF ?_⟩
        refine ⟨_, rfl, a, CT, _, .ref CU, .ref CU, false, rfl, k, fun u r => r, T.kTU, false, rfl, iteF ?_⟩
        refine ⟨_, rfl, a, CT, _, .ref CT, .ref CT, true, rfl, k, fun u r => r, T.kTT, true, rfl, iteT ?_⟩
        exact ⟨_, rfl, a, CT, _, v, rfl, k, T.n1, by simp only [List.lookup, show (("what" : Str) == "most") = false from by decide +kernel, show (("what" : Str) == "what") = true from by decide +kernel], _, rfl, a, CT, _, m, rfl, k, T.n2, by simp [List.lookup], by show 2 ≤ sizeLine; decide, fun t nt => hq t _ (same_put (s := same_put (s := Same.refl H') na) nt) upd_same⟩
    · refine ⟨_, rfl, rfl, true, rfl, iteT ?_⟩
      exact ⟨_, rfl, by show 1 ≤ sizeLine; decide, fun l nl => hv l _ (same_put (s := Same.refl H') nl) nl upd_same⟩
end V8

set_option Elab.async false
set_option linter.all false
set_option maxRecDepth 100000
set_option maxHeartbeats 8000000
/-! What is heard of a lambda. -/
namespace V8
open PySem PySem.Spec PyProof.Rows L2 LamX
/-- a def whose code object is known -/
structure FunC (K : PySem.W.Frag) (x qual : Str) (st : Stmt) (f c : Addr) (fd : FuncData) : Prop where
  ex : ∃ (oc : Value) (od : Option Addr) (kV doc pm : Value) (an : Option Addr) (ct : Value) (osl : Array (Option Value)), fd = PySem.W.fnOf x qual (defArgs st) (defBody st) (defScope st) .none kV doc pm an (.ref c) ct ∧ K.lookup f = some ⟨oc, od, .func fd, osl⟩ ∧ PySem.W.codeIn K (.ref c) qual = true
section
variable {P : Program} {w : World} {K : PySem.W.Frag} {mg : Str → Option Value} {base : Heap}
theorem FunC.ok {x qual : Str} {st : Stmt} {f c : Addr} {fd : FuncData} {N ps : List Str} {k : Nat} {sp : Sp} (F : FunC K x qual st f c fd) (S : FnScope N ps (defScope st)) (len : ∀ vs H Q E, sp vs H Q E → vs.length = ps.length)
    (body : ∀ (A : Around) (outer : List Env) (s : Shared) (H : Hp) (vs : List V) (Q : VK) (E : XK), Room k (A.deeper (envOfC qual (defScope st) s.heap.objs.size f (.ref c))) → sp vs H Q E →
      ∃ t, PSs (cxOf CX0 P w K mg base N qual (defScope st) f (.ref c) A outer s H E).nox (defBody st) t ∧ t { nx := fun _ H' => Q .non H', rt := Q } (L2.start N vs) H) : FnOk P w K mg base CX0 (k + 1) f fd ps sp := by
  obtain ⟨oc, od, kV, doc, pm, an, ct, osl, e, look, ci⟩ := F.ex
  subst e
  exact fn_of look ci S len fun A outer s H vs Q E room h => (body A outer s H vs Q E room h).imp fun t z => ⟨z.1.nox, z.2⟩
end
/-- what hears, by its name -/
structure HearD (K : PySem.W.Frag) (mg : Str → Option Value) (g : Addr) : Prop where
  hm : mg "_law_heard" = some (.ref g)
  kp : PySem.W.keepIn K (.ref g) = true
  lk : ∃ (oc : Value) (od : Option Addr) (kV doc pm : Value) (an : Option Addr) (cdv ct : Value) (osl : Array (Option Value)), K.lookup g = some ⟨oc, od, .func (PySem.W.fnOf "_law_heard" "_law_heard" (defArgs s_heard) (defBody s_heard) (defScope s_heard) .none kV doc pm an cdv ct), osl⟩ ∧ PySem.W.codeIn K cdv "_law_heard" = true
/-- the tables of code objects of those that make lambdas -/
structure TabT (base : Heap) (mg : Str → Option Value) (T : List (Addr × Str)) (q : Str) (c P : Addr) : Prop where
  tb : TabB base mg c P
  mem : (P, q ++ "<lambda>") ∈ T
  one : ∀ p ∈ T, p.1 = P → p.2 = q ++ "<lambda>"
section
variable {X : Cx} {CM CJ CB CU CT CR g c P : Addr} {T : List (Addr × Str)} {j k : Nat} {params : Arguments} {body : Expr} {scope : Scope} {t : XK → TE} {p lpos pos : Pos} {qn : Str}
theorem pe_heard (th : Th X.K X.mg CM CJ CB CU CT CR) (D : HearD X.K X.mg g) (TB : TabT X.base X.mg T qn c P) (hr : Room j X.A) (hj : k + 3 ≤ j) (hcode : X.env.code = .ref c) (hq : X.env.qual = qn) (hg : Gl X "_law_heard") (L : LamS X.env.scope scope) (hdef : defaultsOf params X.env = ([], []))
    (hbind : ∀ (q : Str) (cl : List (Str × Addr)) (pm cv ctv : Value), bindArgs (PySem.W.kla_fn "<lambda>" q params body scope cl pm cv ctv) ⟨[], []⟩ = pure [])
    (hbody : ∀ (A : Around) (outer : List Env) (s : Shared) (H : Hp) (E : XK) (f c' : Addr), Room k (A.deeper (lamEnv X scope s.heap.objs.size f c')) → PE (lamCx X A outer s H E scope f c') body (t E)) :
    PE X (.Call (.Name "_law_heard" p) [.Lambda params body scope lpos] [] pos) (tLam T (TTheard CB CU CT) t) := by
  obtain ⟨oc, od, kV, doc, pm, an, cdv, ct, osl, look, ci⟩ := D.lk
  refine pe_lamcall (k := k) (Ng := n_heard) (a := "_law_ask") hg D.hm D.kp look ci ?_ sc_heard rfl (.inl rfl) (heard_gives th fun s => ?_) TB.tb hcode (by rw [hq]; exact TB.mem) (by rw [hq]; exact TB.one) (hr.mono (by omega)) L hdef hbind hbody
  · exact .all fun us hl => match us, hl with | [_], _ => rfl
  · exact (hr.mono (show 2 ≤ j by omega)).deeper _
end
section
variable {X : Cx} {K : PySem.W.Frag} {k j : Nat} {C : Addr} {sp : Sp} {E : XK}
theorem op_binXK {op : Operator} {m : Str} (hK : X.K = K) (c : BoX X.prog X.w X.K X.mg X.base k C m sp) (hx : Passes (L2.CX X.prog X.w) X E) (hr : Room j X.A) (hk : k ≤ j) (hm : PySem.dunder op.info.2 = m := by rfl) : OpR X (binaryOp op) (rBinOwn K C sp E) := by
  subst hK
  exact op_binX c hx hr hk hm
theorem op_anyXK {op : Operator} {m : Str} (hK : X.K = K) (c : BoX X.prog X.w X.K X.mg X.base k C m sp) (hx : Passes (L2.CX X.prog X.w) X E) (hn : PySem.W.findIn X.K (.ref C) (PySem.dunderR op.info.2) = some none) (hr : Room j X.A) (hk : k ≤ j) (hm : PySem.dunder op.info.2 = m := by rfl) : OpR X (binaryOp op) (rBinAny K C op.info.2 sp E) := by
  subst hK
  exact op_anyX c hx hn hr hk hm
theorem op_leXK (hK : X.K = K) (c : BoX X.prog X.w X.K X.mg X.base k C "__le__" sp) (hx : Passes (L2.CX X.prog X.w) X E) (hr : Room j X.A) (hk : k ≤ j) : OpR X (compareOp .LtE) (rLeOwn K C sp E) := by
  subst hK
  exact op_leX c hx hr hk
end
end V8

set_option Elab.async false
set_option linter.all false
set_option maxRecDepth 100000
set_option maxHeartbeats 4000000
/-! repr of a bool. -/
namespace L2
open PySem PySem.Spec PyProof.Rows
theorem call_reprB {X : Cx} : CallR X (.builtin "repr") (fun xs H Q => ∃ b, xs = [.bl b] ∧ Q (.str (if b = true then "True" else "False")) H) := by
  intro pins s σ H xs us Q I r h
  obtain ⟨b, rfl, q⟩ := h
  match us, r with
  | [u], .cons r1 .nil =>
    obtain rfl : u = Value.bool b := r1
    refine PySem.P.repr_of_bool ?_
    exact ⟨.str _, H, I.tok _, ⟨_, by cases b <;> rfl⟩, q⟩
end L2

set_option Elab.async false
set_option linter.all false
set_option maxRecDepth 100000
set_option maxHeartbeats 8000000
/-! What is due of two joined tables. -/
namespace V8
open PySem PySem.Spec PyProof.Rows L2
abbrev s_due : Stmt := topS 43
abbrev n_due : List Str := ["_law_first", "_law_last", "_law_letter", "_law_whole", "_law_sign"]
theorem sc_due : FnScope ["_law_first", "_law_last", "_law_letter", "_law_whole", "_law_sign"] ["_law_first", "_law_last"] (defScope s_due) := ⟨rfl, rfl, rfl, by decide +kernel, rfl, by decide +kernel, by decide +kernel⟩
theorem lt1 (z p : Nat) (h : (!ltCps (L1 z).cps.toList (L1 p).cps.toList) = true) : p ≤ z := by
  have e1 : (L1 z).cps.toList = [z] := rfl
  have e2 : (L1 p).cps.toList = [p] := rfl
  rw [e1, e2] at h
  simp [ltCps] at h
  omega
theorem rise_pw : ∀ (zs : List Nat) (p : Nat), risingS (L1 p) (zs.map L1) = true → (p :: zs).Pairwise (· ≤ ·)
  | [], p, _ => List.pairwise_singleton _ _
  | z :: r, p, h => by
    have h' : (!ltCps (L1 z).cps.toList (L1 p).cps.toList && risingS (L1 z) (r.map L1)) = true := h
    rw [Bool.and_eq_true] at h'
    have ih := rise_pw r z h'.2
    have hp := lt1 z p h'.1
    refine List.Pairwise.cons (fun x hx => ?_) ih
    rcases List.mem_cons.mp hx with e | e
    · rw [e]
      exact hp
    · exact Nat.le_trans hp ((List.pairwise_cons.mp ih).1 x e)
theorem sorted_pw (zs : List Nat) (h : sortedS (zs.map L1) = true) : zs.Pairwise (· ≤ ·) := by
  cases zs with
  | nil => exact .nil
  | cons z r => exact rise_pw r z h
theorem un_map {ys : List Str} {xs : List Nat} (h : ys.Perm (xs.map L1)) : ∃ zs : List Nat, ys = zs.map L1 ∧ zs.Perm xs := by
  have e : ∀ y ∈ ys, L1 (y.cps.toList.headD 0) = y := fun y hy => by
    obtain ⟨c, _, rfl⟩ := List.mem_map.mp (h.mem_iff.mp hy)
    rfl
  refine ⟨ys.map fun y => y.cps.toList.headD 0, ?_, ?_⟩
  · rw [List.map_map]
    have : ys.map (L1 ∘ fun y => y.cps.toList.headD 0) = ys.map id := List.map_congr_left fun y hy => e y hy
    rw [this, List.map_id]
  · have h2 := h.map fun y => y.cps.toList.headD 0
    rw [List.map_map] at h2
    have : xs.map ((fun y : Str => y.cps.toList.headD 0) ∘ L1) = xs.map id := List.map_congr_left fun y hy => rfl
    rw [this, List.map_id] at h2
    exact h2
theorem look_iff {t : Tab} {c : Nat} : (lookT t c).isSome = true ↔ c ∈ t.map (·.1) := by
  constructor
  · intro h
    obtain ⟨s, e⟩ := Option.isSome_iff_exists.mp h
    exact List.mem_map.mpr ⟨_, look_in e, rfl⟩
  · intro h
    obtain ⟨q, hq, rfl⟩ := List.mem_map.mp h
    unfold lookT
    rw [Option.isSome_map, List.find?_isSome]
    exact ⟨q, hq, by simp⟩
theorem abc_pw : abc.Pairwise (· ≤ ·) := by decide
theorem keys_perm {t : Tab} (nd : (t.map (·.1)).Nodup) (hl : ∀ q ∈ t, isLt q.1) : (t.map (·.1)).Perm (keysOf t) := by
  refine (List.perm_ext_iff_of_nodup nd (keysOf_nd t)).mpr fun c => ?_
  rw [keysOf_mem, look_iff]
  constructor
  · intro h
    obtain ⟨q, hq, rfl⟩ := List.mem_map.mp h
    exact ⟨abc_mem.mpr (hl q hq), h⟩
  · exact fun h => h.2
theorem sorted_keys {t u : Tab} {ys : List Str} (nd : (t.map (·.1)).Nodup) (hl : ∀ q ∈ t, isLt q.1) (e : eqM u t) (hp : ys.Perm (t.map fun q => L1 q.1)) (hs : sortedS ys = true) : ys = (keysOf u).map L1 := by
  rw [keysOf_congr e]
  have hp' : ys.Perm ((t.map (·.1)).map L1) := by
    rw [List.map_map]
    exact hp
  obtain ⟨zs, rfl, hz⟩ := un_map hp'
  have h1 := sorted_pw zs hs
  have h2 : (keysOf t).Pairwise (· ≤ ·) := abc_pw.filter _
  have h3 : zs = keysOf t := List.Perm.eq_of_pairwise (le := (· ≤ ·)) (fun a b _ _ x y => Nat.le_antisymm x y) h1 h2 (hz.trans (keys_perm nd hl))
  rw [h3]
/-- an expression is done by what is known of its value -/
theorem via {t : TE} {σ : L2.St} {H : Hp} {R : VK} (A : V → Hp → Prop) (h1 : ∀ R' : VK, (∀ v H', A v H' → R' v H') → t σ H R') (h2 : ∀ v H', A v H' → R v H') : t σ H R := h1 R h2
theorem viaAsg {te : TE} {g : TG} {rest : TS} {D : Ends} {σ : L2.St} {H : Hp} (A : V → Hp → Prop) (h1 : ∀ R' : VK, (∀ v H', A v H' → R' v H') → te σ H R') (h2 : ∀ v H', A v H' → g v σ H' (rest D)) : tSeq (tAsg te g) rest D σ H := h1 _ h2
theorem atName {i : Nat} {v : V} {σ : L2.St} {H : Hp} {Q : L2.St → Hp → Prop} (h : Q (σ.set i (some v)) H) : gName i v σ H Q := h
theorem viaT {t : TT} {σ : L2.St} {H : Hp} {R : Bool → Hp → Prop} (A : Bool → Hp → Prop) (h1 : ∀ R' : Bool → Hp → Prop, (∀ v H', A v H' → R' v H') → t σ H R') (h2 : ∀ v H', A v H' → R v H') : t σ H R := h1 R h2
/-- a dict whose keys are letters -/
structure KeyT (t : Tab) : Prop where
  nd : (t.map (·.1)).Nodup
  lt : ∀ q ∈ t, isLt q.1
theorem KeyT.len {t : Tab} (g : KeyT t) : t.length ≤ 26 := by
  have h := (keys_perm g.nd g.lt).length_eq
  rw [List.length_map] at h
  rw [h]
  exact keysOf_len t
theorem GoodT.keyT {cs : List Nat} {t : Tab} (g : GoodT cs t) (h : ∀ c ∈ cs, isLt c) : KeyT t := ⟨g.nd, fun q hq => h _ (g.key q hq)⟩
theorem KeyT.mem {t : Tab} (g : KeyT t) {c : Nat} : c ∈ keysOf t ↔ c ∈ t.map (·.1) := (keys_perm g.nd g.lt).mem_iff.symm
theorem KeyT.put {t : Tab} (g : KeyT t) {c : Nat} {s : List Nat} (hc : isLt c) : KeyT (putT t c s) := ⟨put_nd g.nd, fun q hq => by
  rcases keys_put q hq with h | rfl
  · exact g.lt q h
  · exact hc⟩
theorem mergeT_snoc : ∀ (b a : Tab) (q : Nat × List Nat), mergeT a (b ++ [q]) = putT (mergeT a b) q.1 q.2
  | [], _, _ => rfl
  | p :: b, a, q => mergeT_snoc b (putT a p.1 p.2) q
theorem KeyT.merge {a b : Tab} (ga : KeyT a) (gb : KeyT b) : KeyT (mergeT a b) := ⟨merge_nd ga.nd, merge_key ga.lt gb.lt⟩
theorem lk_merge {a b : Tab} (gb : KeyT b) : lk (mergeT a b) = uF (lk a) (lk b) := by
  funext c
  show (if c ∈ abc then lookT (mergeT a b) c else none) = (if c ∈ abc then lookT b c else none).orElse fun _ => (if c ∈ abc then lookT a c else none)
  rw [look_merge gb.nd]
  by_cases h : c ∈ abc
  · rw [if_pos h, if_pos h, if_pos h]
  · rw [if_neg h, if_neg h, if_neg h]
    rfl
theorem merge_len {a b : Tab} (ga : KeyT a) (gb : KeyT b) : (mergeT a b).length = nU a b := by
  have n2 : (abc.filter fun c => decide (c ∈ keysOf a ∨ c ∈ keysOf b)).Nodup := List.filter_sublist.nodup abc_nd
  rw [← List.length_map (f := (·.1))]
  refine nd_same (ga.merge gb).nd n2 fun c => ?_
  rw [mergeT_keys, ← ga.mem, ← gb.mem, List.mem_filter, decide_eq_true_iff]
  exact ⟨fun h => ⟨h.elim keys_abc keys_abc, h⟩, fun h => h.2⟩
def spDue : Sp := fun vs H Q _ => ∃ (d1 d2 : Addr) (t1 t2 : Tab), vs = [.ref d1, .ref d2] ∧ H d1 = some (.dK (encT t1)) ∧ H d2 = some (.dK (encT t2)) ∧ KeyT t1 ∧ KeyT t2 ∧
  (∀ c, cfl t1 t2 = some c → ∀ t H', Same H H' → H' t = some (.tup [.str "unlike", .str (L1 c)]) → Q (.ref t) H') ∧
  (cfl t1 t2 = none → 12 < nU t1 t2 → ∀ t H', Same H H' → H' t = some (.tup [.str "letters", .int 12]) → Q (.ref t) H') ∧
  (cfl t1 t2 = none → nU t1 t2 ≤ 12 → ∀ d tw H', Same H H' → H' d = some (.dK (encT tw)) → KeyT tw → lk tw = uF (lk t1) (lk t2) → Q (.ref d) H')
section
variable {P : Program} {w : World} {K : PySem.W.Frag} {mg : Str → Option Value} {base : Heap} {CM CJ : Addr}
theorem ok_due {f : Addr} {fd : FuncData} (F : Fun K "_law_due" "_law_due" s_due f fd) (T : Tz K mg CM CJ) : FnOk P w K mg base CX0 1 f fd ["_law_first", "_law_last"] spDue := by
  refine F.ok sc_due (fun vs H Q E h => ?_) (fun cdv A outer s H vs Q E hr h => ?_)
  · obtain ⟨d1, d2, t1, t2, rfl, _⟩ := h
    rfl
  · obtain ⟨d1, d2, t1, t2, rfl, h1, h2, g1, g2, qc, qt, q⟩ := h
    refine ⟨_, (pss_cons (ps_for PassesOwn.never rfl (pi_list (pe_callB cr_sortedS (by rfl) T.sorted (by decide +kernel) (pa_cons (pe_lock (pe_lc (own := [("_law_sign", 4)]) (g := gName 4) (by rfl) sc_due.nd (pi_keys (pv 0)) (blkOk_by (own := [("_law_sign", 4)]) (N := n_due) (sc := defScope s_due) (by decide +kernel)) (fun _ _ _ _ _ => (pg_name (i := 4) sc_due.nd rfl (.inl rfl))) (fun _ _ _ _ _ => pts_nil) (fun _ _ _ _ _ => (pe_callTy call_strS (by rfl) T.str (by decide +kernel) (pa_cons (pv 4) pa_nil))))) pa_nil))) (pg_name (i := 2) sc_due.nd rfl (.inl rfl))
        (pss_one (ps_if (PW.pt (pw_and (pt_cmp (pc_din (hu_of hr) (pv 2) (pv 1))) (pw_and1 (pt_cmpR op_ne (pe_dget (hu_of hr) (pv 1) (pv 2) (fun _ _ => rfl)) (pe_dget (hu_of hr) (pv 0) (pv 2) (fun _ _ => rfl)) (nomark _)))))
          (pss_one (ps_ret (pe_tup (pa_cons pe_str (pa_cons (pv 2) pa_nil)))))
          pss_nil)))
      (pss_cons (ps_set (i := 3) sc_due.nd rfl (.inl rfl) (pe_callTy call_dictD (by rfl) T.dict (by decide +kernel) (pa_cons (pv 0) pa_nil)))
      (pss_cons (ps_lock (ps_for PassesOwn.never rfl (pi_keys (pv 1)) (pg_name (i := 2) sc_due.nd rfl (.inl rfl))
        (pss_one (ps_dput (hu_of hr) (pv 3) (pv 2) (pe_dget (hu_of hr) (pv 1) (pv 2) (fun _ _ => rfl)) rfl))))
      (pss_one (ps_ret (pe_ifExp (pt_cmpR op_le (pe_callB call_lenD (by rfl) T.len (by decide +kernel) (pa_cons (pv 3) pa_nil)) pe_int (nomark _)) (pv 3) (pe_tup (pa_cons pe_str (pa_cons pe_int pa_nil))))))))), ?_⟩
    have l1 := g1.len
    have l2 := g2.len
    refine ⟨d1, _, h1, True.intro, fun od => ⟨_, rfl, d1, od, rfl, .inl ⟨_, upd_same, fun D nD => lc_it walk_keys (fun i H2 => H2 = upd (upd H d1 (.frz od (.dK (encT t1)))) D (.lst ((t1.map fun q => V.str (L1 q.1)).take i))) rfl ?_ ?_ ?_⟩⟩⟩
    · rintro i H2 hi rfl
      rw [upd_ne (ne_of_none upd_same nD)]
      exact upd_same
    · rintro i z H2 H2' hi rfl ⟨rfl, k, v, hk, rfl⟩
      obtain ⟨hit, rfl, rfl⟩ := enc_at hk
      refine ⟨rfl, _, rfl, _, rfl, acc_ok ?_ ?_⟩
      · rw [List.getElem?_map, List.getElem?_eq_getElem hit]
        rfl
      · rw [List.length_map]
        omega
    rintro H2 rfl
    have hdD : d1 ≠ D := ne_of_none upd_same nD
    rw [encT_len, List.take_of_length_le (by rw [List.length_map]; exact Nat.le_refl _)]
    refine ⟨by rw [upd_ne hdD]; exact upd_same, D, t1.map fun q => L1 q.1, rfl, ?_, by rw [List.length_map]; omega, fun ys nm hp hs nn => ?_⟩
    · rw [List.map_map]
      refine SqL.of ?_
      rw [upd_ne (Ne.symm hdD)]
      exact upd_same
    have ey : ys = (keysOf t1).map L1 := sorted_keys g1.nd g1.lt (fun _ _ => rfl) hp hs
    rw [ey, ← lets_ss]
    have nDH : H D = none := by
      rw [← nD, upd_ne (Ne.symm hdD)]
    have sa : Same H (upd (upd (upd H d1 (.frz od (.dK (encT t1)))) D (.lst (t1.map fun q => V.str (L1 q.1)))) d1 (.dK (encT t1))) := fun b o e => by
      by_cases hb : b = d1
      · rw [hb, upd_same, ← e, hb, h1]
      · rw [upd_ne hb, upd_ne (ne_of_none e nDH), upd_ne hb]
        exact e
    have s1 := same_put (s := sa) (o := .lst (lets (keysOf t1))) nn
    have hn : upd (upd (upd (upd H d1 (.frz od (.dK (encT t1)))) D (.lst (t1.map fun q => V.str (L1 q.1)))) d1 (.dK (encT t1))) nm (.lst (lets (keysOf t1))) nm = some (.lst (lets (keysOf t1))) := upd_same
    generalize upd (upd (upd (upd H d1 (.frz od (.dK (encT t1)))) D (.lst (t1.map fun q => V.str (L1 q.1)))) d1 (.dK (encT t1))) nm (.lst (lets (keysOf t1))) = H1 at s1 hn ⊢
    clear nn sa nDH nD hdD
    have h1' := s1 _ _ h1
    have h2' := s1 _ _ h2
    refine ⟨nm, rfl, ⟨_, SqL.of hn⟩, for_it (walk_list (K := K) (a := nm) (xs := lets (keysOf t1))) (fun i σ H2 => (∃ v2 : Option V, σ = [some (.ref d1), some (.ref d2), v2, none, none]) ∧ Same H1 H2 ∧ ∀ c ∈ (keysOf t1).take i, decide (c ∈ keysOf t2 ∧ lookT t2 c ≠ lookT t1 c) = false) ⟨⟨none, rfl⟩, Same.refl _, fun c h => by simp at h⟩ (fun i σ H2 hi h => SqL.of (h.2.1 _ _ hn)) ?_ ?_⟩
    · rintro i z σ H2 H2' hi ⟨⟨v2, rfl⟩, s2, nc⟩ ⟨rfl, hz⟩
      obtain ⟨hik, rfl⟩ := lets_get hz
      have hm := List.getElem_mem hik
      have hab := keys_abc hm
      obtain ⟨s, e2⟩ := Option.isSome_iff_exists.mp (keysOf_mem.mp hm).2
      have more : decide ((keysOf t1)[i] ∈ keysOf t2 ∧ lookT t2 (keysOf t1)[i] ≠ lookT t1 (keysOf t1)[i]) = false → ∀ c ∈ (keysOf t1).take (i + 1), decide (c ∈ keysOf t2 ∧ lookT t2 c ≠ lookT t1 c) = false := fun h c hc => by
        rw [keys_take hik] at hc
        rcases List.mem_append.mp hc with y | y
        · exact nc c y
        · rw [List.mem_singleton.mp y]
          exact h
      refine ⟨_, rfl, _, rfl, d2, _, rfl, DGet.k (k := Sum.inr (L1 (keysOf t1)[i])) (s2 _ _ h2'), _, rfl, ?_⟩
      rw [valV_enc, Option.isSome_map]
      cases e4 : lookT t2 (keysOf t1)[i] with
      | none =>
        refine iteF ?_
        exact ⟨⟨_, rfl⟩, s2, more (decide_eq_false fun w => by
          have := (keysOf_mem.mp w.1).2
          rw [e4] at this
          cases this)⟩
      | some r =>
        have m : (keysOf t1)[i] ∈ keysOf t2 := keysOf_mem.mpr ⟨hab, by rw [e4]; rfl⟩
        refine iteT ?_
        refine ⟨_, rfl, _, rfl, d2, V.str (Sx r), rfl, .inl ⟨_, Sum.inr (L1 (keysOf t1)[i]), .inl (s2 _ _ h2'), rfl, by rw [valV_enc, e4]; rfl⟩, _, rfl, _, rfl, d1, V.str (Sx s), rfl, .inl ⟨_, Sum.inr (L1 (keysOf t1)[i]), .inl (s2 _ _ h1'), rfl, by rw [valV_enc, e2]; rfl⟩, rfl, ?_⟩
        by_cases z : r = s
        · refine ⟨false, by rw [decide_eq_true (show V.str (Sx r) = V.str (Sx s) by rw [z])]; rfl, iteF ?_⟩
          exact ⟨⟨_, rfl⟩, s2, more (decide_eq_false fun w => w.2 (by rw [e4, e2, z]))⟩
        · refine ⟨true, by rw [decide_eq_false (show ¬ V.str (Sx r) = V.str (Sx s) from fun q => z (Sx_inj (V.str.inj q)))]; rfl, iteT ?_⟩
          have ec : cfl t1 t2 = some (keysOf t1)[i] := find_at hik nc (decide_eq_true ⟨m, fun w => z (by rw [e4, e2] at w; exact Option.some.inj w)⟩)
          exact ⟨_, rfl, by show 2 ≤ sizeLine; decide, fun t nt => qc _ ec t _ (same_put (s := Same.trans s1 s2) nt) upd_same⟩
    rintro σ H2 ⟨⟨v2, rfl⟩, s2, nc⟩
    rw [lets_len, List.take_length] at nc
    have ec : cfl t1 t2 = none := List.find?_eq_none.mpr fun c hc => by rw [nc c hc]; exact Bool.false_ne_true
    have s12 := Same.trans s1 s2
    replace h1 := s12 _ _ h1
    replace h2 := s12 _ _ h2
    clear h1' h2' s1 hn nc s2
    -- dict(first)
    refine ⟨_, rfl, d1, _, rfl, .inl h1, fun dw nw => ?_⟩
    refine atName ?_
    dsimp only
    have s3 := same_put (s := Same.refl H2) (o := .dK (encT t1)) nw
    have hw : upd H2 dw (.dK (encT t1)) dw = some (.dK (encT t1)) := upd_same
    have h21 : d2 ≠ dw := ne_of_none h2 nw
    refine ⟨d2, _, s3 _ _ h2, True.intro, fun od2 => ⟨_, rfl, d2, od2, rfl, .inl ⟨_, upd_same, for_it walk_keys (fun i σ H3 => (∃ v4 : Option V, σ = [some (.ref d1), some (.ref d2), v4, some (.ref dw), none]) ∧ (∀ b o, H2 b = some o → b ≠ d2 → H3 b = some o) ∧ H3 d2 = some (.frz od2 (.dK (encT t2))) ∧ H3 dw = some (.dK (encT (mergeT t1 (t2.take i))))) ?_ ?_ ?_ ?_⟩⟩⟩
    · refine ⟨⟨v2, rfl⟩, fun b o e hb => ?_, upd_same, ?_⟩
      · rw [upd_ne hb]
        exact s3 _ _ e
      · rw [upd_ne (Ne.symm h21)]
        exact hw
    · rintro i σ H3 hi ⟨_, _, hf, _⟩
      exact hf
    · rintro i z σ H3 H3' hi ⟨⟨v4, rfl⟩, fr, hf, hw3⟩ ⟨rfl, k, v, hk, rfl⟩
      obtain ⟨hit, rfl, rfl⟩ := enc_at hk
      have sz : (encT (mergeT t1 (t2.take i))).length < sizeLine := by
        rw [encT_len]
        have g3 : KeyT (t2.take i) := ⟨by rw [List.map_take]; exact g2.nd.sublist (List.take_sublist _ _), fun q hq => g2.lt q (List.mem_of_mem_take hq)⟩
        have := (g1.merge g3).len
        exact small1000 (by omega)
      refine ⟨_, rfl, _, rfl, d2, V.str (Sx t2[i].2), rfl, .inl ⟨_, Sum.inr (L1 t2[i].1), .inr ⟨od2, hf⟩, rfl, ?_⟩, _, rfl, _, rfl, dw, _, rfl, DPut.k (k := Sum.inr (L1 t2[i].1)) hw3 sz, ?_⟩
      · rw [valV_enc, look_at g2.nd hit]
        rfl
      · rw [putK_enc]
        refine ⟨⟨_, rfl⟩, fun b o e hb => ?_, ?_, ?_⟩
        · rw [upd_ne (ne_of_none e nw)]
          exact fr b o e hb
        · rw [upd_ne h21]
          exact hf
        · rw [upd_same, ← mergeT_snoc, List.take_add_one, List.getElem?_eq_getElem hit]
          rfl
    · rintro σ H3 ⟨⟨v4, rfl⟩, fr, hf, hw3⟩
      rw [encT_len, List.take_length] at hw3
      refine ⟨hf, ?_⟩
      dsimp only
      have s4 : Same H (upd H3 d2 (.dK (encT t2))) := fun b o e => by
        by_cases hb : b = d2
        · have e1 := s12 _ _ e
          rw [hb, h2] at e1
          rw [hb, upd_same]
          exact e1
        · rw [upd_ne hb]
          exact fr b o (s12 _ _ e) hb
      have hw4 : upd H3 d2 (.dK (encT t2)) dw = some (.dK (encT (mergeT t1 t2))) := by
        rw [upd_ne (Ne.symm h21)]
        exact hw3
      generalize upd H3 d2 (.dK (encT t2)) = H4 at s4 hw4 ⊢
      refine ⟨_, rfl, dw, _, rfl, hw4, _, _, rfl, rfl, _, rfl, ?_⟩
      rw [encT_len, merge_len g1 g2]
      by_cases h12 : nU t1 t2 ≤ 12
      · rw [decide_eq_true (show ((nU t1 t2 : Nat) : Int) ≤ 12 by omega)]
        exact iteT ⟨_, rfl, q ec h12 dw _ H4 s4 hw4 (g1.merge g2) (lk_merge g2)⟩
      · rw [decide_eq_false (show ¬ ((nU t1 t2 : Nat) : Int) ≤ 12 by omega)]
        exact iteF ⟨by show 2 ≤ sizeLine; decide, fun t nt => qt ec (by omega) t _ (same_put (s := s4) nt) upd_same⟩
end
end V8

set_option Elab.async false
set_option linter.all false
set_option maxRecDepth 100000
set_option maxHeartbeats 8000000
/-! The text of a table. -/
namespace V8
open PySem PySem.Spec PyProof.Rows L2
abbrev s_text : Stmt := topS 44
abbrev n_text : List Str := ["_law_table_here", "_law_letter", "_law_sign"]
theorem sc_text : FnScope ["_law_table_here", "_law_letter", "_law_sign"] ["_law_table_here"] (defScope s_text) := ⟨rfl, rfl, rfl, by decide +kernel, rfl, by decide +kernel, by decide +kernel⟩
theorem words_sum {u : Tab} (sm : SmallT u) : ((wordsM u (keysOf u)).map (·.length)).sum + (wordsM u (keysOf u)).length * (" " : Str).length ≤ 16777216 := by
  have hk := keysOf_len u
  have h1 : ((wordsM u (keysOf u)).map fun x => x.length).sum ≤ _ := sum_le (fun x => x.length) 66 (wordsM u (keysOf u)) fun x hx => by
    obtain ⟨c, hc, rfl⟩ := List.mem_map.mp hx
    obtain ⟨s2, e2⟩ := Option.isSome_iff_exists.mp (keysOf_mem.mp hc).2
    rw [e2]
    show (Sx _).length ≤ _
    rw [Sx_len, List.length_cons, List.length_cons]
    have := sm _ _ e2
    show s2.length + 1 + 1 ≤ _
    omega
  have h2 : (wordsM u (keysOf u)).length = (keysOf u).length := List.length_map ..
  rw [h2] at h1 ⊢
  show _ + _ * 1 ≤ _
  have h3 : 66 * (keysOf u).length ≤ 66 * 26 := Nat.mul_le_mul_left _ hk
  omega
theorem words_pos {u : Tab} (e : keysOf u ≠ []) : 0 < ((wordsM u (keysOf u)).map (·.length)).sum := by
  cases h : keysOf u with
  | nil => exact absurd h e
  | cons c r =>
    show 0 < (wordM c ((lookT u c).getD [])).length + _
    have : 2 ≤ (wordM c ((lookT u c).getD [])).length := by
      show 2 ≤ (Sx _).length
      rw [Sx_len, List.length_cons, List.length_cons]
      omega
    omega
theorem len_join_le (l : List Str) (h : (l.map (·.length)).sum + l.length * (" " : Str).length ≤ 16777216) : (Txt.join " " l).length ≤ sizeLine := by
  show (Builtin.Str.glued " " l).length ≤ _
  rw [StrLaws.glued_eq_join]
  exact Nat.le_trans (StrLaws.join_length_le _ _) (Nat.le_trans h (by decide))
def spText : Sp := fun vs H Q _ => ∃ (d : Addr) (t : Tab), vs = [.ref d] ∧ H d = some (.dK (encT t)) ∧ KeyT t ∧ SmallT t ∧ ∀ H', Same H H' → Q (.str (strM t)) H'
theorem strM_congr {u v : Tab} (h : lk u = lk v) : strM u = strM v := by
  have e := eqM_lk.mpr h
  have k := keysOf_congr e
  unfold strM
  rw [k]
  have w : wordsM u (keysOf v) = wordsM v (keysOf v) := List.map_congr_left fun c hc => by rw [e c (keys_abc hc)]
  rw [w]
section
variable {P : Program} {w : World} {K : PySem.W.Frag} {mg : Str → Option Value} {base : Heap} {CM CJ : Addr}
theorem ok_text {f : Addr} {fd : FuncData} (F : Fun K "_law_text" "_law_text" s_text f fd) (T : Tz K mg CM CJ) : FnOk P w K mg base CX0 1 f fd ["_law_table_here"] spText := by
  refine F.ok sc_text (fun vs H Q E h => ?_) (fun cdv A outer s H vs Q E hr h => ?_)
  · obtain ⟨d, t, rfl, _⟩ := h
    rfl
  · obtain ⟨d, t, rfl, hd, g, sm, q⟩ := h
    refine ⟨_, (pss_one (ps_ret (pe_orT (pe_joinK (K := K) rfl pe_str (pe_lc (own := [("_law_letter", 1)]) (g := gName 1) (by rfl) sc_text.nd (pi_list (pe_callB cr_sortedS (by rfl) T.sorted (by decide +kernel) (pa_cons (pe_lock (pe_lc (own := [("_law_sign", 2)]) (g := gName 2) (by rfl) sc_text.nd (pi_keys (pv 0)) (blkOk_by (own := [("_law_sign", 2)]) (N := n_text) (sc := defScope s_text) (by decide +kernel)) (fun _ _ _ _ _ => (pg_name (i := 2) sc_text.nd rfl (.inl rfl))) (fun _ _ _ _ _ => pts_nil) (fun _ _ _ _ _ => (pe_callTy call_strS (by rfl) T.str (by decide +kernel) (pa_cons (pv 2) pa_nil))))) pa_nil))) (blkOk_by (own := [("_law_letter", 1)]) (N := n_text) (sc := defScope s_text) (by decide +kernel)) (fun _ _ _ _ _ => (pg_name (i := 1) sc_text.nd rfl (.inl rfl))) (fun _ _ _ _ _ => pts_nil) (fun _ _ _ _ _ => (pe_op op_add_str (pe_op op_add_str (pv 1) pe_str) (pe_dget (hu_of hr) (pv 0) (pv 1) (fun _ _ => rfl)))))) (pe_one pe_str)))), ?_⟩
    have lt := g.len
    refine ⟨⟨_, rfl⟩, ?_⟩
    refine ⟨d, _, hd, True.intro, fun od => ⟨_, rfl, d, od, rfl, .inl ⟨_, upd_same, fun D nD => lc_it walk_keys (fun i H2 => H2 = upd (upd H d (.frz od (.dK (encT t)))) D (.lst ((t.map fun q => V.str (L1 q.1)).take i))) rfl ?_ ?_ ?_⟩⟩⟩
    · rintro i H2 hi rfl
      rw [upd_ne (ne_of_none upd_same nD)]
      exact upd_same
    · rintro i z H2 H2' hi rfl ⟨rfl, k, v, hk, rfl⟩
      obtain ⟨hit, rfl, rfl⟩ := enc_at hk
      refine ⟨rfl, _, rfl, _, rfl, acc_ok ?_ ?_⟩
      · rw [List.getElem?_map, List.getElem?_eq_getElem hit]
        rfl
      · rw [List.length_map]
        omega
    rintro H2 rfl
    have hdD : d ≠ D := ne_of_none upd_same nD
    rw [encT_len, List.take_of_length_le (by rw [List.length_map]; exact Nat.le_refl _)]
    refine ⟨by rw [upd_ne hdD]; exact upd_same, D, t.map fun q => L1 q.1, rfl, ?_, by rw [List.length_map]; omega, fun ys nm hp hs nn => ?_⟩
    · rw [List.map_map]
      refine SqL.of ?_
      rw [upd_ne (Ne.symm hdD)]
      exact upd_same
    have ey : ys = (keysOf t).map L1 := sorted_keys g.nd g.lt (fun _ _ => rfl) hp hs
    rw [ey, ← lets_ss]
    have nDH : H D = none := by
      rw [← nD, upd_ne (Ne.symm hdD)]
    have sa : Same H (upd (upd (upd H d (.frz od (.dK (encT t)))) D (.lst (t.map fun q => V.str (L1 q.1)))) d (.dK (encT t))) := fun b o e => by
      by_cases hb : b = d
      · rw [hb, upd_same, ← e, hb, hd]
      · rw [upd_ne hb, upd_ne (ne_of_none e nDH), upd_ne hb]
        exact e
    have s1 := same_put (s := sa) (o := .lst (lets (keysOf t))) nn
    have hn : upd (upd (upd (upd H d (.frz od (.dK (encT t)))) D (.lst (t.map fun q => V.str (L1 q.1)))) d (.dK (encT t))) nm (.lst (lets (keysOf t))) nm = some (.lst (lets (keysOf t))) := upd_same
    generalize upd (upd (upd (upd H d (.frz od (.dK (encT t)))) D (.lst (t.map fun q => V.str (L1 q.1)))) d (.dK (encT t))) nm (.lst (lets (keysOf t))) = H1 at s1 hn ⊢
    clear nn sa nDH nD hdD
    have hd1 := s1 _ _ hd
    have kl := keysOf_len t
    refine ⟨nm, rfl, ⟨_, SqL.of hn⟩, fun D nD => lc_it (walk_list (K := K) (a := nm) (xs := lets (keysOf t))) (fun i H' => H' = upd H1 D (.lst (((wordsM t (keysOf t)).map V.str).take i))) rfl ?_ ?_ ?_⟩
    · rintro i H' hi rfl
      exact SqL.of (by rw [upd_ne (ne_of_none hn nD)]; exact hn)
    · rintro i z H' H'' hi rfl ⟨rfl, hz⟩
      obtain ⟨hik, rfl⟩ := lets_get hz
      obtain ⟨s2, e1⟩ := Option.isSome_iff_exists.mp (keysOf_mem.mp (List.getElem_mem hik)).2
      have g4 := sm _ _ e1
      have s14 := same_put (s := Same.refl H1) (o := .lst (((wordsM t (keysOf t)).map V.str).take i)) nD
      have hw : (L1 (keysOf t)[i] ++ (":" : Str)) ++ Sx s2 = wordM (keysOf t)[i] s2 := by
        rw [L1_Sx, colon, sx_add, sx_add]
        rfl
      refine ⟨rfl, _, rfl, _, _, rfl, rfl, by show 2 ≤ sizeLine; decide, _, rfl, _, rfl, d, V.str (Sx s2), rfl, .inl ⟨_, Sum.inr (L1 (keysOf t)[i]), .inl (s14 _ _ hd1), rfl, by rw [valV_enc, e1]; rfl⟩, _, _, rfl, rfl, ?_, ?_⟩
      · rw [Sx_len]
        show 2 + s2.length ≤ sizeLine
        exact Nat.le_of_lt (small1000 (by omega))
      · rw [hw]
        refine acc_ok ?_ ?_
        · unfold wordsM
          rw [List.getElem?_map, List.getElem?_map, List.getElem?_eq_getElem hik]
          show some (V.str (wordM (keysOf t)[i] ((lookT t (keysOf t)[i]).getD []))) = _
          rw [e1]
          rfl
        · unfold wordsM
          rw [List.length_map, List.length_map]
          omega
    rintro H' rfl
    have eW : ((wordsM t (keysOf t)).map V.str).take (lets (keysOf t)).length = (wordsM t (keysOf t)).map V.str := List.take_of_length_le (by unfold wordsM; rw [List.length_map, List.length_map, lets_len]; exact Nat.le_refl _)
    rw [eW]
    have s14 := Same.trans s1 (same_put (s := Same.refl H1) (o := .lst ((wordsM t (keysOf t)).map V.str)) nD)
    have sz := words_sum sm
    refine ⟨_, D, wordsM t (keysOf t), rfl, rfl, .inl (SqL.of upd_same), sz, ?_⟩
    by_cases e : keysOf t = []
    · have e1 : strM t = "-" := if_pos e
      have e2 : wordsM t (keysOf t) = [] := by rw [e]; rfl
      refine ⟨false, ⟨?_, ?_⟩, iteF ?_⟩
      · rw [e2]
        exact Nat.zero_le _
      · rw [e2]
        rfl
      · have q2 := q _ s14
        rw [e1] at q2
        exact q2
    · have e1 : strM t = Txt.join " " (wordsM t (keysOf t)) := if_neg e
      refine ⟨true, ⟨?_, ?_⟩, iteT ?_⟩
      · exact len_join_le (wordsM t (keysOf t)) sz
      · have z := PyProof.Rows.len_join_ge_sum " " (wordsM t (keysOf t))
        have z2 := words_pos e
        have z3 : ((Txt.join " " (wordsM t (keysOf t))).length : Int) ≠ 0 := by omega
        exact (bne_iff_ne.mpr z3).symm
      · have q2 := q _ s14
        rw [e1] at q2
        exact q2
end
end V8

set_option Elab.async false
set_option linter.all false
set_option maxRecDepth 100000
set_option maxHeartbeats 8000000
/-! Two misreadings joined and compared as is due. -/
namespace V8
open PySem PySem.Spec PyProof.Rows L2 LamX
abbrev s_joined_right : Stmt := topS 45
abbrev n_joined_right : List Str := ["_law_one", "_law_two", "_law_first", "_law_last", "_law_due_here", "_law_heard_here", "_law_is_within", "_law_letter"]
theorem sc_joined_right : FnScope ["_law_one", "_law_two", "_law_first", "_law_last", "_law_due_here", "_law_heard_here", "_law_is_within", "_law_letter"] ["_law_one", "_law_two", "_law_first", "_law_last"] (defScope s_joined_right) := ⟨rfl, rfl, rfl, by decide +kernel, rfl, by decide +kernel, by decide +kernel⟩
theorem seq2 {a b r : TS} {D : Ends} {σ : L2.St} {H : Hp} (M : L2.St → Hp → Prop) (h2 : ∀ σ' H', M σ' H' → r D σ' H') (h1 : ∀ R : L2.St → Hp → Prop, (∀ σ' H', M σ' H' → R σ' H') → tSeq a b { D with nx := R } σ H) : tSeq a (tSeq b r) D σ H := h1 _ h2
theorem seq1 {a b : TS} {D : Ends} {σ : L2.St} {H : Hp} (M : L2.St → Hp → Prop) (h2 : ∀ σ' H', M σ' H' → b D σ' H') (h1 : ∀ R : L2.St → Hp → Prop, (∀ σ' H', M σ' H' → R σ' H') → a { D with nx := R } σ H) : tSeq a b D σ H := h1 _ h2
theorem ext_same {H H' : Hp} (s : Same H H') : ExtN H H' := ExtN.of s
theorem MisAt.ext {C : Addr} {H H' : Hp} {x : Addr} {u : Tab} (m : MisAt C H x u) (e : ExtN H H') : MisAt C H' x u := by
  obtain ⟨dx, a, b, c, h1, h2, h3, h4⟩ := m.at_
  exact ⟨dx, a, b, c, e _ _ h1 (fun _ z => nomatch z), e _ _ h2 (fun _ z => nomatch z), e _ _ h3 (fun _ z => nomatch z), e _ _ h4 (fun _ z => nomatch z)⟩
/-- an own heap of two misreadings, two dicts and tables -/
structure Four (T : List (Addr × Str)) (CM x y d1 d2 : Addr) (u v t1 t2 : Tab) (H : Hp) : Prop where
  mx : MisAt CM H x u
  my : MisAt CM H y v
  h1 : H d1 = some (.dK (encT t1))
  h2 : H d2 = some (.dK (encT t2))
  tb : Tabs T H
theorem Four.same {T : List (Addr × Str)} {CM x y d1 d2 : Addr} {u v t1 t2 : Tab} {H H' : Hp} (f : Four T CM x y d1 d2 u v t1 t2 H) (s : Same H H') : Four T CM x y d1 d2 u v t1 t2 H' :=
  ⟨f.mx.same s, f.my.same s, s _ _ f.h1, s _ _ f.h2, f.tb.ext s⟩
theorem Four.ext {T : List (Addr × Str)} {CM x y d1 d2 : Addr} {u v t1 t2 : Tab} {H H' : Hp} (f : Four T CM x y d1 d2 u v t1 t2 H) (s : ExtN H H') (t : Tabs T H') : Four T CM x y d1 d2 u v t1 t2 H' :=
  ⟨f.mx.ext s, f.my.ext s, s _ _ f.h1 (fun _ z => nomatch z), s _ _ f.h2 (fun _ z => nomatch z), t⟩
/-- the letters whose images are not those of the other one -/
def odds (t1 t2 : Tab) : Tab := t1.filter fun q => decide (lookT t2 q.1 ≠ some q.2)
theorem odds_nil {t1 t2 : Tab} (g1 : KeyT t1) (g2 : KeyT t2) : odds t1 t2 = [] ↔ leF (lk t1) (lk t2) := by
  unfold odds
  rw [List.filter_eq_nil_iff]
  constructor
  · intro h c s e
    obtain ⟨m, e2⟩ := lk_some e
    have hm : c ∈ abc := keys_abc m
    have e3 : lookT t1 c = some s := by
      rw [lk_look m]
      exact e
    have z := h _ (look_in e3)
    show (if c ∈ abc then lookT t2 c else none) = some s
    rw [if_pos hm]
    by_cases q : lookT t2 c = some s
    · exact q
    · exact absurd (decide_eq_true q) z
  · intro h q hq z
    have z := of_decide_eq_true z
    have hm : q.1 ∈ abc := abc_mem.mpr (g1.lt q hq)
    obtain ⟨i, hi, e⟩ := List.getElem_of_mem hq
    have e1 : lookT t1 q.1 = some q.2 := by
      rw [← e]
      exact look_at g1.nd hi
    have e2 := h q.1 q.2 (by
      show (if q.1 ∈ abc then lookT t1 q.1 else none) = some q.2
      rw [if_pos hm]
      exact e1)
    refine z ?_
    have e3 : (if q.1 ∈ abc then lookT t2 q.1 else none) = some q.2 := e2
    rw [if_pos hm] at e3
    exact e3
theorem leB_congr {u v u' v' : Tab} (h1 : lk u = lk u') (h2 : lk v = lk v') : leB u v = leB u' v' := by
  have z : leB u v = true ↔ leB u' v' = true := by rw [leB_iff, leB_iff, h1, h2]
  cases a : leB u v <;> cases b : leB u' v' <;> simp_all
theorem odds_leB {t1 t2 : Tab} (g1 : KeyT t1) (g2 : KeyT t2) : decide (odds t1 t2 = []) = leB t1 t2 := by
  by_cases h : odds t1 t2 = []
  · rw [decide_eq_true h, leB_iff.mpr ((odds_nil g1 g2).mp h)]
  · rw [decide_eq_false h]
    cases z : leB t1 t2 with
    | false => rfl
    | true => exact absurd ((odds_nil g1 g2).mpr (leB_iff.mp z)) h
theorem cfl_congr {u v u' v' : Tab} (h1 : lk u = lk u') (h2 : lk v = lk v') : cfl u v = cfl u' v' := by
  have k1 := keysOf_congr (eqM_lk.mpr h1)
  have k2 := keysOf_congr (eqM_lk.mpr h2)
  unfold cfl
  rw [k1, k2]
  have e : ∀ (t t' : Tab), lk t = lk t' → ∀ c ∈ abc, lookT t c = lookT t' c := fun t t' h c hc => by
    have z := congrFun h c
    have z' : (if c ∈ abc then lookT t c else none) = if c ∈ abc then lookT t' c else none := z
    rw [if_pos hc, if_pos hc] at z'
    exact z'
  have g : ∀ l : List Nat, (∀ c ∈ l, c ∈ abc) → l.find? (fun c => decide (c ∈ keysOf v' ∧ lookT v c ≠ lookT u c)) = l.find? (fun c => decide (c ∈ keysOf v' ∧ lookT v' c ≠ lookT u' c)) := fun l => by
    induction l with
    | nil => exact fun _ => rfl
    | cons a l ih =>
      intro hl
      rw [List.find?_cons, List.find?_cons, e u u' h1 a (hl a (List.mem_cons_self ..)), e v v' h2 a (hl a (List.mem_cons_self ..)), ih fun c hc => hl c (List.mem_cons_of_mem _ hc)]
  exact g _ fun c hc => keys_abc hc
theorem nU_congr {u v u' v' : Tab} (h1 : lk u = lk u') (h2 : lk v = lk v') : nU u v = nU u' v' := by
  unfold nU
  rw [keysOf_congr (eqM_lk.mpr h1), keysOf_congr (eqM_lk.mpr h2)]
theorem leF_antisymm {f g : Fu} (h1 : leF f g) (h2 : leF g f) : f = g := by
  funext c
  cases e : f c with
  | some s => exact (h1 c s e).symm
  | none =>
    cases e2 : g c with
    | none => rfl
    | some s =>
      have := h2 c s e2
      rw [e] at this
      cases this
theorem uF_right {f g : Fu} (h : leF f g) : uF f g = g := by
  funext c
  show (g c).orElse (fun _ => f c) = g c
  cases e : g c with
  | some s => rfl
  | none =>
    cases e2 : f c with
    | none => rfl
    | some s =>
      have := h c s e2
      rw [e] at this
      cases this
theorem uF_left {f g : Fu} (h : leF f g) : uF g f = g := by
  funext c
  show (f c).orElse (fun _ => g c) = g c
  cases e2 : f c with
  | none => rfl
  | some s =>
    rw [h c s e2]
    rfl
theorem leF_uF2 (f g : Fu) : leF g (uF f g) := fun c s e => by
  show (g c).orElse (fun _ => f c) = some s
  rw [e]
  rfl
theorem leF_uF1 {u v : Tab} (h : cfl u v = none) : leF (lk u) (uF (lk u) (lk v)) := fun c s e => by
  show (lk v c).orElse (fun _ => lk u c) = some s
  cases e2 : lk v c with
  | none => exact e
  | some r =>
    rw [cfl_none h e e2]
    rfl
theorem same_on {u v : Tab} (h : leF (lk u) (lk v)) {c : Nat} (m : c ∈ keysOf u) : c ∈ keysOf v ∧ lookT v c = lookT u c := by
  obtain ⟨s, e⟩ := Option.isSome_iff_exists.mp (lk_mem.mp m)
  have e2 := h c s e
  have m2 : c ∈ keysOf v := lk_mem.mpr (by rw [e2]; rfl)
  exact ⟨m2, by rw [lk_look m2, lk_look m, e, e2]⟩
theorem cfl_le {u v : Tab} (h : leF (lk u) (lk v)) : cfl u v = none := by
  unfold cfl
  rw [List.find?_eq_none]
  intro c hc z
  exact (of_decide_eq_true z).2 (same_on h hc).2
theorem cfl_ge {u v : Tab} (h : leF (lk u) (lk v)) : cfl v u = none := by
  unfold cfl
  rw [List.find?_eq_none]
  intro c hc z
  have z := of_decide_eq_true z
  exact z.2 (same_on h z.1).2.symm
theorem nU_le {u v : Tab} (h : leF (lk u) (lk v)) : nU u v ≤ (keysOf v).length := by
  unfold nU
  refine nd_len (List.filter_sublist.nodup abc_nd) fun c hc => ?_
  rcases of_decide_eq_true (List.mem_filter.mp hc).2 with m | m
  · exact (same_on h m).1
  · exact m
theorem nU_comm (u v : Tab) : nU u v = nU v u := by
  unfold nU
  congr 2
  funext c
  exact decide_eq_decide.mpr Or.comm
def dOpt : Option (List Nat) → PyData
  | none => .none
  | some s => .str (Sx s)
theorem eqv_opt {o : Option (List Nat)} {s : List Nat} : PyData.eqv (dOpt o) (.str (Sx s)) = decide (o = some s) := by
  cases o with
  | none => rfl
  | some r =>
    show (Sx r == Sx s) = _
    by_cases h : r = s
    · rw [h, decide_eq_true rfl]
      exact beq_self_eq_true _
    · rw [decide_eq_false fun z => h (Option.some.inj z)]
      exact beq_eq_false_iff_ne.mpr fun z => h (Sx_inj z)
theorem shaped_flat {d : PyData} (h1 : d.canLay0 = true) (h2 : d.depth = 0) : SeqAt.shaped d = true := by
  show (d.canLay0 && decide (d.depth ≤ 64)) = true
  rw [h1, h2]
  rfl
theorem eqv_nil (l : List Nat) : PyData.eqv (.list (l.map fun c => .str (L1 c))) (.list []) = decide (l = []) := by
  cases l <;> rfl
theorem odds_snoc {t1 t2 : Tab} {i : Nat} (h : i < t1.length) : odds (t1.take (i + 1)) t2 = odds (t1.take i) t2 ++ (if decide (lookT t2 t1[i].1 = some t1[i].2) = true then [] else [t1[i]]) := by
  unfold odds
  rw [List.take_add_one, List.getElem?_eq_getElem h, List.filter_append]
  congr 1
  show List.filter _ [t1[i]] = _
  by_cases e : lookT t2 t1[i].1 = some t1[i].2
  · rw [if_pos (decide_eq_true e), List.filter_cons, if_neg (by simp [e])]
    rfl
  · rw [if_neg (by simp [e]), List.filter_cons, if_pos (by simp [e])]
    rfl
theorem small_tab {t : Tab} (g : KeyT t) (b : Bnd 64 (lk t)) : SmallT t := fun c s e => by
  have hm : c ∈ abc := abc_mem.mpr (g.lt _ (look_in e))
  exact b c s (by
    show (if c ∈ abc then lookT t c else none) = some s
    rw [if_pos hm]
    exact e)
theorem bnd_uF {n : Nat} {f g : Fu} (h1 : Bnd n f) (h2 : Bnd n g) : Bnd n (uF f g) := fun c s e => by
  have e' : (g c).orElse (fun _ => f c) = some s := e
  cases e2 : g c with
  | none =>
    rw [e2] at e'
    exact h1 c s e'
  | some r =>
    rw [e2] at e'
    have z : r = s := Option.some.inj e'
    rw [← z]
    exact h2 c r e2
theorem nextS {D : Ends} {σ : L2.St} {H : Hp} (h : D.nx σ H) : tNext D σ H := h
/-- what is kept of a table is what it tells of letters -/
theorem MisAt.lk {C : Addr} {H : Hp} {x : Addr} {u v : Tab} (m : MisAt C H x u) (h : V8.lk u = V8.lk v) : MisAt C H x v := by
  have e := eqM_lk.mpr h
  have k := keysOf_congr e
  have ei : ims u = ims v := by
    unfold ims
    rw [k]
    exact List.map_congr_left fun c hc => by rw [e c (keys_abc hc)]
  have ec : chg u = chg v := by
    unfold chg
    rw [k]
    exact List.filter_congr fun c hc => by rw [e c (keys_abc hc)]
  obtain ⟨dx, a, b, c, h1, h2, h3, h4⟩ := m.at_
  exact ⟨dx, a, b, c, h1, by rw [← k]; exact h2, by rw [← ei]; exact h3, by rw [← ec]; exact h4⟩
def spJoined (T : List (Addr × Str)) (CM : Addr) : Sp := fun vs H Q _ => ∃ (x y d1 d2 : Addr) (u v t1 t2 : Tab), vs = [.ref x, .ref y, .ref d1, .ref d2] ∧ Four T CM x y d1 d2 u v t1 t2 H ∧ lk u = lk t1 ∧ lk v = lk t2 ∧ KeyT t1 ∧ KeyT t2 ∧ Bnd 64 (lk t1) ∧ Bnd 64 (lk t2) ∧ (keysOf t1).length ≤ 12 ∧ (keysOf t2).length ≤ 12 ∧ (∀ q ∈ t1, ∀ c ∈ q.2, isLt c) ∧ (∀ q ∈ t2, ∀ c ∈ q.2, isLt c) ∧
  ∀ H', ExtN H H' → Tabs T H' → Q (.bl true) H'
section
variable {K : PySem.W.Frag} {CM CB CU CT : Addr} {H : Hp} {Q : VK} {E : XK} {x y : Addr} {u v : Tab}
theorem or_mis (mx : MisAt CM H x u) (my : MisAt CM H y v) (j : Joins CM CU CT H u v Q E) : rBinOwn K CM (spOrX K CM CB CU CT) E (.ref x) (.ref y) H Q := by
  obtain ⟨dx, fx, hx⟩ := mx.ins
  obtain ⟨dy, fy, hy⟩ := my.ins
  exact ⟨x, dx, fx, y, dy, fy, rfl, hx, rfl, hy, x, .ref y, u, rfl, mx, .inl ⟨y, v, rfl, my, j⟩⟩
theorem le_misX {mg : Str → Option Value} {CJ : Addr} (T : Tz K mg CM CJ) (mx : MisAt CM H x u) (my : MisAt CM H y v) (q : ∀ H', Same H H' → Q (.bl (leB u v)) H') : rLeOwn K CM (spLeX K CM CB) E (.ref x) (.ref y) H Q := by
  obtain ⟨dx, fx, hx⟩ := mx.ins
  obtain ⟨dy, fy, hy⟩ := my.ins
  exact ⟨x, dx, fx, _, rfl, hx, .base (.ins hy T.cl T.tA T.tB T.tC T.tD), nf_self, x, .ref y, u, rfl, mx, .inl ⟨y, v, rfl, my, q⟩⟩
theorem ge_misX (mx : MisAt CM H x u) (my : MisAt CM H y v) (q : ∀ H', Same H H' → Q (.bl (leB v u)) H') : rGeOwn CM (spLeX K CM CB) E (.ref x) (.ref y) H Q := by
  obtain ⟨dx, fx, hx⟩ := mx.ins
  obtain ⟨dy, fy, hy⟩ := my.ins
  exact ⟨x, dx, fx, y, dy, fy, rfl, hx, rfl, hy, y, .ref x, v, rfl, my, .inl ⟨x, u, rfl, mx, q⟩⟩
end
/-- what a law of joins asks of its names -/
structure Tj (K : PySem.W.Frag) (mg : Str → Option Value) (CM CJ CB CU CT CR : Addr) : Prop extends Th K mg CM CJ CB CU CT CR where
  repr : mg "repr" = none
  ge : PySem.W.findIn K (.ref CM) "__ge__" = some (some (.builtin "object.__ge__"))
section
variable {P : Program} {w : World} {K : PySem.W.Frag} {mg : Str → Option Value} {base : Heap} {CM CJ CB CU CT CR g c PT : Addr} {TL : List (Addr × Str)}
theorem ok_joined {f : Addr} {fd : FuncData} (F : FunC K "_law_joined_right" "_law_joined_right" s_joined_right f c fd) (T : Tj K mg CM CJ CB CU CT CR) (D_due : Df P w K mg base 1 "_law_due" spDue) (D_text : Df P w K mg base 1 "_law_text" spText) (D_heard : HearD K mg g) (TB : TabT base mg TL (("_law_joined_right" : Str) ++ ".<locals>.") c PT)
    (D_or : BoX P w K mg base 7 CM "__or__" (spOrX K CM CB CU CT)) (D_le : BoX P w K mg base 5 CM "__le__" (spLeX K CM CB)) (D_str : Mf P w K mg base 1 CM "__str__" (spStr CM)) (D_eq : Mf P w K mg base 1 CM "__eq__" (spEq K CM)) : FnOk P w K mg base CX0 11 f fd ["_law_one", "_law_two", "_law_first", "_law_last"] (spJoined TL CM) := by
  refine F.ok sc_joined_right (fun vs H Q E h => ?_) (fun A outer s H vs Q E hr h => ?_)
  · obtain ⟨x, y, d1, d2, u, v, t1, t2, rfl, _⟩ := h
    rfl
  · obtain ⟨x, y, d1, d2, u, v, t1, t2, rfl, S, eu, ev, g1, g2, bu, bv, k1, k2, i1, i2, q⟩ := h
    refine ⟨_, (pss_cons (ps_par (i := 4) (j := 5) (by rfl) sc_joined_right.nd rfl rfl (by decide) rfl rfl (pa_cons (pe_c D_due hr (by decide) (by rfl) (pa_cons (pv 2) (pa_cons (pv 3) pa_nil))) (pa_cons (pe_heard (k := 7) T.toTh D_heard TB hr (by decide) rfl rfl (by rfl) (lamS_by (sc := defScope s_joined_right) (by decide +kernel)) (by rfl) (fun _ _ _ _ _ => rfl) (fun A2 o2 s2 H2 E2 f2 c2 hr2 => (pe_op (op_binXK (K := K) rfl D_or (passTk (takes_of rfl rfl rfl rfl)) hr2 (by decide)) (pv 0) (pv 1)))) pa_nil)) (by rfl))
      (pss_cons (ps_if (pt_not (pt_val (pe_callB call_isi (by rfl) T.isinstance (by decide +kernel) (pa_cons (pv 4) (pa_cons (pe_bltn (v := .ty "dict") (by rfl) T.dict (by decide +kernel) rfl) pa_nil)))))
        (pss_one (ps_if (pt_cmpR (op_neDK (K := K) rfl hr.units) (pv 5) (pv 4) (nomark _))
          (pss_one (ps_ret pe_bl))
          pss_nil))
        (pss_one (ps_if (PW.pt (pw_or (pt_not (pt_val (pe_callB call_isi (by rfl) T.isinstance (by decide +kernel) (pa_cons (pv 5) (pa_cons (pe_bltn (v := .ty "list") (by rfl) T.list (by decide +kernel) rfl) pa_nil))))) (pw_or (pt_cmpR op_ne (pe_callTy (call_strO D_str hr (by decide)) (by rfl) T.str (by decide +kernel) (pa_cons (pe_ix (ix_listK (K := K) rfl) (pv 5) pe_int (fun _ _ => rfl)) pa_nil)) (pe_c D_text hr (by decide) (by rfl) (pa_cons (pv 4) pa_nil)) (nomark _)) (pw_or (pt_not (pt_cmpR (op_leX D_le passL hr (by decide)) (pv 0) (pe_ix (ix_listK (K := K) rfl) (pv 5) pe_int (fun _ _ => rfl)) (nomark _))) (pw_or1 (pt_not (pt_cmpR (op_leX D_le passL hr (by decide)) (pv 1) (pe_ix (ix_listK (K := K) rfl) (pv 5) pe_int (fun _ _ => rfl)) (nomark _))))))))
          (pss_one (ps_ret pe_bl))
          pss_nil)))
      (pss_cons (ps_set (i := 6) sc_joined_right.nd rfl (.inl rfl) (pe_cmpR (op_eqDK (K := K) rfl hr.units) (pe_lock (pe_lc (own := [("_law_letter", 7)]) (g := gName 7) (by rfl) sc_joined_right.nd (pi_keys (pv 2)) (blkOk_by (own := [("_law_letter", 7)]) (N := n_joined_right) (sc := defScope s_joined_right) (by decide +kernel)) (fun _ _ _ _ _ => (pg_name (i := 7) sc_joined_right.nd rfl (.inl rfl))) (fun _ _ _ _ _ => (pts_one (pt_cmpR (op_neDK (K := K) rfl hr.units) (pe_dget1 (hu_of hr) (pv 3) (pv 7) ⟨by rfl, by rfl, by rfl, by rfl⟩) (pe_dget (hu_of hr) (pv 2) (pv 7) (fun _ _ => rfl)) (nomark _)))) (fun _ _ _ _ _ => (pv 7)))) (pe_lst pa_nil) (nomark _)))
      (pss_cons (ps_if (PW.pt (pw_or (pt_cmpR op_ne (pe_callB call_reprB (by rfl) T.repr (by decide +kernel) (pa_cons (pe_cmpR (op_leX D_le passL hr (by decide)) (pv 0) (pv 1) (nomark _)) pa_nil)) (pe_callB call_reprB (by rfl) T.repr (by decide +kernel) (pa_cons (pv 6) pa_nil)) (nomark _)) (pw_or1 (pt_cmpR op_ne (pe_callB call_reprB (by rfl) T.repr (by decide +kernel) (pa_cons (pe_cmpR (op_geX D_le passL T.ge T.tD hr (by decide)) (pv 1) (pv 0) (nomark _)) pa_nil)) (pe_callB call_reprB (by rfl) T.repr (by decide +kernel) (pa_cons (pv 6) pa_nil)) (nomark _)))))
        (pss_one (ps_ret pe_bl))
        pss_nil)
      (pss_cons (ps_if (PW.pt (pw_and (pt_val (pv 6)) (pw_and1 (PW.pt (pw_or (pt_cmpR (op_neO D_eq T.ne T.tD hr (by decide)) (pe_op (op_binX D_or passL hr (by decide)) (pv 0) (pv 1)) (pv 1) (nomark _)) (pw_or1 (pt_cmpR (op_neO D_eq T.ne T.tD hr (by decide)) (pe_op (op_binX D_or passL hr (by decide)) (pv 1) (pv 0)) (pv 1) (nomark _))))))))
        (pss_one (ps_ret pe_bl))
        pss_nil)
      (pss_one (ps_ret (pe_cmpR op_eq (pe_and (pe_cmpR (op_leX D_le passL hr (by decide)) (pv 0) (pv 1) (nomark _)) (pe_one (pe_cmpR (op_leX D_le passL hr (by decide)) (pv 1) (pv 0) (nomark _)))) (pe_cmpR (op_eqO D_eq hr (by decide)) (pv 0) (pv 1) (nomark _)) (nomark _))))))))), ?_⟩
    have eL : leB u v = leB t1 t2 := leB_congr eu ev
    have eC : cfl u v = cfl t1 t2 := cfl_congr eu ev
    have eN : nU u v = nU t1 t2 := nU_congr eu ev
    have s1l := g1.len
    have s2l := g2.len
    refine seq2 (fun σ' H' => (∃ w4 w5 : V, σ' = [some (.ref x), some (.ref y), some (.ref d1), some (.ref d2), some w4, some w5, none, none]) ∧ ExtN H H' ∧ Four TL CM x y d1 d2 u v t1 t2 H') ?_ fun R r => ?_
    · rintro σ' H1 ⟨⟨w4, w5, rfl⟩, e1, S1⟩
      refine viaAsg (fun w H2 => w = .bl (leB t1 t2) ∧ Same H1 H2) (fun R' r' => ?_) ?_
      · have h1 := S1.h1
        have h2 := S1.h2
        refine ⟨d1, _, h1, True.intro, fun od => ⟨_, rfl, d1, od, rfl, .inl ⟨_, upd_same, fun D nD => lc_it walk_keys (fun i H2 => H2 = upd (upd H1 d1 (.frz od (.dK (encT t1)))) D (.lst ((odds (t1.take i) t2).map fun q => V.str (L1 q.1)))) rfl ?_ ?_ ?_⟩⟩⟩
        · rintro i H2 hi rfl
          rw [upd_ne (ne_of_none upd_same nD)]
          exact upd_same
        · rintro i z H2 H2' hi rfl ⟨rfl, k, w, hk, rfl⟩
          obtain ⟨hit, rfl, rfl⟩ := enc_at hk
          have r1 : Rd (upd (upd H1 d1 (.frz od (.dK (encT t1)))) D (.lst ((odds (t1.take i) t2).map fun q => V.str (L1 q.1)))) d1 (.dK (encT t1)) := .inr ⟨od, by rw [upd_ne (ne_of_none upd_same nD)]; exact upd_same⟩
          have r2 : Rd (upd (upd H1 d1 (.frz od (.dK (encT t1)))) D (.lst ((odds (t1.take i) t2).map fun q => V.str (L1 q.1)))) d2 (.dK (encT t2)) := by
            by_cases hd : d2 = d1
            · have e : encT t2 = encT t1 := by
                rw [hd, h1] at h2
                injection h2 with z
                injection z with z
                exact z.symm
              rw [hd, e]
              exact r1
            · have h2' : upd H1 d1 (.frz od (.dK (encT t1))) d2 = some (.dK (encT t2)) := by rw [upd_ne hd]; exact h2
              exact .inl (by rw [upd_ne (ne_of_none h2' nD)]; exact h2')
          have e1 : lookT t1 t1[i].1 = some t1[i].2 := look_at g1.nd hit
          have lt1 : isLt t1[i].1 := g1.lt _ (List.getElem_mem hit)
          have lk2 : valV (encT t2) (Sum.inr (L1 t1[i].1)) = (lookT t2 t1[i].1).map fun s => V.str (Sx s) := valV_enc _ _
          have dp : Dp K (upd (upd H1 d1 (.frz od (.dK (encT t1)))) D (.lst ((odds (t1.take i) t2).map fun q => V.str (L1 q.1)))) ((valV (encT t2) (Sum.inr (L1 t1[i].1))).getD .non) (dOpt (lookT t2 t1[i].1)) := by
            rw [lk2]
            cases lookT t2 t1[i].1 with
            | none => exact .non
            | some s => exact .str _
          have sh : SeqAt.shaped (dOpt (lookT t2 t1[i].1)) = true := by
            cases e : lookT t2 t1[i].1 with
            | none => exact shaped_flat (by simp [dOpt, PyData.canLay0]) (by simp [dOpt, PyData.depth])
            | some s => exact shaped_flat (by simp only [dOpt, PyData.canLay0]; exact ok_sx (i2 _ (look_in e))) (by simp [dOpt, PyData.depth])
          have sh2 : SeqAt.shaped (.str (Sx t1[i].2)) = true := shaped_flat (by simp only [PyData.canLay0]; exact ok_sx (i1 _ (List.getElem_mem hit))) (by simp [PyData.depth])
          refine ⟨rfl, _, rfl, d2, rfl, .inl ⟨_, r2⟩, _, rfl, _, .inl ⟨_, Sum.inr (L1 t1[i].1), r2, rfl, rfl⟩, _, rfl, _, rfl, d1, V.str (Sx t1[i].2), rfl, .inl ⟨_, Sum.inr (L1 t1[i].1), r1, rfl, by rw [valV_enc, e1]; rfl⟩, _, _, dp, .str _, sh, sh2, _, rfl, ?_⟩
          rw [eqv_opt]
          have ol : (odds (t1.take i) t2).length ≤ 26 := by
            unfold odds
            exact Nat.le_trans (List.length_filter_le _ _) (by rw [List.length_take]; omega)
          by_cases e : lookT t2 t1[i].1 = some t1[i].2
          · rw [decide_eq_true e]
            refine iteF ?_
            show _ = _
            rw [odds_snoc hit, if_pos (decide_eq_true e), List.append_nil]
          · rw [decide_eq_false e]
            refine iteT ?_
            refine ⟨_, rfl, _, upd_same, by rw [List.length_map]; exact small1000 (by omega), ?_⟩
            show _ = _
            rw [upd_upd, odds_snoc hit, if_neg (by simp [e]), List.map_append]
            rfl
        · rintro H2 rfl
          rw [encT_len, List.take_length]
          have hdD : d1 ≠ D := ne_of_none upd_same nD
          refine ⟨by rw [upd_ne hdD]; exact upd_same, Nat.zero_le _, fun e ne => ?_⟩
          generalize hw : (odds t1 t2).map (·.1) = ws
          have hV : ((odds t1 t2).map fun q => V.str (L1 q.1)) = ws.map fun c => V.str (L1 c) := by
            rw [← hw, List.map_map]
            rfl
          have nDe : D ≠ e := by
            refine ne_of_none (o := .lst ((odds t1 t2).map fun q => V.str (L1 q.1))) ?_ ne
            rw [upd_ne hdD.symm]
            exact upd_same
          have i3 : ∀ c ∈ ws, isLt c := fun c hc => by
            rw [← hw] at hc
            obtain ⟨q, hq, rfl⟩ := List.mem_map.mp hc
            exact g1.lt q ((List.mem_filter.mp hq).1)
          refine ⟨.list (ws.map fun c => .str (L1 c)), .list [], .lst (SqL.of (xs := ws.map fun c => V.str (L1 c)) ?_) (dp_map (fun c => V.str (L1 c)) (fun c => PyData.str (L1 c)) (fun c => .str _) ws), .lst (SqL.of upd_same) .nil, shaped_map (fun c => PyData.str (L1 c)) ws (fun c hc => ?_) (fun _ => by simp [PyData.depth]), by decide +kernel, ?_⟩
          · rw [upd_ne nDe, upd_ne hdD.symm, upd_same, hV]
          · simp only [PyData.canLay0]
            rw [L1_Sx]
            exact ok_sx fun d hd => by rw [List.mem_singleton.mp hd]; exact i3 c hc
          · rw [eqv_nil]
            refine r' _ _ ⟨?_, ?_⟩
            · rw [← odds_leB g1 g2, ← hw]
              congr 1
              cases odds t1 t2 <;> rfl
            · refine fun b o eb => ?_
              have nDH : H1 D = none := by
                rw [← nD, upd_ne (Ne.symm hdD)]
              have neH : ∀ o, H1 e = some o → False := fun o ee => by
                by_cases z : e = d1
                · rw [z, upd_same] at ne
                  cases ne
                · rw [upd_ne z] at ne
                  by_cases z2 : e = D
                  · rw [z2, upd_same] at ne
                    cases ne
                  · rw [upd_ne z2, upd_ne z, ee] at ne
                    cases ne
              by_cases hb : b = d1
              · rw [hb, h1] at eb
                rw [hb, upd_ne (fun z => neH _ (by rw [← z]; exact h1)), upd_same]
                exact eb
              · rw [upd_ne (fun z => neH o (by rw [← z]; exact eb)), upd_ne hb, upd_ne (ne_of_none eb nDH), upd_ne hb]
                exact eb
      rintro w H2 ⟨rfl, s2⟩
      refine atName ?_
      dsimp only
      have S := S1.same s2
      have e2 : ExtN H H2 := e1.trans (ext_same s2)
      clear S1 s2 e1
      -- repr(one <= two), repr(two >= one)
      refine ⟨_, rfl, _, rfl, le_misX T.toTz S.mx S.my fun H3 s3 => ⟨_, rfl, _, rfl, _, rfl, rfl, false, by rw [eL, decide_eq_true rfl]; rfl, iteF ?_⟩⟩
      replace S := S.same s3
      replace e2 := e2.trans (ext_same s3)
      clear s3
      refine ⟨_, rfl, _, rfl, ge_misX S.my S.mx fun H4 s4 => ⟨_, rfl, _, rfl, _, rfl, rfl, false, by rw [eL, decide_eq_true rfl]; rfl, iteF ?_⟩⟩
      replace S := S.same s4
      replace e2 := e2.trans (ext_same s4)
      clear s4
      -- the end
      have fin : ∀ H5, ExtN H H5 → Four TL CM x y d1 d2 u v t1 t2 H5 → True := fun _ _ _ => trivial
      refine nextS ?_
      dsimp only
      refine seq1 (fun σ' H' => σ' = [some (.ref x), some (.ref y), some (.ref d1), some (.ref d2), some w4, some w5, some (.bl (leB t1 t2)), none] ∧ ExtN H H' ∧ Four TL CM x y d1 d2 u v t1 t2 H') ?_ fun R2 r2 => ?_
      · rintro σ' H5 ⟨rfl, e5, S5⟩
        refine ⟨_, rfl, _, rfl, le_misX T.toTz S5.mx S5.my fun H6 s6 => ⟨_, rfl, ?_⟩⟩
        replace S5 := S5.same s6
        replace e5 := e5.trans (ext_same s6)
        clear s6
        by_cases b : leB u v = true
        · rw [b]
          refine iteT ?_
          refine ⟨_, rfl, _, rfl, le_misX T.toTz S5.my S5.mx fun H7 s7 => ?_⟩
          replace S5 := S5.same s7
          replace e5 := e5.trans (ext_same s7)
          refine ⟨_, rfl, _, rfl, eq_mis T.toTy S5.mx S5.my ⟨rfl, ?_⟩⟩
          have z : decide (V.bl (leB v u) = V.bl (id (decide (eqM u v)))) = true := by
            refine decide_eq_true ?_
            congr 1
            show leB v u = decide (eqM u v)
            by_cases b2 : leB v u = true
            · rw [b2, decide_eq_true (eqM_lk.mpr (leF_antisymm (leB_iff.mp b) (leB_iff.mp b2)))]
            · rw [decide_eq_false fun e => b2 (leB_iff.mpr (by rw [eqM_lk.mp e]; exact fun c s e => e))]
              simpa using b2
          rw [z]
          exact q _ e5 S5.tb
        · have b' : leB u v = false := by simpa using b
          rw [b']
          refine iteF ?_
          refine ⟨_, rfl, _, rfl, eq_mis T.toTy S5.mx S5.my ⟨rfl, ?_⟩⟩
          have z : decide (V.bl false = V.bl (id (decide (eqM u v)))) = true := by
            refine decide_eq_true ?_
            congr 1
            show false = decide (eqM u v)
            rw [decide_eq_false fun e => b (leB_iff.mpr (by rw [eqM_lk.mp e]; exact fun c s e => e))]
          rw [z]
          exact q _ e5 S5.tb
      · refine ⟨_, rfl, _, rfl, ?_⟩
        by_cases b : leB t1 t2 = true
        · rw [b]
          refine iteT ?_
          have l := leB_iff.mp (eL.trans b)
          have n12 : nU u v ≤ 12 := Nat.le_trans (nU_le l) (by rw [keysOf_congr (eqM_lk.mpr ev)]; exact k2)
          refine ⟨_, rfl, _, rfl, or_mis S.mx S.my ⟨fun c3 e3 => ?_, fun e3 n3 => ?_, fun e3 n3 z H5 t5 nz mz ez s5 => ?_⟩⟩
          · rw [cfl_le l] at e3
            cases e3
          · omega
          replace S := S.same s5
          replace e2 := e2.trans (ext_same s5)
          clear s5 nz
          refine ⟨_, rfl, eq_mis T.toTy mz S.my ⟨false, by rw [decide_eq_true (eqM_lk.mpr (ez.trans (uF_right l)))]; rfl, iteF ?_⟩⟩
          refine ⟨_, rfl, _, rfl, or_mis S.my S.mx ⟨fun c3 e3 => ?_, fun e3 n3 => ?_, fun e3 n3 z H5 t5 nz mz ez s5 => ?_⟩⟩
          · rw [cfl_ge l] at e3
            cases e3
          · rw [nU_comm] at n3
            omega
          replace S := S.same s5
          replace e2 := e2.trans (ext_same s5)
          refine ⟨_, rfl, eq_mis T.toTy mz S.my ⟨false, by rw [decide_eq_true (eqM_lk.mpr (ez.trans (uF_left l)))]; rfl, iteF ?_⟩⟩
          refine r2 _ _ ⟨?_, e2, S⟩
          rw [b]
          rfl
        · have b' : leB t1 t2 = false := by simpa using b
          rw [b']
          refine iteF (iteF ?_)
          refine r2 _ _ ⟨?_, e2, S⟩
          rw [b']
          rfl
    · refine ⟨_, rfl, _, rfl, d1, d2, t1, t2, rfl, S.h1, S.h2, g1, g2, fun cc ec tq H1 s1 hq => ?_, fun ec n12 tq H1 s1 hq => ?_, fun ec n12 dw tw H1 s1 hw gw ew => ?_⟩
      · replace S := S.same s1
        refine ⟨S.tb, fun H2 e2 T2 R1 H3 r1 s3 => ?_⟩
        replace S := (S.ext e2 T2).same s3
        have hq3 := s3 _ _ (e2 _ _ hq (fun _ z => nomatch z))
        refine ⟨_, rfl, _, rfl, or_mis S.mx S.my ⟨fun c3 e3 => ?_, fun e3 => ?_, fun e3 => ?_⟩⟩
        · rw [eC, ec] at e3
          cases e3
          refine fun d H4 nd s4 hd => ⟨d, rfl, .inr (.inl ⟨rfl, _, hd, fun tt H5 s5 ht => ?_⟩)⟩
          replace S := (S.same s4).same s5
          have hq5 := s5 _ _ (s4 _ _ hq3)
          have lt : isLt cc := by
            have := List.mem_of_find?_eq_some ec
            exact keysOf_sub _ _ this
          refine ⟨_, _, rfl, ?_⟩
          refine ⟨_, rfl, _, .ty "dict", .type "tuple", .type "dict", false, rfl, .ty _, .base (.tup hq5), kit_ty (by decide +kernel), false, rfl, iteT ?_⟩
          refine ⟨_, rfl, _, rfl, ne_strsT (ss := ["unlike", L1 cc]) ?_ (.inl (.inl ht)) (.inl (.inl hq5)) ⟨false, rfl, iteF ?_⟩⟩
          · intro z hz
            rcases List.mem_cons.mp hz with rfl | hz
            · decide +kernel
            · rw [List.mem_singleton.mp hz, L1_Sx]
              exact ok_sx fun c hc => by rw [List.mem_singleton.mp hc]; exact lt
          · exact r _ _ ⟨⟨_, _, rfl⟩, ((ext_same s1).trans e2).trans (ext_same (Same.trans s3 (Same.trans s4 s5))), S⟩
        · rw [eC, ec] at e3
          cases e3
        · rw [eC, ec] at e3
          cases e3
      · replace S := S.same s1
        refine ⟨S.tb, fun H2 e2 T2 R1 H3 r1 s3 => ?_⟩
        replace S := (S.ext e2 T2).same s3
        have hq3 := s3 _ _ (e2 _ _ hq (fun _ z => nomatch z))
        refine ⟨_, rfl, _, rfl, or_mis S.mx S.my ⟨fun c3 e3 => ?_, fun e3 n3 => ?_, fun e3 n3 => ?_⟩⟩
        · rw [eC, ec] at e3
          cases e3
        · refine fun d H4 nd s4 hd => ⟨d, rfl, .inr (.inr ⟨rfl, _, _, hd, fun tt H5 s5 ht => ?_⟩)⟩
          replace S := (S.same s4).same s5
          have hq5 := s5 _ _ (s4 _ _ hq3)
          refine ⟨_, _, rfl, ?_⟩
          refine ⟨_, rfl, _, .ty "dict", .type "tuple", .type "dict", false, rfl, .ty _, .base (.tup hq5), kit_ty (by decide +kernel), false, rfl, iteT ?_⟩
          refine ⟨_, rfl, _, rfl, ne_same (d := .tuple [.str "letters", .int 12]) (.tup (.inl (.inl ht)) (.cons (.str _) (.cons (.int _) .nil))) (.tup (.inl (.inl hq5)) (.cons (.str _) (.cons (.int _) .nil))) (by decide +kernel) ⟨false, rfl, iteF ?_⟩⟩
          exact r _ _ ⟨⟨_, _, rfl⟩, ((ext_same s1).trans e2).trans (ext_same (Same.trans s3 (Same.trans s4 s5))), S⟩
        · rw [eN] at n3
          omega
      · replace S := S.same s1
        refine ⟨S.tb, fun H2 e2 T2 R1 H3 r1 s3 => ?_⟩
        replace S := (S.ext e2 T2).same s3
        have hw3 := s3 _ _ (e2 _ _ hw (fun _ z => nomatch z))
        refine ⟨_, rfl, _, rfl, or_mis S.mx S.my ⟨fun c3 e3 => ?_, fun e3 n3 => ?_, fun e3 n3 z H4 tz nz mz ez s4 => r1 _ _ fun l H5 s5 nl hl => ?_⟩⟩
        · rw [eC, ec] at e3
          cases e3
        · rw [eN] at n3
          omega
        replace S := (S.same s4).same s5
        replace mz := mz.same s5
        have hw5 := s5 _ _ (s4 _ _ hw3)
        have ex : ExtN H H5 := ((ext_same s1).trans e2).trans (ext_same (Same.trans s3 (Same.trans s4 s5)))
        have em : lk tz = lk tw := by rw [ez, ew, eu, ev]
        have bw : Bnd 64 (lk tw) := by
          rw [ew]
          exact bnd_uF bu bv
        have sw : SmallT tw := small_tab gw bw
        replace mz := mz.lk em
        rw [em] at ez
        clear em
        clear s1 e2 s3 s4 s5 nl nz hw hw3 T2 r1
        refine ⟨_, _, rfl, ?_⟩
        refine ⟨_, rfl, _, .ty "dict", .type "dict", .type "dict", true, rfl, .ty _, .base (.dK hw5), kit_ty (by decide +kernel), true, rfl, iteF ?_⟩
        refine ⟨_, rfl, _, .ty "list", .type "list", .type "list", true, rfl, .ty _, .base (.lst hl), kit_ty (by decide +kernel), true, rfl, iteF ?_⟩
        obtain ⟨dz, fz, hz⟩ := mz.ins
        refine ⟨_, rfl, l, [.ref z], 0, .ref z, rfl, rfl, SqL.of hl, rfl, z, dz, fz, rfl, hz, z, tw, rfl, mz, sw, fun H6 s6 => ⟨_, rfl, ?_⟩⟩
        replace S := S.same s6
        replace ex := ex.trans (ext_same s6)
        refine ⟨_, rfl, dw, tw, rfl, s6 _ _ hw5, gw, sw, fun H7 s7 => ⟨rfl, false, ?_, iteF ?_⟩⟩
        · rw [decide_eq_true rfl]
          rfl
        replace S := S.same s7
        replace ex := ex.trans (ext_same s7)
        replace mz := (mz.same s6).same s7
        replace hl := s7 _ _ (s6 _ _ hl)
        clear s6 s7 hw5 hz
        have l1 : leB u tw = true := leB_iff.mpr (by rw [ez]; exact leF_uF1 e3)
        have l2 : leB v tw = true := leB_iff.mpr (by rw [ez]; exact leF_uF2 _ _)
        refine ⟨_, rfl, _, rfl, l, [.ref z], 0, .ref z, rfl, rfl, SqL.of hl, rfl, le_misX T.toTz S.mx mz fun H8 s8 => ⟨true, by rw [l1], iteF ?_⟩⟩
        replace S := S.same s8
        replace ex := ex.trans (ext_same s8)
        replace mz := mz.same s8
        replace hl := s8 _ _ hl
        refine ⟨_, rfl, _, rfl, l, [.ref z], 0, .ref z, rfl, rfl, SqL.of hl, rfl, le_misX T.toTz S.my mz fun H9 s9 => ⟨true, by rw [l2], iteF ?_⟩⟩
        exact r _ _ ⟨⟨_, _, rfl⟩, ex.trans (ext_same s9), S.same s9⟩
end
end V8

set_option Elab.async false
set_option linter.all false
set_option maxRecDepth 100000
set_option maxHeartbeats 8000000
/-! A table near another one. -/
namespace V8
open PySem PySem.Spec PyProof.Rows L2 LamX
abbrev s_near : Stmt := topS 46
abbrev n_near : List Str := ["_law_pen_here", "_law_table_here", "_law_found", "_law_letter"]
theorem sc_near : FnScope ["_law_pen_here", "_law_table_here", "_law_found", "_law_letter"] ["_law_pen_here", "_law_table_here"] (defScope s_near) := ⟨rfl, rfl, rfl, by decide +kernel, rfl, by decide +kernel, by decide +kernel⟩
theorem GoodI.abc {cs s : List Nat} (g : GoodI cs s) (h : ∀ c ∈ cs, isLt c) : GoodI abc s := ⟨g.1, g.2.1, fun d hd => abc_mem.mpr (h d (g.2.2 d hd))⟩
theorem GoodT.abc {cs : List Nat} {t : Tab} (g : GoodT cs t) (h : ∀ c ∈ cs, isLt c) : GoodT abc t := ⟨g.nd, fun q hq => abc_mem.mpr (h _ (g.key q hq)), fun q hq => (g.img q hq).abc h⟩
theorem keys_put_len {t : Tab} {c : Nat} {s : List Nat} (h : c ∈ t.map (·.1)) : (putT t c s).map (·.1) = t.map (·.1) := by
  have ha : (t.any fun q => decide (q.1 = c)) = true := by
    rw [List.any_eq_true]
    obtain ⟨q, hq, e⟩ := List.mem_map.mp h
    exact ⟨q, hq, decide_eq_true e⟩
  unfold putT
  rw [if_pos ha, List.map_map]
  refine List.map_congr_left fun q _ => ?_
  show (if q.1 = c then (q.1, s) else q).1 = q.1
  split <;> rfl
/-- a table of letters with images of one to four letters -/
def spNear : Sp := fun vs H Q _ => ∃ (p l d : Addr) (ns : List Int) (n : Nat) (t : Tab), vs = [.ref p, .ref d] ∧ PenAt H p l ns (n + 100) ∧ H d = some (.dK (encT t)) ∧ GoodT abc t ∧ 
  ∀ (d2 : Addr) (t2 : Tab) (H' : Hp), GoodT abc t2 → PenAt H' p l ns n → Fr p H H' → H d2 = none → H' d2 = some (.dK (encT t2)) → Q (.ref d2) H'
section
variable {P : Program} {w : World} {K : PySem.W.Frag} {mg : Str → Option Value} {base : Heap}
theorem ok_near {f : Addr} {fd : FuncData} (F : Fun K "_law_near" "_law_near" s_near f fd) (T : Blt mg) (D_draw : Df P w K mg base 1 "_law_draw" spDraw) (D_pick : Df P w K mg base 2 "_law_pick" (spPick K)) (D_some_letters : Df P w K mg base 2 "_law_some_letters" spLetters) : FnOk P w K mg base CX0 3 f fd ["_law_pen_here", "_law_table_here"] spNear := by
  refine F.ok sc_near (fun vs H Q E h => ?_) (fun cdv A outer s H vs Q E hr h => ?_)
  · obtain ⟨p, l, d, ns, n, t, rfl, _⟩ := h
    rfl
  · obtain ⟨p, l, d, ns, n, t, rfl, PA, hd, G, q⟩ := h
    refine ⟨_, (pss_cons (ps_set (i := 2) sc_near.nd rfl (.inl rfl) (pe_callTy (call_dictP rfl) (by rfl) T.dict (by decide +kernel) (pa_cons (pe_lock (pe_lc (own := [("_law_letter", 3)]) (g := gName 3) (by rfl) sc_near.nd (pi_keys (pv 1)) (blkOk_by (own := [("_law_letter", 3)]) (N := n_near) (sc := defScope s_near) (by decide +kernel)) (fun _ _ _ _ _ => (pg_name (i := 3) sc_near.nd rfl (.inl rfl))) (fun _ _ _ _ _ => (pts_one (pt_cmpR op_gt (pe_c D_draw hr (by decide) (by rfl) (pa_cons (pv 0) (pa_cons pe_int pa_nil))) pe_int (nomark _)))) (fun _ _ _ _ _ => (pe_tup (pa_cons (pv 3) (pa_cons (pe_dget (hu_of hr) (pv 1) (pv 3) (fun _ _ => rfl)) pa_nil)))))) pa_nil)))
      (pss_cons (ps_for PassesOwn.never rfl (pi_list (pe_callTy (call_listD rfl) (by rfl) T.list (by decide +kernel) (pa_cons (pv 2) pa_nil))) (pg_name (i := 3) sc_near.nd rfl (.inl rfl))
        (pss_one (ps_if (pt_cmpR op_eq (pe_c D_draw hr (by decide) (by rfl) (pa_cons (pv 0) (pa_cons pe_int pa_nil))) pe_int (nomark _))
          (pss_one (ps_dput (hu_of hr) (pv 2) (pv 3) (pe_c D_pick hr (by decide) (by rfl) (pa_cons (pv 0) (pa_cons (pe_lst (pa_cons pe_str (pa_cons pe_str (pa_cons (pv 3) pa_nil)))) pa_nil))) rfl))
          pss_nil)))
      (pss_cons (ps_for PassesOwn.never rfl (pi_list (pe_c D_some_letters hr (by decide) (by rfl) (pa_cons (pv 0) (pa_cons (pe_c D_draw hr (by decide) (by rfl) (pa_cons (pv 0) (pa_cons pe_int pa_nil))) pa_nil)))) (pg_name (i := 3) sc_near.nd rfl (.inl rfl))
        (pss_one (ps_dput (hu_of hr) (pv 2) (pv 3) (pe_dget2 (hu_of hr) (pv 2) (pv 3) (pe_op op_add_str (pv 3) pe_str) ⟨by rfl, by rfl, by rfl, by rfl⟩) rfl)))
      (pss_one (ps_ret (pv 2)))))), ?_⟩
    have tl := G.len
    rw [abc_len] at tl
    obtain ⟨pl, hpl⟩ := PA.pen
    have hdp : d ≠ p := ne_of hd hpl (fun z => nomatch z)
    have hdl : d ≠ l := by
      obtain ⟨_, e, _⟩ := PA
      exact ne_of hd e (fun z => nomatch z)
    refine ⟨d, _, hd, True.intro, fun od => ⟨_, rfl, d, od, rfl, .inl ⟨_, upd_same, fun D nD => lc_it walk_keys (fun i H2 => ∃ (ps : List Addr) (t2 : Tab), (∀ x ∈ t2, x.1 ∈ abc ∧ GoodI abc x.2) ∧ ps.length ≤ i ∧ H2 D = some (.lst (ps.map V.ref)) ∧ PairsAt H2 ps t2 ∧
        H2 d = some (.frz od (.dK (encT t))) ∧ PenAt H2 p l ns (n + 70 + (26 - i)) ∧ (∀ b o, H b = some o → b ≠ p → b ≠ d → H2 b = some o)) ?_ ?_ ?_ ?_⟩⟩⟩
    · have hDd : d ≠ D := ne_of_none upd_same nD
      refine ⟨[], [], fun x h => (by cases h), Nat.le_refl _, upd_same, .nil, by rw [upd_ne hDd, upd_same], ((PA.other hdp hdl).new nD).less (by omega), fun b o e _ h2 => ?_⟩
      have e1 : upd H d (.frz od (.dK (encT t))) b = some o := by rw [upd_ne h2]; exact e
      rw [upd_ne (ne_of_none e1 nD)]
      exact e1
    · rintro i H2 hi ⟨ps, t2, _, _, _, _, h, _⟩
      exact h
    · rintro i x H2 H2' hi ⟨ps, t2, ht2, hps, hD, hpa, hfz, PA5, fr5⟩ ⟨rfl, k, v, hk, rfl⟩
      obtain ⟨hit, rfl, rfl⟩ := enc_at hk
      have hDp : D ≠ p := (PA.other (o := .frz od (.dK (encT t))) hdp hdl).nep nD
      have hDl : D ≠ l := (PA.other (o := .frz od (.dK (encT t))) hdp hdl).nel nD
      have hDd : D ≠ d := ne_of hD hfz (fun z => nomatch z)
      have nDH : H D = none := by
        rw [← nD, upd_ne hDd]
      refine ⟨rfl, _, rfl, p, l, ns, n + 70 + (26 - (i + 1)), 3, rfl, PA5.less (by omega), by decide, by decide, fun v6 H6 u0 u1 PA6 fr6 => ⟨_, _, rfl, rfl, _, rfl, ?_⟩⟩
      obtain ⟨pl, hpl⟩ := PA5.pen
      have hpa6 := hpa.mono (tup_fr fr6 hpl)
      have hD6 := fr6 _ _ hD hDp
      have hfz6 := fr6 _ _ hfz hdp
      refine ite2 (fun e6 => ?_) (fun e6 => ?_)
      · refine ⟨_, rfl, _, rfl, _, rfl, d, V.str (Sx t[i].2), rfl, .inl ⟨_, Sum.inr (L1 t[i].1), .inr ⟨od, hfz6⟩, rfl, ?_⟩, by show 2 ≤ sizeLine; decide, fun tq ntq => ?_⟩
        · rw [valV_enc, look_at G.nd hit]
          rfl
        · have htD : D ≠ tq := ne_of_none hD6 ntq
          refine ⟨ps.map V.ref, by rw [upd_ne htD]; exact hD6, by rw [List.length_map]; exact small1000 (by omega), ps ++ [tq], t2 ++ [t[i]], ?_, by rw [List.length_append]; exact Nat.succ_le_succ hps, ?_, ?_, ?_, ?_, ?_⟩
          · intro x hx
            rcases List.mem_append.mp hx with h | h
            · exact ht2 x h
            · rw [List.mem_singleton.mp h]
              exact ⟨G.key _ (List.getElem_mem hit), G.img _ (List.getElem_mem hit)⟩
          · rw [upd_same, List.map_append]
            rfl
          · refine PairsAt.snoc ((hpa6.mono (tup_new ntq)).mono (tup_upd (by rw [upd_ne htD]; exact hD6))) ?_
            exact (upd_ne (Ne.symm htD)).trans upd_same
          · rw [upd_ne (ne_of hfz6 hD6 (fun z => nomatch z)), upd_ne (ne_of_none hfz6 ntq)]
            exact hfz6
          · exact ((PA6.new ntq).other hDp hDl)
          · intro b o e hb1 hb2
            have e1 := fr6 _ _ (fr5 b o e hb1 hb2) hb1
            rw [upd_ne (ne_of_none e nDH), upd_ne (ne_of_none e1 ntq)]
            exact e1
      · exact ⟨ps, t2, ht2, by omega, hD6, hpa6, hfz6, PA6, fun b o e hb1 hb2 => fr6 _ _ (fr5 b o e hb1 hb2) hb1⟩
    rintro H2 ⟨ps, t2, ht2, hps, hD, hpa, hfz, PA5, fr5⟩
    have hDd : D ≠ d := ne_of hD hfz (fun z => nomatch z)
    refine ⟨hfz, D, ps, encT t2, rfl, SqL.of (by rw [upd_ne hDd]; exact hD), (PairsAt.sq (hpa.mono fun b ys e => by rw [upd_ne (ne_of e hfz (fun z => nomatch z))]; exact e)), fun r nr => ?_⟩
    have em : mergeK [] (encT t2) = encT (mergeT [] t2) := mergeK_enc t2 []
    rw [em]
    have PA7 := (((PA5.other (o := .dK (encT t)) hdp hdl).new (o := .dK (encT (mergeT [] t2))) nr)).less (m := n + 70) (by omega)
    have G7 : GoodT abc (mergeT [] t2) := GoodT.merge GoodT.nil ht2
    have frd : Fr p H (upd H2 d (.dK (encT t))) := fun b o e hb => by
      by_cases h : b = d
      · rw [h, upd_same, ← e, h, hd]
      · rw [upd_ne h]
        exact fr5 b o e hb h
    have fr7 : Fr p H (upd (upd H2 d (.dK (encT t))) r (.dK (encT (mergeT [] t2)))) := frd.trans (Fr.new nr)
    have hr7 : upd (upd H2 d (.dK (encT t))) r (.dK (encT (mergeT [] t2))) r = some (.dK (encT (mergeT [] t2))) := upd_same
    have hrp : r ≠ p := (PA5.other (o := .dK (encT t)) hdp hdl).nep nr
    have hrl : r ≠ l := (PA5.other (o := .dK (encT t)) hdp hdl).nel nr
    have nrH : H r = none := frd.back nr hrp
    generalize upd (upd H2 d (.dK (encT t))) r (.dK (encT (mergeT [] t2))) = H3 at PA7 fr7 hr7 ⊢
    generalize mergeT [] t2 = t3 at G7 hr7 ⊢
    clear frd em PA5 fr5 hfz hD hDd hpa ht2 hps nr
    refine atName ?_
    dsimp only
    have tl3 := G7.len
    rw [abc_len] at tl3
    -- for letter in list(found)
    have hk3 : (encT t3).map (fun kv => kV kv.1) = lets (t3.map (·.1)) := by
      unfold encT lets
      rw [List.map_map, List.map_map]
      rfl
    refine ⟨_, rfl, r, _, rfl, .inl hr7, fun b nb => ⟨b, rfl, ⟨_, SqL.of upd_same⟩, for_list (K := K) (a := b) (xs := lets (t3.map (·.1))) (fun i σ H2 => ∃ (t4 : Tab) (v3 : Option V), σ = [some (.ref p), some (.ref d), some (.ref r), v3] ∧ H2 b = some (.lst (lets (t3.map (·.1)))) ∧ H2 r = some (.dK (encT t4)) ∧ GoodT abc t4 ∧ t4.map (·.1) = t3.map (·.1) ∧ PenAt H2 p l ns (n + 10 + 2 * (26 - i)) ∧ Fr p H H2) ?_ ?_ ?_ ?_⟩⟩
    · rw [hk3]
      have hbr : r ≠ b := ne_of_none hr7 nb
      exact ⟨t3, none, rfl, upd_same, by rw [upd_ne hbr]; exact hr7, G7, rfl, (PA7.new nb).less (by omega), fr7.trans (Fr.new nb)⟩
    · rintro i σ H4 hi ⟨t4, v3, rfl, hb4, _⟩
      exact SqL.of hb4
    · rintro i x σ H4 hx ⟨t4, v3, rfl, hb4, hr4, G4, k4, PA4, fr4⟩
      obtain ⟨hi, rfl⟩ := lets_get hx
      have hbp : b ≠ p := PA7.nep nb
      have hrb : r ≠ b := ne_of_none hr7 nb
      have hi26 : i < 26 := by
        rw [List.length_map] at hi
        omega
      have hmem : (t3.map (·.1))[i] ∈ t4.map (·.1) := by
        rw [k4]
        exact List.getElem_mem hi
      have habc : (t3.map (·.1))[i] ∈ abc := by
        obtain ⟨q, hq, e⟩ := List.mem_map.mp hmem
        rw [← e]
        exact G4.key q hq
      generalize (t3.map (·.1))[i] = cc at hmem habc ⊢
      refine ⟨_, rfl, p, l, ns, n + 10 + 2 * (26 - (i + 1)) + 1, 5, rfl, PA4.less (by omega), by decide, by decide, fun v5 H5 u0 u1 PA5 fr5 => ⟨rfl, _, rfl, ?_⟩⟩
      have hb5 := fr5 _ _ hb4 hbp
      have hr5 := fr5 _ _ hr4 hrp
      refine ite2 (fun e6 => ?_) (fun e6 => ?_)
      · refine ⟨_, rfl, _, rfl, by show 3 ≤ sizeLine; decide, fun g ng => ?_⟩
        have PA6 := PA5.new (o := .lst [.str "a", .str "zz", .str (L1 cc)]) ng
        have hgp := PA5.nep ng
        refine ⟨p, l, g, ns, n + 10 + 2 * (26 - (i + 1)), _, rfl, PA6.less (by omega), SqL.of upd_same, by show 0 < 3; decide, by show 3 < 1000; decide, fun H' fr => SqL.of (fr _ _ upd_same hgp), fun v H6 hv PA8 fr8 => ?_⟩
        obtain ⟨s, rfl, gs⟩ : ∃ s, v = .str (Sx s) ∧ GoodI abc s := by
          rcases List.mem_cons.mp hv with rfl | hv
          · exact ⟨[97], by decide +kernel, goodI1 (by decide)⟩
          rcases List.mem_cons.mp hv with rfl | hv
          · exact ⟨[122, 122], by decide +kernel, goodI2 (by decide) (by decide)⟩
          · rw [List.mem_singleton.mp hv]
            exact ⟨[_], rfl, goodI1 habc⟩
        have hgr : r ≠ g := ne_of_none hr5 ng
        have hgb : b ≠ g := ne_of_none hb5 ng
        have hr6 : H6 r = some (.dK (encT t4)) := fr8 _ _ (by rw [upd_ne hgr]; exact hr5) hrp
        have hb6 : H6 b = some (.lst (lets (t3.map (·.1)))) := fr8 _ _ (by rw [upd_ne hgb]; exact hb5) hbp
        have tl4 := G4.len
        rw [abc_len] at tl4
        refine ⟨_, rfl, _, rfl, r, _, rfl, DPut.k (k := Sum.inr (L1 cc)) hr6 (by rw [encT_len]; exact small1000 (by omega)), ?_⟩
        rw [putK_enc]
        exact ⟨putT t4 _ s, _, rfl, by rw [upd_ne hrb.symm]; exact hb6, upd_same, G4.put habc gs, by rw [keys_put_len hmem, k4], PA8.other hrp hrl, (((fr4.trans fr5).trans (Fr.new ng)).trans fr8).put nrH⟩
      · exact ⟨t4, _, rfl, hb5, hr5, G4, k4, PA5.less (by omega), fr4.trans fr5⟩
    rintro σ H4 ⟨t4, v3, rfl, hb4, hr4, G4, k4, PA4, fr4⟩
    replace PA4 := PA4.less (m := n + 10) (by omega)
    -- some letters more
    refine ⟨_, rfl, _, rfl, p, l, ns, n + 9, 4, rfl, PA4.less (by omega), by decide, by decide, fun v5 H5 u0 u1 PA5 fr5 => ?_⟩
    obtain ⟨m, rfl⟩ : ∃ m : Nat, v5 = m := ⟨v5.toNat, by omega⟩
    refine ⟨p, l, ns, n, m, rfl, PA5.less (by omega), by omega, fun e ks H6 hlen hnd hlt PA6 fr6 ne he => ⟨e, rfl, ⟨_, SqL.of he⟩, for_list (K := K) (a := e) (xs := lets ks) (fun i σ H2 => ∃ (t5 : Tab) (v3 : Option V), σ = [some (.ref p), some (.ref d), some (.ref r), v3] ∧ H2 e = some (.lst (lets ks)) ∧ H2 r = some (.dK (encT t5)) ∧ GoodT abc t5 ∧ PenAt H2 p l ns n ∧ Fr p H H2) ?_ ?_ ?_ ?_⟩⟩
    · exact ⟨t4, v3, rfl, he, fr6 _ _ (fr5 _ _ hr4 hrp) hrp, G4, PA6, (fr4.trans fr5).trans fr6⟩
    · rintro i σ H7 hi ⟨t5, v3, rfl, he7, _⟩
      exact SqL.of he7
    · rintro i x σ H7 hx ⟨t5, v3, rfl, he7, hr7, G5, PA7, fr7⟩
      obtain ⟨hi, rfl⟩ := lets_get hx
      have habc : ks[i] ∈ abc := abc_mem.mpr (hlt _ (List.getElem_mem hi))
      have her : r ≠ e := ne_of hr7 he7 (fun z => nomatch z)
      have tl5 := G5.len
      rw [abc_len] at tl5
      refine ⟨_, rfl, r, rfl, .inl ⟨_, .inl hr7⟩, _, rfl, _, rfl, L1 ks[i], "a", rfl, rfl, by show 1 + 1 ≤ sizeLine; decide, _, DGet.k (k := Sum.inr (L1 ks[i])) hr7, _, rfl, _, rfl, r, _, rfl, DPut.k (k := Sum.inr (L1 ks[i])) hr7 (by rw [encT_len]; exact small1000 (by omega)), ?_⟩
      obtain ⟨s, es, gs⟩ : ∃ s, ((valV (encT t5) (Sum.inr (L1 ks[i]))).getD (.str (L1 ks[i] ++ "a"))) = .str (Sx s) ∧ GoodI abc s := by
        rw [valV_enc]
        cases e : lookT t5 ks[i] with
        | some s => exact ⟨s, rfl, G5.img _ (look_in e)⟩
        | none =>
          refine ⟨[ks[i], 97], ?_, goodI2 habc (by decide)⟩
          show V.str (L1 ks[i] ++ "a") = _
          rw [L1_Sx, show ("a" : Str) = Sx [97] from by decide +kernel, sx_add]
          rfl
      rw [es, putK_enc]
      exact ⟨putT t5 ks[i] s, _, rfl, by rw [upd_ne her.symm]; exact he7, upd_same, G5.put habc gs, PA7.other hrp hrl, fr7.put nrH⟩
    rintro σ H7 ⟨t5, v3, rfl, he7, hr7, G5, PA7, fr7⟩
    exact ⟨_, rfl, q r t5 H7 G5 PA7 fr7 nrH hr7⟩
end
end V8

set_option Elab.async false
set_option linter.all false
set_option maxRecDepth 100000
set_option maxHeartbeats 16000000
/-! The law of joins. -/
namespace V8
open PySem PySem.Spec PyProof.Rows L2 LamX
abbrev s_law : Stmt := topS 47
abbrev n_law : List Str := ["_law_script", "_law_pen_here", "_law_turn", "_law_some", "_law_first", "_law_last", "_law_one", "_law_two", "_law_wide", "_law_table_here", "_law_odd", "_law_heard_here", "_law_kept", "_law_letter"]
theorem sc_law : FnScope ["_law_script", "_law_pen_here", "_law_turn", "_law_some", "_law_first", "_law_last", "_law_one", "_law_two", "_law_wide", "_law_table_here", "_law_odd", "_law_heard_here", "_law_kept", "_law_letter"] ["_law_script"] (defScope s_law) := ⟨rfl, rfl, rfl, by decide +kernel, rfl, by decide +kernel, by decide +kernel⟩
def spLaw (TL : List (Addr × Str)) (K : PySem.W.Frag) : Sp := fun vs H Q _ => ∃ (a : Addr) (ns : List Int), vs = [.ref a] ∧ SqL K H a (ns.map V.int) ∧ ns.length ≤ 63 ∧ Tabs TL H ∧ ∀ H', Q (.bl true) H'
theorem rsh_mis {K : PySem.W.Frag} {CM : Addr} {H : Hp} {Q : VK} {x y : Addr} {u v : Tab} {cs : List Nat} (mx : MisAt CM H x u) (my : MisAt CM H y v) (bu : Bnd 64 (lk u)) (bv : Bnd 64 (lk v)) (bc : Bnd 64 (cF (lk u) (lk v))) (ou : Ovr cs (lk u)) (h12 : cs.length ≤ 12)
    (q : ∀ z H' t, MisAt CM H' z t → lk t = cF (lk u) (lk v) → Same H H' → Q (.ref z) H') : rBinOwn K CM (spRsh CM) E0 (.ref x) (.ref y) H Q := by
  obtain ⟨dx, fx, hx⟩ := mx.ins
  obtain ⟨dy, fy, hy⟩ := my.ins
  exact ⟨x, dx, fx, y, dy, fy, rfl, hx, rfl, hy, x, y, u, v, cs, rfl, mx, my, bu, bv, bc, ou, h12, fun z H' t _ mz ez s => q z H' t mz ez s⟩
theorem tabs_mono {T : List (Addr × Str)} {H H' : Hp} (t : Tabs T H) (e : ∀ b o, H b = some o → (∀ xs, o ≠ .lst xs) → H' b = some o) : Tabs T H' := fun p hp => by
  obtain ⟨ps, h1, h2, h3⟩ := t p hp
  refine ⟨ps, e _ _ h1 (fun _ z => nomatch z), h2, fun pos cv hc => ?_⟩
  obtain ⟨c, e1, e2⟩ := h3 pos cv hc
  exact ⟨c, e1, e _ _ e2 (fun _ z => nomatch z)⟩
theorem fr_mono {p l : Addr} {ns : List Int} {n : Nat} {H H' : Hp} (P : PenAt H p l ns n) (f : Fr p H H') : ∀ b o, H b = some o → (∀ xs, o ≠ .lst xs) → H' b = some o := fun b o e hl => f b o e fun z => by
  obtain ⟨xs, hp⟩ := P.pen
  rw [z] at e
  rw [hp] at e
  exact hl _ (Option.some.inj e).symm
theorem pen_ext {H H' : Hp} {p l : Addr} {ns : List Int} {n : Nat} (P : PenAt H p l ns n) (s : ExtN H H') : PenAt H' p l ns n := by
  obtain ⟨⟨a, g, h1, h2, h3, h4⟩, i, e, sh⟩ := P
  exact ⟨⟨a, g, s _ _ h1 (fun _ z => nomatch z), h2, h3, h4⟩, s _ _ i (fun _ z => nomatch z), e, sh⟩
def kL : List Nat := [97, 98, 99, 100, 101, 102, 103, 104, 105, 106, 107, 108]
def wL : List Nat := [97, 98, 99, 100, 101, 102, 103]
def eL : List Nat := [101, 102, 103, 104, 105, 106, 107, 108]
def mL : List Nat := [109]
def zL : Tab := [(122, [97]), (98, [98])]
def yL : Tab := [(122, [98]), (98, [97])]
theorem zGood : GoodT abc zL := ⟨by decide, by decide, fun q hq => by
  rcases List.mem_cons.mp hq with rfl | hq
  · exact goodI1 (by decide)
  · rw [List.mem_singleton.mp hq]
    exact goodI1 (by decide)⟩
theorem yGood : GoodT abc yL := ⟨by decide, by decide, fun q hq => by
  rcases List.mem_cons.mp hq with rfl | hq
  · exact goodI1 (by decide)
  · rw [List.mem_singleton.mp hq]
    exact goodI1 (by decide)⟩
/-- what a turn keeps -/
structure LawS (TL : List (Addr × Str)) (CM p l d1 d2 x1 x2 : Addr) (ns : List Int) (n : Nat) (t1 t2 : Tab) (H : Hp) : Prop where
  pa : PenAt H p l ns n
  f : Four TL CM x1 x2 d1 d2 t1 t2 t1 t2 H
theorem LawS.same {TL : List (Addr × Str)} {CM p l d1 d2 x1 x2 : Addr} {ns : List Int} {n : Nat} {t1 t2 : Tab} {H H' : Hp} (L : LawS TL CM p l d1 d2 x1 x2 ns n t1 t2 H) (s : Same H H') : LawS TL CM p l d1 d2 x1 x2 ns n t1 t2 H' := ⟨pen_same L.pa s, L.f.same s⟩
theorem LawS.ext {TL : List (Addr × Str)} {CM p l d1 d2 x1 x2 : Addr} {ns : List Int} {n : Nat} {t1 t2 : Tab} {H H' : Hp} (L : LawS TL CM p l d1 d2 x1 x2 ns n t1 t2 H) (s : ExtN H H') (t : Tabs TL H') : LawS TL CM p l d1 d2 x1 x2 ns n t1 t2 H' := ⟨pen_ext L.pa s, L.f.ext s t⟩
/-- values that are no misreadings, by their types -/
def oddTypes : List String := ["NoneType", "int", "str", "bool", "dict", "list", "tuple"]
structure OddF (K : PySem.W.Frag) (CM : Addr) : Prop where
  ok : ∀ t ∈ oddTypes, BesideT K CM (Operator.BitOr).info.2 (.type t) ∧ PySem.W.kitOne K (.type t) (.ref CM) = some false ∧ PySem.W.notFirst K CM (.type t) = true
def OddAt (H : Hp) (v : V) : Prop := v = .non ∨ (∃ i, v = .int i) ∨ (∃ z, v = .str z) ∨ (∃ b, v = .bl b) ∨ (∃ a kvs, v = .ref a ∧ H a = some (.dK kvs)) ∨ (∃ a xs, v = .ref a ∧ H a = some (.lst xs)) ∨ ∃ a xs, v = .ref a ∧ H a = some (.tup xs)
theorem OddAt.ty {K : PySem.W.Frag} {H : Hp} {v : V} (o : OddAt H v) : ∃ t ∈ oddTypes, TyX K H v (.type t) := by
  rcases o with rfl | ⟨i, rfl⟩ | ⟨z, rfl⟩ | ⟨b, rfl⟩ | ⟨a, kvs, rfl, h⟩ | ⟨a, kvs, rfl, h⟩ | ⟨a, kvs, rfl, h⟩
  · exact ⟨"NoneType", by decide, .base .non⟩
  · exact ⟨"int", by decide, .base (.int i)⟩
  · exact ⟨"str", by decide, .base (.str z)⟩
  · exact ⟨"bool", by decide, .base (.bl b)⟩
  · exact ⟨"dict", by decide, .base (.dK h)⟩
  · exact ⟨"list", by decide, .base (.lst h)⟩
  · exact ⟨"tuple", by decide, .base (.tup h)⟩
theorem OddAt.ext {H H' : Hp} {v : V} (o : OddAt H v) (e : ExtN H H') : OddAt H' v := by
  rcases o with rfl | ⟨i, rfl⟩ | ⟨z, rfl⟩ | ⟨b, rfl⟩ | ⟨a, kvs, rfl, h⟩ | ⟨a, kvs, rfl, h⟩ | ⟨a, kvs, rfl, h⟩
  · exact .inl rfl
  · exact .inr (.inl ⟨_, rfl⟩)
  · exact .inr (.inr (.inl ⟨_, rfl⟩))
  · exact .inr (.inr (.inr (.inl ⟨_, rfl⟩)))
  · exact .inr (.inr (.inr (.inr (.inl ⟨_, _, rfl, e _ _ h (fun _ z => nomatch z)⟩))))
  · exact .inr (.inr (.inr (.inr (.inr (.inl ⟨_, _, rfl, e _ _ h (fun _ z => nomatch z)⟩)))))
  · exact .inr (.inr (.inr (.inr (.inr (.inr ⟨_, _, rfl, e _ _ h (fun _ z => nomatch z)⟩)))))
section
variable {K : PySem.W.Frag} {CM CB CU CT : Addr} {H : Hp} {Q : VK} {E : XK} {x : Addr} {y : V} {u : Tab}
theorem or_odd (O : OddF K CM) (mx : MisAt CM H x u) (o : OddAt H y) (q : OutB CB H E) : rBinAny K CM (Operator.BitOr).info.2 (spOrX K CM CB CU CT) E (.ref x) y H Q := by
  obtain ⟨dx, fx, hx⟩ := mx.ins
  obtain ⟨t, ht, ty⟩ := o.ty (K := K)
  obtain ⟨b, k, nf⟩ := O.ok t ht
  exact ⟨x, dx, fx, _, rfl, hx, ty, b, x, y, u, rfl, mx, .inr ⟨_, ty, k, q⟩⟩
theorem le_odd (O : OddF K CM) (mx : MisAt CM H x u) (o : OddAt H y) (q : OutB CB H E) : rLeOwn K CM (spLeX K CM CB) E (.ref x) y H Q := by
  obtain ⟨dx, fx, hx⟩ := mx.ins
  obtain ⟨t, ht, ty⟩ := o.ty (K := K)
  obtain ⟨b, k, nf⟩ := O.ok t ht
  exact ⟨x, dx, fx, _, rfl, hx, ty, nf, x, y, u, rfl, mx, .inr ⟨_, ty, k, q⟩⟩
end
theorem le_nil (u : Tab) : leF (lk []) (lk u) := fun c s e => by
  rw [lk_nil] at e
  cases e
theorem lk_ims (u : Tab) : lk (ims u) = lk u := by
  funext c
  show (if c ∈ abc then lookT (ims u) c else none) = _
  rw [look_ims]
  by_cases m : c ∈ keysOf u
  · obtain ⟨s, e⟩ := Option.isSome_iff_exists.mp (lk_mem.mp m)
    rw [if_pos m, if_pos (keys_abc m), lk_look m, e]
    rfl
  · rw [if_neg m, lk_not m]
    split <;> rfl
/-- joins of the very same heap -/
theorem four_self {TL : List (Addr × Str)} {CM x1 x2 d1 d2 : Addr} {t1 t2 : Tab} {H : Hp} (f : Four TL CM x1 x2 d1 d2 t1 t2 t1 t2 H) : Four TL CM x2 x1 d2 d1 t2 t1 t2 t1 H := ⟨f.my, f.mx, f.h2, f.h1, f.tb⟩
/-- a law's facts -/
structure Tl (K : PySem.W.Frag) (mg : Str → Option Value) (CM CJ CB CU CT CR : Addr) : Prop extends Tj K mg CM CJ CB CU CT CR where
  ni : NoIn K CM
  nor : PySem.W.findIn K (.ref CM) "__ror__" = some none
  odd : OddF K CM
section
variable {P : Program} {w : World} {K : PySem.W.Frag} {mg : Str → Option Value} {base : Heap} {CM CJ CB CU CT CR g c PT : Addr} {TL : List (Addr × Str)}
theorem ok_law {f : Addr} {fd : FuncData} (F : FunC K "law" "law" s_law f c fd) (T : Tl K mg CM CJ CB CU CT CR) (D_pen : Df P w K mg base 1 "_law_pen" (spPen K)) (D_draw : Df P w K mg base 1 "_law_draw" spDraw) (D_pick : Df P w K mg base 2 "_law_pick" (spPick K)) (D_some_letters : Df P w K mg base 2 "_law_some_letters" spLetters)
    (D_table : Df P w K mg base 4 "_law_table" (spTab 260)) (D_near : Df P w K mg base 3 "_law_near" spNear) (D_joined_right : Df P w K mg base 11 "_law_joined_right" (spJoined TL CM)) (D_heard : HearD K mg g) (TB : TabT base mg TL (("law" : Str) ++ ".<locals>.") c PT)
    (D_or : BoX P w K mg base 7 CM "__or__" (spOrX K CM CB CU CT)) (D_le : BoX P w K mg base 5 CM "__le__" (spLeX K CM CB)) (D_rshift : Bo P w K mg base 7 CM "__rshift__" (spRsh CM)) (D_iter : ItM P w K mg base 1 CM (snIter CM)) (D_get : Mf P w K mg base 2 CM "__getitem__" (spGet CM))
    (D_eq : Mf P w K mg base 1 CM "__eq__" (spEq K CM)) (D_mk : Mkr P w K mg base CM) (D_same : Sms P w K mg base CM) : FnOk P w K mg base CX0 12 f fd ["_law_script"] (spLaw TL K) := by
  refine F.ok sc_law (fun vs H Q E h => ?_) (fun A outer s H vs Q E hr h => ?_)
  · obtain ⟨a, ns, rfl, _⟩ := h
    rfl
  · obtain ⟨a, ns, rfl, hS, hn, tb0, q⟩ := h
    refine ⟨_, (pss_cons (ps_set (i := 1) sc_law.nd rfl (.inl rfl) (pe_c D_pen hr (by decide) (by rfl) (pa_cons (pv 0) pa_nil)))
      (pss_cons (ps_for PassesOwn.never rfl (pi_range1 (by rfl) T.range (pa_cons pe_int pa_nil)) (pg_name (i := 2) sc_law.nd rfl (.inl rfl))
        (pss_cons (ps_set (i := 3) sc_law.nd rfl (.inl rfl) (pe_c D_some_letters hr (by decide) (by rfl) (pa_cons (pv 1) (pa_cons (pe_op op_add pe_int (pe_c D_draw hr (by decide) (by rfl) (pa_cons (pv 1) (pa_cons (pe_c D_pick hr (by decide) (by rfl) (pa_cons (pv 1) (pa_cons (pe_lst (pa_cons pe_int (pa_cons pe_int (pa_cons pe_int pa_nil)))) pa_nil))) pa_nil)))) pa_nil))))
        (pss_cons (ps_set (i := 4) sc_law.nd rfl (.inl rfl) (pe_c D_table hr (by decide) (by rfl) (pa_cons (pv 1) (pa_cons (pv 3) pa_nil))))
        (pss_cons (ps_set (i := 5) sc_law.nd rfl (.inr rfl) (pe_ifExp (pt_cmpR op_gt (pe_c D_draw hr (by decide) (by rfl) (pa_cons (pv 1) (pa_cons pe_int pa_nil))) pe_int (nomark _)) (pe_c D_near hr (by decide) (by rfl) (pa_cons (pv 1) (pa_cons (pv 4) pa_nil))) (pe_c D_table hr (by decide) (by rfl) (pa_cons (pv 1) (pa_cons (pe_c D_some_letters hr (by decide) (by rfl) (pa_cons (pv 1) (pa_cons (pe_op op_add pe_int (pe_c D_draw hr (by decide) (by rfl) (pa_cons (pv 1) (pa_cons pe_int pa_nil)))) pa_nil))) pa_nil)))))
        (pss_cons (ps_if (pt_cmpR op_gt (pe_callB call_lenD (by rfl) T.len (by decide +kernel) (pa_cons (pv 5) pa_nil)) pe_int (nomark _))
          (pss_one (ps_set (i := 5) sc_law.nd rfl (.inr rfl) (pe_callTy (call_dictP rfl) (by rfl) T.dict (by decide +kernel) (pa_cons (pe_lc (own := [("_law_letter", 13)]) (g := gName 13) (by rfl) sc_law.nd (pi_list (pe_slice (sl_listK (K := K) rfl) (pe_callTy (call_listD rfl) (by rfl) T.list (by decide +kernel) (pa_cons (pv 5) pa_nil)) po_none (po_some pe_int))) (blkOk_by (own := [("_law_letter", 13)]) (N := n_law) (sc := defScope s_law) (by decide +kernel)) (fun _ _ _ _ _ => (pg_name (i := 13) sc_law.nd rfl (.inl rfl))) (fun _ _ _ _ _ => pts_nil) (fun _ _ _ _ _ => (pe_tup (pa_cons (pv 13) (pa_cons (pe_dget (hu_of hr) (pv 5) (pv 13) (fun _ _ => rfl)) pa_nil))))) pa_nil))))
          pss_nil)
        (pss_cons (ps_asg (pe_tup (pa_cons (pe_mk1 D_mk hr (by decide) (by rfl) (pa_cons (pv 4) pa_nil)) (pa_cons (pe_mk1 D_mk hr (by decide) (by rfl) (pa_cons (pv 5) pa_nil)) pa_nil))) (pg_tup (by rfl) (pgs_cons (pg_name (i := 6) sc_law.nd rfl (.inr rfl)) (pgs_cons (pg_name (i := 7) sc_law.nd rfl (.inl rfl)) pgs_nil))))
        (pss_cons (ps_if (PW.pt (pw_or (pt_not (pt_val (pe_c D_joined_right hr (by decide) (by rfl) (pa_cons (pv 6) (pa_cons (pv 7) (pa_cons (pv 4) (pa_cons (pv 5) pa_nil))))))) (pw_or1 (pt_not (pt_val (pe_c D_joined_right hr (by decide) (by rfl) (pa_cons (pv 7) (pa_cons (pv 6) (pa_cons (pv 5) (pa_cons (pv 4) pa_nil))))))))))
          (pss_one (ps_ret pe_bl))
          pss_nil)
        (pss_cons (ps_if (PW.pt (pw_or (pt_not (pt_val (pe_c D_joined_right hr (by decide) (by rfl) (pa_cons (pv 6) (pa_cons (pv 6) (pa_cons (pv 4) (pa_cons (pv 4) pa_nil))))))) (pw_or (pt_not (pt_cmpR (op_leX D_le passL hr (by decide)) (pe_mk1 D_mk hr (by decide) (by rfl) (pa_cons pe_dnewK pa_nil)) (pv 6) (nomark _))) (pw_or1 (pt_cmpR (op_neO D_eq T.ne T.tD hr (by decide)) (pe_op (op_binX D_or passL hr (by decide)) (pv 6) (pe_mk1 D_mk hr (by decide) (by rfl) (pa_cons pe_dnewK pa_nil))) (pv 6) (nomark _))))))
          (pss_one (ps_ret pe_bl))
          pss_nil)
        (pss_cons (ps_set (i := 8) sc_law.nd rfl (.inr rfl) (pe_op (op_bin D_rshift hr (by decide)) (pv 6) (pv 6)))
        (pss_cons (ps_set (i := 9) sc_law.nd rfl (.inl rfl) (pe_callTy (call_dictP rfl) (by rfl) T.dict (by decide +kernel) (pa_cons (pe_lc (own := [("_law_letter", 13)]) (g := gName 13) (by rfl) sc_law.nd (pi_ownI D_iter hr (by decide) (pv 8)) (blkOk_by (own := [("_law_letter", 13)]) (N := n_law) (sc := defScope s_law) (by decide +kernel)) (fun _ _ _ _ _ => (pg_name (i := 13) sc_law.nd rfl (.inl rfl))) (fun _ _ _ _ _ => pts_nil) (fun _ _ _ _ _ => (pe_tup (pa_cons (pv 13) (pa_cons (pe_ixO D_get hr (by decide) (pv 8) (pv 13)) pa_nil))))) pa_nil)))
        (pss_cons (ps_if (PW.pt (pw_or (pt_not (pt_val (pe_c D_joined_right hr (by decide) (by rfl) (pa_cons (pv 8) (pa_cons (pv 7) (pa_cons (pv 9) (pa_cons (pv 5) pa_nil))))))) (pw_or1 (pt_not (pt_val (pe_c D_joined_right hr (by decide) (by rfl) (pa_cons (pv 6) (pa_cons (pv 8) (pa_cons (pv 4) (pa_cons (pv 9) pa_nil))))))))))
          (pss_one (ps_ret pe_bl))
          pss_nil)
        (pss_cons (ps_set (i := 10) sc_law.nd rfl (.inr rfl) (pe_c D_pick hr (by decide) (by rfl) (pa_cons (pv 1) (pa_cons (pe_lst (pa_cons pe_non (pa_cons pe_int (pa_cons pe_str (pa_cons pe_dnewK (pa_cons (pv 4) (pa_cons (pe_lst (pa_cons (pv 7) pa_nil)) (pa_cons (pe_tup (pa_cons (pv 7) pa_nil)) (pa_cons pe_bl pa_nil))))))))) pa_nil))))
        (pss_cons (ps_set (i := 11) sc_law.nd rfl (.inl rfl) (pe_lst (pa_cons (pe_heard (k := 7) T.toTh D_heard TB hr (by decide) rfl rfl (by rfl) (lamS_by (sc := defScope s_law) (by decide +kernel)) (by rfl) (fun _ _ _ _ _ => rfl) (fun A2 o2 s2 H2 E2 f2 c2 hr2 => (pe_op (op_anyXK (K := K) rfl D_or (passTk (takes_of rfl rfl rfl rfl)) T.nor hr2 (by decide)) (pv 6) (pv 10)))) pa_nil)))
        (pss_cons (ps_expr (pe_bmK (K := K) rfl PySem.F.plainAttrs_list PySem.F.slot_list_append PySem.F.type_list_append mt_append (pv 11) (pa_cons (pe_heard (k := 7) T.toTh D_heard TB hr (by decide) rfl rfl (by rfl) (lamS_by (sc := defScope s_law) (by decide +kernel)) (by rfl) (fun _ _ _ _ _ => rfl) (fun A2 o2 s2 H2 E2 f2 c2 hr2 => (pe_cmpR (op_leXK (K := K) rfl D_le (passTk (takes_of rfl rfl rfl rfl)) hr2 (by decide)) (pv 6) (pv 10) (nomark _)))) pa_nil)))
        (pss_one (ps_if (pt_cmpR (op_neDK (K := K) rfl hr.units) (pv 11) (pe_op op_rep (pe_lst (pa_cons (pe_tup (pa_cons pe_str (pa_cons pe_str pa_nil))) pa_nil)) pe_int) (nomark _))
          (pss_one (ps_ret pe_bl))
          pss_nil))))))))))))))))
      (pss_cons (ps_asg (pe_tup (pa_cons (pe_sm D_same hr (by decide) (pe_gv T.gMisreading (by rfl)) (pa_cons pe_str pa_nil)) (pa_cons (pe_sm D_same hr (by decide) (pe_gv T.gMisreading (by rfl)) (pa_cons pe_str pa_nil)) pa_nil))) (pg_tup (by rfl) (pgs_cons (pg_name (i := 12) sc_law.nd rfl (.inr rfl)) (pgs_cons (pg_name (i := 8) sc_law.nd rfl (.inr rfl)) pgs_nil))))
      (pss_cons (ps_aug (i := 8) sc_law.nd rfl (.inr rfl) (pe_sm D_same hr (by decide) (pe_gv T.gMisreading (by rfl)) (pa_cons pe_str pa_nil)) (ip_orX D_or passL T.ni hr (by decide)))
      (pss_cons (ps_if (PW.pt (pw_or (pt_cmpR (op_neO D_eq T.ne T.tD hr (by decide)) (pv 8) (pv 12) (nomark _)) (pw_or1 (pt_cmpR (op_neDK (K := K) rfl hr.units) (pe_heard (k := 7) T.toTh D_heard TB hr (by decide) rfl rfl (by rfl) (lamS_by (sc := defScope s_law) (by decide +kernel)) (by rfl) (fun _ _ _ _ _ => rfl) (fun A2 o2 s2 H2 E2 f2 c2 hr2 => (pe_op (op_binXK (K := K) rfl D_or (passTk (takes_of rfl rfl rfl rfl)) hr2 (by decide)) (pv 12) (pe_sm D_same hr2 (by decide) (pe_gv T.gMisreading (by rfl)) (pa_cons pe_str pa_nil))))) (pe_tup (pa_cons pe_str (pa_cons pe_int pa_nil))) (nomark _)))))
        (pss_one (ps_ret pe_bl))
        pss_nil)
      (pss_one (ps_ret (pe_cmpR (op_eqDK (K := K) rfl hr.units) (pe_heard (k := 7) T.toTh D_heard TB hr (by decide) rfl rfl (by rfl) (lamS_by (sc := defScope s_law) (by decide +kernel)) (by rfl) (fun _ _ _ _ _ => rfl) (fun A2 o2 s2 H2 E2 f2 c2 hr2 => (pe_op (op_binXK (K := K) rfl D_or (passTk (takes_of rfl rfl rfl rfl)) hr2 (by decide)) (pe_mk1 D_mk hr2 (by decide) (by rfl) (pa_cons (pe_disp (pps_cons pe_str pe_str (pps_cons pe_str pe_str pps_nil)) (by rfl) (by rfl) (fun z => by cases z) (by decide)) pa_nil)) (pe_mk1 D_mk hr2 (by decide) (by rfl) (pa_cons (pe_disp (pps_cons pe_str pe_str (pps_cons pe_str pe_str pps_nil)) (by rfl) (by rfl) (fun z => by cases z) (by decide)) pa_nil))))) (pe_tup (pa_cons pe_str (pa_cons pe_str pa_nil))) (nomark _))))))))), ?_⟩
    -- the pen
    refine ⟨_, rfl, a, ns, rfl, hS, hn, fun p l H1 np s1 PA1 => ?_⟩
    have tb1 := tb0.ext s1
    -- the turns
    refine ⟨_, rfl, by decide, by decide, for_it (walk_range (lo := 0) (n := 6)) (fun i σ H2 => (∃ v2 v3 v4 v5 v6 v7 v8 v9 v10 v11 : Option V, σ = [some (.ref a), some (.ref p), v2, v3, v4, v5, v6, v7, v8, v9, v10, v11, none, none]) ∧ PenAt H2 p l ns (1000 * (6 - i)) ∧ Tabs TL H2) ⟨⟨none, none, none, none, none, none, none, none, none, none, rfl⟩, PA1.less (by omega), tb1⟩ (fun _ _ _ _ _ => trivial) ?_ ?_⟩
    · rintro i z σ H2 H2' hi ⟨⟨v2, v3, v4, v5, v6, v7, v8, v9, v10, v11, rfl⟩, PA2, tb2⟩ ⟨rfl, rfl⟩
      have hb : 1000 * (6 - i) = 1000 * (6 - (i + 1)) + 1000 := by omega
      rw [hb] at PA2
      generalize 1000 * (6 - (i + 1)) = n at PA2 ⊢
      -- some
      refine ⟨_, rfl, _, rfl, _, rfl, by show 3 ≤ sizeLine; decide, fun b nb => ?_⟩
      have PA3 := PA2.new (o := .lst [.int 4, .int 9, .int 12]) nb
      have hbp := PA2.nep nb
      refine ⟨p, l, b, ns, n + 990, _, rfl, PA3.less (by omega), SqL.of upd_same, by show 0 < 3; decide, by show 3 < 1000; decide, fun H' fr => SqL.of (fr _ _ upd_same hbp), fun w H3 hw PA4 fr4 => ?_⟩
      obtain ⟨m, rfl, m0, m12⟩ : ∃ m : Int, w = .int m ∧ 0 < m ∧ m ≤ 12 := by
        rcases List.mem_cons.mp hw with rfl | hw
        · exact ⟨4, rfl, by decide, by decide⟩
        rcases List.mem_cons.mp hw with rfl | hw
        · exact ⟨9, rfl, by decide, by decide⟩
        · rw [List.mem_singleton.mp hw]
          exact ⟨12, rfl, by decide, by decide⟩
      refine ⟨p, l, ns, n + 980, m, rfl, PA4.less (by omega), m0, by omega, fun v H4 w0 w1 PA5 fr5 => ?_⟩
      obtain ⟨j, rfl⟩ : ∃ j : Nat, v = j := ⟨v.toNat, by omega⟩
      refine ⟨_, _, rfl, rfl, ?_⟩
      refine ⟨p, l, ns, n + 960, 1 + j, by rw [show ((1 + j : Nat) : Int) = 1 + (j : Int) by omega]; rfl, PA5.less (by omega), by omega, fun so cs H5 hlen hnd hlt PA6 fr6 nso hso => ?_⟩
      have h12 : cs.length ≤ 12 := by omega
      have hne : cs ≠ [] := fun z => by
        rw [z] at hlen
        simp at hlen
        omega
      have tb5 : Tabs TL H5 := tabs_mono (tabs_mono (tabs_mono (tb2.ext fun b o e => by rw [upd_ne (ne_of_none e nb)]; exact e) (fr_mono PA3 fr4)) (fr_mono PA4 fr5)) (fr_mono PA5 fr6)
      have hsp : so ≠ p := PA5.nep nso
      clear fr4 fr5 PA3 PA4 nso hlen w0 w1 m0 m12 hw tb2 PA2 nb hbp PA5 fr6
      refine atName ?_
      try dsimp only
      -- first
      refine ⟨_, rfl, _, rfl, p, l, so, ns, n + 700, cs, rfl, PA6.less (by omega), hso, hsp, hne, hnd, by omega, hlt, fun d1 t1 H6 G1 PA7 fr7 nd1 hd1 => ?_⟩
      have tb6 : Tabs TL H6 := tabs_mono tb5 (fr_mono PA6 fr7)
      have A1 : GoodT abc t1 := G1.abc hlt
      have l1 : t1.length ≤ 12 := Nat.le_trans G1.len h12
      clear PA6 fr7 nd1 tb5 hso
      refine atName ?_
      try dsimp only
      -- last
      refine viaAsg (fun w H7 => ∃ d2 t2, w = .ref d2 ∧ H7 d2 = some (.dK (encT t2)) ∧ GoodT abc t2 ∧ PenAt H7 p l ns (n + 400) ∧ Tabs TL H7 ∧ H7 d1 = some (.dK (encT t1))) (fun R' r' => ?_) ?_
      · obtain ⟨pl, hpl⟩ := PA7.pen
        have hd1p : d1 ≠ p := ne_of hd1 hpl (fun z => nomatch z)
        refine ⟨_, rfl, p, l, ns, n + 690, 3, rfl, PA7.less (by omega), by decide, by decide, fun v7 H7 u0 u1 PA8 fr8 => ⟨_, _, rfl, rfl, _, rfl, ?_⟩⟩
        have hd7 := fr8 _ _ hd1 hd1p
        have tb7 : Tabs TL H7 := tabs_mono tb6 (fr_mono PA7 fr8)
        refine ite2 (fun e6 => ?_) (fun e6 => ?_)
        · refine ⟨_, rfl, _, rfl, p, l, d1, ns, n + 400, t1, rfl, PA8.less (by omega), hd7, A1, fun d2 t2 H8 G2 PA9 fr9 nd2 hd2 => r' _ _ ⟨d2, t2, rfl, hd2, G2, PA9, tabs_mono tb7 (fr_mono PA8 fr9), fr9 _ _ hd7 hd1p⟩⟩
        · refine ⟨_, rfl, _, rfl, _, rfl, p, l, ns, n + 680, 9, rfl, PA8.less (by omega), by decide, by decide, fun v8 H8 w0 w1 PA9 fr9 => ?_⟩
          obtain ⟨j2, rfl⟩ : ∃ j : Nat, v8 = j := ⟨v8.toNat, by omega⟩
          refine ⟨_, _, rfl, rfl, ?_⟩
          refine ⟨p, l, ns, n + 660, 1 + j2, by rw [show ((1 + j2 : Nat) : Int) = 1 + (j2 : Int) by omega]; rfl, PA9.less (by omega), by omega, fun s2 cs2 H9 hlen2 hnd2 hlt2 PA10 fr10 ns2 hs2 => ?_⟩
          have hne2 : cs2 ≠ [] := fun z => by
            rw [z] at hlen2
            simp at hlen2
            omega
          refine ⟨p, l, s2, ns, n + 400, cs2, rfl, PA10.less (by omega), hs2, PA9.nep ns2, hne2, hnd2, by omega, hlt2, fun d2 t2 H10 G2 PA11 fr11 nd2 hd2 => r' _ _ ⟨d2, t2, rfl, hd2, G2.abc hlt2, PA11, tabs_mono (tabs_mono (tabs_mono tb7 (fr_mono PA8 fr9)) (fr_mono PA9 fr10)) (fr_mono PA10 fr11), fr11 _ _ (fr10 _ _ (fr9 _ _ hd7 hd1p) hd1p) hd1p⟩⟩
      rintro w H7 ⟨d2, t2, rfl, hd2, G2, PA8, tb7, hd1'⟩
      clear hd1 tb6 PA7
      refine atName ?_
      try dsimp only
      -- twelve at most
      refine seq1 (fun σ' H8 => ∃ d2 t2, σ' = [some (.ref a), some (.ref p), some (.int (0 + (i : Nat))), some (.ref so), some (.ref d1), some (.ref d2), v6, v7, v8, v9, v10, v11, none, none] ∧ H8 d2 = some (.dK (encT t2)) ∧ GoodT abc t2 ∧ t2.length ≤ 12 ∧ PenAt H8 p l ns (n + 400) ∧ Tabs TL H8 ∧ H8 d1 = some (.dK (encT t1))) ?_ fun R2 r2 => ?_
      · rintro σ' H8 ⟨d2, t2, rfl, hd2, G2, l2, PA8, tb8, hd1⟩
        have c12 : ∀ c ∈ abc, isLt c := fun c hc => abc_mem.mp hc
        -- one, two
        refine ⟨_, rfl, d1, abc, [], t1, rfl, hd1, A1, ⟨by rw [toldT_nil A1.nd]; exact l1, by rw [abc_len]; omega⟩, c12, fun c h => (nomatch h), by decide, fun x1 H9 nx1 m9 s9 => ?_⟩
        have m1 := m9.mis
        rw [toldT_nil A1.nd] at m1
        refine ⟨_, rfl, d2, abc, [], t2, rfl, s9 _ _ hd2, G2, ⟨by rw [toldT_nil G2.nd]; exact l2, by rw [abc_len]; omega⟩, c12, fun c h => (nomatch h), by decide, fun x2 H10 nx2 m10 s10 => ⟨by show 2 ≤ sizeLine; decide, fun tp ntp => ⟨tp, [.ref x1, .ref x2], rfl, .inl (.inl upd_same), rfl, _, _, rfl, _, _, rfl, rfl, ?_⟩⟩⟩
        have m2 := m10.mis
        rw [toldT_nil G2.nd] at m2
        have s11 : Same H8 (upd H10 tp (.tup [.ref x1, .ref x2])) := same_put (s := Same.trans s9 s10) ntp
        have s12 : Same H10 (upd H10 tp (.tup [.ref x1, .ref x2])) := same_put (s := Same.refl _) ntp
        have S : LawS TL CM p l d1 d2 x1 x2 ns (n + 400) t1 t2 (upd H10 tp (.tup [.ref x1, .ref x2])) := ⟨pen_same PA8 s11, ⟨(m1.same s10).same s12, m2.same s12, s11 _ _ hd1, s11 _ _ hd2, tb8.ext s11⟩⟩
        generalize upd H10 tp (.tup [.ref x1, .ref x2]) = H11 at S ⊢
        clear s11 s12 s9 s10 m1 m2 m9 m10 nx1 nx2 ntp PA8 tb8 hd1 hd2
        have g1 : KeyT t1 := A1.keyT c12
        have g2 : KeyT t2 := G2.keyT c12
        have b1 : Bnd 64 (lk t1) := (good_bnd A1).le (by omega)
        have b2 : Bnd 64 (lk t2) := (good_bnd G2).le (by omega)
        have k1 : (keysOf t1).length ≤ 12 := by
          rw [← (keys_perm g1.nd g1.lt).length_eq, List.length_map]
          exact l1
        have k2 : (keysOf t2).length ≤ 12 := by
          rw [← (keys_perm g2.nd g2.lt).length_eq, List.length_map]
          exact l2
        have i1 : ∀ q ∈ t1, ∀ c ∈ q.2, isLt c := fun q hq c hc => abc_mem.mp ((A1.img q hq).2.2 c hc)
        have i2 : ∀ q ∈ t2, ∀ c ∈ q.2, isLt c := fun q hq c hc => abc_mem.mp ((G2.img q hq).2.2 c hc)
        have o1 : Ovr cs (lk t1) := good_over G1
        try dsimp only
        -- both ways
        refine ⟨_, rfl, _, rfl, _, rfl, _, rfl, x1, x2, d1, d2, t1, t2, t1, t2, rfl, S.f, rfl, rfl, g1, g2, b1, b2, k1, k2, i1, i2, fun H12 e12 tb12 => ⟨true, rfl, iteF ?_⟩⟩
        replace S := S.ext e12 tb12
        clear e12 tb12
        refine ⟨_, rfl, _, rfl, _, rfl, _, rfl, x2, x1, d2, d1, t2, t1, t2, t1, rfl, four_self S.f, rfl, rfl, g2, g1, b2, b1, k2, k1, i2, i1, fun H13 e13 tb13 => ⟨true, rfl, iteF ?_⟩⟩
        replace S := S.ext e13 tb13
        clear e13 tb13
        refine nextS ?_
        dsimp only
        -- with itself, with nothing
        refine ⟨_, rfl, _, rfl, _, rfl, _, rfl, x1, x1, d1, d1, t1, t1, t1, t1, rfl, ⟨S.f.mx, S.f.mx, S.f.h1, S.f.h1, S.f.tb⟩, rfl, rfl, g1, g1, b1, b1, k1, k1, i1, i1, fun H14 e14 tb14 => ⟨true, rfl, iteF ?_⟩⟩
        replace S := S.ext e14 tb14
        clear e14 tb14
        refine fun en nen => ⟨en, abc, [], [], rfl, upd_same, GoodT.nil, ⟨by decide, by rw [abc_len]; omega⟩, c12, fun c h => (nomatch h), by decide, fun x0 H15 nx0 m0 s15 => ?_⟩
        replace S := (S.same (same_put (s := Same.refl _) (o := .dK []) nen)).same s15
        replace m0 : MisAt CM H15 x0 [] := m0.mis
        refine ⟨_, rfl, le_misX T.toTz m0 S.f.mx fun H16 s16 => ⟨true, by rw [leB_iff.mpr (le_nil t1)], iteF ?_⟩⟩
        replace S := S.same s16
        clear m0 s15 s16 nx0 nen
        refine ⟨_, rfl, fun en nen => ⟨en, abc, [], [], rfl, upd_same, GoodT.nil, ⟨by decide, by rw [abc_len]; omega⟩, c12, fun c h => (nomatch h), by decide, fun x0 H15 nx0 m0 s15 => ?_⟩⟩
        replace S := (S.same (same_put (s := Same.refl _) (o := .dK []) nen)).same s15
        replace m0 : MisAt CM H15 x0 [] := m0.mis
        refine or_mis S.f.mx m0 ⟨fun c3 e3 => ?_, fun e3 n3 => ?_, fun e3 n3 z H16 tz nz mz ez s16 => ?_⟩
        · have z : cfl t1 [] = none := cfl_ge (le_nil t1)
          have e3' : cfl t1 [] = some c3 := e3
          rw [z] at e3'
          cases e3'
        · have z : nU t1 [] ≤ 12 := by
            rw [nU_comm]
            exact Nat.le_trans (nU_le (le_nil t1)) k1
          have n3' : 12 < nU t1 [] := n3
          omega
        replace S := S.same s16
        have ez' : lk tz = lk t1 := ez.trans (uF_left (le_nil t1))
        refine ⟨_, rfl, eq_mis T.toTy mz S.f.mx ⟨false, by rw [decide_eq_true (eqM_lk.mpr ez')]; rfl, iteF ?_⟩⟩
        clear mz ez ez' nz s16 m0 s15 nx0 nen
        refine nextS ?_
        dsimp only
        -- wide
        have bc : Bnd 64 (cF (lk t1) (lk t1)) := ((good_bnd A1).comp (good_bnd A1)).le (by omega)
        refine ⟨_, rfl, _, rfl, rsh_mis S.f.mx S.f.mx b1 b1 bc o1 h12 fun z H17 tz mz ez s17 => ?_⟩
        replace S := S.same s17
        clear s17
        have b9 : Bnd 64 (lk (ims tz)) := by
          rw [lk_ims, ez]
          exact bc
        have o9 : Ovr cs (lk tz) := by
          rw [ez]
          exact o1.comp o1
        have g9 : KeyT (ims tz) := ⟨by rw [ims_keys]; exact keysOf_nd _, fun q hq => by
          obtain ⟨c, hc, rfl⟩ := List.mem_map.mp hq
          exact keysOf_sub _ _ hc⟩
        have i9 : ∀ q ∈ ims tz, ∀ c ∈ q.2, isLt c := fun q hq c hc => by
          obtain ⟨c0, hc0, rfl⟩ := List.mem_map.mp hq
          obtain ⟨s, e⟩ := Option.isSome_iff_exists.mp (lk_mem.mp hc0)
          have hc' : c ∈ (lookT tz c0).getD [] := hc
          rw [lk_look hc0, e] at hc'
          exact hlt c (o9.2 c0 s e c hc')
        have k9 : (keysOf (ims tz)).length ≤ 12 := by
          rw [keysOf_congr (eqM_lk.mpr (lk_ims tz))]
          refine Nat.le_trans (nd_len (keysOf_nd tz) fun c hc => ?_) h12
          obtain ⟨s, e⟩ := Option.isSome_iff_exists.mp (lk_mem.mp hc)
          exact o9.1 c s e
        have kl := keysOf_len tz
        have e9 := (lk_ims tz).symm
        clear ez o9 bc
        refine atName ?_
        try dsimp only
        obtain ⟨dz, az, bz, cz, hz, haz, hbz, hcz⟩ := id mz.at_
        refine ⟨_, rfl, z, dz, _, rfl, hz, fun k hk => ⟨z, tz, rfl, mz, fun it a3 ni hi ha3 => ⟨it, a3, rfl, hi, upd_same, ?_⟩⟩⟩
        rw [dropH_upd ni]
        refine fun D nD => lc_it (walk_tup (K := K) (a := a3) (xs := lets (keysOf tz))) (fun i H3 => ∃ ps : List Addr, ps.length = i ∧ H3 D = some (.lst (ps.map V.ref)) ∧ PairsAt H3 ps ((ims tz).take i) ∧ Same H17 H3) ?_ ?_ ?_ ?_
        · exact ⟨[], rfl, upd_same, .nil, same_put (s := Same.refl _) nD⟩
        · rintro i H3 hi ⟨ps, hps, hD, hpa, s3⟩
          exact .inl (.inl (s3 _ _ ha3))
        · rintro i w H3 H3' hi ⟨ps, hps, hD, hpa, s3⟩ ⟨rfl, hw⟩
          obtain ⟨hik, rfl⟩ := lets_get hw
          have hm := List.getElem_mem hik
          obtain ⟨s, e2⟩ := Option.isSome_iff_exists.mp (keysOf_mem.mp hm).2
          refine ⟨rfl, _, rfl, _, rfl, _, rfl, z, dz, _, rfl, s3 _ _ hz, z, tz, _, s, rfl, mz.same s3, hm, e2, by show 2 ≤ sizeLine; decide, fun tq ntq => ?_⟩
          have htD : D ≠ tq := ne_of_none hD ntq
          refine ⟨ps.map V.ref, by rw [upd_ne htD]; exact hD, by rw [List.length_map]; exact small1000 (by omega), ps ++ [tq], by rw [List.length_append, hps]; rfl, by rw [upd_same, List.map_append]; rfl, ?_, ?_⟩
          · have et : (ims tz).take (i + 1) = (ims tz).take i ++ [((keysOf tz)[i], s)] := by
              have hl : i < (ims tz).length := by rw [ims_len]; exact hik
              rw [List.take_add_one, List.getElem?_eq_getElem hl]
              congr 1
              show [(ims tz)[i]] = _
              have e3 : (ims tz)[i] = ((keysOf tz)[i], (lookT tz (keysOf tz)[i]).getD []) := List.getElem_map ..
              rw [e3, e2]
              rfl
            rw [et]
            refine PairsAt.snoc ((hpa.mono (tup_new ntq)).mono (tup_upd (by rw [upd_ne htD]; exact hD))) ?_
            exact (upd_ne (Ne.symm htD)).trans upd_same
          · exact same_over (s := same_put (s := s3) ntq) nD
        rintro H3 ⟨ps, hps, hD, hpa, s3⟩
        rw [lets_len, ← ims_len, List.take_length] at hpa
        refine ⟨D, ps, encT (ims tz), rfl, SqL.of hD, PairsAt.sq hpa, fun d9 nd9 => ?_⟩
        have em : mergeK [] (encT (ims tz)) = encT (ims tz) := by
          have e : mergeK [] (encT (ims tz)) = encT (mergeT [] (ims tz)) := mergeK_enc _ []
          rw [e, mergeT_nil g9.nd]
        rw [em]
        have s4 := same_put (s := s3) (o := .dK (encT (ims tz))) nd9
        replace S := S.same s4
        replace mz := mz.same s4
        have h9 : upd H3 d9 (.dK (encT (ims tz))) d9 = some (.dK (encT (ims tz))) := upd_same
        generalize upd H3 d9 (.dK (encT (ims tz))) = H18 at S mz h9 ⊢
        clear s3 s4 nd9 em hpa hD nD ni hi ha3 haz hbz hcz hz hps hk
        refine atName ?_
        try dsimp only
        refine ⟨_, rfl, _, rfl, _, rfl, _, rfl, z, x2, d9, d2, tz, t2, ims tz, t2, rfl, ⟨mz, S.f.my, h9, S.f.h2, S.f.tb⟩, e9, rfl, g9, g2, b9, b2, k9, k2, i9, i2, fun H19 e19 tb19 => ⟨true, rfl, iteF ?_⟩⟩
        replace S := S.ext e19 tb19
        replace mz := mz.ext e19
        replace h9 := e19 _ _ h9 (fun _ z => nomatch z)
        clear e19 tb19
        refine ⟨_, rfl, _, rfl, _, rfl, _, rfl, x1, z, d1, d9, t1, tz, t1, ims tz, rfl, ⟨S.f.mx, mz, S.f.h1, h9, S.f.tb⟩, rfl, e9, g1, g9, b1, b9, k1, k9, i1, i9, fun H20 e20 tb20 => ⟨true, rfl, iteF ?_⟩⟩
        replace S := S.ext e20 tb20
        clear e20 tb20 mz h9 e9
        refine nextS ?_
        dsimp only
        -- odd
        refine ⟨_, rfl, fun en nen => ⟨_, rfl, _, rfl, by show 1 ≤ sizeLine; decide, fun lo nlo => ⟨_, rfl, by show 1 ≤ sizeLine; decide, fun tu ntu => ⟨by show 8 ≤ sizeLine; decide, fun L nL => ?_⟩⟩⟩⟩
        have q1 := same_put (s := Same.refl H20) (o := .dK []) nen
        have q2 := same_put (s := q1) (o := .lst [.ref x2]) nlo
        have q3 := same_put (s := q2) (o := .tup [.ref x2]) ntu
        have u2 : Same (upd H20 en (.dK [])) (upd (upd H20 en (.dK [])) lo (.lst [.ref x2])) := same_put (s := Same.refl _) nlo
        have u3 : Same (upd (upd H20 en (.dK [])) lo (.lst [.ref x2])) (upd (upd (upd H20 en (.dK [])) lo (.lst [.ref x2])) tu (.tup [.ref x2])) := same_put (s := Same.refl _) ntu
        have he : upd (upd (upd H20 en (.dK [])) lo (.lst [.ref x2])) tu (.tup [.ref x2]) en = some (.dK []) := u3 _ _ (u2 _ _ upd_same)
        have hl : upd (upd (upd H20 en (.dK [])) lo (.lst [.ref x2])) tu (.tup [.ref x2]) lo = some (.lst [.ref x2]) := u3 _ _ upd_same
        have ht : upd (upd (upd H20 en (.dK [])) lo (.lst [.ref x2])) tu (.tup [.ref x2]) tu = some (.tup [.ref x2]) := upd_same
        obtain ⟨pl, hpl⟩ := S.pa.pen
        have nlp : lo ≠ p := fun z => by
          rw [z, q1 _ _ hpl] at nlo
          cases nlo
        replace S := S.same q3
        generalize upd (upd (upd H20 en (.dK [])) lo (.lst [.ref x2])) tu (.tup [.ref x2]) = H21 at S he hl ht nL ⊢
        clear q1 q2 q3 u2 u3 nen nlo ntu hpl
        obtain ⟨oL, eoL⟩ : ∃ oL : List V, oL = [.non, .int 0, .str "a:b", .ref en, .ref d1, .ref lo, .ref tu, .bl true] := ⟨_, rfl⟩
        rw [← eoL]
        have nLp := S.pa.nep nL
        have sL : Same H21 (upd H21 L (.lst oL)) := same_put (s := Same.refl _) nL
        replace S := S.same sL
        replace he := sL _ _ he
        replace hl := sL _ _ hl
        replace ht := sL _ _ ht
        have hL : upd H21 L (.lst oL) L = some (.lst oL) := upd_same
        generalize upd H21 L (.lst oL) = H22 at S he hl ht hL ⊢
        clear sL nL
        refine ⟨p, l, L, ns, n + 300, oL, rfl, S.pa.less (by omega), SqL.of hL, by rw [eoL]; show 0 < 8; decide, by rw [eoL]; show 8 < 1000; decide, fun H' fr => SqL.of (fr _ _ hL nLp), fun w H23 hw PA23 fr23 => ?_⟩
        have nl23 := fr_mono S.pa fr23
        have m1 : MisAt CM H23 x1 t1 := S.f.mx.mono nl23
        have tb23 : Tabs TL H23 := tabs_mono S.f.tb nl23
        have ow : OddAt H23 w := by
          have d23 := nl23 _ _ S.f.h1 (fun _ z => nomatch z)
          have e23 := nl23 _ _ he (fun _ z => nomatch z)
          have t23 := nl23 _ _ ht (fun _ z => nomatch z)
          have l23 := fr23 _ _ hl nlp
          rw [eoL] at hw
          rcases List.mem_cons.mp hw with rfl | hw
          · exact .inl rfl
          rcases List.mem_cons.mp hw with rfl | hw
          · exact .inr (.inl ⟨_, rfl⟩)
          rcases List.mem_cons.mp hw with rfl | hw
          · exact .inr (.inr (.inl ⟨_, rfl⟩))
          rcases List.mem_cons.mp hw with rfl | hw
          · exact .inr (.inr (.inr (.inr (.inl ⟨_, _, rfl, e23⟩))))
          rcases List.mem_cons.mp hw with rfl | hw
          · exact .inr (.inr (.inr (.inr (.inl ⟨_, _, rfl, d23⟩))))
          rcases List.mem_cons.mp hw with rfl | hw
          · exact .inr (.inr (.inr (.inr (.inr (.inl ⟨_, _, rfl, l23⟩)))))
          rcases List.mem_cons.mp hw with rfl | hw
          · exact .inr (.inr (.inr (.inr (.inr (.inr ⟨_, _, rfl, t23⟩)))))
          · rw [List.mem_singleton.mp hw]
            exact .inr (.inr (.inr (.inl ⟨_, rfl⟩)))
        replace PA23 := PA23.less (m := n) (by omega)
        clear S he hl ht hL nLp nlp nl23 fr23 hw eoL
        refine atName ?_
        try dsimp only
        -- heard of |
        refine ⟨tb23, fun H24 e24 tb24 R1 H25 r1 s25 => ⟨_, rfl, _, rfl, or_odd T.odd ((m1.ext e24).same s25) ((ow.ext e24).ext (ext_same s25)) fun d H26 nd s26 hd => ⟨d, rfl, .inl ⟨rfl, _, hd, fun tt H27 s27 ht => ⟨by show 1 ≤ sizeLine; decide, fun L1 nL1 => ?_⟩⟩⟩⟩⟩
        have PAz := pen_same (pen_ext PA23 e24) (Same.trans s25 (Same.trans s26 s27))
        have nLp : L1 ≠ p := PAz.nep nL1
        have nLl : L1 ≠ l := PAz.nel nL1
        clear PAz
        have s28 : Same H24 (upd H27 L1 (.lst [.ref tt])) := same_put (s := Same.trans s25 (Same.trans s26 s27)) nL1
        replace m1 := (m1.ext e24).same s28
        replace ow := (ow.ext e24).ext (ext_same s28)
        replace PA23 := pen_same (pen_ext PA23 e24) s28
        replace tb23 := tb24.ext s28
        have s29 : Same H27 (upd H27 L1 (.lst [.ref tt])) := same_put (s := Same.refl _) nL1
        replace ht := s29 _ _ ht
        have hL1 : upd H27 L1 (.lst [.ref tt]) L1 = some (.lst [.ref tt]) := upd_same
        generalize upd H27 L1 (.lst [.ref tt]) = H28 at m1 ow PA23 tb23 ht hL1 ⊢
        clear s25 s26 s27 s28 s29 hd nd nL1 r1 e24 tb24
        refine atName ?_
        try dsimp only
        -- heard of <=
        refine ⟨_, rfl, .inl ⟨rfl, _, SqL.of hL1⟩, tb23, fun H24 e24 tb24 R1 H25 r1 s25 => ⟨_, rfl, _, rfl, le_odd T.odd ((m1.ext e24).same s25) ((ow.ext e24).ext (ext_same s25)) fun d H26 nd s26 hd => ⟨d, rfl, .inl ⟨rfl, _, hd, fun t3 H27 s27 h3 => ⟨L1, [.ref tt], .ref t3, rfl, rfl, ?_, by show 1 < sizeLine; decide, ?_⟩⟩⟩⟩⟩
        · exact s27 _ _ (s26 _ _ (s25 _ _ (e24 _ _ hL1 (fun _ z => nomatch z))))
        have x28 : ExtN H28 H27 := e24.trans (ext_same (Same.trans s25 (Same.trans s26 s27)))
        have tb27 : Tabs TL H27 := tb24.ext (Same.trans s25 (Same.trans s26 s27))
        have PA27 := pen_ext PA23 x28
        have hL27 := x28 _ _ hL1 (fun _ z => nomatch z)
        have ht27 := x28 _ _ ht (fun _ z => nomatch z)
        have PA29 : PenAt (upd H27 L1 (.lst ([.ref tt] ++ [.ref t3]))) p l ns n := PA27.other nLp nLl
        have tb29 : Tabs TL (upd H27 L1 (.lst ([.ref tt] ++ [.ref t3]))) := tabs_mono tb27 fun b o e nl => by
          rw [upd_ne (fun z => by rw [z, hL27] at e; exact nl _ (Option.some.inj e).symm)]
          exact e
        have ht29 : upd H27 L1 (.lst ([.ref tt] ++ [.ref t3])) tt = some (.tup [.str "table", .str "other"]) := by
          rw [upd_ne (ne_of ht27 hL27 (fun z => nomatch z))]
          exact ht27
        have h329 : upd H27 L1 (.lst ([.ref tt] ++ [.ref t3])) t3 = some (.tup [.str "table", .str "other"]) := by
          rw [upd_ne (ne_of h3 hL27 (fun z => nomatch z))]
          exact h3
        have hL29 : upd H27 L1 (.lst ([.ref tt] ++ [.ref t3])) L1 = some (.lst [.ref tt, .ref t3]) := upd_same
        generalize upd H27 L1 (.lst ([.ref tt] ++ [.ref t3])) = H29 at PA29 tb29 ht29 h329 hL29 ⊢
        clear PA27 tb27 x28 hL27 ht27 PA23 tb23 m1 ow ht hL1 s25 s26 s27 hd nd r1 e24 tb24 h3
        -- both are refused
        refine ⟨_, rfl, by show 2 ≤ sizeLine; decide, fun t4 n4 => ⟨by show 1 ≤ sizeLine; decide, fun L2 nL2 => ⟨L2, 2, [.ref t4], rfl, rfl, upd_same, by decide, by decide, by show 1 * 2 ≤ sizeLine; decide, fun L3 nL3 => ?_⟩⟩⟩
        have a1 : Same H29 (upd H29 t4 (.tup [.str "table", .str "other"])) := same_put (s := Same.refl _) n4
        have a2 := same_put (s := Same.refl (upd H29 t4 (.tup [.str "table", .str "other"]))) (o := .lst [.ref t4]) nL2
        have a3 := same_put (s := Same.refl (upd (upd H29 t4 (.tup [.str "table", .str "other"])) L2 (.lst [.ref t4]))) (o := .lst (List.replicate (2 : Int).toNat [V.ref t4]).flatten) nL3
        have a13 := Same.trans (Same.trans a1 a2) a3
        have h4 := a3 _ _ (a2 _ _ (show upd H29 t4 (.tup [.str "table", .str "other"]) t4 = some (.tup [.str "table", .str "other"]) from upd_same))
        have hz := a13 _ _ hL29
        have hy := a13 _ _ ht29
        have hx := a13 _ _ h329
        refine ne_same (d := .list [.tuple [.str "table", .str "other"], .tuple [.str "table", .str "other"]]) (.lst (SqL.of hz) (.cons (.tup (.inl (.inl hy)) (.cons (.str _) (.cons (.str _) .nil))) (.cons (.tup (.inl (.inl hx)) (.cons (.str _) (.cons (.str _) .nil))) .nil))) (.lst (xs := [.ref t4, .ref t4]) (SqL.of upd_same) (.cons (.tup (.inl (.inl h4)) (.cons (.str _) (.cons (.str _) .nil))) (.cons (.tup (.inl (.inl h4)) (.cons (.str _) (.cons (.str _) .nil))) .nil))) (by decide +kernel) ⟨false, rfl, iteF ?_⟩
        exact ⟨⟨_, _, _, _, _, _, _, _, _, _, rfl⟩, pen_same PA29 a13, tb29.ext a13⟩
      · refine ⟨_, rfl, d2, _, rfl, hd2, _, _, rfl, rfl, _, rfl, ?_⟩
        rw [encT_len]
        refine ite2 (fun e => ?_) (fun e => ?_)
        · have hl12 : 12 < t2.length := by
            have := of_decide_eq_true e
            omega
          have tl := G2.len
          rw [abc_len] at tl
          refine ⟨_, rfl, d2, _, rfl, .inl hd2, fun ls nls => ⟨12, rfl, ls, _, rfl, SqL.of upd_same, fun ls2 nls2 => ⟨ls2, rfl, ⟨_, SqL.of upd_same⟩, fun D nD => ?_⟩⟩⟩
          have hk3 : (encT t2).map (fun kv => kV kv.1) = lets (t2.map (·.1)) := by
            unfold encT lets
            rw [List.map_map, List.map_map]
            rfl
          have hc : cutV ((encT t2).map fun kv => kV kv.1) none (some 12) = (lets (t2.map (·.1))).take 12 := by
            rw [hk3]
            have e : HT.sIx (lets (t2.map (·.1))).length (lets (t2.map (·.1))).length (some 12) = 12 := by
              show HT.sIx _ _ (some ((12 : Nat) : Int)) = _
              rw [HT.sIx_nat, lets_len, List.length_map]
              omega
            unfold cutV
            rw [HT.sIx_none, List.drop_zero, e]
          rw [hc] at nD ⊢
          have q1 := same_put (s := Same.refl H7) (o := .lst ((encT t2).map fun kv => kV kv.1)) nls
          have q2 := same_put (s := q1) (o := .lst ((lets (t2.map (·.1))).take 12)) nls2
          have h2 : upd (upd H7 ls (.lst ((encT t2).map fun kv => kV kv.1))) ls2 (.lst ((lets (t2.map (·.1))).take 12)) ls2 = some (.lst ((lets (t2.map (·.1))).take 12)) := upd_same
          generalize upd (upd H7 ls (.lst ((encT t2).map fun kv => kV kv.1))) ls2 (.lst ((lets (t2.map (·.1))).take 12)) = H9 at q2 h2 nD ⊢
          have hd9 := q2 _ _ hd2
          refine lc_it (walk_list (K := K) (a := ls2) (xs := (lets (t2.map (·.1))).take 12)) (fun i H3 => ∃ ps : List Addr, ps.length = i ∧ H3 D = some (.lst (ps.map V.ref)) ∧ PairsAt H3 ps ((t2.take 12).take i) ∧ Same H9 H3) ?_ ?_ ?_ ?_
          · exact ⟨[], rfl, upd_same, .nil, same_put (s := Same.refl _) nD⟩
          · rintro i H3 hi ⟨ps, hps, hD, hpa, s3⟩
            exact SqL.of (s3 _ _ h2)
          · rintro i w H3 H3' hi ⟨ps, hps, hD, hpa, s3⟩ ⟨rfl, hw⟩
            have hi12 : i < 12 := by
              rw [List.length_take] at hi
              omega
            have hit : i < t2.length := by omega
            have ew : w = .str (L1 t2[i].1) := by
              rw [List.getElem?_take, if_pos hi12] at hw
              obtain ⟨hik, e⟩ := lets_get hw
              rw [e, List.getElem_map]
            subst ew
            refine ⟨rfl, _, rfl, _, rfl, _, rfl, d2, V.str (Sx t2[i].2), rfl, .inl ⟨_, Sum.inr (L1 t2[i].1), .inl (s3 _ _ hd9), rfl, by rw [valV_enc, look_at G2.nd hit]; rfl⟩, by show 2 ≤ sizeLine; decide, fun tq ntq => ?_⟩
            have htD : D ≠ tq := ne_of_none hD ntq
            refine ⟨ps.map V.ref, by rw [upd_ne htD]; exact hD, by rw [List.length_map]; exact small1000 (by omega), ps ++ [tq], by rw [List.length_append, hps]; rfl, by rw [upd_same, List.map_append]; rfl, ?_, ?_⟩
            · have hl : i < (t2.take 12).length := by rw [List.length_take]; omega
              have et : (t2.take 12).take (i + 1) = (t2.take 12).take i ++ [t2[i]] := by
                rw [List.take_add_one, List.getElem?_eq_getElem hl]
                congr 1
                show [(t2.take 12)[i]] = _
                rw [List.getElem_take]
              rw [et]
              refine PairsAt.snoc ((hpa.mono (tup_new ntq)).mono (tup_upd (by rw [upd_ne htD]; exact hD))) ?_
              exact (upd_ne (Ne.symm htD)).trans upd_same
            · exact same_over (s := same_put (s := s3) ntq) nD
          rintro H3 ⟨ps, hps, hD, hpa, s3⟩
          have el : ((lets (t2.map (·.1))).take 12).length = (t2.take 12).length := by rw [List.length_take, List.length_take, lets_len, List.length_map]
          rw [el, List.take_length] at hpa
          refine ⟨D, ps, encT (t2.take 12), rfl, SqL.of hD, PairsAt.sq hpa, fun d9 nd9 => ?_⟩
          have G9 : GoodT abc (t2.take 12) := ⟨by rw [List.map_take]; exact G2.nd.sublist (List.take_sublist _ _), fun q hq => G2.key q (List.mem_of_mem_take hq), fun q hq => G2.img q (List.mem_of_mem_take hq)⟩
          have em : mergeK [] (encT (t2.take 12)) = encT (t2.take 12) := by
            have e : mergeK [] (encT (t2.take 12)) = encT (mergeT [] (t2.take 12)) := mergeK_enc _ []
            rw [e, mergeT_nil G9.nd]
          rw [em]
          have s4 : Same H7 (upd H3 d9 (.dK (encT (t2.take 12)))) := Same.trans q2 (same_put (s := s3) nd9)
          exact r2 _ _ ⟨d9, t2.take 12, rfl, upd_same, G9, by rw [List.length_take]; omega, pen_same PA8 s4, tb7.ext s4, s4 _ _ hd1'⟩
        · have e' : ¬ (12 < (t2.length : Int)) := fun z => e (decide_eq_true z)
          exact r2 _ _ ⟨d2, t2, rfl, hd2, G2, by omega, PA8, tb7, hd1'⟩
    · rintro σ H2 ⟨⟨v2, v3, v4, v5, v6, v7, v8, v9, v10, v11, rfl⟩, PA2, tb2⟩
      have eK : ("abcdefghijkl" : Str) = Sx kL := by decide +kernel
      have eW : ("abcdefg" : Str) = Sx wL := by decide +kernel
      have eE : ("efghijkl" : Str) = Sx eL := by decide +kernel
      have eM : ("m" : Str) = Sx mL := by decide +kernel
      clear hS tb0 s1 np PA1 tb1 PA2
      -- kept, wide
      refine ⟨rfl, kL, kL, by rw [eK], by decide, by decide, fun c h => h, by decide, fun k H3 nk mk s3 => ⟨rfl, wL, wL, by rw [eW], by decide, by decide, fun c h => h, by decide, fun w1 H4 nw mw s4 => ⟨by show 2 ≤ sizeLine; decide, fun tp ntp => ⟨tp, [.ref k, .ref w1], rfl, .inl (.inl upd_same), rfl, _, _, rfl, _, _, rfl, rfl, ?_⟩⟩⟩⟩
      have s5 : Same H4 (upd H4 tp (.tup [.ref k, .ref w1])) := same_put (s := Same.refl _) ntp
      replace mk := (mk.same s4).same s5
      replace mw := mw.same s5
      have tb5 := ((tb2.ext s3).ext s4).ext s5
      generalize upd H4 tp (.tup [.ref k, .ref w1]) = H5 at mk mw tb5 ⊢
      clear s3 s4 s5 nk nw ntp tb2
      try dsimp only
      -- wide |= ..
      refine ⟨_, rfl, rfl, eL, eL, by rw [eE], by decide, by decide, fun c h => h, by decide, fun e1 H6 ne me s6 => ?_⟩
      replace mk := mk.same s6
      replace mw := mw.same s6
      have tb6 := tb5.ext s6
      refine or_mis mw me ⟨fun c3 e3 => ?_, fun e3 n3 => ?_, fun e3 n3 z H7 tz nz mz ez s7 => ?_⟩
      · rw [show cfl (toldT wL []) (toldT eL []) = none from by decide +kernel] at e3
        cases e3
      · exact absurd n3 (by decide +kernel)
      replace mk := mk.same s7
      have tb7 := tb6.ext s7
      have e7 : lk tz = lk (toldT kL []) := by
        rw [ez, ← lk_merge (a := toldT wL []) (b := toldT eL []) ⟨by decide +kernel, by decide +kernel⟩]
        exact eqM_lk.mp (by decide +kernel)
      clear ez nz s7 me ne s6 tb5 tb6 mw
      try dsimp only
      refine ⟨_, rfl, _, rfl, eq_mis T.toTy mz mk ⟨false, by rw [decide_eq_true (eqM_lk.mpr e7)]; rfl, iteF ?_⟩⟩
      clear mz e7
      -- thirteen letters
      refine ⟨tb7, fun H8 e8 tb8 R1 H9 r1 s9 => ⟨_, rfl, rfl, mL, mL, by rw [eM], by decide, by decide, fun c h => h, by decide, fun m1 H10 nm mm s10 => or_mis ((mk.ext e8).same (Same.trans s9 s10)) mm ⟨fun c3 e3 => ?_, fun e3 n3 => fun d H11 nd s11 hd => ⟨d, rfl, .inr (.inr ⟨rfl, _, _, hd, fun tt H12 s12 ht => ⟨by show 2 ≤ sizeLine; decide, fun t4 n4 => ?_⟩⟩)⟩, fun e3 n3 => ?_⟩⟩⟩
      · rw [show cfl (toldT kL []) (toldT mL []) = none from by decide +kernel] at e3
        cases e3
      rotate_left
      · exact absurd n3 (by decide +kernel)
      have s13 : Same H12 (upd H12 t4 (.tup [.str "letters", .int 12])) := same_put (s := Same.refl _) n4
      refine ne_same (d := .tuple [.str "letters", .int 12]) (.tup (.inl (.inl (s13 _ _ ht))) (.cons (.str _) (.cons (.int _) .nil))) (.tup (.inl (.inl upd_same)) (.cons (.str _) (.cons (.int _) .nil))) (by decide +kernel) ⟨false, rfl, iteF ?_⟩
      have tb13 : Tabs TL (upd H12 t4 (.tup [.str "letters", .int 12])) := tb8.ext (Same.trans s9 (Same.trans s10 (Same.trans s11 (Same.trans s12 s13))))
      generalize upd H12 t4 (.tup [.str "letters", .int 12]) = H13 at tb13 ⊢
      clear s13 ht n4 s12 hd s11 nd s10 mm nm s9 r1 tb8 e8 mk tb7
      refine nextS ?_
      try dsimp only
      -- unlike
      have c12 : ∀ c ∈ abc, isLt c := fun c hc => abc_mem.mp hc
      refine ⟨tb13, fun H14 e14 tb14 R1 H15 r1 s15 => fun p1 np1 => ?_⟩
      have ez : ("z" : Str) = L1 122 := by decide +kernel
      have eb : ("b" : Str) = L1 98 := by decide +kernel
      have ea : ("a" : Str) = Sx [97] := by decide +kernel
      have eb' : ("b" : Str) = Sx [98] := by decide +kernel
      have n1 : mergeK [] (encT zL) = encT zL := by
        have e : mergeK [] (encT zL) = encT (mergeT [] zL) := mergeK_enc _ []
        rw [e, mergeT_nil (by decide)]
      have n2 : mergeK [] (encT yL) = encT yL := by
        have e : mergeK [] (encT yL) = encT (mergeT [] yL) := mergeK_enc _ []
        rw [e, mergeT_nil (by decide)]
      refine ⟨upd_same, encT zL, ?_, by decide, p1, abc, [], zL, rfl, by rw [upd_same, n1], zGood, ⟨by decide, by rw [abc_len]; omega⟩, c12, fun c h => (nomatch h), by decide, fun m1 H16 nm1 mm1 s16 => ?_⟩
      · show [(V.str "z", V.str "a"), (V.str "b", V.str "b")] = [(V.str (L1 122), V.str (Sx [97])), (V.str (L1 98), V.str (Sx [98]))]
        rw [← ez, ← ea, ← eb, ← eb']
      have m1' : MisAt CM H16 m1 zL := mm1.mis
      clear mm1 s16 nm1
      refine fun p2 np2 => ⟨upd_same, encT yL, ?_, by decide, p2, abc, [], yL, rfl, by rw [upd_same, n2], yGood, ⟨by decide, by rw [abc_len]; omega⟩, c12, fun c h => (nomatch h), by decide, fun m2 H17 nm2 mm2 s17 => ?_⟩
      · show [(V.str "z", V.str "b"), (V.str "b", V.str "a")] = [(V.str (L1 122), V.str (Sx [98])), (V.str (L1 98), V.str (Sx [97]))]
        rw [← ez, ← ea, ← eb', ← eb]
      have m2' : MisAt CM H17 m2 yL := mm2.mis
      have m1'' : MisAt CM H17 m1 zL := by
        refine MisAt.same (H := upd (upd H16 p2 (.dK [])) p2 (.dK (mergeK [] (encT yL)))) (m1'.same ?_) s17
        exact fun b o e => by
          rw [upd_ne (ne_of_none e np2), upd_ne (ne_of_none e np2)]
          exact e
      refine or_mis m1'' m2' ⟨fun c3 e3 => ?_, fun e3 n3 => ?_, fun e3 n3 => ?_⟩
      · rw [show cfl zL yL = some 98 from by decide +kernel] at e3
        cases e3
        refine fun d H18 nd s18 hd => ⟨d, rfl, .inr (.inl ⟨rfl, _, hd, fun tt H19 s19 ht => ⟨by show 2 ≤ sizeLine; decide, fun t4 n4 => ?_⟩⟩)⟩
        have s20 : Same H19 (upd H19 t4 (.tup [.str "unlike", .str "b"])) := same_put (s := Same.refl _) n4
        refine ⟨.tuple [.str "unlike", .str (L1 98)], .tuple [.str "unlike", .str "b"], .tup (.inl (.inl (s20 _ _ ht))) (.cons (.str _) (.cons (.str _) .nil)), .tup (.inl (.inl upd_same)) (.cons (.str _) (.cons (.str _) .nil)), by decide +kernel, by decide +kernel, ?_⟩
        rw [show PyData.eqv (.tuple [.str "unlike", .str (L1 98)]) (.tuple [.str "unlike", .str "b"]) = true from by decide +kernel]
        exact q _
      · rw [show cfl zL yL = some 98 from by decide +kernel] at e3
        cases e3
      · rw [show cfl zL yL = some 98 from by decide +kernel] at e3
        cases e3
end
end V8

set_option Elab.async false
set_option linter.all false
set_option maxRecDepth 100000
set_option maxHeartbeats 16000000
/-! What the top has left, taken together. -/
namespace V8
open PySem PySem.Spec PyProof.Rows L2 LamX
theorem exm_of {K : PySem.W.Frag} {S R : Addr} (h1 : PySem.W.subIn K (.ref R) (.type "BaseException") = some true) (h2 : PySem.W.isClsIn K R = true) (h3 : PySem.W.typeIn K (.ref R) = some (.type "type")) (h4 : PySem.W.subIn K (.ref S) (.ref R) = some true) : PySem.W.exmOne K (.ref S) (.ref R) = some true := by
  unfold PySem.W.isClsIn at h2
  unfold PySem.W.exmOne
  rw [h1, if_pos (show (some true == some true) = true from rfl)]
  unfold PySem.W.kitCls
  dsimp only
  rw [h2, h3, if_pos (show (true && (some (Value.type "type") == some (Value.type "type"))) = true by decide +kernel), h4]
/-- the names of the lambdas, by their tables -/
def TLs (p1 p2 : Addr) : List (Addr × Str) := [(p1, (("_law_joined_right" : Str) ++ ".<locals>.") ++ "<lambda>"), (p2, (("law" : Str) ++ ".<locals>.") ++ "<lambda>")]
theorem all_mk {l : PySem.W.OpenLaw} {w : World} {K : PySem.W.Frag} {fa : Addr} {h : Heap} {mg : Str → Option Value} {CM CJ CB CU CT CR NB NU NT q1 q2 p1 p2 f0 f1 f2 f3 f4 f5 f6 f7 f8 f9 f10 f11 f12 f13 f14 f15 f16 f17 f18 f19 f20 f21 f22 f23 f24 f25 f26 f27 f28 f29 f30 f31 f32 f33 f34 f35 TI pS : Addr} {od0 od1 od2 od3 od4 od5 od6 od7 od8 od9 od10 od11 od12 od13 od14 od15 od16 od17 od18 od19 od20 od21 od22 od23 od24 od25 od26 od27 od28 od29 od30 od31 od32 od33 od34 od35 odT qd1 qd2 : Option Addr} {an0 an1 an2 an3 an4 an5 an6 an7 an8 an9 an10 an11 an12 an13 an14 an15 an16 an17 an18 an19 an20 an21 an22 an23 an24 an25 an26 an27 an28 an29 an30 an31 an32 an33 an34 an35 : Option Addr} {sl0 sl1 sl2 sl3 sl4 sl5 sl6 sl7 sl8 sl9 sl10 sl11 sl12 sl13 sl14 sl15 sl16 sl17 sl18 sl19 sl20 sl21 sl22 sl23 sl24 sl25 sl26 sl27 sl28 sl29 sl30 sl31 sl32 sl33 sl34 sl35 slT qs1 qs2 : Array (Option Value)} {oc0 kV0 dc0 pm0 cd0 ct0 oc1 kV1 dc1 pm1 cd1 ct1 oc2 kV2 dc2 pm2 cd2 ct2 oc3 kV3 dc3 pm3 cd3 ct3 oc4 kV4 dc4 pm4 cd4 ct4 oc5 kV5 dc5 pm5 cd5 ct5 oc6 kV6 dc6 pm6 cd6 ct6 oc7 kV7 dc7 pm7 cd7 ct7 oc8 kV8 dc8 pm8 cd8 ct8 oc9 kV9 dc9 pm9 cd9 ct9 oc10 kV10 dc10 pm10 cd10 ct10 oc11 kV11 dc11 pm11 cd11 ct11 oc12 kV12 dc12 pm12 cd12 ct12 oc13 kV13 dc13 pm13 cd13 ct13 oc14 kV14 dc14 pm14 cd14 ct14 oc15 kV15 dc15 pm15 cd15 ct15 oc16 kV16 dc16 pm16 cd16 ct16 oc17 kV17 dc17 pm17 cd17 ct17 oc18 kV18 dc18 pm18 ct18 oc19 kV19 dc19 pm19 ct19 oc20 kV20 dc20 pm20 cd20 ct20 oc21 kV21 dc21 pm21 cd21 ct21 oc22 kV22 dc22 pm22 cd22 ct22 oc23 kV23 dc23 pm23 cd23 ct23 oc24 kV24 dc24 pm24 cd24 ct24 oc25 kV25 dc25 pm25 cd25 ct25 oc26 kV26 dc26 pm26 cd26 ct26 oc27 kV27 dc27 pm27 cd27 ct27 oc28 kV28 dc28 pm28 cd28 ct28 oc29 kV29 dc29 pm29 cd29 ct29 oc30 kV30 dc30 pm30 cd30 ct30 oc31 kV31 dc31 pm31 cd31 ct31 oc32 kV32 dc32 pm32 cd32 ct32 oc33 kV33 dc33 pm33 cd33 ct33 oc34 kV34 dc34 pm34 cd34 ct34 oc35 kV35 dc35 pm35 cd35 ct35 ocT : Value} {vs1 vs2 : Array Value} {restS bsB subB bsU subU bsT subT : List Value} {nT : Nat} {tkT tk1 tk2 tk3 tk4 tk5 qt1 qt2 qm1 qm2 qy1 qy2 : Tok} {ql1 ql2 qx1 qx2 : Int} {qi1 qi2 : Bool} {qf1 qf2 nmB qB nmU qU nmT qT : Str} {snB snU snT : List Str} {abB abU abT : Bool} {colB colU colT : Option Bool} {ddB ddU ddT : Option Addr} {mB0 mB1 mB2 mB3 mB5 mU0 mU1 mU2 mU3 mU5 mT0 mT1 mT2 mT3 mT5 poI roI fo_NoneType ro_NoneType fo_int ro_int fo_str ro_str fo_bool ro_bool fo_dict ro_dict fo_list ro_list fo_tuple ro_tuple : Option Value} {cdM : ClassData} (X : K.In h) (G : h.Ns mainGlobals mg) (hfa : mg "law" = some (.ref fa)) (own : OwnTab K fa h) (own2 : ∀ fb, mg "_law_joined_right" = some (.ref fb) → OwnTab K fb h)
    (aC : PySem.W.nsIn K mainGlobals "Misreading" = some (some (.ref CM)))
    (aJ : PySem.W.nsIn K mainGlobals "Joined" = some (some (.ref CJ)))
    (aB : PySem.W.nsIn K mainGlobals "BadTable" = some (some (.ref CB)))
    (aU : PySem.W.nsIn K mainGlobals "Unlike" = some (some (.ref CU)))
    (aT : PySem.W.nsIn K mainGlobals "TooMany" = some (some (.ref CT)))
    (aR : PySem.W.nsIn K mainGlobals "RepairError" = some (some (.ref CR)))
    (a0 : PySem.W.nsIn K mainGlobals "copied" = some (some (.ref f0)))
    (l0 : K.lookup f0 = some ⟨oc0, od0, .func (PySem.W.fnOf "copied" "copied" (defArgs s_copied) (defBody s_copied) (defScope s_copied) .none kV0 dc0 pm0 an0 cd0 ct0), sl0⟩) (c0 : PySem.W.codeIn K cd0 "copied" = true) (k0 : PySem.W.keepIn K (.ref f0) = true)
    (a1 : PySem.W.nsIn K mainGlobals "is_letter" = some (some (.ref f1)))
    (l1 : K.lookup f1 = some ⟨oc1, od1, .func (PySem.W.fnOf "is_letter" "is_letter" (defArgs s_is_letter) (defBody s_is_letter) (defScope s_is_letter) .none kV1 dc1 pm1 an1 cd1 ct1), sl1⟩) (c1 : PySem.W.codeIn K cd1 "is_letter" = true) (k1 : PySem.W.keepIn K (.ref f1) = true)
    (a2 : PySem.W.nsIn K mainGlobals "all_letters" = some (some (.ref f2)))
    (l2 : K.lookup f2 = some ⟨oc2, od2, .func (PySem.W.fnOf "all_letters" "all_letters" (defArgs s_all_letters) (defBody s_all_letters) (defScope s_all_letters) .none kV2 dc2 pm2 an2 cd2 ct2), sl2⟩) (c2 : PySem.W.codeIn K cd2 "all_letters" = true) (k2 : PySem.W.keepIn K (.ref f2) = true)
    (a3 : PySem.W.nsIn K mainGlobals "is_text" = some (some (.ref f3)))
    (l3 : K.lookup f3 = some ⟨oc3, od3, .func (PySem.W.fnOf "is_text" "is_text" (defArgs s_is_text) (defBody s_is_text) (defScope s_is_text) .none kV3 dc3 pm3 an3 cd3 ct3), sl3⟩) (c3 : PySem.W.codeIn K cd3 "is_text" = true) (k3 : PySem.W.keepIn K (.ref f3) = true)
    (a4 : PySem.W.nsIn K mainGlobals "is_image" = some (some (.ref f4)))
    (l4 : K.lookup f4 = some ⟨oc4, od4, .func (PySem.W.fnOf "is_image" "is_image" (defArgs s_is_image) (defBody s_is_image) (defScope s_is_image) .none kV4 dc4 pm4 an4 cd4 ct4), sl4⟩) (c4 : PySem.W.codeIn K cd4 "is_image" = true) (k4 : PySem.W.keepIn K (.ref f4) = true)
    (a5 : PySem.W.nsIn K mainGlobals "told_images" = some (some (.ref f5)))
    (l5 : K.lookup f5 = some ⟨oc5, od5, .func (PySem.W.fnOf "told_images" "told_images" (defArgs s_told_images) (defBody s_told_images) (defScope s_told_images) .none kV5 dc5 pm5 an5 cd5 ct5), sl5⟩) (c5 : PySem.W.codeIn K cd5 "told_images" = true) (k5 : PySem.W.keepIn K (.ref f5) = true)
    (a6 : PySem.W.nsIn K mainGlobals "check_other" = some (some (.ref f6)))
    (l6 : K.lookup f6 = some ⟨oc6, od6, .func (PySem.W.fnOf "check_other" "check_other" (defArgs s_check_other) (defBody s_check_other) (defScope s_check_other) .none kV6 dc6 pm6 an6 cd6 ct6), sl6⟩) (c6 : PySem.W.codeIn K cd6 "check_other" = true) (k6 : PySem.W.keepIn K (.ref f6) = true)
    (a7 : PySem.W.nsIn K mainGlobals "_law_pen" = some (some (.ref f7)))
    (l7 : K.lookup f7 = some ⟨oc7, od7, .func (PySem.W.fnOf "_law_pen" "_law_pen" (defArgs s_pen) (defBody s_pen) (defScope s_pen) .none kV7 dc7 pm7 an7 cd7 ct7), sl7⟩) (c7 : PySem.W.codeIn K cd7 "_law_pen" = true) (k7 : PySem.W.keepIn K (.ref f7) = true)
    (a8 : PySem.W.nsIn K mainGlobals "_law_draw" = some (some (.ref f8)))
    (l8 : K.lookup f8 = some ⟨oc8, od8, .func (PySem.W.fnOf "_law_draw" "_law_draw" (defArgs s_draw) (defBody s_draw) (defScope s_draw) .none kV8 dc8 pm8 an8 cd8 ct8), sl8⟩) (c8 : PySem.W.codeIn K cd8 "_law_draw" = true) (k8 : PySem.W.keepIn K (.ref f8) = true)
    (a9 : PySem.W.nsIn K mainGlobals "_law_pick" = some (some (.ref f9)))
    (l9 : K.lookup f9 = some ⟨oc9, od9, .func (PySem.W.fnOf "_law_pick" "_law_pick" (defArgs s_pick) (defBody s_pick) (defScope s_pick) .none kV9 dc9 pm9 an9 cd9 ct9), sl9⟩) (c9 : PySem.W.codeIn K cd9 "_law_pick" = true) (k9 : PySem.W.keepIn K (.ref f9) = true)
    (a10 : PySem.W.nsIn K mainGlobals "_law_some_letters" = some (some (.ref f10)))
    (l10 : K.lookup f10 = some ⟨oc10, od10, .func (PySem.W.fnOf "_law_some_letters" "_law_some_letters" (defArgs s_some_letters) (defBody s_some_letters) (defScope s_some_letters) .none kV10 dc10 pm10 an10 cd10 ct10), sl10⟩) (c10 : PySem.W.codeIn K cd10 "_law_some_letters" = true) (k10 : PySem.W.keepIn K (.ref f10) = true)
    (a11 : PySem.W.nsIn K mainGlobals "_law_escaped" = some (some (.ref f11)))
    (l11 : K.lookup f11 = some ⟨oc11, od11, .func (PySem.W.fnOf "_law_escaped" "_law_escaped" (defArgs s_escaped) (defBody s_escaped) (defScope s_escaped) .none kV11 dc11 pm11 an11 cd11 ct11), sl11⟩) (c11 : PySem.W.codeIn K cd11 "_law_escaped" = true) (k11 : PySem.W.keepIn K (.ref f11) = true)
    (a12 : PySem.W.nsIn K mainGlobals "_law_any_image" = some (some (.ref f12)))
    (l12 : K.lookup f12 = some ⟨oc12, od12, .func (PySem.W.fnOf "_law_any_image" "_law_any_image" (defArgs s_any_image) (defBody s_any_image) (defScope s_any_image) .none kV12 dc12 pm12 an12 cd12 ct12), sl12⟩) (c12 : PySem.W.codeIn K cd12 "_law_any_image" = true) (k12 : PySem.W.keepIn K (.ref f12) = true)
    (a13 : PySem.W.nsIn K mainGlobals "_law_table" = some (some (.ref f13)))
    (l13 : K.lookup f13 = some ⟨oc13, od13, .func (PySem.W.fnOf "_law_table" "_law_table" (defArgs s_table) (defBody s_table) (defScope s_table) .none kV13 dc13 pm13 an13 cd13 ct13), sl13⟩) (c13 : PySem.W.codeIn K cd13 "_law_table" = true) (k13 : PySem.W.keepIn K (.ref f13) = true)
    (a14 : PySem.W.nsIn K mainGlobals "_law_heard" = some (some (.ref f14)))
    (l14 : K.lookup f14 = some ⟨oc14, od14, .func (PySem.W.fnOf "_law_heard" "_law_heard" (defArgs s_heard) (defBody s_heard) (defScope s_heard) .none kV14 dc14 pm14 an14 cd14 ct14), sl14⟩) (c14 : PySem.W.codeIn K cd14 "_law_heard" = true) (k14 : PySem.W.keepIn K (.ref f14) = true)
    (a15 : PySem.W.nsIn K mainGlobals "_law_due" = some (some (.ref f15)))
    (l15 : K.lookup f15 = some ⟨oc15, od15, .func (PySem.W.fnOf "_law_due" "_law_due" (defArgs s_due) (defBody s_due) (defScope s_due) .none kV15 dc15 pm15 an15 cd15 ct15), sl15⟩) (c15 : PySem.W.codeIn K cd15 "_law_due" = true) (k15 : PySem.W.keepIn K (.ref f15) = true)
    (a16 : PySem.W.nsIn K mainGlobals "_law_text" = some (some (.ref f16)))
    (l16 : K.lookup f16 = some ⟨oc16, od16, .func (PySem.W.fnOf "_law_text" "_law_text" (defArgs s_text) (defBody s_text) (defScope s_text) .none kV16 dc16 pm16 an16 cd16 ct16), sl16⟩) (c16 : PySem.W.codeIn K cd16 "_law_text" = true) (k16 : PySem.W.keepIn K (.ref f16) = true)
    (a17 : PySem.W.nsIn K mainGlobals "_law_near" = some (some (.ref f17)))
    (l17 : K.lookup f17 = some ⟨oc17, od17, .func (PySem.W.fnOf "_law_near" "_law_near" (defArgs s_near) (defBody s_near) (defScope s_near) .none kV17 dc17 pm17 an17 cd17 ct17), sl17⟩) (c17 : PySem.W.codeIn K cd17 "_law_near" = true) (k17 : PySem.W.keepIn K (.ref f17) = true)
    (a18 : PySem.W.nsIn K mainGlobals "_law_joined_right" = some (some (.ref f18)))
    (l18 : K.lookup f18 = some ⟨oc18, od18, .func (PySem.W.fnOf "_law_joined_right" "_law_joined_right" (defArgs s_joined_right) (defBody s_joined_right) (defScope s_joined_right) .none kV18 dc18 pm18 an18 (.ref q1) ct18), sl18⟩) (c18 : PySem.W.codeIn K (.ref q1) "_law_joined_right" = true) (k18 : PySem.W.keepIn K (.ref f18) = true)
    (a19 : PySem.W.nsIn K mainGlobals "law" = some (some (.ref f19)))
    (l19 : K.lookup f19 = some ⟨oc19, od19, .func (PySem.W.fnOf "law" "law" (defArgs s_law) (defBody s_law) (defScope s_law) .none kV19 dc19 pm19 an19 (.ref q2) ct19), sl19⟩) (c19 : PySem.W.codeIn K (.ref q2) "law" = true) (k19 : PySem.W.keepIn K (.ref f19) = true)
    (a20 : PySem.W.findIn K (.ref CM) "__contains__" = some (some (.ref f20)))
    (i20 : PySem.W.isFn K (.ref f20) = true)
    (l20 : K.lookup f20 = some ⟨oc20, od20, .func (PySem.W.fnOf "__contains__" "Misreading.__contains__" (defArgs s_Misreading_contains) (defBody s_Misreading_contains) (defScope s_Misreading_contains) .none kV20 dc20 pm20 an20 cd20 ct20), sl20⟩) (c20 : PySem.W.codeIn K cd20 "Misreading.__contains__" = true) (k20 : PySem.W.keepIn K (.ref f20) = true)
    (n20 : PySem.W.fnIn K f20 = true)
    (a21 : PySem.W.findIn K (.ref CM) "__iter__" = some (some (.ref f21)))
    (i21 : PySem.W.isFn K (.ref f21) = true)
    (l21 : K.lookup f21 = some ⟨oc21, od21, .func (PySem.W.fnOf "__iter__" "Misreading.__iter__" (defArgs s_Misreading_iter) (defBody s_Misreading_iter) (defScope s_Misreading_iter) .none kV21 dc21 pm21 an21 cd21 ct21), sl21⟩) (c21 : PySem.W.codeIn K cd21 "Misreading.__iter__" = true) (k21 : PySem.W.keepIn K (.ref f21) = true)
    (n21 : PySem.W.fnIn K f21 = true)
    (a22 : PySem.W.findIn K (.ref CM) "__getitem__" = some (some (.ref f22)))
    (i22 : PySem.W.isFn K (.ref f22) = true)
    (l22 : K.lookup f22 = some ⟨oc22, od22, .func (PySem.W.fnOf "__getitem__" "Misreading.__getitem__" (defArgs s_Misreading_getitem) (defBody s_Misreading_getitem) (defScope s_Misreading_getitem) .none kV22 dc22 pm22 an22 cd22 ct22), sl22⟩) (c22 : PySem.W.codeIn K cd22 "Misreading.__getitem__" = true) (k22 : PySem.W.keepIn K (.ref f22) = true)
    (n22 : PySem.W.fnIn K f22 = true)
    (a23 : PySem.W.findIn K (.ref CM) "first_barred" = some (some (.ref f23)))
    (i23 : PySem.W.isFn K (.ref f23) = true)
    (l23 : K.lookup f23 = some ⟨oc23, od23, .func (PySem.W.fnOf "first_barred" "Misreading.first_barred" (defArgs s_Misreading_first_barred) (defBody s_Misreading_first_barred) (defScope s_Misreading_first_barred) .none kV23 dc23 pm23 an23 cd23 ct23), sl23⟩) (c23 : PySem.W.codeIn K cd23 "Misreading.first_barred" = true) (k23 : PySem.W.keepIn K (.ref f23) = true)
    (n23 : PySem.W.fnIn K f23 = true)
    (a24 : PySem.W.findIn K (.ref CM) "image" = some (some (.ref f24)))
    (i24 : PySem.W.isFn K (.ref f24) = true)
    (l24 : K.lookup f24 = some ⟨oc24, od24, .func (PySem.W.fnOf "image" "Misreading.image" (defArgs s_Misreading_image) (defBody s_Misreading_image) (defScope s_Misreading_image) .none kV24 dc24 pm24 an24 cd24 ct24), sl24⟩) (c24 : PySem.W.codeIn K cd24 "Misreading.image" = true) (k24 : PySem.W.keepIn K (.ref f24) = true)
    (n24 : PySem.W.fnIn K f24 = true)
    (a25 : PySem.W.findIn K (.ref CM) "__rshift__" = some (some (.ref f25)))
    (i25 : PySem.W.isFn K (.ref f25) = true)
    (l25 : K.lookup f25 = some ⟨oc25, od25, .func (PySem.W.fnOf "__rshift__" "Misreading.__rshift__" (defArgs s_Misreading_rshift) (defBody s_Misreading_rshift) (defScope s_Misreading_rshift) .none kV25 dc25 pm25 an25 cd25 ct25), sl25⟩) (c25 : PySem.W.codeIn K cd25 "Misreading.__rshift__" = true) (k25 : PySem.W.keepIn K (.ref f25) = true)
    (n25 : PySem.W.fnIn K f25 = true)
    (a26 : PySem.W.findIn K (.ref CM) "__or__" = some (some (.ref f26)))
    (i26 : PySem.W.isFn K (.ref f26) = true)
    (l26 : K.lookup f26 = some ⟨oc26, od26, .func (PySem.W.fnOf "__or__" "Misreading.__or__" (defArgs s_Misreading_or) (defBody s_Misreading_or) (defScope s_Misreading_or) .none kV26 dc26 pm26 an26 cd26 ct26), sl26⟩) (c26 : PySem.W.codeIn K cd26 "Misreading.__or__" = true) (k26 : PySem.W.keepIn K (.ref f26) = true)
    (n26 : PySem.W.fnIn K f26 = true)
    (a27 : PySem.W.findIn K (.ref CM) "__le__" = some (some (.ref f27)))
    (i27 : PySem.W.isFn K (.ref f27) = true)
    (l27 : K.lookup f27 = some ⟨oc27, od27, .func (PySem.W.fnOf "__le__" "Misreading.__le__" (defArgs s_Misreading_le) (defBody s_Misreading_le) (defScope s_Misreading_le) .none kV27 dc27 pm27 an27 cd27 ct27), sl27⟩) (c27 : PySem.W.codeIn K cd27 "Misreading.__le__" = true) (k27 : PySem.W.keepIn K (.ref f27) = true)
    (n27 : PySem.W.fnIn K f27 = true)
    (a28 : PySem.W.findIn K (.ref CM) "__eq__" = some (some (.ref f28)))
    (i28 : PySem.W.isFn K (.ref f28) = true)
    (l28 : K.lookup f28 = some ⟨oc28, od28, .func (PySem.W.fnOf "__eq__" "Misreading.__eq__" (defArgs s_Misreading_eq) (defBody s_Misreading_eq) (defScope s_Misreading_eq) .none kV28 dc28 pm28 an28 cd28 ct28), sl28⟩) (c28 : PySem.W.codeIn K cd28 "Misreading.__eq__" = true) (k28 : PySem.W.keepIn K (.ref f28) = true)
    (n28 : PySem.W.fnIn K f28 = true)
    (a29 : PySem.W.findIn K (.ref CM) "__str__" = some (some (.ref f29)))
    (i29 : PySem.W.isFn K (.ref f29) = true)
    (l29 : K.lookup f29 = some ⟨oc29, od29, .func (PySem.W.fnOf "__str__" "Misreading.__str__" (defArgs s_Misreading_str) (defBody s_Misreading_str) (defScope s_Misreading_str) .none kV29 dc29 pm29 an29 cd29 ct29), sl29⟩) (c29 : PySem.W.codeIn K cd29 "Misreading.__str__" = true) (k29 : PySem.W.keepIn K (.ref f29) = true)
    (n29 : PySem.W.fnIn K f29 = true)
    (a30 : PySem.W.findIn K (.ref CM) "__init__" = some (some (.ref f30)))
    (i30 : PySem.W.isFn K (.ref f30) = true)
    (l30 : K.lookup f30 = some ⟨oc30, od30, .func (PySem.W.fnOf "__init__" "Misreading.__init__" (defArgs s_Misreading_init) (defBody s_Misreading_init) (defScope s_Misreading_init) (.ref TI) kV30 dc30 pm30 an30 cd30 ct30), sl30⟩) (c30 : PySem.W.codeIn K cd30 "Misreading.__init__" = true) (k30 : PySem.W.keepIn K (.ref f30) = true)
    (tI : K.lookup TI = some ⟨ocT, odT, .seq #[.str "" tkT] nT, slT⟩)
    (sC : PySem.W.findCls K (.ref CM) (.type "type") "same" = some (.get (.builtin "staticmethod.__get__") (.ref pS) .none (.ref CM)))
    (sR : PySem.W.recIn K pS "staticmethod" = some (.ref f31 :: restS))
    (l31 : K.lookup f31 = some ⟨oc31, od31, .func (PySem.W.fnOf "same" "Misreading.same" (defArgs s_Misreading_same) (defBody s_Misreading_same) (defScope s_Misreading_same) .none kV31 dc31 pm31 an31 cd31 ct31), sl31⟩) (c31 : PySem.W.codeIn K cd31 "Misreading.same" = true) (k31 : PySem.W.keepIn K (.ref f31) = true)
    (a32 : PySem.W.findIn K (.ref CJ) "__init__" = some (some (.ref f32)))
    (i32 : PySem.W.isFn K (.ref f32) = true)
    (l32 : K.lookup f32 = some ⟨oc32, od32, .func (PySem.W.fnOf "__init__" "Joined.__init__" (defArgs s_Joined_init) (defBody s_Joined_init) (defScope s_Joined_init) .none kV32 dc32 pm32 an32 cd32 ct32), sl32⟩) (c32 : PySem.W.codeIn K cd32 "Joined.__init__" = true) (k32 : PySem.W.keepIn K (.ref f32) = true)
    (a33 : PySem.W.findIn K (.ref CB) "__init__" = some (some (.ref f33)))
    (y33 : PySem.W.typeIn K (.ref f33) = some (.type "function"))
    (l33 : K.lookup f33 = some ⟨oc33, od33, .func (PySem.W.fnOf "__init__" "BadTable.__init__" (defArgs s_BadTable_init) (defBody s_BadTable_init) (defScope s_BadTable_init) .none kV33 dc33 pm33 an33 cd33 ct33), sl33⟩) (c33 : PySem.W.codeIn K cd33 "BadTable.__init__" = true) (k33 : PySem.W.keepIn K (.ref f33) = true)
    (a34 : PySem.W.findIn K (.ref CU) "__init__" = some (some (.ref f34)))
    (y34 : PySem.W.typeIn K (.ref f34) = some (.type "function"))
    (l34 : K.lookup f34 = some ⟨oc34, od34, .func (PySem.W.fnOf "__init__" "Unlike.__init__" (defArgs s_Unlike_init) (defBody s_Unlike_init) (defScope s_Unlike_init) .none kV34 dc34 pm34 an34 cd34 ct34), sl34⟩) (c34 : PySem.W.codeIn K cd34 "Unlike.__init__" = true) (k34 : PySem.W.keepIn K (.ref f34) = true)
    (a35 : PySem.W.findIn K (.ref CT) "__init__" = some (some (.ref f35)))
    (y35 : PySem.W.typeIn K (.ref f35) = some (.type "function"))
    (l35 : K.lookup f35 = some ⟨oc35, od35, .func (PySem.W.fnOf "__init__" "TooMany.__init__" (defArgs s_TooMany_init) (defBody s_TooMany_init) (defScope s_TooMany_init) .none kV35 dc35 pm35 an35 cd35 ct35), sl35⟩) (c35 : PySem.W.codeIn K cd35 "TooMany.__init__" = true) (k35 : PySem.W.keepIn K (.ref f35) = true)
    (xB : K.lookup CB = some (excClassObj nmB qB CB NB bsB [.ref CR, .type "ValueError", .type "Exception", .type "BaseException", .type "object"] true snB subB abB colB ddB mB0 mB1 mB2 mB3 mB5 "ValueError.__new__"))
    (sB : PySem.W.findIn K (.ref CB) "__setattr__" = some (some (.builtin "object.__setattr__")))
    (eB : PySem.W.subIn K (.ref CB) (.type "BaseException") = some true)
    (tyB : PySem.W.typeIn K (.ref CB) = some (.type "type"))
    (kB : PySem.W.keepIn K (.ref CB) = true)
    (hgB : PySem.W.findIn K (.ref CB) "__getattribute__" = some (some (.builtin "BaseException.__getattribute__")))
    (hkB : PySem.W.findIn K (.ref CB) "__getattr__" = some none)
    (hdB : PySem.W.hasDictIn K CB = true)
    (haB : PySem.W.findIn K (.ref CB) "__class__" = some (some (.builtin "object.__class__")))
    (hmB : PySem.W.mroIn K CB (.type "object") = some true)
    (srB : PySem.W.subIn K (.ref CB) (.ref CR) = some true)
    (xU : K.lookup CU = some (excClassObj nmU qU CU NU bsU [.ref CR, .type "ValueError", .type "Exception", .type "BaseException", .type "object"] true snU subU abU colU ddU mU0 mU1 mU2 mU3 mU5 "ValueError.__new__"))
    (sU : PySem.W.findIn K (.ref CU) "__setattr__" = some (some (.builtin "object.__setattr__")))
    (eU : PySem.W.subIn K (.ref CU) (.type "BaseException") = some true)
    (tyU : PySem.W.typeIn K (.ref CU) = some (.type "type"))
    (kU : PySem.W.keepIn K (.ref CU) = true)
    (hgU : PySem.W.findIn K (.ref CU) "__getattribute__" = some (some (.builtin "BaseException.__getattribute__")))
    (hkU : PySem.W.findIn K (.ref CU) "__getattr__" = some none)
    (hdU : PySem.W.hasDictIn K CU = true)
    (haU : PySem.W.findIn K (.ref CU) "__class__" = some (some (.builtin "object.__class__")))
    (hmU : PySem.W.mroIn K CU (.type "object") = some true)
    (srU : PySem.W.subIn K (.ref CU) (.ref CR) = some true)
    (xT : K.lookup CT = some (excClassObj nmT qT CT NT bsT [.ref CR, .type "ValueError", .type "Exception", .type "BaseException", .type "object"] true snT subT abT colT ddT mT0 mT1 mT2 mT3 mT5 "ValueError.__new__"))
    (sT : PySem.W.findIn K (.ref CT) "__setattr__" = some (some (.builtin "object.__setattr__")))
    (eT : PySem.W.subIn K (.ref CT) (.type "BaseException") = some true)
    (tyT : PySem.W.typeIn K (.ref CT) = some (.type "type"))
    (kT : PySem.W.keepIn K (.ref CT) = true)
    (hgT : PySem.W.findIn K (.ref CT) "__getattribute__" = some (some (.builtin "BaseException.__getattribute__")))
    (hkT : PySem.W.findIn K (.ref CT) "__getattr__" = some none)
    (hdT : PySem.W.hasDictIn K CT = true)
    (haT : PySem.W.findIn K (.ref CT) "__class__" = some (some (.builtin "object.__class__")))
    (hmT : PySem.W.mroIn K CT (.type "object") = some true)
    (srT : PySem.W.subIn K (.ref CT) (.ref CR) = some true)
    (nB : PySem.W.findIn K (.ref CB) "part" = some none)
    (nU : PySem.W.findIn K (.ref CU) "letter" = some none)
    (nT1 : PySem.W.findIn K (.ref CT) "what" = some none)
    (nT2 : PySem.W.findIn K (.ref CT) "most" = some none)
    (eR : PySem.W.subIn K (.ref CR) (.type "BaseException") = some true)
    (tyR : PySem.W.typeIn K (.ref CR) = some (.type "type"))
    (iR : PySem.W.isClsIn K CR = true)
    (rdR : PySem.W.readsIn K CR (.type "type") = true)
    (gaR : PySem.W.specialIn K (.ref CR) "__getattribute__" = some (some (.builtin "type.__getattribute__")))
    (vR : PySem.W.findCls K (.ref CR) (.type "type") "__init__" = some (.val (.builtin "ValueError.__init__")))
    (rd : PySem.W.readsIn K CM (.type "type") = true)
    (ga : PySem.W.specialIn K (.ref CM) "__getattribute__" = some (some (.builtin "type.__getattribute__")))
    (pg : PySem.W.plainGet K CM Str.empty = true)
    (hd : PySem.W.hasDictIn K CM = true)
    (po : PySem.W.plainOver K CM = true)
    (sa : PySem.W.findIn K (.ref CM) "__setattr__" = some (some (.builtin "object.__setattr__")))
    (mk : PySem.W.makesIn K CM = true)
    (kc : PySem.W.keepIn K (.ref CM) = true)
    (sf : PySem.W.selfFirst K CM = true)
    (nL : PySem.W.findIn K (.ref CM) "_letters" = some none)
    (nI : PySem.W.findIn K (.ref CM) "_images" = some none)
    (nC : PySem.W.findIn K (.ref CM) "changed" = some none)
    (tA : PySem.W.findIn K (.ref CM) "__class__" = some (some (.builtin "object.__class__")))
    (tB : PySem.W.specialIn K (.builtin "object.__class__") "__get__" = some (some (.builtin "getset_descriptor.__get__")))
    (tC : PySem.W.takesIn K (.builtin "object.__class__") = some true)
    (tD : PySem.W.mroIn K CM (.type "object") = some true)
    (ne : PySem.W.findIn K (.ref CM) "__ne__" = some (some (.builtin "object.__ne__")))
    (ge : PySem.W.findIn K (.ref CM) "__ge__" = some (some (.builtin "object.__ge__")))
    (ro : PySem.W.findIn K (.ref CM) "__ror__" = some none)
    (io : PySem.W.findIn K (.ref CM) "__ior__" = some none)
    (ci : PySem.W.clsIn K CM = some cdM)
    (cr : cdM.mro = [.ref CM, .type "object"])
    (rp : PySem.W.findIn K (.ref CM) "__rpow__" = some none)
    (h1 : PySem.W.findIn K (.type "int") "__pow__" = some poI)
    (h2 : PySem.W.findIn K (.type "int") "__rpow__" = some roI)
    (oo_NoneType : PySem.W.findIn K (.type "NoneType") "__or__" = some fo_NoneType)
    (or_NoneType : PySem.W.findIn K (.type "NoneType") "__ror__" = some ro_NoneType)
    (os_NoneType : PySem.W.subIn K (.type "NoneType") (.ref CM) = some false)
    (ow_NoneType : PySem.W.notFirst K CM (.type "NoneType") = true)
    (oo_int : PySem.W.findIn K (.type "int") "__or__" = some fo_int)
    (or_int : PySem.W.findIn K (.type "int") "__ror__" = some ro_int)
    (os_int : PySem.W.subIn K (.type "int") (.ref CM) = some false)
    (ow_int : PySem.W.notFirst K CM (.type "int") = true)
    (oo_str : PySem.W.findIn K (.type "str") "__or__" = some fo_str)
    (or_str : PySem.W.findIn K (.type "str") "__ror__" = some ro_str)
    (os_str : PySem.W.subIn K (.type "str") (.ref CM) = some false)
    (ow_str : PySem.W.notFirst K CM (.type "str") = true)
    (oo_bool : PySem.W.findIn K (.type "bool") "__or__" = some fo_bool)
    (or_bool : PySem.W.findIn K (.type "bool") "__ror__" = some ro_bool)
    (os_bool : PySem.W.subIn K (.type "bool") (.ref CM) = some false)
    (ow_bool : PySem.W.notFirst K CM (.type "bool") = true)
    (oo_dict : PySem.W.findIn K (.type "dict") "__or__" = some fo_dict)
    (or_dict : PySem.W.findIn K (.type "dict") "__ror__" = some ro_dict)
    (os_dict : PySem.W.subIn K (.type "dict") (.ref CM) = some false)
    (ow_dict : PySem.W.notFirst K CM (.type "dict") = true)
    (oo_list : PySem.W.findIn K (.type "list") "__or__" = some fo_list)
    (or_list : PySem.W.findIn K (.type "list") "__ror__" = some ro_list)
    (os_list : PySem.W.subIn K (.type "list") (.ref CM) = some false)
    (ow_list : PySem.W.notFirst K CM (.type "list") = true)
    (oo_tuple : PySem.W.findIn K (.type "tuple") "__or__" = some fo_tuple)
    (or_tuple : PySem.W.findIn K (.type "tuple") "__ror__" = some ro_tuple)
    (os_tuple : PySem.W.subIn K (.type "tuple") (.ref CM) = some false)
    (ow_tuple : PySem.W.notFirst K CM (.type "tuple") = true)
    (pgJ : PySem.W.plainGet K CJ Str.empty = true)
    (hdJ : PySem.W.hasDictIn K CJ = true)
    (poJ : PySem.W.plainOver K CJ = true)
    (saJ : PySem.W.findIn K (.ref CJ) "__setattr__" = some (some (.builtin "object.__setattr__")))
    (mkJ : PySem.W.makesIn K CJ = true)
    (kcJ : PySem.W.keepIn K (.ref CJ) = true)
    (nJ : PySem.W.findIn K (.ref CJ) "images" = some none)
    (jA : PySem.W.findIn K (.ref CJ) "__class__" = some (some (.builtin "object.__class__")))
    (jD : PySem.W.mroIn K CJ (.type "object") = some true)
    (ok_NoneType : PySem.W.kitOne K (.type "NoneType") (.ref CM) = some false)
    (ok_int : PySem.W.kitOne K (.type "int") (.ref CM) = some false)
    (ok_str : PySem.W.kitOne K (.type "str") (.ref CM) = some false)
    (ok_bool : PySem.W.kitOne K (.type "bool") (.ref CM) = some false)
    (ok_dict : PySem.W.kitOne K (.type "dict") (.ref CM) = some false)
    (ok_list : PySem.W.kitOne K (.type "list") (.ref CM) = some false)
    (ok_tuple : PySem.W.kitOne K (.type "tuple") (.ref CM) = some false)
    (kdJ : PySem.W.kitOne K (.type "dict") (.ref CJ) = some false)
    (kMM : PySem.W.kitOne K (.ref CM) (.ref CM) = some true)
    (kMJ : PySem.W.kitOne K (.ref CM) (.ref CJ) = some false)
    (kMs : PySem.W.kitOne K (.ref CM) (.type "str") = some false)
    (kls : PySem.W.kitOne K (.type "list") (.type "str") = some false)
    (kJJ : PySem.W.kitOne K (.ref CJ) (.ref CJ) = some true)
    (eBB : PySem.W.kitOne K (.ref CB) (.ref CB) = some true)
    (eUB : PySem.W.kitOne K (.ref CU) (.ref CB) = some false)
    (eUU : PySem.W.kitOne K (.ref CU) (.ref CU) = some true)
    (eTB : PySem.W.kitOne K (.ref CT) (.ref CB) = some false)
    (eTU : PySem.W.kitOne K (.ref CT) (.ref CU) = some false)
    (eTT : PySem.W.kitOne K (.ref CT) (.ref CT) = some true)
    (g1 : PySem.W.nsIn K mainGlobals "LETTERS" = some (some (.str "abcdefghijklmnopqrstuvwxyz" tk1)))
    (g2 : PySem.W.nsIn K mainGlobals "LONGEST" = some (some (.int 2000 tk2)))
    (g3 : PySem.W.nsIn K mainGlobals "LONGEST_TOLD" = some (some (.int 4 tk3)))
    (g4 : PySem.W.nsIn K mainGlobals "MOST_LETTERS" = some (some (.int 12 tk4)))
    (g5 : PySem.W.nsIn K mainGlobals "LONGEST_JOINED" = some (some (.int 64 tk5)))
    (z_list : PySem.W.nsIn K mainGlobals "list" = some none)
    (z_int : PySem.W.nsIn K mainGlobals "int" = some none)
    (z_len : PySem.W.nsIn K mainGlobals "len" = some none)
    (z_abs : PySem.W.nsIn K mainGlobals "abs" = some none)
    (z_range : PySem.W.nsIn K mainGlobals "range" = some none)
    (z_dict : PySem.W.nsIn K mainGlobals "dict" = some none)
    (z_str : PySem.W.nsIn K mainGlobals "str" = some none)
    (z_sorted : PySem.W.nsIn K mainGlobals "sorted" = some none)
    (z_tuple : PySem.W.nsIn K mainGlobals "tuple" = some none)
    (z_isinstance : PySem.W.nsIn K mainGlobals "isinstance" = some none)
    (z_iter : PySem.W.nsIn K mainGlobals "iter" = some none)
    (z_enumerate : PySem.W.nsIn K mainGlobals "enumerate" = some none)
    (z_all : PySem.W.nsIn K mainGlobals "all" = some none)
    (z_bool : PySem.W.nsIn K mainGlobals "bool" = some none)
    (z_repr : PySem.W.nsIn K mainGlobals "repr" = some none)
    (qc1 : K.lookup q1 = some ⟨.type "code", qd1, .fields vs1, qs1⟩)
    (qv1 : vs1[11]? = some (.ref p1))
    (qa1 : vs1.getD 18 .none = .str qf1 qt1)
    (qb1 : vs1.getD 7 .none = .int ql1 qm1)
    (qe1 : vs1.getD 9 .none = .bool qi1)
    (qg1 : vs1.getD 10 .none = .int qx1 qy1)
    (qn1 : (q1 == p1) = false)
    (qk1 : K.lookup p1 = none)
    (qc2 : K.lookup q2 = some ⟨.type "code", qd2, .fields vs2, qs2⟩)
    (qv2 : vs2[11]? = some (.ref p2))
    (qa2 : vs2.getD 18 .none = .str qf2 qt2)
    (qb2 : vs2.getD 7 .none = .int ql2 qm2)
    (qe2 : vs2.getD 9 .none = .bool qi2)
    (qg2 : vs2.getD 10 .none = .int qx2 qy2)
    (qn2 : (q2 == p2) = false)
    (qk2 : K.lookup p2 = none)
    (pp : (p1 == p2) = false) :
    LawAtS l w K CX0 12 63 "_law_script" mg fa h := by
  have e := hfa.symm.trans (PySem.W.mg_of X G a19)
  cases e
  have B : Blt mg := ⟨PySem.W.mg_none_of X G z_list, PySem.W.mg_none_of X G z_int, PySem.W.mg_none_of X G z_len, PySem.W.mg_none_of X G z_abs, PySem.W.mg_none_of X G z_range, PySem.W.mg_none_of X G z_dict, PySem.W.mg_none_of X G z_str, PySem.W.mg_none_of X G z_sorted, PySem.W.mg_none_of X G z_tuple⟩
  have T1 : Tx K mg CM CJ := ⟨B, PySem.W.mg_none_of X G z_isinstance, PySem.W.mg_none_of X G z_iter, ⟨_, PySem.W.mg_of X G g1, ⟨tk1, rfl⟩⟩, ⟨_, PySem.W.mg_of X G g2, ⟨tk2, rfl⟩⟩, ⟨_, PySem.W.mg_of X G g3, ⟨tk3, rfl⟩⟩, ⟨_, PySem.W.mg_of X G g4, ⟨tk4, rfl⟩⟩,
    ⟨_, PySem.W.mg_of X G aC, rfl⟩, ⟨_, PySem.W.mg_of X G aJ, rfl⟩, kdJ, ok_dict, ok_str, ok_int, ⟨pg, hd, po, sa⟩, nL, nI, nC, tA, tB, tC, tD, ne, ow_dict, ow_str, ow_int⟩
  have T2 : Ty K mg CM CJ := ⟨T1, kMM, kMJ, kMs, kls⟩
  have T : Tz K mg CM CJ := ⟨T2, PySem.W.mg_none_of X G z_enumerate, PySem.W.mg_none_of X G z_all, PySem.W.mg_none_of X G z_bool, ⟨_, PySem.W.mg_of X G g5, ⟨tk5, rfl⟩⟩, ⟨pgJ, hdJ, poJ, saJ⟩, nJ, jA, jD, ⟨rp, ⟨_, h1⟩, ⟨_, h2⟩, os_int⟩, kJJ⟩
  have TB : Tb K mg CR := ⟨PySem.W.mg_of X G aR, ⟨rdR, gaR⟩, vR⟩
  have OB : OexC K CB := ⟨⟨nmB, qB, NB, bsB, _, snB, subB, abB, colB, ddB, mB0, mB1, mB2, mB3, mB5, xB, show PySem.HandSPX.refsVE [.type "ValueError", .type "Exception", .type "BaseException", .type "object"] = true by decide +kernel⟩, sB, eB, tyB, kB⟩
  have XB : ExcC K CB := ⟨hgB, hkB, eB, hdB, haB, tB, tC, hmB⟩
  have OU : OexC K CU := ⟨⟨nmU, qU, NU, bsU, _, snU, subU, abU, colU, ddU, mU0, mU1, mU2, mU3, mU5, xU, show PySem.HandSPX.refsVE [.type "ValueError", .type "Exception", .type "BaseException", .type "object"] = true by decide +kernel⟩, sU, eU, tyU, kU⟩
  have XU : ExcC K CU := ⟨hgU, hkU, eU, hdU, haU, tB, tC, hmU⟩
  have OT : OexC K CT := ⟨⟨nmT, qT, NT, bsT, _, snT, subT, abT, colT, ddT, mT0, mT1, mT2, mT3, mT5, xT, show PySem.HandSPX.refsVE [.type "ValueError", .type "Exception", .type "BaseException", .type "object"] = true by decide +kernel⟩, sT, eT, tyT, kT⟩
  have XT : ExcC K CT := ⟨hgT, hkT, eT, hdT, haT, tB, tC, hmT⟩
  have Th1 : Th K mg CM CJ CB CU CT CR := ⟨T, ⟨_, PySem.W.mg_of X G aB, rfl⟩, ⟨_, PySem.W.mg_of X G aU, rfl⟩, ⟨_, PySem.W.mg_of X G aT, rfl⟩, PySem.W.mg_of X G aR, exm_of eR iR tyR srB, exm_of eR iR tyR srU, exm_of eR iR tyR srT, eBB, eUB, eUU, eTB, eTU, eTT, XB, XU, XT, nB, nU, nT1, nT2⟩
  have Tj1 : Tj K mg CM CJ CB CU CT CR := ⟨Th1, PySem.W.mg_none_of X G z_repr, ge⟩
  have Od : OddF K CM := ⟨fun t ht => by
    simp only [oddTypes, List.mem_cons, List.not_mem_nil, or_false] at ht
    rcases ht with rfl | rfl | rfl | rfl | rfl | rfl | rfl
    · exact ⟨⟨"NoneType", _, _, rfl, oo_NoneType, or_NoneType, os_NoneType⟩, ok_NoneType, ow_NoneType⟩
    · exact ⟨⟨"int", _, _, rfl, oo_int, or_int, os_int⟩, ok_int, ow_int⟩
    · exact ⟨⟨"str", _, _, rfl, oo_str, or_str, os_str⟩, ok_str, ow_str⟩
    · exact ⟨⟨"bool", _, _, rfl, oo_bool, or_bool, os_bool⟩, ok_bool, ow_bool⟩
    · exact ⟨⟨"dict", _, _, rfl, oo_dict, or_dict, os_dict⟩, ok_dict, ow_dict⟩
    · exact ⟨⟨"list", _, _, rfl, oo_list, or_list, os_list⟩, ok_list, ow_list⟩
    · exact ⟨⟨"tuple", _, _, rfl, oo_tuple, or_tuple, os_tuple⟩, ok_tuple, ow_tuple⟩
    ⟩
  have Tl1 : Tl K mg CM CJ CB CU CT CR := ⟨Tj1, ⟨⟨cdM, ci, cr⟩, io⟩, ro, Od⟩
  have F0 := fun_mk (st := s_copied) l0 c0 k0
  have b0 := F0.binds (ps := ["value"]) fun _ _ _ _ _ _ us hl => match us, hl with | [_], _ => rfl
  have F1 := fun_mk (st := s_is_letter) l1 c1 k1
  have b1 := F1.binds (ps := ["value"]) fun _ _ _ _ _ _ us hl => match us, hl with | [_], _ => rfl
  have F2 := fun_mk (st := s_all_letters) l2 c2 k2
  have b2 := F2.binds (ps := ["string"]) fun _ _ _ _ _ _ us hl => match us, hl with | [_], _ => rfl
  have F3 := fun_mk (st := s_is_text) l3 c3 k3
  have b3 := F3.binds (ps := ["value"]) fun _ _ _ _ _ _ us hl => match us, hl with | [_], _ => rfl
  have F4 := fun_mk (st := s_is_image) l4 c4 k4
  have b4 := F4.binds (ps := ["value"]) fun _ _ _ _ _ _ us hl => match us, hl with | [_], _ => rfl
  have F5 := fun_mk (st := s_told_images) l5 c5 k5
  have b5 := F5.binds (ps := ["images", "keeps"]) fun _ _ _ _ _ _ us hl => match us, hl with | [_, _], _ => rfl
  have F6 := fun_mk (st := s_check_other) l6 c6 k6
  have b6 := F6.binds (ps := ["other"]) fun _ _ _ _ _ _ us hl => match us, hl with | [_], _ => rfl
  have F7 := fun_mk (st := s_pen) l7 c7 k7
  have b7 := F7.binds (ps := ["_law_script"]) fun _ _ _ _ _ _ us hl => match us, hl with | [_], _ => rfl
  have F8 := fun_mk (st := s_draw) l8 c8 k8
  have b8 := F8.binds (ps := ["_law_pen_here", "_law_many"]) fun _ _ _ _ _ _ us hl => match us, hl with | [_, _], _ => rfl
  have F9 := fun_mk (st := s_pick) l9 c9 k9
  have b9 := F9.binds (ps := ["_law_pen_here", "_law_some"]) fun _ _ _ _ _ _ us hl => match us, hl with | [_, _], _ => rfl
  have F10 := fun_mk (st := s_some_letters) l10 c10 k10
  have b10 := F10.binds (ps := ["_law_pen_here", "_law_many"]) fun _ _ _ _ _ _ us hl => match us, hl with | [_, _], _ => rfl
  have F11 := fun_mk (st := s_escaped) l11 c11 k11
  have b11 := F11.binds (ps := ["_law_pen_here", "_law_some"]) fun _ _ _ _ _ _ us hl => match us, hl with | [_, _], _ => rfl
  have F12 := fun_mk (st := s_any_image) l12 c12 k12
  have b12 := F12.binds (ps := ["_law_pen_here", "_law_some"]) fun _ _ _ _ _ _ us hl => match us, hl with | [_, _], _ => rfl
  have F13 := fun_mk (st := s_table) l13 c13 k13
  have b13 := F13.binds (ps := ["_law_pen_here", "_law_some"]) fun _ _ _ _ _ _ us hl => match us, hl with | [_, _], _ => rfl
  have F14 := fun_mk (st := s_heard) l14 c14 k14
  have b14 := F14.binds (ps := ["_law_ask"]) fun _ _ _ _ _ _ us hl => match us, hl with | [_], _ => rfl
  have F15 := fun_mk (st := s_due) l15 c15 k15
  have b15 := F15.binds (ps := ["_law_first", "_law_last"]) fun _ _ _ _ _ _ us hl => match us, hl with | [_, _], _ => rfl
  have F16 := fun_mk (st := s_text) l16 c16 k16
  have b16 := F16.binds (ps := ["_law_table_here"]) fun _ _ _ _ _ _ us hl => match us, hl with | [_], _ => rfl
  have F17 := fun_mk (st := s_near) l17 c17 k17
  have b17 := F17.binds (ps := ["_law_pen_here", "_law_table_here"]) fun _ _ _ _ _ _ us hl => match us, hl with | [_, _], _ => rfl
  have F18 := fun_mk (st := s_joined_right) l18 c18 k18
  have b18 := F18.binds (ps := ["_law_one", "_law_two", "_law_first", "_law_last"]) fun _ _ _ _ _ _ us hl => match us, hl with | [_, _, _, _], _ => rfl
  have F19 := fun_mk (st := s_law) l19 c19 k19
  have F20 := fun_mk (st := s_Misreading_contains) l20 c20 k20
  have b20 := F20.binds (ps := ["self", "x"]) fun _ _ _ _ _ _ us hl => match us, hl with | [_, _], _ => rfl
  have F21 := fun_mk (st := s_Misreading_iter) l21 c21 k21
  have b21 := F21.binds (ps := ["self"]) fun _ _ _ _ _ _ us hl => match us, hl with | [_], _ => rfl
  have F22 := fun_mk (st := s_Misreading_getitem) l22 c22 k22
  have b22 := F22.binds (ps := ["self", "at"]) fun _ _ _ _ _ _ us hl => match us, hl with | [_, _], _ => rfl
  have F23 := fun_mk (st := s_Misreading_first_barred) l23 c23 k23
  have b23 := F23.binds (ps := ["self", "text"]) fun _ _ _ _ _ _ us hl => match us, hl with | [_, _], _ => rfl
  have F24 := fun_mk (st := s_Misreading_image) l24 c24 k24
  have b24 := F24.binds (ps := ["self", "text"]) fun _ _ _ _ _ _ us hl => match us, hl with | [_, _], _ => rfl
  have F25 := fun_mk (st := s_Misreading_rshift) l25 c25 k25
  have b25 := F25.binds (ps := ["self", "other"]) fun _ _ _ _ _ _ us hl => match us, hl with | [_, _], _ => rfl
  have F26 := fun_mk (st := s_Misreading_or) l26 c26 k26
  have b26 := F26.binds (ps := ["self", "other"]) fun _ _ _ _ _ _ us hl => match us, hl with | [_, _], _ => rfl
  have F27 := fun_mk (st := s_Misreading_le) l27 c27 k27
  have b27 := F27.binds (ps := ["self", "other"]) fun _ _ _ _ _ _ us hl => match us, hl with | [_, _], _ => rfl
  have F28 := fun_mk (st := s_Misreading_eq) l28 c28 k28
  have b28 := F28.binds (ps := ["self", "other"]) fun _ _ _ _ _ _ us hl => match us, hl with | [_, _], _ => rfl
  have F29 := fun_mk (st := s_Misreading_str) l29 c29 k29
  have b29 := F29.binds (ps := ["self"]) fun _ _ _ _ _ _ us hl => match us, hl with | [_], _ => rfl
  have ee : ("" : Str) = Sx [] := by decide +kernel
  have F30 : FunD K "__init__" "Misreading.__init__" (defArgs s_Misreading_init) (defBody s_Misreading_init) (defScope s_Misreading_init) [.str (Sx [])] [] f30 _ := ⟨⟨oc30, od30, .ref TI, kV30, dc30, pm30, an30, cd30, ct30, sl30, rfl, l30, c30, .inr ⟨(fun z => nomatch z), TI, _, [.str "" tkT], nT, rfl, tI, rfl, .cons ⟨tkT, by rw [← ee]⟩ .nil⟩, .inl rfl⟩, k30⟩
  have F31 := fun_mk (st := s_Misreading_same) l31 c31 k31
  have b31 := F31.binds (ps := ["letters"]) fun _ _ _ _ _ _ us hl => match us, hl with | [_], _ => rfl
  have F32 := fun_mk (st := s_Joined_init) l32 c32 k32
  have b32 := F32.binds (ps := ["self", "images"]) fun _ _ _ _ _ _ us hl => match us, hl with | [_, _], _ => rfl
  have F33 := fun_mk (st := s_BadTable_init) l33 c33 k33
  have b33 := F33.binds (ps := ["self", "part"]) fun _ _ _ _ _ _ us hl => match us, hl with | [_, _], _ => rfl
  have F34 := fun_mk (st := s_Unlike_init) l34 c34 k34
  have b34 := F34.binds (ps := ["self", "letter"]) fun _ _ _ _ _ _ us hl => match us, hl with | [_, _], _ => rfl
  have F35 := fun_mk (st := s_TooMany_init) l35 c35 k35
  have b35 := F35.binds (ps := ["self", "what", "most"]) fun _ _ _ _ _ _ us hl => match us, hl with | [_, _, _], _ => rfl
  have kb : KBinds K (PySem.W.fnOf "same" "Misreading.same" (defArgs s_Misreading_same) (defBody s_Misreading_same) (defScope s_Misreading_same) .none kV31 dc31 pm31 an31 cd31 ct31) ["letters"] ["letters"] (fun us ws => us ++ ws) (fun vs zs => vs ++ zs) := ⟨fun s us ws _ hl => match us, ws, hl with
    | [], [_], _ => .of_eq rfl
    | [_], [], _ => .of_eq rfl, fun r1 r2 => r1.append r2⟩
  have N1 : q1 ≠ p1 := fun z => by rw [z] at qn1; simp at qn1
  have hd11_1 : vs1.getD 11 .none = .ref p1 := by rw [Array.getD_eq_getD_getElem?, qv1]; rfl
  have H1 : PySem.W.CodeHd h q1 p1 := ⟨_, vs1, _, _, _, _, _, _, _, X _ _ qc1, rfl, rfl, qv1, hd11_1, qa1, qb1, qe1, qg1, N1⟩
  have N2 : q2 ≠ p2 := fun z => by rw [z] at qn2; simp at qn2
  have hd11_2 : vs2.getD 11 .none = .ref p2 := by rw [Array.getD_eq_getD_getElem?, qv2]; rfl
  have H2 : PySem.W.CodeHd h q2 p2 := ⟨_, vs2, _, _, _, _, _, _, _, X _ _ qc2, rfl, rfl, qv2, hd11_2, qa2, qb2, qe2, qg2, N2⟩
  have P1 : h.get? p1 = some { cls := .none, data := .fields #[] } := own2 f18 (PySem.W.mg_of X G a18) q1 p1 _ _ _ _ _ _ l18 rfl rfl qc1 qv1
  have P2 : h.get? p2 = some { cls := .none, data := .fields #[] } := own q2 p2 _ _ _ _ _ _ l19 rfl rfl qc2 qv2
  have pne : p1 ≠ p2 := fun z => by rw [z] at pp; simp at pp
  have two : ∀ {C : Addr × Addr → Prop}, C (q1, p1) → C (q2, p2) → ∀ p ∈ [(q1, p1), (q2, p2)], C p := fun a b p hp => by
    rcases List.mem_cons.mp hp with rfl | hp
    · exact a
    · rw [List.mem_singleton.mp hp]
      exact b
  refine ⟨PySem.W.fnOf "law" "law" (defArgs s_law) (defBody s_law) (defScope s_law) .none kV19 dc19 pm19 an19 (.ref q2) ct19, [(q1, p1), (q2, p2)], spLaw (TLs p1 p2) K, two P1 P2, two qk1 qk2, two H1 H2, fun s v => .of_eq rfl, fun Hh a ns hl _ ht hS => ⟨a, ns, rfl, hS, hl, fun p hp => ?_, fun _ => rfl⟩, fun base _ _ hb => ?_⟩
  · rcases List.mem_cons.mp hp with rfl | hp
    · exact TabS.nil (ht (q1, p1) (by simp))
    · rw [List.mem_singleton.mp hp]
      exact TabS.nil (ht (q2, p2) (by simp))
  have K1 : TabT base mg (TLs p1 p2) (("_law_joined_right" : Str) ++ ".<locals>.") q1 p1 := ⟨hb (q1, p1) (by simp), by simp [TLs], fun p hp e => by
    rcases List.mem_cons.mp hp with rfl | hp
    · rfl
    · rw [List.mem_singleton.mp hp] at e
      exact absurd e.symm pne⟩
  have K2 : TabT base mg (TLs p1 p2) (("law" : Str) ++ ".<locals>.") q2 p2 := ⟨hb (q2, p2) (by simp), by simp [TLs], fun p hp e => by
    rcases List.mem_cons.mp hp with rfl | hp
    · exact absurd e pne
    · rw [List.mem_singleton.mp hp]⟩
  have FJ : FunC K "_law_joined_right" "_law_joined_right" s_joined_right f18 q1 _ := ⟨⟨oc18, od18, kV18, dc18, pm18, an18, ct18, sl18, rfl, l18, c18⟩⟩
  have FL : FunC K "law" "law" s_law fa q2 (PySem.W.fnOf "law" "law" (defArgs s_law) (defBody s_law) (defScope s_law) .none kV19 dc19 pm19 an19 (.ref q2) ct19) := ⟨⟨oc19, od19, kV19, dc19, pm19, an19, ct19, sl19, rfl, l19, c19⟩⟩
  have D_heard : HearD K mg f14 := ⟨PySem.W.mg_of X G a14, k14, ⟨oc14, od14, kV14, dc14, pm14, an14, cd14, ct14, sl14, l14, c14⟩⟩
  have D_draw : Df l.prog w K mg base 1 "_law_draw" spDraw := ⟨⟨f8, _, _, ok_draw (k := 0) F8 B, PySem.W.mg_of X G a8, k8, b8⟩⟩
  have D_pick : Df l.prog w K mg base 2 "_law_pick" (spPick K) := ⟨⟨f9, _, _, ok_pick F9 B D_draw, PySem.W.mg_of X G a9, k9, b9⟩⟩
  have D_some_letters : Df l.prog w K mg base 2 "_law_some_letters" spLetters := ⟨⟨f10, _, _, ok_some_letters F10 B D_draw, PySem.W.mg_of X G a10, k10, b10⟩⟩
  have D_any_image : Df l.prog w K mg base 3 "_law_any_image" spImage := ⟨⟨f12, _, _, ok_any_image F12 B D_pick, PySem.W.mg_of X G a12, k12, b12⟩⟩
  have D_escaped : Df l.prog w K mg base 2 "_law_escaped" (spTab 52) := ⟨⟨f11, _, _, ok_escaped F11 B D_draw, PySem.W.mg_of X G a11, k11, b11⟩⟩
  have D_table : Df l.prog w K mg base 4 "_law_table" (spTab 260) := ⟨⟨f13, _, _, ok_table F13 B D_draw D_escaped D_any_image, PySem.W.mg_of X G a13, k13, b13⟩⟩
  have D_near : Df l.prog w K mg base 3 "_law_near" spNear := ⟨⟨f17, _, _, ok_near F17 B D_draw D_pick D_some_letters, PySem.W.mg_of X G a17, k17, b17⟩⟩
  have D_is_letter : Df l.prog w K mg base 1 "is_letter" (spIsLetter K) := ⟨⟨f1, _, _, ok_is_letter F1 T1, PySem.W.mg_of X G a1, k1, b1⟩⟩
  have D_all_letters : Df l.prog w K mg base 1 "all_letters" spAllLetters := ⟨⟨f2, _, _, ok_all_letters F2 T1, PySem.W.mg_of X G a2, k2, b2⟩⟩
  have D_is_text : Df l.prog w K mg base 2 "is_text" spIsText := ⟨⟨f3, _, _, ok_is_text F3 T1 D_all_letters, PySem.W.mg_of X G a3, k3, b3⟩⟩
  have D_is_image : Df l.prog w K mg base 3 "is_image" spIsImage := ⟨⟨f4, _, _, ok_is_image F4 T1 D_is_text, PySem.W.mg_of X G a4, k4, b4⟩⟩
  have D_told_images : Df l.prog w K mg base 4 "told_images" spTold := ⟨⟨f5, _, _, ok_told_images F5 T1 D_is_letter D_is_text D_is_image, PySem.W.mg_of X G a5, k5, b5⟩⟩
  have D_copied : Df l.prog w K mg base 1 "copied" (spCopied K) := ⟨⟨f0, _, _, ok_copied F0 T1, PySem.W.mg_of X G a0, k0, b0⟩⟩
  have D_check_other : Df l.prog w K mg base 1 "check_other" (spChkO CM) := ⟨⟨f6, _, _, ok_check_other F6 T2, PySem.W.mg_of X G a6, k6, b6⟩⟩
  have D_pen : Df l.prog w K mg base 1 "_law_pen" (spPen K) := ⟨⟨f7, _, _, ok_pen F7 B, PySem.W.mg_of X G a7, k7, b7⟩⟩
  have D_due : Df l.prog w K mg base 1 "_law_due" spDue := ⟨⟨f15, _, _, ok_due F15 T, PySem.W.mg_of X G a15, k15, b15⟩⟩
  have D_text : Df l.prog w K mg base 1 "_law_text" spText := ⟨⟨f16, _, _, ok_text F16 T, PySem.W.mg_of X G a16, k16, b16⟩⟩
  have E_BadTable : Erm l.prog w K mg base "BadTable" "part" CB := ⟨OB, nB, f33, _, _, a33, y33, ok_BadTable F33 TB D_copied, b33, PySem.W.mg_of X G aB⟩
  have E_Unlike : Erm l.prog w K mg base "Unlike" "letter" CU := ⟨OU, nU, f34, _, _, a34, y34, ok_Unlike F34 TB D_copied, b34, PySem.W.mg_of X G aU⟩
  have E_TooMany : ErmT l.prog w K mg base CT := ⟨OT, nT1, nT2, f35, _, _, a35, y35, ok_TooMany F35 TB D_copied, b35, PySem.W.mg_of X G aT⟩
  have D_check : DfX l.prog w K mg base 4 "check_other" (spCheck K CM CB) := ⟨⟨f6, _, _, ok_check_otherX F6 T2 E_BadTable, PySem.W.mg_of X G a6, k6, b6⟩⟩
  have D_mk : Mkr l.prog w K mg base CM := mkr_of F30 T1 D_told_images ⟨mk, a30, i30, kc⟩ (PySem.W.mg_of X G aC)
  have D_mkMJ : MkrM l.prog w K mg base CM CJ := mkrM_of F30 T D_told_images ⟨mk, a30, i30, kc⟩ (PySem.W.mg_of X G aC)
  have D_mkMJX : MkrMX l.prog w K mg base CM CJ CT := mkrMX_of (CXa := CX0) F30 T D_told_images E_TooMany ⟨mk, a30, i30, kc⟩ (PySem.W.mg_of X G aC)
  have D_mkJ : MkrJ l.prog w K mg base CJ := ⟨f32, _, ⟨mkJ, a32, i32, kcJ⟩, ok_Joined F32 T, PySem.W.mg_of X G aJ, b32⟩
  have D_in : Mf l.prog w K mg base 2 CM "__contains__" (spIn K CM) := ⟨⟨f20, _, _, ok_in F20 T1 D_is_letter, ⟨a20, i20, k20⟩, ⟨a20, i20⟩, n20, b20⟩⟩
  have D_get : Mf l.prog w K mg base 2 CM "__getitem__" (spGet CM) := ⟨⟨f22, _, _, ok_get F22 T1 D_is_letter, ⟨a22, i22, k22⟩, ⟨a22, i22⟩, n22, b22⟩⟩
  have D_eq : Mf l.prog w K mg base 1 CM "__eq__" (spEq K CM) := ⟨⟨f28, _, _, ok_eq F28 T2, ⟨a28, i28, k28⟩, ⟨a28, i28⟩, n28, b28⟩⟩
  have D_str : Mf l.prog w K mg base 1 CM "__str__" (spStr CM) := ⟨⟨f29, _, _, V8.ok_str F29 T2, ⟨a29, i29, k29⟩, ⟨a29, i29⟩, n29, b29⟩⟩
  have D_iter : ItM l.prog w K mg base 1 CM (snIter CM) := ⟨f21, _, _, ok_iter F21 T1, ⟨a21, i21⟩, b21⟩
  have D_same : Sms l.prog w K mg base CM := ⟨pS, f31, _, .type "type", ⟨rd, ga⟩, ⟨sC, ⟨restS, sR⟩, k31⟩, ok_same F31 T2 D_mk, b31, kb⟩
  have D_first_barred : Mf l.prog w K mg base 1 CM "first_barred" (spFB CM) := ⟨⟨f23, _, _, ok_first_barred F23 T, ⟨a23, i23, k23⟩, ⟨a23, i23⟩, n23, b23⟩⟩
  have D_image : Mf l.prog w K mg base 1 CM "image" (spImg CM) := ⟨⟨f24, _, _, ok_image F24 T, ⟨a24, i24, k24⟩, ⟨a24, i24⟩, n24, b24⟩⟩
  have D_rshift : Bo l.prog w K mg base 7 CM "__rshift__" (spRsh CM) := ⟨⟨f25, _, _, ok_rshift F25 T D_check_other D_first_barred D_image D_mkJ D_mkMJ, b25, a25, i25, sf⟩⟩
  have D_le : BoX l.prog w K mg base 5 CM "__le__" (spLeX K CM CB) := ⟨⟨f27, _, _, ok_leX F27 T D_check D_in D_get, b27, a27, i27, sf⟩⟩
  have D_or : BoX l.prog w K mg base 7 CM "__or__" (spOrX K CM CB CU CT) := ⟨⟨f26, _, _, ok_orX F26 T D_check D_in D_get D_iter D_mkJ D_mkMJX E_Unlike, b26, a26, i26, sf⟩⟩
  have D_joined : Df l.prog w K mg base 11 "_law_joined_right" (spJoined (TLs p1 p2) CM) := ⟨⟨f18, _, _, ok_joined FJ Tj1 D_due D_text D_heard K1 D_or D_le D_str D_eq, PySem.W.mg_of X G a18, k18, b18⟩⟩
  exact ok_law FL Tl1 D_pen D_draw D_pick D_some_letters D_table D_near D_joined D_heard K2 D_or D_le D_rshift D_iter D_get D_eq D_mk D_same
/-- the end, where the tables of two defs are known -/
theorem walk {l : PySem.W.OpenLaw} {q : Program} {loose : List Str} {XP : (Str → Option Value) → Heap → Prop} {YP : World → Heap → Prop} {d : DefRec} {K : Params → PySem.W.Frag} (hn : l.most = some 63) (hdf : d.params.defaults = []) (hrec : ((recsOf q).any fun e => e.name == d.name) = true) (hrec2 : ((recsOf q).any fun e => e.name == "_law_joined_right") = true)
    (hY : ∀ (w : World) (h : Heap), YP w h → (K w.params).In h)
    (F : ∀ (w : World) (mg : Str → Option Value) (fa : Addr) (h : Heap), (K w.params).In h → h.Ns mainGlobals mg → mg d.name = some (.ref fa) → OwnTab (K w.params) fa h → (∀ fb, mg "_law_joined_right" = some (.ref fb) → OwnTab (K w.params) fb h) → LawAtS l w (K w.params) CX0 12 63 "_law_script" mg fa h) :
    PySem.W.WalkO q loose XP YP l.row.toRowW d [] (fun f vs => PySem.call f vs) := by
  refine Att.attach_callB hn hdf fun w s₀ s₁ mg mb fa o pm cd doc a vs ns G Y ho hd hcd hmg hobj hints hlen hbits hg => ?_
  have KX := hY w _ Y
  have tab : ∀ (x : Str) (fb : Addr), ((recsOf q).any fun e => e.name == x) = true → mg x = some (.ref fb) → OwnTab (K w.params) fb s₁.heap := fun x fb hr hm0 c P o1 fd1 e dd vs1 sl k1 k2 k3 k4 k5 => by
    obtain ⟨dL, hm, hn1⟩ := List.any_eq_true.mp hr
    have hn2 : dL.name = x := beq_iff_eq.mp hn1
    obtain ⟨a', o', fd', c', P', h1, h2, h3, h4, h5, h6⟩ := G.T.tab dL hm
    rw [hn2, hm0] at h1
    cases h1
    have g1 := KX _ _ k1
    rw [g1] at h2
    cases h2
    rw [k2] at h3
    cases h3
    rw [k3] at h4
    cases h4
    obtain ⟨⟨oc, vc, e1, _, e3, e4⟩, hP⟩ := h6
    have g2 := KX _ _ k4
    rw [g2] at e1
    cases e1
    cases e3
    rw [k5] at e4
    cases e4
    exact hP
  obtain ⟨fd, cs, sp, hT, nT, C, hb, hsp, hF⟩ := F w mg fa _ KX G.T.g hmg (tab _ fa hrec hmg) fun fb hm0 => tab _ fb hrec2 hm0
  exact law_callTs KX G.T.g G.T.b G.T.builtins G.T.nolimit hg hT nT C G.T.bmain hobj hints (Nat.le_trans hlen (by decide)) ⟨rfl, by decide, by decide⟩ hF hb (fun H hH hS => hsp H a ns hlen hbits hH hS) fun _ _ _ z => z
end V8

set_option Elab.async false
set_option linter.all false
set_option maxRecDepth 100000
open PySem PySem.W PyProof.Rows
set_option maxHeartbeats 0 in
theorem PySem.Challenge.cw_blindrepair_k13_misreadings_joined_holds : PySem.Challenge.rw_blindrepair_k13_misreadings_joined.Holds := by
  w_on; o_law; k_head; (case hw => w_witness2)
  k_fill
  refine V8.walk (l := PySem.Challenge.rw_blindrepair_k13_misreadings_joined) rfl rfl (by decide +kernel) (by decide +kernel) (fun w h Y => PySem.W.km_in_of Y) ?F
  case F =>
    intro w mg fa h KX G hmg own own2
    refine' V8.all_mk KX G hmg own own2 ?aC ?aJ ?aB ?aU ?aT ?aR ?a0 ?l0 ?c0 ?k0 ?a1 ?l1 ?c1 ?k1 ?a2 ?l2 ?c2 ?k2 ?a3 ?l3 ?c3 ?k3 ?a4 ?l4 ?c4 ?k4 ?a5 ?l5 ?c5 ?k5 ?a6 ?l6 ?c6 ?k6 ?a7 ?l7 ?c7 ?k7 ?a8 ?l8 ?c8 ?k8 ?a9 ?l9 ?c9 ?k9 ?a10 ?l10 ?c10 ?k10 ?a11 ?l11 ?c11 ?k11 ?a12 ?l12 ?c12 ?k12 ?a13 ?l13 ?c13 ?k13 ?a14 ?l14 ?c14 ?k14 ?a15 ?l15 ?c15 ?k15 ?a16 ?l16 ?c16 ?k16 ?a17 ?l17 ?c17 ?k17 ?a18 ?l18 ?c18 ?k18 ?a19 ?l19 ?c19 ?k19 ?a20 ?i20 ?l20 ?c20 ?k20 ?n20 ?a21 ?i21 ?l21 ?c21 ?k21 ?n21 ?a22 ?i22 ?l22 ?c22 ?k22 ?n22 ?a23 ?i23 ?l23 ?c23 ?k23 ?n23 ?a24 ?i24 ?l24 ?c24 ?k24 ?n24 ?a25 ?i25 ?l25 ?c25 ?k25 ?n25 ?a26 ?i26 ?l26 ?c26 ?k26 ?n26 ?a27 ?i27 ?l27 ?c27 ?k27 ?n27 ?a28 ?i28 ?l28 ?c28 ?k28 ?n28 ?a29 ?i29 ?l29 ?c29 ?k29 ?n29 ?a30 ?i30 ?l30 ?c30 ?k30 ?tI ?sC ?sR ?l31 ?c31 ?k31 ?a32 ?i32 ?l32 ?c32 ?k32 ?a33 ?y33 ?l33 ?c33 ?k33 ?a34 ?y34 ?l34 ?c34 ?k34 ?a35 ?y35 ?l35 ?c35 ?k35 ?xB ?sB ?eB ?tyB ?kB ?hgB ?hkB ?hdB ?haB ?hmB ?srB ?xU ?sU ?eU ?tyU ?kU ?hgU ?hkU ?hdU ?haU ?hmU ?srU ?xT ?sT ?eT ?tyT ?kT ?hgT ?hkT ?hdT ?haT ?hmT ?srT ?nB ?nU ?nT1 ?nT2 ?eR ?tyR ?iR ?rdR ?gaR ?vR ?rd ?ga ?pg ?hd ?po ?sa ?mk ?kc ?sf ?nL ?nI ?nC ?tA ?tB ?tC ?tD ?ne ?ge ?ro ?io ?ci ?cr ?rp ?h1 ?h2 ?oo_NoneType ?or_NoneType ?os_NoneType ?ow_NoneType ?oo_int ?or_int ?os_int ?ow_int ?oo_str ?or_str ?os_str ?ow_str ?oo_bool ?or_bool ?os_bool ?ow_bool ?oo_dict ?or_dict ?os_dict ?ow_dict ?oo_list ?or_list ?os_list ?ow_list ?oo_tuple ?or_tuple ?os_tuple ?ow_tuple ?pgJ ?hdJ ?poJ ?saJ ?mkJ ?kcJ ?nJ ?jA ?jD ?ok_NoneType ?ok_int ?ok_str ?ok_bool ?ok_dict ?ok_list ?ok_tuple ?kdJ ?kMM ?kMJ ?kMs ?kls ?kJJ ?eBB ?eUB ?eUU ?eTB ?eTU ?eTT ?g1 ?g2 ?g3 ?g4 ?g5 ?z_list ?z_int ?z_len ?z_abs ?z_range ?z_dict ?z_str ?z_sorted ?z_tuple ?z_isinstance ?z_iter ?z_enumerate ?z_all ?z_bool ?z_repr ?qc1 ?qv1 ?qa1 ?qb1 ?qe1 ?qg1 ?qn1 ?qk1 ?qc2 ?qv2 ?qa2 ?qb2 ?qe2 ?qg2 ?qn2 ?qk2 ?pp
    (case aC => k_is)
    (case aJ => k_is)
    (case aB => k_is)
    (case aU => k_is)
    (case aT => k_is)
    (case aR => k_is)
    (case a0 => k_is)
    (case l0 => k_is)
    (case c0 => k_is)
    (case k0 => k_is)
    (case a1 => k_is)
    (case l1 => k_is)
    (case c1 => k_is)
    (case k1 => k_is)
    (case a2 => k_is)
    (case l2 => k_is)
    (case c2 => k_is)
    (case k2 => k_is)
    (case a3 => k_is)
    (case l3 => k_is)
    (case c3 => k_is)
    (case k3 => k_is)
    (case a4 => k_is)
    (case l4 => k_is)
    (case c4 => k_is)
    (case k4 => k_is)
    (case a5 => k_is)
    (case l5 => k_is)
    (case c5 => k_is)
    (case k5 => k_is)
    (case a6 => k_is)
    (case l6 => k_is)
    (case c6 => k_is)
    (case k6 => k_is)
    (case a7 => k_is)
    (case l7 => k_is)
    (case c7 => k_is)
    (case k7 => k_is)
    (case a8 => k_is)
    (case l8 => k_is)
    (case c8 => k_is)
    (case k8 => k_is)
    (case a9 => k_is)
    (case l9 => k_is)
    (case c9 => k_is)
    (case k9 => k_is)
    (case a10 => k_is)
    (case l10 => k_is)
    (case c10 => k_is)
    (case k10 => k_is)
    (case a11 => k_is)
    (case l11 => k_is)
    (case c11 => k_is)
    (case k11 => k_is)
    (case a12 => k_is)
    (case l12 => k_is)
    (case c12 => k_is)
    (case k12 => k_is)
    (case a13 => k_is)
    (case l13 => k_is)
    (case c13 => k_is)
    (case k13 => k_is)
    (case a14 => k_is)
    (case l14 => k_is)
    (case c14 => k_is)
    (case k14 => k_is)
    (case a15 => k_is)
    (case l15 => k_is)
    (case c15 => k_is)
    (case k15 => k_is)
    (case a16 => k_is)
    (case l16 => k_is)
    (case c16 => k_is)
    (case k16 => k_is)
    (case a17 => k_is)
    (case l17 => k_is)
    (case c17 => k_is)
    (case k17 => k_is)
    (case a18 => k_is)
    (case l18 => k_is)
    (case c18 => k_is)
    (case k18 => k_is)
    (case a19 => k_is)
    (case l19 => k_is)
    (case c19 => k_is)
    (case k19 => k_is)
    (case a20 => k_is)
    (case i20 => k_is)
    (case l20 => k_is)
    (case c20 => k_is)
    (case k20 => k_is)
    (case n20 => k_is)
    (case a21 => k_is)
    (case i21 => k_is)
    (case l21 => k_is)
    (case c21 => k_is)
    (case k21 => k_is)
    (case n21 => k_is)
    (case a22 => k_is)
    (case i22 => k_is)
    (case l22 => k_is)
    (case c22 => k_is)
    (case k22 => k_is)
    (case n22 => k_is)
    (case a23 => k_is)
    (case i23 => k_is)
    (case l23 => k_is)
    (case c23 => k_is)
    (case k23 => k_is)
    (case n23 => k_is)
    (case a24 => k_is)
    (case i24 => k_is)
    (case l24 => k_is)
    (case c24 => k_is)
    (case k24 => k_is)
    (case n24 => k_is)
    (case a25 => k_is)
    (case i25 => k_is)
    (case l25 => k_is)
    (case c25 => k_is)
    (case k25 => k_is)
    (case n25 => k_is)
    (case a26 => k_is)
    (case i26 => k_is)
    (case l26 => k_is)
    (case c26 => k_is)
    (case k26 => k_is)
    (case n26 => k_is)
    (case a27 => k_is)
    (case i27 => k_is)
    (case l27 => k_is)
    (case c27 => k_is)
    (case k27 => k_is)
    (case n27 => k_is)
    (case a28 => k_is)
    (case i28 => k_is)
    (case l28 => k_is)
    (case c28 => k_is)
    (case k28 => k_is)
    (case n28 => k_is)
    (case a29 => k_is)
    (case i29 => k_is)
    (case l29 => k_is)
    (case c29 => k_is)
    (case k29 => k_is)
    (case n29 => k_is)
    (case a30 => k_is)
    (case i30 => k_is)
    (case l30 => k_is)
    (case c30 => k_is)
    (case k30 => k_is)
    (case tI => k_is)
    (case sC => k_is)
    (case sR => k_is)
    (case l31 => k_is)
    (case c31 => k_is)
    (case k31 => k_is)
    (case a32 => k_is)
    (case i32 => k_is)
    (case l32 => k_is)
    (case c32 => k_is)
    (case k32 => k_is)
    (case a33 => k_is)
    (case y33 => k_is)
    (case l33 => k_is)
    (case c33 => k_is)
    (case k33 => k_is)
    (case a34 => k_is)
    (case y34 => k_is)
    (case l34 => k_is)
    (case c34 => k_is)
    (case k34 => k_is)
    (case a35 => k_is)
    (case y35 => k_is)
    (case l35 => k_is)
    (case c35 => k_is)
    (case k35 => k_is)
    (case xB => k_is)
    (case sB => k_is)
    (case eB => k_is)
    (case tyB => k_is)
    (case kB => k_is)
    (case hgB => k_is)
    (case hkB => k_is)
    (case hdB => k_is)
    (case haB => k_is)
    (case hmB => k_is)
    (case srB => first | rfl | k_is)
    (case xU => k_is)
    (case sU => k_is)
    (case eU => k_is)
    (case tyU => k_is)
    (case kU => k_is)
    (case hgU => k_is)
    (case hkU => k_is)
    (case hdU => k_is)
    (case haU => k_is)
    (case hmU => k_is)
    (case srU => first | rfl | k_is)
    (case xT => k_is)
    (case sT => k_is)
    (case eT => k_is)
    (case tyT => k_is)
    (case kT => k_is)
    (case hgT => k_is)
    (case hkT => k_is)
    (case hdT => k_is)
    (case haT => k_is)
    (case hmT => k_is)
    (case srT => first | rfl | k_is)
    (case nB => k_is)
    (case nU => k_is)
    (case nT1 => k_is)
    (case nT2 => k_is)
    (case eR => k_is)
    (case tyR => k_is)
    (case iR => k_is)
    (case rdR => k_is)
    (case gaR => k_is)
    (case vR => k_is)
    (case rd => k_is)
    (case ga => k_is)
    (case pg => k_is)
    (case hd => k_is)
    (case po => k_is)
    (case sa => k_is)
    (case mk => k_is)
    (case kc => k_is)
    (case sf => k_is)
    (case nL => k_is)
    (case nI => k_is)
    (case nC => k_is)
    (case tA => k_is)
    (case tB => k_is)
    (case tC => k_is)
    (case tD => k_is)
    (case ne => k_is)
    (case ge => k_is)
    (case ro => k_is)
    (case io => k_is)
    (case ci => k_is)
    (case cr => first | rfl | k_is)
    (case rp => k_is)
    (case h1 => k_is)
    (case h2 => k_is)
    (case oo_NoneType => k_is)
    (case or_NoneType => k_is)
    (case os_NoneType => k_is)
    (case ow_NoneType => k_is)
    (case oo_int => k_is)
    (case or_int => k_is)
    (case os_int => k_is)
    (case ow_int => k_is)
    (case oo_str => k_is)
    (case or_str => k_is)
    (case os_str => k_is)
    (case ow_str => k_is)
    (case oo_bool => k_is)
    (case or_bool => k_is)
    (case os_bool => k_is)
    (case ow_bool => k_is)
    (case oo_dict => k_is)
    (case or_dict => k_is)
    (case os_dict => k_is)
    (case ow_dict => k_is)
    (case oo_list => k_is)
    (case or_list => k_is)
    (case os_list => k_is)
    (case ow_list => k_is)
    (case oo_tuple => k_is)
    (case or_tuple => k_is)
    (case os_tuple => k_is)
    (case ow_tuple => k_is)
    (case pgJ => k_is)
    (case hdJ => k_is)
    (case poJ => k_is)
    (case saJ => k_is)
    (case mkJ => k_is)
    (case kcJ => k_is)
    (case nJ => k_is)
    (case jA => k_is)
    (case jD => k_is)
    (case ok_NoneType => first | kit_is | exact L2.kit_ty (by decide +kernel))
    (case ok_int => first | kit_is | exact L2.kit_ty (by decide +kernel))
    (case ok_str => first | kit_is | exact L2.kit_ty (by decide +kernel))
    (case ok_bool => first | kit_is | exact L2.kit_ty (by decide +kernel))
    (case ok_dict => first | kit_is | exact L2.kit_ty (by decide +kernel))
    (case ok_list => first | kit_is | exact L2.kit_ty (by decide +kernel))
    (case ok_tuple => first | kit_is | exact L2.kit_ty (by decide +kernel))
    (case kdJ => first | kit_is | exact L2.kit_ty (by decide +kernel))
    (case kMM => first | kit_is | exact L2.kit_ty (by decide +kernel))
    (case kMJ => first | kit_is | exact L2.kit_ty (by decide +kernel))
    (case kMs => first | kit_is | exact L2.kit_ty (by decide +kernel))
    (case kls => first | kit_is | exact L2.kit_ty (by decide +kernel))
    (case kJJ => first | kit_is | exact L2.kit_ty (by decide +kernel))
    (case eBB => first | kit_is | exact L2.kit_ty (by decide +kernel))
    (case eUB => first | kit_is | exact L2.kit_ty (by decide +kernel))
    (case eUU => first | kit_is | exact L2.kit_ty (by decide +kernel))
    (case eTB => first | kit_is | exact L2.kit_ty (by decide +kernel))
    (case eTU => first | kit_is | exact L2.kit_ty (by decide +kernel))
    (case eTT => first | kit_is | exact L2.kit_ty (by decide +kernel))
    (case g1 => k_is)
    (case g2 => k_is)
    (case g3 => k_is)
    (case g4 => k_is)
    (case g5 => k_is)
    (case z_list => k_is)
    (case z_int => k_is)
    (case z_len => k_is)
    (case z_abs => k_is)
    (case z_range => k_is)
    (case z_dict => k_is)
    (case z_str => k_is)
    (case z_sorted => k_is)
    (case z_tuple => k_is)
    (case z_isinstance => k_is)
    (case z_iter => k_is)
    (case z_enumerate => k_is)
    (case z_all => k_is)
    (case z_bool => k_is)
    (case z_repr => k_is)
    (case qc1 => k_is)
    (case qv1 => first | rfl | k_is)
    (case qa1 => first | rfl | k_is)
    (case qb1 => first | rfl | k_is)
    (case qe1 => first | rfl | k_is)
    (case qg1 => first | rfl | k_is)
    (case qn1 => first | rfl | k_is)
    (case qk1 => first | rfl | k_is)
    (case qc2 => k_is)
    (case qv2 => first | rfl | k_is)
    (case qa2 => first | rfl | k_is)
    (case qb2 => first | rfl | k_is)
    (case qe2 => first | rfl | k_is)
    (case qg2 => first | rfl | k_is)
    (case qn2 => first | rfl | k_is)
    (case qk2 => first | rfl | k_is)
    (case pp => first | rfl | k_is)

