import PyProof.Rows.All
import Wide.All
import OpenK.AllK
import Wide.FinOn
import HandS.ForMost
import HandS.OwnEq
import HandS.Wide
import HandS.DictComp
import HandS.IsInst
import HandS.Codes
import HandS.Flow
import PyProof.ListStr
import PyProof.InstNe
import KE.KCallOwn
import KE.KOwnIter
import KE.KFmtOwn
import HandS.Style
import HandS.IterNext
import HandS.StrMore
import HandS.MakeKw
import HandS.IterVal
import HandS.More
import PyProof.DictUpdate
import HandS.RaiseMore
import HandS.Walk
import HandS.FStr
import HandS.ClsMeth
import HandS.MakeKwOnly
import HandS.ExcInit
import KE.GoesMore
import KE.KOpsOwn
import HandS.Star
import HandS.TryOnly
import HandS.ExcValue
import HandS.ExcIs
import HandS.Lambda
import KE.KExcIs
import HandS.Zip
import KE.GoesZip
import PyProof.Rows.StrMul
import KE.KEqDict
import PyProof.P3Eq
import KE.GoesEnum
import PyProof.CallFns
import PyProof.InstEq
import PyProof.ReprRoads
import HandS.WordsExc
import HandS.RaiseFrom
import PySem.Challenge.RW_blindrepair_k03_tables_to_write_with
import KE.KeyNested
import PyProof.DictKind
import PyProof.DictFindH
import PyProof.DictRoadsH
import HandS.Dict
import HandS.Small
import HandS.Iter
import HandS.Strs
import HandS.Defaults
import PyProof.NeKinds
import HandS.EndTab
import PyProof.StrLawsRepr
import HandS.TupMul
import HandS.SortInts
import HandS.EndOwn
import KE.RegKIsAll
set_option Elab.async false
set_option linter.all false
set_option maxRecDepth 100000
set_option maxHeartbeats 4000000
/-! Rules of our own: the methods with two underscores of a text's own class, called by Python's signs; list(text). -/
namespace L2
open PySem PySem.Spec PyProof.Rows
section
variable {X : Cx} {n : Nat} {CX : CXT} {C f : Addr} {fd : FuncData} {ps : List Str} {sp : Sp} {E : XK}
/-- a def that is called from within a built-in -/
theorem run_own {A : Around} {pins : List (Addr × Obj)} {σ : St} {H : Hp} {s : Shared} {Q : VK} {us : List Value} {vs : List V} (sb : Sub X n A) (F : FnOk X.prog X.w X.K X.mg X.base CX n f fd ps sp) (hb : Binds X.K fd ps []) (hx : Passes CX X E)
    (I : Inv X pins σ H s) (r : Vals vs us) (h : sp vs H Q E) : wpAny (model X.prog X.w) A (call (.ref f) us) (EP X pins σ Q) X.xe s := by
  have e0 : Env0 X.prog X.w X.K X.mg X.base A X.stack s H := by
    have e := I.env0
    exact ⟨by rw [sb.fr]; exact e.frames, e.mod, e.bs, e.bsz, e.funs, e.frf, e.hok, e.bare⟩
  have hl := F.len _ _ _ _ h
  have hl2 : us.length = ps.length := by rw [← r.length]; exact hl
  refine wpAny_call (codeAny_mono (F.run A X.stack s H ⟨us, []⟩ us vs Q E sb.room e0 (by
    have := hb s us I.kIn (by simpa using hl2)
    simpa using this) r h) fun r s' hq => ?_)
  cases r with
  | error e => exact hx pins σ H s e s' I hq
  | ok fl =>
    cases fl with
    | ret w => exact I.after hq
    | next => exact False.elim hq
    | brk => exact False.elim hq
    | cont => exact False.elim hq
/-- the instance that H tells, for the library's rules -/
theorem inst_at {pins : List (Addr × Obj)} {σ : St} {H : Hp} {s : Shared} {a dx : Addr} {fs : List (Str × V)} (I : Inv X pins σ H s) (ha : H a = some (.ins C dx fs)) : ∃ od, PySem.W.InstAt s.heap a (PySem.W.instObj C dx) C od := by
  obtain ⟨mA, J, _⟩ := ins_get I.hok ha
  obtain ⟨od, J, _⟩ := J.look
  exact ⟨od, J⟩
/-- where one stands in a built-in, once or twice deeper -/
theorem Sub.here (hr : Room n X.A) : Sub X n X.A := ⟨hr, rfl⟩
/-- the facts of a method that a sign calls -/
structure Own (K : PySem.W.Frag) (C : Addr) (m : Str) (f : Addr) : Prop where
  find : PySem.W.findIn K (.ref C) m = some (some (.ref f))
  fn : PySem.W.isFn K (.ref f) = true
/-- list(text) -/
theorem call_listS (hc : X.calm = true) : CallR X (.type "list") (fun xs H Q => ∃ z, xs = [.str z] ∧ z.length ≤ sizeLine ∧ ∀ l, H l = none → Q (.ref l) (upd H l (.lst (z.cps.toList.map fun c => V.str ⟨#[c]⟩)))) := by
  intro pins s σ H xs us Q I r h
  obtain ⟨z, rfl, hz, q⟩ := h
  obtain ⟨u, rfl, t, rfl⟩ := vals1 r
  refine call_list_str (I.ok.hd hc) z t (fun h' tk acc c' kp e it => ?_) hz
  have rv : ∀ (xs : List Nat) (acc : List Value), acc.length = xs.length → (∀ (j : Nat) (v : Value), acc[j]? = some v → ∃ (c : Nat) (u : Tok), xs[j]? = some c ∧ v = Value.str ⟨#[c]⟩ u) → Vals (xs.map fun c => V.str ⟨#[c]⟩) acc := by
    intro xs
    induction xs with
    | nil =>
      intro acc hl _
      cases acc with
      | nil => exact .nil
      | cons a r => cases hl
    | cons x xs ih =>
      intro acc hl hi
      cases acc with
      | nil => cases hl
      | cons a r =>
        obtain ⟨c, u, e1, e2⟩ := hi 0 a rfl
        have e1' : x = c := by simpa using e1
        subst e1'
        exact .cons ⟨u, e2⟩ (ih r (by simpa using hl) fun j v hj => by
          obtain ⟨c, u, e1, e2⟩ := hi (j + 1) v (by simpa using hj)
          exact ⟨c, u, by simpa using e1, e2⟩)
  have R : Vals (z.cps.toList.map fun c => V.str ⟨#[c]⟩) acc.toList := rv _ _ (by rw [Array.length_toList, it.1, Array.length_toList]) fun j v hj => by
    obtain ⟨c, u, e1, e2⟩ := it.2 j v (by rw [← Array.getElem?_toList]; exact hj)
    exact ⟨c, u, by rw [Array.getElem?_toList]; exact e1, e2⟩
  refine ⟨.ref s.heap.objs.size, _, I.laid (t' := tk) kp (Nat.le_refl _) (show ObjOk X.prog X.w _ h' _ (.lst _) from ⟨?_, acc.toList, c', R, by rw [Array.toArray_toList]; exact e⟩), rfl, q _ (I.hok.fresh (Nat.le_refl _))⟩
  rw [List.length_map, Array.length_toList]
  exact hz
/-- len(o) by an own __len__ -/
theorem call_lenOwn (F : FnOk X.prog X.w X.K X.mg X.base CX n f fd ps sp) (hb : Binds X.K fd ps []) (hx : Passes CX X E) (o : Own X.K C "__len__" f) (hr : Room (n + 1) X.A) :
    CallR X (.builtin "len") (fun xs H Q => ∃ a dx fs, xs = [.ref a] ∧ H a = some (.ins C dx fs) ∧ sp [.ref a] H (fun v H' => ∃ k : Nat, v = .int k ∧ k ≤ sizeLine ∧ Q (.int k) H') E) := by
  intro pins s σ H xs us Q I r h
  obtain ⟨a, dx, fs, rfl, ha, hs⟩ := h
  obtain ⟨u, rfl, rx⟩ := vals1 r
  cases rx
  obtain ⟨od, J⟩ := inst_at I ha
  obtain ⟨m, hF⟩ := I.fr
  refine PySem.W.len_K hF I.ok.mod.kin J o.find o.fn (thn (run_own (Sub.here hr).in1 F hb hx I (show Vals [V.ref a] [Value.ref a] from .cons rfl .nil) hs) fun v s' q => ?_)
  obtain ⟨y, H', I', ry, k, rfl, hk, q⟩ := q
  obtain ⟨t, rfl⟩ := ry
  have h63 := line63
  exact ⟨⟨by omega, by omega⟩, .int k, H', I'.tok _, ⟨_, rfl⟩, q⟩
/-- v in o, v not in o by an own __contains__ that gives True or False -/
theorem op_inOwn (F : FnOk X.prog X.w X.K X.mg X.base CX n f fd ps sp) (hb : Binds X.K fd ps []) (hx : Passes CX X E) (o : Own X.K C "__contains__" f) (hr : Room n X.A) :
    OpR X (compareOp .In) (fun x y H Q => ∃ a dx fs, y = .ref a ∧ H a = some (.ins C dx fs) ∧ sp [.ref a, x] H (fun v H' => ∃ b, v = .bl b ∧ Q (.bl b) H') E) := by
  intro pins s σ H x y v u Q I rx ry h
  obtain ⟨a, dx, fs, rfl, ha, hs⟩ := h
  cases ry
  obtain ⟨od, J⟩ := inst_at I ha
  obtain ⟨m, hF⟩ := I.fr
  refine PySem.W.in_K hF I.ok.mod.kin J o.find o.fn (thn (run_own (Sub.here hr) F hb hx I (show Vals [V.ref a, x] [Value.ref a, v] from .cons rfl (.cons rx .nil)) hs) fun v s' q => ?_)
  obtain ⟨y, H', I', ry, b, rfl, q⟩ := q
  cases ry
  exact wpAny_truthy_bool ⟨.bl b, H', I', rfl, q⟩
theorem op_notInOwn (F : FnOk X.prog X.w X.K X.mg X.base CX n f fd ps sp) (hb : Binds X.K fd ps []) (hx : Passes CX X E) (o : Own X.K C "__contains__" f) (hr : Room n X.A) :
    OpR X (compareOp .NotIn) (fun x y H Q => ∃ a dx fs, y = .ref a ∧ H a = some (.ins C dx fs) ∧ sp [.ref a, x] H (fun v H' => ∃ b, v = .bl b ∧ Q (.bl (!b)) H') E) := by
  intro pins s σ H x y v u Q I rx ry h
  obtain ⟨a, dx, fs, rfl, ha, hs⟩ := h
  cases ry
  obtain ⟨od, J⟩ := inst_at I ha
  obtain ⟨m, hF⟩ := I.fr
  refine PySem.W.notIn_K hF I.ok.mod.kin J o.find o.fn (thn (run_own (Sub.here hr) F hb hx I (show Vals [V.ref a, x] [Value.ref a, v] from .cons rfl (.cons rx .nil)) hs) fun v s' q => ?_)
  obtain ⟨y, H', I', ry, b, rfl, q⟩ := q
  cases ry
  exact wpAny_truthy_bool ⟨.bl (!b), H', I', rfl, q⟩
/-- o[k] by an own __getitem__ -/
theorem pe_ixOwn {a b : Expr} {ta tb : TE} {pos : Pos} (F : FnOk X.prog X.w X.K X.mg X.base CX n f fd ps sp) (hb : Binds X.K fd ps []) (hx : Passes CX X E) (o : Own X.K C "__getitem__" f) (hf : PySem.W.fnIn X.K f = true) (hr : Room (n + 1) X.A) (hA : PE X a ta) (hB : PE X b tb)
    (hsl : ∀ v u, subscripted b true v u = runValue (.builtin "lifetime.subscript" ⟨[v, u], []⟩) := by intro _ _; rfl) :
    PE X (.Subscript a b pos) (tOp (fun x y H Q => ∃ a dx fs, x = .ref a ∧ H a = some (.ins C dx fs) ∧ sp [.ref a, y] H Q E) ta tb) := by
  refine ⟨fun pins s σ H Q I h => ?_⟩
  refine Subscript_ (binT hA hB I h fun v u s2 x y H2 I2 rx ry q => ?_)
  obtain ⟨a, dx, fs, rfl, ha, hs⟩ := q
  cases rx
  obtain ⟨od, J⟩ := inst_at I2 ha
  obtain ⟨m, hF⟩ := I2.fr
  exact PySem.W.sub_K hF I2.ok.mod.kin J o.find hf o.fn (run_own (Sub.here hr).in1 F hb hx I2 (show Vals [V.ref a, y] [Value.ref a, u] from .cons rfl (.cons ry .nil)) hs) (hsl _ _)
/-- str(o) by an own __str__ -/
theorem call_strOwn (F : FnOk X.prog X.w X.K X.mg X.base CX n f fd ps sp) (hb : Binds X.K fd ps []) (hx : Passes CX X E) (o : Own X.K C "__str__" f) (hr : Room (n + 2) X.A) :
    CallR X (.type "str") (fun xs H Q => ∃ a dx fs, xs = [.ref a] ∧ H a = some (.ins C dx fs) ∧ sp [.ref a] H (fun v H' => ∃ z, v = .str z ∧ Q (.str z) H') E) := by
  intro pins s σ H xs us Q I r h
  obtain ⟨a, dx, fs, rfl, ha, hs⟩ := h
  obtain ⟨u, rfl, rx⟩ := vals1 r
  cases rx
  obtain ⟨od, J⟩ := inst_at I ha
  have sb : Sub X n X.A.in1.in1 := (Sub.in1 (Sub.in1 (Sub.here hr)))
  refine PySem.W.kso_call sb.room.units0 I.kIn J o.find o.fn (thn (run_own sb F hb hx I (show Vals [V.ref a] [Value.ref a] from .cons rfl .nil) hs) fun v s' q => ?_)
  obtain ⟨y, H', I', ry, z, rfl, q⟩ := q
  obtain ⟨t, rfl⟩ := ry
  exact ⟨.str z, H', I', ⟨_, rfl⟩, q⟩
end
end L2

set_option Elab.async false
set_option linter.all false
set_option maxRecDepth 100000
set_option maxHeartbeats 4000000
/-! == and != by an own __eq__ that gives True or False. -/
namespace PySem.W
open PySem PySem.Calls PyProof.Rows Builtin
section
variable {prog : Program} {w : World} {A : Around} {E : Value → Shared → Prop} {s : Shared} {K : Frag} {x C L f : Addr} {h₀ : Heap} {m : Str → Option Value} {ox : Obj} {od : Option Obj} {b tb : Value}
theorem ifBoundB_K {M : Model} {name : Str} {id : String} {args : List Value} {Q : Option Value → Shared → Prop} (X : K.In s.heap) (I : InstAt s.heap x ox C od) (hs : findIn K (.ref C) name = some (some (.builtin id)))
    (hb : ∀ self, bindSpecial (.builtin id) self = pure (.builtin id, [self]))
    (h : wpAny M A (call (.builtin id) (.ref x :: args)) (fun v => Q (some v)) E s) : wpAny M A (callSpecialIfBound? (.ref x) name args) Q E s := by
  simp only [callSpecialIfBound?, bindSpecialIfBound?]
  refine wpAny_holding (wpAny_bind (wpAny_bind (wpAny_bind (I.type.here ((looks_findIn X hs).here ?_)))))
  simp only [hb]
  refine wpAny_bind (wpAny_askSetting (wpAny_ite ?_))
  have fin : wpAny M A (call (.builtin id) ([.ref x] ++ args) >>= fun v => pure (some v)) Q E s := wpAny_bind (wpAny_mono h (fun v s' h' => wpAny_pure h') fun _ _ h' => h')
  split
  · exact wpAny_bind (wpAny_pure (wpAny_pure (by exact fin)))
  · exact wpAny_tryCatch (wpAny_bind (wpAny_pure (wpAny_pure (by exact fin))))
theorem neO_K {Q : Value → Shared → Prop} (hu : A.in1.units < cLine) (X : K.In s.heap) (I : InstAt s.heap x ox C od) (hm : mroIn K C (.type "object") = some true) (hs : findIn K (.ref C) "__eq__" = some (some (.ref f))) (hf : isFn K (.ref f) = true)
    (h : wpAny (model prog w) A.in1 (call (.ref f) [.ref x, b]) (fun v s' => ∃ r, v = .bool r ∧ Q (.bool (!r)) s') E s) : wpAny (model prog w) A (call (.builtin "object.__ne__") [.ref x, b]) Q E s := by
  refine wpAny_call (codeAny_call_builtin F.cmp_object.ne.plain F.cmpEntry_ne (check_slot (i := "object.__ne__") (owner := "object") (n := "__ne__") F.cmpKind_ne F.cmpSplit_ne (I.type.andThen (looks_mroIn X hm)) (F.cmpArgs_ne _ _) ?_))
  unfold Builtin.«object.__ne__»
  refine wpAny_bind (m := slotArgs "__ne__" 1 _) (wpAny_pure ?_)
  refine wpAny_bind (m := cRoomFor _ _) (wpAny_cRoomFor hu ?_)
  refine wpAny_bind (m := callSpecialIfBound? (.ref x) (Str.ofString "__eq__") _) (ifBound_K X I hs hf (wpAny_mono h (fun r s' hq => ?_) fun _ _ y => y))
  obtain ⟨r, rfl, hq⟩ := hq
  exact wpAny_bind (wpAny_truthy_bool (wpAny_pure hq))
theorem neq_K {Q : Value → Shared → Prop} (hu : A.in1.units < cLine) (hu0 : A.units < cLine) (F : Fr h₀ L s.heap m) (X₀ : K.In h₀) (I : InstAt s.heap x ox C od) (hb : Looks (model prog w) s.heap (typeOf b) tb) (hn : notFirst K C tb = true)
    (hne : findIn K (.ref C) "__ne__" = some (some (.builtin "object.__ne__"))) (hm : mroIn K C (.type "object") = some true) (hs : findIn K (.ref C) "__eq__" = some (some (.ref f))) (hf : isFn K (.ref f) = true)
    (h : wpAny (model prog w) A.in1 (call (.ref f) [.ref x, b]) (fun v s' => ∃ r, v = .bool r ∧ Q (.bool (!r)) s') E s) : wpAny (model prog w) A (richCompare .NotEq (.ref x) b) Q E s := by
  have X := X₀.keeps F.keep
  have one : wpAny (model prog w) A (tryCompare (.ref x) (cmpInfo .NotEq).2.1 b) (fun r s' => ∃ v, r = some v ∧ Q v s') E s := by
    unfold tryCompare
    refine wpAny_bind (ifBoundB_K X I (by exact hne) PySem.F.cmp_object.ne.bind ?_)
    refine wpAny_mono (neO_K (Q := fun v s' => ∃ r, v = .bool r ∧ Q (.bool r) s') hu X I hm hs hf (wpAny_mono h (fun v s' hv => ?_) fun _ _ e => e)) (fun v s' hv => ?_) fun _ _ e => e
    · obtain ⟨r, rfl, hq⟩ := hv
      exact ⟨r, rfl, !r, rfl, hq⟩
    · obtain ⟨r, rfl, hq⟩ := hv
      exact wpAny_pure ⟨_, rfl, hq⟩
  unfold richCompare
  simp only [oneThing_ref]
  refine wpAny_holding (wpAny_bind (wpAny_cRoomFor hu0 ?_))
  refine wpAny_bind (I.type.here (wpAny_bind (hb.here ?_)))
  split
  · rename_i q
    have e : subIn K tb (.ref C) = some false := by
      rcases Bool.or_eq_true_iff.mp hn with e | e
      · rw [beq_iff_eq.mp e] at q; simp at q
      · exact beq_iff_eq.mp e
    refine wpAny_bind ((looks_subIn X e).here ?_)
    simp only [Bool.false_eq_true, if_false]
    refine wpAny_bind (wpAny_mono one (fun r s' z => ?_) fun _ _ e => e)
    obtain ⟨v, rfl, hq⟩ := z
    exact wpAny_pure hq
  · refine wpAny_bind (wpAny_pure ?_)
    simp only [Bool.false_eq_true, if_false]
    refine wpAny_bind (wpAny_mono one (fun r s' z => ?_) fun _ _ e => e)
    obtain ⟨v, rfl, hq⟩ := z
    exact wpAny_pure hq
end
end PySem.W
namespace L2
open PySem PySem.Spec PyProof.Rows
section
variable {X : Cx} {n : Nat} {CX : CXT} {C f : Addr} {fd : FuncData} {ps : List Str} {sp : Sp} {E : XK}
def rEqOwn (K : PySem.W.Frag) (C : Addr) (sp : Sp) (E : XK) (g : Bool → Bool) : R2 := fun x y H Q => ∃ a dx fs tb, x = .ref a ∧ H a = some (.ins C dx fs) ∧ TyX K H y tb ∧ PySem.W.notFirst K C tb = true ∧ sp [.ref a, y] H (fun v H' => ∃ b, v = .bl b ∧ Q (.bl (g b)) H') E
theorem op_eqOwn (F : FnOk X.prog X.w X.K X.mg X.base CX n f fd ps sp) (hb : Binds X.K fd ps []) (hx : Passes CX X E) (o : Own X.K C "__eq__" f) (hr : Room n X.A) : OpR X (compareOp .Eq) (rEqOwn X.K C sp E id) := by
  intro pins s σ H x y v u Q I rx ry h
  obtain ⟨a, dx, fs, tb, rfl, ha, ty, hn, hs⟩ := h
  cases rx
  obtain ⟨od, J⟩ := inst_at I ha
  obtain ⟨m, hF⟩ := I.fr
  obtain ⟨P, Z, p, _⟩ := kit_of I ry ty
  refine PySem.W.cmp_K (op := .Eq) hr.units0 hF I.ok.mod.kin J (Z.ty _ _ I.kIn p) hn o.find o.fn (thn (run_own (Sub.here hr) F hb hx I (show Vals [V.ref a, y] [Value.ref a, u] from .cons rfl (.cons ry .nil)) hs) fun v s' q => ?_)
  obtain ⟨y, H', I', ry, b, rfl, q⟩ := q
  cases ry
  exact ⟨.bl b, H', I', rfl, q⟩
theorem op_neOwn (F : FnOk X.prog X.w X.K X.mg X.base CX n f fd ps sp) (hb : Binds X.K fd ps []) (hx : Passes CX X E) (o : Own X.K C "__eq__" f) (hne : PySem.W.findIn X.K (.ref C) "__ne__" = some (some (.builtin "object.__ne__")))
    (hm : PySem.W.mroIn X.K C (.type "object") = some true) (hr : Room (n + 1) X.A) : OpR X (compareOp .NotEq) (rEqOwn X.K C sp E not) := by
  intro pins s σ H x y v u Q I rx ry h
  obtain ⟨a, dx, fs, tb, rfl, ha, ty, hn, hs⟩ := h
  cases rx
  obtain ⟨od, J⟩ := inst_at I ha
  obtain ⟨m, hF⟩ := I.fr
  obtain ⟨P, Z, p, _⟩ := kit_of I ry ty
  refine PySem.W.neq_K hr.in1.units0 hr.units0 hF I.ok.mod.kin J (Z.ty _ _ I.kIn p) hn hne hm o.find o.fn (thn (run_own (Sub.here hr).in1 F hb hx I (show Vals [V.ref a, y] [Value.ref a, u] from .cons rfl (.cons ry .nil)) hs) fun v s' q => ?_)
  obtain ⟨y, H', I', ry, b, rfl, q⟩ := q
  cases ry
  exact ⟨b, rfl, .bl (!b), H', I', rfl, q⟩
end
end L2

set_option Elab.async false
set_option linter.all false
set_option maxRecDepth 100000
set_option maxHeartbeats 4000000
/-! for x in o, by an own __iter__ that gives iter(a tuple). -/
namespace L2
open PySem PySem.Spec PyProof.Rows ItX
abbrev itTObj (l : Addr) : Obj := { cls := .type "tuple_iterator", data := .fields #[.ref l, .int 0 0] }
/-- at it a fresh iterator of the tuple at l -/
def ItT (l it : Addr) : HO := .ext fun h => h.get? it = some (itTObj l)
theorem itT_ok {P : Program} {w : World} {H : Hp} {h : Heap} {l it : Addr} (e : h.get? it = some (itTObj l)) : ObjOk P w H h it (ItT l it) := ⟨e, ⟨_, e⟩, fun h1 h2 q k => k _ q⟩
theorem call_iterTup {prog : Program} {w : World} {A : Around} {E : Value → Shared → Prop} {s : Shared} {l : Addr} {items : Array Value} {Q : Value → Shared → Prop} (hl : s.heap.IsTuple l items) (h : Q (.ref s.heap.objs.size) { s with heap := s.heap.push (itTObj l) }) : wpAny (model prog w) A (call (.builtin "iter") [.ref l]) Q E s := by
  refine Calls.call_function_entry (by decide +kernel) (by decide +kernel) PySem.W.kdk_entry_iter (PySem.W.kdk_args_iter _) ?_
  unfold Builtin.«iter»
  refine wpAny_bind (m := someArgs "iter" 1 2 _) (wpAny_of_eq (a := [Value.ref l]) (by first | rfl | kernel_rfl!) ?_)
  show wpAny _ _ (pyIter (.ref l) >>= _) _ _ _
  refine wpAny_bind (wpAny_pyIter_tuple hl ?_)
  exact wpAny_pure ⟨_, rfl, h⟩
section
variable {X : Cx}
theorem call_iterT : CallR X (.builtin "iter") (fun xs H Q => ∃ (l : Addr) (zs : List V), xs = [.ref l] ∧ SqT X.K H l zs ∧ ∀ it, H it = none → X.s_0.heap.objs.size ≤ it → Q (.ref it) (upd H it (ItT l it))) := by
  intro pins s σ H xs us Q I r h
  obtain ⟨l, zs, rfl, hq, q⟩ := h
  obtain rfl := Vals.ref1 r
  obtain ⟨its, rv, pl, hz⟩ := I.tuple hq
  refine call_iterTup (show s.heap.IsTuple l its.toArray from pl) ?_
  exact ⟨.ref s.heap.objs.size, _, I.laid (t' := s.toks) (fun b u e => Heap.get?_push_of_some _ e) (Nat.le_refl _) (itT_ok (Heap.get?_push_size _ rfl)), rfl, q _ (I.hok.fresh (Nat.le_refl _)) I.sz⟩
variable {n : Nat} {CX : CXT} {C f : Addr} {fd : FuncData} {ps : List Str} {sp : Sp} {E : XK}
/-- a def whose promise may speak of how many objects stand at its entry -/
structure FnN (P : Program) (w : World) (K : PySem.W.Frag) (mg : Str → Option Value) (base : Heap) (CX : CXT) (k : Nat) (f : Addr) (fd : FuncData) (ps : List Str) (sn : Nat → Sp) : Prop where
  many : ∀ m vs H Q E, sn m vs H Q E → vs.length = ps.length
  goes : ∀ (A : Around) (outer : List Env) (s : Shared) (H : Hp) (args : Args) (us : List Value) (vs : List V) (Q : VK) (E : XK), Room k A → Env0 P w K mg base A outer s H → BindsTo s fd args (ps.zip us) → Vals vs us →
    sn s.heap.objs.size vs H Q E → codeAny (model P w) A (.call (.ref f) args) (CR CX outer P w H s Q E) s
theorem fnN_mk {CX : CXT} {P : Program} {w : World} {K : PySem.W.Frag} {mg : Str → Option Value} {base : Heap} {k : Nat} {f : Addr} {x qual : Str} {st : Stmt} {fd : FuncData} {N ps : List Str} {sn : Nat → Sp}
    (F : Fun K x qual st f fd) (S : FnScope N ps (defScope st)) (many : ∀ m vs H Q E, sn m vs H Q E → vs.length = ps.length)
    (body : ∀ (cdv : Value) (A : Around) (outer : List Env) (s : Shared) (H : Hp) (vs : List V) (Q : VK) (E : XK), Room k (A.deeper (envOfC qual (defScope st) s.heap.objs.size f cdv)) → sn s.heap.objs.size vs H Q E →
      ∃ t, PSs (cxOf CX P w K mg base N qual (defScope st) f cdv A outer s H E) (defBody st) t ∧ t { nx := fun _ H' => Q .non H', rt := Q } (start N vs) H) : FnN P w K mg base CX (k + 1) f fd ps sn := by
  obtain ⟨oc, od, kV, doc, pm, an, cdv, ct, osl, rfl, lk, hcd⟩ := F.ex
  refine ⟨many, fun A₁ out s₁ H₁ ar us₁ vs₁ Q₁ E₁ room ev bd rel prom => ?_⟩
  have len₁ := many _ _ _ _ _ prom
  have kin₁ : K.In s₁.heap := ev.mod.kin.keeps (fun a o z => (ev.bs a o z).left)
  have kinds : ∀ y ∈ ps.zip us₁, (defScope st).names.lookup y.1 = some .local ∨ ((defScope st).names.lookup y.1 = some .cell ∧ ((cellsFrom (s₁.heap.objs.size + 1) (defScope st).names []).lookup y.1).isSome = true) := by
    rintro ⟨nm, vl⟩ mem
    rcases S.par nm (List.of_mem_zip mem).1 with z | z
    · exact Or.inl z
    · exact Or.inr ⟨z, PySem.W.cellsFrom_some _ _ _ (Or.inl z)⟩
  refine codeAny_call_function room.depth (kin₁ _ _ lk) rfl S.co S.gen rfl (PySem.W.codeRec_of kin₁ hcd) (bd _ _ _ _ ?_)
  refine wpAny_newFunctionEnv_cells S.kind kinds (fun e₁ is₁ s₂ made => ?_)
  subst is₁
  refine ⟨Heap.NoLimit.keeps (ev.mod.nolimit.keeps fun a o z => (ev.bs a o z).left) made.toInCall.keep, codeAny_func ?_⟩
  obtain ⟨t₁, term, reads⟩ := body cdv A₁ out s₁ H₁ vs₁ Q₁ E₁ (room.deeper _) prom
  have inv₁ := inv_start (CX := CX) (P := P) (w := w) (mg := mg) (base := base) (E := E₁) S room.hd ev len₁ rel made
  refine wpAny_mono (term.run [] s₂ (start N vs₁) H₁ _ inv₁ reads) (fun flow s₃ done => ?_) (fun _ _ z => z)
  cases flow with
  | ret u₁ =>
    obtain ⟨v₁, _, H₂, J, rv, q⟩ := done
    exact ⟨v₁, H₂, J.os, J.bare, J.base, J.hok, rv, q⟩
  | next =>
    obtain ⟨_, H₂, J, q⟩ := done
    exact ⟨V.non, H₂, J.os, J.bare, J.base, J.hok, rfl, q⟩
  | brk => exact (done.elim fun _ z => z.elim fun _ z => z.2).elim
  | cont => exact (done.elim fun _ z => z.elim fun _ z => z.2).elim
variable {sn : Nat → Sp}
theorem run_N {A : Around} {pins : List (Addr × Obj)} {σ : St} {H : Hp} {s : Shared} {Q : VK} {us : List Value} {vs : List V} (sb : Sub X n A) (F : FnN X.prog X.w X.K X.mg X.base CX n f fd ps sn) (hb : Binds X.K fd ps []) (hx : Passes CX X E)
    (I : Inv X pins σ H s) (r : Vals vs us) (h : sn s.heap.objs.size vs H Q E) : wpAny (model X.prog X.w) A (call (.ref f) us) (EP X pins σ Q) X.xe s := by
  have e0 : Env0 X.prog X.w X.K X.mg X.base A X.stack s H := by
    have e := I.env0
    exact ⟨by rw [sb.fr]; exact e.frames, e.mod, e.bs, e.bsz, e.funs, e.frf, e.hok, e.bare⟩
  have hl := F.many _ _ _ _ _ h
  have hl2 : us.length = ps.length := by rw [← r.length]; exact hl
  refine wpAny_call (codeAny_mono (F.goes A X.stack s H ⟨us, []⟩ us vs Q E sb.room e0 (by
    have := hb s us I.kIn (by simpa using hl2)
    simpa using this) r h) fun r s' hq => ?_)
  cases r with
  | error e => exact hx pins σ H s e s' I hq
  | ok fl =>
    cases fl with
    | ret w => exact I.after hq
    | next => exact False.elim hq
    | brk => exact False.elim hq
    | cont => exact False.elim hq
def iOwn (K : PySem.W.Frag) (C : Addr) (m : Nat) (sn : Nat → Sp) (E : XK) (tl : TE) : TI := fun σ H R => tl σ H fun x H1 => ∃ a dx fs, x = .ref a ∧ H1 a = some (.ins C dx fs) ∧
  ∀ k, m ≤ k → sn k [.ref a] H1 (fun v H' => ∃ it t, v = .ref it ∧ k ≤ it ∧ H' it = some (ItT t it) ∧ R (Itt K t) (dropH H' it)) E
theorem pi_own {tg l : Expr} {tl : TE} (F : FnN X.prog X.w X.K X.mg X.base CX n f fd ps sn) (hb : Binds X.K fd ps []) (hx : Passes CX X E) (o : Own X.K C "__iter__" f) (hr : Room n X.A) (hl : PE X l tl) : PI X tg l (iOwn X.K C X.s_0.heap.objs.size sn E tl) := by
  refine ⟨fun pins s σ H R I h => ?_⟩
  refine thn (hl.run pins s σ H _ I h) fun v s1 ⟨x, H1, I1, r1, q1⟩ => ?_
  obtain ⟨a, dx, fs, rfl, ha, hs⟩ := q1
  cases r1
  obtain ⟨od, J⟩ := inst_at I1 ha
  obtain ⟨m, hF⟩ := I1.fr
  refine PySem.W.owit_iter hF I1.ok.mod.kin J o.find o.fn (thn (run_N (Sub.here hr) F hb hx I1 (show Vals [V.ref a] [Value.ref a] from .cons rfl .nil) (hs s1.heap.objs.size I1.sz)) fun v s' q => ?_)
  obtain ⟨y, H', I', ry, ⟨it, t, rfl, hn, hi, q⟩⟩ := q
  cases ry
  have hy := Nat.le_trans I1.sz hn
  have hit : s'.heap.get? it = some (itTObj t) := (I'.hok it _ hi).1
  unfold PySem.W.OwitIt
  refine wpAny_specialOf (T := "tuple_iterator") (v := .ref it) ⟨_, hit, rfl⟩ PySem.F.slot_tuple_iterator_next.lookup ?_
  refine ⟨it, [it], _, _, dropH H' it, rfl, inv_drop I' hi, turn_tuple t _, ⟨_, hit, rfl, rfl⟩, fun b hb => ?_, q⟩
  have e : b = it := by simpa using hb
  subst e
  exact inv_fp I' hi hy
end
end L2

set_option Elab.async false
set_option linter.all false
set_option maxRecDepth 100000
set_option maxHeartbeats 4000000
/-! {**a, **b}: two dicts of ints and texts, one behind the other, into a new one. -/
namespace PySem
open PyProof.Rows
section
variable {prog : Program} {w : World} {A : Around} {E : Value → Shared → Prop} {s : Shared} {K : Type} [DecidableEq K] {knd : KeyKind prog w K}
theorem put_pairs {a : Addr} {old : List (K × Value)} {c : K} {u v : Value} {R : Unit → Shared → Prop} (isC : knd.is c u = true) (D : s.heap.DictOf knd a old)
    (next : ∀ hp, hp.DictOf knd a (stored old c v) → Heap.SameBut a s.heap hp → R () { s with heap := hp }) (few : old.length ≤ sizeLine) :
    wpAny (model prog w) A (dictPut a (knd.hash c) u v) R E s := by
  obtain ⟨ob, es, ep, at_, exact_, dat, keyed, prs, uniq⟩ := D
  have szs : es.size ≤ sizeLine := by
    have l1 := prs.length
    have l2 : es.toList.length = es.size := by simp
    omega
  unfold dictPut
  refine wpAny_bind (wpAny_dictFind_of isC at_ dat keyed ?_)
  have same : (es.findIdx? fun e => knd.is c e.key) = old.findIdx? fun kv => decide (kv.1 = c) := by
    have z := prs.findIdx c
    obtain ⟨lst⟩ := es
    simpa using z
  cases found : es.findIdx? fun e => knd.is c e.key with
  | some j =>
    have there : (old.any fun kv => decide (kv.1 = c)) = true := any_of_findIdx_some (same ▸ found)
    refine wpAny_updateDict at_ dat (next _ ⟨_, _, ep, Heap.get?_update_self _ at_ (Obj.isFreed_of_dict (Obj.data_mapDict dat _)), exact_.mapDict _, Obj.data_mapDict dat _, keyed.modify _ _, ?_, ?_⟩ (Heap.SameBut.update ..))
    · have inList : (es.toList.findIdx? fun e => knd.is c e.key) = some j := by
        rw [← found]
        obtain ⟨lst⟩ := es
        simp
      have z := prs.modify uniq inList v
      rw [stored, if_pos there]
      obtain ⟨lst⟩ := es
      simpa using z
    · rw [stored, if_pos there, keys_map_store]
      exact uniq
  | none =>
    have notIn : c ∉ old.map (·.1) := not_mem_of_findIdx_none (same ▸ found)
    have gone : ¬ (old.any fun kv => decide (kv.1 = c)) = true := fun z => by
      obtain ⟨kv, mem, eq⟩ := List.any_eq_true.mp z
      exact notIn (List.mem_map.mpr ⟨kv, mem, of_decide_eq_true eq⟩)
    refine wpAny_updateDictKeys (hz := szs) at_ dat (next _ ⟨_, _, ep + 1, Heap.get?_update_self _ at_ (Obj.isFreed_of_dict (Obj.data_mapDictKeys dat _)), exact_.mapDictKeys _, Obj.data_mapDictKeys dat _, keyed.push isC _, ?_, ?_⟩ (Heap.SameBut.update ..))
    · have z := prs.append isC (knd.hash c) v
      rw [stored, if_neg gone]
      obtain ⟨lst⟩ := es
      simpa using z
    · rw [stored, if_neg gone, List.map_append]
      refine List.nodup_append.mpr ⟨uniq, by simp, fun x hx y hy => ?_⟩
      have ey : y = c := by simpa using hy
      intro exy
      exact notIn (by rw [← ey, ← exy]; exact hx)
end
section
variable {prog : Program} {w : World} {A : Around} {E : Value → Shared → Prop} {s : Shared}
open L2
theorem dict_sub : isSubtype (.type "dict") (.type "dict") = pure true := by rw [isSubtype_type]; kernel_rfl
theorem mergeMapping_mix {d o : Addr} {kvs more : List (Key × Value)} {Q : Unit → Shared → Prop} (hdo : d ≠ o) (hoS : (o == sysModules) = false)
    (hd : s.heap.DictOf (mixKind prog w) d kvs) (ho : s.heap.DictOf (mixKind prog w) o more)
    (hQ : ∀ h', h'.DictOf (mixKind prog w) d (merged kvs more) → Heap.SameBut d s.heap h' → Q () { s with heap := h' }) (hsz : kvs.length + more.length ≤ sizeLine) :
    wpAny (model prog w) A (mergeMapping d (.ref o) false) Q E s := by
  obtain ⟨oo, eso, epo, hoo, hco, hdo', hko, hpo, hno⟩ := id ho
  obtain ⟨od, esd, epd, hod, hcd, hdd, _⟩ := id hd
  have hlen : more.length = eso.size := by
    have z := hpo.length
    simpa using z.symm
  have loop : wpAny (model prog w) A (do
      let l ← dictEntries o
      let epoch ← dictEpoch o
      forIn (List.range l.size) PUnit.unit fun i (_ : PUnit) => (do
        let l' ← dictEntries o
        match l'[i]? with
          | some e => do
            holding [e.key, e.val] (dictPut d e.hash e.key e.val)
            let ep' ← dictEpoch o
            if (ep' != epoch) = true then do
                (unsupported "dict.changed-during-merge" : Sem PUnit)
                pure (ForInStep.yield PUnit.unit)
              else pure (ForInStep.yield PUnit.unit)
          | _ => do
            (unsupported "dict.changed-during-merge" : Sem PUnit)
            pure (ForInStep.yield PUnit.unit) : Sem (ForInStep PUnit))
      pure ()) Q E s := by
    refine wpAny_bind (wpAny_dictEntries hoo hdo' ?_)
    refine wpAny_bind (wpAny_dictEpoch hoo hdo' ?_)
    refine wpAny_bind ?_
    refine wpAny_forIn_list _ (fun left _ t => ∃ hp j, t = { s with heap := hp } ∧ left = (List.range eso.size).drop j ∧ j ≤ eso.size ∧ hp.DictOf (mixKind prog w) d (merged kvs (more.take j)) ∧ hp.get? o = some oo ∧ Heap.SameBut d s.heap hp) _ ?_ ?_ _ _
      ⟨s.heap, 0, rfl, by simp, Nat.zero_le _, by simpa [merged] using hd, hoo, Heap.SameBut.refl _ _⟩
    · rintro y left b t ⟨hp, j, rfl, hr, hj, hdj, hoj, hsb⟩
      have hlt : j < eso.size := by
        rcases Nat.lt_or_ge j eso.size with z | z
        · exact z
        · rw [List.drop_of_length_le (by rw [List.length_range]; exact z)] at hr
          cases hr
      have hd1 : (List.range eso.size).drop j = j :: (List.range eso.size).drop (j + 1) := by
        rw [List.drop_eq_getElem_cons (by rw [List.length_range]; exact hlt), List.getElem_range]
      rw [hd1] at hr
      obtain ⟨rfl, hleft⟩ : y = j ∧ left = (List.range eso.size).drop (j + 1) := by
        injection hr with z1 z2
        exact ⟨z1, z2⟩
      refine wpAny_bind (wpAny_dictEntries hoj hdo' ?_)
      rw [Array.getElem?_eq_getElem hlt]
      have hym : y < more.length := by rw [hlen]; exact hlt
      obtain ⟨isK, isV⟩ := hpo.get? (e := eso[y]) (by simp [hlt]) (List.getElem?_eq_getElem hym)
      obtain ⟨c, isC, isH⟩ := hko eso[y] (Array.getElem_mem hlt)
      have ec : c = more[y].1 := (mixKind prog w).inj _ _ _ isC isK
      show wpAny _ _ (holding [eso[y].key, eso[y].val] (dictPut d eso[y].hash eso[y].key eso[y].val) >>= _) _ _ _
      rw [isH, isV]
      have few : (merged kvs (more.take y)).length ≤ sizeLine := by
        have z1 := merged_length_le kvs (more.take y)
        have z2 : (more.take y).length ≤ more.length := by rw [List.length_take]; omega
        omega
      refine wpAny_bind (wpAny_holding (put_pairs isC hdj (fun hp2 hd2 hs2 => ?_) few))
      have ho2 : hp2.get? o = some oo := (hs2.2 o (Ne.symm hdo)).trans hoj
      refine wpAny_bind (wpAny_dictEpoch ho2 hdo' ?_)
      rw [if_neg (by simp)]
      refine wpAny_pure ⟨hp2, y + 1, rfl, hleft, hlt, ?_, ho2, hsb.trans hs2⟩
      rw [merged_take_succ kvs more y more[y] (List.getElem?_eq_getElem hym), ← ec]
      exact hd2
    · rintro b t ⟨hp, j, rfl, hr, hj, hdj, hoj, hsb⟩
      have hje : j = eso.size := by
        rcases Nat.lt_or_ge j eso.size with z | z
        · have e := congrArg List.length hr
          rw [List.length_drop, List.length_range] at e
          simp at e
          omega
        · exact Nat.le_antisymm hj z
      refine wpAny_pure (hQ hp ?_ hsb)
      rw [hje, ← hlen, List.take_length] at hdj
      exact hdj
  unfold mergeMapping
  refine wpAny_bind (wpAny_isInstance (T := "dict") (b := true) ho.typeIs dict_sub ?_)
  simp only [if_true]
  refine wpAny_bind (wpAny_specialOf (T := "dict") (v := .ref o) ho.typeIs PySem.F.slot_dict_iter.lookup (wpAny_bind (wpAny_pure ?_)))
  rw [show (some (Value.builtin "dict.__iter__") == some (Value.builtin "dict.__iter__")) = true from beq_self_eq_true _]
  dsimp only
  rw [if_neg (by rw [hoS]; exact Bool.false_ne_true)]
  refine wpAny_bind (wpAny_dictEntries hod hdd ?_)
  split
  · refine wpAny_bind (wpAny_dictEntries hoo hdo' ?_)
    refine wpAny_bind ?_
    rw [← Array.forIn_toList]
    refine wpAny_forIn_list _ (fun (left : List DictEntry) _ t => t = s ∧ ∀ e ∈ left, ∃ c : Key, keyIs c e.key = true) _ ?_ ?_ _ _ ⟨rfl, fun e he => ?_⟩
    · rintro e left b t ⟨rfl, all⟩
      obtain ⟨c, hc⟩ := all e List.mem_cons_self
      have more' : ∀ e ∈ left, ∃ c : Key, keyIs c e.key = true := fun e he => all e (List.mem_cons_of_mem _ he)
      rcases keyIs_shape hc with ⟨i, u, _, ek⟩ | ⟨z, u, _, ek⟩
      · rw [ek]
        exact wpAny_pure ⟨rfl, more'⟩
      · rw [ek]
        exact wpAny_pure ⟨rfl, more'⟩
    · rintro b t ⟨rfl, _⟩
      exact loop
    · obtain ⟨c, hc, _⟩ := hko e (by simpa using he)
      exact ⟨c, hc⟩
  · exact loop
end
end PySem

set_option Elab.async false
set_option linter.all false
set_option maxRecDepth 100000
set_option maxHeartbeats 4000000
namespace L2
open PySem PySem.Spec PyProof.Rows
/-- {**a, **b}: a new dict stands empty at p, the first one's pairs come into it, then the second one's -/
def tMerge2 (t1 t2 : TE) : TE := fun σ H Q => ∀ p, H p = none → t1 σ (upd H p (.dK [])) fun x H1 => ∃ a kvs, x = .ref a ∧ a ≠ p ∧ H1 p = some (.dK []) ∧ Rd H1 a (.dK kvs) ∧ kvs.length ≤ 1000 ∧
  t2 σ (upd H1 p (.dK (mergeK [] kvs))) fun y H2 => ∃ b acc more, y = .ref b ∧ b ≠ p ∧ H2 p = some (.dK acc) ∧ acc.length ≤ 1000 ∧ Rd H2 b (.dK more) ∧ more.length ≤ 1000 ∧ Q (.ref p) (upd H2 p (.dK (mergeK acc more)))
section
variable {X : Cx}
theorem merge_in {pins : List (Addr × Obj)} {σ : St} {H : Hp} {s : Shared} {p a : Addr} {acc kvs : List (Key × V)} {R : Unit → Shared → Prop} {E : Value → Shared → Prop} {A : Around} (I : Inv X pins σ H s) (ne : a ≠ p) (hp : H p = some (.dK acc)) (ha : Rd H a (.dK kvs))
    (l1 : acc.length ≤ 1000) (l2 : kvs.length ≤ 1000) (k : ∀ s', Inv X pins σ (upd H p (.dK (mergeK acc kvs))) s' → R () s') : wpAny (model X.prog X.w) A (mergeMapping p (.ref a) false) R E s := by
  obtain ⟨z, hd, vs, r, dd⟩ := dk_of I.hok hp
  obtain ⟨z2, hd2, ws, r2, dd2⟩ := dk_rd I.hok ha
  have e1 : vs.length = acc.length := (Paired.length r).symm
  have e2 : ws.length = kvs.length := (Paired.length r2).symm
  refine mergeMapping_mix (Ne.symm ne) hd2 dd dd2 (fun h' dd' sb => k _ ?_) (by rw [sizeLine_eq]; omega)
  have hz : (mergeK acc kvs).length ≤ sizeLine := by
    have h1 := length_mergeK kvs acc
    rw [sizeLine_eq]; omega
  have he : ∃ q, h'.get? p = some q := let ⟨q, _, _, hq, _⟩ := dd'; ⟨q, hq⟩
  exact d_write I (by rw [hp]; exact True.intro) sb he (dk_new hz hd (r2.merge r) dd')
theorem pe_merge2 {e1 e2 : Expr} {t1 t2 : TE} {pos : Pos} (h1 : PE X e1 t1) (h2 : PE X e2 t2) : PE X (.Dict [none, none] [e1, e2] pos) (tMerge2 t1 t2) := by
  refine ⟨fun pins s σ H Q I q => ?_⟩
  have hn := I.hok.fresh (Nat.le_refl s.heap.objs.size)
  have I1 := I.laid (a := s.heap.objs.size) (o := .dK []) (h' := s.heap.push { cls := .type "dict", data := .dict #[] }) (t' := s.toks) (fun _ _ q => Heap.get?_push_of_some _ q) (Nat.le_refl _) (dk_empty s.heap I.big)
  rw [arm_eval_Dict]
  refine wpAny_bind (wpAny_standAt ?_)
  show wpAny _ _ (dictDisplay [(none, do let x ← eval e1 X.env; standAt pos; pure x), (none, do let x ← eval e2 X.env; standAt pos; pure x)]) _ _ _
  unfold dictDisplay
  simp only [List.forIn_cons, List.forIn_nil, List.isEmpty_nil, if_true]
  refine wpAny_bind (wpAny_bind (wpAny_bind (wpAny_pure ?_)))
  dsimp only
  refine wpAny_bind (wpAny_alloc ?_)
  refine wpAny_bind (wpAny_holding (wpAny_bind (thn (h1.run pins _ σ _ _ I1 (q _ hn)) fun u s1 ⟨x, H1, I2, r1, a, kvs, ex, ne, e0, ra, l1, q1⟩ => ?_)))
  subst ex
  cases r1
  refine wpAny_bind (wpAny_standAt (wpAny_pure ?_))
  refine wpAny_bind (wpAny_onRaise (wpAny_tryCatch (wpAny_onRaise (wpAny_holding (merge_in I2 ne e0 ra (by simp) l1 fun s2 I3 => ?_)))))
  refine wpAny_pure ?_
  dsimp only
  simp only [List.isEmpty_nil, if_true]
  refine wpAny_bind (wpAny_bind (wpAny_pure ?_))
  dsimp only
  refine wpAny_bind (wpAny_pure ?_)
  refine wpAny_bind (wpAny_holding (wpAny_bind (thn (h2.run pins _ σ _ _ I3 q1) fun u s3 ⟨y, H2, I4, r2, b, acc, more, ey, ne2, e1', l2, rb, l3, q2⟩ => ?_)))
  subst ey
  cases r2
  refine wpAny_bind (wpAny_standAt (wpAny_pure ?_))
  refine wpAny_bind (wpAny_onRaise (wpAny_tryCatch (wpAny_onRaise (wpAny_holding (merge_in I4 ne2 e1' rb l2 l3 fun s4 I5 => ?_)))))
  refine wpAny_pure ?_
  dsimp only
  refine wpAny_pure ?_
  simp only [List.isEmpty_nil, if_true]
  refine wpAny_bind (wpAny_pure ?_)
  dsimp only
  exact wpAny_pure ⟨.ref _, _, I5, rfl, q2⟩
end
end L2

set_option Elab.async false
set_option linter.all false
set_option maxRecDepth 100000
set_option maxHeartbeats 4000000
namespace L2
open PySem PySem.Spec PyProof.Rows
/-- a def of the text, by its name, without defaults -/
structure Df (P : Program) (w : World) (K : PySem.W.Frag) (mg : Str → Option Value) (base : Heap) (k : Nat) (x : Str) (sp : Sp) : Prop where
  ex : ∃ (f : Addr) (fd : FuncData) (ps : List Str), FnOk P w K mg base CX0 k f fd ps sp ∧ mg x = some (.ref f) ∧ PySem.W.keepIn K (.ref f) = true ∧ Binds K fd ps []
/-- a method of the text's own, by its address -/
structure Mf (P : Program) (w : World) (K : PySem.W.Frag) (mg : Str → Option Value) (base : Heap) (k : Nat) (C : Addr) (m : Str) (sp : Sp) : Prop where
  ex : ∃ (f : Addr) (fd : FuncData) (ps : List Str), FnOk P w K mg base CX0 k f fd ps sp ∧ Meth K C m f ∧ Own K C m f ∧ PySem.W.fnIn K f = true ∧ Binds K fd ps []
section
variable {X : Cx} {k j : Nat} {C : Addr} {x m : Str} {sp : Sp} {p pos apos : Pos} {e o : Expr} {es : List Expr} {ta tb : TE} {t : TA}
theorem pe_c (c : Df X.prog X.w X.K X.mg X.base k x sp) (hr : Room j X.A) (hk : k ≤ j) (hg : Gl X x) (ha : PA X (e :: es) t)
    (hdb : (x == ("__debug__" : Str)) = false := by decide) (he : starEach (e :: es) X.env = (false, eval e X.env) :: starEach es X.env := by rfl) (hpl : (backTo pos (starEach es X.env)).any (·.1) = false := by rfl) :
    PE X (.Call (.Name x p) (e :: es) [] pos) (tCall sp [] E0 t) := by
  obtain ⟨f, fd, ps, F, hm, kp, b⟩ := c.ex
  exact pe_call F (hr.mono hk) hg hm kp b .nil pass0 ha hdb he hpl
theorem op_inO (c : Mf X.prog X.w X.K X.mg X.base k C "__contains__" sp) (hr : Room j X.A) (hk : k ≤ j) :
    OpR X (compareOp .In) (fun x y H Q => ∃ a dx fs, y = .ref a ∧ H a = some (.ins C dx fs) ∧ sp [.ref a, x] H (fun v H' => ∃ b, v = .bl b ∧ Q (.bl b) H') E0) := by
  obtain ⟨f, fd, ps, F, _, o, _, b⟩ := c.ex
  exact op_inOwn F b pass0 o (hr.mono hk)
theorem op_notInO (c : Mf X.prog X.w X.K X.mg X.base k C "__contains__" sp) (hr : Room j X.A) (hk : k ≤ j) :
    OpR X (compareOp .NotIn) (fun x y H Q => ∃ a dx fs, y = .ref a ∧ H a = some (.ins C dx fs) ∧ sp [.ref a, x] H (fun v H' => ∃ b, v = .bl b ∧ Q (.bl (!b)) H') E0) := by
  obtain ⟨f, fd, ps, F, _, o, _, b⟩ := c.ex
  exact op_notInOwn F b pass0 o (hr.mono hk)
theorem call_lenO (c : Mf X.prog X.w X.K X.mg X.base k C "__len__" sp) (hr : Room j X.A) (hk : k + 1 ≤ j) :
    CallR X (.builtin "len") (fun xs H Q => ∃ a dx fs, xs = [.ref a] ∧ H a = some (.ins C dx fs) ∧ sp [.ref a] H (fun v H' => ∃ k : Nat, v = .int k ∧ k ≤ sizeLine ∧ Q (.int k) H') E0) := by
  obtain ⟨f, fd, ps, F, _, o, _, b⟩ := c.ex
  exact call_lenOwn F b pass0 o (hr.mono hk)
theorem call_strO (c : Mf X.prog X.w X.K X.mg X.base k C "__str__" sp) (hr : Room j X.A) (hk : k + 2 ≤ j) :
    CallR X (.type "str") (fun xs H Q => ∃ a dx fs, xs = [.ref a] ∧ H a = some (.ins C dx fs) ∧ sp [.ref a] H (fun v H' => ∃ z, v = .str z ∧ Q (.str z) H') E0) := by
  obtain ⟨f, fd, ps, F, _, o, _, b⟩ := c.ex
  exact call_strOwn F b pass0 o (hr.mono hk)
theorem pe_ixO {a b : Expr} (c : Mf X.prog X.w X.K X.mg X.base k C "__getitem__" sp) (hr : Room j X.A) (hk : k + 1 ≤ j) (hA : PE X a ta) (hB : PE X b tb)
    (hsl : ∀ v u, subscripted b true v u = runValue (.builtin "lifetime.subscript" ⟨[v, u], []⟩) := by intro _ _; rfl) :
    PE X (.Subscript a b pos) (tOp (fun x y H Q => ∃ a dx fs, x = .ref a ∧ H a = some (.ins C dx fs) ∧ sp [.ref a, y] H Q E0) ta tb) := by
  obtain ⟨f, fd, ps, F, _, o, fi, b⟩ := c.ex
  exact pe_ixOwn F b pass0 o fi (hr.mono hk) hA hB hsl
theorem op_eqO (c : Mf X.prog X.w X.K X.mg X.base k C "__eq__" sp) (hr : Room j X.A) (hk : k ≤ j) : OpR X (compareOp .Eq) (rEqOwn X.K C sp E0 id) := by
  obtain ⟨f, fd, ps, F, _, o, _, b⟩ := c.ex
  exact op_eqOwn F b pass0 o (hr.mono hk)
theorem op_neO (c : Mf X.prog X.w X.K X.mg X.base k C "__eq__" sp) (hne : PySem.W.findIn X.K (.ref C) "__ne__" = some (some (.builtin "object.__ne__"))) (hm : PySem.W.mroIn X.K C (.type "object") = some true) (hr : Room j X.A) (hk : k + 1 ≤ j) :
    OpR X (compareOp .NotEq) (rEqOwn X.K C sp E0 not) := by
  obtain ⟨f, fd, ps, F, _, o, _, b⟩ := c.ex
  exact op_neOwn F b pass0 o hne hm (hr.mono hk)
end
end L2

set_option Elab.async false
set_option linter.all false
set_option maxRecDepth 100000
set_option maxHeartbeats 4000000
/-! The rules whose readings name X.K, with K said: for what stands in a comprehension's block. -/
namespace L2
open PySem PySem.Spec PyProof.Rows
section
variable {X : Cx} {K : PySem.W.Frag} {o e a b : Expr} {es : List Expr} {to ta tb : TE} {t : TA} {name f : Str} {apos cpos pos : Pos} {T id : String} {r : V → List V → Hp → VK → Prop}
theorem pe_bm0K (hK : X.K = K) (pa : PlainAttrs T) (slot : Slot T name id) (hty : typeOf (.builtin id) = pure (.type "method_descriptor")) (hm : MtR X id r) (ho : PE X o to) (hbase : attributeBase o name X.env (eval o X.env) = eval o X.env := by rfl) (hline : (apos.endLine == cpos.line) = true := by rfl) : PE X (.Call (.Attribute o name apos) [] [] cpos) (tBM0 K T r to) := by
  subst hK
  exact pe_bm0 pa slot hty hm ho hbase hline
theorem pe_bmK (hK : X.K = K) (pa : PlainAttrs T) (slot : Slot T name id) (hty : typeOf (.builtin id) = pure (.type "method_descriptor")) (hm : MtR X id r) (ho : PE X o to) (ha : PA X (e :: es) t) (hbase : attributeBase o name X.env (eval o X.env) = eval o X.env := by rfl) (hfew : ((backTo cpos (starEach (e :: es) X.env)).all (fun x => !x.1) && (backToKw cpos (keywordEach [] X.env)).all (fun x => x.1.isSome) && decide ((e :: es).length + ([] : List Keyword).length + (if ([] : List Keyword).isEmpty then 0 else 1) < 30)) = true := by rfl) (hline : (apos.endLine == cpos.line) = true := by rfl) (hs : starEach (e :: es) X.env = (false, eval e X.env) :: starEach es X.env := by rfl) (hplain : (backTo cpos (starEach es X.env)).any (·.1) = false := by rfl) :
    PE X (.Call (.Attribute o name apos) (e :: es) [] cpos) (tBM K T r to t) := by
  subst hK
  exact pe_bm pa slot hty hm ho ha hbase hfew hline hs hplain
theorem pe_fldK (hK : X.K = K) (he : PE X e ta) (hb : attributeBase e f X.env (eval e X.env) = eval e X.env) : PE X (.Attribute e f pos) (tFld K ta f) := by
  subst hK
  exact pe_fld he hb
def rLenSeq (K : PySem.W.Frag) : List V → Hp → VK → Prop := fun xs H Q => ∃ p ys, xs = [.ref p] ∧ (SqL K H p ys ∨ SqT K H p ys) ∧ Q (.int ys.length) H
theorem call_len_seqK (hK : X.K = K) : CallR X (.builtin "len") (rLenSeq K) := by
  subst hK
  exact call_len_seq
theorem ix_listK (hK : X.K = K) : IxR X (rIxL K) := by
  subst hK
  exact ix_list
theorem ix_tupK (hK : X.K = K) : IxR X (rIxT K) := by
  subst hK
  exact ix_tup
theorem sl_listK (hK : X.K = K) : SlR X (rSlL K) := by
  subst hK
  exact sl_list
theorem op_neDK (hK : X.K = K) (hu : X.A.units + 64 < cLine) : OpR X (compareOp .NotEq) (rNeD K) := by
  subst hK
  exact op_neD hu
theorem op_eqDK (hK : X.K = K) (hu : X.A.units + 64 < cLine) : OpR X (compareOp .Eq) (rEqD K) := by
  subst hK
  exact op_eqD hu
def rListOf (K : PySem.W.Frag) : List V → Hp → VK → Prop := fun xs H Q => ∃ p ys, xs = [.ref p] ∧ (SqL K H p ys ∨ SqT K H p ys) ∧ ∀ l, H l = none → Q (.ref l) (upd H l (.lst ys))
theorem call_list_ofK (hK : X.K = K) : CallR X (.type "list") (rListOf K) := by
  subst hK
  exact call_list_of
def rJoin (K : PySem.W.Frag) : V → List V → Hp → VK → Prop := fun x xs H Q => ∃ a p, ∃ ys : List Str, x = .str a ∧ xs = [.ref p] ∧ (SqL K H p (ys.map V.str) ∨ SqT K H p (ys.map V.str)) ∧ (ys.map (·.length)).sum + ys.length * a.length ≤ 16777216 ∧ Q (.str (Txt.join a ys)) H
theorem pe_joinK (hK : X.K = K) (ho : PE X o to) (he : PE X e ta) (hs : starEach [e] X.env = [(false, eval e X.env)] := by rfl) (hbase : attributeBase o "join" X.env (eval o X.env) = eval o X.env := by rfl) (hline : (apos.endLine == pos.line) = true := by rfl) : PE X (.Call (.Attribute o "join" apos) [e] [] pos) (tM1 (rJoin K) to ta) := by
  subst hK
  exact pe_join ho he hs hbase hline
theorem call_strS : CallR X (.type "str") (fun xs H Q => ∃ a, xs = [.str a] ∧ Q (.str a) H) := SkE.call_str_str
def rTupleOf (K : PySem.W.Frag) : List V → Hp → VK → Prop := fun xs H Q => ∃ p ys, xs = [.ref p] ∧ ((SqL K H p ys ∧ ∀ l, H l = none → Q (.ref l) (upd H l (.tup ys))) ∨ (SqT K H p ys ∧ Q (.ref p) H))
theorem call_tuple_ofK (hK : X.K = K) : CallR X (.type "tuple") (rTupleOf K) := by
  subst hK
  exact call_tuple_of
end
end L2

set_option Elab.async false
set_option linter.all false
set_option maxRecDepth 100000
set_option maxHeartbeats 4000000
namespace L2
open PySem PySem.Spec PyProof.Rows
/-- a name of the module holds a value -/
def GV (mg : Str → Option Value) (x : Str) (v : V) : Prop := ∃ u, mg x = some u ∧ RelV v u
theorem pe_gv {X : Cx} {x : Str} {v : V} {pos : Pos} (h : GV X.mg x v) (hg : Gl X x) (hd : (x == ("__debug__" : Str)) = false := by decide) : PE X (.Name x pos) (tC v) := by
  obtain ⟨u, h1, h2⟩ := h
  exact pe_glob hg h1 h2 hd
theorem pj_nil {X : Cx} : PJ X [] [] := .nil
theorem pj_cons {X : Cx} {e : Expr} {t : TE} {es : List Expr} {ts : List TE} (h : PE X e t) (r : PJ X es ts) : PJ X (e :: es) (t :: ts) := .cons h r
/-- a dict comprehension over what a Walk tells -/
theorem dc_it {J : It} {m : Nat} {G : Hp → Prop} {Y : Nat → Hp → V → Hp → Prop} (w : Walk J m G Y) {g : TG} {tt : TT} {tk tv : TE} {own : List Nat} {σ : St} {H1 : Hp} {D : Addr} {Qd : Hp → Prop} (Pv : Nat → Hp → Prop) (start : Pv 0 (upd H1 D (.dK []))) (keeps : ∀ i H, i ≤ m → Pv i H → G H)
    (turn : ∀ i x H H', i < m → Pv i H → Y i H x H' → g x (wipe σ own) H' fun σ2 H2 => wipe σ2 own = wipe σ own ∧ tt σ2 H2 fun b H3 =>
      if b = true then tk σ2 H3 fun y H4 => tv σ2 H4 fun z H5 => ∃ kvs k, y = kV k ∧ H5 D = some (.dK kvs) ∧ kvs.length < sizeLine ∧ Pv (i + 1) (upd H5 D (.dK (putK kvs k z))) else Pv (i + 1) H3) (done : ∀ H, Pv m H → Qd H) :
    ∃ W : Nat → Nat → Hp → Prop, (∃ j, W 0 j (upd H1 D (.dK []))) ∧ ∀ i j H, W i j H →
      (J.stop i H ∧ Qd H) ∨ (J.go i H ∧ ∃ Nx : Hp → Prop, (∀ H', Nx H' → ∃ j', j' < j ∧ W (i + 1) j' H') ∧ ∀ x H', J.yld i H x H' → g x (wipe σ own) H' fun σ2 H2 => wipe σ2 own = wipe σ own ∧ tt σ2 H2 fun b H3 =>
        if b = true then tk σ2 H3 fun y H4 => tv σ2 H4 fun z H5 => ∃ kvs k, y = kV k ∧ H5 D = some (.dK kvs) ∧ kvs.length < sizeLine ∧ Nx (upd H5 D (.dK (putK kvs k z))) else Nx H3) := by
  refine ⟨fun i j H => j = m - i ∧ i ≤ m ∧ Pv i H, ⟨m, by simp, Nat.zero_le _, start⟩, ?_⟩
  rintro i j H ⟨rfl, hi, pv⟩
  have kp := keeps i H hi pv
  rcases Nat.lt_or_ge i m with less | more
  · exact .inr ⟨w.goes i H less kp, Pv (i + 1), fun H' p' => ⟨m - (i + 1), by omega, rfl, less, p'⟩, fun x H' y => turn i x H H' less pv (w.yields i H x H' less kp y)⟩
  · obtain rfl : i = m := Nat.le_antisymm hi more
    exact .inl ⟨w.stops H kp, done H pv⟩
section
variable {X : Cx}
/-- y = {k: v for ..}: the name is stored within the comprehension's frame -/
theorem ps_setDc {j : Nat} {y : Str} {yp : Pos} {kx vx tg iter : Expr} {ifs : List Expr} {scope : Scope} {own : List (Str × Nat)} {cp sp : Pos} {wi : TI} {g : TG} {tt : TT} {tk tv : TE} (calm : X.calm = true) (nodup : X.N.Nodup) (atJ : X.N[j]? = some y) (isLoc : X.env.scope.names.lookup y = some .local)
    (swaps : swapsWith (.DictComp kx vx [⟨tg, iter, ifs, 0⟩] scope cp) (some (.Name y yp)) sp.line X.env = pure true) (walks : PI X tg iter wi) (blk : BlkOk X.N X.env.scope scope own)
    (target : ∀ (s : Shared) (H : Hp) (C : Addr) (cl : List (Str × Addr)) (fp : List Addr), PG (X.blk s H scope (compEnvC scope cl C X.env) fp) tg g) (tests : ∀ (s : Shared) (H : Hp) (C : Addr) (cl : List (Str × Addr)) (fp : List Addr), PTs (X.blk s H scope (compEnvC scope cl C X.env) fp) ifs tt)
    (keys : ∀ (s : Shared) (H : Hp) (C : Addr) (cl : List (Str × Addr)) (fp : List Addr), PE (X.blk s H scope (compEnvC scope cl C X.env) fp) kx tk)
    (vals : ∀ (s : Shared) (H : Hp) (C : Addr) (cl : List (Str × Addr)) (fp : List Addr), PE (X.blk s H scope (compEnvC scope cl C X.env) fp) vx tv) (plain : ∀ x, foldedSetIterable iter X.env x = pure x := by intro _; rfl) :
    PS X (.Assign [.Name y yp] (.DictComp kx vx [⟨tg, iter, ifs, 0⟩] scope cp) sp) (tAsg (tDc wi g tt tk tv (own.map (·.2))) (gName j)) := by
  refine ⟨fun pins s σ H D I want => ?_⟩
  rw [exec_Assign_Name_used _ _ _ _ swaps]
  refine wpAny_bind (wpAny_standAt (wpAny_bind ?_))
  show wpAny _ X.A (do let _ ← comprehension (.DictComp kx vx [⟨tg, iter, ifs, 0⟩] scope cp) scope X.env (firstIterPos [⟨tg, iter, ifs, 0⟩] cp) newDict false (eval iter X.env) (some (assign (.Name y yp) X.env))) _ _ s
  have want' : tDc wi g tt tk tv (own.map (·.2)) σ H (fun x H1 => gName j x σ H1 D.nx) := want
  refine wpAny_bind (thn (dc_core (Qf := fun _ s' => SP X pins D .next s') calm nodup I walks blk target tests keys vals plain want' fun made frame s' m H' J q hn young => ?_) fun _ s' z => wpAny_pure (wpAny_pure z))
  show wpAny _ _ (assign (.Name y yp) X.env (.ref made)) _ _ _
  refine wpAny_assign_Name (store_ok2 (v := V.ref made) J nodup atJ (.inl isLoc) rfl (fun s2 J2 ⟨a, but, isA⟩ => ?_) (.inr isLoc))
  obtain ⟨y0, y1, y2, y3, y4, y5⟩ := young
  have apart : frame ≠ a := by
    rcases isA with z | z
    · rw [z]
      exact y1
    · intro e
      exact y4 y a z e.symm
  refine ⟨m, hn.sameBut but apart, fun h3 but3 => ?_⟩
  exact ⟨_, H', J2.turned (t' := s2.toks) (fun b o hb e => (but3.2 b hb).trans e) y0 y1 y3 y4 y5, q⟩
theorem sw_trueD {kx vx : Expr} {gs : List Comprehension} {scope : Scope} {pos py : Pos} {y : Str} {l : Nat} {env : Env} (isFun : env.scope.kind = .function) (isLoc : env.scope.names.lookup y = some .local) (line : (py.line == pos.line) = true)
    (apart : (scope.names.any fun (n, k) => n == y && (k == .local || k == .cell)) = false) : swapsWith (.DictComp kx vx gs scope pos) (some (.Name y py)) l env = pure true := by
  have k1 : env.kindOf y = some .local := isLoc
  have k2 : env.blockKind = .function := by
    unfold Env.blockKind
    rw [isFun]
    rfl
  unfold swapsWith
  simp only [k2, k1, apart, Expr.pos, line]
  rfl
end
/-- not x, by truth, K said -/
theorem pe_notTK {X : Cx} {K : PySem.W.Frag} {a : Expr} {ta : TE} {pos : Pos} (hK : X.K = K) (ha : PE X a ta) : PE X (.UnaryOp .Not a pos) (tNotT K ta) := by
  subst hK
  exact pe_notT ha
end L2

set_option Elab.async false
set_option linter.all false
set_option maxRecDepth 100000
set_option maxHeartbeats 4000000
/-! Dicts of texts compared both ways; a staticmethod called by the class's name. -/
namespace L2
open PySem PySem.Spec PyProof.Rows
def Strs (ks : List (Key × V)) : Prop := ∀ p ∈ ks, ∃ z, p.2 = .str z
def sameD (ks ls : List (Key × V)) : Bool := ks.length == ls.length && ks.all fun p => decide (valV ls p.1 = some p.2)
theorem valV_mem {ls : List (Key × V)} {k : Key} {y : V} (h : valV ls k = some y) : ∃ p ∈ ls, p.2 = y := by
  unfold valV at h
  cases e : ls.find? (fun kv => decide (kv.1 = k)) with
  | none =>
    rw [e] at h
    cases h
  | some q =>
    rw [e] at h
    exact ⟨q, List.mem_of_find?_eq_some e, Option.some.inj h⟩
theorem eqAt_strs {A : Around} {s : Shared} {x y : Str} {u u' : Value} (r : RelV (.str x) u) (r' : RelV (.str y) u') : SeqAt.EqAt A s u u' (decide (x = y)) := by
  obtain ⟨t, rfl⟩ := (show ∃ t, u = Value.str x t from r)
  obtain ⟨t', rfl⟩ := (show ∃ t, u' = Value.str y t from r')
  have q := SeqAt.EqAt.str_str (A := A) (s := s) x t y t'
  have e : (x == y) = decide (x = y) := by
    rw [Bool.eq_iff_iff]
    simp
  rw [e] at q
  exact q
theorem hits_str {A : Around} {s : Shared} {ls : List (Key × V)} {vb : List (Key × Value)} (rb : KV ls vb) (sl : Strs ls) {ks : List (Key × V)} {va : List (Key × Value)} (ra : KV ks va) :
    Strs ks → PySem.W.KeqHits A s vb va (ks.all fun p => decide (valV ls p.1 = some p.2)) := by
  unfold KV at ra
  induction ra with
  | nil => intro _; exact .nil
  | @cons p q ps qs h t ih =>
    intro hp
    obtain ⟨h1, h2⟩ := h
    obtain ⟨z, ez⟩ := hp p List.mem_cons_self
    have rr : RelO (valV ls p.1) (valueAt vb p.1) := rb.val p.1
    obtain ⟨k, v⟩ := q
    have h1' : p.1 = k := h1
    rw [h1'] at rr
    rw [List.all_cons, h1']
    cases e : valV ls k with
    | none =>
      rw [e] at rr
      have hn : valueAt vb k = none := RelO.none_of rr
      have ef : decide ((none : Option V) = some p.2) = false := rfl
      rw [ef, Bool.false_and]
      exact .miss hn
    | some y =>
      rw [e] at rr
      obtain ⟨y', hy, ry⟩ := rr.some_of
      obtain ⟨q2, hm, e2⟩ := valV_mem e
      obtain ⟨z2, ez2⟩ := sl q2 hm
      have ey : y = .str z2 := e2.symm.trans ez2
      subst ey
      rw [ez] at h2
      have hh := eqAt_strs (A := A) (s := s) h2 ry
      have ed : decide (some (V.str z2) = some p.2) = decide (z = z2) := by
        rw [ez]
        by_cases c : z = z2
        · rw [c]
          simp
        · rw [decide_eq_false c, decide_eq_false]
          intro w
          exact c (V.str.inj (Option.some.inj w)).symm
      rw [ed]
      exact .hit hy hh (ih fun p' hm => hp p' (List.mem_cons_of_mem _ hm))
section
variable {X : Cx}
def rEqDT (g : Bool → Bool) : R2 := fun x y H Q => ∃ a b ks ls, x = .ref a ∧ y = .ref b ∧ Rd H a (.dK ks) ∧ Rd H b (.dK ls) ∧ Strs ks ∧ Strs ls ∧ Q (.bl (g (sameD ks ls))) H
theorem op_eqDT (hu : X.A.units + 1 < cLine) : OpR X (compareOp .Eq) (rEqDT id) := by
  intro pins s σ H x y v u Q I rx ry h
  obtain ⟨a, b, ks, ls, rfl, rfl, ea, eb, sk, sl, q⟩ := h
  obtain rfl : v = Value.ref a := rx
  obtain rfl : u = Value.ref b := ry
  obtain ⟨_, ya, va, ra, da⟩ := dk_rd I.hok ea
  obtain ⟨_, yb, vb, rb, db⟩ := dk_rd I.hok eb
  have h1 : va.length = ks.length := (Paired.length ra).symm
  have h2 : vb.length = ls.length := (Paired.length rb).symm
  exact PySem.W.keq_eq (knd := mixKind X.prog X.w) ya yb da db (Nat.lt_of_succ_lt hu) (fun _ => hits_str rb sl ra sk) (fin_bl I q (by rw [h1, h2]; rfl))
theorem op_neDT (hu : X.A.units + 1 < cLine) : OpR X (compareOp .NotEq) (rEqDT not) := by
  intro pins s σ H x y v u Q I rx ry h
  obtain ⟨a, b, ks, ls, rfl, rfl, ea, eb, sk, sl, q⟩ := h
  obtain rfl : v = Value.ref a := rx
  obtain rfl : u = Value.ref b := ry
  obtain ⟨_, ya, va, ra, da⟩ := dk_rd I.hok ea
  obtain ⟨_, yb, vb, rb, db⟩ := dk_rd I.hok eb
  have h1 : va.length = ks.length := (Paired.length ra).symm
  have h2 : vb.length = ls.length := (Paired.length rb).symm
  exact PySem.W.keq_ne (knd := mixKind X.prog X.w) ya yb da db (Nat.lt_of_succ_lt hu) (fun _ => hits_str rb sl ra sk) (fin_bl I q (by rw [h1, h2]; rfl))
end
/-- C.m is a staticmethod: its record at p, its def at g -/
structure SMet (K : PySem.W.Frag) (C : Addr) (mc : Value) (m : Str) (p g : Addr) : Prop where
  at_ : PySem.W.findCls K (.ref C) mc m = some (.get (.builtin "staticmethod.__get__") (.ref p) .none (.ref C))
  rc : ∃ rest, PySem.W.recIn K p "staticmethod" = some (.ref g :: rest)
  kp : PySem.W.keepIn K (.ref g) = true
section
variable {X : Cx} {CX : CXT} {k : Nat} {C p g : Addr} {mc : Value} {sp : Sp} {E : XK} {o e : Expr} {es : List Expr} {m : Str} {pos apos : Pos} {ta : TE} {t : TA} {pl : Sem Bool} {fd : FuncData} {ps : List Str}
theorem getmethsm_ok {pins : List (Addr × Obj)} {σ : L2.St} {H : Hp} {s : Shared} {A : Around} {E : Value → Shared → Prop} {Q : Value × List Value → Shared → Prop} (I : Inv X pins σ H s) (r : ClX.CRead X.K C mc) (k : SMet X.K C mc m p g)
    (h : ∀ s', Inv X pins σ H s' → Q (.ref g, []) s') : wpAny (model X.prog X.w) A (getMethod (.ref C) m pl) Q E s := by
  obtain ⟨rest, hp⟩ := k.rc
  refine PySem.W.method_cls I.kIn r.ga ?_
  refine PySem.W.cls_bind I.kIn r.rd k.at_ ?_
  refine wpAny_call (PySem.W.sm_get (s := { s with toks := s.toks + 1 }) I.kIn hp (PySem.W.handed_on rfl ?_))
  exact h _ (I.tok _)
/-- e.m(..), e the class at C, m a staticmethod -/
def tSMeth (C : Addr) (sp : Sp) (E : XK) (ta : TE) (t : TA) : TE := fun σ H Q => ta σ H fun x H1 => x = .ref C ∧ t σ H1 fun vs H2 => sp vs H2 Q E
theorem pe_smeth (he : PE X o ta) (r : ClX.CRead X.K C mc) (c : SMet X.K C mc m p g) (F : FnOk X.prog X.w X.K X.mg X.base CX k g fd ps sp) (hr : Room k X.A) (hb : Binds X.K fd ps []) (hx : Passes CX X E) (ha : PA X (e :: es) t)
    (hst : starEach (e :: es) X.env = (false, eval e X.env) :: starEach es X.env := by rfl) (hpl : (backTo pos (starEach es X.env)).any (·.1) = false := by rfl)
    (ht : eval (.Call (.Attribute o m apos) (e :: es) [] pos) X.env = (do
      let ov ← eval o X.env
      standAt apos.atName
      let (f, first) ← holding [ov] (getMethod ov m pl)
      callWith pos f first (backTo pos (starEach (e :: es) X.env)) (backToKw pos (keywordEach [] X.env))) := by rfl) :
    PE X (.Call (.Attribute o m apos) (e :: es) [] pos) (tSMeth C sp E ta t) := by
  refine ⟨fun pins s σ H Q I h => ?_⟩
  refine PySem.W.methodCall_KW (pl := pl) (thn (he.run pins s σ H _ I h) fun u s1 ⟨x, H1, I1, rx, ex, q⟩ => ?_) ht
  subst ex
  obtain rfl : u = Value.ref C := rx
  refine getmethsm_ok I1 r c fun s2 I2 => ?_
  refine PySem.W.callWith_K (h₀ := X.base) I.ok.mod.kin c.kp (thn (ha.run pos pins s2 σ H1 _ I2 q) fun us s3 ⟨vs, H2, I3, rv, q2⟩ => ⟨I3.kIn, ?_⟩) hst hpl
  exact run_fn (us := us) (dvs := []) (ds := []) F hr hb .nil hx I3 rv (by rw [List.append_nil]; exact q2)
/-- e.m(k = v, ..) -/
def tSMethK (C : Addr) (sp : Sp) (gV : List V → List V → List V) (E : XK) (ta : TE) (tk : TA) : TE := fun σ H Q => ta σ H fun x H1 => x = .ref C ∧ tk σ H1 fun zs H2 => sp (gV [] zs) H2 Q E
theorem pe_smethK0 {kws : List Keyword} {tk : TA} {ks : List Str} {gg : List Value → List Value → List Value} {gV : List V → List V → List V} (he : PE X o ta) (r : ClX.CRead X.K C mc) (c : SMet X.K C mc m p g) (F : FnOk X.prog X.w X.K X.mg X.base CX k g fd ps sp) (hr : Room k X.A) (hb : KBinds X.K fd ps ks gg gV) (hx : Passes CX X E) (hkw : PK X kws tk)
    (hall : (backToKw pos (keywordEach kws X.env)).all (·.1.isSome) = true := by rfl) (hks : (backToKw pos (keywordEach kws X.env)).filterMap (·.1) = ks := by rfl)
    (hpl : ((backTo pos (starEach [] X.env)).any (·.1) || (backToKw pos (keywordEach kws X.env)).any (·.1.isNone)) = false := by rfl)
    (ht : eval (.Call (.Attribute o m apos) [] kws pos) X.env = (do
      let ov ← eval o X.env
      standAt apos.atName
      let (f, first) ← holding [ov] (getMethod ov m pl)
      callWith pos f first (backTo pos (starEach [] X.env)) (backToKw pos (keywordEach kws X.env))) := by rfl) :
    PE X (.Call (.Attribute o m apos) [] kws pos) (tSMethK C sp gV E ta tk) := by
  refine ⟨fun pins s σ H Q I h => ?_⟩
  refine PySem.W.methodCall_KW (pl := pl) (thn (he.run pins s σ H _ I h) fun u s1 ⟨x, H1, I1, rx, ex, q⟩ => ?_) ht
  subst ex
  obtain rfl : u = Value.ref C := rx
  refine getmethsm_ok I1 r c fun s2 I2 => ?_
  refine PySem.W.callWith_KW0 (h₀ := X.base) I.ok.mod.kin c.kp hall (thn (hkw.run pos pins s2 σ H1 _ I2 q) fun ws s3 ⟨zs, H2, I3, rz, q2⟩ => ⟨I3.kIn, ?_⟩) hpl
  rw [hks]
  exact run_fnk (us := []) (vs := []) F hr hb hx I3 .nil rz q2
end
/-- f'..' of two parts or more, by a name -/
def tJo (ts : List TE) : TE := fun σ H Q => tJs ts Str.empty σ H fun out H1 => Q (.str out) H1
theorem pe_joinedT {X : Cx} {v1 v2 : Expr} {rest : List Expr} {ts : List TE} {pos : Pos} (h : PJ X (v1 :: v2 :: rest) ts) : PE X (.JoinedStr (v1 :: v2 :: rest) pos) (tJo ts) := pe_joined h
end L2

set_option Elab.async false
set_option linter.all false
set_option maxRecDepth 100000
set_option maxHeartbeats 4000000
/-! An own error's `__init__` that calls the base error's by the base's name, where the base has none of its own. -/
namespace L2
open PySem PySem.Spec PyProof.Rows
section
variable {X : Cx} {e : Expr} {es : List Expr} {ta : TA} {x : Str} {CR : Addr} {mc : Value} {p1 p2 pos : Pos} {pl : Sem Bool}
theorem pe_baseinit (hg : Gl X x) (hm : X.mg x = some (.ref CR)) (r : ClX.CRead X.K CR mc) (vV : PySem.W.findCls X.K (.ref CR) mc "__init__" = some (.val (.builtin "ValueError.__init__"))) (ha : PA X (e :: es) ta)
    (hdb : (x == ("__debug__" : Str)) = false := by decide)
    (hc : eval (.Call (.Attribute (.Name x p1) "__init__" p2) (e :: es) [] pos) X.env = (do
      let ov ← eval (.Name x p1) X.env
      standAt p2.atName
      let (f, first) ← holding [ov] (getMethod ov "__init__" pl)
      callWith pos f first (backTo pos (starEach (e :: es) X.env)) (backToKw pos (keywordEach [] X.env))) := by rfl)
    (he : starEach (e :: es) X.env = (false, eval e X.env) :: starEach es X.env := by rfl) (hpl : (backTo pos (starEach es X.env)).any (·.1) = false := by rfl) :
    PE X (.Call (.Attribute (.Name x p1) "__init__" p2) (e :: es) [] pos) (tVeI X.K ta) := by
  refine ⟨fun pins s σ H Q I h => ?_⟩
  refine PySem.W.methodCall_KW (pl := pl) (ld_glob I hg hm ?_ hdb) hc
  refine PySem.W.method_cls I.kIn r.ga ?_
  refine PySem.W.cls_value I.kIn r.rd vV (by decide +kernel) ?_
  show wpAny _ _ (callWith pos (Value.builtin "ValueError.__init__") [] (backTo pos (starEach (e :: es) X.env)) []) _ _ _
  refine PyProof.Rows.callWith_method1 (thn (ha.run pos pins _ σ H _ (I.tok _) h) fun us s1 ⟨vs, H1, I1, r1, a, C, ws, ev, hl, T, ea, q⟩ => ?_) he hpl
  subst ev
  cases r1 with
  | @cons _ u0 _ ur ra rw' =>
    obtain rfl : u0 = Value.ref a := ra
    have hlen : ur.length ≤ sizeLine := by
      rw [← Paired.length rw', sizeLine_eq]
      omega
    exact oinit_ok T I1 ea hlen fun s' J => ⟨.non, H1, J, rfl, q⟩
end
end L2

set_option Elab.async false
set_option linter.all false
set_option maxRecDepth 100000
set_option maxHeartbeats 4000000
/-! a | b, a >> b .. by an own method, both of the same class; a <= b by an own one (its answer a bool). -/
namespace L2
open PySem PySem.Spec PyProof.Rows
section
variable {X : Cx} {n : Nat} {CX : CXT} {C f : Addr} {fd : FuncData} {ps : List Str} {sp : Sp} {E : XK}
theorem notNI {v : V} {u : Value} (r : RelV v u) {Q : Value → Shared → Prop} {s : Shared} (q : Q u s) : PySem.W.CmpBack Q u s := by
  cases v <;> first
    | (obtain ⟨t, rfl⟩ := r; exact q)
    | (cases r; exact q)
def rBinOwn (K : PySem.W.Frag) (C : Addr) (sp : Sp) (E : XK) : R2 := fun x y H Q => ∃ a dx fs b dy gs, x = .ref a ∧ H a = some (.ins C dx fs) ∧ y = .ref b ∧ H b = some (.ins C dy gs) ∧ sp [.ref a, y] H Q E
theorem op_binOwn {op : Operator} (F : FnOk X.prog X.w X.K X.mg X.base CX n f fd ps sp) (hb : Binds X.K fd ps []) (hx : Passes CX X E) (hs : PySem.W.findIn X.K (.ref C) (PySem.dunder op.info.2) = some (some (.ref f))) (hf : PySem.W.isFn X.K (.ref f) = true) (hc : PySem.W.selfFirst X.K C = true) (hr : Room n X.A) :
    OpR X (binaryOp op) (rBinOwn X.K C sp E) := by
  intro pins s σ H x y v u Q I rx ry h
  obtain ⟨a, dx, fs, b, dy, gs, rfl, ha, rfl, hbb, hsp⟩ := h
  cases rx
  cases ry
  obtain ⟨od, J⟩ := inst_at I ha
  obtain ⟨od2, J2⟩ := inst_at I hbb
  obtain ⟨m, hF⟩ := I.fr
  refine PySem.W.binop_K hF I.ok.mod.kin J J2.type hc hs hf (thn (run_own (Sub.here hr) F hb hx I (show Vals [V.ref a, V.ref b] [Value.ref a, Value.ref b] from .cons rfl (.cons rfl .nil)) hsp) fun r s' q => ?_)
  obtain ⟨z, H', I', rz, q⟩ := q
  exact notNI rz ⟨z, H', I', rz, q⟩
def rLeOwn (K : PySem.W.Frag) (C : Addr) (sp : Sp) (E : XK) : R2 := fun x y H Q => ∃ a dx fs tb, x = .ref a ∧ H a = some (.ins C dx fs) ∧ TyX K H y tb ∧ PySem.W.notFirst K C tb = true ∧ sp [.ref a, y] H Q E
theorem op_leOwn (F : FnOk X.prog X.w X.K X.mg X.base CX n f fd ps sp) (hb : Binds X.K fd ps []) (hx : Passes CX X E) (o : Own X.K C "__le__" f) (hr : Room n X.A) : OpR X (compareOp .LtE) (rLeOwn X.K C sp E) := by
  intro pins s σ H x y v u Q I rx ry h
  obtain ⟨a, dx, fs, tb, rfl, ha, ty, hn, hs⟩ := h
  cases rx
  obtain ⟨od, J⟩ := inst_at I ha
  obtain ⟨m, hF⟩ := I.fr
  obtain ⟨P, Z, p, _⟩ := kit_of I ry ty
  refine PySem.W.cmp_K (op := .LtE) hr.units0 hF I.ok.mod.kin J (Z.ty _ _ I.kIn p) hn o.find o.fn (thn (run_own (Sub.here hr) F hb hx I (show Vals [V.ref a, y] [Value.ref a, u] from .cons rfl (.cons ry .nil)) hs) fun r s' q => ?_)
  obtain ⟨z, H', I', rz, q⟩ := q
  exact notNI rz ⟨z, H', I', rz, q⟩
end
end L2

set_option Elab.async false
set_option linter.all false
set_option maxRecDepth 100000
set_option maxHeartbeats 4000000
/-! enumerate(text). -/
namespace L2
open PySem PySem.Spec PyProof.Rows
/-- the signs of a text, each in a new pair behind its number -/
def ItSe (z : Str) : It :=
  ⟨fun i _ => i < z.cps.size, fun i H v H' => ∃ T c, v = .ref T ∧ H T = none ∧ H' = upd H T (.tup [.int (i : Nat), .str ⟨#[c]⟩]) ∧ z.cps[i]? = some c, fun i _ => i = z.cps.size⟩
theorem turn_enumS {P : Program} {w : World} {K : PySem.W.Frag} {elts : List Expr} {kk : Nat} {tpos : Pos} (z : Str) (t : Tok) (e it : Addr) :
    Turn P w K (.Tuple elts kk tpos) (ItSe z) [e, it] e (fun i h => (∃ old, IsEnum h e it ((i : Nat) : Int) old) ∧ h.IsStrIter it (strIterType z) z t i ∧ e ≠ it) where
  mem := by simp
  obj := fun i h st b hb => by
    obtain ⟨⟨old, he⟩, ⟨o, ho, hc, hd⟩, _⟩ := st
    have e' : b = e ∨ b = it := by simpa using hb
    rcases e' with z | z
    · rw [z]; exact ⟨_, he, fun v q => nomatch q⟩
    · rw [z]; exact ⟨o, ho, fun v q => by rw [hd] at q; cases q⟩
  keep := fun i h h' st k => by
    obtain ⟨⟨old, he⟩, ⟨o, ho, r⟩, hne⟩ := st
    exact ⟨⟨old, k e (by simp) _ he⟩, ⟨o, k it (by simp) o ho, r⟩, hne⟩
  item := by
    intro X hP hw hK hc i pins s σ H E I hf st hg
    subst hP hw hK
    obtain ⟨⟨old, he⟩, hit, hne⟩ := st
    have hel : e < s.heap.objs.size := Heap.lt_size he
    have hil : it < s.heap.objs.size := by obtain ⟨_, q, _⟩ := hit; exact Heap.lt_size q
    refine wpAny_pyNext_enum_itemD (Draws.text (A := X.A.in1) (I.ok.hd hc) it z t) he hit hg hne (by simpa using hne) fun x h' tk hx ho hit' hT hsz hk => ?_
    obtain ⟨c, u, hcx, rfl⟩ := hx
    refine ⟨_, rfl, wpAny_letOwnedTupleGo_enum (s := { s with heap := h', toks := tk + 1 }) ho fun h'' he' sb => ?_⟩
    have hT2 : h''.get? s.heap.objs.size = some { cls := .type "tuple", data := .seq #[.int i tk, .str ⟨#[c]⟩ u] } := (sb.2 _ (Nat.ne_of_gt hel)).trans hT
    have new : ObjOk X.prog X.w (upd H s.heap.objs.size (.tup [.int (i : Nat), .str ⟨#[c]⟩])) h'' s.heap.objs.size (.tup [.int (i : Nat), .str ⟨#[c]⟩]) :=
      ⟨by show 2 ≤ sizeLine; decide, [.int i tk, .str ⟨#[c]⟩ u], .cons ⟨_, rfl⟩ (.cons ⟨_, rfl⟩ .nil), ⟨_, hT2, rfl, _, rfl⟩⟩
    have I1 : Inv X pins σ (upd H s.heap.objs.size (.tup [.int (i : Nat), .str ⟨#[c]⟩])) { s with heap := h'', toks := tk + 1 } :=
      I.turnedNew (ch := [e, it]) (fun b ob hb q => (sb.2 b (fun z => hb (by simp [z]))).trans (hk b ob (fun z => hb (by simp [z])) (fun z => hb (by simp [z])) q)) hf (Nat.le_refl _) new
    refine ⟨.ref s.heap.objs.size, _, I1, rfl, ⟨_, c, rfl, I.hok.fresh (Nat.le_refl _), rfl, hcx⟩, ⟨⟨.str ⟨#[c]⟩ u, ?_⟩, ?_, hne⟩, fun b hb => ?_⟩
    · have e1 : ((i + 1 : Nat) : Int) = (i : Int) + 1 := by omega
      rw [e1]; exact he'
    · obtain ⟨o, q, r⟩ := hit'
      exact ⟨o, (sb.2 it (Ne.symm hne)).trans q, r⟩
    · have hb' : b < s.heap.objs.size := by
        have e' : b = e ∨ b = it := by simpa using hb
        rcases e' with z | z
        · rw [z]; exact hel
        · rw [z]; exact hil
      rw [upd_ne (Nat.ne_of_lt hb')]
      exact (hf b hb).1
  done := by
    intro X hP hw hK hc i pins s σ H E I hf st hg
    subst hP hw hK
    obtain ⟨⟨old, he⟩, hit, hne⟩ := st
    have hi : i = z.cps.size := hg
    obtain ⟨f0, f1, f2, f3, f4, f5⟩ := hf it (by simp)
    subst hi
    exact wpAny_pyNext_enum_endD (Draws.text (A := X.A.in1) (I.ok.hd hc) it z t) he hit fun h' eb => ⟨rfl, I.turned (t' := s.toks) (fun b o hb q => eb b o hb q) f0 f1 f3 f4 f5⟩
  self := fun A i s Q E st h => let ⟨⟨_, he⟩, _⟩ := st; wpAny_pyIter_enum he h
def iEnumS (ta : TA) : TI := fun σ H R => ta σ H fun vs H1 => ∃ z, vs = [.str z] ∧ R (ItSe z) H1
theorem pi_enumS {X : Cx} {e : Expr} {ta : TA} {p pos tpos : Pos} {elts : List Expr} {kk : Nat} (hg : Gl X "enumerate") (hm : X.mg "enumerate" = none) (ha : PA X [e] ta) (hs : starEach [e] X.env = [(false, eval e X.env)] := by rfl) :
    PI X (.Tuple elts kk tpos) (.Call (.Name "enumerate" p) [e] [] pos) (iEnumS ta) := by
  refine ⟨fun pins s σ H R I h => ?_⟩
  refine Call_ (ld_blt I hg hm boot_enumerate (PyProof.Rows.callWith_type1 (thn (ha.run pos pins s σ H _ I h) fun us s1 ⟨vs, H1, I1, r1, q1⟩ => ?_) hs rfl))
  obtain ⟨z, ex, q⟩ := q1
  subst ex
  cases r1 with
  | cons r rr =>
    cases rr
    obtain ⟨t, rfl⟩ := r
    refine call_enumerate_str fun h' he hit hsz hk => wpAny_pyIter_enum he ?_
    have I2 : Inv X pins σ H1 { s1 with heap := h' } := I1.kept (t' := s1.toks) hk
    refine ⟨s1.heap.objs.size + 1, [s1.heap.objs.size + 1, s1.heap.objs.size], _, _, H1, rfl, I2, turn_enumS z t (s1.heap.objs.size + 1) s1.heap.objs.size, ⟨⟨.none, he⟩, hit, Nat.succ_ne_self _⟩, fun b hb => ?_, q⟩
    have e' : b = s1.heap.objs.size + 1 ∨ b = s1.heap.objs.size := by simpa using hb
    have hle : s1.heap.objs.size ≤ b := by
      rcases e' with z | z
      · rw [z]; exact Nat.le_add_right _ _
      · rw [z]; exact Nat.le_refl _
    exact I1.fpOk hle (I1.hok.fresh hle)
theorem walk_enumS {z : Str} : Walk (ItSe z) z.cps.size (fun _ => True) (fun i H v H' => ∃ T c, v = .ref T ∧ H T = none ∧ H' = upd H T (.tup [.int (i : Nat), .str ⟨#[c]⟩]) ∧ z.cps[i]? = some c) :=
  ⟨fun _ _ hi _ => hi, fun _ _ => rfl, fun _ _ _ _ _ _ y => y⟩
end L2

set_option Elab.async false
set_option linter.all false
set_option maxRecDepth 100000
set_option maxHeartbeats 4000000
/-! Signs of an own class by its own methods, by an address; a ** k. -/
namespace L2
open PySem PySem.Spec PyProof.Rows
/-- an own method that a sign of two calls -/
structure Bo (P : Program) (w : World) (K : PySem.W.Frag) (mg : Str → Option Value) (base : Heap) (k : Nat) (C : Addr) (m : Str) (sp : Sp) : Prop where
  ex : ∃ (f : Addr) (fd : FuncData) (ps : List Str), FnOk P w K mg base CX0 k f fd ps sp ∧ Binds K fd ps [] ∧ PySem.W.findIn K (.ref C) m = some (some (.ref f)) ∧ PySem.W.isFn K (.ref f) = true ∧ PySem.W.selfFirst K C = true
/-- what the sign of the power asks of int -/
structure IntP (K : PySem.W.Frag) (C : Addr) : Prop where
  rp : PySem.W.findIn K (.ref C) "__rpow__" = some none
  h1 : ∃ fo, PySem.W.findIn K (.type "int") "__pow__" = some fo
  h2 : ∃ ro, PySem.W.findIn K (.type "int") "__rpow__" = some ro
  sub : PySem.W.subIn K (.type "int") (.ref C) = some false
def rPowOwn (K : PySem.W.Frag) (C : Addr) (sp : Sp) (E : XK) : R2 := fun x y H Q => ∃ a dx fs i, x = .ref a ∧ H a = some (.ins C dx fs) ∧ y = .int i ∧ sp [.ref a, .int i] H Q E
section
variable {X : Cx} {k j : Nat} {C : Addr} {sp : Sp}
theorem op_bin {op : Operator} {m : Str} (c : Bo X.prog X.w X.K X.mg X.base k C m sp) (hr : Room j X.A) (hk : k ≤ j) (hm : PySem.dunder op.info.2 = m := by rfl) : OpR X (binaryOp op) (rBinOwn X.K C sp E0) := by
  obtain ⟨f, fd, ps, F, b, h1, h2, h3⟩ := c.ex
  subst hm
  exact op_binOwn F b pass0 h1 h2 h3 (hr.mono hk)
theorem op_powO {m : Str} (c : Bo X.prog X.w X.K X.mg X.base k C m sp) (ip : IntP X.K C) (hr : Room j X.A) (hk : k ≤ j) (hm : PySem.dunder (Operator.info .Pow).2 = m := by rfl) : OpR X (binaryOp .Pow) (rPowOwn X.K C sp E0) := by
  obtain ⟨f, fd, ps, F, b, h1, h2, h3⟩ := c.ex
  subst hm
  intro pins s σ H x y v u Q I rx ry h
  obtain ⟨a, dx, fs, i, rfl, ha, rfl, hsp⟩ := h
  obtain rfl : v = Value.ref a := rx
  obtain ⟨od, J⟩ := inst_at I ha
  obtain ⟨m, hF⟩ := I.fr
  obtain ⟨fo, e1⟩ := ip.h1
  obtain ⟨ro, e2⟩ := ip.h2
  have hb : typeOf u = pure (.type "int") := by
    obtain ⟨t, rfl⟩ := (show ∃ t, u = Value.int i t from ry)
    rfl
  refine PySem.W.ksp_binT hF I.ok.mod.kin J hb h3 h1 h2 ip.rp (.inl rfl) e1 e2 ip.sub (thn (run_own (Sub.here (hr.mono hk)) F b pass0 I (show Vals [V.ref a, V.int i] [Value.ref a, u] from .cons rfl (.cons ry .nil)) hsp) fun r s' q => ?_)
  obtain ⟨z, H', I', rz, q⟩ := q
  exact notNI rz ⟨z, H', I', rz, q⟩
theorem pe_mt {pl : Sem Bool} {m : Str} {o e : Expr} {es : List Expr} {apos pos : Pos} {ta : TE} {t : TA} (c : Cls X.K C) (D : Mf X.prog X.w X.K X.mg X.base k C m sp) (hr : Room j X.A) (hk : k ≤ j) (he : PE X o ta) (ha : PA X (e :: es) t)
    (hst : starEach (e :: es) X.env = (false, eval e X.env) :: starEach es X.env := by rfl) (hpl : (backTo pos (starEach es X.env)).any (·.1) = false := by rfl)
    (ht : eval (.Call (.Attribute o m apos) (e :: es) [] pos) X.env = (do
      let ov ← eval o X.env
      standAt apos.atName
      let (f, first) ← holding [ov] (getMethod ov m pl)
      callWith pos f first (backTo pos (starEach (e :: es) X.env)) (backToKw pos (keywordEach [] X.env))) := by rfl) :
    PE X (.Call (.Attribute o m apos) (e :: es) [] pos) (tMeth C m sp [] E0 ta t) := by
  obtain ⟨f, fd, ps, F, hm, _, _, b⟩ := D.ex
  exact pe_meth (pl := pl) he c hm F (hr.mono hk) b .nil pass0 ha hst hpl ht
theorem op_leM (c : Bo X.prog X.w X.K X.mg X.base k C "__le__" sp) (hr : Room j X.A) (hk : k ≤ j) : OpR X (compareOp .LtE) (rLeOwn X.K C sp E0) := by
  obtain ⟨f, fd, ps, F, b, h1, h2, h3⟩ := c.ex
  exact op_leOwn F b pass0 ⟨h1, h2⟩ (hr.mono hk)
end
end L2

set_option Elab.async false
set_option linter.all false
set_option maxRecDepth 100000
set_option maxHeartbeats 4000000
/-! try: .. except E as n: k = n, where k is read later: the caught exception becomes a thing of the abstract heap. -/
namespace L2
open PySem PySem.Spec PyProof.Rows
/-- an exception that was caught and is kept: its class, its dict -/
def CaughtO (cls : Value) (d : Option Addr) (a : Addr) : HO := .ext fun h => ∃ (oe : Obj) (vs : Array Value), h.get? a = some oe ∧ Zc cls d oe ∧ oe.data = .fields vs
/-- a caught exception stands on the ground of X, and nothing of X has known it before -/
structure Down (X : Cx) (pins : List (Addr × Obj)) (σ : St) (H : Hp) (cls : Value) (d : Option Addr) (a : Addr) (B : Heap) (s : Shared) : Prop where
  inv : Inv X pins σ H s
  fly : HandSPX.FlyingZ B X.stack a (Zc cls d) s.heap
  unk : H a = none
  notL : a ≠ X.env.locals
  notF : a ∉ X.fs
  notS : ∀ o, X.s_0.heap.get? a = some o → a ∉ X.ex → False
  notP : ∀ p ∈ X.pn ++ pins, p.1 ≠ a
  gnd : ∃ s0 : Shared, Inv X pins σ H s0 ∧ (∀ c o, s0.heap.get? c = some o → c ∉ frs X.stack → B.get? c = some o) ∧ s0.heap.UpToSlots s.heap ∧ s.os = s0.os ∧ AllBare s.gens
section
variable {X : Cx} {pins : List (Addr × Obj)} {σ : St} {H : Hp} {cls : Value} {d : Option Addr} {a : Addr} {B : Heap} {s : Shared}
theorem Down.obj (W : Down X pins σ H cls d a B s) : ∃ (oe : Obj) (vs : Array Value), s.heap.get? a = some oe ∧ Zc cls d oe ∧ oe.data = .fields vs := W.fly.there
/-- from now on it is tracked -/
theorem Down.tracked (W : Down X pins σ H cls d a B s) : Inv X pins σ (upd H a (CaughtO cls d a)) s := by
  obtain ⟨oe, vs, q1, q2, q3⟩ := W.obj
  obtain ⟨i1, i2, i3, i4, i5, i6, i7, i8, i9, i10, i11⟩ := W.inv
  have off : ∀ c, c ≠ a → upd H a (CaughtO cls d a) c = H c := fun c h => upd_ne h
  have off' : ∀ c u, H c = some u → upd H a (CaughtO cls d a) c = some u := fun c u h => (off c (ne_of_none h W.unk)).trans h
  have tell : ObjOk X.prog X.w (upd H a (CaughtO cls d a)) s.heap a (CaughtO cls d a) := by
    refine ⟨⟨oe, vs, q1, q2, q3⟩, ⟨oe, q1⟩, fun g g' hg keep => ?_⟩
    obtain ⟨o, v, r1, r2⟩ := hg
    exact ⟨o, v, keep o r1, r2⟩
  refine ⟨i1, i2, i3, ⟨i4.keep, i4.slot, fun c o e n x => ?_, i4.there, fun c xs e => off' c _ (i4.tups c xs e), fun c o u e => off' c _ (i4.frzs c o u e), fun c ps e => ?_⟩, i5, i6, (off _ (Ne.symm W.notL)).trans i7, fun y c e => ?_, fun p hp => ?_, i10.laidN (fun _ _ z => z) W.unk tell, i11⟩
  · by_cases hc : c = a
    · rw [hc] at e x
      exact (W.notS o e x).elim
    · exact (off c hc).trans (i4.free c o e n x)
  · obtain ⟨more, z⟩ := i4.tbls c ps e
    exact ⟨more, off' c _ z⟩
  · have hc : c ≠ a := fun z => by
      obtain ⟨v, o, r1, r2⟩ := i6 y c e
      rw [z, q1] at r1
      rw [← Option.some.inj r1, q3] at r2
      cases r2
    exact (off c hc).trans (i8 y c e)
  · obtain ⟨p1, p2, p3⟩ := i9 p hp
    exact ⟨p1, (off _ (W.notP p hp)).trans p2, p3⟩
/-- an exception that X lets through lands -/
theorem down_of {M : Model} {x' : Value → Shared → Prop} {pn : List (Addr × Obj)} {W : WX} {u : Value} {E : Value → Shared → Prop} {Q : Shared → Prop} (ok : X.Ok) (hst : X.stack = X.env :: X.outer) (hfl : X.env.frame = some X.env.locals) (xx : XE (X.tr (X.pn ++ pn) x') W u s)
    (hQ : ∀ (a : Addr) (B : Heap) (cls : Value) (d : Option Addr) (σ : St) (H : Hp) (s' : Shared), u = .ref a → W cls d σ H → Down X pn σ H cls d a B s' → Q s') : wpAny M X.A (noteFrame u X.env) (fun _ s1 => wpAny M X.A (setFlight u none) (fun _ s2 => Q s2) E s1) E s := by
  obtain ⟨a, B, sI, more, σ1, H1, cls, d, rfl, IT, gr, ups, sky, none1, eos, bar, wish⟩ := xx
  have I1 : Inv X pn σ1 H1 sI := Inv.ofTry IT ok
  have frameEq : X.A.frames = some (X.env :: X.outer) := ok.frames.trans (by rw [hst])
  have sky1 : Sky B (X.env :: X.outer) a (Zc cls d) X.env.locals s.heap := hst ▸ sky
  refine Sky.land (Q := fun _ => Q) Zc.steady frameEq hfl sky1 fun hL fly up2 => ?_
  obtain ⟨oe, vs, r1, _, r3⟩ := HandSPX.FlyingZ.there fly
  have out : a ∉ frs X.stack := fun hm => by
    rw [hst] at hm
    obtain ⟨_, o, eo, no⟩ := fly.2.2.1.mem hm
    rw [r1] at eo
    exact no vs (by rw [← Option.some.inj eo]; exact r3)
  have never : ∀ o, sI.heap.get? a = some o → False := fun o e => by
    have q := gr a o e out
    rw [fly.2.1] at q
    cases q
  refine hQ a B cls d σ1 H1 { s with heap := hL } rfl wish ⟨I1.landed gr fly.1 (ups.trans up2) eos bar, by rw [hst]; exact fly, none1, fun z => ?_, fun z => ?_, fun o e x => ?_, fun p hp z => ?_, sI, I1, gr, ups.trans up2, eos, bar⟩
  · exact out (by rw [hst]; exact List.mem_filterMap.mpr ⟨X.env, List.mem_cons_self, by rw [hfl, z]⟩)
  · obtain ⟨e, he, q⟩ := List.mem_filterMap.mp z
    exact out (by rw [hst]; exact List.mem_filterMap.mpr ⟨e, List.mem_cons_of_mem _ he, q⟩)
  · obtain ⟨o2, q⟩ := I1.base.there a o e x
    exact never o2 q
  · exact never _ (z ▸ (I1.pin p hp).1)
/-- .. and once more, when the suite begins -/
theorem Down.again {M : Model} {A : Around} {Q : Shared → Prop} {E : Value → Shared → Prop} (W : Down X pins σ H cls d a B s) (h : ∀ s', Down X pins σ H cls d a B s' → Q s') : wpAny M A (setFlight (.ref a) none) (fun _ => Q) E s := by
  obtain ⟨s0, J, gr, ups, eos, bar⟩ := W.gnd
  exact HandSPX.lands_againZ (Q := fun _ => Q) W.fly fun hL fly up2 => h { s with heap := hL } ⟨J.landed gr fly.1 (ups.trans up2) eos bar, fly, W.unk, W.notL, W.notF, W.notS, W.notP, s0, J, gr, ups.trans up2, eos, bar⟩
/-- its class is what the clause names -/
theorem Down.meets {A : Around} {E : Value → Shared → Prop} {c : Value} {Q : Bool → Shared → Prop} (W : Down X pins σ H cls d a B s) (hm : PySem.W.exmOne X.K cls c = some true) (h : Q true s) : wpAny (model X.prog X.w) A (excMatches (.ref a) c) Q E s := by
  obtain ⟨oe, vs, q1, q2, _⟩ := W.obj
  refine (PySem.W.exm_one (M := model X.prog X.w) W.inv.kIn (cls := cls) ?_ hm).here h
  intro A1 Q1 E1 s1 keep q
  exact wpAny_typeOf_ref (keep _ _ q1) (q2.1 ▸ q)
/-- the suite's context, the exception tracked -/
theorem Down.suite (W : Down X pins σ H cls d a B s) (ok : X.Ok) : Inv (X.suite a (X.pn ++ pins)) [] σ (upd H a (CaughtO cls d a)) s := by
  have I := W.tracked
  exact ⟨ok.suite _ _, I.os, I.bare, I.base, I.loc, I.cell, I.free, I.freeC, fun p hp => I.pin p (List.append_nil (X.pn ++ pins) ▸ hp), I.hok, I.len⟩
theorem unsuite_inv {σ' : St} {H' : Hp} {s' : Shared} (ok : X.Ok) (I : Inv (X.suite a (X.pn ++ pins)) [] σ' H' s') : Inv X pins σ' H' s' :=
  ⟨ok, I.os, I.bare, I.base, I.loc, I.cell, I.free, I.freeC, fun p hp => I.pin p ((List.append_nil (X.pn ++ pins)).symm ▸ hp), I.hok, I.len⟩
end
/-- what the clause wishes of an exception of the body, which is one of c: slot i is n's -/
def wKeep (K : PySem.W.Frag) (k : Nat) (c : Value) (i : Nat) (ts : Addr → TS) (D : Ends) : WX := fun cls d σ H =>
  PySem.W.exmOne K cls c = some true ∧ (σ.length = k → ∀ a, H a = none → ts a { nx := fun σ' H' => D.nx (σ'.set i none) H', rt := D.rt, bk := fun _ _ => False, ct := fun _ _ => False } (σ.set i (some (.ref a))) (upd H a (CaughtO cls d a)))
section
variable {X : Cx} {x n : Str} {c : Value} {i : Nat} {body suite : List Stmt} {b₀ : Stmt} {np pos pos' : Pos} {tb : WX → TS} {ts : Addr → TS}
theorem ps_try_keep (hst : X.stack = X.env :: X.outer) (hfl : X.env.frame = some X.env.locals) (nd : X.N.Nodup) (hi : X.N[i]? = some n) (hn : X.env.kindOf n = some .local) (nm : Names X x c)
    (hb : ∀ (W : WX) (pn : List (Addr × Obj)) (xe : Value → Shared → Prop), Takes (X.tr pn xe) W → PassesOwn (model X.prog X.w) X.A X.env xe → PSs (X.tr pn xe) body (tb W)) (hs : ∀ (a : Addr) (pn : List (Addr × Obj)), PSs (X.suite a pn) (b₀ :: suite) (ts a)) :
    PS X (.Try body [.ExceptHandler (some (.Name x np)) (some n) (b₀ :: suite) pos'] [] [] pos) (fun D σ H => tb (wKeep X.K X.N.length c i ts D) D σ H) := by
  constructor
  intro pins s σ H D I0 reading
  have ok := I0.ok
  apply wpAny_Try_except
  -- what a landed exception meets
  have clause : ∀ (a : Addr) (B : Heap) (cls : Value) (d : Option Addr) (σ1 : St) (H1 : Hp) (s1 : Shared), wKeep X.K X.N.length c i ts D cls d σ1 H1 → Down X pins σ1 H1 cls d a B s1 → wpAny (model X.prog X.w) X.A (handleBy (.ref a) X.env [.ExceptHandler (some (.Name x np)) (some n) (b₀ :: suite) pos']) (SP X pins D) X.xe s1 := by
    rintro a B cls d σ1 H1 s1 ⟨hm, go⟩ W
    apply wpAny_handleBy_cons
    · apply codeAny_handlers_test
      have named : ∀ {Q1 : Value → Shared → Prop} {E1 : Value → Shared → Prop}, Q1 c s1 → wpAny (model X.prog X.w) (X.suite a (X.pn ++ pins)).A (eval (.Name x np) X.env) Q1 E1 s1 := fun {Q1 E1} q => by
        have I := W.suite ok
        rcases nm with ⟨g, db, m | ⟨m, v, w⟩⟩
        · exact ld_glob (X := X.suite a (X.pn ++ pins)) I g m q db
        · exact ld_blt (X := X.suite a (X.pn ++ pins)) I g m v q w db
      refine named (W.meets hm ?_)
      apply codeAny_handlers_suite_as
      refine W.again fun s2 W2 => ?_
      refine store_ok (X := X.suite a (X.pn ++ pins)) (v := .ref a) (W2.suite ok) nd hi (.inl hn) rfl (fun s3 I3 => ?_) (.inr hn)
      refine wpAny_mono ((hs a (X.pn ++ pins)).run [] s3 _ _ _ I3 (go W.inv.len a W.unk)) (fun f s4 sp => ?_) fun _ _ z => False.elim z
      -- the clause's name goes
      have away : ∀ {σ5 : St} {H5 : Hp} {Q5 : Shared → Prop}, Inv (X.suite a (X.pn ++ pins)) [] σ5 H5 s4 → (∀ s6, Inv X pins (σ5.set i none) H5 s6 → Q5 s6) → wpAny (model X.prog X.w) X.A (do bindName X.env n .none; unbindBehindTheSuite X.env n pos') (fun _ => Q5) X.xe s4 :=
        fun I5 h5 => gone_ok (unsuite_inv ok I5) nd hi hn h5
      match f, sp with
      | .next, ⟨σ5, H5, I5, q5⟩ => exact away I5 fun s6 I6 => ⟨_, _, I6, q5⟩
      | .ret u, ⟨v, σ5, H5, I5, r5, q5⟩ => exact away I5 fun s6 I6 => ⟨_, _, _, I6, r5, q5⟩
      | .brk, ⟨_, _, _, z⟩ => exact z.elim
      | .cont, ⟨_, _, _, z⟩ => exact z.elim
    · intro z
      cases z
  refine wpAny_mono ((hb (wKeep X.K X.N.length c i ts D) (X.pn ++ pins) _ (fun u s' xx => down_of ok hst hfl xx fun a B cls d σ1 H1 s1 e wish W => e ▸ clause a B cls d σ1 H1 s1 wish W) PassesOwn.looking).run [] s σ H D (I0.toTry _) reading) (fun f s1 sp => ?_) fun _ _ z => z
  match f, sp with
  | .next, ⟨σ1, H1, I1, q1⟩ => exact wpAny_execs_nil ⟨σ1, H1, Inv.ofTry I1 ok, q1⟩
  | .ret u, ⟨v, σ1, H1, I1, r1, q1⟩ => exact ⟨v, σ1, H1, Inv.ofTry I1 ok, r1, q1⟩
  | .brk, ⟨σ1, H1, I1, q1⟩ => exact ⟨σ1, H1, Inv.ofTry I1 ok, q1⟩
  | .cont, ⟨σ1, H1, I1, q1⟩ => exact ⟨σ1, H1, Inv.ofTry I1 ok, q1⟩
end
end L2

set_option Elab.async false
set_option linter.all false
set_option maxRecDepth 100000
set_option maxHeartbeats 4000000
/-! A kept exception: isinstance, its fields. -/
namespace L2
open PySem PySem.Spec PyProof.Rows
/-- at a a kept exception of the own class D, with these fields -/
structure KeptX (K : PySem.W.Frag) (H : Hp) (a D : Addr) (fs : List (Str × V)) : Prop where
  ex : ∃ d, H a = some (CaughtO (.ref D) (some d) a) ∧ H d = some (.xd fs)
  cl : ExcC K D
section
variable {X : Cx} {pins : List (Addr × Obj)} {σ : St} {H : Hp} {s : Shared} {a D : Addr} {fs : List (Str × V)}
theorem kept_inst (I : Inv X pins σ H s) (k : KeptX X.K H a D fs) : ∃ (oe : Obj) (od : Obj), PySem.W.InstAt s.heap a oe D (some od) ∧ ∀ f, ∃ o, PySem.W.lookIn f od = some o ∧ RelO (fs.lookup f) o := by
  obtain ⟨d, h1, h2⟩ := k.ex
  obtain ⟨⟨oe, vs, q1, ⟨q2, q3⟩, q4⟩, _, _⟩ := I.hok a _ h1
  obtain ⟨m, ns, rel⟩ := I.hok d _ h2
  obtain ⟨od, ho, hl⟩ := lookIn_ns ns
  refine ⟨oe, od, ⟨q1, q2, ?_, ?_⟩, fun f => ⟨m f, hl f, rel f⟩⟩
  · unfold PySem.W.notCls
    rw [q4]
  · rw [q3]
    exact ho
/-- isinstance(e, c) -/
def rIsK (K : PySem.W.Frag) : List V → Hp → VK → Prop := fun xs H Q => ∃ (a D : Addr) (fs : List (Str × V)) (c : V) (cv : Value) (b : Bool), xs = [.ref a, c] ∧ KeptX K H a D fs ∧ (∀ u, RelV c u → u = cv) ∧ PySem.W.kitOne K (.ref D) cv = some b ∧ Q (.bl b) H
theorem call_isK : CallR X (.builtin "isinstance") (rIsK X.K) := by
  intro pins s σ H xs us Q I r h
  obtain ⟨a, D, fs, c, cv, b, rfl, k, hc, e, q⟩ := h
  match us, r with
  | [u1, u2], .cons r1 (.cons r2 .nil) =>
    obtain rfl : u1 = Value.ref a := r1
    rw [hc _ r2]
    obtain ⟨oe, od, J, _⟩ := kept_inst I k
    have C := k.cl
    obtain ⟨cd, e1, _⟩ := PySem.W.any_some C.hd
    exact PySem.W.kia_one (PySem.W.kitx_exc (by rw [e1]; rfl) C.hg C.hk C.hs C.ha C.hn C.ht C.hm) I.kIn J e (fun z => nomatch z) fun tk => ⟨.bl b, H, I.tok _, rfl, q⟩
/-- e.f -/
def tKeptF (K : PySem.W.Frag) (f : Str) (te : TE) : TE := fun σ H Q => te σ H fun x H1 => ∃ (a D : Addr) (fs : List (Str × V)) (v : V), x = .ref a ∧ KeptX K H1 a D fs ∧ PySem.W.findIn K (.ref D) f = some none ∧ fs.lookup f = some v ∧ Q v H1
theorem pe_keptF {e : Expr} {f : Str} {te : TE} {pos : Pos} (he : PE X e te) (hb : attributeBase e f X.env (eval e X.env) = eval e X.env := by rfl) : PE X (.Attribute e f pos) (tKeptF X.K f te) := by
  refine ⟨fun pins s σ H Q I h => attr_of hb (thn (he.run pins s σ H _ I h) fun u s1 hh => ?_)⟩
  obtain ⟨x, H1, I1, rx, a, D, fs, v, rfl, k, no, hl, q⟩ := hh
  obtain rfl : u = Value.ref a := rx
  obtain ⟨oe, od, J, look⟩ := kept_inst I1 k
  obtain ⟨o, l1, l2⟩ := look f
  obtain ⟨w', ew, rw'⟩ := RelO.some_of (v := v) (o := o) (hl ▸ l2)
  exact HandSPX.exc_get I1.kIn J k.cl.hg k.cl.hk k.cl.hs (PySem.W.findObj_own k.cl.hd no rfl (by rw [l1, ew])) (handed_of rw') ⟨v, H1, I1.tok _, rw', q⟩
end
end L2

set_option Elab.async false
set_option linter.all false
set_option maxRecDepth 100000
set_option maxHeartbeats 4000000
/-! A classmethod called by the class's name, with keywords. -/
namespace L2
open PySem PySem.Spec PyProof.Rows ClX
section
variable {X : Cx} {CX : CXT} {k : Nat} {C p g f : Addr} {mc : Value} {sp : Sp} {E : XK} {o : Expr} {kws : List Keyword} {m : Str} {pos apos : Pos} {ta : TE} {tk : TA} {pl : Sem Bool} {fd : FuncData} {ps ks : List Str} {gg : List Value → List Value → List Value} {gV : List V → List V → List V}
theorem run_fnkC {pins : List (Addr × Obj)} {σ : L2.St} {H : Hp} {s : Shared} {Q : VK} {us ws : List Value} {vs zs : List V} (F : FnOk X.prog X.w X.K X.mg X.base CX k f fd ps sp) (hr : Room k X.A) (hb : KBinds X.K fd ps ks gg gV) (hx : Passes CX X E)
    (I : Inv X pins σ H s) (r : Vals vs us) (rz : Vals zs ws) (h : sp (gV vs zs) H Q E) : codeAny (model X.prog X.w) X.A (.call (.ref f) ⟨us, ks.zip ws⟩) (fun r s' => match r with | .ok (.ret v) => EP X pins σ Q v s' | .ok _ => False | .error e => X.xe e s') s := by
  have r2 := hb.rel r rz
  have hl : (gg us ws).length = ps.length := by rw [← r2.length]; exact F.len _ _ _ _ h
  refine codeAny_mono (F.run X.A X.stack s H ⟨us, ks.zip ws⟩ (gg us ws) (gV vs zs) Q E hr I.env0 (hb.to s us ws I.kIn hl) r2 h) fun r s' hq => ?_
  cases r with
  | error e => exact hx pins σ H s e s' I hq
  | ok fl =>
    cases fl with
    | ret u => exact I.after hq
    | next => exact False.elim hq
    | brk => exact False.elim hq
    | cont => exact False.elim hq
def tCMethK (C : Addr) (sp : Sp) (gV : List V → List V → List V) (E : XK) (ta : TE) (tk : TA) : TE := fun σ H Q => ta σ H fun x H1 => x = .ref C ∧ tk σ H1 fun zs H2 => sp (gV [.ref C] zs) H2 Q E
theorem pe_cmethK (he : PE X o ta) (r : CRead X.K C mc) (c : CMet X.K C mc m p g) (F : FnOk X.prog X.w X.K X.mg X.base CX k g fd ps sp) (hr : Room k X.A) (hb : KBinds X.K fd ps ks gg gV) (hx : Passes CX X E) (hkw : PK X kws tk)
    (hall : (backToKw pos (keywordEach kws X.env)).all (·.1.isSome) = true := by rfl) (hks : (backToKw pos (keywordEach kws X.env)).filterMap (·.1) = ks := by rfl)
    (hpl : ((backTo pos (starEach [] X.env)).any (·.1) || (backToKw pos (keywordEach kws X.env)).any (·.1.isNone)) = false := by rfl)
    (ht : eval (.Call (.Attribute o m apos) [] kws pos) X.env = (do
      let ov ← eval o X.env
      standAt apos.atName
      let (f, first) ← holding [ov] (getMethod ov m pl)
      callWith pos f first (backTo pos (starEach [] X.env)) (backToKw pos (keywordEach kws X.env))) := by rfl) :
    PE X (.Call (.Attribute o m apos) [] kws pos) (tCMethK C sp gV E ta tk) := by
  refine ⟨fun pins s σ H Q I h => ?_⟩
  refine PySem.W.methodCall_KW (pl := pl) (thn (he.run pins s σ H _ I h) fun u s1 ⟨x, H1, I1, rx, ex, q⟩ => ?_) ht
  subst ex
  obtain rfl : u = Value.ref C := rx
  refine getmethcm_ok I1 r c fun s2 I2 => ?_
  refine PySem.W.callWith_of hpl (PySem.W.keeps_M (K := X.K) (self := .ref C) c.fi) (PyProof.Rows.evalArgs_kw2_nil hall (thn (hkw.run pos _ s2 σ H1 _ I2 q) fun ws s3 ⟨zs, H2, I3, rz, q2⟩ => ⟨⟨pin_at I3, I3.kIn⟩, ?_⟩))
  rw [hks]
  have z : wpAny (model X.prog X.w) X.A (call (.ref s1.heap.objs.size) ([] ++ []) (ks.zip ws)) (EP X ((s1.heap.objs.size, PySem.W.methodObj (.ref g) (.ref C)) :: pins) σ Q) X.xe s3 :=
    wpAny_call (PySem.W.method_call (pin_at I3) (run_fnkC (us := [.ref C]) (vs := [.ref C]) F hr hb hx I3 (.cons rfl .nil) rz q2))
  exact thn z fun _ _ y => unpinE y
end
end L2

set_option Elab.async false
set_option linter.all false
set_option maxRecDepth 100000
set_option maxHeartbeats 4000000
/-! Lambdas as values: made, kept in lists, called later by a def that gets them. -/
namespace LamX
open PySem PySem.Spec PyProof.Rows L2
/-- the object at f is known -/
def FnO (f : Addr) (o : Obj) : HO := .ext fun h => h.get? f = some o
/-- the object that a lambda of X makes -/
abbrev lamObj (X : Cx) (params : Arguments) (body : Expr) (scope : Scope) (pm ctv : Value) (c' : Addr) : Obj :=
  PySem.W.kla_obj "<lambda>" (X.env.qual ++ "<lambda>") params body scope (cloFrom X.env.cells scope.names []) pm c' ctv
/-- at f stands a lambda of X -/
def LamO (X : Cx) (H : Hp) (f : Addr) (params : Arguments) (body : Expr) (scope : Scope) : Prop :=
  ∃ (c' : Addr) (pm ctv : Value), H f = some (FnO f (lamObj X params body scope pm ctv c')) ∧ H c' = some (CodeO c' (X.env.qual ++ "<lambda>"))
theorem fnO_ne {f : Addr} {o : Obj} (ps : Array Value) : FnO f o ≠ .tbl ps := fun z => by
  unfold FnO at z
  cases z
theorem LamO.ext {X : Cx} {H H' : Hp} {f : Addr} {params : Arguments} {body : Expr} {scope : Scope} (l : LamO X H f params body scope) (e : ExtN H H') : LamO X H' f params body scope := by
  obtain ⟨c', pm, ctv, h1, h2⟩ := l
  exact ⟨c', pm, ctv, e _ _ h1 fnO_ne, e _ _ h2 codeO_ne⟩
theorem fnO_ok {P : Program} {w : World} {H : Hp} {h : Heap} {f : Addr} {o : Obj} (e : h.get? f = some o) : ObjOk P w H h f (FnO f o) :=
  ⟨e, ⟨o, e⟩, fun _ _ p k => k _ p⟩
section
variable {X : Cx} {pins : List (Addr × Obj)} {σ : L2.St} {H : Hp} {s : Shared}
/-- a lambda is made, and its object is known from now on -/
theorem lam_made {T : List (Addr × Str)} {c P : Addr} {params : Arguments} {body : Expr} {scope : Scope} {pos : Pos} {E : Value → Shared → Prop} {Q : Value → Shared → Prop} (I : Inv X pins σ H s) (TB : TabB X.base X.mg c P) (hcode : X.env.code = .ref c)
    (hm : (P, X.env.qual ++ "<lambda>") ∈ T) (hu : ∀ p ∈ T, p.1 = P → p.2 = X.env.qual ++ "<lambda>") (hT : Tabs T H) (hdef : defaultsOf params X.env = ([], []))
    (hfree : ∀ y ∈ scope.names, y.2 = .free → ∃ c, X.env.cells.lookup y.1 = some c)
    (k : ∀ (f : Addr) (H1 : Hp) (s' : Shared), Inv X pins σ H1 s' → ExtN H H1 → Tabs T H1 → H f = none → LamO X H1 f params body scope → Q (.ref f) s') :
    wpAny (model X.prog X.w) X.A (eval (.Lambda params body scope pos) X.env) Q E s := by
  have here := hT _ hm
  obtain ⟨ps, hP, trip, among⟩ := here
  have oP : s.heap.get? P = some { cls := .none, data := .fields ps } := I.hok P _ hP
  have gl := I.mod.glob.keeps I.bk
  have cd := TB.code.keeps I.bk
  have bP := TB.bm.keeps I.bk
  refine PySem.W.kla_eval hdef ?_
  cases hc : codeAmong pos ps.toList with
  | some cv =>
    obtain ⟨c1, rfl, known⟩ := among pos cv hc
    refine PySem.W.kla_makeFunctionHit (mg := X.mg) (c := c) (P := P) (ps := ps) (closure_ok hfree) I.ok.glob gl hcode cd oP trip hc bP fun ctv h1 tk hx hsz => ?_
    have J : Inv X pins σ H { s with heap := h1, toks := tk } := I.kept fun b o e => hx b o e
    have new : H h1.objs.size = none := I.hok.fresh hsz
    have J2 := J.laid (a := h1.objs.size) (t' := tk) (h' := h1.push (lamObj X params body scope ((X.mg "__name__").getD .none) ctv c1)) (o := FnO h1.objs.size (lamObj X params body scope ((X.mg "__name__").getD .none) ctv c1))
      (fun b u e => Heap.get?_push_of_some _ e) (Nat.le_refl _) (fnO_ok (Heap.get?_push_size _ rfl))
    have eN : ExtN H (upd H h1.objs.size (FnO h1.objs.size (lamObj X params body scope ((X.mg "__name__").getD .none) ctv c1))) := fun b o e _ => by
      rw [upd_ne (ne_of_none e new)]
      exact e
    exact k _ _ _ J2 eN (hT.ext fun b o e => by rw [upd_ne (ne_of_none e new)]; exact e) new ⟨c1, _, _, upd_same, eN _ _ known codeO_ne⟩
  | none =>
    refine PySem.W.kla_makeFunction (mg := X.mg) (c := c) (P := P) (ps := ps) (closure_ok hfree) I.ok.glob gl hcode cd oP trip hc TB.gP bP fun c1 ctv h1 tk hx hge hlt hrec htb => ?_
    obtain ⟨c2, oc, vs, t, e2, hoc, hd, hv⟩ := hrec
    cases e2
    have nC : H c1 = none := I.hok.fresh hge
    have J := inv_table (t' := tk) (more := #[rawInt pos.line, rawInt pos.col, .ref c1]) (h' := h1) I hP hx htb hge ⟨oc, vs, t, hoc, hd, hv⟩
    have hsz : s.heap.objs.size ≤ h1.objs.size := Nat.le_trans hge (Nat.le_of_lt hlt)
    have new0 : H h1.objs.size = none := I.hok.fresh hsz
    have new : upd (upd H P (.tbl (ps ++ #[rawInt pos.line, rawInt pos.col, .ref c1]))) c1 (CodeO c1 (X.env.qual ++ "<lambda>")) h1.objs.size = none := J.hok.fresh (Nat.le_refl _)
    have J2 := J.laid (a := h1.objs.size) (t' := tk) (h' := h1.push (lamObj X params body scope ((X.mg "__name__").getD .none) ctv c1)) (o := FnO h1.objs.size (lamObj X params body scope ((X.mg "__name__").getD .none) ctv c1))
      (fun b u e => Heap.get?_push_of_some _ e) (Nat.le_refl _) (fnO_ok (Heap.get?_push_size _ rfl))
    have eA : ExtN H (upd (upd H P (.tbl (ps ++ #[rawInt pos.line, rawInt pos.col, .ref c1]))) c1 (CodeO c1 (X.env.qual ++ "<lambda>"))) := fun b o e n => by
      have h1 : b ≠ P := fun z => by
        rw [z, hP] at e
        exact n ps (Option.some.inj e).symm
      rw [upd_ne (ne_of_none e nC), upd_ne h1]
      exact e
    have known : upd (upd H P (.tbl (ps ++ #[rawInt pos.line, rawInt pos.col, .ref c1]))) c1 (CodeO c1 (X.env.qual ++ "<lambda>")) c1 = some (CodeO c1 (X.env.qual ++ "<lambda>")) := upd_same
    have tA : Tabs T (upd (upd H P (.tbl (ps ++ #[rawInt pos.line, rawInt pos.col, .ref c1]))) c1 (CodeO c1 (X.env.qual ++ "<lambda>"))) := fun p hp => by
      by_cases hb : p.1 = P
      · rw [hu p hp hb, hb]
        refine ⟨ps ++ #[rawInt pos.line, rawInt pos.col, .ref c1], by rw [upd_ne (ne_of_none hP nC), upd_same], ?_, fun p2 cv hcv => ?_⟩
        · rw [Array.toList_append]
          exact PySem.TriplesOk_snoc _ _ _ _ trip
        · rw [Array.toList_append] at hcv
          rcases among_app _ trip hcv with z | z
          · obtain ⟨c0, e1, e3⟩ := among p2 cv z
            exact ⟨c0, e1, eA _ _ e3 codeO_ne⟩
          · exact ⟨c1, z, known⟩
      · obtain ⟨qs, a1, a2, a3⟩ := hT p hp
        refine ⟨qs, by rw [upd_ne (ne_of_none a1 nC), upd_ne hb]; exact a1, a2, fun p2 cv hcv => ?_⟩
        obtain ⟨c0, e1, e3⟩ := a3 p2 cv hcv
        exact ⟨c0, e1, eA _ _ e3 codeO_ne⟩
    generalize upd (upd H P (.tbl (ps ++ #[rawInt pos.line, rawInt pos.col, .ref c1]))) c1 (CodeO c1 (X.env.qual ++ "<lambda>")) = HA at J J2 new eA known tA
    have st : ∀ b o, HA b = some o → upd HA h1.objs.size (FnO h1.objs.size (lamObj X params body scope ((X.mg "__name__").getD .none) ctv c1)) b = some o := fun b o e => by
      rw [upd_ne (ne_of_none e new)]
      exact e
    exact k _ _ _ J2 (eA.trans (ExtN.of st)) (tA.ext st) new0 ⟨c1, _, _, upd_same, st _ _ known⟩
/-- a lambda as a value -/
theorem pe_lamV {T : List (Addr × Str)} {c P : Addr} {params : Arguments} {body : Expr} {scope : Scope} {pos : Pos} (TB : TabB X.base X.mg c P) (hcode : X.env.code = .ref c) (hm : (P, X.env.qual ++ "<lambda>") ∈ T)
    (hu : ∀ p ∈ T, p.1 = P → p.2 = X.env.qual ++ "<lambda>") (L : LamS X.env.scope scope) (hdef : defaultsOf params X.env = ([], [])) :
    PE X (.Lambda params body scope pos) (fun _ H Q => Tabs T H ∧ ∀ f H1, ExtN H H1 → Tabs T H1 → H f = none → LamO X H1 f params body scope → Q (.ref f) H1) := by
  refine ⟨fun pins s σ H Q I h => ?_⟩
  obtain ⟨hT, h⟩ := h
  exact lam_made I TB hcode hm hu hT hdef (L.has I.ok) fun f H1 s' J eN tA nf l => ⟨.ref f, H1, J, rfl, h f H1 eN tA nf l⟩
end
end LamX

set_option Elab.async false
set_option linter.all false
set_option maxRecDepth 100000
set_option maxHeartbeats 4000000
/-! A def that calls what it got, where what it got is a lambda kept before. -/
namespace LamX
open PySem PySem.Spec PyProof.Rows L2
/-- what a lambda of X must be -/
structure LamOk (X : Cx) (k : Nat) (params : Arguments) (body : Expr) (scope : Scope) (t : XK → TE) : Prop where
  own : LamS X.env.scope scope
  bind : ∀ (q : Str) (cl : List (Str × Addr)) (pm cv ctv : Value), bindArgs (PySem.W.kla_fn "<lambda>" q params body scope cl pm cv ctv) ⟨[], []⟩ = pure []
  reads : ∀ (A : Around) (outer : List Env) (s : Shared) (H : Hp) (E : XK) (f c' : Addr), Room k (A.deeper (lamEnv X scope s.heap.objs.size f c')) → PE (lamCx X A outer s H E scope f c') body (t E)
/-- a def x(a) that calls a: f stands for what it got, Kn is what is known of f -/
def GivesK (X : Cx) (Ng : List Str) (x : Str) (sg : Scope) (g : Addr) (cdg : Value) (bg : List Stmt) (a : Str) (TT : (XK → Hp → VK → Prop) → Hp → VK → Prop) : Prop :=
  ∀ (f : Addr) (Kn : Hp → Prop) (s : Shared) (H : Hp) (Q : VK) (tl : XK → Hp → VK → Prop), (∀ H H' : Hp, Kn H → (∀ b o, H b = some o → H' b = some o) → Kn H') →
    (∀ (W : WX) (pn : List (Addr × Obj)) (xe : Value → Shared → Prop) (E : XK) (p1 p2 : Pos), Takes ((cxOf C8.CX0 X.prog X.w X.K X.mg X.base Ng x sg g cdg X.A X.stack s H C8.E0).tr pn xe) W → (∀ cls d σ' H', E cls d H' → W cls d σ' H') →
      PE ((cxOf C8.CX0 X.prog X.w X.K X.mg X.base Ng x sg g cdg X.A X.stack s H C8.E0).tr pn xe) (.Call (.Name a p1) [] [] p2) (fun σZ HZ Q => σZ[0]? = some (some (.ref f)) ∧ Kn HZ ∧ tl E HZ Q)) →
    Kn H → TT tl H Q →
    ∃ t, PSs (cxOf C8.CX0 X.prog X.w X.K X.mg X.base Ng x sg g cdg X.A X.stack s H C8.E0).nox bg t ∧ t { nx := fun _ H' => Q .non H', rt := Q } (L2.start Ng [.ref f]) H
theorem GivesK.to {X : Cx} {Ng : List Str} {x a q : Str} {sg : Scope} {g : Addr} {cdg : Value} {bg : List Stmt} {TT : (XK → Hp → VK → Prop) → Hp → VK → Prop} (G : GivesK X Ng x sg g cdg bg a TT) : GivesTo X Ng x sg g cdg bg a q TT :=
  fun f c' s H Q tl act hc h => G f (fun HZ => HZ c' = some (CodeO c' q)) s H Q tl (fun _ _ z e => e _ _ z) act hc h
section
variable {X : Cx} {pins : List (Addr × Obj)} {σ : L2.St} {H : Hp} {s : Shared}
/-- a() in the def that got a kept lambda -/
theorem act_kept {CXg : CXT} {Eg : XK} {Ng : List Str} {qg : Str} {sg : Scope} {g f c1 : Addr} {cdg pm ctv : Value} {params : Arguments} {body : Expr} {scope : Scope} {k i : Nat} {a : Str} {pn : List (Addr × Obj)} {xe : Value → Shared → Prop} {W : WX} {E : XK} {t : XK → TE} {p1 p2 : Pos}
    (I : Inv X pins σ H s) (l : LamOk X k params body scope t) (tk : Takes ((cxOf CXg X.prog X.w X.K X.mg X.base Ng qg sg g cdg X.A X.stack s H Eg).tr pn xe) W) (hW : ∀ cls d σ' H', E cls d H' → W cls d σ' H')
    (room : Room (k + 1) (X.A.deeper (envOfC qg sg s.heap.objs.size g cdg))) (hN : Ng[i]? = some a) (hv : Vis sg a) (hd : (a == ("__debug__" : Str)) = false := by decide) (hcd : (a == ("__classdict__" : Str)) = false := by decide) :
    PE ((cxOf CXg X.prog X.w X.K X.mg X.base Ng qg sg g cdg X.A X.stack s H Eg).tr pn xe) (.Call (.Name a p1) [] [] p2)
      (fun σZ HZ Q => σZ[i]? = some (some (.ref f)) ∧ (HZ f = some (FnO f (lamObj X params body scope pm ctv c1)) ∧ HZ c1 = some (CodeO c1 (X.env.qual ++ "<lambda>"))) ∧ t E σ HZ Q) := by
  have own := l.own
  refine ⟨fun pinsZ sZ σZ HZ Q IZ h => ?_⟩
  obtain ⟨at_, ⟨kf, kc⟩, rest⟩ := h
  have name := (pe_var (pos := p1) (i := i) hN hv hd hcd).run pinsZ sZ σZ HZ (fun v H1 => v = .ref f ∧ H1 = HZ) IZ ⟨.ref f, at_, rfl, rfl⟩
  refine wpAny_Call_Name_kw (thn name fun u s1 z => ?_)
  obtain ⟨v, H1, J, rel, rfl, rfl⟩ := z
  obtain rfl : u = Value.ref f := rel
  have obj : s1.heap.get? f = some (lamObj X params body scope pm ctv c1) := (J.hok f _ kf).1
  have code := (J.hok c1 _ kc).1
  obtain ⟨oc, vs, tt, code1, code2, code3⟩ := code
  refine PySem.W.callWith_F0 ⟨_, _, _, _, obj⟩ ?_
  have ran : codeAny (model X.prog X.w) (X.A.deeper (envOfC qg sg s.heap.objs.size g cdg)) (.call (.ref f) ⟨[], []⟩) (CR (L2.CX X.prog X.w) (envOfC qg sg s.heap.objs.size g cdg :: X.stack) X.prog X.w H1 s1 Q E) s1 := by
    refine PySem.W.kla_callFunE room.depth obj rfl own.co own.gen rfl ⟨c1, oc, vs, tt, rfl, code1, code2, code3⟩ ?_
    rw [l.bind]
    refine wpAny_pure (wpAny_newFunctionEnv (fun y hy => (own.own y hy).2) (fun y hy => absurd hy (by simp)) (fun h₁ hns hsb => ?_) own.kind)
    refine ⟨J.nolimit.fresh _ hsb, ?_⟩
    have stay : ∀ b o, s1.heap.get? b = some o → h₁.get? b = some o := fun b o e => hsb.extBut b o (Nat.ne_of_lt (Heap.lt_size e)) (Heap.get?_push_of_some _ e)
    have start : Inv (lamCx X (X.A.deeper (envOfC qg sg s.heap.objs.size g cdg)) (envOfC qg sg s.heap.objs.size g cdg :: X.stack) s1 H1 E scope f c1) [] σ H1 { s1 with heap := h₁, toks := s1.toks + ([] : List (Str × Value)).length } :=
      lam_start2 I own J.env0 room.hd J.base hns stay
    have go := (l.reads _ _ s1 H1 E f c1 (room.deeper _)).run [] _ _ H1 Q start rest
    refine PySem.W.kla_codeExpr (wpAny_mono go (fun v s' hq => ?_) fun e s' hq => hq)
    obtain ⟨w', H', J', rv, q⟩ := hq
    exact ⟨w', H', J'.os, J'.bare, J'.base, J'.hok, rv, q⟩
  have out : Passes (L2.CX X.prog X.w) ((cxOf CXg X.prog X.w X.K X.mg X.base Ng qg sg g cdg X.A X.stack s H Eg).tr pn xe) E := passes_call tk hW
  refine wpAny_call (codeAny_mono ran fun r s' hq => ?_)
  match r, hq with
  | .error e, hq => exact out pinsZ σZ H1 s1 e s' J hq
  | .ok (.ret u), hq => exact J.after hq
  | .ok .next, hq => exact False.elim hq
  | .ok .brk, hq => exact False.elim hq
  | .ok .cont, hq => exact False.elim hq
/-- a kept lambda, handed on -/
def tLamV (X : Cx) (k : Nat) (TT : (XK → Hp → VK → Prop) → Hp → VK → Prop) (ta : TA) : TE := fun σ H Q => ta σ H fun vs H1 =>
  ∃ (f : Addr) (params : Arguments) (body : Expr) (scope : Scope) (t : XK → TE), vs = [.ref f] ∧ LamOk X k params body scope t ∧ LamO X H1 f params body scope ∧ TT (fun E H' Q' => t E σ H' Q') H1 Q
theorem pe_keptcall {TT : (XK → Hp → VK → Prop) → Hp → VK → Prop} {x a : Str} {g : Addr} {k : Nat} {pg : Arguments} {bg : List Stmt} {sg : Scope} {dV kV doc pm cdv ct oc : Value} {an od : Option Addr} {osl : Array (Option Value)} {Ng : List Str} {e : Expr} {ta : TA} {p pos : Pos}
    (hg : Gl X x) (hm : X.mg x = some (.ref g)) (hk : PySem.W.keepIn X.K (.ref g) = true) (lk : X.K.lookup g = some ⟨oc, od, .func (PySem.W.fnOf x x pg bg sg dV kV doc pm an cdv ct), osl⟩) (hcg : PySem.W.codeIn X.K cdv x = true)
    (hb : L2.Binds X.K (PySem.W.fnOf x x pg bg sg dV kV doc pm an cdv ct) [a] []) (Sg : FnScope Ng [a] sg) (hNg : Ng[0]? = some a) (hva : Vis sg a) (hG : GivesK X Ng x sg g cdv bg a TT) (hr : Room (k + 2) X.A) (ha : PA X [e] ta)
    (he : starEach [e] X.env = (false, eval e X.env) :: starEach [] X.env := by rfl) (hpl : (backTo pos (starEach [] X.env)).any (·.1) = false := by rfl) (hdb : (x == ("__debug__" : Str)) = false := by decide) (hd : (a == ("__debug__" : Str)) = false := by decide) (hcd : (a == ("__classdict__" : Str)) = false := by decide) :
    PE X (.Call (.Name x p) [e] [] pos) (tLamV X k TT ta) := by
  refine ⟨fun pins s σ H Q I h => ?_⟩
  refine wpAny_Call_Name_kw (ld_glob I hg hm ?_ hdb)
  refine PySem.W.callWith_K (h₀ := X.base) I.ok.mod.kin hk (thn (ha.run pos pins s σ H _ I h) fun us s1 z => ?_) he hpl
  obtain ⟨vs, H1, J, rel, f, params, body, scope, t, rfl, ok, ⟨c1, pmf, ctf, kf, kc⟩, q⟩ := z
  obtain ⟨u, rfl, ru⟩ : ∃ u, us = [u] ∧ RelV (.ref f) u := by
    cases rel with
    | cons r rr =>
      cases rr
      exact ⟨_, rfl, r⟩
  obtain rfl : u = Value.ref f := ru
  refine ⟨J.kIn, ?_⟩
  have ran : codeAny (model X.prog X.w) X.A (.call (.ref g) ⟨[.ref f], []⟩) (CR C8.CX0 X.stack X.prog X.w H1 s1 Q C8.E0) s1 := by
    refine run_ofS (N := Ng) (ps := [a]) (us := [.ref f]) (vs := [.ref f]) lk hcg Sg hr J.env0 (hb s1 [.ref f] J.kIn rfl) (.cons rfl .nil) rfl fun room => ?_
    obtain ⟨t1, ht1, hq1⟩ := hG f (fun HZ => HZ f = some (FnO f (lamObj X params body scope pmf ctf c1)) ∧ HZ c1 = some (CodeO c1 (X.env.qual ++ "<lambda>"))) s1 H1 Q (fun E H' Q' => t E σ H' Q')
      (fun _ _ z e => ⟨e _ _ z.1, e _ _ z.2⟩) (fun W pn xe E p1 p2 tk hW => act_kept (i := 0) J ok tk hW room hNg hva hd hcd) ⟨kf, kc⟩ q
    exact ⟨t1, ht1.nox, hq1⟩
  refine wpAny_call (codeAny_mono ran fun r s2 hq => ?_)
  match r, hq with
  | .error e, hq => exact (show False from hq).elim
  | .ok (.ret u), hq => exact J.after hq
  | .ok .next, hq => exact False.elim hq
  | .ok .brk, hq => exact False.elim hq
  | .ok .cont, hq => exact False.elim hq
end
end LamX

set_option Elab.async false
set_option linter.all false
set_option maxRecDepth 100000
set_option maxHeartbeats 4000000
/-! zip(text, text). -/
namespace L2
open PySem PySem.Spec PyProof.Rows
/-- the signs of two texts of one length, in new pairs -/
def ItSz (x y : Str) (n : Nat) : It :=
  ⟨fun i _ => i < n, fun i H v H' => ∃ T c d, v = .ref T ∧ H T = none ∧ H' = upd H T (.tup [.str ⟨#[c]⟩, .str ⟨#[d]⟩]) ∧ x.cps[i]? = some c ∧ y.cps[i]? = some d, fun i _ => i = n⟩
theorem turn_zipS {P : Program} {w : World} {K : PySem.W.Frag} {elts : List Expr} {kk : Nat} {tpos : Pos} {n : Nat} (x y : Str) (t t2 : Tok) {z TI TO i1 i2 : Addr} (S : ZipSep2 z TI TO i1 i2 [i1] [i2]) (ex : x.cps.size = n) (ey : y.cps.size = n) :
    Turn P w K (.Tuple elts kk tpos) (ItSz x y n) [z, TI, TO, i1, i2] z (fun i h => IsZip h z TI TO .none ∧ IsTupOf2 h TI (.ref i1) (.ref i2) ∧ (∃ a b, IsTupOf2 h TO a b) ∧ h.IsStrIter i1 (strIterType x) x t i ∧ h.IsStrIter i2 (strIterType y) y t2 i) where
  mem := by simp
  obj := fun i h st c hc => by
    obtain ⟨hz, hTI, ⟨a, b, hTO⟩, ⟨o1, e1, _, d1⟩, ⟨o2, e2, _, d2⟩⟩ := st
    have e' : c = z ∨ c = TI ∨ c = TO ∨ c = i1 ∨ c = i2 := by simpa using hc
    rcases e' with q | q | q | q | q
    · rw [q]; exact ⟨_, hz, fun v q => nomatch q⟩
    · rw [q]; exact ⟨_, hTI, fun v q => nomatch q⟩
    · rw [q]; exact ⟨_, hTO, fun v q => nomatch q⟩
    · rw [q]; exact ⟨o1, e1, fun v q => by rw [d1] at q; cases q⟩
    · rw [q]; exact ⟨o2, e2, fun v q => by rw [d2] at q; cases q⟩
  keep := fun i h h' st k => by
    obtain ⟨hz, hTI, ⟨a, b, hTO⟩, ⟨o1, q1, r1⟩, ⟨o2, q2, r2⟩⟩ := st
    exact ⟨k z (by simp) _ hz, k TI (by simp) _ hTI, ⟨a, b, k TO (by simp) _ hTO⟩, ⟨o1, k i1 (by simp) _ q1, r1⟩, ⟨o2, k i2 (by simp) _ q2, r2⟩⟩
  item := by
    intro X hP hw hK hc i pins s σ H E I hf st hg
    subst hP hw hK
    obtain ⟨hz, hTI, ⟨a0, b0, hTO⟩, h1, h2⟩ := st
    have hzl : z < s.heap.objs.size := Heap.lt_size hz
    have hl1 : i < x.cps.size := by rw [ex]; exact hg
    have hl2 : i < y.cps.size := by rw [ey]; exact hg
    refine wpAny_pyNext_zipD2_item S (Draws.text (A := X.A.in1) (I.ok.hd hc) i1 x t) (Draws.text (A := X.A.in1) (I.ok.hd hc) i2 y t2) hz hTI hTO h1 h2 hl1 hl2 fun x1 x2 h' tk hx1 hx2 z' TO' h1' h2' hT hsz hk => ?_
    obtain ⟨c, u, hcx, rfl⟩ := hx1
    obtain ⟨d, u2, hdx, rfl⟩ := hx2
    refine ⟨_, rfl, wpAny_letOwnedTupleGo_zip (s := { s with heap := h', toks := tk }) z' fun h'' z'' sb => ?_⟩
    have hT2 : h''.get? s.heap.objs.size = some { cls := .type "tuple", data := .seq #[.str ⟨#[c]⟩ u, .str ⟨#[d]⟩ u2] } := (sb.2 _ (Nat.ne_of_gt hzl)).trans hT
    have new : ObjOk X.prog X.w (upd H s.heap.objs.size (.tup [.str ⟨#[c]⟩, .str ⟨#[d]⟩])) h'' s.heap.objs.size (.tup [.str ⟨#[c]⟩, .str ⟨#[d]⟩]) :=
      ⟨by show 2 ≤ sizeLine; decide, [.str ⟨#[c]⟩ u, .str ⟨#[d]⟩ u2], .cons ⟨_, rfl⟩ (.cons ⟨_, rfl⟩ .nil), ⟨_, hT2, rfl, _, rfl⟩⟩
    have I1 : Inv X pins σ (upd H s.heap.objs.size (.tup [.str ⟨#[c]⟩, .str ⟨#[d]⟩])) { s with heap := h'', toks := tk } :=
      I.turnedNew (t' := tk) (ch := [z, TI, TO, i1, i2]) (fun c o hb q => (sb.2 c (fun q' => hb (by simp [q']))).trans (hk c o (fun q' => hb (by simp [q'])) (fun q' => hb (by simp [q'])) (fun q' => hb (by simp [q'])) (fun q' => hb (by simp [q'])) q)) hf (Nat.le_refl _) new
    refine ⟨.ref s.heap.objs.size, _, I1, rfl, ⟨_, c, d, rfl, I.hok.fresh (Nat.le_refl _), rfl, hcx, hdx⟩, ⟨z'', ?_, ⟨.str ⟨#[c]⟩ u, .str ⟨#[d]⟩ u2, ?_⟩, ?_, ?_⟩, fun c hcm => ?_⟩
    · exact (sb.2 _ S.TIz).trans (hk _ _ S.TIz S.TITO S.TIi1 S.TIi2 hTI)
    · exact (sb.2 _ S.TOz).trans TO'
    · obtain ⟨o, q, r⟩ := h1'
      exact ⟨o, (sb.2 _ (Ne.symm S.zi1)).trans q, r⟩
    · obtain ⟨o, q, r⟩ := h2'
      exact ⟨o, (sb.2 _ (Ne.symm S.zi2)).trans q, r⟩
    · have hlt : c < s.heap.objs.size := by
        have e' : c = z ∨ c = TI ∨ c = TO ∨ c = i1 ∨ c = i2 := by simpa using hcm
        rcases e' with q | q | q | q | q
        · rw [q]; exact hzl
        · rw [q]; exact Heap.lt_size hTI
        · rw [q]; exact Heap.lt_size hTO
        · rw [q]; obtain ⟨_, e1, _⟩ := h1; exact Heap.lt_size e1
        · rw [q]; obtain ⟨_, e2, _⟩ := h2; exact Heap.lt_size e2
      rw [upd_ne (Nat.ne_of_lt hlt)]
      exact (hf c hcm).1
  done := by
    intro X hP hw hK hc i pins s σ H E I hf st hg
    subst hP hw hK
    obtain ⟨hz, hTI, ⟨a0, b0, hTO⟩, h1, h2⟩ := st
    have hi : i = n := hg
    exact wpAny_pyNext_zipD2_end S (Draws.text (A := X.A.in1) (I.ok.hd hc) i1 x t) (Draws.text (A := X.A.in1) (I.ok.hd hc) i2 y t2) hz hTI hTO h1 h2 (by omega) (by omega) (.inl (by omega)) fun h' tk hk => ⟨rfl, I.turnedL (t' := tk) (ch := [z, TI, TO, i1, i2]) (fun c o hb q =>
      hk c o (fun q' => hb (by simp [q'])) (fun q' => hb (by simp [q'])) (fun q' => hb (by simp [q'])) (fun q' => hb (by simp [q'])) q) hf⟩
  self := fun A i s Q E st h => wpAny_pyIter_zip st.1 h
theorem zsep (n : Nat) : ZipSep2 (n + 4) (n + 2) (n + 3) n (n + 1) [n] [n + 1] where
  TIz := by show (n + 2 : Nat) ≠ n + 4; omega
  TOz := by show (n + 3 : Nat) ≠ n + 4; omega
  TITO := by show (n + 2 : Nat) ≠ n + 3; omega
  TIi1 := by show (n + 2 : Nat) ≠ n; omega
  mem1 := List.mem_singleton.mpr rfl
  zf1 := fun h => by have : (n + 4 : Nat) = n := List.mem_singleton.mp h; omega
  Tf1 := fun h => by have : (n + 3 : Nat) = n := List.mem_singleton.mp h; omega
  TIi2 := by show (n + 2 : Nat) ≠ n + 1; omega
  mem2 := List.mem_singleton.mpr rfl
  zf2 := fun h => by have : (n + 4 : Nat) = n + 1 := List.mem_singleton.mp h; omega
  Tf2 := fun h => by have : (n + 3 : Nat) = n + 1 := List.mem_singleton.mp h; omega
  sep1_2 := fun h => by have : (n : Nat) = n + 1 := List.mem_singleton.mp h; omega
  sep2_1 := fun h => by have : (n + 1 : Nat) = n := List.mem_singleton.mp h; omega
def iZipS (ta : TA) : TI := fun σ H R => ta σ H fun vs H1 => ∃ x y n, vs = [.str x, .str y] ∧ x.cps.size = n ∧ y.cps.size = n ∧ R (ItSz x y n) H1
theorem pi_zipS {X : Cx} {e e2 : Expr} {ta : TA} {p pos tpos : Pos} {elts : List Expr} {kk : Nat} (hg : Gl X "zip") (hm : X.mg "zip" = none) (ha : PA X [e, e2] ta)
    (hs : starEach [e, e2] X.env = (false, eval e X.env) :: starEach [e2] X.env := by rfl) (hpl : (backTo pos (starEach [e2] X.env)).any (·.1) = false := by rfl) :
    PI X (.Tuple elts kk tpos) (.Call (.Name "zip" p) [e, e2] [] pos) (iZipS ta) := by
  refine ⟨fun pins s σ H R I h => ?_⟩
  refine Call_ (ld_blt I hg hm PyProof.Rows.boot_zip (PyProof.Rows.callWith_type1 (thn (ha.run pos pins s σ H _ I h) fun us s1 ⟨vs, H1, I1, r1, q1⟩ => ?_) hs hpl))
  obtain ⟨x, y, n, rfl, ex, ey, q⟩ := q1
  cases r1 with
  | cons r rr =>
    cases rr with
    | cons r' rr =>
      cases rr
      obtain ⟨t, rfl⟩ := r
      obtain ⟨t2, rfl⟩ := r'
      have fresh5 : ∀ c, c ∈ [s1.heap.objs.size + 4, s1.heap.objs.size + 2, s1.heap.objs.size + 3, s1.heap.objs.size, s1.heap.objs.size + 1] → FpOk X pins H1 c := fun c hcm => by
        have e' : c = s1.heap.objs.size + 4 ∨ c = s1.heap.objs.size + 2 ∨ c = s1.heap.objs.size + 3 ∨ c = s1.heap.objs.size ∨ c = s1.heap.objs.size + 1 := by simpa using hcm
        have hle : s1.heap.objs.size ≤ c := by
          rcases e' with z | z | z | z | z
          · rw [z]; exact Nat.le_add_right _ _
          · rw [z]; exact Nat.le_add_right _ _
          · rw [z]; exact Nat.le_add_right _ _
          · rw [z]; exact Nat.le_refl _
          · rw [z]; exact Nat.le_add_right _ _
        exact I1.fpOk hle (I1.hok.fresh hle)
      refine zip_begins2 (begins_text x t) (begins_text y t2) trivial trivial fun h' hz hTI hTO h1 h2 hsz hk => wpAny_pyIter_zip hz ?_
      have I2 : Inv X pins σ H1 { s1 with heap := h' } := I1.kept (t' := s1.toks) hk
      refine ⟨s1.heap.objs.size + 4, [s1.heap.objs.size + 4, s1.heap.objs.size + 2, s1.heap.objs.size + 3, s1.heap.objs.size, s1.heap.objs.size + 1], _, _, H1, rfl, I2, turn_zipS x y t t2 (zsep _) ex ey, ⟨hz, hTI, ⟨_, _, hTO⟩, ⟨_, h1, rfl, rfl⟩, ⟨_, h2, rfl, rfl⟩⟩, fresh5, q⟩
theorem walk_zipS {x y : Str} {n : Nat} : Walk (ItSz x y n) n (fun _ => True) (fun i H v H' => ∃ T c d, v = .ref T ∧ H T = none ∧ H' = upd H T (.tup [.str ⟨#[c]⟩, .str ⟨#[d]⟩]) ∧ x.cps[i]? = some c ∧ y.cps[i]? = some d) :=
  ⟨fun _ _ hi _ => hi, fun _ _ => rfl, fun _ _ _ _ _ _ y => y⟩
end L2

set_option Elab.async false
set_option linter.all false
set_option maxRecDepth 100000
set_option maxHeartbeats 4000000
/-! text * k. -/
namespace L2
open PySem PySem.Spec PyProof.Rows
theorem op_repS {X : Cx} : OpR X (binaryOp .Mult) (fun x y H Q => ∃ z k, x = .str z ∧ y = .int k ∧ z.length ≤ 1000 ∧ 0 ≤ k ∧ k ≤ 1000 ∧ Q (.str (Txt.mul z k)) H) := by
  intro pins s σ H x y v u Q I rx ry h
  obtain ⟨z, k, rfl, rfl, hz, k0, k1, q⟩ := h
  obtain ⟨t, rfl⟩ := rx
  obtain ⟨t', rfl⟩ := ry
  exact SB.mul (PyProof.Rows.mulOk_of 1000 1000 hz k1 (by omega) (by decide) (by decide)) fun t' tk => ⟨.str _, H, I.tok _, ⟨_, rfl⟩, q⟩
end L2

set_option Elab.async false
set_option linter.all false
set_option maxRecDepth 100000
set_option maxHeartbeats 4000000
/-! Equal dicts, whose values are data of any depth; iter(a dict) and loops by it. -/
namespace L2
open PySem PySem.Spec PyProof.Rows ItX
section
variable {X : Cx} {pins : List (Addr × Obj)} {σ : L2.St} {H : Hp} {s : Shared}
/-- each of the one has an equal one behind the same key -/
def AlikeD (K : PySem.W.Frag) (H : Hp) (ks ls : List (Key × V)) : Prop := ∀ p ∈ ks, ∃ y d, valV ls p.1 = some y ∧ Dp K H p.2 d ∧ Dp K H y d ∧ SeqAt.shaped d = true
theorem hits_data {A : Around} (I : Inv X pins σ H s) (hA : A.units + 64 < cLine) {ls : List (Key × V)} {vb : List (Key × Value)} (rb : KV ls vb) {ks : List (Key × V)} {va : List (Key × Value)} (ra : KV ks va) : AlikeD X.K H ks ls → PySem.W.KeqHits A s vb va true := by
  unfold KV at ra
  induction ra with
  | nil => intro _; exact .nil
  | @cons p q ps qs h t ih =>
    intro hp
    obtain ⟨y, d, e, d1, d2, sh⟩ := hp p List.mem_cons_self
    obtain ⟨h1, h2⟩ := h
    obtain ⟨k, v⟩ := q
    have h1' : p.1 = k := h1
    have rr : RelO (valV ls p.1) (valueAt vb p.1) := rb.val p.1
    rw [e] at rr
    obtain ⟨y', hy, ry⟩ := rr.some_of
    rw [h1'] at hy
    obtain ⟨as, r1⟩ := Dp.reads I d p.2 v d1 h2
    obtain ⟨bs, r2⟩ := Dp.reads I d y y' d2 ry
    have sh' : (d.canLay0 && decide (d.depth ≤ 64)) = true := sh
    rw [Bool.and_eq_true] at sh'
    have dep := of_decide_eq_true sh'.2
    have hh := SeqAt.eqAt_reads d d A s v y' as bs r1 r2 sh'.1 sh'.1 (by omega)
    rw [SeqAt.eqv_refl d sh'.1] at hh
    exact .hit hy hh (ih fun p' hm => hp p' (List.mem_cons_of_mem _ hm))
def rEqDD (K : PySem.W.Frag) : R2 := fun x y H Q => ∃ a b ks ls, x = .ref a ∧ y = .ref b ∧ Rd H a (.dK ks) ∧ Rd H b (.dK ls) ∧ ks.length = ls.length ∧ AlikeD K H ks ls ∧ Q (.bl true) H
theorem op_eqDD {K : PySem.W.Frag} {j : Nat} (hK : X.K = K) (hr : Room j X.A) : OpR X (compareOp .Eq) (rEqDD K) := by
  subst hK
  intro pins s σ H x y v u Q I rx ry h
  obtain ⟨a, b, ks, ls, rfl, rfl, ea, eb, hl, al, q⟩ := h
  obtain rfl : v = Value.ref a := rx
  obtain rfl : u = Value.ref b := ry
  obtain ⟨_, ya, va, ra, da⟩ := dk_rd I.hok ea
  obtain ⟨_, yb, vb, rb, db⟩ := dk_rd I.hok eb
  have h1 : va.length = ks.length := (Paired.length ra).symm
  have h2 : vb.length = ls.length := (Paired.length rb).symm
  have hu := hr.un
  refine PySem.W.keq_eq (knd := mixKind X.prog X.w) (r := true) ya yb da db (by omega) (fun _ => hits_data I (by show X.A.units + 1 + 64 < cLine; omega) rb ra al) (fin_bl I q ?_)
  rw [h1, h2, hl]
  simp
end
/-- at it a fresh iterator of the keys of the dict at d, whose object is o -/
def ItK (d : Addr) (o : Obj) (n : Nat) (it : Addr) : HO := .ext fun h => ∃ es ep, o.data = .dict es ep ∧ h.IsKeyIter it d 0 n ep
theorem itK_ok {P : Program} {w : World} {H : Hp} {h : Heap} {d it : Addr} {o : Obj} {n : Nat} {es : Array DictEntry} {ep : Nat} (e : o.data = .dict es ep) (k : h.IsKeyIter it d 0 n ep) : ObjOk P w H h it (ItK d o n it) := by
  obtain ⟨oi, e1, e2, e3⟩ := id k
  exact ⟨⟨es, ep, e, k⟩, ⟨oi, e1⟩, fun h1 h2 q st => by
    obtain ⟨es', ep', e', k'⟩ := q
    exact ⟨es', ep', e', k'.at fun oi e => st oi e⟩⟩
section
variable {X : Cx}
theorem call_iterK : CallR X (.builtin "iter") (fun xs H Q => ∃ (d : Addr) (o : Obj) (kvs : List (Key × V)), xs = [.ref d] ∧ H d = some (.frz o (.dK kvs)) ∧ ∀ it, H it = none → X.s_0.heap.objs.size ≤ it → Q (.ref it) (upd H it (ItK d o kvs.length it))) := by
  intro pins s σ H xs us Q I r h
  obtain ⟨d, o, kvs, rfl, hd, q⟩ := h
  obtain rfl := Vals.ref1 r
  obtain ⟨hs, hgd, hx, es, ep, vs, hdt, hsz, kv, hm⟩ := I.frzK hd
  refine Calls.call_function_entry (by decide +kernel) (by decide +kernel) PySem.W.kdk_entry_iter (PySem.W.kdk_args_iter _) ?_
  unfold Builtin.«iter»
  refine wpAny_bind (m := someArgs "iter" 1 2 _) (wpAny_of_eq (a := [Value.ref d]) (by first | rfl | kernel_rfl!) ?_)
  show wpAny _ _ (pyIter (.ref d) >>= _) _ _ _
  refine wpAny_bind (iter_keys hs hgd hx hdt ?_)
  have key : (s.heap.push { cls := .type "dict_keyiterator", data := .fields #[.ref d, .int 0 0, .int es.size 0, .int ep 0] }).IsKeyIter s.heap.objs.size d 0 kvs.length ep := by
    refine ⟨_, Heap.get?_push_size _ rfl, rfl, ?_⟩
    rw [hsz] <;> rfl
  exact wpAny_pure ⟨_, rfl, .ref s.heap.objs.size, _, I.laid (t' := s.toks) (fun b u e => Heap.get?_push_of_some _ e) (Nat.le_refl _) (itK_ok hdt key), rfl, q _ (I.hok.fresh (Nat.le_refl _)) I.sz⟩
variable {n : Nat} {CX : CXT} {C f : Addr} {fd : FuncData} {ps : List Str} {sp : Sp} {E : XK} {sn : Nat → Sp}
/-- a loop by the class's own __iter__, which gives iter(a dict) -/
def iOwnK (K : PySem.W.Frag) (C : Addr) (m : Nat) (sn : Nat → Sp) (E : XK) (tl : TE) : TI := fun σ H R => tl σ H fun x H1 => ∃ a dx fs, x = .ref a ∧ H1 a = some (.ins C dx fs) ∧
  ∀ k, m ≤ k → sn k [.ref a] H1 (fun v H' => ∃ it d o kvs, v = .ref it ∧ k ≤ it ∧ H' it = some (ItK d o kvs.length it) ∧ H' d = some (.frz o (.dK kvs)) ∧ R (Itk d o kvs) (dropH H' it)) E
theorem pi_ownK {tg l : Expr} {tl : TE} (F : FnN X.prog X.w X.K X.mg X.base CX n f fd ps sn) (hb : Binds X.K fd ps []) (hx : Passes CX X E) (o : Own X.K C "__iter__" f) (hr : Room n X.A) (hl : PE X l tl) : PI X tg l (iOwnK X.K C X.s_0.heap.objs.size sn E tl) := by
  refine ⟨fun pins s σ H R I h => ?_⟩
  refine thn (hl.run pins s σ H _ I h) fun v s1 ⟨x, H1, I1, r1, q1⟩ => ?_
  obtain ⟨a, dx, fs, rfl, ha, hs⟩ := q1
  cases r1
  obtain ⟨od, J⟩ := inst_at I1 ha
  obtain ⟨m, hF⟩ := I1.fr
  refine PySem.W.owit_iter hF I1.ok.mod.kin J o.find o.fn (thn (run_N (Sub.here hr) F hb hx I1 (show Vals [V.ref a] [Value.ref a] from .cons rfl .nil) (hs s1.heap.objs.size I1.sz)) fun v s' q => ?_)
  obtain ⟨y, H', I', ry, ⟨it, d, ob, kvs, rfl, hn, hi, hd, q⟩⟩ := q
  cases ry
  have hy := Nat.le_trans I1.sz hn
  obtain ⟨es, ep, e1, k1⟩ := (I'.hok it _ hi).1
  obtain ⟨oi, e2, c2, d2⟩ := id k1
  have nd : d ≠ it := fun z => by
    rw [z, hi] at hd
    cases hd
  unfold PySem.W.OwitIt
  refine wpAny_specialOf (T := "dict_keyiterator") (v := .ref it) ⟨_, e2, c2⟩ PySem.F.slot_dict_keyiterator_next.lookup ?_
  refine ⟨it, [it], _, _, dropH H' it, rfl, inv_drop I' hi, turn_keys it e1, k1, fun b hb => ?_, q⟩
  have e : b = it := by simpa using hb
  subst e
  exact inv_fp I' hi hy
end
end L2

set_option Elab.async false
set_option linter.all false
set_option maxRecDepth 100000
set_option maxHeartbeats 4000000
/-! enumerate(a tuple). -/
namespace PySem
/-- enumerate's cells over what begins as B tells -/
theorem enumNewB {v : Value} {o : Obj} {H : Heap → Prop} (B : Begins v o H) :
    Meets (Builtin.«enumerate.__new__» ⟨[.type "enumerate", v], []⟩) (fun _ R s => H s.heap ∧
      R (.ok (.ret (.ref (s.heap.push o).objs.size))) { s with heap := (s.heap.push o).push { cls := .type "enumerate", data := .fields #[.none, .bool false, .ref s.heap.objs.size, rawInt 0, .none, .none] } }) :=
  .of_wp fun prog w A R s h => by
    obtain ⟨hp, g, d, tk, os⟩ := s
    obtain ⟨h1, h⟩ := h
    have sb := sub_enumerate
    have bg : ∀ {A' : Around} {E : Value → Shared → Prop} {Q : Value → Shared → Prop}, Q (.ref hp.objs.size) ⟨hp.push o, g, d, tk, os⟩ → wpAny (model prog w) A' (pyIter v) Q E ⟨hp, g, d, tk, os⟩ :=
      fun q => B.iter prog w _ _ ⟨hp, g, d, tk, os⟩ _ h1 q
    wp_walk using bg
    refine wpAny_stack_any fun _ => wpAny_pure ?_
    split
    · rename_i c _ _ _ _ _
      by_cases hc : (c == Value.type "enumerate") = true
      all_goals
        simp only [hc]
        wp_walk using bg
        exact ⟨_, rfl, h⟩
    · wp_walk using bg
      exact ⟨_, rfl, h⟩
theorem enumCall {prog : Program} {w : World} {A : Around} {E : Value → Shared → Prop} {s : Shared} {v : Value} {o : Obj} {H : Heap → Prop} {Q : Value → Shared → Prop} (B : Begins v o H) (h1 : H s.heap)
    (h : ∀ h', IsEnum h' (s.heap.objs.size + 1) s.heap.objs.size 0 .none → h'.get? s.heap.objs.size = some o → (∀ b o, s.heap.get? b = some o → h'.get? b = some o) → Q (.ref (s.heap.objs.size + 1)) { s with heap := h' }) :
    wpAny (model prog w) A (call (.type "enumerate") [v]) Q E s := by
  have sz : (s.heap.push o).objs.size = s.heap.objs.size + 1 := Heap.size_push ..
  refine callType_new F.called_enumerate (by decide) (F.typeCall_enumerate_1 _) (F.newCall_enumerate_1 _) (fun obj => F.args_object_init_2 obj _) F.entry_enumerate_new (enumNewB B) ⟨h1, ?_⟩
  show _ ∧ _
  have e1 := Heap.get?_push_size (s.heap.push o) (o := { cls := .type "enumerate", data := .fields #[.none, .bool false, .ref s.heap.objs.size, rawInt 0, .none, .none] }) rfl
  rw [sz] at e1 ⊢
  exact ⟨⟨_, e1, rfl⟩, h _ e1 (Heap.get?_push_of_some _ (Heap.get?_push_size _ B.free)) fun b u e => Heap.get?_push_of_some _ (Heap.get?_push_of_some _ e)⟩
end PySem
namespace L2
open PySem PySem.Spec PyProof.Rows
/-- the items of the tuple at a, each in a new pair behind its number -/
def ItTe (K : PySem.W.Frag) (a : Addr) : It :=
  ⟨fun i H => ∃ (xs : List V) (x : V), SqT K H a xs ∧ xs[i]? = some x, fun i H v H' => ∃ T x, v = .ref T ∧ H T = none ∧ H' = upd H T (.tup [.int (i : Nat), x]) ∧ ∀ xs, SqT K H a xs → xs[i]? = some x, fun i H => ∃ xs : List V, SqT K H a xs ∧ xs.length = i⟩
theorem turn_enumT {P : Program} {w : World} {K : PySem.W.Frag} {elts : List Expr} {kk : Nat} {tpos : Pos} (a e it : Addr) :
    Turn P w K (.Tuple elts kk tpos) (ItTe K a) [e, it] e (fun i h => (∃ old, IsEnum h e it ((i : Nat) : Int) old) ∧ h.IsTupleIter it a i ∧ e ≠ it) where
  mem := by simp
  obj := fun i h st b hb => by
    obtain ⟨⟨old, he⟩, ⟨o, ho, hc, hd⟩, _⟩ := st
    rcases (show b = e ∨ b = it by simpa using hb) with z | z
    · rw [z]; exact ⟨_, he, fun v q => nomatch q⟩
    · rw [z]; exact ⟨o, ho, fun v q => by rw [hd] at q; cases q⟩
  keep := fun i h h' st k => by
    obtain ⟨⟨old, he⟩, ⟨o, ho, r⟩, hne⟩ := st
    exact ⟨⟨old, k e (by simp) _ he⟩, ⟨o, k it (by simp) o ho, r⟩, hne⟩
  item := by
    intro X hP hw hK hc i pins s σ H E I hf st hg
    subst hP hw hK
    obtain ⟨⟨old, he⟩, hit, hne⟩ := st
    obtain ⟨xs, x, hq, hx⟩ := hg
    obtain ⟨its, rv, p, hz⟩ := I.tuple hq
    obtain ⟨u, hu, ru⟩ := rv.get hx
    have hi : i < its.toArray.size := by
      obtain ⟨hh, _⟩ := List.getElem?_eq_some_iff.mp hu
      simpa using hh
    have hel : e < s.heap.objs.size := Heap.lt_size he
    have hil : it < s.heap.objs.size := by obtain ⟨_, q, _⟩ := hit; exact Heap.lt_size q
    have pt : s.heap.IsTuple a its.toArray := p
    have nat : a ≠ it := by
      intro z
      obtain ⟨o1, q1, c1, _⟩ := pt
      obtain ⟨o2, q2, c2, _⟩ := hit
      rw [z, q2] at q1
      cases q1
      rw [c1] at c2
      exact absurd (Value.type.inj c2) (by decide)
    have nae : e ≠ a := by
      intro z
      obtain ⟨o1, q1, c1, _⟩ := pt
      have he' : s.heap.get? e = some _ := he
      rw [z, q1] at he'
      have z2 := Option.some.inj he'
      rw [z2] at c1
      have c3 : Value.type "enumerate" = .type "tuple" := c1
      exact absurd (Value.type.inj c3) (by decide)
    refine wpAny_pyNext_enum_itemD (Draws.tuple (A := X.A.in1) (I.ok.hd hc) it a nat its.toArray) he ⟨hit, pt⟩ hi hne (by simp [hne, nae]) fun y h' tk hy ho hit' hT hsz hk => ?_
    have ey : y = u := by
      have hy' : its[i]? = some y := by simpa using hy
      rw [hu] at hy'
      exact (Option.some.inj hy').symm
    subst ey
    refine ⟨_, rfl, wpAny_letOwnedTupleGo_enum (s := { s with heap := h', toks := tk + 1 }) ho fun h'' he' sb => ?_⟩
    have hT2 : h''.get? s.heap.objs.size = some { cls := .type "tuple", data := .seq #[.int i tk, y] } := (sb.2 _ (Nat.ne_of_gt hel)).trans hT
    have new : ObjOk X.prog X.w (upd H s.heap.objs.size (.tup [.int (i : Nat), x])) h'' s.heap.objs.size (.tup [.int (i : Nat), x]) :=
      ⟨by show 2 ≤ sizeLine; decide, [.int i tk, y], .cons ⟨_, rfl⟩ (.cons ru .nil), ⟨_, hT2, rfl, _, rfl⟩⟩
    have I1 : Inv X pins σ (upd H s.heap.objs.size (.tup [.int (i : Nat), x])) { s with heap := h'', toks := tk + 1 } :=
      I.turnedNew (ch := [e, it]) (fun b ob hb q => (sb.2 b (fun z => hb (by simp [z]))).trans (hk b ob (fun z => hb (by simp [z])) (fun z => hb (by simp [z])) q)) hf (Nat.le_refl _) new
    refine ⟨.ref s.heap.objs.size, _, I1, rfl, ⟨_, x, rfl, I.hok.fresh (Nat.le_refl _), rfl, fun ys hy => by rw [I.tuple_inj hy hq]; exact hx⟩, ⟨⟨y, ?_⟩, ?_, hne⟩, fun b hb => ?_⟩
    · have e1 : ((i + 1 : Nat) : Int) = (i : Int) + 1 := by omega
      rw [e1]; exact he'
    · obtain ⟨o, q, r⟩ := hit'.1
      exact ⟨o, (sb.2 it (Ne.symm hne)).trans q, r⟩
    · have hb' : b < s.heap.objs.size := by
        rcases (show b = e ∨ b = it by simpa using hb) with z | z
        · rw [z]; exact hel
        · rw [z]; exact hil
      rw [upd_ne (Nat.ne_of_lt hb')]
      exact (hf b hb).1
  done := by
    intro X hP hw hK hc i pins s σ H E I hf st hg
    subst hP hw hK
    obtain ⟨⟨old, he⟩, hit, hne⟩ := st
    obtain ⟨xs, hq, hx⟩ := hg
    obtain ⟨its, rv, p, hz⟩ := I.tuple hq
    have hl := rv.length
    have pt : s.heap.IsTuple a its.toArray := p
    have nat : a ≠ it := by
      intro z
      obtain ⟨o1, q1, c1, _⟩ := pt
      obtain ⟨o2, q2, c2, _⟩ := hit
      rw [z, q2] at q1
      cases q1
      rw [c1] at c2
      exact absurd (Value.type.inj c2) (by decide)
    have hi : its.toArray.size = i := by
      rw [List.size_toArray]
      omega
    obtain ⟨f0, f1, f2, f3, f4, f5⟩ := hf it (by simp)
    exact wpAny_pyNext_enum_endD (Draws.tuple (A := X.A.in1) (I.ok.hd hc) it a nat its.toArray) he (by rw [hi]; exact ⟨hit, pt⟩) fun h' eb => ⟨rfl, I.turned (t' := s.toks) (fun b o hb q => eb b o hb q) f0 f1 f3 f4 f5⟩
  self := fun A i s Q E st h => let ⟨⟨_, he⟩, _⟩ := st; wpAny_pyIter_enum he h
def iEnumT (K : PySem.W.Frag) (ta : TA) : TI := fun σ H R => ta σ H fun vs H1 => ∃ a xs, vs = [.ref a] ∧ SqT K H1 a xs ∧ R (ItTe K a) H1
theorem pi_enumT {X : Cx} {e : Expr} {ta : TA} {p pos tpos : Pos} {elts : List Expr} {kk : Nat} (hg : Gl X "enumerate") (hm : X.mg "enumerate" = none) (ha : PA X [e] ta) (hs : starEach [e] X.env = [(false, eval e X.env)] := by rfl) :
    PI X (.Tuple elts kk tpos) (.Call (.Name "enumerate" p) [e] [] pos) (iEnumT X.K ta) := by
  refine ⟨fun pins s σ H R I h => ?_⟩
  refine Call_ (ld_blt I hg hm boot_enumerate (PyProof.Rows.callWith_type1 (thn (ha.run pos pins s σ H _ I h) fun us s1 ⟨vs, H1, I1, r1, q1⟩ => ?_) hs rfl))
  obtain ⟨a, xs, ex, hq, q⟩ := q1
  subst ex
  obtain rfl := Vals.ref1 r1
  obtain ⟨its, rv, p', hz⟩ := I1.tuple hq
  refine enumCall (begins_tuple a its.toArray) (show s1.heap.IsTuple a its.toArray from p') fun h' he hit hk => wpAny_pyIter_enum he ?_
  have I2 : Inv X pins σ H1 { s1 with heap := h' } := I1.kept (t' := s1.toks) hk
  refine ⟨s1.heap.objs.size + 1, [s1.heap.objs.size + 1, s1.heap.objs.size], _, _, H1, rfl, I2, turn_enumT a (s1.heap.objs.size + 1) s1.heap.objs.size, ⟨⟨.none, he⟩, ⟨_, hit, rfl, rfl⟩, Nat.succ_ne_self _⟩, fun b hb => ?_, q⟩
  have hle : s1.heap.objs.size ≤ b := by
    rcases (show b = s1.heap.objs.size + 1 ∨ b = s1.heap.objs.size by simpa using hb) with z | z
    · rw [z]; exact Nat.le_add_right _ _
    · rw [z]; exact Nat.le_refl _
  exact I1.fpOk hle (I1.hok.fresh hle)
theorem walk_enumT {K : PySem.W.Frag} {a : Addr} {xs : List V} : Walk (ItTe K a) xs.length (fun H => SqT K H a xs) (fun i H v H' => ∃ T x, v = .ref T ∧ H T = none ∧ H' = upd H T (.tup [.int (i : Nat), x]) ∧ xs[i]? = some x) :=
  ⟨fun i _ hi q => ⟨xs, xs[i], q, by simp [hi]⟩, fun _ q => ⟨xs, q, rfl⟩, fun _ _ _ _ _ q y => by
    obtain ⟨T, x, e1, e2, e3, e4⟩ := y
    exact ⟨T, x, e1, e2, e3, e4 xs q⟩⟩
end L2

set_option Elab.async false
set_option linter.all false
set_option maxRecDepth 100000
set_option maxHeartbeats 4000000
/-! repr of a text or an integer. -/
namespace L2
open PySem PySem.Spec PyProof.Rows
theorem call_reprV {X : Cx} : CallR X (.builtin "repr") (fun xs H Q => (∃ z, xs = [.str z] ∧ (reprText z).length ≤ sizeLine ∧ Q (.str (reprText z)) H) ∨ ∃ i, xs = [.int i] ∧ i.natAbs.log2 < 1920 ∧ Q (.str (toString i)) H) := by
  intro pins s σ H xs us Q I r h
  rcases h with ⟨z, rfl, hz, q⟩ | ⟨i, rfl, hz, q⟩
  · obtain ⟨u, rfl, t, rfl⟩ := vals1 r
    exact PySem.P.repr_of_str ⟨.str _, H, I.tok _, ⟨_, rfl⟩, q⟩ hz
  · exact SkE.call_repr_int pins s σ H _ us Q I r ⟨i, rfl, hz, q⟩
end L2

set_option Elab.async false
set_option linter.all false
set_option maxRecDepth 100000
set_option maxHeartbeats 4000000
/-! Signs of an own class: with a value of any other kind on the right; x >= y, where y's own <= answers; x |= y, where there is no __ior__. -/
namespace PySem.W
open PySem PySem.Spec PySem.Calls PyProof.Rows
theorem slot_obj_ge : Slot "object" "__ge__" "object.__ge__" := by
  refine .of (owner := "object") (n := "__ge__") ?_ (by decide +kernel) (by decide +kernel) (by decide +kernel) (.inl (by decide +kernel)) ?_
  · rw [typeLookup_type, builtinLookup_eq_fast]
    kernel_rfl
  · rw [isSubtype_type]
    kernel_rfl
theorem entry_obj_ge : entryFor table "object.__ge__" = some Builtin.«object.__ge__» := entryFor_of_tree (by kernel_rfl)
theorem args_obj_ge (u v : Value) : argsOk "object.__ge__" ⟨[u, v], []⟩ := by
  unfold argsOk
  kernel_rfl
section
variable {prog : Program} {w : World} {A : Around} {E : Value → Shared → Prop} {s : Shared} {K : Frag} {m : Str → Option Value} {h₀ : Heap} {L x y C f : Addr} {ox oy : Obj} {od od2 : Option Obj}
/-- object's own >= says that it does not know -/
theorem obj_ge_none {b : Value} {Q : Value → Shared → Prop} (X : K.In s.heap) (I : InstAt s.heap x ox C od) (hm : mroIn K C (.type "object") = some true) (q : Q .notImplemented s) : wpAny (model prog w) A (call (.builtin "object.__ge__") [.ref x, b]) Q E s := by
  refine wpAny_call (codeAny_call_builtin slot_obj_ge.plain entry_obj_ge (check_slot (n := "__ge__") (by decide +kernel) (by decide +kernel) (I.type.andThen (looks_mroIn X hm)) (args_obj_ge _ _) ?_))
  have e : Builtin.«object.__ge__» ⟨[.ref x, b], []⟩ = (do
      let _ ← slotArgs "__ge__" 1 ⟨[.ref x, b], []⟩
      ret .notImplemented) := rfl
  rw [e]
  repeat wp_step
  exact q
theorem try_ge {b : Value} {Q : Option Value → Shared → Prop} (X : K.In s.heap) (I : InstAt s.heap x ox C od) (hm : mroIn K C (.type "object") = some true) (no : findIn K (.ref C) "__ge__" = some (some (.builtin "object.__ge__"))) (q : Q none s) : wpAny (model prog w) A (tryCompare (.ref x) "__ge__" b) Q E s := by
  unfold tryCompare
  have told : wpAny (model prog w) A (callSpecialIfBound? (.ref x) "__ge__" [b]) (fun r s' => r = some .notImplemented ∧ s' = s) E s := by
    simp only [callSpecialIfBound?, bindSpecialIfBound?]
    refine wpAny_holding (wpAny_bind (wpAny_bind (wpAny_bind (I.type.here ((looks_findIn X no).here (wpAny_bind (wpAny_askSetting (wpAny_ite ?_))))))))
    have last : wpAny (model prog w) A (call (.builtin "object.__ge__") ([.ref x] ++ [b]) >>= fun v => pure (some v)) (fun r s' => r = some .notImplemented ∧ s' = s) E s :=
      wpAny_bind (obj_ge_none X I hm (wpAny_pure ⟨rfl, rfl⟩))
    split
    · exact wpAny_bind (wpAny_of_eq (slot_obj_ge.bind _) (wpAny_pure last))
    · exact wpAny_tryCatch (wpAny_bind (wpAny_of_eq (slot_obj_ge.bind _) (wpAny_pure last)))
  refine wpAny_bind (wpAny_mono told (fun r s' z => ?_) fun _ _ e => e)
  obtain ⟨rfl, rfl⟩ := z
  exact wpAny_pure q
/-- x >= y -/
theorem ge_back {Q : Value → Shared → Prop} (hu : A.units < cLine) (F : Fr h₀ L s.heap m) (X₀ : K.In h₀) (I : InstAt s.heap x ox C od) (J : InstAt s.heap y oy C od2) (hm : mroIn K C (.type "object") = some true) (no : findIn K (.ref C) "__ge__" = some (some (.builtin "object.__ge__")))
    (hs : findIn K (.ref C) "__le__" = some (some (.ref f))) (hf : isFn K (.ref f) = true) (h : wpAny (model prog w) A (call (.ref f) [.ref y, .ref x]) (CmpBack Q) E s) : wpAny (model prog w) A (richCompare .GtE (.ref x) (.ref y)) Q E s := by
  have X := X₀.keeps F.keep
  have own : wpAny (model prog w) A (tryCompare (.ref y) "__le__" (.ref x)) (fun r s' => ∃ v, r = some v ∧ Q v s') E s := by
    unfold tryCompare
    refine wpAny_bind (ifBound_K X J hs hf (wpAny_mono h (fun v s' hv => ?_) fun _ _ e => e))
    cases v <;> first
      | exact hv.elim
      | exact wpAny_pure ⟨_, rfl, hv⟩
  unfold richCompare
  simp only [oneThing_ref, cmpInfo]
  refine wpAny_holding (wpAny_bind (wpAny_cRoomFor hu (wpAny_bind (I.type.here (wpAny_bind (J.type.here ?_))))))
  rw [if_neg (by simp)]
  refine wpAny_bind (wpAny_pure ?_)
  simp only [Bool.false_eq_true, if_false, Bool.not_false, if_true]
  refine wpAny_bind (try_ge X I hm no ?_)
  refine wpAny_bind (wpAny_mono own (fun r s' z => ?_) fun _ _ e => e)
  obtain ⟨v, rfl, q⟩ := z
  exact wpAny_pure q
/-- x op b, b of a built-in type T -/
theorem bin_any {op : Operator} {T : String} {b : Value} {fo ro rc : Option Value} {Q : Value → Shared → Prop} (F : Fr h₀ L s.heap m) (X₀ : K.In h₀) (I : InstAt s.heap x ox C od) (hb : Looks (model prog w) s.heap (typeOf b) (.type T)) (hc : selfFirst K C = true)
    (hs : findIn K (.ref C) (PySem.dunder op.info.2) = some (some (.ref f))) (hf : isFn K (.ref f) = true) (hr : findIn K (.ref C) (dunderR op.info.2) = some rc) (hp : rc = none ∨ ∃ g : Addr, rc = some (.ref g))
    (h1 : findIn K (.type T) (PySem.dunder op.info.2) = some fo) (h2 : findIn K (.type T) (dunderR op.info.2) = some ro) (hsub : subIn K (.type T) (.ref C) = some false) (h : wpAny (model prog w) A (call (.ref f) [.ref x, b]) (CmpBack Q) E s) :
    wpAny (model prog w) A (binaryOp op (.ref x) b) Q E s := by
  have X := X₀.keeps F.keep
  obtain ⟨cd, more, e1, e2⟩ := ksp_first hc
  rcases hi : op.info with ⟨sg, nm⟩
  rw [hi] at hs hr h1 h2
  dsimp only at hs hr h1 h2
  have go := ksp_try X I hs hf h
  have tx := I.type (M := model prog w)
  have lf := fills_K (M := model prog w) X e1 e2 hs
  have rf := ksp_fillsT (M := model prog w) X h1 h2
  have su := looks_subIn (M := model prog w) X hsub
  have py := ksp_inPy (M := model prog w) X hs hr hp
  have nopy : Looks (model prog w) s.heap (numberSlotInPython (.type T) nm) false := Looks.of_pure rfl
  have rl := looks_findIn (M := model prog w) X h2
  have ne : (Value.ref C == Value.type T) = false := rfl
  obtain ⟨hh, g, d, tt, os⟩ := s
  simp only [binaryOp, hi]
  refine wpAny_holding (wpAny_bind ?_)
  unfold binaryOp1
  refine wpAny_bind (tx.at (wpAny_bind (hb.at (wpAny_bind (lf.at ?_)))))
  simp only [ne, Bool.false_eq_true, if_false]
  cases hri : ((fo.isSome && !isSeqSlot fo) || (ro.isSome && !isSeqSlot ro)) <;> rw [hri] at rf
  all_goals
    ksp_lk
    refine wpAny_mono go (fun r s' z => ?_) fun _ _ e => e
    obtain ⟨v, rfl, q⟩ := z
    ksp_lk
    exact q
end
end PySem.W

set_option Elab.async false
set_option linter.all false
set_option maxRecDepth 100000
set_option maxHeartbeats 4000000
/-! x op= y of one own class, which has no method for it in place. -/
namespace PySem.W
open PySem PySem.Spec PySem.Calls PyProof.Rows
section
variable {prog : Program} {w : World} {A : Around} {E : Value → Shared → Prop} {s : Shared} {K : Frag} {m : Str → Option Value} {h₀ : Heap} {L x y C f : Addr} {ox oy : Obj} {od od2 : Option Obj}
theorem no_inplace {M : Model} {h : Heap} {nm : String} {add : Bool} {cd : ClassData} (X : K.In h) (hc : clsIn K C = some cd) (hm : cd.mro = [.ref C, .type "object"]) (n1 : findIn K (.ref C) (dunderI nm) = some none) (n2 : typeLookup (.type "object") (dunderI nm) = pure none) : Looks M h (fillsInplaceSlot (.ref C) nm add) false := by
  intro A Q E s k q
  have Lm := ((looks_clsIn (M := M) X hc).andThen (f := fun cd => pure cd.mro) .now).keeps k
  obtain ⟨hh, g, d, tt, os⟩ := s
  have X' : K.In hh := X.keeps k
  have t1 : Looks M hh (typeLookup (.ref C) (dunderI nm)) none := looks_findIn X' n1
  have t2 : Looks M hh (typeLookup (.type "object") (dunderI nm)) none := Looks.of_pure n2
  unfold fillsInplaceSlot
  refine wpAny_bind (Lm.at ?_)
  rw [hm, List.anyM_cons]
  refine wpAny_bind ?_
  repeat lk
  exact q
theorem in_own {op : Operator} {b : Value} {cd : ClassData} {Q : Value → Shared → Prop} (F : Fr h₀ L s.heap m) (X₀ : K.In h₀) (I : InstAt s.heap x ox C od) (hb : Looks (model prog w) s.heap (typeOf b) (.ref C)) (hc : clsIn K C = some cd) (hm : cd.mro = [.ref C, .type "object"])
    (n1 : findIn K (.ref C) (dunderI op.info.2) = some none) (n2 : typeLookup (.type "object") (dunderI op.info.2) = pure none) (hs : findIn K (.ref C) (PySem.dunder op.info.2) = some (some (.ref f))) (hf : isFn K (.ref f) = true)
    (h : wpAny (model prog w) A (call (.ref f) [.ref x, b]) (CmpBack Q) E s) : wpAny (model prog w) A (inplaceOp op (.ref x) b) Q E s := by
  have X := X₀.keeps F.keep
  have go := ksp_try X I hs hf h
  have tx := I.type (M := model prog w)
  have lf := fills_K (M := model prog w) X hc hm hs
  have ni := no_inplace (M := model prog w) (add := op == .Add) X hc hm n1 n2
  obtain ⟨hh, g, d, tt, os⟩ := s
  unfold inplaceOp
  refine wpAny_holding (wpAny_bind (tx.at (wpAny_bind (ni.at ?_))))
  simp only [Bool.false_eq_true, if_false]
  refine wpAny_bind (m := binaryOp1 op.info.2 (.ref x) b) ?_
  unfold binaryOp1
  refine wpAny_bind (tx.at (wpAny_bind (hb.at (wpAny_bind (lf.at ?_)))))
  simp only [beq_self_eq_true, if_true]
  ksp_lk
  refine wpAny_mono go (fun r s' z => ?_) fun _ _ e => e
  obtain ⟨v, rfl, q⟩ := z
  ksp_lk
  exact q
end
end PySem.W

set_option Elab.async false
set_option linter.all false
set_option maxRecDepth 100000
set_option maxHeartbeats 4000000
/-! The rules for these signs. -/
namespace L2
open PySem PySem.Spec PyProof.Rows
section
variable {X : Cx} {n : Nat} {CX : CXT} {C f : Addr} {fd : FuncData} {ps : List Str} {sp : Sp} {E : XK}
/-- what a built-in type says of a sign, beside an own class -/
structure BesideT (K : PySem.W.Frag) (C : Addr) (nm : String) (t : Value) : Prop where
  ex : ∃ (T : String) (fo ro : Option Value), t = .type T ∧ PySem.W.findIn K (.type T) (PySem.dunder nm) = some fo ∧ PySem.W.findIn K (.type T) (PySem.dunderR nm) = some ro ∧ PySem.W.subIn K (.type T) (.ref C) = some false
def rBinAny (K : PySem.W.Frag) (C : Addr) (nm : String) (sp : Sp) (E : XK) : R2 := fun x y H Q => ∃ a dx fs t, x = .ref a ∧ H a = some (.ins C dx fs) ∧ TyX K H y t ∧ BesideT K C nm t ∧ sp [.ref a, y] H Q E
theorem op_binAny {op : Operator} (F : FnOk X.prog X.w X.K X.mg X.base CX n f fd ps sp) (hb : Binds X.K fd ps []) (hx : Passes CX X E) (hs : PySem.W.findIn X.K (.ref C) (PySem.dunder op.info.2) = some (some (.ref f))) (hf : PySem.W.isFn X.K (.ref f) = true) (hc : PySem.W.selfFirst X.K C = true)
    (hr : PySem.W.findIn X.K (.ref C) (PySem.dunderR op.info.2) = some none) (hm : Room n X.A) : OpR X (binaryOp op) (rBinAny X.K C op.info.2 sp E) := by
  intro pins s σ H x y v u Q I rx ry h
  obtain ⟨a, dx, fs, t, rfl, ha, ty, bt, hsp⟩ := h
  cases rx
  obtain ⟨od, J⟩ := inst_at I ha
  obtain ⟨m, hF⟩ := I.fr
  obtain ⟨P, Z, p, _⟩ := kit_of I ry ty
  obtain ⟨T, fo, ro, rfl, h1, h2, h3⟩ := bt.ex
  refine PySem.W.bin_any hF I.ok.mod.kin J (Z.ty _ _ I.kIn p) hc hs hf hr (.inl rfl) h1 h2 h3 (thn (run_own (Sub.here hm) F hb hx I (show Vals [V.ref a, y] [Value.ref a, u] from .cons rfl (.cons ry .nil)) hsp) fun r s' q => ?_)
  obtain ⟨z, H', I', rz, q⟩ := q
  exact notNI rz ⟨z, H', I', rz, q⟩
def rGeOwn (C : Addr) (sp : Sp) (E : XK) : R2 := fun x y H Q => ∃ a dx fs b dy gs, x = .ref a ∧ H a = some (.ins C dx fs) ∧ y = .ref b ∧ H b = some (.ins C dy gs) ∧ sp [.ref b, .ref a] H Q E
theorem op_geOwn (F : FnOk X.prog X.w X.K X.mg X.base CX n f fd ps sp) (hb : Binds X.K fd ps []) (hx : Passes CX X E) (o : Own X.K C "__le__" f) (no : PySem.W.findIn X.K (.ref C) "__ge__" = some (some (.builtin "object.__ge__"))) (hm : PySem.W.mroIn X.K C (.type "object") = some true) (hr : Room n X.A) : OpR X (compareOp .GtE) (rGeOwn C sp E) := by
  intro pins s σ H x y v u Q I rx ry h
  obtain ⟨a, dx, fs, b, dy, gs, rfl, ha, rfl, hb2, hsp⟩ := h
  cases rx
  cases ry
  obtain ⟨od, J⟩ := inst_at I ha
  obtain ⟨od2, J2⟩ := inst_at I hb2
  obtain ⟨m, hF⟩ := I.fr
  refine PySem.W.ge_back hr.units0 hF I.ok.mod.kin J J2 hm no o.find o.fn (thn (run_own (Sub.here hr) F hb hx I (show Vals [V.ref b, V.ref a] [Value.ref b, Value.ref a] from .cons rfl (.cons rfl .nil)) hsp) fun r s' q => ?_)
  obtain ⟨z, H', I', rz, q⟩ := q
  exact notNI rz ⟨z, H', I', rz, q⟩
theorem op_inOwnP {op : Operator} {cd : ClassData} (F : FnOk X.prog X.w X.K X.mg X.base CX n f fd ps sp) (hb : Binds X.K fd ps []) (hx : Passes CX X E) (hs : PySem.W.findIn X.K (.ref C) (PySem.dunder op.info.2) = some (some (.ref f))) (hf : PySem.W.isFn X.K (.ref f) = true) (hc : PySem.W.clsIn X.K C = some cd) (hm : cd.mro = [.ref C, .type "object"])
    (n1 : PySem.W.findIn X.K (.ref C) (PySem.dunderI op.info.2) = some none) (n2 : typeLookup (.type "object") (PySem.dunderI op.info.2) = pure none) (hr : Room n X.A) : OpR X (inplaceOp op) (rBinOwn X.K C sp E) := by
  intro pins s σ H x y v u Q I rx ry h
  obtain ⟨a, dx, fs, b, dy, gs, rfl, ha, rfl, hb2, hsp⟩ := h
  cases rx
  cases ry
  obtain ⟨od, J⟩ := inst_at I ha
  obtain ⟨od2, J2⟩ := inst_at I hb2
  obtain ⟨m, hF⟩ := I.fr
  refine PySem.W.in_own hF I.ok.mod.kin J J2.type hc hm n1 n2 hs hf (thn (run_own (Sub.here hr) F hb hx I (show Vals [V.ref a, V.ref b] [Value.ref a, Value.ref b] from .cons rfl (.cons rfl .nil)) hsp) fun r s' q => ?_)
  obtain ⟨z, H', I', rz, q⟩ := q
  exact notNI rz ⟨z, H', I', rz, q⟩
end
theorem no_ior : typeLookup (.type "object") (PySem.dunderI (Operator.info .BitOr).2) = pure none := by
  rw [typeLookup_type, builtinLookup_eq_fast]
  kernel_rfl
end L2

set_option Elab.async false
set_option linter.all false
set_option maxRecDepth 100000
set_option maxHeartbeats 4000000
/-! repr of a bool. -/
namespace L2
open PySem PySem.Spec PyProof.Rows
theorem call_reprB {X : Cx} : CallR X (.builtin "repr") (fun xs H Q => ∃ b, xs = [.bl b] ∧ Q (.str (if b = true then "True" else "False")) H) := by
  intro pins s σ H xs us Q I r h
  obtain ⟨b, rfl, q⟩ := h
  match us, r with
  | [u], .cons r1 .nil =>
    obtain rfl : u = Value.bool b := r1
    refine PySem.P.repr_of_bool ?_
    exact ⟨.str _, H, I.tok _, ⟨_, by cases b <;> rfl⟩, q⟩
end L2

set_option Elab.async false
set_option linter.all false
set_option maxRecDepth 100000
set_option maxHeartbeats 4000000
/-! Where no repr is under way: what defs promise there; repr of lists and tuples. -/
namespace L2
open PySem PySem.Spec PyProof.Rows
mutual
/-- x is laid in H as the datum d -/
inductive PyV (H : Hp) : V → PyData → Prop
  | non : PyV H .non .none
  | bl (b : Bool) : PyV H (.bl b) (.bool b)
  | int (i : Int) : PyV H (.int i) (.int i)
  | str (z : Str) : PyV H (.str z) (.str z)
  | tup {a : Addr} {xs : List V} {ds : List PyData} : H a = some (.tup xs) → PyVs H xs ds → PyV H (.ref a) (.tuple ds)
  | lst {a : Addr} {xs : List V} {ds : List PyData} : H a = some (.lst xs) → PyVs H xs ds → PyV H (.ref a) (.list ds)
inductive PyVs (H : Hp) : List V → List PyData → Prop
  | nil : PyVs H [] []
  | cons {x : V} {d : PyData} {xs : List V} {ds : List PyData} : PyV H x d → PyVs H xs ds → PyVs H (x :: xs) (d :: ds)
end
mutual
theorem PyV.same {H H2 : Hp} (s : ∀ b o, H b = some o → H2 b = some o) : ∀ {x : V} {d : PyData}, PyV H x d → PyV H2 x d
  | _, _, .non => .non
  | _, _, .bl b => .bl b
  | _, _, .int i => .int i
  | _, _, .str z => .str z
  | _, _, .tup h r => .tup (s _ _ h) (PyVs.same s r)
  | _, _, .lst h r => .lst (s _ _ h) (PyVs.same s r)
theorem PyVs.same {H H2 : Hp} (s : ∀ b o, H b = some o → H2 b = some o) : ∀ {xs : List V} {ds : List PyData}, PyVs H xs ds → PyVs H2 xs ds
  | _, _, .nil => .nil
  | _, _, .cons h r => .cons (PyV.same s h) (PyVs.same s r)
end
mutual
theorem PyV.keep {H H2 : Hp} (s : ∀ b o, H b = some o → ((∃ xs, o = .tup xs) ∨ ∃ xs, o = .lst xs) → H2 b = some o) : ∀ {x : V} {d : PyData}, PyV H x d → PyV H2 x d
  | _, _, .non => .non
  | _, _, .bl b => .bl b
  | _, _, .int i => .int i
  | _, _, .str z => .str z
  | _, _, .tup h r => .tup (s _ _ h (.inl ⟨_, rfl⟩)) (PyVs.keep s r)
  | _, _, .lst h r => .lst (s _ _ h (.inr ⟨_, rfl⟩)) (PyVs.keep s r)
theorem PyVs.keep {H H2 : Hp} (s : ∀ b o, H b = some o → ((∃ xs, o = .tup xs) ∨ ∃ xs, o = .lst xs) → H2 b = some o) : ∀ {xs : List V} {ds : List PyData}, PyVs H xs ds → PyVs H2 xs ds
  | _, _, .nil => .nil
  | _, _, .cons h r => .cons (PyV.keep s h) (PyVs.keep s r)
end
theorem PyV.but {H H2 : Hp} {a : Addr} {x : V} {d : PyData} {f : Heap → Prop} (p : PyV H x d) (s : ∀ b o, H b = some o → b ≠ a → H2 b = some o) (ha : H a = some (.ext f)) : PyV H2 x d :=
  p.keep fun b o e k => s b o e fun z => by
    rw [z, ha] at e
    cases e
    rcases k with ⟨xs, k⟩ | ⟨xs, k⟩ <;> cases k
mutual
theorem PyV.noDict {H : Hp} : ∀ {x : V} {d : PyData}, PyV H x d → d.hasDict = false
  | _, _, .non => by simp only [PyData.hasDict]
  | _, _, .bl b => by simp only [PyData.hasDict]
  | _, _, .int i => by simp only [PyData.hasDict]
  | _, _, .str z => by simp only [PyData.hasDict]
  | _, _, .tup h r => by simp only [PyData.hasDict]; exact PyVs.noDict r
  | _, _, .lst h r => by simp only [PyData.hasDict]; exact PyVs.noDict r
theorem PyVs.noDict {H : Hp} : ∀ {xs : List V} {ds : List PyData}, PyVs H xs ds → PyData.hasDictAll ds = false
  | _, _, .nil => by simp only [PyData.hasDictAll]
  | _, _, .cons h r => by simp only [PyData.hasDictAll, PyV.noDict h, PyVs.noDict r, Bool.or_false]
end
mutual
theorem PyV.reads {P : Program} {w : World} {H : Hp} {h : Heap} (ok : HOk P w H h) : ∀ {x : V} {d : PyData} {u : Value}, PyV H x d → RelV x u → ∃ as, Reads h u d as
  | _, _, u, .non, r => by
    obtain rfl : u = Value.none := r
    exact ⟨_, .none⟩
  | _, _, u, .bl b, r => by
    obtain rfl : u = Value.bool b := r
    exact ⟨_, .bool b⟩
  | _, _, u, .int i, r => by
    obtain ⟨t, rfl⟩ : ∃ t, u = Value.int i t := r
    exact ⟨_, .int i t⟩
  | _, _, u, .str z, r => by
    obtain ⟨t, rfl⟩ : ∃ t, u = Value.str z t := r
    exact ⟨_, .str z t⟩
  | _, _, u, .tup (a := a) h1 h2, r => by
    obtain rfl : u = Value.ref a := r
    obtain ⟨_, its, rel, o, e1, e2, n, e3⟩ := ok a _ h1
    obtain ⟨as, q⟩ := PyVs.reads ok h2 rel
    exact ⟨_, .tuple e1 e2 e3 q⟩
  | _, _, u, .lst (a := a) h1 h2, r => by
    obtain rfl : u = Value.ref a := r
    obtain ⟨_, its, n, rel, e1⟩ := ok a _ h1
    obtain ⟨as, q⟩ := PyVs.reads ok h2 rel
    exact ⟨_, .list e1 rfl rfl q⟩
theorem PyVs.reads {P : Program} {w : World} {H : Hp} {h : Heap} (ok : HOk P w H h) : ∀ {xs : List V} {ds : List PyData} {us : List Value}, PyVs H xs ds → Vals xs us → ∃ as, ReadsAll h us ds as
  | _, _, _, .nil, r => by
    cases r
    exact ⟨_, .nil⟩
  | _, _, _, .cons h1 h2, r => by
    cases r with
    | cons r1 r2 =>
      obtain ⟨a1, q1⟩ := PyV.reads ok h1 r1
      obtain ⟨a2, q2⟩ := PyVs.reads ok h2 r2
      exact ⟨_, .cons q1 q2⟩
end
/-- a datum that can be told: its text is not too long -/
structure Tells (d : PyData) : Prop where
  sh : d.showable = true
  dp : d.depth ≤ 4
  sz : d.shown.length ≤ 8000000
theorem Tells.size {d : PyData} (t : Tells d) : d.shown.length ≤ sizeLine := by
  have := t.sz
  rw [sizeLine_eq]
  omega
theorem shown_str (z : Str) : (PyData.str z).shown = reprText z := by simp only [PyData.shown]
theorem shown_none : PyData.none.shown = "None" := by simp only [PyData.shown]
section
variable {X : Cx} {j : Nat}
/-- repr of a datum, as its text -/
theorem repr_any {pins : List (Addr × Obj)} {σ : St} {H : Hp} {s : Shared} {Q : VK} {x : V} {u : Value} {d : PyData} (quiet : X.A.guards = some []) (room : X.A.units + 64 < cLine) (I : Inv X pins σ H s) (r : RelV x u) (p : PyV H x d) (t : Tells d) (q : Q (.str d.shown) H) :
    wpAny (model X.prog X.w) X.A (pyReprObj u) (EP X pins σ Q) X.xe s := by
  have out : ∀ (h2 : Heap) (k tk : Nat), (∀ b o, s.heap.get? b = some o → h2.get? b = some o) → EP X pins σ Q (.str d.shown k) { s with heap := h2, toks := tk } := fun h2 k tk kp => ⟨.str d.shown, H, I.kept kp, ⟨k, rfl⟩, q⟩
  have dp := t.dp
  have un : X.A.units + d.depth < cLine := by omega
  obtain ⟨as, rd⟩ := p.reads I.hok r
  cases p with
  | non =>
    obtain rfl : u = Value.none := r
    rw [shown_none] at out
    exact pyReprObj_none (out _ _ _ fun _ _ e => e)
  | bl b =>
    obtain rfl : u = Value.bool b := r
    have e : (PyData.bool b).shown = if b = true then "True" else "False" := by cases b <;> simp [PyData.shown]
    rw [e] at out
    refine pyReprObj_bool ?_
    have o2 := out s.heap s.toks (s.toks + 1) fun _ _ e => e
    cases b <;> exact o2
  | int i =>
    obtain ⟨tt, rfl⟩ : ∃ t, u = Value.int i t := r
    have e : (PyData.int i).shown = toString i := by simp only [PyData.shown]
    have hz : i.natAbs.log2 < 1920 := by simpa [PyData.showable] using t.sh
    rw [e] at out
    exact pyReprObj_int hz (out _ _ _ fun _ _ e => e)
  | str z =>
    obtain ⟨tt, rfl⟩ : ∃ t, u = Value.str z t := r
    have sz := t.size
    rw [shown_str] at out sz
    exact pyReprObj_str (out _ _ _ fun _ _ e => e) sz
  | tup h1 h2 =>
    obtain rfl := r
    exact pyReprObj_of_reads rd t.sh (PyData.noDict_hsm (PyV.noDict (.tup h1 h2))) quiet un (fun _ _ e => e) out t.size
  | lst h1 h2 =>
    obtain rfl := r
    exact pyReprObj_of_reads rd t.sh (PyData.noDict_hsm (PyV.noDict (.lst h1 h2))) quiet un (fun _ _ e => e) out t.size
/-- repr(x) -/
theorem call_reprG (quiet : X.A.guards = some []) (room : Room j X.A) : CallR X (.builtin "repr") (fun xs H Q => ∃ x d, xs = [x] ∧ PyV H x d ∧ Tells d ∧ Q (.str d.shown) H) := by
  intro pins s σ H xs us Q I rel h
  obtain ⟨x, d, rfl, p, t, q⟩ := h
  match us, rel with
  | [u], .cons r .nil =>
    have out : ∀ (h2 : Heap) (k tk : Nat), (∀ b o, s.heap.get? b = some o → h2.get? b = some o) → EP X pins σ Q (.str d.shown k) { s with heap := h2, toks := tk } := fun h2 k tk kp => ⟨.str d.shown, H, I.kept kp, ⟨k, rfl⟩, q⟩
    have dp := t.dp
    have ru := room.units
    have un : X.A.units + (d.depth + 1) < cLine := by omega
    obtain ⟨as, rd⟩ := p.reads I.hok r
    cases p with
    | non =>
      obtain rfl : u = Value.none := r
      rw [shown_none] at out
      exact PySem.P.repr_of_none (out _ _ _ fun _ _ e => e)
    | bl b =>
      exact call_reprB pins s σ H _ _ Q I (.cons r .nil) ⟨b, rfl, by
        have e : (PyData.bool b).shown = if b = true then "True" else "False" := by cases b <;> simp [PyData.shown]
        rw [e] at q
        cases b <;> exact q⟩
    | int i =>
      have e : (PyData.int i).shown = toString i := by simp only [PyData.shown]
      have hz : i.natAbs.log2 < 1920 := by simpa [PyData.showable] using t.sh
      rw [e] at q
      exact call_reprV pins s σ H _ _ Q I (.cons r .nil) (.inr ⟨i, rfl, hz, q⟩)
    | str z =>
      have sz := t.size
      rw [shown_str] at q sz
      exact call_reprV pins s σ H _ _ Q I (.cons r .nil) (.inl ⟨z, rfl, sz, q⟩)
    | tup h1 h2 =>
      obtain rfl := r
      exact repr_of_reads' rd t.sh (PyData.noDict_hsm (PyV.noDict (.tup h1 h2))) quiet un (fun _ _ e => e) out t.size
    | lst h1 h2 =>
      obtain rfl := r
      exact repr_of_reads' rd t.sh (PyData.noDict_hsm (PyV.noDict (.lst h1 h2))) quiet un (fun _ _ e => e) out t.size
/-- {x!r} of a datum -/
def tFmtG (te : TE) : TE := fun σ H Q => te σ H fun x H1 => ∃ d, PyV H1 x d ∧ Tells d ∧ Q (.str d.shown) H1
theorem pe_fmtG {e : Expr} {te : TE} {pos : Pos} (quiet : X.A.guards = some []) (room : Room j X.A) (he : PE X e te) : PE X (.FormattedValue e 114 none pos) (tFmtG te) := by
  refine ⟨fun pins s σ H Q I h => wpAny_FormattedValue_repr (thn (he.run pins s σ H _ I h) fun v s1 hv => ?_)⟩
  obtain ⟨x, H1, J, rel, d, p, t, q⟩ := hv
  refine thn (repr_any (Q := fun y H2 => y = .str d.shown ∧ H2 = H1) quiet room.units J rel p t ⟨rfl, rfl⟩) fun u s2 z => ?_
  obtain ⟨y, H2, J2, r2, ey, eH⟩ := z
  subst ey
  subst eH
  obtain ⟨k, rfl⟩ := r2
  exact wpAny_formatField_str ⟨.str d.shown, _, J2, ⟨_, rfl⟩, q⟩ ⟨.str d.shown, _, J2.tok _, ⟨_, rfl⟩, q⟩ t.size
end
end L2

set_option Elab.async false
set_option linter.all false
set_option maxRecDepth 100000
set_option maxHeartbeats 4000000
/-! Where no repr is under way: calls of defs, own errors made, lambdas called. -/
namespace L2
open PySem PySem.Spec PyProof.Rows
/-- no repr is under way -/
abbrev Quiet (A : Around) : Prop := A.guards = some []
/-- what a def promises where no repr is under way -/
structure FnG (P : Program) (w : World) (K : PySem.W.Frag) (mg : Str → Option Value) (base : Heap) (C : CXT) (k : Nat) (f : Addr) (fd : FuncData) (ps : List Str) (sp : Sp) : Prop where
  count : ∀ (xs : List V) (H : Hp) (Q : VK) (E : XK), sp xs H Q E → xs.length = ps.length
  runs : ∀ (A : Around) (outer : List Env) (s : Shared) (H : Hp) (args : Args) (us : List Value) (xs : List V) (Q : VK) (E : XK), Quiet A → Room k A → Env0 P w K mg base A outer s H → BindsTo s fd args (ps.zip us) → Vals xs us → sp xs H Q E →
    codeAny (model P w) A (.call (.ref f) args) (CR C outer P w H s Q E) s
section
variable {P : Program} {w : World} {K : PySem.W.Frag} {mg : Str → Option Value} {base : Heap} {C : CXT} {k j : Nat} {f : Addr} {fd : FuncData} {ps : List Str} {sp : Sp}
theorem FnOk.quiet (F : FnOk P w K mg base C k f fd ps sp) : FnG P w K mg base C k f fd ps sp := ⟨fun xs H Q E h => F.len xs H Q E h, fun A outer s H args us xs Q E _ r e b v h => F.run A outer s H args us xs Q E r e b v h⟩
theorem FnG.more (F : FnG P w K mg base C j f fd ps sp) (h : j ≤ k) : FnG P w K mg base C k f fd ps sp := ⟨F.count, fun A outer s H args us xs Q E g r => F.runs A outer s H args us xs Q E g (r.mono h)⟩
/-- two promises of one def -/
theorem FnG.both {sp2 : Sp} (F1 : FnG P w K mg base C k f fd ps sp) (F2 : FnG P w K mg base C k f fd ps sp2) : FnG P w K mg base C k f fd ps (fun xs H Q E => sp xs H Q E ∨ sp2 xs H Q E) := by
  refine ⟨fun xs H Q E h => h.elim (F1.count _ _ _ _) (F2.count _ _ _ _), fun A outer s H args us xs Q E g r e b v h => ?_⟩
  rcases h with h | h
  · exact F1.runs A outer s H args us xs Q E g r e b v h
  · exact F2.runs A outer s H args us xs Q E g r e b v h
/-- a def by its body -/
theorem Fun.okG {x qual : Str} {st : Stmt} {N : List Str} (F : Fun K x qual st f fd) (S : FnScope N ps (defScope st)) (count : ∀ (xs : List V) (H : Hp) (Q : VK) (E : XK), sp xs H Q E → xs.length = ps.length)
    (body : ∀ (cdv : Value) (A : Around) (outer : List Env) (s : Shared) (H : Hp) (xs : List V) (Q : VK) (E : XK), Quiet A → Room k (A.deeper (envOfC qual (defScope st) s.heap.objs.size f cdv)) → sp xs H Q E →
      ∃ t, PSs (cxOf CX0 P w K mg base N qual (defScope st) f cdv A outer s H E).nox (defBody st) t ∧ t { nx := fun _ H2 => Q .non H2, rt := Q } (start N xs) H) : FnG P w K mg base CX0 (k + 1) f fd ps sp := by
  obtain ⟨oc, od, kV, doc, pm, an, cdv, ct, osl, e, look, ci⟩ := F.ex
  subst e
  refine ⟨count, fun A outer s H args us xs Q E g r e0 b v h => LamX.run_ofS look ci S r e0 b v (count _ _ _ _ h) fun r2 => ?_⟩
  obtain ⟨t, h1, h2⟩ := body cdv A outer s H xs Q E g r2 h
  exact ⟨t, h1.nox, h2⟩
theorem Fun.okXG {x qual : Str} {st : Stmt} {N : List Str} (F : Fun K x qual st f fd) (S : FnScope N ps (defScope st)) (count : ∀ (xs : List V) (H : Hp) (Q : VK) (E : XK), sp xs H Q E → xs.length = ps.length)
    (body : ∀ (cdv : Value) (A : Around) (outer : List Env) (s : Shared) (H : Hp) (xs : List V) (Q : VK) (E : XK), Quiet A → Room k (A.deeper (envOfC qual (defScope st) s.heap.objs.size f cdv)) → sp xs H Q E →
      ∃ t, PSs (cxOf (L2.CX P w) P w K mg base N qual (defScope st) f cdv A outer s H E) (defBody st) t ∧ t { nx := fun _ H2 => Q .non H2, rt := Q } (start N xs) H) : FnG P w K mg base (L2.CX P w) (k + 1) f fd ps sp := by
  obtain ⟨oc, od, kV, doc, pm, an, cdv, ct, osl, e, look, ci⟩ := F.ex
  subst e
  exact ⟨count, fun A outer s H args us xs Q E g r e0 b v h => LamX.run_ofS look ci S r e0 b v (count _ _ _ _ h) fun r2 => body cdv A outer s H xs Q E g r2 h⟩
end
section
variable {X : Cx} {C : CXT} {k j : Nat} {f : Addr} {fd : FuncData} {ps : List Str} {sp : Sp} {dvs : List V} {ds : List Value} {E : XK} {x : Str} {p pos pos2 : Pos} {e : Expr} {es : List Expr} {t ta : TA} {W : WX}
/-- the def runs -/
theorem runG {pins : List (Addr × Obj)} {σ : St} {H : Hp} {s : Shared} {Q : VK} {us : List Value} {xs : List V} (F : FnG X.prog X.w X.K X.mg X.base C k f fd ps sp) (g : Quiet X.A) (r : Room k X.A) (b : Binds X.K fd ps ds) (d : Vals dvs ds) (out : Passes C X E)
    (I : Inv X pins σ H s) (v : Vals xs us) (h : sp (xs ++ dvs) H Q E) : wpAny (model X.prog X.w) X.A (call (.ref f) us) (EP X pins σ Q) X.xe s := by
  have v2 := v.append d
  have n : (us ++ ds).length = ps.length := by
    rw [← v2.length]
    exact F.count _ _ _ _ h
  have ran := F.runs X.A X.stack s H ⟨us, []⟩ (us ++ ds) (xs ++ dvs) Q E g r I.env0 (b s us I.kIn n) v2 h
  refine wpAny_call (codeAny_mono ran fun a s2 z => ?_)
  match a, z with
  | .error er, z => exact out pins σ H s er s2 I z
  | .ok (.ret u), z => exact I.after z
  | .ok .next, z => exact z.elim
  | .ok .brk, z => exact z.elim
  | .ok .cont, z => exact z.elim
/-- a def of the text, by its name, where no repr is under way -/
structure DfG (P : Program) (w : World) (K : PySem.W.Frag) (mg : Str → Option Value) (base : Heap) (C : CXT) (k : Nat) (x : Str) (sp : Sp) : Prop where
  ex : ∃ (f : Addr) (fd : FuncData) (ps : List Str), FnG P w K mg base C k f fd ps sp ∧ mg x = some (.ref f) ∧ PySem.W.keepIn K (.ref f) = true ∧ Binds K fd ps []
theorem pe_cG (c : DfG X.prog X.w X.K X.mg X.base C k x sp) (g : Quiet X.A) (out : Passes C X E) (r : Room j X.A) (hk : k ≤ j) (hg : Gl X x) (ha : PA X (e :: es) t)
    (hdb : (x == ("__debug__" : Str)) = false := by decide) (he : starEach (e :: es) X.env = (false, eval e X.env) :: starEach es X.env := by rfl) (hpl : (backTo pos (starEach es X.env)).any (·.1) = false := by rfl) :
    PE X (.Call (.Name x p) (e :: es) [] pos) (tCall sp [] E t) := by
  obtain ⟨f, fd, ps, F, hm, kp, b⟩ := c.ex
  refine ⟨fun pins s σ H Q I h => ?_⟩
  refine wpAny_Call_Name_kw (ld_glob I hg hm ?_ hdb)
  refine PySem.W.callWith_K (h₀ := X.base) I.ok.mod.kin kp (thn (ha.run pos pins s σ H _ I h) fun us s1 z => ?_) he hpl
  obtain ⟨xs, H1, J, v, q⟩ := z
  exact ⟨J.kIn, runG F g (r.mono hk) b .nil out J v q⟩
/-- an expression that makes an error whose record has its six fields -/
def PMk6 (X : Cx) (e : Expr) (t : St → Hp → XK → Prop) : Prop :=
  ∀ (pins : List (Addr × Obj)) (s : Shared) (σ : St) (H : Hp) (Q : XK), Inv X pins σ H s → t σ H Q → wpAny (model X.prog X.w) X.A (eval e X.env) (fun u s2 => MkP X pins σ Q u s2 ∧ ∀ (a : Addr) (oe : Obj) (vs : Array Value), u = .ref a → s2.heap.get? a = some oe → oe.data = .fields vs → 4 < vs.size) X.xe s
theorem PMk6.pmk {X : Cx} {e : Expr} {t : St → Hp → XK → Prop} (h : PMk6 X e t) : PMk X e t := fun pins s σ H Q I q => thn (h pins s σ H Q I q) fun _ _ z => z.1
theorem under_quiet {A : Around} {Cl : Addr} {us : List Value} {kw : List (Str × Value)} (g : Quiet A) : Quiet (A.under (.builtin "type.__call__" ⟨.ref Cl :: us, kw⟩)) := by
  have e : A.guards = some [] := g
  show (A.under (.builtin "type.__call__" ⟨.ref Cl :: us, kw⟩)).guards = some []
  simp [Around.under, e, Code.guards, Code.isGuard, pushGuards, guardIds]
/-- an own error, made -/
theorem pmk_oexG {Cl fI : Addr} (T : OexC X.K Cl) (iC : PySem.W.findIn X.K (.ref Cl) "__init__" = some (some (.ref fI))) (tI : PySem.W.typeIn X.K (.ref fI) = some (.type "function"))
    (Fn : FnG X.prog X.w X.K X.mg X.base C k fI fd ps sp) (g : Quiet X.A) (r : Room (k + 1) X.A) (b : Binds X.K fd ps []) (none_out : Passes C X (fun _ _ _ => False)) (hg : Gl X x) (hm : X.mg x = some (.ref Cl)) (ha : PA X (e :: es) ta)
    (hdb : (x == ("__debug__" : Str)) = false := by decide) (he : starEach (e :: es) X.env = (false, eval e X.env) :: starEach es X.env := by rfl) (hpl : (backTo pos (starEach es X.env)).any (·.1) = false := by rfl) :
    PMk6 X (.Call (.Name x p) (e :: es) [] pos) (tMkO Cl sp [] ta) := by
  intro pins s σ H Q I h
  obtain ⟨nm, qn, NN, bs, bm, sn, sub, ab, col, dd, k0, k1, k2, k3, k5, isC, isB⟩ := T.cls
  refine wpAny_Call_Name_kw (ld_glob I hg hm ?_ hdb)
  refine PySem.W.callWith_K (h₀ := X.base) I.ok.mod.kin T.kC (thn (ha.run pos pins s σ H _ I h) fun us s1 z => ?_) he hpl
  obtain ⟨xs, H1, J, v, small, q⟩ := z
  refine ⟨J.kIn, ?_⟩
  obtain ⟨hp, gn, dr, tk, os⟩ := s1
  -- the tuple of the arguments, then the error
  have up : hp.objs.size ≤ hp.objs.size + 1 := Nat.le_succ _
  have new : H1 (hp.objs.size + 1) = none := J.hok.fresh up
  have q2 := q _ new
  generalize hG : (hp.push (PySem.W.kdv_tup us)).push (PySem.HandSPX.excO Cl hp.objs.size) = G
  have keep : ∀ c o, hp.get? c = some o → G.get? c = some o := fun c o z => by
    rw [← hG]
    exact Heap.get?_push_of_some _ (Heap.get?_push_of_some _ z)
  have here : G.get? (hp.objs.size + 1) = some (PySem.HandSPX.excO Cl hp.objs.size) := by
    rw [← hG]
    heap_get
  have J2 : Inv X pins σ (upd H1 (hp.objs.size + 1) (exo (hp.objs.size + 1) Cl none)) ⟨G, gn, dr, tk, os⟩ := J.laid (t' := tk) keep up (exo_ok here)
  have v2 : Vals (V.ref (hp.objs.size + 1) :: (xs ++ [])) (Value.ref (hp.objs.size + 1) :: (us ++ [])) := .cons rfl (v.append .nil)
  have n2 : (Value.ref (hp.objs.size + 1) :: us ++ []).length = ps.length := by
    have z := v2.length
    rw [Fn.count _ _ _ _ q2] at z
    exact z.symm
  have short : us.length ≤ sizeLine := by
    have z := v.length
    rw [← z, sizeLine_eq]
    omega
  have bb : BindsTo ⟨G, gn, dr, tk, os⟩ fd ⟨Value.ref (hp.objs.size + 1) :: us, []⟩ (ps.zip (Value.ref (hp.objs.size + 1) :: (us ++ []))) := by
    have z := b ⟨G, gn, dr, tk, os⟩ (Value.ref (hp.objs.size + 1) :: us) J2.kIn n2
    rw [List.cons_append] at z
    exact z
  have ran := Fn.runs _ X.stack _ _ ⟨Value.ref (hp.objs.size + 1) :: us, []⟩ (Value.ref (hp.objs.size + 1) :: (us ++ [])) _ _ (fun _ _ _ => False) (under_quiet g) (r.make Cl us []) (J2.env0.make Cl us []) bb v2 q2
  have isC2 := J.kIn _ _ isC
  subst hG
  refine wpAny_call (PySem.HandSPX.call_own PySem.F.excBase_ValueError (fun Y => PySem.HandSPX.refsVE_contains Y bm isB) isC2 (PySem.W.looks_findIn J.kIn iC) (fun self => PySem.W.bind_fn J.kIn self tI) short (codeAny_mono ran fun a s2 z => ?_))
  match a, z with
  | .error er, z => exact none_out pins σ _ _ er s2 J2 z
  | .ok .next, z => exact z.elim
  | .ok .brk, z => exact z.elim
  | .ok .cont, z => exact z.elim
  | .ok (.ret u), z =>
    obtain ⟨y, H2, os2, bare2, un2, hok2, rv, ey, d, fs, ea, ed, nd, q3⟩ := z
    subst ey
    obtain ⟨h2, g2, d2, t2, os3⟩ := s2
    have six : ∀ (y : Addr) (oe : Obj) (ws : Array Value), Value.ref (hp.objs.size + 1) = .ref y → h2.get? y = some oe → oe.data = .fields ws → 4 < ws.size := fun y oe ws e1 e2 e3 => by
      cases e1
      obtain ⟨t0, e4⟩ := exo_at hok2 ea
      rw [e4] at e2
      cases e2
      cases e3
      show (4 : Nat) < 6
      decide
    exact ⟨rv, mk_end (raises_own T.exC T.tyC) J up keep un2 hok2 os2 bare2 ea ed nd q3, six⟩
end
end L2

set_option Elab.async false
set_option linter.all false
set_option maxRecDepth 100000
set_option maxHeartbeats 4000000
/-! raise X(..) from Y(..), where nothing is being handled. -/
namespace L2
open PySem PySem.Spec PyProof.Rows
/-- the object of an error of which another one is the cause -/
def withCause (b : Addr) (o : Obj) : Obj := (o.mapFields (·.setIfInBounds 3 (.ref b))).mapFields (·.setIfInBounds 4 (.bool true))
/-- the heap in which the error at a has the one at b as its cause -/
def caused (h : Heap) (a b : Addr) : Heap := (h.update a (Obj.mapFields (·.setIfInBounds 3 (.ref b)))).update a (Obj.mapFields (·.setIfInBounds 4 (.bool true)))
theorem set_get {vs : Array Value} {i j : Nat} {x y : Value} (ne : i ≠ j) (h : vs[j]? = some y) : (vs.setIfInBounds i x)[j]? = some y := by
  first
  | (rw [Array.getElem?_setIfInBounds_ne ne]; exact h)
  | (simp [Array.getElem?_setIfInBounds, ne, h])
theorem caused_at {h : Heap} {a b : Addr} {oe : Obj} {vs : Array Value} (e : h.get? a = some oe) (d : oe.data = .fields vs) :
    (caused h a b).get? a = some (withCause b oe) ∧ (withCause b oe).data = .fields ((vs.setIfInBounds 3 (.ref b)).setIfInBounds 4 (.bool true)) := by
  have d3 := Obj.data_mapFields d (·.setIfInBounds 3 (.ref b))
  have e3 := Heap.get?_update_self (Obj.mapFields (·.setIfInBounds 3 (.ref b))) e (Obj.isFreed_of_fields d3)
  have d4 := Obj.data_mapFields d3 (·.setIfInBounds 4 (.bool true))
  exact ⟨Heap.get?_update_self (Obj.mapFields (·.setIfInBounds 4 (.bool true))) e3 (Obj.isFreed_of_fields d4), d4⟩
theorem caused_ne {h : Heap} {a b c : Addr} (ne : a ≠ c) : (caused h a b).get? c = h.get? c := by
  unfold caused
  rw [Heap.get?_update_other _ _ ne, Heap.get?_update_other _ _ ne]
theorem raise_from {P : Program} {w : World} {A : Around} {E : Value → Shared → Prop} {env : Env} {s : Shared} {x c : Sem Value} {Q : Flow → Shared → Prop} (calm : A.handled = none)
    (h : wpAny (model P w) A x (fun v s1 => ∃ a, v = .ref a ∧ wpAny (model P w) A c (fun u s2 => ∃ b oe ob vs ws cls cb, u = .ref b ∧ s2.heap.get? a = some oe ∧ oe.cls = cls ∧ oe.data = .fields vs ∧ vs[1]? = some .none ∧ 4 < vs.size ∧
      s2.heap.get? b = some ob ∧ ob.cls = cb ∧ ob.data = .fields ws ∧ PySem.W.Looks (model P w) s2.heap (isSubtype cls (.type "BaseException")) true ∧ PySem.W.Looks (model P w) s2.heap (isSubtype cb (.type "BaseException")) true ∧
      PySem.W.Looks (model P w) (caused s2.heap a b) (typeOf cls) (.type "type") ∧ E (.ref a) { s2 with heap := caused s2.heap a b }) E s1) E s) :
    wpAny (model P w) A (raiseStmt env (some x) (some c)) Q E s := by
  unfold raiseStmt
  dsimp only
  refine wpAny_bind (wpAny_mono h (fun v s1 z => ?_) fun _ _ y => y)
  obtain ⟨a, rfl, z⟩ := z
  refine wpAny_bind (wpAny_holding (wpAny_mono z (fun u s2 y => ?_) fun _ _ y => y))
  obtain ⟨b, oe, ob, vs, ws, cls, cb, rfl, ea, hcls, da, h1, big, eb, hcb, db, sub, subB, ty, out⟩ := y
  have type_a : PySem.W.Looks (model P w) s2.heap (typeOf (.ref a)) cls := fun A Q E s k q => wpAny_typeOf_ref (k _ _ ea) (by rw [hcls]; exact q)
  have type_b : PySem.W.Looks (model P w) s2.heap (typeOf (.ref b)) cb := fun A Q E s k q => wpAny_typeOf_ref (k _ _ eb) (by rw [hcb]; exact q)
  have inst_a : PySem.W.Looks (model P w) s2.heap (isInstance (.ref a) (.type "BaseException")) true := type_a.andThen sub
  have inst_b : PySem.W.Looks (model P w) s2.heap (isInstance (.ref b) (.type "BaseException")) true := type_b.andThen subB
  have no_type : ∀ {y : Addr} {oy : Obj} {us : Array Value} {s' : Shared} {R : Bool → Shared → Prop}, s'.heap.get? y = some oy → oy.data = .fields us → R false s' → wpAny (model P w) A (isType (.ref y)) R E s' := fun {y oy us s' R} e d q => by
    simp only [isType, loadHead]
    refine wpAny_bind (wpAny_loadPart e ?_)
    rw [d]
    exact wpAny_pure q
  have d3 := Obj.data_mapFields da (·.setIfInBounds 3 (.ref b))
  have e3 := Heap.get?_update_self (Obj.mapFields (·.setIfInBounds 3 (.ref b))) ea (Obj.isFreed_of_fields d3)
  obtain ⟨e4, d4⟩ := caused_at (b := b) ea da
  have n3 : 3 < vs.size := by omega
  have n4 : 4 < (vs.setIfInBounds 3 (Value.ref b)).size := by simpa using big
  have h4 : ((vs.setIfInBounds 3 (Value.ref b)).setIfInBounds 4 (Value.bool true))[1]? = some Value.none := set_get (by decide) (set_get (by decide) h1)
  have type4 : PySem.W.Looks (model P w) (caused s2.heap a b) (typeOf (.ref a)) cls := fun A Q E s k q => wpAny_typeOf_ref (k _ _ e4) (by
    have : (withCause b oe).cls = cls := by
      unfold withCause
      rw [Obj.cls_mapFields, Obj.cls_mapFields]
      exact hcls
    rw [this]
    exact q)
  have rest : wpAny (model P w) A (do
      let y ← isType (.ref a)
      if y = true then do
        let e ← holding [.ref a] (raisedFor (.ref a) (.ref a))
        setFlight e none
        raiseNew e
      else do
        let e ← raisedInstance (.ref a)
        setFlight e none
        raiseNew e : Sem Flow) Q E { s2 with heap := caused s2.heap a b } := by
    refine wpAny_bind (no_type e4 d4 ?_)
    simp only [Bool.false_eq_true, if_false]
    unfold raisedInstance
    refine wpAny_bind (wpAny_bind (type4.here (wpAny_bind (ty.here ?_))))
    rw [if_pos (beq_self_eq_true _)]
    refine wpAny_pure ?_
    unfold setFlight raiseNew
    refine wpAny_bind (wpAny_bind (wpAny_field e4 d4 h4 ?_))
    rw [if_neg (by decide)]
    refine wpAny_pure (wpAny_bind (wpAny_handled ?_))
    rw [calm]
    first
      | exact wpAny_throw out
      | exact wpAny_bind (wpAny_pure (wpAny_throw out))
  refine wpAny_bind (wpAny_pure ?_)
  dsimp only
  have told : ∀ {y : Addr} {oy : Obj} {us : Array Value} {m : String} {R : Value → Shared → Prop}, s2.heap.get? y = some oy → oy.data = .fields us → PySem.W.Looks (model P w) s2.heap (isInstance (.ref y) (.type "BaseException")) true → R (.ref y) s2 →
      wpAny (model P w) A (excFromValue (.ref y) m) R E s2 := fun {y oy us m R} e d i q => by
    unfold excFromValue isExcClass
    refine wpAny_bind (wpAny_bind (no_type e d ?_))
    simp only [Bool.false_eq_true, if_false]
    refine wpAny_pure ?_
    simp only [Bool.false_eq_true, if_false]
    refine wpAny_bind (i.here ?_)
    simp only [if_true]
    exact wpAny_pure q
  refine wpAny_bind (wpAny_holding (told ea da inst_a ?_))
  rw [if_neg (show ¬ (Value.ref b == Value.none) = true from fun z => nomatch z)]
  refine wpAny_bind (wpAny_holding (told eb db inst_b ?_))
  refine wpAny_bind (wpAny_setField ea da n3 (wpAny_bind (wpAny_setField e3 d3 n4 ?_)))
  exact rest
end L2

set_option Elab.async false
set_option linter.all false
set_option maxRecDepth 100000
set_option maxHeartbeats 4000000
/-! raise X(..) from Y(..): the rule. -/
namespace L2
open PySem PySem.Spec PyProof.Rows
section
variable {X : Cx} {pins : List (Addr × Obj)} {σ : St} {H : Hp} {s : Shared}
/-- the same, where only what is not the heap's has changed, and more is there -/
theorem Inv.grown {s2 : Shared} (I : Inv X pins σ H s) (k : ∀ b o, s.heap.get? b = some o → s2.heap.get? b = some o) (os : s2.os = s.os) (bare : AllBare s2.gens) : Inv X pins σ H s2 := by
  obtain ⟨h2, g2, d2, t2, o2⟩ := s2
  have J := I.kept (h' := h2) (t' := t2) k
  exact ⟨J.ok, by show o2 = _; exact Eq.trans os I.os, bare, J.base, J.loc, J.cell, J.free, J.freeC, J.pin, J.hok, J.len⟩
/-- one more object that is held fast -/
theorem Inv.hold {a : Addr} {o : Obj} (I : Inv X pins σ H s) (e : s.heap.get? a = some o) (n : H a = none) (l : a ≠ X.env.locals) (f : a ∉ X.fs) (c : ∀ v, o.data ≠ .cell v) : Inv X ((a, o) :: pins) σ H s := by
  refine ⟨I.ok, I.os, I.bare, I.base, I.loc, I.cell, I.free, I.freeC, fun p hp => ?_, I.hok, I.len⟩
  rcases List.mem_append.mp hp with h | h
  · exact I.pin p (List.mem_append_left _ h)
  · rcases List.mem_cons.mp h with h | h
    · rw [h]
      exact ⟨e, n, l, f, c⟩
    · exact I.pin p (List.mem_append_right _ h)
/-- without an object that is not tracked, nor a frame's nor a cell -/
theorem Inv.less {a : Addr} {o : Obj} {G : Heap} (I : Inv X ((a, o) :: pins) σ H s) (new : X.s_0.heap.get? a = none) (c : ∀ v, o.data ≠ .cell v) (away : ∀ p ∈ X.pn ++ pins, p.1 ≠ a) (gk : ∀ b, b ≠ a → G.get? b = s.heap.get? b) : Inv X pins σ H { s with heap := G } := by
  obtain ⟨ea, na, la, fa, _⟩ := I.pin (a, o) (List.mem_append_right _ (List.mem_cons_self ..))
  have old : ∀ {b : Addr} {u : Obj}, X.s_0.heap.get? b = some u → b ≠ a := fun {b u} e z => by
    rw [z, new] at e
    cases e
  have look : ∀ {b : Addr} {v : Option Value}, s.heap.IsCell b v → G.IsCell b v := fun {b v} ⟨u, hu, hd⟩ => by
    refine ⟨u, ?_, hd⟩
    rw [gk b fun z => ?_]
    · exact hu
    · rw [z, ea] at hu
      cases hu
      exact c _ hd
  refine ⟨I.ok, I.os, I.bare, ?_, ?_, fun x b e => ?_, I.free, I.freeC, fun p hp => ?_, ?_, I.len⟩
  · refine { keep := fun b u e n h1 h2 => ?_, slot := fun b u e n h1 h2 => ?_, free := I.base.free, there := fun b u e h => ?_, tups := I.base.tups, frzs := I.base.frzs, tbls := I.base.tbls }
    · show G.get? b = _
      rw [gk b (old e)]
      exact I.base.keep b u e n h1 h2
    · show ∃ sl, G.get? b = _
      rw [gk b (old e)]
      exact I.base.slot b u e n h1 h2
    · show ∃ q, G.get? b = some q
      rw [gk b (old e)]
      exact I.base.there b u e h
  · obtain ⟨m, ⟨u, es, ep, e, d, r⟩, q⟩ := I.loc
    refine ⟨m, ⟨u, es, ep, ?_, d, r⟩, fun i x v h1 h2 h3 => ?_⟩
    · show G.get? _ = _
      rw [gk _ (Ne.symm la)]
      exact e
    · obtain ⟨w, rv, lk⟩ := q i x v h1 h2 h3
      refine ⟨w, rv, ?_⟩
      rcases lk with lk | ⟨k1, b, k2, k3⟩
      · exact .inl lk
      · exact .inr ⟨k1, b, k2, look k3⟩
  · obtain ⟨v, hv⟩ := I.cell x b e
    exact ⟨v, look hv⟩
  · obtain ⟨e, r⟩ := I.pin p (by
      rcases List.mem_append.mp hp with h | h
      · exact List.mem_append_left _ h
      · exact List.mem_append_right _ (List.mem_cons_of_mem _ h))
    refine ⟨?_, r⟩
    show G.get? _ = _
    rw [gk _ (away p hp)]
    exact e
  · intro b u e
    have nb : b ≠ a := fun z => by
      rw [z, na] at e
      cases e
    refine (I.hok b u e).stay (fun d v hd q => ?_) (fun d q => q) fun d xs q => q
    rw [gk d ?_]
    · exact q
    · rcases hd with z | z
      · rw [z]
        exact nb
      · exact fun y => by
          rw [y, na] at z
          cases z
end
section
variable {X : Cx} {C : Addr} {e c : Expr} {te tc : St → Hp → XK → Prop} {pos : Pos} {W : WX}
theorem ps_from (hex : X.ex = []) (hc : X.calm = true) (tk : Takes X W) (he : PMk6 X e te) (hcs : PMk X c tc) : PS X (.Raise (some e) (some c) pos) (fun _ σ H => te σ H fun cls d H1 => tc σ H1 fun _ _ H2 => W cls d σ H2) := by
  refine ⟨fun pins s σ H D I h => ?_⟩
  show wpAny _ _ (do standAt pos; raiseStmt X.env (some (do let v ← eval e X.env; standAt pos; pure v)) (some (do let v ← eval c X.env; standAt pos; pure v))) _ _ _
  refine wpAny_bind (wpAny_standAt (raise_from (I.ok.hd hc) (wpAny_bind (wpAny_mono (he pins s σ H _ I h) (fun u s1 hu => wpAny_bind (wpAny_standAt (wpAny_pure ?_))) fun _ _ x => x))))
  obtain ⟨⟨a, oe, vs, sI, H1, cls, d, rfl, J, k, gone, ea, za, da, first, na, os, bare, r, q⟩, six⟩ := hu
  have big := six a oe vs rfl ea da
  have nocell : ∀ v, oe.data ≠ .cell v := fun v z => by
    rw [da] at z
    cases z
  have other : ∀ {b : Addr} {o : Obj}, sI.heap.get? b = some o → b ≠ a := fun {b o} e z => by
    rw [z, gone] at e
    cases e
  have new : X.s_0.heap.get? a = none := by
    cases z : X.s_0.heap.get? a with
    | none => rfl
    | some o =>
      obtain ⟨o2, e2⟩ := J.base.there a o z (by rw [hex]; exact List.not_mem_nil)
      exact absurd rfl (other e2)
  have aloc : a ≠ X.env.locals := fun z => by
    obtain ⟨m, ⟨u, es, ep, e1, _⟩, _⟩ := J.loc
    exact other e1 z.symm
  have afs : a ∉ X.fs := fun z => by
    obtain ⟨_, o, ho, _⟩ := J.ok.funs.mem z
    rw [new] at ho
    cases ho
  have J2 := (J.grown k os bare).hold ea na aloc afs nocell
  refine ⟨a, rfl, wpAny_bind (wpAny_mono (hcs _ s1 σ H1 _ J2 q) (fun u s2 hu => wpAny_bind (wpAny_standAt (wpAny_pure ?_))) fun _ _ x => x)⟩
  obtain ⟨b, ob, ws, sI2, H2, cls2, d2, rfl, J3, k2, gone2, eb, zb, db, first2, nb, os2, bare2, r2, q2⟩ := hu
  obtain ⟨ea2, na2, _⟩ := J3.pin (a, oe) (List.mem_append_right _ (List.mem_cons_self ..))
  have ea3 := k2 _ _ ea2
  have kin2 := J3.kIn.keeps k2
  have inK : ∀ {y : Addr} {o : Obj}, X.K.lookup y = some o → y ≠ a := fun {y o} e => other (J.kIn _ _ e)
  obtain ⟨c1, c2⟩ := caused_at (b := b) ea3 da
  have kin3 : X.K.In (caused s2.heap a b) := fun y o e => by
    rw [caused_ne (Ne.symm (inK e))]
    exact kin2 _ _ e
  obtain ⟨l1, _⟩ := r (model X.prog X.w) s2.heap kin2
  obtain ⟨_, l3⟩ := r (model X.prog X.w) (caused s2.heap a b) kin3
  obtain ⟨l2, _⟩ := r2 (model X.prog X.w) s2.heap kin2
  obtain ⟨G, g1, g2⟩ := restrict sI2.heap fun y => decide (y ≠ a)
  have gk : ∀ y, y ≠ a → G.get? y = sI2.heap.get? y := fun y hy => g1 y (decide_eq_true hy)
  have ga : G.get? a = none := g2 a (by simp)
  have J4 := J3.less (G := G) new nocell (fun p hp => other (J.pin p hp).1) gk
  refine ⟨b, oe, ob, vs, ws, cls, cls2, rfl, ea3, za.1, da, first, big, eb, zb.1, db, l1, l2, l3, tk _ _ ?_⟩
  refine XE.new (s' := { s2 with heap := caused s2.heap a b }) J4 (fun y o e => ?_) ga c1 ?_ c2 ?_ na2 os2 bare2 q2
  · have ne : y ≠ a := fun z => by
      rw [z] at e
      rw [show G.get? a = some o from e] at ga
      cases ga
    show (caused s2.heap a b).get? y = _
    rw [caused_ne (Ne.symm ne)]
    exact k2 _ _ ((gk y ne).symm.trans e)
  · unfold withCause
    exact Zc.steady _ _ (Zc.steady _ _ za)
  · exact set_get (by decide) (set_get (by decide) first)
end
end L2

set_option Elab.async false
set_option linter.all false
set_option maxRecDepth 100000
set_option maxHeartbeats 4000000
/-! Values with dicts among them, told by repr. -/
namespace L2
open PySem PySem.Spec PyProof.Rows
/-- a key as a datum -/
def keyD : Key → PyData
  | .inl i => .int i
  | .inr s => .str s
def zipD (ks : List Key) (ds : List PyData) : List (PyData × PyData) := (ks.map keyD).zip ds
mutual
inductive PyW (H : Hp) : V → PyData → Prop
  | non : PyW H .non .none
  | bl (b : Bool) : PyW H (.bl b) (.bool b)
  | int (i : Int) : PyW H (.int i) (.int i)
  | str (z : Str) : PyW H (.str z) (.str z)
  | tup {a : Addr} {xs : List V} {ds : List PyData} : H a = some (.tup xs) → PyWs H xs ds → PyW H (.ref a) (.tuple ds)
  | lst {a : Addr} {xs : List V} {ds : List PyData} : H a = some (.lst xs) → PyWs H xs ds → PyW H (.ref a) (.list ds)
  | dic {a : Addr} {kvs : List (Key × V)} {ds : List PyData} : H a = some (.dK kvs) → PyWs H (kvs.map (·.2)) ds → PyW H (.ref a) (.dict (zipD (kvs.map (·.1)) ds))
inductive PyWs (H : Hp) : List V → List PyData → Prop
  | nil : PyWs H [] []
  | cons {x : V} {d : PyData} {xs : List V} {ds : List PyData} : PyW H x d → PyWs H xs ds → PyWs H (x :: xs) (d :: ds)
end
mutual
theorem PyW.keep {H H2 : Hp} (s : ∀ b o, H b = some o → ((∃ xs, o = .tup xs) ∨ (∃ xs, o = .lst xs) ∨ ∃ xs, o = .dK xs) → H2 b = some o) : ∀ {x : V} {d : PyData}, PyW H x d → PyW H2 x d
  | _, _, .non => .non
  | _, _, .bl b => .bl b
  | _, _, .int i => .int i
  | _, _, .str z => .str z
  | _, _, .tup h r => .tup (s _ _ h (.inl ⟨_, rfl⟩)) (PyWs.keep s r)
  | _, _, .lst h r => .lst (s _ _ h (.inr (.inl ⟨_, rfl⟩))) (PyWs.keep s r)
  | _, _, .dic h r => .dic (s _ _ h (.inr (.inr ⟨_, rfl⟩))) (PyWs.keep s r)
theorem PyWs.keep {H H2 : Hp} (s : ∀ b o, H b = some o → ((∃ xs, o = .tup xs) ∨ (∃ xs, o = .lst xs) ∨ ∃ xs, o = .dK xs) → H2 b = some o) : ∀ {xs : List V} {ds : List PyData}, PyWs H xs ds → PyWs H2 xs ds
  | _, _, .nil => .nil
  | _, _, .cons h r => .cons (PyW.keep s h) (PyWs.keep s r)
end
theorem PyW.same {H H2 : Hp} (s : ∀ b o, H b = some o → H2 b = some o) {x : V} {d : PyData} (p : PyW H x d) : PyW H2 x d := p.keep fun b o e _ => s b o e
theorem PyWs.same {H H2 : Hp} (s : ∀ b o, H b = some o → H2 b = some o) {xs : List V} {ds : List PyData} (p : PyWs H xs ds) : PyWs H2 xs ds := p.keep fun b o e _ => s b o e
theorem PyW.but {H H2 : Hp} {a : Addr} {x : V} {d : PyData} {f : Heap → Prop} (p : PyW H x d) (s : ∀ b o, H b = some o → b ≠ a → H2 b = some o) (ha : H a = some (.ext f)) : PyW H2 x d :=
  p.keep fun b o e k => s b o e fun z => by
    rw [z, ha] at e
    cases e
    rcases k with ⟨xs, k⟩ | ⟨xs, k⟩ | ⟨xs, k⟩ <;> cases k
theorem PyWs.length {H : Hp} : ∀ {xs : List V} {ds : List PyData}, PyWs H xs ds → xs.length = ds.length
  | _, _, .nil => rfl
  | _, _, .cons _ r => by rw [List.length_cons, List.length_cons, PyWs.length r]
theorem PyWs.append {H : Hp} : ∀ {xs ys : List V} {ds es : List PyData}, PyWs H xs ds → PyWs H ys es → PyWs H (xs ++ ys) (ds ++ es)
  | _, _, _, _, .nil, q => q
  | _, _, _, _, .cons h r, q => .cons h (PyWs.append r q)
theorem zipD_fst : ∀ (ks : List Key) (ds : List PyData), ks.length = ds.length → (zipD ks ds).map (·.1) = ks.map keyD
  | [], _, _ => rfl
  | k :: ks, [], h => by cases h
  | k :: ks, d :: ds, h => by
    show keyD k :: (zipD ks ds).map (·.1) = keyD k :: ks.map keyD
    rw [zipD_fst ks ds (by simpa using h)]
theorem zipD_snd : ∀ (ks : List Key) (ds : List PyData), ks.length = ds.length → (zipD ks ds).map (·.2) = ds
  | [], [], _ => rfl
  | [], d :: ds, h => by cases h
  | k :: ks, [], h => by cases h
  | k :: ks, d :: ds, h => by
    show d :: (zipD ks ds).map (·.2) = d :: ds
    rw [zipD_snd ks ds (by simpa using h)]
/-- the keys of a dict read -/
theorem keys_read {P : Program} {w : World} {h : Heap} : ∀ {es : List DictEntry} {kvs : List (Key × V)} {vs : List (Key × Value)}, KV kvs vs → Pairs (mixKind P w) es vs →
    ReadsAll h (es.map (·.key)) ((kvs.map (·.1)).map keyD) [] ∧ Vals (kvs.map (·.2)) (es.map (·.val))
  | _, _, _, .nil, .nil => ⟨.nil, .nil⟩
  | e :: es, kv :: kvs, q :: vs, .cons r1 r2, .cons p1 p2 p3 => by
    obtain ⟨h1, h2⟩ := keys_read r2 p3
    obtain ⟨k, v⟩ := kv
    obtain ⟨k', v'⟩ := q
    obtain ⟨rk, rv⟩ := r1
    obtain rfl : k = k' := rk
    have rv' : RelV v v' := rv
    have e2 : e.val = v' := p2
    refine ⟨?_, ?_⟩
    · have one : Reads h e.key (keyD k) [] := by
        rcases keyIs_shape p1 with ⟨i, t, rfl, ek⟩ | ⟨x, t, rfl, ek⟩
        · rw [ek]
          exact .int i t
        · rw [ek]
          exact .str x t
      exact ReadsAll.cons one h1
    · show Vals (v :: kvs.map (·.2)) (e.val :: es.map (·.val))
      rw [e2]
      exact .cons rv' h2
mutual
theorem PyW.reads {P : Program} {w : World} {H : Hp} {h : Heap} (ok : HOk P w H h) (ns : H sysModules = none) : ∀ {x : V} {d : PyData} {u : Value}, PyW H x d → RelV x u → ∃ as, Reads h u d as ∧ sysModules ∉ as
  | _, _, u, .non, r => by
    obtain rfl : u = Value.none := r
    exact ⟨_, .none, List.not_mem_nil⟩
  | _, _, u, .bl b, r => by
    obtain rfl : u = Value.bool b := r
    exact ⟨_, .bool b, List.not_mem_nil⟩
  | _, _, u, .int i, r => by
    obtain ⟨t, rfl⟩ : ∃ t, u = Value.int i t := r
    exact ⟨_, .int i t, List.not_mem_nil⟩
  | _, _, u, .str z, r => by
    obtain ⟨t, rfl⟩ : ∃ t, u = Value.str z t := r
    exact ⟨_, .str z t, List.not_mem_nil⟩
  | _, _, u, .tup (a := a) h1 h2, r => by
    obtain rfl : u = Value.ref a := r
    obtain ⟨_, its, rel, o, e1, e2, n, e3⟩ := ok a _ h1
    obtain ⟨as, q, m⟩ := PyWs.reads ok ns h2 rel
    exact ⟨_, .tuple e1 e2 e3 q, m⟩
  | _, _, u, .lst (a := a) h1 h2, r => by
    obtain rfl : u = Value.ref a := r
    obtain ⟨_, its, n, rel, e1⟩ := ok a _ h1
    obtain ⟨as, q, m⟩ := PyWs.reads ok ns h2 rel
    exact ⟨_, .list e1 rfl rfl q, fun z => (List.mem_cons.mp z).elim (fun e => ne_of_none h1 ns e.symm) m⟩
  | _, _, u, .dic (a := a) (kvs := kvs) (ds := ds) h1 h2, r => by
    obtain rfl : u = Value.ref a := r
    obtain ⟨_, hs, vs, rel, o, es, ep, e1, ex, e2, _, pr, _⟩ := ok a _ h1
    obtain ⟨rk, rv⟩ := keys_read (h := h) rel pr
    obtain ⟨bs, q, m⟩ := PyWs.reads ok ns h2 rv
    have hl : (kvs.map (·.1)).length = ds.length := by
      have := PyWs.length h2
      rw [List.length_map] at this ⊢
      exact this
    refine ⟨_, .dict e1 ex.1 e2 (as := []) (bs := bs) (by rw [zipD_fst _ _ hl]; exact rk) (by rw [zipD_snd _ _ hl]; exact q), fun z => ?_⟩
    exact (List.mem_cons.mp (show sysModules ∈ a :: bs from z)).elim (fun e => ne_of_none h1 ns e.symm) m
theorem PyWs.reads {P : Program} {w : World} {H : Hp} {h : Heap} (ok : HOk P w H h) (ns : H sysModules = none) : ∀ {xs : List V} {ds : List PyData} {us : List Value}, PyWs H xs ds → Vals xs us → ∃ as, ReadsAll h us ds as ∧ sysModules ∉ as
  | _, _, _, .nil, r => by
    cases r
    exact ⟨_, .nil, List.not_mem_nil⟩
  | _, _, _, .cons h1 h2, r => by
    cases r with
    | cons r1 r2 =>
      obtain ⟨a1, q1, m1⟩ := PyW.reads ok ns h1 r1
      obtain ⟨a2, q2, m2⟩ := PyWs.reads ok ns h2 r2
      exact ⟨_, .cons q1 q2, fun z => (List.mem_append.mp z).elim m1 m2⟩
end
/-- sys.modules stands in the ground -/
def SysIn (base : Heap) : Prop := ∃ o, base.get? sysModules = some o
theorem SysIn.no {X : Cx} {pins : List (Addr × Obj)} {σ : St} {H : Hp} {s : Shared} (b : SysIn X.base) (I : Inv X pins σ H s) : H sysModules = none := by
  obtain ⟨o, e⟩ := b
  exact (I.bs _ _ e).2
/-- it is flat, or an object -/
theorem PyW.flat {H : Hp} {x : V} {d : PyData} (p : PyW H x d) : PyV H x d ∨ ∃ a, x = .ref a := by
  cases p with
  | non => exact .inl .non
  | bl b => exact .inl (.bl b)
  | int i => exact .inl (.int i)
  | str z => exact .inl (.str z)
  | tup h r => exact .inr ⟨_, rfl⟩
  | lst h r => exact .inr ⟨_, rfl⟩
  | dic h r => exact .inr ⟨_, rfl⟩
section
variable {X : Cx} {j : Nat}
theorem repr_anyW {pins : List (Addr × Obj)} {σ : St} {H : Hp} {s : Shared} {Q : VK} {x : V} {u : Value} {d : PyData} (sys : SysIn X.base) (quiet : X.A.guards = some []) (room : X.A.units + 64 < cLine) (I : Inv X pins σ H s) (r : RelV x u) (p : PyW H x d) (t : Tells d) (q : Q (.str d.shown) H) :
    wpAny (model X.prog X.w) X.A (pyReprObj u) (EP X pins σ Q) X.xe s := by
  rcases p.flat with f | ⟨a, rfl⟩
  · exact repr_any quiet room I r f t q
  · obtain rfl : u = Value.ref a := r
    obtain ⟨as, rd, no⟩ := p.reads I.hok (sys.no I) rfl
    have dp := t.dp
    exact pyReprObj_of_reads rd t.sh (fun _ => no) quiet (by omega) (fun _ _ e => e) (fun h2 k tk kp => ⟨.str d.shown, H, I.kept kp, ⟨k, rfl⟩, q⟩) t.size
/-- repr(x) -/
theorem call_reprW (sys : SysIn X.base) (quiet : X.A.guards = some []) (room : Room j X.A) : CallR X (.builtin "repr") (fun xs H Q => ∃ x d, xs = [x] ∧ PyW H x d ∧ Tells d ∧ Q (.str d.shown) H) := by
  intro pins s σ H xs us Q I rel h
  obtain ⟨x, d, rfl, p, t, q⟩ := h
  rcases p.flat with f | ⟨a, rfl⟩
  · exact call_reprG quiet room pins s σ H _ us Q I rel ⟨x, d, rfl, f, t, q⟩
  · match us, rel with
    | [u], .cons r .nil =>
      obtain rfl : u = Value.ref a := r
      obtain ⟨as, rd, no⟩ := p.reads I.hok (sys.no I) rfl
      have dp := t.dp
      have ru := room.units
      exact repr_of_reads' rd t.sh (fun _ => no) quiet (by omega) (fun _ _ e => e) (fun h2 k tk kp => ⟨.str d.shown, H, I.kept kp, ⟨k, rfl⟩, q⟩) t.size
/-- {x!r} of a datum -/
def tFmtW (te : TE) : TE := fun σ H Q => te σ H fun x H1 => ∃ d, PyW H1 x d ∧ Tells d ∧ Q (.str d.shown) H1
theorem pe_fmtW {e : Expr} {te : TE} {pos : Pos} (sys : SysIn X.base) (quiet : X.A.guards = some []) (room : Room j X.A) (he : PE X e te) : PE X (.FormattedValue e 114 none pos) (tFmtW te) := by
  refine ⟨fun pins s σ H Q I h => wpAny_FormattedValue_repr (thn (he.run pins s σ H _ I h) fun v s1 hv => ?_)⟩
  obtain ⟨x, H1, J, rel, d, p, t, q⟩ := hv
  refine thn (repr_anyW (Q := fun y H2 => y = .str d.shown ∧ H2 = H1) sys quiet room.units J rel p t ⟨rfl, rfl⟩) fun u s2 z => ?_
  obtain ⟨y, H2, J2, r2, ey, eH⟩ := z
  subst ey
  subst eH
  obtain ⟨k, rfl⟩ := r2
  exact wpAny_formatField_str ⟨.str d.shown, _, J2, ⟨_, rfl⟩, q⟩ ⟨.str d.shown, _, J2.tok _, ⟨_, rfl⟩, q⟩ t.size
end
end L2

set_option Elab.async false
set_option linter.all false
set_option maxRecDepth 100000
set_option maxHeartbeats 4000000
/-! The drawing of the law: the pen, a draw, a pick. -/
namespace V8
open PySem PySem.Spec PyProof.Rows L2
def topS (i : Nat) : Stmt := PySem.Challenge.pw_blindrepair_k03_tables_to_write_with.main.body.getD i (.Pass ⟨0, 0, 0, 0⟩)
abbrev s_pen : Stmt := topS 27
abbrev n_pen : List Str := ["_law_script"]
theorem sc_pen : FnScope ["_law_script"] ["_law_script"] (defScope s_pen) := ⟨rfl, rfl, rfl, by decide +kernel, rfl, by decide +kernel, by decide +kernel⟩
abbrev s_draw : Stmt := topS 28
abbrev n_draw : List Str := ["_law_pen_here", "_law_many", "_law_digit", "_law_at", "_law_cell", "_law_great", "_law_stirred"]
theorem sc_draw : FnScope ["_law_pen_here", "_law_many", "_law_digit", "_law_at", "_law_cell", "_law_great", "_law_stirred"] ["_law_pen_here", "_law_many"] (defScope s_draw) := ⟨rfl, rfl, rfl, by decide +kernel, rfl, by decide +kernel, by decide +kernel⟩
abbrev s_pick : Stmt := topS 29
abbrev n_pick : List Str := ["_law_pen_here", "_law_some"]
theorem sc_pick : FnScope ["_law_pen_here", "_law_some"] ["_law_pen_here", "_law_some"] (defScope s_pick) := ⟨rfl, rfl, rfl, by decide +kernel, rfl, by decide +kernel, by decide +kernel⟩

/-- all but the object at p stands as it stood -/
def Fr (p : Addr) (H H' : Hp) : Prop := ∀ b o, H b = some o → b ≠ p → H' b = some o
theorem Fr.refl {p : Addr} {H : Hp} : Fr p H H := fun _ _ h _ => h
theorem Fr.trans {p : Addr} {H H1 H2 : Hp} (a : Fr p H H1) (b : Fr p H1 H2) : Fr p H H2 := fun c o h n => b c o (a c o h n) n
theorem Fr.new {p q : Addr} {o : HO} {H : Hp} (h : H q = none) : Fr p H (upd H q o) := fun b u e _ => by
  rw [upd_ne (ne_of_none e h)]; exact e
theorem Fr.at {p : Addr} {o : HO} {H : Hp} : Fr p H (upd H p o) := fun b u e n => by
  rw [upd_ne n]; exact e
theorem Fr.none' {p q : Addr} {H H' : Hp} (a : Fr p H H') (hp : H' p ≠ none) (h : H' q = none) : H q = none := by
  cases e : H q with
  | none => rfl
  | some o =>
    by_cases hq : q = p
    · subst hq; exact absurd h hp
    · rw [a q o e hq] at h; cases h
/-- the pen at p, the script's ints at l, n draws are let -/
structure PenAt (H : Hp) (p l : Addr) (ns : List Int) (n : Nat) : Prop where
  here : ∃ (spot great : Int), H p = some (.lst [.ref l, .int spot, .int great]) ∧ 0 ≤ spot ∧ spot + n ≤ 1000000 ∧ 0 ≤ great
  nums : H l = some (.lst (ns.map V.int))
  ne : l ≠ p
  short : ns.length ≤ 63
theorem PenAt.less {H : Hp} {p l : Addr} {ns : List Int} {n m : Nat} (P : PenAt H p l ns n) (h : m ≤ n) : PenAt H p l ns m := by
  obtain ⟨⟨s, g, h1, h2, h3, h4⟩, i, e, sh⟩ := P
  exact ⟨⟨s, g, h1, h2, by omega, h4⟩, i, e, sh⟩
theorem PenAt.some' {H : Hp} {p l : Addr} {ns : List Int} {n : Nat} (P : PenAt H p l ns n) : H p ≠ none := by
  obtain ⟨⟨s, g, h1, _⟩, _⟩ := P
  rw [h1]; exact fun z => nomatch z
theorem PenAt.new {H : Hp} {p l q : Addr} {o : HO} {ns : List Int} {n : Nat} (P : PenAt H p l ns n) (h : H q = none) : PenAt (upd H q o) p l ns n := by
  obtain ⟨⟨s, g, h1, h2, h3, h4⟩, i, e, sh⟩ := P
  exact ⟨⟨s, g, by rw [upd_ne (ne_of_none h1 h)]; exact h1, h2, h3, h4⟩, by rw [upd_ne (ne_of_none i h)]; exact i, e, sh⟩
/-- another object is written -/
theorem PenAt.other {H : Hp} {p l q : Addr} {o : HO} {ns : List Int} {n : Nat} (P : PenAt H p l ns n) (h : q ≠ p) (h' : q ≠ l) : PenAt (upd H q o) p l ns n := by
  obtain ⟨⟨s, g, h1, h2, h3, h4⟩, i, e, sh⟩ := P
  exact ⟨⟨s, g, by rw [upd_ne (Ne.symm h)]; exact h1, h2, h3, h4⟩, by rw [upd_ne (Ne.symm h')]; exact i, e, sh⟩
def spDraw : Sp := fun vs H Q _ => ∃ (p l : Addr) (ns : List Int) (n : Nat) (many : Int), vs = [.ref p, .int many] ∧ PenAt H p l ns (n + 1) ∧ 0 < many ∧ many < 1000 ∧
  ∀ (v : Int) (H' : Hp), 0 ≤ v → v < many → PenAt H' p l ns n → Fr p H H' → Q (.int v) H'
section
variable {P : Program} {w : World} {K : PySem.W.Frag} {mg : Str → Option Value} {base : Heap}
theorem ints_at {ns : List Int} {i : Int} (h0 : 0 ≤ i) (h : i < ns.length) : ∃ z : Int, atI (ns.map V.int) i = some (.int z) := by
  obtain ⟨j, rfl⟩ : ∃ j : Nat, i = j := ⟨i.toNat, by omega⟩
  have hj : j < ns.length := by omega
  exact ⟨ns[j], atI_nat (by rw [List.getElem?_map, List.getElem?_eq_getElem hj]; rfl)⟩
def dInts (ns : List Int) : List PyData := ns.map PyData.int
theorem dp_ints {H : Hp} : ∀ ns : List Int, DpAll K H (ns.map V.int) (dInts ns)
  | [] => .nil
  | n :: ns => .cons (.int n) (dp_ints ns)
theorem lay_ints : ∀ ns : List Int, PyData.canLayAll0 (dInts ns) = true
  | [] => by simp [dInts, PyData.canLayAll0]
  | n :: ns => by
    have h := lay_ints ns
    simp only [dInts, List.map_cons, PyData.canLayAll0, PyData.canLay0, Bool.true_and]
    exact h
theorem depth_ints : ∀ ns : List Int, PyData.depthAll (dInts ns) = 0
  | [] => by simp [dInts, PyData.depthAll]
  | n :: ns => by
    have h := depth_ints ns
    simp only [dInts, List.map_cons, PyData.depthAll, PyData.depth]
    unfold dInts at h
    omega
theorem shaped_ints (ns : List Int) : SeqAt.shaped (.list (dInts ns)) = true := by
  have h2 : PyData.depth (.list (dInts ns)) ≤ 64 := by
    simp only [PyData.depth, depth_ints]
    omega
  show (PyData.canLay0 (.list (dInts ns)) && decide (PyData.depth (.list (dInts ns)) ≤ 64)) = true
  rw [Bool.and_eq_true]
  exact ⟨by simp only [PyData.canLay0]; exact lay_ints ns, decide_eq_true h2⟩
structure Blt (mg : Str → Option Value) : Prop where
  list : mg "list" = none
  int : mg "int" = none
  len : mg "len" = none
  abs : mg "abs" = none
  range : mg "range" = none
  dict : mg "dict" = none
  str : mg "str" = none
  sorted : mg "sorted" = none
  tuple : mg "tuple" = none
theorem pw2 {st spot : Int} (s0 : 0 ≤ st) (s1 : st < 2147483563) (h0 : 0 ≤ spot) (h1 : spot ≤ 1000000) : (st * (2 * spot + 137) + 43039 * spot * spot + 23).natAbs < 2 ^ 64 := by
  have a1 : st * (2 * spot + 137) ≤ 2147483647 * 2000999 := Int.mul_le_mul (by omega) (by omega) (by omega) (by omega)
  have a0 : 0 ≤ st * (2 * spot + 137) := Int.mul_nonneg s0 (by omega)
  have c1 : 43039 * spot * spot ≤ 99999000000 * 1000000 := Int.mul_le_mul (by omega) h1 h0 (by omega)
  have c0 : 0 ≤ 43039 * spot * spot := Int.mul_nonneg (by omega) h0
  omega
theorem ok_draw {f : Addr} {fd : FuncData} {k : Nat} (F : Fun K "_law_draw" "_law_draw" s_draw f fd) (T : Blt mg) : FnOk P w K mg base CX0 (k + 1) f fd ["_law_pen_here", "_law_many"] spDraw := by
  refine F.ok sc_draw (fun vs H Q E h => ?_) (fun cdv A outer s H vs Q E hr h => ?_)
  · obtain ⟨p, l, ns, n, many, rfl, _⟩ := h
    rfl
  · obtain ⟨p, l, ns, n, many, rfl, PA, m0, m1, q⟩ := h
    obtain ⟨⟨spot, great, hp, hs0, hsn, hg⟩, hl, hne, hsh⟩ := id PA
    refine ⟨_, (pss_cons (ps_if (pt_cmpR op_gt (pe_ix (ix_listK (K := K) rfl) (pv 0) pe_int (fun _ _ => rfl)) pe_int (nomark _))
        (pss_cons (ps_set (i := 2) sc_draw.nd rfl (.inl rfl) (pe_op op_mod (pe_callTy call_int1 (by rfl) T.int (by decide +kernel) (pa_cons (pe_ix (ix_listK (K := K) rfl) (pv 0) pe_int (fun _ _ => rfl)) pa_nil)) (pv 1)))
        (pss_cons (ps_asg (pe_op op_fdiv (pe_callTy call_int1 (by rfl) T.int (by decide +kernel) (pa_cons (pe_ix (ix_listK (K := K) rfl) (pv 0) pe_int (fun _ _ => rfl)) pa_nil)) (pv 1)) (pg_sub (pv 0) pe_int set_list))
        (pss_one (ps_ret (pv 2)))))
        pss_nil)
      (pss_cons (ps_set (i := 3) sc_draw.nd rfl (.inl rfl) (pe_ix (ix_listK (K := K) rfl) (pv 0) pe_int (fun _ _ => rfl)))
      (pss_cons (ps_asg (pe_op op_add (pv 3) pe_int) (pg_sub (pv 0) pe_int set_list))
      (pss_cons (ps_set (i := 4) sc_draw.nd rfl (.inl rfl) (pe_op op_add (pe_op op_mul pe_int (pv 3)) pe_int))
      (pss_cons (ps_if (pt_cmpR (op_neDK (K := K) rfl hr.units) (pe_ix (ix_listK (K := K) rfl) (pv 0) pe_int (fun _ _ => rfl)) (pe_lst pa_nil) (nomark _))
        (pss_one (ps_set (i := 4) sc_draw.nd rfl (.inl rfl) (pe_ix (ix_listK (K := K) rfl) (pe_ix (ix_listK (K := K) rfl) (pv 0) pe_int (fun _ _ => rfl)) (pe_op op_mod (pe_callTy call_int1 (by rfl) T.int (by decide +kernel) (pa_cons (pv 3) pa_nil)) (pe_callB (call_len_seqK (K := K) rfl) (by rfl) T.len (by decide +kernel) (pa_cons (pe_ix (ix_listK (K := K) rfl) (pv 0) pe_int (fun _ _ => rfl)) pa_nil))) (fun _ _ => rfl))))
        pss_nil)
      (pss_cons (ps_if (PW.pt (pw_and (pt_cmpR op_lt (pv 3) (pe_callB (call_len_seqK (K := K) rfl) (by rfl) T.len (by decide +kernel) (pa_cons (pe_ix (ix_listK (K := K) rfl) (pv 0) pe_int (fun _ _ => rfl)) pa_nil)) (nomark _)) (pw_and1 (pt_cmpR op_ge (pe_callB call_abs (by rfl) T.abs (by decide +kernel) (pa_cons (pv 4) pa_nil)) (pe_op op_pow pe_int pe_int) (nomark _)))))
        (pss_cons (ps_set (i := 5) sc_draw.nd rfl (.inl rfl) (pe_op op_add (pe_op op_mul pe_int (pe_op op_sub (pe_callB call_abs (by rfl) T.abs (by decide +kernel) (pa_cons (pv 4) pa_nil)) (pe_op op_pow pe_int pe_int))) (pe_callTy call_int1 (by rfl) T.int (by decide +kernel) (pa_cons (pe_cmpR op_lt (pv 4) pe_int (nomark _)) pa_nil))))
        (pss_cons (ps_asg (pe_op op_fdiv (pe_callTy call_int1 (by rfl) T.int (by decide +kernel) (pa_cons (pv 5) pa_nil)) (pv 1)) (pg_sub (pv 0) pe_int set_list))
        (pss_one (ps_ret (pe_op op_mod (pe_callTy call_int1 (by rfl) T.int (by decide +kernel) (pa_cons (pv 5) pa_nil)) (pv 1))))))
        pss_nil)
      (pss_cons (ps_set (i := 6) sc_draw.nd rfl (.inl rfl) (pe_op op_mod (pe_callTy call_int1 (by rfl) T.int (by decide +kernel) (pa_cons (pe_op op_pow (pe_op op_add (pe_op op_add (pe_op op_mod (pe_callTy call_int1 (by rfl) T.int (by decide +kernel) (pa_cons (pv 4) pa_nil)) pe_int) (pe_op op_mul pe_int (pv 3))) pe_int) pe_int) pa_nil)) pe_int))
      (pss_cons (ps_set (i := 6) sc_draw.nd rfl (.inl rfl) (pe_op op_mod (pe_callTy call_int1 (by rfl) T.int (by decide +kernel) (pa_cons (pe_op op_pow (pe_op op_add (pe_op op_add (pe_op op_mul (pv 6) (pe_op op_add (pe_op op_mul pe_int (pv 3)) pe_int)) (pe_op op_mul (pe_op op_mul pe_int (pv 3)) (pv 3))) pe_int) pe_int) pa_nil)) pe_int))
      (pss_one (ps_ret (pe_op op_mod (pe_callTy call_int1 (by rfl) T.int (by decide +kernel) (pa_cons (pe_op op_fdiv (pv 6) pe_int) pa_nil)) (pv 1)))))))))))), ?_⟩
    -- pen[2] > 0
    refine ⟨_, rfl, p, _, 2, _, rfl, rfl, SqL.of hp, rfl, great, 0, rfl, rfl, _, rfl, ?_⟩
    refine ite2 (fun e => ?_) (fun e => ?_)
    · refine ⟨_, rfl, p, _, 2, _, rfl, rfl, SqL.of hp, rfl, .inl ⟨_, rfl, _, rfl, _, _, rfl, rfl, m0, ?_⟩⟩
      refine ⟨_, rfl, p, _, 2, _, rfl, rfl, SqL.of hp, rfl, .inl ⟨_, rfl, _, rfl, _, _, rfl, rfl, ⟨m0, by omega⟩, _, rfl, p, _, 2, 2, rfl, rfl, hp, rfl, ?_⟩⟩
      refine ⟨_, rfl, q _ _ (Int.emod_nonneg _ (by omega)) (Int.emod_lt_of_pos _ m0) ⟨⟨spot, great / many, upd_same, hs0, by omega, Int.ediv_nonneg hg (by omega)⟩, by rw [upd_ne hne]; exact hl, hne, hsh⟩ Fr.at⟩
    -- spot = pen[1]; pen[1] = spot + 1; cell = ..
    refine ⟨_, rfl, p, _, 1, _, rfl, rfl, SqL.of hp, rfl, ?_⟩
    refine ⟨_, rfl, _, _, rfl, rfl, _, rfl, p, _, 1, 1, rfl, rfl, hp, rfl, ?_⟩
    refine ⟨_, rfl, _, _, rfl, rfl, .inl ⟨by decide, by decide⟩, _, _, rfl, rfl, ?_⟩
    have hp1 : upd H p (.lst [.ref l, .int (spot + 1), .int great]) p = some (.lst [.ref l, .int (spot + 1), .int great]) := upd_same
    have hl1 : upd H p (.lst [.ref l, .int (spot + 1), .int great]) l = some (.lst (ns.map V.int)) := by rw [upd_ne hne]; exact hl
    dsimp only [List.set_cons_succ, List.set_cons_zero]
    -- pen[0] != []
    refine ⟨_, rfl, p, _, 0, _, rfl, rfl, SqL.of hp1, rfl, Nat.zero_le _, fun o no => ?_⟩
    have hpo : p ≠ o := ne_of_none hp1 no
    have hlo : l ≠ o := ne_of_none hl1 no
    have hp2 : upd (upd H p (.lst [.ref l, .int (spot + 1), .int great])) o (.lst []) p = some (.lst [.ref l, .int (spot + 1), .int great]) := by rw [upd_ne hpo]; exact hp1
    have hl2 : upd (upd H p (.lst [.ref l, .int (spot + 1), .int great])) o (.lst []) l = some (.lst (ns.map V.int)) := by rw [upd_ne hlo]; exact hl1
    have fr2 : Fr p H (upd (upd H p (.lst [.ref l, .int (spot + 1), .int great])) o (.lst [])) := Fr.at.trans (Fr.new no)
    refine ⟨_, _, .lst (SqL.of hl2) (dp_ints ns), .lst (SqL.of upd_same) .nil, shaped_ints ns, by decide, _, rfl, ?_⟩
    generalize upd (upd H p (.lst [.ref l, .int (spot + 1), .int great])) o (.lst []) = H2 at hp2 hl2 fr2 ⊢
    refine ite2 (fun e => ?g1) (fun e => ?g2)
    case' g1 =>
      have hns : 0 < ns.length := by
        cases ns with
        | nil => simp [dInts, PyData.eqv, PyData.eqvAll] at e
        | cons a r => simp
      have hpos : (0 : Int) < ((ns.map V.int).length : Int) := by rw [List.length_map]; omega
      obtain ⟨z, hz⟩ := ints_at (ns := ns) (i := spot % ((ns.map V.int).length : Int)) (Int.emod_nonneg _ (by omega)) (by
        have := Int.emod_lt_of_pos spot hpos
        rw [List.length_map] at this ⊢
        exact this)
      refine ⟨_, rfl, p, _, 0, _, rfl, rfl, SqL.of hp2, rfl, _, rfl, .inl ⟨_, rfl, _, rfl, p, _, 0, _, rfl, rfl, SqL.of hp2, rfl, l, _, rfl, .inl (SqL.of hl2), _, _, rfl, rfl, hpos, l, _, _, _, rfl, rfl, SqL.of hl2, hz, ?_⟩⟩
      generalize z = c
      refine ⟨_, rfl, _, rfl, p, _, 0, _, rfl, rfl, SqL.of hp2, rfl, l, _, rfl, .inl (SqL.of hl2), _, _, rfl, rfl, _, rfl, ?_⟩
      refine ite2 (fun e1 => ?a3) (fun e1 => ?a4)
      case' a3 =>
        refine ⟨_, rfl, _, rfl, _, _, rfl, rfl, ⟨by decide, by decide, by decide⟩, _, _, rfl, rfl, _, rfl, ?_⟩
        refine ite2 (fun e2 => ?a5) (fun e2 => ?a6)
        case' a5 =>
          have hge := of_decide_eq_true e2
          refine ⟨_, rfl, _, rfl, _, _, rfl, rfl, ⟨by decide, by decide, by decide⟩, _, _, rfl, rfl, _, _, rfl, rfl, .inl ⟨by decide, by decide⟩, _, rfl, _, _, rfl, rfl, .inr ⟨_, rfl, _, _, rfl, rfl, ?_⟩⟩
          have hG : 0 ≤ 2 * ((if c < 0 then -c else c) - 10 ^ (18 : Int).toNat) + (if decide (c < 0) = true then 1 else 0) := by
            have h1 : (10 : Int) ^ (18 : Int).toNat ≤ (if c < 0 then -c else c) := hge
            have h2 : (0 : Int) ≤ (if decide (c < 0) = true then 1 else 0) := by split <;> decide
            omega
          refine ⟨_, rfl, .inl ⟨_, rfl, _, rfl, _, _, rfl, rfl, ⟨m0, by omega⟩, _, rfl, p, _, 2, 2, rfl, rfl, hp2, rfl, ?_⟩⟩
          refine ⟨_, rfl, .inl ⟨_, rfl, _, rfl, _, _, rfl, rfl, m0, ?_⟩⟩
          exact q _ _ (Int.emod_nonneg _ (by omega)) (Int.emod_lt_of_pos _ m0) ⟨⟨spot + 1, _, upd_same, by omega, by omega, Int.ediv_nonneg hG (by omega)⟩, by rw [upd_ne hne]; exact hl2, hne, hsh⟩ (fr2.trans Fr.at)
      case' a4 => refine iteF ?_
    case' g2 =>
      generalize 90095 * spot + 2027 = c
      refine ⟨_, rfl, _, rfl, p, _, 0, _, rfl, rfl, SqL.of hp2, rfl, l, _, rfl, .inl (SqL.of hl2), _, _, rfl, rfl, _, rfl, ?_⟩
      refine ite2 (fun e1 => ?b3) (fun e1 => ?b4)
      case' b3 =>
        refine ⟨_, rfl, _, rfl, _, _, rfl, rfl, ⟨by decide, by decide, by decide⟩, _, _, rfl, rfl, _, rfl, ?_⟩
        refine ite2 (fun e2 => ?b5) (fun e2 => ?b6)
        case' b5 =>
          have hge := of_decide_eq_true e2
          refine ⟨_, rfl, _, rfl, _, _, rfl, rfl, ⟨by decide, by decide, by decide⟩, _, _, rfl, rfl, _, _, rfl, rfl, .inl ⟨by decide, by decide⟩, _, rfl, _, _, rfl, rfl, .inr ⟨_, rfl, _, _, rfl, rfl, ?_⟩⟩
          have hG : 0 ≤ 2 * ((if c < 0 then -c else c) - 10 ^ (18 : Int).toNat) + (if decide (c < 0) = true then 1 else 0) := by
            have h1 : (10 : Int) ^ (18 : Int).toNat ≤ (if c < 0 then -c else c) := hge
            have h2 : (0 : Int) ≤ (if decide (c < 0) = true then 1 else 0) := by split <;> decide
            omega
          refine ⟨_, rfl, .inl ⟨_, rfl, _, rfl, _, _, rfl, rfl, ⟨m0, by omega⟩, _, rfl, p, _, 2, 2, rfl, rfl, hp2, rfl, ?_⟩⟩
          refine ⟨_, rfl, .inl ⟨_, rfl, _, rfl, _, _, rfl, rfl, m0, ?_⟩⟩
          exact q _ _ (Int.emod_nonneg _ (by omega)) (Int.emod_lt_of_pos _ m0) ⟨⟨spot + 1, _, upd_same, by omega, by omega, Int.ediv_nonneg hG (by omega)⟩, by rw [upd_ne hne]; exact hl2, hne, hsh⟩ (fr2.trans Fr.at)
      case' b4 => refine iteF ?_
    all_goals
      have b0 := Int.emod_nonneg c (show (2147483587 : Int) ≠ 0 by decide)
      have b1 := Int.emod_lt_of_pos c (show (0 : Int) < 2147483587 by decide)
      refine ⟨_, rfl, .inl ⟨_, rfl, _, _, rfl, rfl, (show (0 : Int) < 2147483587 by decide), _, rfl, _, _, rfl, rfl, .inl ⟨by decide, by decide⟩, _, _, rfl, rfl, _, _, rfl, rfl, _, _, rfl, rfl, ⟨by decide, by decide, by omega⟩, .inl ⟨_, rfl, _, _, rfl, rfl, (show (0 : Int) < 2147483563 by decide), ?_⟩⟩⟩
      have s0 : 0 ≤ ((c % 2147483587 + 57095 * spot + 323) ^ (5 : Int).toNat) % 2147483563 := Int.emod_nonneg _ (by decide)
      have s1 : ((c % 2147483587 + 57095 * spot + 323) ^ (5 : Int).toNat) % 2147483563 < 2147483563 := Int.emod_lt_of_pos _ (by decide)
      have hsp : spot ≤ 1000000 := by omega
      refine ⟨_, rfl, _, rfl, _, _, rfl, rfl, .inl ⟨by decide, by decide⟩, _, _, rfl, rfl, _, _, rfl, rfl, .inl ⟨by omega, by omega⟩, _, rfl, _, _, rfl, rfl, .inl ⟨by decide, by decide⟩, _, rfl, _, _, rfl, rfl, .inl ⟨by omega, by omega⟩, _, _, rfl, rfl, _, _, rfl, rfl, _, _, rfl, rfl, ⟨by decide, by decide, pw2 s0 s1 hs0 hsp⟩, .inl ⟨_, rfl, _, _, rfl, rfl, (show (0 : Int) < 2147483549 by decide), ?_⟩⟩
      refine ⟨_, rfl, _, _, rfl, rfl, ⟨by decide, by decide⟩, .inl ⟨_, rfl, _, rfl, _, _, rfl, rfl, m0, ?_⟩⟩
      exact q _ _ (Int.emod_nonneg _ (by omega)) (Int.emod_lt_of_pos _ m0) ⟨⟨spot + 1, great, hp2, by omega, by omega, hg⟩, hl2, hne, hsh⟩ fr2
end
end V8

set_option Elab.async false
set_option linter.all false
set_option maxRecDepth 100000
set_option maxHeartbeats 4000000
/-! What the law draws: a pick, letters, images, tables. -/
namespace V8
open PySem PySem.Spec PyProof.Rows L2
/-- the text of one sign; of several -/
def L1 (c : Nat) : Str := ⟨#[c]⟩
def Sx (cs : List Nat) : Str := ⟨cs.toArray⟩
theorem L1_Sx (c : Nat) : L1 c = Sx [c] := rfl
theorem L1_inj {a b : Nat} (h : L1 a = L1 b) : a = b := by
  have h1 : (#[a] : Array Nat) = #[b] := congrArg Str.cps h
  simpa using h1
theorem Sx_inj {a b : List Nat} (h : Sx a = Sx b) : a = b := by
  have h1 : a.toArray = b.toArray := congrArg Str.cps h
  simpa using h1
def isLt (c : Nat) : Prop := 97 ≤ c ∧ c ≤ 122
instance (c : Nat) : Decidable (isLt c) := inferInstanceAs (Decidable (97 ≤ c ∧ c ≤ 122))
def lets (cs : List Nat) : List V := cs.map fun c => V.str (L1 c)
theorem lets_len (cs : List Nat) : (lets cs).length = cs.length := List.length_map ..
theorem lets_erase (cs : List Nat) (k : Nat) : (lets cs).eraseIdx k = lets (cs.eraseIdx k) := by
  unfold lets
  rw [List.eraseIdx_eq_take_drop_succ, List.eraseIdx_eq_take_drop_succ, List.map_append, List.map_take, List.map_drop]
theorem lets_snoc (cs : List Nat) (c : Nat) : lets (cs ++ [c]) = lets cs ++ [V.str (L1 c)] := by
  unfold lets
  rw [List.map_append]
  rfl
/-- a thing that is new, as seen from the start, is written -/
theorem Fr.put {p a : Addr} {o : HO} {H H1 : Hp} (f : Fr p H H1) (hn : H a = none) : Fr p H (upd H1 a o) := fun b u e n => by
  rw [upd_ne (ne_of_none e hn)]
  exact f b u e n
theorem lets_mem {cs : List Nat} {v : V} (h : v ∈ lets cs) : ∃ c ∈ cs, v = .str (L1 c) := by
  obtain ⟨c, hc, e⟩ := List.mem_map.mp h
  exact ⟨c, hc, e.symm⟩
/-- a to z -/
def abc : List Nat := (List.range 26).map (· + 97)
theorem abc_len : abc.length = 26 := by decide
theorem abc_nd : abc.Nodup := by decide
theorem abc_mem {c : Nat} : c ∈ abc ↔ isLt c := by
  unfold abc isLt
  rw [List.mem_map]
  constructor
  · rintro ⟨a, ha, rfl⟩
    have := List.mem_range.mp ha
    omega
  · rintro ⟨h1, h2⟩
    exact ⟨c - 97, List.mem_range.mpr (by omega), by omega⟩
def abcS : Str := "abcdefghijklmnopqrstuvwxyz"
theorem abcS_cps : abcS.cps.toList = abc := by decide +kernel

def spPick (K : PySem.W.Frag) : Sp := fun vs H Q _ => ∃ (p l a : Addr) (ns : List Int) (n : Nat) (xs : List V), vs = [.ref p, .ref a] ∧ PenAt H p l ns (n + 1) ∧ SqL K H a xs ∧ 0 < xs.length ∧ xs.length < 1000 ∧
  (∀ H', Fr p H H' → SqL K H' a xs) ∧ ∀ (v : V) (H' : Hp), v ∈ xs → PenAt H' p l ns n → Fr p H H' → Q v H'
theorem SqL.fr {K : PySem.W.Frag} {H H' : Hp} {p a : Addr} {xs : List V} (h : SqL K H a xs) (f : Fr p H H') (ne : a ≠ p) : SqL K H' a xs :=
  h.elim (fun h => .inl (h.elim (fun h => .inl (f _ _ h ne)) fun ⟨o, h⟩ => .inr ⟨o, f _ _ h ne⟩)) fun h => .inr h
def spLetters : Sp := fun vs H Q _ => ∃ (p l : Addr) (ns : List Int) (n : Nat) (many : Nat), vs = [.ref p, .int many] ∧ PenAt H p l ns (n + many) ∧ many ≤ 26 ∧
  ∀ (D : Addr) (cs : List Nat) (H' : Hp), cs.length = many → cs.Nodup → (∀ c ∈ cs, isLt c) → PenAt H' p l ns n → Fr p H H' → H D = none → H' D = some (.lst (lets cs)) → Q (.ref D) H'
section
variable {P : Program} {w : World} {K : PySem.W.Frag} {mg : Str → Option Value} {base : Heap}
theorem ok_pick {f : Addr} {fd : FuncData} (F : Fun K "_law_pick" "_law_pick" s_pick f fd) (T : Blt mg) (D_draw : Df P w K mg base 1 "_law_draw" spDraw) : FnOk P w K mg base CX0 2 f fd ["_law_pen_here", "_law_some"] (spPick K) := by
  refine F.ok sc_pick (fun vs H Q E h => ?_) (fun cdv A outer s H vs Q E hr h => ?_)
  · obtain ⟨p, l, a, ns, n, xs, rfl, _⟩ := h
    rfl
  · obtain ⟨p, l, a, ns, n, xs, rfl, PA, hS, h0, h1, st, q⟩ := h
    refine ⟨_, (pss_one (ps_ret (pe_ix (ix_listK (K := K) rfl) (pv 1) (pe_c D_draw hr (by decide) (by rfl) (pa_cons (pv 0) (pa_cons (pe_callB (call_len_seqK (K := K) rfl) (by rfl) T.len (by decide +kernel) (pa_cons (pv 1) pa_nil)) pa_nil))) (fun _ _ => rfl)))), ?_⟩
    refine ⟨.ref a, rfl, .ref p, rfl, .ref a, rfl, a, xs, rfl, .inl hS, p, l, ns, n, _, rfl, PA, by omega, by omega, fun v H' v0 v1 PA' fr => ?_⟩
    obtain ⟨j, rfl⟩ : ∃ j : Nat, v = j := ⟨v.toNat, by omega⟩
    have hj : j < xs.length := by omega
    exact ⟨a, xs, j, xs[j], rfl, rfl, st H' fr, atI_nat (List.getElem?_eq_getElem hj), q _ _ (List.getElem_mem hj) PA' fr⟩
theorem perm_erase {got rest : List Nat} {k : Nat} {y : Nat} (hp : (got ++ rest).Perm abc) (hy : rest[k]? = some y) : ((got ++ [y]) ++ rest.eraseIdx k).Perm abc := by
  refine List.Perm.trans ?_ hp
  rw [List.append_assoc]
  refine List.Perm.append_left got ?_
  show (y :: rest.eraseIdx k).Perm rest
  obtain ⟨hk, e⟩ := List.getElem?_eq_some_iff.mp hy
  rw [List.eraseIdx_eq_take_drop_succ]
  have h2 : rest = rest.take k ++ (y :: rest.drop (k + 1)) := by
    rw [← e, ← List.drop_eq_getElem_cons hk, List.take_append_drop]
  exact (List.perm_middle.symm).trans (List.Perm.of_eq h2.symm)
end
end V8

set_option Elab.async false
set_option linter.all false
set_option maxRecDepth 100000
set_option maxHeartbeats 8000000
/-! The pen made; what is due. -/
namespace V8
open PySem PySem.Spec PyProof.Rows L2
def spPen (K : PySem.W.Frag) : Sp := fun vs H Q _ => ∃ (a : Addr) (ns : List Int), vs = [.ref a] ∧ SqL K H a (ns.map V.int) ∧ ns.length ≤ 63 ∧ ∀ (p l : Addr) (H' : Hp), H p = none → Same H H' → PenAt H' p l ns 1000000 → Q (.ref p) H'
section
variable {P : Program} {w : World} {K : PySem.W.Frag} {mg : Str → Option Value} {base : Heap} {CM CJ : Addr}
theorem ok_pen {f : Addr} {fd : FuncData} (F : Fun K "_law_pen" "_law_pen" s_pen f fd) (T : Blt mg) : FnOk P w K mg base CX0 1 f fd ["_law_script"] (spPen K) := by
  refine F.ok sc_pen (fun vs H Q E h => ?_) (fun cdv A outer s H vs Q E hr h => ?_)
  · obtain ⟨a, ns, rfl, _⟩ := h
    rfl
  · obtain ⟨a, ns, rfl, hS, hn, q⟩ := h
    refine ⟨_, (pss_one (ps_ret (pe_lst (pa_cons (pe_callTy (call_list_ofK (K := K) rfl) (by rfl) T.list (by decide +kernel) (pa_cons (pe_slice (sl_listK (K := K) rfl) (pv 0) po_none (po_some pe_int)) pa_nil)) (pa_cons pe_int (pa_cons pe_int pa_nil)))))), ?_⟩
    refine ⟨_, rfl, 63, rfl, a, ns.map V.int, rfl, hS, fun l1 n1 => ?_⟩
    have hc : cutV (ns.map V.int) none (some 63) = ns.map V.int := by
      have e : HT.sIx (ns.map V.int).length (ns.map V.int).length (some 63) = (ns.map V.int).length := by
        show HT.sIx _ _ (some ((63 : Nat) : Int)) = _
        rw [HT.sIx_nat, List.length_map]
        omega
      unfold cutV
      rw [HT.sIx_none, List.drop_zero, e]
      exact List.take_of_length_le (Nat.le_refl _)
    rw [hc]
    refine ⟨l1, ns.map V.int, rfl, .inl (SqL.of upd_same), fun l n2 => ⟨by show 3 ≤ sizeLine; decide, fun p n3 => ?_⟩⟩
    have h1 : l1 ≠ l := ne_of_none upd_same n2
    have hl : l ≠ p := ne_of_none upd_same n3
    have n2H : upd H l1 (.lst (ns.map V.int)) l = none := n2
    have sm : Same H (upd (upd (upd H l1 (.lst (ns.map V.int))) l (.lst (ns.map V.int))) p (.lst [.ref l, .int 0, .int 0])) := fun b o e => by
      have b1 := ne_of_none e n1
      have e1 : upd H l1 (.lst (ns.map V.int)) b = some o := by rw [upd_ne b1]; exact e
      have b2 := ne_of_none e1 n2
      have e2 : upd (upd H l1 (.lst (ns.map V.int))) l (.lst (ns.map V.int)) b = some o := by rw [upd_ne b2]; exact e1
      rw [upd_ne (ne_of_none e2 n3)]
      exact e2
    refine q p l _ ?_ sm ⟨⟨0, 0, upd_same, by omega, by omega, by omega⟩, by rw [upd_ne hl]; exact upd_same, hl, hn⟩
    cases e : H p with
    | none => rfl
    | some o =>
      have b1 := ne_of_none e n1
      have e1 : upd H l1 (.lst (ns.map V.int)) p = some o := by rw [upd_ne b1]; exact e
      have b2 := ne_of_none e1 n2
      rw [upd_ne b2, e1] at n3
      cases n3
end
end V8

set_option Elab.async false
set_option linter.all false
set_option maxRecDepth 100000
set_option maxHeartbeats 4000000
/-! Tables of letters and images, as the law draws them. -/
namespace V8
open PySem PySem.Spec PyProof.Rows L2
abbrev Tab := List (Nat × List Nat)
def encT (t : Tab) : List (Key × V) := t.map fun q => (Sum.inr (L1 q.1), V.str (Sx q.2))
def lookT (t : Tab) (c : Nat) : Option (List Nat) := (t.find? fun q => decide (q.1 = c)).map (·.2)
def putT (t : Tab) (c : Nat) (s : List Nat) : Tab := if (t.any fun q => decide (q.1 = c)) = true then t.map (fun q => if q.1 = c then (q.1, s) else q) else t ++ [(c, s)]
theorem encT_len (t : Tab) : (encT t).length = t.length := List.length_map ..
theorem key_dec (a c : Nat) : decide ((Sum.inr (L1 a) : Key) = Sum.inr (L1 c)) = decide (a = c) := by
  by_cases h : a = c
  · subst h
    simp
  · rw [decide_eq_false h, decide_eq_false]
    intro e
    exact h (L1_inj (Sum.inr.inj e))
theorem key_iff (a c : Nat) : ((Sum.inr (L1 a) : Key) = Sum.inr (L1 c)) ↔ a = c := by
  have := key_dec a c
  constructor
  · intro e
    exact L1_inj (Sum.inr.inj e)
  · intro e
    rw [e]
theorem valV_enc (c : Nat) : ∀ t : Tab, valV (encT t) (Sum.inr (L1 c)) = (lookT t c).map fun s => V.str (Sx s)
  | [] => rfl
  | q :: t => by
    have ih := valV_enc c t
    by_cases h : q.1 = c
    · subst h
      show valV ((Sum.inr (L1 q.1), V.str (Sx q.2)) :: encT t) _ = _
      rw [valV_pos rfl]
      simp [lookT]
    · show valV ((Sum.inr (L1 q.1), V.str (Sx q.2)) :: encT t) _ = _
      rw [valV_neg (fun e => h ((key_iff _ _).mp e)), ih]
      simp [lookT, List.find?_cons, h]
theorem any_enc (c : Nat) : ∀ t : Tab, ((encT t).any fun kv => decide (kv.1 = (Sum.inr (L1 c) : Key))) = t.any fun q => decide (q.1 = c)
  | [] => rfl
  | q :: t => by
    show (decide ((Sum.inr (L1 q.1) : Key) = Sum.inr (L1 c)) || (encT t).any _) = _
    rw [any_enc c t, key_dec]
    rfl
theorem putK_enc (t : Tab) (c : Nat) (s : List Nat) : putK (encT t) (Sum.inr (L1 c)) (V.str (Sx s)) = encT (putT t c s) := by
  unfold putK putT
  rw [any_enc]
  split
  · unfold encT
    rw [List.map_map, List.map_map]
    refine List.map_congr_left fun q _ => ?_
    show (if (Sum.inr (L1 q.1) : Key) = Sum.inr (L1 c) then _ else _) = _
    by_cases h : q.1 = c
    · rw [if_pos ((key_iff _ _).mpr h)]
      simp [h]
    · rw [if_neg (fun e => h ((key_iff _ _).mp e))]
      simp [h]
  · unfold encT
    rw [List.map_append]
    rfl
theorem keys_put {t : Tab} {c : Nat} {s : List Nat} : ∀ x ∈ putT t c s, (x ∈ t ∨ x = (c, s)) := by
  intro x hx
  unfold putT at hx
  split at hx
  · obtain ⟨q, hq, e⟩ := List.mem_map.mp hx
    by_cases h : q.1 = c
    · rw [if_pos h] at e
      rw [← e, h]
      exact .inr rfl
    · rw [if_neg h] at e
      rw [← e]
      exact .inl hq
  · rcases List.mem_append.mp hx with h | h
    · exact .inl h
    · exact .inr (List.mem_singleton.mp h)
theorem put_nd {t : Tab} {c : Nat} {s : List Nat} (h : (t.map (·.1)).Nodup) : ((putT t c s).map (·.1)).Nodup := by
  unfold putT
  split
  · rw [List.map_map]
    have e : t.map ((·.1) ∘ fun q : Nat × List Nat => if q.1 = c then (q.1, s) else q) = t.map (·.1) := List.map_congr_left fun q _ => by
      show (if q.1 = c then (q.1, s) else q).1 = q.1
      split <;> rfl
    rw [e]
    exact h
  · rename_i hn
    rw [List.map_append]
    refine List.nodup_append.mpr ⟨h, by simp, fun x hx y hy e => ?_⟩
    have ey : y = c := by simpa using hy
    obtain ⟨q, hq, eq⟩ := List.mem_map.mp hx
    refine hn (List.any_eq_true.mpr ⟨q, hq, decide_eq_true ?_⟩)
    rw [eq, e, ey]
theorem put_len (t : Tab) (c : Nat) (s : List Nat) : (putT t c s).length ≤ t.length + 1 := by
  unfold putT
  split
  · rw [List.length_map]
    omega
  · rw [List.length_append]
    exact Nat.le_refl _
/-- an image that may be told -/
def GoodI (cs s : List Nat) : Prop := 1 ≤ s.length ∧ s.length ≤ 4 ∧ ∀ d ∈ s, d ∈ cs
structure GoodT (cs : List Nat) (t : Tab) : Prop where
  nd : (t.map (·.1)).Nodup
  key : ∀ q ∈ t, q.1 ∈ cs
  img : ∀ q ∈ t, GoodI cs q.2
theorem GoodT.nil {cs : List Nat} : GoodT cs [] := by
  refine ⟨List.nodup_nil, fun q h => ?_, fun q h => ?_⟩
  · cases h
  · cases h
theorem GoodT.put {cs : List Nat} {t : Tab} {c : Nat} {s : List Nat} (g : GoodT cs t) (hc : c ∈ cs) (hs : GoodI cs s) : GoodT cs (putT t c s) := by
  refine ⟨put_nd g.nd, fun q hq => ?_, fun q hq => ?_⟩
  · rcases keys_put q hq with h | rfl
    · exact g.key q h
    · exact hc
  · rcases keys_put q hq with h | rfl
    · exact g.img q h
    · exact hs
/-- joined signs -/
theorem join_L1 : ∀ cs : List Nat, Txt.join Str.empty (cs.map L1) = Sx cs := by
  intro cs
  rw [TL.join_eq]
  have h : TL.tl (Str.join Str.empty (cs.map L1)) = cs := by
    rw [TL.tl_join]
    have : ∀ l : List Nat, TL.joinL (TL.tl Str.empty) ((l.map L1).map TL.tl) = l := by
      intro l
      induction l with
      | nil => rfl
      | cons c r ih =>
        cases r with
        | nil => rfl
        | cons d r =>
          show TL.tl (L1 c) ++ (TL.tl Str.empty ++ TL.joinL (TL.tl Str.empty) ((((d :: r).map L1).map TL.tl))) = _
          rw [ih]
          rfl
    exact this cs
  have e2 : (Str.join Str.empty (cs.map L1)).cps.toList = cs := h
  show Str.join Str.empty (cs.map L1) = Sx cs
  unfold Sx
  cases hx : Str.join Str.empty (cs.map L1) with
  | mk a =>
    rw [hx] at e2
    have : a.toList = cs := e2
    rw [← this]
theorem sum_ones : ∀ l : List Nat, (l.map fun _ => 1).sum = l.length
  | [] => rfl
  | a :: r => by
    rw [List.map_cons, List.sum_cons, sum_ones r, List.length_cons]
    omega
theorem Sx_len (cs : List Nat) : (Sx cs).length = cs.length := by
  show cs.toArray.size = cs.length
  simp
def spImage : Sp := fun vs H Q _ => ∃ (p l a : Addr) (ns : List Int) (n : Nat) (cs : List Nat), vs = [.ref p, .ref a] ∧ PenAt H p l ns (n + 5) ∧ H a = some (.lst (lets cs)) ∧ a ≠ p ∧ cs ≠ [] ∧ cs.length ≤ 26 ∧ (∀ c ∈ cs, isLt c) ∧
  ∀ (s : List Nat) (H' : Hp), GoodI cs s → PenAt H' p l ns n → Fr p H H' → Q (.str (Sx s)) H'
def spTab (cost : Nat) : Sp := fun vs H Q _ => ∃ (p l a : Addr) (ns : List Int) (n : Nat) (cs : List Nat), vs = [.ref p, .ref a] ∧ PenAt H p l ns (n + cost) ∧ H a = some (.lst (lets cs)) ∧ a ≠ p ∧ cs ≠ [] ∧ cs.Nodup ∧ cs.length ≤ 26 ∧ (∀ c ∈ cs, isLt c) ∧
  ∀ (d : Addr) (t : Tab) (H' : Hp), GoodT cs t → PenAt H' p l ns n → Fr p H H' → H d = none → H' d = some (.dK (encT t)) → Q (.ref d) H'
theorem Fr.back {p q : Addr} {H H1 : Hp} (f : Fr p H H1) (hn : H1 q = none) (hp : q ≠ p) : H q = none := by
  cases e : H q with
  | none => rfl
  | some o =>
    rw [f _ _ e hp] at hn
    cases hn
theorem PenAt.nep {H : Hp} {p l q : Addr} {ns : List Int} {n : Nat} (P : PenAt H p l ns n) (h : H q = none) : q ≠ p := by
  intro e
  subst e
  exact P.some' h
theorem PenAt.nel {H : Hp} {p l q : Addr} {ns : List Int} {n : Nat} (P : PenAt H p l ns n) (h : H q = none) : q ≠ l := by
  intro e
  subst e
  rw [P.nums] at h
  cases h
section
variable {P : Program} {w : World} {K : PySem.W.Frag} {mg : Str → Option Value} {base : Heap}
end
end V8

set_option Elab.async false
set_option linter.all false
set_option maxRecDepth 100000
set_option maxHeartbeats 4000000
namespace V8
open PySem PySem.Spec PyProof.Rows L2
theorem app_Sx (a : Nat) (s : List Nat) : L1 a ++ Sx s = Sx (a :: s) := by
  show Str.append _ _ = _
  unfold Sx L1
  show (⟨#[a] ++ s.toArray⟩ : Str) = ⟨(a :: s).toArray⟩
  congr 1
  simp
section
variable {P : Program} {w : World} {K : PySem.W.Frag} {mg : Str → Option Value} {base : Heap}
theorem lets_get {cs : List Nat} {i : Nat} {x : V} (h : (lets cs)[i]? = some x) : ∃ hi : i < cs.length, x = .str (L1 cs[i]) := by
  unfold lets at h
  rw [List.getElem?_map] at h
  cases e : cs[i]? with
  | none =>
    rw [e] at h
    cases h
  | some c =>
    obtain ⟨hi, ec⟩ := List.getElem?_eq_some_iff.mp e
    rw [e] at h
    exact ⟨hi, by rw [ec]; exact (Option.some.inj h).symm⟩
theorem lets_at {cs : List Nat} {j : Nat} (hj : j < cs.length) : (lets cs)[j]? = some (.str (L1 cs[j])) := by
  unfold lets
  rw [List.getElem?_map, List.getElem?_eq_getElem hj]
  rfl
theorem seq_ix {j n : Nat} (h : j < n) : seqIndex? (j : Int) n = some j := by
  unfold seqIndex?
  simp
  omega
theorem erase_len {xs : List Nat} {k : Nat} (h : k < xs.length) : (xs.eraseIdx k).length = xs.length - 1 := List.length_eraseIdx_of_lt h
theorem goodI1 {cs : List Nat} {a : Nat} (h : a ∈ cs) : GoodI cs [a] := ⟨Nat.le_refl _, by show 1 ≤ 4; decide, fun x hx => by rw [List.mem_singleton.mp hx]; exact h⟩
theorem goodI2 {cs : List Nat} {a b : Nat} (h : a ∈ cs) (h' : b ∈ cs) : GoodI cs [a, b] := by
  refine ⟨by show 1 ≤ 2; decide, by show 2 ≤ 4; decide, fun x hx => ?_⟩
  rcases List.mem_cons.mp hx with e | hx
  · rw [e]
    exact h
  · rw [List.mem_singleton.mp hx]
    exact h'
end
end V8

set_option Elab.async false
set_option linter.all false
set_option maxRecDepth 100000
set_option maxHeartbeats 8000000
namespace V8
open PySem PySem.Spec PyProof.Rows L2
theorem nd_len : ∀ {a b : List Nat}, a.Nodup → (∀ x ∈ a, x ∈ b) → a.length ≤ b.length
  | [], _, _, _ => Nat.zero_le _
  | x :: a, b, h, hs => by
    have hx : x ∈ b := hs x (List.mem_cons_self ..)
    have h1 := List.nodup_cons.mp h
    have ih := nd_len (a := a) (b := b.erase x) h1.2 fun y hy => by
      have hne : y ≠ x := fun e => h1.1 (e ▸ hy)
      exact (List.mem_erase_of_ne hne).mpr (hs y (List.mem_cons_of_mem _ hy))
    rw [List.length_erase_of_mem hx] at ih
    have : 0 < b.length := List.length_pos_of_mem hx
    rw [List.length_cons]
    omega
theorem GoodT.len {cs : List Nat} {t : Tab} (g : GoodT cs t) : t.length ≤ cs.length := by
  have := nd_len g.nd fun x hx => by
    obtain ⟨q, hq, rfl⟩ := List.mem_map.mp hx
    exact g.key q hq
  rw [List.length_map] at this
  exact this
def mergeT (a b : Tab) : Tab := b.foldl (fun acc q => putT acc q.1 q.2) a
theorem mergeK_enc : ∀ (b a : Tab), mergeK (encT a) (encT b) = encT (mergeT a b)
  | [], _ => rfl
  | q :: b, a => by
    show mergeK (putK (encT a) (Sum.inr (L1 q.1)) (V.str (Sx q.2))) (encT b) = _
    rw [putK_enc, mergeK_enc b]
    rfl
theorem GoodT.merge {cs : List Nat} : ∀ {b a : Tab}, GoodT cs a → (∀ q ∈ b, q.1 ∈ cs ∧ GoodI cs q.2) → GoodT cs (mergeT a b)
  | [], _, g, _ => g
  | q :: b, a, g, h => by
    have h1 := h q (List.mem_cons_self ..)
    exact GoodT.merge (b := b) (a := putT a q.1 q.2) (g.put h1.1 h1.2) fun x hx => h x (List.mem_cons_of_mem _ hx)
/-- tuples of a letter and its image stand at ps -/
def PairsAt (H : Hp) (ps : List Addr) (t : Tab) : Prop := Paired (fun b (q : Nat × List Nat) => H b = some (.tup [V.str (L1 q.1), V.str (Sx q.2)])) ps t
theorem PairsAt.mono {H H' : Hp} {ps : List Addr} {t : Tab} (h : PairsAt H ps t) (k : ∀ b xs, H b = some (.tup xs) → H' b = some (.tup xs)) : PairsAt H' ps t := Paired.mapP h fun _ _ e => k _ _ e
theorem PairsAt.snoc {H : Hp} : ∀ {ps : List Addr} {t : Tab} {b : Addr} {q : Nat × List Nat}, PairsAt H ps t → H b = some (.tup [V.str (L1 q.1), V.str (Sx q.2)]) → PairsAt H (ps ++ [b]) (t ++ [q])
  | _, _, _, _, .nil, e => .cons e .nil
  | _, _, _, _, .cons h r, e => .cons h (PairsAt.snoc r e)
theorem PairsAt.sq {K : PySem.W.Frag} {H : Hp} : ∀ {ps : List Addr} {t : Tab}, PairsAt H ps t → Paired (fun p (kv : Key × V) => SqT K H p [kV kv.1, kv.2]) ps (encT t)
  | _, _, .nil => .nil
  | _, _, .cons h r => .cons (.inl (.inl h)) (PairsAt.sq r)
theorem PairsAt.len {H : Hp} {ps : List Addr} {t : Tab} (h : PairsAt H ps t) : ps.length = t.length := Paired.length h
theorem tup_fr {p : Addr} {xs : List V} {H H' : Hp} (f : Fr p H H') (hp : H p = some (.lst xs)) : ∀ b ys, H b = some (.tup ys) → H' b = some (.tup ys) := fun b ys e => f b _ e (ne_of e hp (fun z => nomatch z))
theorem tup_upd {D : Addr} {xs : List V} {o : HO} {H : Hp} (hp : H D = some (.lst xs)) : ∀ b ys, H b = some (.tup ys) → upd H D o b = some (.tup ys) := fun b ys e => by
  rw [upd_ne (ne_of e hp (fun z => nomatch z))]
  exact e
theorem tup_new {q : Addr} {o : HO} {H : Hp} (hp : H q = none) : ∀ b ys, H b = some (.tup ys) → upd H q o b = some (.tup ys) := fun b ys e => by
  rw [upd_ne (ne_of_none e hp)]
  exact e
theorem PenAt.pen {H : Hp} {p l : Addr} {ns : List Int} {n : Nat} (P : PenAt H p l ns n) : ∃ xs, H p = some (.lst xs) := by
  obtain ⟨⟨s, g, h1, _⟩, _⟩ := P
  exact ⟨_, h1⟩
theorem enc_at {t : Tab} {i : Nat} {k : Key} {v : V} (h : (encT t)[i]? = some (k, v)) : ∃ hi : i < t.length, k = Sum.inr (L1 t[i].1) ∧ v = V.str (Sx t[i].2) := by
  unfold encT at h
  rw [List.getElem?_map] at h
  cases e : t[i]? with
  | none =>
    rw [e] at h
    cases h
  | some c =>
    obtain ⟨hi, ec⟩ := List.getElem?_eq_some_iff.mp e
    rw [e] at h
    have h' := Option.some.inj h
    refine ⟨hi, ?_, ?_⟩
    · rw [ec]
      exact (congrArg Prod.fst h').symm
    · rw [ec]
      exact (congrArg Prod.snd h').symm
theorem look_at : ∀ {t : Tab} {i : Nat}, (t.map (·.1)).Nodup → ∀ hi : i < t.length, lookT t t[i].1 = some t[i].2
  | [], i, _, hi => absurd hi (Nat.not_lt_zero _)
  | q :: t, 0, _, _ => by
    unfold lookT
    simp
  | q :: t, i + 1, h, hi => by
    have hi' : i < t.length := by simpa using hi
    have h1 := List.nodup_cons.mp (by simpa using h : (q.1 :: t.map (·.1)).Nodup)
    have hne : ¬ q.1 = t[i].1 := fun e => h1.1 (e ▸ List.mem_map_of_mem (List.getElem_mem hi'))
    have ih := look_at (t := t) (i := i) h1.2 hi'
    show lookT (q :: t) t[i].1 = some t[i].2
    unfold lookT at ih ⊢
    rw [List.find?_cons_of_neg (by simpa using hne)]
    exact ih
section
variable {P : Program} {w : World} {K : PySem.W.Frag} {mg : Str → Option Value} {base : Heap}
end
end V8

set_option Elab.async false
set_option linter.all false
set_option maxRecDepth 100000
set_option maxHeartbeats 4000000
/-! ~ by an own __invert__. -/
namespace L2
open PySem PySem.Spec PyProof.Rows
theorem un_invO {X : Cx} {k j : Nat} {C : Addr} {sp : Sp} (c : Mf X.prog X.w X.K X.mg X.base k C "__invert__" sp) (hr : Room j X.A) (hk : k ≤ j) : UnR X (unaryOp .Invert) (fun x H Q => ∃ a dx fs, x = .ref a ∧ H a = some (.ins C dx fs) ∧ sp [.ref a] H Q E0) := by
  obtain ⟨f, fd, ps, F, _, o, _, b⟩ := c.ex
  intro pins s σ H x v Q I rx h
  obtain ⟨a, dx, fs, rfl, ha, hs⟩ := h
  cases rx
  obtain ⟨od, J⟩ := inst_at I ha
  obtain ⟨m, hF⟩ := I.fr
  exact PySem.W.ksp_inv hF I.ok.mod.kin J o.find o.fn (run_own (Sub.here (hr.mono hk)) F b pass0 I (show Vals [V.ref a] [Value.ref a] from .cons rfl .nil) hs)
end L2

set_option Elab.async false
set_option linter.all false
set_option maxRecDepth 100000
set_option maxHeartbeats 8000000
/-! What is general, of letters, texts and tables. -/
namespace V8
open PySem PySem.Spec PyProof.Rows L2
def spIsLetter (K : PySem.W.Frag) : Sp := fun vs H Q _ => ∃ x, vs = [x] ∧ ((∃ c, x = .str (L1 c) ∧ Q (.bl (decide (c ∈ abc))) H) ∨ (∃ z, x = .str z ∧ z.length ≤ sizeLine ∧ z.length ≠ 1 ∧ Q (.bl false) H) ∨ (∃ t, TyX K H x t ∧ PySem.W.kitOne K t (.type "str") = some false ∧ Q (.bl false) H))
theorem dec_t {p : Prop} [Decidable p] (h : p) : V.bl (decide p) = V.bl true := by rw [decide_eq_true h]
theorem dec_f {p : Prop} [Decidable p] (h : ¬ p) : V.bl (decide p) = V.bl false := by rw [decide_eq_false h]
theorem ty_str {K : PySem.W.Frag} {H : Hp} (z : Str) : TyX K H (.str z) (.type "str") := .base (.str z)
theorem look_in : ∀ {t : Tab} {c : Nat} {s : List Nat}, lookT t c = some s → (c, s) ∈ t := by
  intro t c s h
  unfold lookT at h
  cases e : t.find? (fun q => decide (q.1 = c)) with
  | none =>
    rw [e] at h
    cases h
  | some q =>
    rw [e] at h
    have h1 := List.find?_some e
    have h2 := List.mem_of_find?_eq_some e
    have h3 : q.1 = c := by simpa using h1
    have h4 : q.2 = s := by simpa using h
    rw [← h3, ← h4]
    exact h2
theorem Same.upd_back {H : Hp} {d : Addr} {o u : HO} (h : H d = some u) : upd (upd H d o) d u = H := by
  rw [upd_upd]
  funext b
  by_cases hb : b = d
  · rw [hb, upd_same, h]
  · rw [upd_ne hb]
theorem lookT_map (f : Nat → List Nat) (c : Nat) : ∀ ks : List Nat, lookT (ks.map fun c => (c, f c)) c = if c ∈ ks then some (f c) else none
  | [] => by rw [if_neg List.not_mem_nil]; rfl
  | k :: ks => by
    have ih := lookT_map f c ks
    unfold lookT at ih ⊢
    rw [List.map_cons, List.find?_cons]
    by_cases h : k = c
    · subst h
      simp
    · simp only [h, decide_false]
      have e : (c ∈ k :: ks) ↔ c ∈ ks := by
        simp [Ne.symm h]
      rw [ih]
      by_cases h2 : c ∈ ks
      · rw [if_pos h2, if_pos (e.mpr h2)]
      · rw [if_neg h2, if_neg (fun z => h2 (e.mp z))]
abbrev Fu := Nat → Option (List Nat)
def imF (f : Fu) : List Nat → Option (List Nat)
  | [] => some []
  | c :: cs => (f c).bind fun a => (imF f cs).map (a ++ ·)
theorem sum_le (f : Str → Nat) (k : Nat) : ∀ l : List Str, (∀ x ∈ l, f x ≤ k) → (l.map f).sum ≤ k * l.length
  | [], _ => Nat.le_refl _
  | a :: r, h => by
    rw [List.map_cons, List.sum_cons, List.length_cons]
    have h1 := h a (List.mem_cons_self ..)
    have h2 := sum_le f k r fun x hx => h x (List.mem_cons_of_mem _ hx)
    rw [Nat.mul_succ]
    omega
theorem ok_sx {cs : List Nat} (h : ∀ c ∈ cs, isLt c) : PyData.strOk (Sx cs) = true := by
  have e : (Sx cs).cps = cs.toArray := rfl
  unfold PyData.strOk
  rw [e, List.all_toArray, List.all_eq_true]
  intro c hc
  have := (h c hc).2
  exact decide_eq_true (show c < 0x110000 by omega)
theorem join_Sx : ∀ ss : List (List Nat), Txt.join Str.empty (ss.map Sx) = Sx ss.flatten := by
  intro ss
  rw [TL.join_eq]
  have h : TL.tl (Str.join Str.empty (ss.map Sx)) = ss.flatten := by
    rw [TL.tl_join]
    have : ∀ l : List (List Nat), TL.joinL (TL.tl Str.empty) ((l.map Sx).map TL.tl) = l.flatten := by
      intro l
      induction l with
      | nil => rfl
      | cons c r ih =>
        cases r with
        | nil =>
          show TL.tl (Sx c) = [c].flatten
          simp
          rfl
        | cons d r =>
          show TL.tl (Sx c) ++ (TL.tl Str.empty ++ TL.joinL (TL.tl Str.empty) ((((d :: r).map Sx).map TL.tl))) = _
          rw [ih]
          rfl
    exact this ss
  have e2 : (Str.join Str.empty (ss.map Sx)).cps.toList = ss.flatten := h
  show Str.join Str.empty (ss.map Sx) = Sx _
  unfold Sx at e2 ⊢
  cases hx : Str.join Str.empty (ss.map fun cs => (⟨cs.toArray⟩ : Str)) with
  | mk a =>
    rw [hx] at e2
    have e3 : a.toList = ss.flatten := e2
    rw [← e3]
end V8

set_option Elab.async false
set_option linter.all false
set_option maxRecDepth 100000
set_option maxHeartbeats 8000000
/-! Values of any kind copied. -/
namespace V8
open PySem PySem.Spec PyProof.Rows L2
abbrev s_copied : Stmt := topS 1
abbrev n_copied : List Str := ["value", "part", "key"]
theorem sc_copied : FnScope ["value", "part", "key"] ["value"] (defScope s_copied) := ⟨rfl, rfl, rfl, by decide +kernel, rfl, by decide +kernel, by decide +kernel⟩
theorem same_put {H H' : Hp} {D : Addr} {o : HO} (s : Same H H') (n : H' D = none) : Same H (upd H' D o) := fun b u e => by
  rw [upd_ne (ne_of_none (s b u e) n)]
  exact s b u e
theorem same_none {H H' : Hp} {D : Addr} (s : Same H H') (n : H' D = none) : H D = none := by
  cases e : H D with
  | none => rfl
  | some o =>
    rw [s _ _ e] at n
    cases n
theorem valV_at : ∀ {kvs : List (Key × V)} {i : Nat} {k : Key} {v : V}, (kvs.map (·.1)).Nodup → kvs[i]? = some (k, v) → valV kvs k = some v
  | [], i, k, v, _, h => by simp at h
  | p :: r, 0, k, v, _, h => by
    obtain rfl : p = (k, v) := by simpa using h
    simp [valV]
  | p :: r, i + 1, k, v, nd, h => by
    have h2 : r[i]? = some (k, v) := by simpa using h
    have nd2 := List.nodup_cons.mp (by simpa using nd : (p.1 :: r.map (·.1)).Nodup)
    have ne : ¬ p.1 = k := fun z => nd2.1 (z ▸ List.mem_map.mpr ⟨(k, v), List.mem_of_getElem? h2, rfl⟩)
    have ih := valV_at nd2.2 h2
    unfold valV at ih ⊢
    rw [List.find?_cons_of_neg (by simpa using ne)]
    exact ih
theorem not_take {kvs : List (Key × V)} {i : Nat} {k : Key} {v : V} (nd : (kvs.map (·.1)).Nodup) (h : kvs[i]? = some (k, v)) : k ∉ (kvs.take i).map (·.1) := by
  obtain ⟨hi, e⟩ := List.getElem?_eq_some_iff.mp h
  intro z
  rw [← List.take_append_drop i kvs, List.map_append, List.drop_eq_getElem_cons hi, e, List.map_cons] at nd
  exact (List.nodup_append.mp nd).2.2 _ z _ List.mem_cons_self rfl
/-- names that the text does not take -/
structure Tq (mg : Str → Option Value) : Prop extends Blt mg where
  isinstance : mg "isinstance" = none
  repr : mg "repr" = none
  enumerate : mg "enumerate" = none
/-- no list, tuple, dict, object -/
def Flat (x : V) : Prop := (∃ z, x = .str z) ∨ (∃ i, x = .int i) ∨ x = .non ∨ ∃ b, x = .bl b
theorem Flat.ty {K : PySem.W.Frag} {x : V} (f : Flat x) : ∃ t, (∀ H : Hp, TyX K H x t) ∧ PySem.W.kitOne K t (.type "list") = some false ∧ PySem.W.kitOne K t (.type "tuple") = some false ∧ PySem.W.kitOne K t (.type "dict") = some false := by
  rcases f with ⟨z, rfl⟩ | ⟨i, rfl⟩ | rfl | ⟨b, rfl⟩
  · exact ⟨_, fun _ => ty_str _, kit_ty (by decide +kernel), kit_ty (by decide +kernel), kit_ty (by decide +kernel)⟩
  · exact ⟨_, fun _ => .base (.int i), kit_ty (by decide +kernel), kit_ty (by decide +kernel), kit_ty (by decide +kernel)⟩
  · exact ⟨_, fun _ => .base .non, kit_ty (by decide +kernel), kit_ty (by decide +kernel), kit_ty (by decide +kernel)⟩
  · exact ⟨_, fun _ => .base (.bl b), kit_ty (by decide +kernel), kit_ty (by decide +kernel), kit_ty (by decide +kernel)⟩
theorem Flat.pyw {H H2 : Hp} {x : V} {d : PyData} (f : Flat x) (p : PyW H x d) : PyW H2 x d := by
  rcases f with ⟨z, rfl⟩ | ⟨i, rfl⟩ | rfl | ⟨b, rfl⟩ <;> cases p <;> constructor
theorem flats_pyw {H H2 : Hp} : ∀ {xs : List V} {ds : List PyData}, (∀ y ∈ xs, Flat y) → PyWs H xs ds → PyWs H2 xs ds
  | _, _, _, .nil => .nil
  | _, _, f, .cons h r => .cons ((f _ (List.mem_cons_self ..)).pyw h) (flats_pyw (fun y hy => f y (List.mem_cons_of_mem _ hy)) r)
/-- a flat value is handed back as it is -/
def spCopied (K : PySem.W.Frag) : Sp := fun vs H Q _ => ∃ (x : V) (t : Value), vs = [x] ∧ TyX K H x t ∧ PySem.W.kitOne K t (.type "list") = some false ∧ PySem.W.kitOne K t (.type "tuple") = some false ∧ PySem.W.kitOne K t (.type "dict") = some false ∧ Q x H
/-- flat, or a tuple, list or dict of such -/
def Told2 (H : Hp) (x : V) : Prop := Flat x ∨ (∃ a xs, x = .ref a ∧ (H a = some (.tup xs) ∨ H a = some (.lst xs)) ∧ xs.length ≤ 100 ∧ ∀ y ∈ xs, Flat y) ∨ ∃ a kvs, x = .ref a ∧ H a = some (.dK kvs) ∧ kvs.length ≤ 15 ∧ (kvs.map (·.1)).Nodup ∧ ∀ y ∈ kvs.map (·.2), Flat y
theorem Told2.same {H H2 : Hp} {x : V} (t : Told2 H x) (s : Same H H2) : Told2 H2 x := by
  rcases t with f | ⟨a, xs, e, h, l, g⟩ | ⟨a, kvs, e, h, l, n, g⟩
  · exact .inl f
  · exact .inr (.inl ⟨a, xs, e, h.imp (s _ _) (s _ _), l, g⟩)
  · exact .inr (.inr ⟨a, kvs, e, s _ _ h, l, n, g⟩)
theorem putK_new {kvs : List (Key × V)} {k : Key} {v : V} (h : k ∉ kvs.map (·.1)) : putK kvs k v = kvs ++ [(k, v)] := by
  unfold putK
  rw [if_neg]
  intro z
  obtain ⟨p, hp, e⟩ := List.any_eq_true.mp z
  have e2 : p.1 = k := by simpa using e
  exact h (e2 ▸ List.mem_map.mpr ⟨p, hp, rfl⟩)
def spCopyW : Sp := fun vs H Q _ => ∃ (x : V) (d : PyData), vs = [x] ∧ Told2 H x ∧ PyW H x d ∧ ∀ y H', Same H H' → PyW H' y d → Q y H'
section
variable {P : Program} {w : World} {K : PySem.W.Frag} {mg : Str → Option Value} {base : Heap}
theorem ok_copied {f : Addr} {fd : FuncData} (F : Fun K "copied" "copied" s_copied f fd) (T : Tq mg) (D_copied : Df P w K mg base 0 "copied" fun _ _ _ _ => False) : FnOk P w K mg base CX0 1 f fd ["value"] (spCopied K) := by
  refine F.ok sc_copied (fun vs H Q E h => ?_) (fun cdv A outer s H vs Q E hr h => ?_)
  · obtain ⟨x, t, rfl, _⟩ := h
    rfl
  · obtain ⟨x, t, rfl, ty, e1, e2, e3, q⟩ := h
    refine ⟨_, (pss_cons (ps_if (pt_val (pe_callB call_isi (by rfl) T.isinstance (by decide +kernel) (pa_cons (pv 0) (pa_cons (pe_bltn (v := .ty "list") (by rfl) T.list (by decide +kernel) rfl) pa_nil))))
        (pss_one (ps_ret (pe_lc (own := [("part", 1)]) (g := gName 1) (by rfl) sc_copied.nd (pi_list (pv 0)) (blkOk_by (own := [("part", 1)]) (N := n_copied) (sc := defScope s_copied) (by decide +kernel)) (fun _ _ _ _ _ => (pg_name (i := 1) sc_copied.nd rfl (.inl rfl))) (fun _ _ _ _ _ => pts_nil) (fun _ _ _ _ _ => (pe_c D_copied hr (by decide) (by rfl) (pa_cons (pv 1) pa_nil))))))
        pss_nil)
      (pss_cons (ps_if (pt_val (pe_callB call_isi (by rfl) T.isinstance (by decide +kernel) (pa_cons (pv 0) (pa_cons (pe_bltn (v := .ty "tuple") (by rfl) T.tuple (by decide +kernel) rfl) pa_nil))))
        (pss_one (ps_ret (pe_callTy (call_tuple_ofK (K := K) rfl) (by rfl) T.tuple (by decide +kernel) (pa_cons (pe_lc (own := [("part", 1)]) (g := gName 1) (by rfl) sc_copied.nd (pi_tup (pv 0)) (blkOk_by (own := [("part", 1)]) (N := n_copied) (sc := defScope s_copied) (by decide +kernel)) (fun _ _ _ _ _ => (pg_name (i := 1) sc_copied.nd rfl (.inl rfl))) (fun _ _ _ _ _ => pts_nil) (fun _ _ _ _ _ => (pe_c D_copied hr (by decide) (by rfl) (pa_cons (pv 1) pa_nil)))) pa_nil))))
        pss_nil)
      (pss_cons (ps_if (pt_val (pe_callB call_isi (by rfl) T.isinstance (by decide +kernel) (pa_cons (pv 0) (pa_cons (pe_bltn (v := .ty "dict") (by rfl) T.dict (by decide +kernel) rfl) pa_nil))))
        (pss_one (ps_ret (pe_lock (pe_dc (own := [("key", 2)]) (g := gName 2) (by rfl) sc_copied.nd (pi_keys (pv 0)) (blkOk_by (own := [("key", 2)]) (N := n_copied) (sc := defScope s_copied) (by decide +kernel)) (fun _ _ _ _ _ => (pg_name (i := 2) sc_copied.nd rfl (.inl rfl))) (fun _ _ _ _ _ => pts_nil) (fun _ _ _ _ _ => (pv 2)) (fun _ _ _ _ _ => (pe_c D_copied hr (by decide) (by rfl) (pa_cons (pe_dget (hu_of hr) (pv 0) (pv 2) (fun _ _ => rfl)) pa_nil)))))))
        pss_nil)
      (pss_one (ps_ret (pv 0)))))), ?_⟩
    refine ⟨_, rfl, _, .ty "list", t, .type "list", false, rfl, .ty _, ty, e1, false, rfl, iteF ?_⟩
    refine ⟨_, rfl, _, .ty "tuple", t, .type "tuple", false, rfl, .ty _, ty, e2, false, rfl, iteF ?_⟩
    refine ⟨_, rfl, _, .ty "dict", t, .type "dict", false, rfl, .ty _, ty, e3, false, rfl, iteF ?_⟩
    exact ⟨_, rfl, q⟩
theorem ok_copyW {f : Addr} {fd : FuncData} (F : Fun K "copied" "copied" s_copied f fd) (T : Tq mg) (D_copied : Df P w K mg base 1 "copied" (spCopied K)) : FnOk P w K mg base CX0 2 f fd ["value"] spCopyW := by
  refine F.ok sc_copied (fun vs H Q E h => ?_) (fun cdv A outer s H vs Q E hr h => ?_)
  · obtain ⟨x, d, rfl, _⟩ := h
    rfl
  · obtain ⟨x, d, rfl, tl, pv0, q⟩ := h
    refine ⟨_, (pss_cons (ps_if (pt_val (pe_callB call_isi (by rfl) T.isinstance (by decide +kernel) (pa_cons (pv 0) (pa_cons (pe_bltn (v := .ty "list") (by rfl) T.list (by decide +kernel) rfl) pa_nil))))
        (pss_one (ps_ret (pe_lc (own := [("part", 1)]) (g := gName 1) (by rfl) sc_copied.nd (pi_list (pv 0)) (blkOk_by (own := [("part", 1)]) (N := n_copied) (sc := defScope s_copied) (by decide +kernel)) (fun _ _ _ _ _ => (pg_name (i := 1) sc_copied.nd rfl (.inl rfl))) (fun _ _ _ _ _ => pts_nil) (fun _ _ _ _ _ => (pe_c D_copied hr (by decide) (by rfl) (pa_cons (pv 1) pa_nil))))))
        pss_nil)
      (pss_cons (ps_if (pt_val (pe_callB call_isi (by rfl) T.isinstance (by decide +kernel) (pa_cons (pv 0) (pa_cons (pe_bltn (v := .ty "tuple") (by rfl) T.tuple (by decide +kernel) rfl) pa_nil))))
        (pss_one (ps_ret (pe_callTy (call_tuple_ofK (K := K) rfl) (by rfl) T.tuple (by decide +kernel) (pa_cons (pe_lc (own := [("part", 1)]) (g := gName 1) (by rfl) sc_copied.nd (pi_tup (pv 0)) (blkOk_by (own := [("part", 1)]) (N := n_copied) (sc := defScope s_copied) (by decide +kernel)) (fun _ _ _ _ _ => (pg_name (i := 1) sc_copied.nd rfl (.inl rfl))) (fun _ _ _ _ _ => pts_nil) (fun _ _ _ _ _ => (pe_c D_copied hr (by decide) (by rfl) (pa_cons (pv 1) pa_nil)))) pa_nil))))
        pss_nil)
      (pss_cons (ps_if (pt_val (pe_callB call_isi (by rfl) T.isinstance (by decide +kernel) (pa_cons (pv 0) (pa_cons (pe_bltn (v := .ty "dict") (by rfl) T.dict (by decide +kernel) rfl) pa_nil))))
        (pss_one (ps_ret (pe_lock (pe_dc (own := [("key", 2)]) (g := gName 2) (by rfl) sc_copied.nd (pi_keys (pv 0)) (blkOk_by (own := [("key", 2)]) (N := n_copied) (sc := defScope s_copied) (by decide +kernel)) (fun _ _ _ _ _ => (pg_name (i := 2) sc_copied.nd rfl (.inl rfl))) (fun _ _ _ _ _ => pts_nil) (fun _ _ _ _ _ => (pv 2)) (fun _ _ _ _ _ => (pe_c D_copied hr (by decide) (by rfl) (pa_cons (pe_dget (hu_of hr) (pv 0) (pv 2) (fun _ _ => rfl)) pa_nil)))))))
        pss_nil)
      (pss_one (ps_ret (pv 0)))))), ?_⟩
    rcases tl with f | ⟨a, xs, rfl, ha | ha, l, fl⟩ | ⟨a, kvs, rfl, ha, l, nd, fl⟩
    · obtain ⟨t, ty, e1, e2, e3⟩ := f.ty (K := K)
      refine ⟨_, rfl, _, .ty "list", t, .type "list", false, rfl, .ty _, ty _, e1, false, rfl, iteF ?_⟩
      refine ⟨_, rfl, _, .ty "tuple", t, .type "tuple", false, rfl, .ty _, ty _, e2, false, rfl, iteF ?_⟩
      refine ⟨_, rfl, _, .ty "dict", t, .type "dict", false, rfl, .ty _, ty _, e3, false, rfl, iteF ?_⟩
      exact ⟨_, rfl, q _ _ (Same.refl H) pv0⟩
    · refine ⟨_, rfl, _, .ty "list", .type "tuple", .type "list", false, rfl, .ty _, .base (.tup ha), kit_ty (by decide +kernel), false, rfl, iteF ?_⟩
      refine ⟨_, rfl, _, .ty "tuple", .type "tuple", .type "tuple", true, rfl, .ty _, .base (.tup ha), kit_ty (by decide +kernel), true, rfl, iteT ?_⟩
      refine ⟨_, rfl, a, rfl, ⟨_, .inl (.inl ha)⟩, fun D nD => lc_it (walk_tup (K := K) (a := a) (xs := xs)) (fun i H2 => H2 = upd H D (.lst (xs.take i))) rfl ?_ ?_ ?_⟩
      · rintro i H2 hi rfl
        exact .inl (.inl (by rw [upd_ne (ne_of_none ha nD)]; exact ha))
      · rintro i y H2 H3 hi rfl ⟨rfl, hy⟩
        obtain ⟨hi', ey⟩ := List.getElem?_eq_some_iff.mp hy
        obtain ⟨t, ty, e1, e2, e3⟩ := (fl y (ey ▸ List.getElem_mem hi')).ty (K := K)
        refine ⟨rfl, _, rfl, y, t, rfl, ty _, e1, e2, e3, _, upd_same, ?_, ?_⟩
        · rw [List.length_take, sizeLine_eq]
          omega
        · rw [upd_upd, List.take_add_one, hy]
          rfl
      · rintro H2 rfl
        rw [List.take_length]
        refine ⟨D, xs, rfl, .inl ⟨SqL.of upd_same, fun b nb => ?_⟩⟩
        cases pv0 with
        | tup h r =>
          rw [ha] at h
          cases h
          exact q _ _ (same_put (s := same_put (s := Same.refl H) nD) nb) (.tup upd_same (flats_pyw fl r))
        | lst h r =>
          rw [ha] at h
          cases h
        | dic h r =>
          rw [ha] at h
          cases h
    · refine ⟨_, rfl, _, .ty "list", .type "list", .type "list", true, rfl, .ty _, .base (.lst ha), kit_ty (by decide +kernel), true, rfl, iteT ?_⟩
      refine ⟨_, rfl, a, rfl, ⟨_, SqL.of ha⟩, fun D nD => lc_it (walk_list (K := K) (a := a) (xs := xs)) (fun i H2 => H2 = upd H D (.lst (xs.take i))) rfl ?_ ?_ ?_⟩
      · rintro i H2 hi rfl
        exact SqL.of (by rw [upd_ne (ne_of_none ha nD)]; exact ha)
      · rintro i y H2 H3 hi rfl ⟨rfl, hy⟩
        obtain ⟨hi', ey⟩ := List.getElem?_eq_some_iff.mp hy
        obtain ⟨t, ty, e1, e2, e3⟩ := (fl y (ey ▸ List.getElem_mem hi')).ty (K := K)
        refine ⟨rfl, _, rfl, y, t, rfl, ty _, e1, e2, e3, _, upd_same, ?_, ?_⟩
        · rw [List.length_take, sizeLine_eq]
          omega
        · rw [upd_upd, List.take_add_one, hy]
          rfl
      · rintro H2 rfl
        rw [List.take_length]
        cases pv0 with
        | tup h r =>
          rw [ha] at h
          cases h
        | lst h r =>
          rw [ha] at h
          cases h
          exact q _ _ (same_put (s := Same.refl H) nD) (.lst upd_same (flats_pyw fl r))
        | dic h r =>
          rw [ha] at h
          cases h
    · refine ⟨_, rfl, _, .ty "list", .type "dict", .type "list", false, rfl, .ty _, .base (.dK ha), kit_ty (by decide +kernel), false, rfl, iteF ?_⟩
      refine ⟨_, rfl, _, .ty "tuple", .type "dict", .type "tuple", false, rfl, .ty _, .base (.dK ha), kit_ty (by decide +kernel), false, rfl, iteF ?_⟩
      refine ⟨_, rfl, _, .ty "dict", .type "dict", .type "dict", true, rfl, .ty _, .base (.dK ha), kit_ty (by decide +kernel), true, rfl, iteT ?_⟩
      refine ⟨a, _, ha, True.intro, fun od => ⟨_, rfl, a, od, rfl, .inl ⟨_, upd_same, fun D nD => dc_it (walk_keys (d := a) (o := od) (kvs := kvs)) (fun i H2 => H2 = upd (upd H a (.frz od (.dK kvs))) D (.dK (kvs.take i))) rfl ?_ ?_ ?_⟩⟩⟩
      · rintro i H2 hi rfl
        rw [upd_ne (ne_of_none upd_same nD)]
        exact upd_same
      · rintro i x H2 H3 hi rfl ⟨rfl, k, v, hk, rfl⟩
        obtain ⟨hi', ek⟩ := List.getElem?_eq_some_iff.mp hk
        obtain ⟨t, ty, e1, e2, e3⟩ := (fl v (List.mem_map.mpr ⟨(k, v), ek ▸ List.getElem_mem hi', rfl⟩)).ty (K := K)
        have ad : a ≠ D := ne_of_none (show upd H a (.frz od (.dK kvs)) a = _ from upd_same) nD
        refine ⟨rfl, _, rfl, _, rfl, _, rfl, a, v, rfl, .inl ⟨kvs, k, .inr ⟨od, by rw [upd_ne ad]; exact upd_same⟩, rfl, (valV_at nd hk).symm⟩, v, t, rfl, ty _, e1, e2, e3, kvs.take i, k, rfl, upd_same, ?_, ?_⟩
        · rw [List.length_take, sizeLine_eq]
          omega
        · rw [upd_upd, putK_new (not_take nd hk), List.take_add_one, hk]
          rfl
      · rintro H2 rfl
        rw [List.take_length]
        have ad : a ≠ D := ne_of_none (show upd H a (.frz od (.dK kvs)) a = _ from upd_same) nD
        have nD2 : H D = none := by
          rw [upd_ne (Ne.symm ad)] at nD
          exact nD
        have eH : upd (upd (upd H a (.frz od (.dK kvs))) D (.dK kvs)) a (.dK kvs) = upd H D (.dK kvs) := by
          funext b
          by_cases h1 : b = a
          · rw [h1, upd_same, upd_ne ad, ha]
          · by_cases h2 : b = D
            · rw [h2, upd_ne (Ne.symm ad), upd_same, upd_same]
            · rw [upd_ne h1, upd_ne h2, upd_ne h1, upd_ne h2]
        refine ⟨by rw [upd_ne ad]; exact upd_same, ?_⟩
        rw [eH]
        cases pv0 with
        | tup h r =>
          rw [ha] at h
          cases h
        | lst h r =>
          rw [ha] at h
          cases h
        | dic h r =>
          rw [ha] at h
          cases h
          exact q _ _ (same_put (s := Same.refl H) nD2) (.dic upd_same (flats_pyw fl r))
end
end V8

set_option Elab.async false
set_option linter.all false
set_option maxRecDepth 100000
set_option maxHeartbeats 4000000
/-! Own errors made and kept as values. -/
namespace L2
open PySem PySem.Spec PyProof.Rows
section
variable {X : Cx} {pins : List (Addr × Obj)} {σ : St} {H : Hp} {s : Shared} {a : Addr} {φ : Heap → Prop} {o : HO}
/-- another word for a thing of one's own -/
theorem Inv.reword (I : Inv X pins σ H s) (e : H a = some (.ext φ)) (ok : ObjOk X.prog X.w (upd H a o) s.heap a o) : Inv X pins σ (upd H a o) s := by
  have off : ∀ {b : Addr} {u : HO}, H b = some u → (∀ ψ, u ≠ .ext ψ) → upd H a o b = some u := fun {b u} h n => by
    rw [upd_ne]
    · exact h
    · intro z
      rw [z, e] at h
      exact n _ (Option.some.inj h).symm
  have none_ : ∀ {b : Addr}, H b = none → upd H a o b = none := fun {b} h => by
    rw [upd_ne]
    · exact h
    · intro z
      rw [z, e] at h
      cases h
  exact {
    ok := I.ok
    os := I.os
    bare := I.bare
    base := {
      keep := I.base.keep
      slot := I.base.slot
      free := fun b u h n x => none_ (I.base.free b u h n x)
      there := I.base.there
      tups := fun b xs h => off (I.base.tups b xs h) fun _ z => nomatch z
      frzs := fun b u v h => off (I.base.frzs b u v h) fun _ z => nomatch z
      tbls := fun b ps h => by
        obtain ⟨more, h2⟩ := I.base.tbls b ps h
        exact ⟨more, off h2 fun _ z => nomatch z⟩ }
    loc := I.loc
    cell := I.cell
    free := none_ I.free
    freeC := fun x c h => none_ (I.freeC x c h)
    pin := fun p hp => ⟨(I.pin p hp).1, none_ (I.pin p hp).2.1, (I.pin p hp).2.2⟩
    hok := fun b u h => by
      by_cases hb : b = a
      · subst hb
        rw [upd_same] at h
        cases h
        exact ok
      · rw [upd_ne hb] at h
        exact (I.hok b u h).stay (fun c v _ y => y) (fun c h2 => off h2 fun _ z => nomatch z) fun c xs h2 => off h2 fun _ z => nomatch z
    len := I.len }
end
/-- an error made: its class, its fields -/
def tEr (C : Addr) (sp : Sp) (ta : TA) : TE := fun σ H Q => ta σ H fun vs H1 => vs.length ≤ 1000 ∧ ∀ a, H1 a = none → sp (.ref a :: (vs ++ [])) (upd H1 a (exo a C none))
  (fun v H2 => v = .non ∧ ((∃ (d : Addr) (fs : List (Str × V)), H2 a = some (exo a C (some d)) ∧ H2 d = some (exd d fs) ∧ Q (.ref a) (upd (upd H2 a (CaughtO (.ref C) (some d) a)) d (.xd fs))) ∨
    (H2 a = some (exo a C none) ∧ Q (.ref a) (upd H2 a (CaughtO (.ref C) none a))))) (fun _ _ _ => False)
theorem caught_ok {P : Program} {w : World} {H : Hp} {h : Heap} {a C t0 : Addr} {d : Option Addr} (e : h.get? a = some ({ cls := .ref C, dict := d, data := .fields #[.ref t0, .none, .none, .none, .bool false, .none] } : Obj)) : ObjOk P w H h a (CaughtO (.ref C) d a) :=
  ⟨⟨_, _, e, ⟨rfl, rfl⟩, rfl⟩, ⟨_, e⟩, fun _ _ ⟨o, v, q, r⟩ k => ⟨o, v, k o q, r⟩⟩
section
variable {X : Cx} {pins : List (Addr × Obj)} {σ : St} {H : Hp} {s : Shared} {a C : Addr} {Q : VK}
/-- what the maker leaves, kept as a value -/
theorem Inv.kept_err {d : Addr} {fs : List (Str × V)} (I : Inv X pins σ H s) (ea : H a = some (exo a C (some d))) (ed : H d = some (exd d fs)) : Inv X pins σ (upd (upd H a (CaughtO (.ref C) (some d) a)) d (.xd fs)) s := by
  obtain ⟨t0, e⟩ := exo_at I.hok ea
  have da : d ≠ a := fun z => by
    obtain ⟨⟨mA, ns, _⟩, _, _⟩ := I.hok d _ ed
    obtain ⟨o, es, ep, h1, h2, _⟩ := ns
    rw [z, e] at h1
    cases h1
    cases h2
  have I2 := I.reword (o := CaughtO (.ref C) (some d) a) ea (caught_ok e)
  have ed2 : upd H a (CaughtO (.ref C) (some d) a) d = some (exd d fs) := by
    rw [upd_ne da]
    exact ed
  obtain ⟨⟨mA, ns, rel⟩, _, _⟩ := I.hok d _ ed
  exact I2.reword (o := .xd fs) ed2 ⟨mA, ns, rel⟩
theorem Inv.kept_err0 (I : Inv X pins σ H s) (ea : H a = some (exo a C none)) : Inv X pins σ (upd H a (CaughtO (.ref C) none a)) s := by
  obtain ⟨t0, e⟩ := exo_at I.hok ea
  exact I.reword ea (caught_ok e)
end
/-- what is asked of the def that fills a new error -/
def EndE (C a : Addr) (Q : VK) : VK := fun v H2 => v = .non ∧ ((∃ (d : Addr) (fs : List (Str × V)), H2 a = some (exo a C (some d)) ∧ H2 d = some (exd d fs) ∧ Q (.ref a) (upd (upd H2 a (CaughtO (.ref C) (some d) a)) d (.xd fs))) ∨
    (H2 a = some (exo a C none) ∧ Q (.ref a) (upd H2 a (CaughtO (.ref C) none a))))
section
variable {X : Cx} {C : CXT} {k j : Nat} {fd : FuncData} {ps : List Str} {sp : Sp} {x : Str} {p pos : Pos} {e : Expr} {es : List Expr} {ta : TA}
/-- the class is called -/
theorem er_core {Cl fI : Addr} {pins : List (Addr × Obj)} {σ : St} {H1 : Hp} {s1 : Shared} {Q : VK} {us : List Value} {xs : List V} (T : OexC X.K Cl) (iC : PySem.W.findIn X.K (.ref Cl) "__init__" = some (some (.ref fI))) (tI : PySem.W.typeIn X.K (.ref fI) = some (.type "function"))
    (Fn : FnG X.prog X.w X.K X.mg X.base C k fI fd ps sp) (g : Quiet X.A) (r : Room (k + 1) X.A) (b : Binds X.K fd ps []) (none_out : Passes C X (fun _ _ _ => False)) (J : Inv X pins σ H1 s1) (v : Vals xs us) (small : xs.length ≤ 1000)
    (q : ∀ a, H1 a = none → sp (.ref a :: (xs ++ [])) (upd H1 a (exo a Cl none)) (EndE Cl a Q) (fun _ _ _ => False)) : wpAny (model X.prog X.w) X.A (call (.ref Cl) us) (EP X pins σ Q) X.xe s1 := by
  obtain ⟨nm, qn, NN, bs, bm, sn, sub, ab, col, dd, k0, k1, k2, k3, k5, isC, isB⟩ := T.cls
  obtain ⟨hp, gn, dr, tk, os⟩ := s1
  have up : hp.objs.size ≤ hp.objs.size + 1 := Nat.le_succ _
  have new : H1 (hp.objs.size + 1) = none := J.hok.fresh up
  have q2 := q _ new
  generalize hG : (hp.push (PySem.W.kdv_tup us)).push (PySem.HandSPX.excO Cl hp.objs.size) = G
  have keep : ∀ c o, hp.get? c = some o → G.get? c = some o := fun c o z => by
    rw [← hG]
    exact Heap.get?_push_of_some _ (Heap.get?_push_of_some _ z)
  have here : G.get? (hp.objs.size + 1) = some (PySem.HandSPX.excO Cl hp.objs.size) := by
    rw [← hG]
    heap_get
  have J2 : Inv X pins σ (upd H1 (hp.objs.size + 1) (exo (hp.objs.size + 1) Cl none)) ⟨G, gn, dr, tk, os⟩ := J.laid (t' := tk) keep up (exo_ok here)
  have v2 : Vals (V.ref (hp.objs.size + 1) :: (xs ++ [])) (Value.ref (hp.objs.size + 1) :: (us ++ [])) := .cons rfl (v.append .nil)
  have n2 : (Value.ref (hp.objs.size + 1) :: us ++ []).length = ps.length := by
    have z := v2.length
    rw [Fn.count _ _ _ _ q2] at z
    exact z.symm
  have short : us.length ≤ sizeLine := by
    have z := v.length
    rw [← z, sizeLine_eq]
    omega
  have bb : BindsTo ⟨G, gn, dr, tk, os⟩ fd ⟨Value.ref (hp.objs.size + 1) :: us, []⟩ (ps.zip (Value.ref (hp.objs.size + 1) :: (us ++ []))) := by
    have z := b ⟨G, gn, dr, tk, os⟩ (Value.ref (hp.objs.size + 1) :: us) J2.kIn n2
    rw [List.cons_append] at z
    exact z
  have ran := Fn.runs _ X.stack _ _ ⟨Value.ref (hp.objs.size + 1) :: us, []⟩ (Value.ref (hp.objs.size + 1) :: (us ++ [])) _ _ (fun _ _ _ => False) (under_quiet g) (r.make Cl us []) (J2.env0.make Cl us []) bb v2 q2
  have isC2 := J.kIn _ _ isC
  subst hG
  refine wpAny_call (PySem.HandSPX.call_own PySem.F.excBase_ValueError (fun Y => PySem.HandSPX.refsVE_contains Y bm isB) isC2 (PySem.W.looks_findIn J.kIn iC) (fun self => PySem.W.bind_fn J.kIn self tI) short (codeAny_mono ran fun a s2 z => ?_))
  match a, z with
  | .error er, z => exact none_out pins σ _ _ er s2 J2 z
  | .ok .next, z => exact z.elim
  | .ok .brk, z => exact z.elim
  | .ok .cont, z => exact z.elim
  | .ok (.ret u), z =>
    obtain ⟨y, H2, J3, rv, ey, z⟩ := J2.after z
    subst ey
    refine ⟨rv, ?_⟩
    rcases z with ⟨d, fs, ea, ed, q3⟩ | ⟨ea, q3⟩
    · exact ⟨.ref _, _, J3.kept_err ea ed, rfl, q3⟩
    · exact ⟨.ref _, _, J3.kept_err0 ea, rfl, q3⟩
theorem pe_er {Cl fI : Addr} (T : OexC X.K Cl) (iC : PySem.W.findIn X.K (.ref Cl) "__init__" = some (some (.ref fI))) (tI : PySem.W.typeIn X.K (.ref fI) = some (.type "function"))
    (Fn : FnG X.prog X.w X.K X.mg X.base C k fI fd ps sp) (g : Quiet X.A) (r : Room (k + 1) X.A) (b : Binds X.K fd ps []) (none_out : Passes C X (fun _ _ _ => False)) (hg : Gl X x) (hm : X.mg x = some (.ref Cl)) (ha : PA X (e :: es) ta)
    (hdb : (x == ("__debug__" : Str)) = false := by decide) (he : starEach (e :: es) X.env = (false, eval e X.env) :: starEach es X.env := by rfl) (hpl : (backTo pos (starEach es X.env)).any (·.1) = false := by rfl) :
    PE X (.Call (.Name x p) (e :: es) [] pos) (fun σ H Q => ta σ H fun vs H1 => vs.length ≤ 1000 ∧ ∀ a, H1 a = none → sp (.ref a :: (vs ++ [])) (upd H1 a (exo a Cl none)) (EndE Cl a Q) (fun _ _ _ => False)) := by
  refine ⟨fun pins s σ H Q I h => ?_⟩
  refine wpAny_Call_Name_kw (ld_glob I hg hm ?_ hdb)
  refine PySem.W.callWith_K (h₀ := X.base) I.ok.mod.kin T.kC (thn (ha.run pos pins s σ H _ I h) fun us s1 z => ?_) he hpl
  obtain ⟨xs, H1, J, v, small, q⟩ := z
  exact ⟨J.kIn, er_core T iC tI Fn g r b none_out J v small q⟩
theorem pe_er0 {Cl fI : Addr} (T : OexC X.K Cl) (iC : PySem.W.findIn X.K (.ref Cl) "__init__" = some (some (.ref fI))) (tI : PySem.W.typeIn X.K (.ref fI) = some (.type "function"))
    (Fn : FnG X.prog X.w X.K X.mg X.base C k fI fd ps sp) (g : Quiet X.A) (r : Room (k + 1) X.A) (b : Binds X.K fd ps []) (none_out : Passes C X (fun _ _ _ => False)) (hg : Gl X x) (hm : X.mg x = some (.ref Cl))
    (hdb : (x == ("__debug__" : Str)) = false := by decide) : PE X (.Call (.Name x p) [] [] pos) (fun σ H Q => ∀ a, H a = none → sp [.ref a] (upd H a (exo a Cl none)) (EndE Cl a Q) (fun _ _ _ => False)) := by
  refine ⟨fun pins s σ H Q I h => ?_⟩
  refine wpAny_Call_Name_kw (ld_glob I hg hm ?_ hdb)
  exact PySem.W.callWith_K0 I.kIn T.kC (er_core (us := []) (xs := []) T iC tI Fn g r b none_out I .nil (by decide) h)
end
end L2

set_option Elab.async false
set_option linter.all false
set_option maxRecDepth 100000
set_option maxHeartbeats 4000000
/-! Own errors made by keywords. -/
namespace PySem
namespace HandSPX
open PySem.W PySem.Calls PyProof.Rows
section
variable {prog : Program} {w : World} {A : Around} {E : Value → Shared → Prop} {R : Result → Shared → Prop} {hp : Heap} {gs : Array GenState} {dr : Drawn} {tk : Nat} {os : OsState}
variable {cn cq : Str} {Cl Nn : Addr} {b1 b2 bB : List Value} {hasD : Bool} {sN : List Str} {sB : List Value} {aB : Bool} {cO : Option Bool} {dD : Option Addr} {z0 z1 z2 z3 z5 : Option Value} {Bs nw ini : String} {kw : List (Str × Value)}
theorem check_newK {M : Model} (Fx : ExcBaseFacts Bs nw ini bB) (same : ∀ Y : String, b2.contains (.type Y) = bB.contains (.type Y)) {us : List Value} {Q : Unit → Shared → Prop}
    (isC : hp.get? Cl = some (excClassObj cn cq Cl Nn b1 b2 hasD sN sB aB cO dD z0 z1 z2 z3 z5 nw)) (q : Q () ⟨hp, gs, dr, tk, os⟩) : wpAny M A (checkBuiltinCall nw ⟨.ref Cl :: us, kw⟩) Q E ⟨hp, gs, dr, tk, os⟩ := by
  have inB : (Value.ref Cl :: b2).contains (.type Bs) = true := by
    rw [List.contains_cons, same, Fx.hasB, Bool.or_true]
  have noS := Fx.noStar
  simp only [checkBuiltinCall, Fx.newKind, Fx.newSplit, Fx.newRow]
  repeat (first | refine wpAny_loadPart_at isC ?_ | (refine wpAny_isSubtype_exc isC ?_; rw [inB]) | refine wpAny_staticBase_exc isC ?_ | refine wpAny_madeBy_exc isC ?_ | simp only [bne_self_eq_false, Bool.false_eq_true, if_false] | wp_step)
  exact q
theorem newK (Fx : ExcBaseFacts Bs nw ini bB) (same : ∀ Y : String, b2.contains (.type Y) = bB.contains (.type Y)) {us : List Value}
    (isC : hp.get? Cl = some (excClassObj cn cq Cl Nn b1 b2 hasD sN sB aB cO dD z0 z1 z2 z3 z5 nw))
    (q : R (.ok (.ret (.ref (hp.objs.size + 1)))) ⟨(hp.push (W.kdv_tup us)).push (excO Cl hp.objs.size), gs, dr, tk, os⟩) (few : us.length ≤ sizeLine) :
    codeAny (model prog w) A (.builtin nw ⟨.ref Cl :: us, kw⟩) R ⟨hp, gs, dr, tk, os⟩ := by
  have en := Fx.ends
  have cB : (Value.ref Cl :: b2).contains (.type Bs) = true := by
    rw [List.contains_cons, same, Fx.hasB, Bool.or_true]
  have cA : (Value.ref Cl :: b2).contains (.type "AttributeError") = false := by
    rw [List.contains_cons, same, Fx.noAttr]
    rfl
  have cN : (Value.ref Cl :: b2).contains (.type "NameError") = false := by
    rw [List.contains_cons, same, Fx.noName]
    rfl
  refine codeAny_builtinAt Fx.entry ?_
  unfold Builtin.«BaseException.__new__»
  refine wpAt_bind ?_
  show wpAt _ _ _ (stack >>= _) _ _ _
  refine wpAt_bind (wpAt_stack fun p below => wpAt_of_wpAny ?_)
  wp_walk
  refine wpAt_of_wpAny ?_
  rw [Fx.owner]
  repeat (first | with_reducible refine wpAny_madeHere_exc Fx.canon isC ?_ | with_reducible refine wpAny_loadPart_at isC ?_ | (with_reducible refine wpAny_isSubtype_exc isC ?_; first | rw [cB] | rw [cA] | rw [cN]) | wp_step)
  show R _ _
  rw [Heap.size_push]
  exact q
theorem type_callK (Fx : ExcBaseFacts Bs nw ini bB) (same : ∀ Y : String, b2.contains (.type Y) = bB.contains (.type Y)) {us : List Value} {fI : Addr} {Q : Fin → Shared → Prop}
    (isC : hp.get? Cl = some (excClassObj cn cq Cl Nn b1 b2 hasD sN sB aB cO dD z0 z1 z2 z3 z5 nw))
    (isI : W.Looks (model prog w) hp (typeLookup (.ref Cl) "__init__") (some (.ref fI))) (bd : ∀ self, W.Looks (model prog w) hp (bindSpecial (.ref fI) self) (.ref fI, [self])) (few : us.length ≤ sizeLine)
    (q : codeAny (model prog w) A (.call (.ref fI) ⟨.ref (hp.objs.size + 1) :: us, kw⟩)
      (fun a s2 => match a with | .ok (.ret v) => v = .none ∧ Q (.done (.ret (.ref (hp.objs.size + 1)))) s2 | .ok _ => False | .error e => E e s2)
      ⟨(hp.push (W.kdv_tup us)).push (excO Cl hp.objs.size), gs, dr, tk, os⟩) :
    wpAny (model prog w) A (Builtin.«type.__call__» ⟨.ref Cl :: us, kw⟩) Q E ⟨hp, gs, dr, tk, os⟩ := by
  repeat (first | with_reducible refine wpAny_loadPart_at isC ?_ | with_reducible refine wpAny_madeBy_exc isC ?_ | wp_step)
  refine codeAny_call_builtin_code (Code.quiet_builtin _ Fx.quiet) (check_newK Fx same isC ?_)
  refine newK Fx same isC ?_ few
  show wpAny _ _ _ _ _ _
  have up : ∀ c o, hp.get? c = some o → ((hp.push (W.kdv_tup us)).push (excO Cl hp.objs.size)).get? c = some o := fun c o z => Heap.get?_push_of_some _ (Heap.get?_push_of_some _ z)
  have isC2 := up _ _ isC
  have here : ((hp.push (W.kdv_tup us)).push (excO Cl hp.objs.size)).get? (hp.objs.size + 1) = some (excO Cl hp.objs.size) := by heap_get
  have own : (Value.ref Cl :: b2).contains (.ref Cl) = true := by simp
  have i2 := isI.keeps up
  have bd2 := (bd (.ref (hp.objs.size + 1))).keeps up
  unfold isInstance
  repeat (first | with_reducible refine wpAny_loadPart_at here ?_ | (with_reducible refine wpAny_isSubtype_exc isC2 ?_; rw [own]) | wp_step)
  show wpAny _ _ (typeLookup (.ref Cl) _) _ _ _
  refine i2.at ?_
  refine wpAny_holding (wpAny_bind (bd2.at ?_))
  refine wpAny_bind (wpAny_call (codeAny_mono q fun a s2 z => ?_))
  rcases a with e | (v | _ | _ | _) <;> first | exact z | exact z.elim | skip
  obtain ⟨rfl, z⟩ := z
  first
    | exact wpAny_pure (wpAny_pure z)
    | (wp_walk; exact z)
theorem call_ownK (Fx : ExcBaseFacts Bs nw ini bB) (same : ∀ Y : String, b2.contains (.type Y) = bB.contains (.type Y)) {us : List Value} {fI : Addr}
    (isC : hp.get? Cl = some (excClassObj cn cq Cl Nn b1 b2 hasD sN sB aB cO dD z0 z1 z2 z3 z5 nw))
    (isI : W.Looks (model prog w) hp (typeLookup (.ref Cl) "__init__") (some (.ref fI))) (bd : ∀ self, W.Looks (model prog w) hp (bindSpecial (.ref fI) self) (.ref fI, [self])) (few : us.length ≤ sizeLine)
    (q : codeAny (model prog w) (A.under (.builtin "type.__call__" ⟨.ref Cl :: us, kw⟩)) (.call (.ref fI) ⟨.ref (hp.objs.size + 1) :: us, kw⟩) (W.InitBack (hp.objs.size + 1) R)
      ⟨(hp.push (W.kdv_tup us)).push (excO Cl hp.objs.size), gs, dr, tk, os⟩) :
    codeAny (model prog w) A (.call (.ref Cl) ⟨us, kw⟩) R ⟨hp, gs, dr, tk, os⟩ := by
  have f1 := tc_lookup
  have f2 := tc_bind (.ref Cl)
  have ty : (⟨hp, gs, dr, tk, os⟩ : Shared).TypeIs (.ref Cl) "type" := ⟨_, isC, rfl⟩
  refine codeAny_of_tree ?_
  show wpAny _ _ (callAny (.ref Cl) _) _ _ _
  repeat (any_goals (first | assumption | with_reducible refine wpAny_loadPart_at isC ?_ | wp_step))
  refine ⟨rfl, ?_⟩
  refine codeAny_call_builtin_at (Code.quiet_builtin _ (by decide +kernel)) entry_typeCall (wpAny_check_type_call_sub isC (type_callK Fx same isC isI bd few ?_))
  refine codeAny_mono q fun a s2 z => ?_
  rcases a with e | (v | _ | _ | _) <;> exact z
end
end HandSPX
end PySem

namespace L2
open PySem PySem.Spec PyProof.Rows
section
variable {X : Cx} {C : CXT} {k j : Nat} {fd : FuncData} {ps : List Str} {sp : Sp} {x : Str} {p pos : Pos} {kws : List Keyword} {tk : TA}
theorem under_quietK {A : Around} {Cl : Addr} {us : List Value} {kw : List (Str × Value)} (g : Quiet A) : Quiet (A.under (.builtin "type.__call__" ⟨.ref Cl :: us, kw⟩)) := under_quiet g
theorem er_coreK {Cl fI : Addr} {pins : List (Addr × Obj)} {σ : St} {H1 : Hp} {s1 : Shared} {Q : VK} {ws : List Value} {zs : List V} {ks : List Str} {gU : List Value → List Value → List Value} {gV : List V → List V → List V} (T : OexC X.K Cl) (iC : PySem.W.findIn X.K (.ref Cl) "__init__" = some (some (.ref fI))) (tI : PySem.W.typeIn X.K (.ref fI) = some (.type "function"))
    (Fn : FnG X.prog X.w X.K X.mg X.base C k fI fd ps sp) (g : Quiet X.A) (r : Room (k + 1) X.A) (b : KBn X.K fd ps 1 ks gU gV) (none_out : Passes C X (fun _ _ _ => False)) (J : Inv X pins σ H1 s1) (v : Vals zs ws) (many : zs.length = ks.length)
    (q : ∀ a, H1 a = none → sp (gV [.ref a] zs) (upd H1 a (exo a Cl none)) (EndE Cl a Q) (fun _ _ _ => False)) : wpAny (model X.prog X.w) X.A (call (.ref Cl) [] (ks.zip ws)) (EP X pins σ Q) X.xe s1 := by
  obtain ⟨nm, qn, NN, bs, bm, sn, sub, ab, col, dd, k0, k1, k2, k3, k5, isC, isB⟩ := T.cls
  obtain ⟨hp, gn, dr, tk, os⟩ := s1
  have up : hp.objs.size ≤ hp.objs.size + 1 := Nat.le_succ _
  have new : H1 (hp.objs.size + 1) = none := J.hok.fresh up
  have q2 := q _ new
  generalize hG : (hp.push (PySem.W.kdv_tup [])).push (PySem.HandSPX.excO Cl hp.objs.size) = G
  have keep : ∀ c o, hp.get? c = some o → G.get? c = some o := fun c o z => by
    rw [← hG]
    exact Heap.get?_push_of_some _ (Heap.get?_push_of_some _ z)
  have here : G.get? (hp.objs.size + 1) = some (PySem.HandSPX.excO Cl hp.objs.size) := by
    rw [← hG]
    heap_get
  have J2 : Inv X pins σ (upd H1 (hp.objs.size + 1) (exo (hp.objs.size + 1) Cl none)) ⟨G, gn, dr, tk, os⟩ := J.laid (t' := tk) keep up (exo_ok here)
  have v2 := b.rel (vs := [V.ref (hp.objs.size + 1)]) (us := [Value.ref (hp.objs.size + 1)]) (.cons rfl .nil) v
  have bb := b.to ⟨G, gn, dr, tk, os⟩ [Value.ref (hp.objs.size + 1)] ws J2.kIn rfl (v.length.symm.trans many)
  have ran := Fn.runs _ X.stack _ _ ⟨[Value.ref (hp.objs.size + 1)], ks.zip ws⟩ (gU [Value.ref (hp.objs.size + 1)] ws) _ _ (fun _ _ _ => False) (under_quiet g) (r.make Cl [] (ks.zip ws)) (J2.env0.make Cl [] (ks.zip ws)) bb v2 q2
  have isC2 := J.kIn _ _ isC
  subst hG
  refine wpAny_call (PySem.HandSPX.call_ownK PySem.F.excBase_ValueError (fun Y => PySem.HandSPX.refsVE_contains Y bm isB) isC2 (PySem.W.looks_findIn J.kIn iC) (fun self => PySem.W.bind_fn J.kIn self tI) (Nat.zero_le _) (codeAny_mono ran fun a s2 z => ?_))
  match a, z with
  | .error er, z => exact none_out pins σ _ _ er s2 J2 z
  | .ok .next, z => exact z.elim
  | .ok .brk, z => exact z.elim
  | .ok .cont, z => exact z.elim
  | .ok (.ret u), z =>
    obtain ⟨y, H2, J3, rv, ey, z⟩ := J2.after z
    subst ey
    refine ⟨rv, ?_⟩
    rcases z with ⟨d, fs, ea, ed, q3⟩ | ⟨ea, q3⟩
    · exact ⟨.ref _, _, J3.kept_err ea ed, rfl, q3⟩
    · exact ⟨.ref _, _, J3.kept_err0 ea, rfl, q3⟩
theorem pe_erK {Cl fI : Addr} {ks : List Str} {gU : List Value → List Value → List Value} {gV : List V → List V → List V} (T : OexC X.K Cl) (iC : PySem.W.findIn X.K (.ref Cl) "__init__" = some (some (.ref fI))) (tI : PySem.W.typeIn X.K (.ref fI) = some (.type "function"))
    (Fn : FnG X.prog X.w X.K X.mg X.base C k fI fd ps sp) (g : Quiet X.A) (r : Room (k + 1) X.A) (b : KBn X.K fd ps 1 ks gU gV) (none_out : Passes C X (fun _ _ _ => False)) (hg : Gl X x) (hm : X.mg x = some (.ref Cl)) (hkw : PK X kws tk)
    (hall : (backToKw pos (keywordEach kws X.env)).all (·.1.isSome) = true := by rfl) (hks : (backToKw pos (keywordEach kws X.env)).filterMap (·.1) = ks := by rfl) (hdb : (x == ("__debug__" : Str)) = false := by decide)
    (hpl : ((backTo pos (starEach [] X.env)).any (·.1) || (backToKw pos (keywordEach kws X.env)).any (·.1.isNone)) = false := by rfl) :
    PE X (.Call (.Name x p) [] kws pos) (fun σ H Q => tk σ H fun zs H1 => zs.length = ks.length ∧ ∀ a, H1 a = none → sp (gV [.ref a] zs) (upd H1 a (exo a Cl none)) (EndE Cl a Q) (fun _ _ _ => False)) := by
  refine ⟨fun pins s σ H Q I h => ?_⟩
  refine wpAny_Call_Name_kw (ld_glob I hg hm ?_ hdb)
  refine PySem.W.callWith_KW0 (h₀ := X.base) I.ok.mod.kin T.kC hall ?_ hpl
  refine thn (hkw.run pos pins s σ H _ I h) fun ws s2 ⟨zs, H2, I2, rz, l2, q2⟩ => ⟨I2.kIn, ?_⟩
  rw [hks]
  exact er_coreK T iC tI Fn g r b none_out I2 rz l2 q2
end
end L2

set_option Elab.async false
set_option linter.all false
set_option maxRecDepth 100000
set_option maxHeartbeats 8000000
/-! The errors filled. -/
namespace V8
open PySem PySem.Spec PyProof.Rows L2
abbrev s_BadLetter_init : Stmt := inClass (topS 4) 0
abbrev n_BadLetter_init : List Str := ["self", "value"]
theorem sc_BadLetter_init : FnScope ["self", "value"] ["self", "value"] (defScope s_BadLetter_init) := ⟨rfl, rfl, rfl, by decide +kernel, rfl, by decide +kernel, by decide +kernel⟩
abbrev s_BadWord_init : Stmt := inClass (topS 5) 0
abbrev n_BadWord_init : List Str := ["self", "value"]
theorem sc_BadWord_init : FnScope ["self", "value"] ["self", "value"] (defScope s_BadWord_init) := ⟨rfl, rfl, rfl, by decide +kernel, rfl, by decide +kernel, by decide +kernel⟩
abbrev s_BadTable_init : Stmt := inClass (topS 6) 0
abbrev n_BadTable_init : List Str := ["self", "part"]
theorem sc_BadTable_init : FnScope ["self", "part"] ["self", "part"] (defScope s_BadTable_init) := ⟨rfl, rfl, rfl, by decide +kernel, rfl, by decide +kernel, by decide +kernel⟩
abbrev s_BadCode_init : Stmt := inClass (topS 7) 0
abbrev n_BadCode_init : List Str := ["self", "value"]
theorem sc_BadCode_init : FnScope ["self", "value"] ["self", "value"] (defScope s_BadCode_init) := ⟨rfl, rfl, rfl, by decide +kernel, rfl, by decide +kernel, by decide +kernel⟩
abbrev s_NoSign_init : Stmt := inClass (topS 8) 0
abbrev n_NoSign_init : List Str := ["self", "letter"]
theorem sc_NoSign_init : FnScope ["self", "letter"] ["self", "letter"] (defScope s_NoSign_init) := ⟨rfl, rfl, rfl, by decide +kernel, rfl, by decide +kernel, by decide +kernel⟩
abbrev s_Unlike_init : Stmt := inClass (topS 9) 0
abbrev n_Unlike_init : List Str := ["self", "letter"]
theorem sc_Unlike_init : FnScope ["self", "letter"] ["self", "letter"] (defScope s_Unlike_init) := ⟨rfl, rfl, rfl, by decide +kernel, rfl, by decide +kernel, by decide +kernel⟩
theorem len_app (a b : Str) : (a ++ b).length = a.length + b.length := strLen_append a b
/-- the base of the errors, by its name -/
structure Tb (K : PySem.W.Frag) (mg : Str → Option Value) (CE : Addr) : Prop where
  bE : mg "RepairError" = some (.ref CE)
  bR : ClX.CRead K CE (.type "type")
  bV : PySem.W.findCls K (.ref CE) (.type "type") "__init__" = some (.val (.builtin "ValueError.__init__"))
/-- a thing told to an error -/
structure Th1 (H : Hp) (x : V) (d : PyData) : Prop where
  tl : Told2 H x
  pw : PyW H x d
  te : Tells d
  sz : d.shown.length ≤ 3000
  dp : d.depth ≤ 1
theorem Told2.but {H H2 : Hp} {a : Addr} {x : V} {f : Heap → Prop} (t : Told2 H x) (s : ∀ b o, H b = some o → b ≠ a → H2 b = some o) (ha : H a = some (.ext f)) : Told2 H2 x := by
  have st : ∀ {b : Addr} {o : HO}, H b = some o → (∀ f, o ≠ .ext f) → H2 b = some o := fun {b o} e n => s b o e fun z => by
    rw [z, ha] at e
    exact n _ (Option.some.inj e).symm
  rcases t with f | ⟨b, xs, e, h, l, g⟩ | ⟨b, kvs, e, h, l, n, g⟩
  · exact .inl f
  · exact .inr (.inl ⟨b, xs, e, h.imp (fun h => st h fun _ z => nomatch z) (fun h => st h fun _ z => nomatch z), l, g⟩)
  · exact .inr (.inr ⟨b, kvs, e, st h (fun _ z => nomatch z), l, n, g⟩)
theorem Th1.same {H H2 : Hp} {x : V} {d : PyData} (t : Th1 H x d) (s : Same H H2) : Th1 H2 x d := ⟨t.tl.same s, t.pw.same s, t.te, t.sz, t.dp⟩
theorem Th1.but {H H2 : Hp} {a : Addr} {x : V} {d : PyData} {f : Heap → Prop} (t : Th1 H x d) (s : ∀ b o, H b = some o → b ≠ a → H2 b = some o) (ha : H a = some (.ext f)) : Th1 H2 x d := ⟨t.tl.but s ha, t.pw.but s ha, t.te, t.sz, t.dp⟩
def spErrW (K : PySem.W.Frag) (C : Addr) (fld : Str) : Sp := fun vs H Q _ => ∃ (a : Addr) (x : V) (d : PyData), vs = [.ref a, x] ∧ H a = some (exo a C none) ∧ OexC K C ∧ PySem.W.findIn K (.ref C) fld = some none ∧ Th1 H x d ∧
  ∀ y dx H1, Same H H1 → PyW H1 y d → H1 dx = none → dx ≠ a → Q .non (upd (upd H1 dx (exd dx [(fld, y)])) a (exo a C (some dx)))
def spErrW2 (K : PySem.W.Frag) (C : Addr) (f1 f2 : Str) : Sp := fun vs H Q _ => ∃ (a : Addr) (x1 x2 : V) (d1 d2 : PyData), vs = [.ref a, x1, x2] ∧ H a = some (exo a C none) ∧ OexC K C ∧ PySem.W.findIn K (.ref C) f1 = some none ∧ PySem.W.findIn K (.ref C) f2 = some none ∧ Th1 H x1 d1 ∧ Th1 H x2 d2 ∧
  ∀ y1 y2 dx H2, (∀ b o, H b = some o → b ≠ a → H2 b = some o) → PyW H2 y1 d1 → PyW H2 y2 d2 → H dx = none → dx ≠ a → H2 dx = some (exd dx [(f1, y1)]) → H2 a = some (exo a C (some dx)) → Q .non (upd H2 dx (exd dx [(f2, y2), (f1, y1)]))
def spErrW0 (K : PySem.W.Frag) (C : Addr) : Sp := fun vs H Q _ => ∃ a : Addr, vs = [.ref a] ∧ H a = some (exo a C none) ∧ OexC K C ∧ Q .non H
theorem two_at {H H1 : Hp} {a dx : Addr} {o1 o2 : HO} (s : Same H H1) (n : H1 dx = none) : ∀ b o, H b = some o → b ≠ a → upd (upd H1 dx o1) a o2 b = some o := fun b o e nb => by
  rw [upd_ne nb, upd_ne (ne_of_none (s _ _ e) n)]
  exact s _ _ e
section
variable {P : Program} {w : World} {K : PySem.W.Frag} {mg : Str → Option Value} {base : Heap} {CE C : Addr}
theorem ok_BadLetter {f : Addr} {fd : FuncData} (F : Fun K "__init__" "BadLetter.__init__" s_BadLetter_init f fd) (T : Tb K mg CE) (sys : SysIn base) (D_copied : Df P w K mg base 2 "copied" spCopyW) : FnG P w K mg base CX0 3 f fd ["self", "value"] (spErrW K C "value") := by
  refine F.okG sc_BadLetter_init (fun vs H Q E h => ?_) (fun cdv A outer s H vs Q E quiet hr h => ?_)
  · obtain ⟨a, x, d, rfl, _⟩ := h
    rfl
  · obtain ⟨a, x1, d1, rfl, ha, oc, no, t1, q⟩ := h
    refine ⟨_, (pss_cons (ps_expr (pe_baseinit (by rfl) T.bE T.bR T.bV (pa_cons (pv 0) (pa_cons (pe_joinedT (pj_cons (pe_fmtW sys quiet hr (pv 1)) (pj_cons pe_str pj_nil))) pa_nil))))
      (pss_one (ps_ost (pv 0) (pe_c D_copied hr (by decide) (by rfl) (pa_cons (pv 1) pa_nil)) rfl))), ?_⟩
    have z1 := t1.sz
    have h0 : (" is no letter" : Str).length ≤ 1000 := by decide +kernel
    have he : Str.empty.length ≤ 1000 := by decide +kernel
    refine ⟨_, rfl, _, rfl, d1, t1.pw, t1.te, d1.shown, rfl, ?_, _, rfl, ?_, a, C, _, rfl, (by show 1 ≤ 1000; decide), oc, ha, ?_⟩
    · simp only [len_app, sizeLine_eq]
      try simp only [len_app] at *
      omega
    · simp only [len_app, sizeLine_eq]
      try simp only [len_app] at *
      omega
    · exact ⟨_, rfl, x1, d1, rfl, t1.tl, t1.pw, fun y H1 s1 p1 => ⟨_, rfl, a, C, rfl, oc, no, .inl ⟨s1 _ _ ha, fun dx n ne => q y dx H1 s1 p1 n ne⟩⟩⟩
theorem ok_BadWord {f : Addr} {fd : FuncData} (F : Fun K "__init__" "BadWord.__init__" s_BadWord_init f fd) (T : Tb K mg CE) (sys : SysIn base) (D_copied : Df P w K mg base 2 "copied" spCopyW) : FnG P w K mg base CX0 3 f fd ["self", "value"] (spErrW K C "value") := by
  refine F.okG sc_BadWord_init (fun vs H Q E h => ?_) (fun cdv A outer s H vs Q E quiet hr h => ?_)
  · obtain ⟨a, x, d, rfl, _⟩ := h
    rfl
  · obtain ⟨a, x1, d1, rfl, ha, oc, no, t1, q⟩ := h
    refine ⟨_, (pss_cons (ps_expr (pe_baseinit (by rfl) T.bE T.bR T.bV (pa_cons (pv 0) (pa_cons (pe_joinedT (pj_cons (pe_fmtW sys quiet hr (pv 1)) (pj_cons pe_str pj_nil))) pa_nil))))
      (pss_one (ps_ost (pv 0) (pe_c D_copied hr (by decide) (by rfl) (pa_cons (pv 1) pa_nil)) rfl))), ?_⟩
    have z1 := t1.sz
    have h0 : (" is no text that can stand here" : Str).length ≤ 1000 := by decide +kernel
    have he : Str.empty.length ≤ 1000 := by decide +kernel
    refine ⟨_, rfl, _, rfl, d1, t1.pw, t1.te, d1.shown, rfl, ?_, _, rfl, ?_, a, C, _, rfl, (by show 1 ≤ 1000; decide), oc, ha, ?_⟩
    · simp only [len_app, sizeLine_eq]
      try simp only [len_app] at *
      omega
    · simp only [len_app, sizeLine_eq]
      try simp only [len_app] at *
      omega
    · exact ⟨_, rfl, x1, d1, rfl, t1.tl, t1.pw, fun y H1 s1 p1 => ⟨_, rfl, a, C, rfl, oc, no, .inl ⟨s1 _ _ ha, fun dx n ne => q y dx H1 s1 p1 n ne⟩⟩⟩
theorem ok_BadTable {f : Addr} {fd : FuncData} (F : Fun K "__init__" "BadTable.__init__" s_BadTable_init f fd) (T : Tb K mg CE) (sys : SysIn base) (D_copied : Df P w K mg base 2 "copied" spCopyW) : FnG P w K mg base CX0 3 f fd ["self", "part"] (spErrW K C "part") := by
  refine F.okG sc_BadTable_init (fun vs H Q E h => ?_) (fun cdv A outer s H vs Q E quiet hr h => ?_)
  · obtain ⟨a, x, d, rfl, _⟩ := h
    rfl
  · obtain ⟨a, x1, d1, rfl, ha, oc, no, t1, q⟩ := h
    refine ⟨_, (pss_cons (ps_expr (pe_baseinit (by rfl) T.bE T.bR T.bV (pa_cons (pv 0) (pa_cons (pe_joinedT (pj_cons (pe_fmtW sys quiet hr (pv 1)) (pj_cons pe_str pj_nil))) pa_nil))))
      (pss_one (ps_ost (pv 0) (pe_c D_copied hr (by decide) (by rfl) (pa_cons (pv 1) pa_nil)) rfl))), ?_⟩
    have z1 := t1.sz
    have h0 : (" is not of the kind that it should be" : Str).length ≤ 1000 := by decide +kernel
    have he : Str.empty.length ≤ 1000 := by decide +kernel
    refine ⟨_, rfl, _, rfl, d1, t1.pw, t1.te, d1.shown, rfl, ?_, _, rfl, ?_, a, C, _, rfl, (by show 1 ≤ 1000; decide), oc, ha, ?_⟩
    · simp only [len_app, sizeLine_eq]
      try simp only [len_app] at *
      omega
    · simp only [len_app, sizeLine_eq]
      try simp only [len_app] at *
      omega
    · exact ⟨_, rfl, x1, d1, rfl, t1.tl, t1.pw, fun y H1 s1 p1 => ⟨_, rfl, a, C, rfl, oc, no, .inl ⟨s1 _ _ ha, fun dx n ne => q y dx H1 s1 p1 n ne⟩⟩⟩
theorem ok_BadCode {f : Addr} {fd : FuncData} (F : Fun K "__init__" "BadCode.__init__" s_BadCode_init f fd) (T : Tb K mg CE) (sys : SysIn base) (D_copied : Df P w K mg base 2 "copied" spCopyW) : FnG P w K mg base CX0 3 f fd ["self", "value"] (spErrW K C "value") := by
  refine F.okG sc_BadCode_init (fun vs H Q E h => ?_) (fun cdv A outer s H vs Q E quiet hr h => ?_)
  · obtain ⟨a, x, d, rfl, _⟩ := h
    rfl
  · obtain ⟨a, x1, d1, rfl, ha, oc, no, t1, q⟩ := h
    refine ⟨_, (pss_cons (ps_expr (pe_baseinit (by rfl) T.bE T.bR T.bV (pa_cons (pv 0) (pa_cons (pe_joinedT (pj_cons (pe_fmtW sys quiet hr (pv 1)) (pj_cons pe_str pj_nil))) pa_nil))))
      (pss_one (ps_ost (pv 0) (pe_c D_copied hr (by decide) (by rfl) (pa_cons (pv 1) pa_nil)) rfl))), ?_⟩
    have z1 := t1.sz
    have h0 : (" is no code, or no integer of one" : Str).length ≤ 1000 := by decide +kernel
    have he : Str.empty.length ≤ 1000 := by decide +kernel
    refine ⟨_, rfl, _, rfl, d1, t1.pw, t1.te, d1.shown, rfl, ?_, _, rfl, ?_, a, C, _, rfl, (by show 1 ≤ 1000; decide), oc, ha, ?_⟩
    · simp only [len_app, sizeLine_eq]
      try simp only [len_app] at *
      omega
    · simp only [len_app, sizeLine_eq]
      try simp only [len_app] at *
      omega
    · exact ⟨_, rfl, x1, d1, rfl, t1.tl, t1.pw, fun y H1 s1 p1 => ⟨_, rfl, a, C, rfl, oc, no, .inl ⟨s1 _ _ ha, fun dx n ne => q y dx H1 s1 p1 n ne⟩⟩⟩
theorem ok_NoSign {f : Addr} {fd : FuncData} (F : Fun K "__init__" "NoSign.__init__" s_NoSign_init f fd) (T : Tb K mg CE) (sys : SysIn base) (D_copied : Df P w K mg base 2 "copied" spCopyW) : FnG P w K mg base CX0 3 f fd ["self", "letter"] (spErrW K C "letter") := by
  refine F.okG sc_NoSign_init (fun vs H Q E h => ?_) (fun cdv A outer s H vs Q E quiet hr h => ?_)
  · obtain ⟨a, x, d, rfl, _⟩ := h
    rfl
  · obtain ⟨a, x1, d1, rfl, ha, oc, no, t1, q⟩ := h
    refine ⟨_, (pss_cons (ps_expr (pe_baseinit (by rfl) T.bE T.bR T.bV (pa_cons (pv 0) (pa_cons (pe_joinedT (pj_cons pe_str (pj_cons (pe_fmtW sys quiet hr (pv 1)) pj_nil))) pa_nil))))
      (pss_one (ps_ost (pv 0) (pe_c D_copied hr (by decide) (by rfl) (pa_cons (pv 1) pa_nil)) rfl))), ?_⟩
    have z1 := t1.sz
    have h0 : (Str.empty ++ ("there is no code for " : Str)).length ≤ 1000 := by decide +kernel
    refine ⟨_, rfl, _, rfl, ?_, _, rfl, d1, t1.pw, t1.te, d1.shown, rfl, ?_, a, C, _, rfl, (by show 1 ≤ 1000; decide), oc, ha, ?_⟩
    · simp only [len_app, sizeLine_eq]
      try simp only [len_app] at *
      omega
    · simp only [len_app, sizeLine_eq]
      try simp only [len_app] at *
      omega
    · exact ⟨_, rfl, x1, d1, rfl, t1.tl, t1.pw, fun y H1 s1 p1 => ⟨_, rfl, a, C, rfl, oc, no, .inl ⟨s1 _ _ ha, fun dx n ne => q y dx H1 s1 p1 n ne⟩⟩⟩
theorem ok_Unlike {f : Addr} {fd : FuncData} (F : Fun K "__init__" "Unlike.__init__" s_Unlike_init f fd) (T : Tb K mg CE) (sys : SysIn base) (D_copied : Df P w K mg base 2 "copied" spCopyW) : FnG P w K mg base CX0 3 f fd ["self", "letter"] (spErrW K C "letter") := by
  refine F.okG sc_Unlike_init (fun vs H Q E h => ?_) (fun cdv A outer s H vs Q E quiet hr h => ?_)
  · obtain ⟨a, x, d, rfl, _⟩ := h
    rfl
  · obtain ⟨a, x1, d1, rfl, ha, oc, no, t1, q⟩ := h
    refine ⟨_, (pss_cons (ps_expr (pe_baseinit (by rfl) T.bE T.bR T.bV (pa_cons (pv 0) (pa_cons (pe_joinedT (pj_cons (pe_fmtW sys quiet hr (pv 1)) (pj_cons pe_str pj_nil))) pa_nil))))
      (pss_one (ps_ost (pv 0) (pe_c D_copied hr (by decide) (by rfl) (pa_cons (pv 1) pa_nil)) rfl))), ?_⟩
    have z1 := t1.sz
    have h0 : (" is told in two unlike ways" : Str).length ≤ 1000 := by decide +kernel
    have he : Str.empty.length ≤ 1000 := by decide +kernel
    refine ⟨_, rfl, _, rfl, d1, t1.pw, t1.te, d1.shown, rfl, ?_, _, rfl, ?_, a, C, _, rfl, (by show 1 ≤ 1000; decide), oc, ha, ?_⟩
    · simp only [len_app, sizeLine_eq]
      try simp only [len_app] at *
      omega
    · simp only [len_app, sizeLine_eq]
      try simp only [len_app] at *
      omega
    · exact ⟨_, rfl, x1, d1, rfl, t1.tl, t1.pw, fun y H1 s1 p1 => ⟨_, rfl, a, C, rfl, oc, no, .inl ⟨s1 _ _ ha, fun dx n ne => q y dx H1 s1 p1 n ne⟩⟩⟩
end
end V8

set_option Elab.async false
set_option linter.all false
set_option maxRecDepth 100000
set_option maxHeartbeats 8000000
/-! Errors made and kept: their fields. -/
namespace V8
open PySem PySem.Spec PyProof.Rows L2
section
variable (P : Program) (w : World) (K : PySem.W.Frag) (mg : Str → Option Value) (base : Heap)
structure Er1 (x fld : Str) (C : Addr) : Prop where
  oc : OexC K C
  xc : ExcC K C
  no : PySem.W.findIn K (.ref C) fld = some none
  hm : mg x = some (.ref C)
  ex : ∃ (fI : Addr) (fd : FuncData) (ps : List Str), PySem.W.findIn K (.ref C) "__init__" = some (some (.ref fI)) ∧ PySem.W.typeIn K (.ref fI) = some (.type "function") ∧ FnG P w K mg base CX0 3 fI fd ps (spErrW K C fld) ∧ Binds K fd ps [] ∧ KBn K fd ps 1 [fld] (fun us ws => us ++ ws) (fun vs zs => vs ++ zs)
structure Er2 (x f1 f2 : Str) (C : Addr) : Prop where
  oc : OexC K C
  xc : ExcC K C
  n1 : PySem.W.findIn K (.ref C) f1 = some none
  n2 : PySem.W.findIn K (.ref C) f2 = some none
  hm : mg x = some (.ref C)
  ex : ∃ (fI : Addr) (fd : FuncData) (ps : List Str), PySem.W.findIn K (.ref C) "__init__" = some (some (.ref fI)) ∧ PySem.W.typeIn K (.ref fI) = some (.type "function") ∧ FnG P w K mg base CX0 3 fI fd ps (spErrW2 K C f1 f2) ∧ Binds K fd ps [] ∧ KBn K fd ps 1 [f2, f1] (fun us ws => us ++ ws.reverse) (fun vs zs => vs ++ zs.reverse)
structure Er0 (x : Str) (C : Addr) : Prop where
  oc : OexC K C
  xc : ExcC K C
  hm : mg x = some (.ref C)
  ex : ∃ (fI : Addr) (fd : FuncData) (ps : List Str), PySem.W.findIn K (.ref C) "__init__" = some (some (.ref fI)) ∧ PySem.W.typeIn K (.ref fI) = some (.type "function") ∧ FnG P w K mg base CX0 3 fI fd ps (spErrW0 K C) ∧ Binds K fd ps []
end
def End1 (K : PySem.W.Frag) (C : Addr) (fld : Str) (x : V) (H1 : Hp) (Q : VK) : Prop := ∃ d, Th1 H1 x d ∧ ∀ a y H2, H1 a = none → Same H1 H2 → KeptX K H2 a C [(fld, y)] → PyW H2 y d → Q (.ref a) H2
def End2 (K : PySem.W.Frag) (C : Addr) (f1 f2 : Str) (x1 x2 : V) (H1 : Hp) (Q : VK) : Prop := ∃ d1 d2, Th1 H1 x1 d1 ∧ Th1 H1 x2 d2 ∧ ∀ a y1 y2 H2, H1 a = none → Same H1 H2 → KeptX K H2 a C [(f2, y2), (f1, y1)] → PyW H2 y1 d1 → PyW H2 y2 d2 → Q (.ref a) H2
def tE1 (K : PySem.W.Frag) (C : Addr) (fld : Str) (ta : TA) : TE := fun σ H Q => ta σ H fun vs H1 => ∃ x, vs = [x] ∧ End1 K C fld x H1 Q
def tE2 (K : PySem.W.Frag) (C : Addr) (f1 f2 : Str) (ta : TA) : TE := fun σ H Q => ta σ H fun vs H1 => ∃ x1 x2, vs = [x1, x2] ∧ End2 K C f1 f2 x1 x2 H1 Q
def tE2K (K : PySem.W.Frag) (C : Addr) (f1 f2 : Str) (ta : TA) : TE := fun σ H Q => ta σ H fun vs H1 => ∃ x1 x2, vs = [x2, x1] ∧ End2 K C f1 f2 x1 x2 H1 Q
def tE0 (C : Addr) : TE := fun σ H Q => ∀ a H2, H a = none → Same H H2 → H2 a = some (CaughtO (.ref C) none a) → Q (.ref a) H2
theorem end1 {K : PySem.W.Frag} {C : Addr} {fld : Str} {x : V} {H1 : Hp} {Q : VK} {E : XK} (oc : OexC K C) (xc : ExcC K C) (no : PySem.W.findIn K (.ref C) fld = some none) (h : End1 K C fld x H1 Q) (a : Addr) (na : H1 a = none) : spErrW K C fld [.ref a, x] (upd H1 a (exo a C none)) (EndE C a Q) E := by
  obtain ⟨d, t, q⟩ := h
  have s0 : Same H1 (upd H1 a (exo a C none)) := same_put (s := Same.refl H1) na
  refine ⟨a, x, d, rfl, upd_same, oc, no, t.same s0, fun y dx H2 s2 p2 ndx ne => ⟨rfl, .inl ⟨dx, [(fld, y)], upd_same, by rw [upd_ne ne]; exact upd_same, ?_⟩⟩⟩
  have ha2 : H2 a = some (exo a C none) := s2 _ _ upd_same
  refine q a y _ na (fun b o e => ?_) ⟨⟨dx, by rw [upd_ne (Ne.symm ne)]; exact upd_same, upd_same⟩, xc⟩ (p2.keep fun b o e k => ?_)
  · have nb : b ≠ a := ne_of_none e na
    have e2 : H2 b = some o := s2 _ _ (s0 _ _ e)
    have nd : b ≠ dx := ne_of_none e2 ndx
    rw [upd_ne nd, upd_ne nb, upd_ne nb, upd_ne nd]
    exact e2
  · have nd : b ≠ dx := ne_of_none e ndx
    have nb : b ≠ a := fun z => by
      rw [z, ha2] at e
      cases e
      rcases k with ⟨xs, k⟩ | ⟨xs, k⟩ | ⟨xs, k⟩ <;> cases k
    rw [upd_ne nd, upd_ne nb, upd_ne nb, upd_ne nd]
    exact e
theorem end2 {K : PySem.W.Frag} {C : Addr} {f1 f2 : Str} {x1 x2 : V} {H1 : Hp} {Q : VK} {E : XK} (oc : OexC K C) (xc : ExcC K C) (n1 : PySem.W.findIn K (.ref C) f1 = some none) (n2 : PySem.W.findIn K (.ref C) f2 = some none) (h : End2 K C f1 f2 x1 x2 H1 Q) (a : Addr) (na : H1 a = none) : spErrW2 K C f1 f2 [.ref a, x1, x2] (upd H1 a (exo a C none)) (EndE C a Q) E := by
  obtain ⟨d1, d2, t1, t2, q⟩ := h
  have s0 : Same H1 (upd H1 a (exo a C none)) := same_put (s := Same.refl H1) na
  refine ⟨a, x1, x2, d1, d2, rfl, upd_same, oc, n1, n2, t1.same s0, t2.same s0, fun y1 y2 dx H2 s2 p1 p2 ndx ne e1 e2 => ⟨rfl, .inl ⟨dx, [(f2, y2), (f1, y1)], by rw [upd_ne (Ne.symm ne)]; exact e2, upd_same, ?_⟩⟩⟩
  have kp : ∀ b o, H2 b = some o → ((∃ xs, o = .tup xs) ∨ (∃ xs, o = .lst xs) ∨ ∃ xs, o = .dK xs) → upd (upd (upd H2 dx (exd dx [(f2, y2), (f1, y1)])) a (CaughtO (.ref C) (some dx) a)) dx (.xd [(f2, y2), (f1, y1)]) b = some o := fun b o e k => by
    have nd : b ≠ dx := fun z => by
      rw [z, e1] at e
      cases e
      rcases k with ⟨xs, k⟩ | ⟨xs, k⟩ | ⟨xs, k⟩ <;> cases k
    have nb : b ≠ a := fun z => by
      rw [z, e2] at e
      cases e
      rcases k with ⟨xs, k⟩ | ⟨xs, k⟩ | ⟨xs, k⟩ <;> cases k
    rw [upd_ne nd, upd_ne nb, upd_ne nd]
    exact e
  refine q a y1 y2 _ na (fun b o e => ?_) ⟨⟨dx, by rw [upd_ne (Ne.symm ne)]; exact upd_same, upd_same⟩, xc⟩ (p1.keep kp) (p2.keep kp)
  have nb : b ≠ a := ne_of_none e na
  have nd : b ≠ dx := ne_of_none (s0 _ _ e) ndx
  rw [upd_ne nd, upd_ne nb, upd_ne nd]
  exact s2 _ _ (s0 _ _ e) nb
section
variable {X : Cx} {j : Nat} {x fld f1 f2 : Str} {C : Addr} {p pos : Pos} {e e' : Expr} {es : List Expr} {ta tk : TA} {kws : List Keyword}
theorem pe_e1 (c : Er1 X.prog X.w X.K X.mg X.base x fld C) (g : Quiet X.A) (r : Room j X.A) (hj : 4 ≤ j) (hg : Gl X x) (ha : PA X (e :: es) ta)
    (hdb : (x == ("__debug__" : Str)) = false := by decide) (he : starEach (e :: es) X.env = (false, eval e X.env) :: starEach es X.env := by rfl) (hpl : (backTo pos (starEach es X.env)).any (·.1) = false := by rfl) : PE X (.Call (.Name x p) (e :: es) [] pos) (tE1 X.K C fld ta) := by
  obtain ⟨fI, fd, ps, iC, tI, Fn, b, kb⟩ := c.ex
  refine ⟨fun pins s σ H Q I h => wpAny_Call_Name_kw (ld_glob I hg c.hm ?_ hdb)⟩
  refine PySem.W.callWith_K (h₀ := X.base) I.ok.mod.kin c.oc.kC (thn (ha.run pos pins s σ H _ I h) fun us s1 z => ?_) he hpl
  obtain ⟨xs, H1, J, v, xx, rfl, q⟩ := z
  exact ⟨J.kIn, er_core c.oc iC tI Fn g (r.mono hj) b pass0 J v (by show 1 ≤ 1000; decide) fun a na => end1 c.oc c.xc c.no q a na⟩
theorem pe_e1K (c : Er1 X.prog X.w X.K X.mg X.base x fld C) (g : Quiet X.A) (r : Room j X.A) (hj : 4 ≤ j) (hg : Gl X x) (hkw : PK X kws tk) (hall : (backToKw pos (keywordEach kws X.env)).all (·.1.isSome) = true := by rfl) (hks : (backToKw pos (keywordEach kws X.env)).filterMap (·.1) = [fld] := by rfl) (hdb : (x == ("__debug__" : Str)) = false := by decide)
    (hpl : ((backTo pos (starEach [] X.env)).any (·.1) || (backToKw pos (keywordEach kws X.env)).any (·.1.isNone)) = false := by rfl) : PE X (.Call (.Name x p) [] kws pos) (tE1 X.K C fld tk) := by
  obtain ⟨fI, fd, ps, iC, tI, Fn, b, kb⟩ := c.ex
  refine ⟨fun pins s σ H Q I h => wpAny_Call_Name_kw (ld_glob I hg c.hm ?_ hdb)⟩
  refine PySem.W.callWith_KW0 (h₀ := X.base) I.ok.mod.kin c.oc.kC hall ?_ hpl
  refine thn (hkw.run pos pins s σ H _ I h) fun ws s2 ⟨zs, H2, I2, rz, xx, ez, q2⟩ => ⟨I2.kIn, ?_⟩
  subst ez
  rw [hks]
  exact er_coreK c.oc iC tI Fn g (r.mono hj) kb pass0 I2 rz rfl fun a na => end1 c.oc c.xc c.no q2 a na
theorem pe_e2 (c : Er2 X.prog X.w X.K X.mg X.base x f1 f2 C) (g : Quiet X.A) (r : Room j X.A) (hj : 4 ≤ j) (hg : Gl X x) (ha : PA X (e :: es) ta)
    (hdb : (x == ("__debug__" : Str)) = false := by decide) (he : starEach (e :: es) X.env = (false, eval e X.env) :: starEach es X.env := by rfl) (hpl : (backTo pos (starEach es X.env)).any (·.1) = false := by rfl) : PE X (.Call (.Name x p) (e :: es) [] pos) (tE2 X.K C f1 f2 ta) := by
  obtain ⟨fI, fd, ps, iC, tI, Fn, b, kb⟩ := c.ex
  refine ⟨fun pins s σ H Q I h => wpAny_Call_Name_kw (ld_glob I hg c.hm ?_ hdb)⟩
  refine PySem.W.callWith_K (h₀ := X.base) I.ok.mod.kin c.oc.kC (thn (ha.run pos pins s σ H _ I h) fun us s1 z => ?_) he hpl
  obtain ⟨xs, H1, J, v, x1, x2, rfl, q⟩ := z
  exact ⟨J.kIn, er_core c.oc iC tI Fn g (r.mono hj) b pass0 J v (by show 2 ≤ 1000; decide) fun a na => end2 c.oc c.xc c.n1 c.n2 q a na⟩
theorem pe_e2K (c : Er2 X.prog X.w X.K X.mg X.base x f1 f2 C) (g : Quiet X.A) (r : Room j X.A) (hj : 4 ≤ j) (hg : Gl X x) (hkw : PK X kws tk) (hall : (backToKw pos (keywordEach kws X.env)).all (·.1.isSome) = true := by rfl) (hks : (backToKw pos (keywordEach kws X.env)).filterMap (·.1) = [f2, f1] := by rfl) (hdb : (x == ("__debug__" : Str)) = false := by decide)
    (hpl : ((backTo pos (starEach [] X.env)).any (·.1) || (backToKw pos (keywordEach kws X.env)).any (·.1.isNone)) = false := by rfl) : PE X (.Call (.Name x p) [] kws pos) (tE2K X.K C f1 f2 tk) := by
  obtain ⟨fI, fd, ps, iC, tI, Fn, b, kb⟩ := c.ex
  refine ⟨fun pins s σ H Q I h => wpAny_Call_Name_kw (ld_glob I hg c.hm ?_ hdb)⟩
  refine PySem.W.callWith_KW0 (h₀ := X.base) I.ok.mod.kin c.oc.kC hall ?_ hpl
  refine thn (hkw.run pos pins s σ H _ I h) fun ws s2 ⟨zs, H2, I2, rz, x1, x2, ez, q2⟩ => ⟨I2.kIn, ?_⟩
  subst ez
  rw [hks]
  exact er_coreK c.oc iC tI Fn g (r.mono hj) kb pass0 I2 rz rfl fun a na => end2 c.oc c.xc c.n1 c.n2 q2 a na
theorem pe_e0 (c : Er0 X.prog X.w X.K X.mg X.base x C) (g : Quiet X.A) (r : Room j X.A) (hj : 4 ≤ j) (hg : Gl X x) (hdb : (x == ("__debug__" : Str)) = false := by decide) : PE X (.Call (.Name x p) [] [] pos) (tE0 C) := by
  obtain ⟨fI, fd, ps, iC, tI, Fn, b⟩ := c.ex
  refine ⟨fun pins s σ H Q I h => wpAny_Call_Name_kw (ld_glob I hg c.hm ?_ hdb)⟩
  exact PySem.W.callWith_K0 I.kIn c.oc.kC (er_core (us := []) (xs := []) c.oc iC tI Fn g (r.mono hj) b pass0 I .nil (by decide) fun a na => ⟨a, rfl, upd_same, c.oc, rfl, .inr ⟨upd_same, h a _ na (by rw [upd_upd]; exact same_put (s := Same.refl H) na) upd_same⟩⟩)
end
/-! isinstance of such an error -/
structure KeptN (K : PySem.W.Frag) (H : Hp) (a D : Addr) : Prop where
  at_ : H a = some (CaughtO (.ref D) none a)
  cl : ExcC K D
/-- an error of the class D -/
def ErrAt (K : PySem.W.Frag) (H : Hp) (a D : Addr) : Prop := (∃ fs, KeptX K H a D fs) ∨ KeptN K H a D
def rIsE (K : PySem.W.Frag) : List V → Hp → VK → Prop := fun xs H Q => ∃ (a D : Addr) (c : V) (cv : Value) (b : Bool), xs = [.ref a, c] ∧ ErrAt K H a D ∧ (∀ u, RelV c u → u = cv) ∧ PySem.W.kitOne K (.ref D) cv = some b ∧ Q (.bl b) H
theorem call_isE {X : Cx} : CallR X (.builtin "isinstance") (rIsE X.K) := by
  intro pins s σ H xs us Q I r h
  obtain ⟨a, D, c, cv, b, rfl, k, hc, e, q⟩ := h
  rcases k with ⟨fs, k⟩ | k
  · exact call_isK pins s σ H _ us Q I r ⟨a, D, fs, c, cv, b, rfl, k, hc, e, q⟩
  · match us, r with
    | [u1, u2], .cons r1 (.cons r2 .nil) =>
      obtain rfl : u1 = Value.ref a := r1
      rw [hc _ r2]
      obtain ⟨⟨oe, vs, q1, ⟨q2, q3⟩, q4⟩, _, _⟩ := I.hok a _ k.at_
      have J : PySem.W.InstAt s.heap a oe D none := ⟨q1, q2, by unfold PySem.W.notCls; rw [q4], by rw [q3]; trivial⟩
      have C := k.cl
      obtain ⟨cd, e1, _⟩ := PySem.W.any_some C.hd
      exact PySem.W.kia_one (PySem.W.kitx_exc (by rw [e1]; rfl) C.hg C.hk C.hs C.ha C.hn C.ht C.hm) I.kIn J e (fun z => nomatch z) fun tk => ⟨.bl b, H, I.tok _, rfl, q⟩
theorem ErrAt.same {K : PySem.W.Frag} {H H2 : Hp} {a D : Addr} (e : ErrAt K H a D) (s : Same H H2) : ErrAt K H2 a D := by
  rcases e with ⟨fs, ⟨d, h1, h2⟩, c⟩ | ⟨h, c⟩
  · exact .inl ⟨fs, ⟨d, s _ _ h1, s _ _ h2⟩, c⟩
  · exact .inr ⟨s _ _ h, c⟩
/-! Such an error raised. -/
theorem pmk_one {X : Cx} {j : Nat} {x f1 : Str} {C : Addr} {p pos : Pos} {e : Expr} {es : List Expr} {ta : TA} (c : Er1 X.prog X.w X.K X.mg X.base x f1 C) (g : Quiet X.A) (r : Room j X.A) (hj : 4 ≤ j) (hg : Gl X x) (ha : PA X (e :: es) ta)
    (hdb : (x == ("__debug__" : Str)) = false := by decide) (he : starEach (e :: es) X.env = (false, eval e X.env) :: starEach es X.env := by rfl) (hpl : (backTo pos (starEach es X.env)).any (·.1) = false := by rfl) : PMk X (.Call (.Name x p) (e :: es) [] pos) (tMkO C (spErrW X.K C f1) [] ta) := by
  obtain ⟨fI, fd, ps, iC, tI, Fn, b, kb⟩ := c.ex
  exact (pmk_oexG c.oc iC tI Fn g (r.mono hj) b pass0 hg c.hm ha hdb he hpl).pmk
theorem pmk_two {X : Cx} {j : Nat} {x f1 f2 : Str} {C : Addr} {p pos : Pos} {e : Expr} {es : List Expr} {ta : TA} (c : Er2 X.prog X.w X.K X.mg X.base x f1 f2 C) (g : Quiet X.A) (r : Room j X.A) (hj : 4 ≤ j) (hg : Gl X x) (ha : PA X (e :: es) ta)
    (hdb : (x == ("__debug__" : Str)) = false := by decide) (he : starEach (e :: es) X.env = (false, eval e X.env) :: starEach es X.env := by rfl) (hpl : (backTo pos (starEach es X.env)).any (·.1) = false := by rfl) : PMk X (.Call (.Name x p) (e :: es) [] pos) (tMkO C (spErrW2 X.K C f1 f2) [] ta) := by
  obtain ⟨fI, fd, ps, iC, tI, Fn, b, kb⟩ := c.ex
  exact (pmk_oexG c.oc iC tI Fn g (r.mono hj) b pass0 hg c.hm ha hdb he hpl).pmk
/-- what is raised: an error of class C, its field told -/
def Rz1 (C : Addr) (fld : Str) (x : V) (H : Hp) (E : XK) : Prop := ∃ d, Th1 H x d ∧ ∀ dx y H2, Same H H2 → PyW H2 y d → H2 dx = some (.xd [(fld, y)]) → E (.ref C) (some dx) H2
theorem rz1 {K : PySem.W.Frag} {C : Addr} {fld : Str} {x : V} {H : Hp} {E : XK} {E0 : XK} (oc : OexC K C) (no : PySem.W.findIn K (.ref C) fld = some none) (h : Rz1 C fld x H E) (a : Addr) (na : H a = none) :
    spErrW K C fld (.ref a :: ([x] ++ [])) (upd H a (exo a C none)) (fun v H2 => v = .non ∧ ∃ (d : Addr) (fs : List (Str × V)), H2 a = some (exo a C (some d)) ∧ H2 d = some (exd d fs) ∧ H d = none ∧ E (.ref C) (some d) (upd (del H2 a) d (.xd fs))) E0 := by
  obtain ⟨d, t, q⟩ := h
  have s0 : Same H (upd H a (exo a C none)) := same_put (s := Same.refl H) na
  refine ⟨a, x, d, rfl, upd_same, oc, no, t.same s0, fun y dx H2 s2 p2 ndx ne => ⟨rfl, dx, [(fld, y)], upd_same, by rw [upd_ne ne]; exact upd_same, ?_, ?_⟩⟩
  · exact same_none (fun b o e => s2 _ _ (s0 _ _ e)) ndx
  · have keep : ∀ b o, H b = some o → upd (del (upd (upd H2 dx (exd dx [(fld, y)])) a (exo a C (some dx))) a) dx (.xd [(fld, y)]) b = some o := fun b o e => by
      have e2 : H2 b = some o := s2 _ _ (s0 _ _ e)
      rw [upd_ne (ne_of_none e2 ndx), del_ne (ne_of_none e na), upd_ne (ne_of_none e na), upd_ne (ne_of_none e2 ndx)]
      exact e2
    refine q dx y _ keep (p2.keep fun b o e k => ?_) upd_same
    have nd : b ≠ dx := ne_of_none e ndx
    have nb : b ≠ a := fun z => by
      rw [z, s2 _ _ upd_same] at e
      cases e
      rcases k with ⟨xs, k⟩ | ⟨xs, k⟩ | ⟨xs, k⟩ <;> cases k
    rw [upd_ne nd, del_ne nb, upd_ne nb, upd_ne nd]
    exact e
end V8

set_option Elab.async false
set_option linter.all false
set_option maxRecDepth 100000
set_option maxHeartbeats 4000000
/-! A key looked for among entries of any kinds, tuples beside flat ones. -/
namespace MX
open PySem PySem.Spec PySem.SeqAt PyProof.Rows
section
variable {prog : Program} {w : World} {A : Around} {E : Value → Shared → Prop} {s : Shared} {d : Addr} {o : Obj} {es : Array DictEntry} {ep : Nat} {v : Value} {hh : Int} {m : DictEntry → Bool}
/-- what the search of v, whose hash is hh, meets: m says which entry is equal to v -/
structure Look (prog : Program) (w : World) (A : Around) (s : Shared) (es : Array DictEntry) (v : Value) (hh : Int) (m : DictEntry → Bool) : Prop where
  eqv : ∀ e ∈ es, EqAt A s e.key v (m e)
  hash : ∀ e ∈ es, m e = true → e.hash = hh
  same : ∀ e ∈ es, e.key = v → e.hash = hh
  quiet : QuietAt prog w 8 s v
  quiets : ∀ e ∈ es, QuietAt prog w 8 s e.key
  txts : ∀ x t, v = .str x t → ∀ e ∈ es, isExactStrKey e.key = true → e.key.isStr x = m e
  one : ∀ i j (hi : i < es.size) (hj : j < es.size), m es[i] = true → m es[j] = true → i = j
theorem Look.find (M : Look prog w A s es v hh m) {i : Nat} (hi : i < es.size) (h : m es[i] = true) : es.findIdx? m = some i :=
  Array.findIdx?_eq_some_iff_getElem.mpr ⟨hi, h, fun j hj => by
    intro z
    have := M.one j i (by omega) hi z h
    omega⟩
/-- the places of one hash -/
theorem in_places {i : Nat} (hi : i < es.size) (h : es[i].hash = hh) : i ∈ placesWithHash es.size (fun i => es[i]?.map (·.hash)) hh := by
  unfold placesWithHash
  rw [List.mem_filter]
  refine ⟨List.mem_range.mpr hi, ?_⟩
  show (es[i]?.map (·.hash) == some hh) = true
  rw [Array.getElem?_eq_getElem hi, Option.map_some, h]
  exact beq_self_eq_true _
theorem of_places {i : Nat} (h : i ∈ placesWithHash es.size (fun i => es[i]?.map (·.hash)) hh) : ∃ hi : i < es.size, es[i].hash = hh := by
  unfold placesWithHash at h
  rw [List.mem_filter] at h
  have hi := List.mem_range.mp h.1
  refine ⟨hi, ?_⟩
  have z : (es[i]?.map (·.hash) == some hh) = true := h.2
  rw [Array.getElem?_eq_getElem hi, Option.map_some] at z
  exact Option.some.inj (beq_iff_eq.mp z)
theorem places_nodup : (placesWithHash es.size (fun i => es[i]?.map (·.hash)) hh).Nodup := by
  unfold placesWithHash
  exact List.Nodup.sublist List.filter_sublist List.nodup_range
theorem Look.none (M : Look prog w A s es v hh m) (h : ∀ i ∈ placesWithHash es.size (fun i => es[i]?.map (·.hash)) hh, ∀ hi : i < es.size, m es[i] = false) : es.findIdx? m = none :=
  Array.findIdx?_eq_none_iff.mpr fun e he => by
    obtain ⟨i, hi, rfl⟩ := Array.mem_iff_getElem.mp he
    cases z : m es[i] with
    | false => rfl
    | true =>
      have := h i (in_places hi (M.hash _ (Array.getElem_mem hi) z)) hi
      rw [z] at this
      cases this
theorem plain_any {Q : Option Nat → Shared → Prop} (ho : s.heap.get? d = some o) (hd : o.data = .dict es ep) (M : Look prog w A s es v hh m) (h : Q (es.findIdx? m) s) :
    wpAny (model prog w) A (dictWalkPlain d v hh es (placesWithHash es.size (fun i => es[i]?.map (·.hash)) hh)) Q E s := by
  unfold dictWalkPlain
  refine wpAny_bind ?_
  refine wpAny_forIn_list _ (fun rest b s' => s' = s ∧ b = (none, ()) ∧ ∃ done, placesWithHash es.size (fun i => es[i]?.map (·.hash)) hh = done ++ rest ∧ ∀ i ∈ done, ∀ hi : i < es.size, m es[i] = false) _ ?_ ?_ _ _ ⟨rfl, rfl, [], rfl, fun i z => nomatch z⟩
  · rintro x rest b s' ⟨rfl, rfl, done, hp, hno⟩
    obtain ⟨hx, hxh⟩ := of_places (es := es) (hh := hh) (i := x) (by rw [hp]; simp)
    simp only [Array.getElem?_eq_getElem hx]
    rw [if_pos (by rw [hxh]; exact beq_self_eq_true _)]
    refine wpAny_bind (wpAny_dictEpoch ho hd (wpAny_bind (M.eqv _ (Array.getElem_mem hx) _ _ _ _ (wpAny_bind (wpAny_dictEpoch ho hd ?_)))))
    show wpAny _ _ (if (ep != ep) = true then _ else _) _ E _
    rw [if_neg (by simp)]
    cases hm : m es[x] with
    | true =>
      rw [M.find hx hm] at h
      exact wpAny_bind (wpAny_rule (wpAny_pure (wpAny_pure h)))
    | false =>
      refine wpAny_bind (wpAny_rule (wpAny_pure ⟨rfl, rfl, done ++ [x], by rw [hp, List.append_assoc]; rfl, fun i hi hl => ?_⟩))
      rcases List.mem_append.mp hi with z | z
      · exact hno i z hl
      · obtain rfl := List.mem_singleton.mp z
        exact hm
  · rintro b s' ⟨rfl, rfl, done, hp, hno⟩
    rw [List.append_nil] at hp
    rw [M.none (by rw [hp]; exact hno)] at h
    exact wpAny_pure h
theorem may_quiet {stored : List Value} {Q : Bool → Shared → Prop} (qv : QuietAt prog w 8 s v) (qs : ∀ u ∈ stored, QuietAt prog w 8 s u) (h : Q false s) : wpAny (model prog w) A (tableMayTell v stored) Q E s := by
  unfold tableMayTell
  split
  · exact wpAny_pure h
  · refine wpAny_bind (qv _ _ _ ?_)
    simp only [Bool.not_true, Bool.false_eq_true, if_false]
    refine wpAny_bind ?_
    refine wpAny_forIn_list _ (fun rest r s' => s' = s ∧ r = (none, ()) ∧ ∀ u ∈ rest, QuietAt prog w 8 s u) _ ?_ ?_ _ _ ⟨rfl, rfl, qs⟩
    · rintro x rest r s' ⟨rfl, rfl, hr⟩
      refine wpAny_bind (hr x List.mem_cons_self _ _ _ ?_)
      simp only [Bool.not_true, Bool.false_eq_true, if_false]
      exact wpAny_pure ⟨rfl, rfl, fun u hu => hr u (List.mem_cons_of_mem _ hu)⟩
    · rintro r s' ⟨rfl, rfl, _⟩
      exact wpAny_pure h
theorem findIdx_eq {f g : DictEntry → Bool} (h : ∀ e ∈ es, f e = g e) : es.findIdx? f = es.findIdx? g := by
  cases z : es.findIdx? g with
  | none =>
    rw [Array.findIdx?_eq_none_iff] at z ⊢
    intro e he
    rw [h e he]
    exact z e he
  | some i =>
    obtain ⟨hi, h1, h2⟩ := Array.findIdx?_eq_some_iff_getElem.mp z
    exact Array.findIdx?_eq_some_iff_getElem.mpr ⟨hi, by rw [h _ (Array.getElem_mem hi)]; exact h1, fun j hj => by rw [h _ (Array.getElem_mem _)]; exact h2 j hj⟩
theorem not_any (M : Look prog w A s es v hh m) : ¬ (es.any fun e => e.key == v && e.hash != hh) = true := by
  rw [← Array.any_toList, List.any_eq_true]
  rintro ⟨e, hin, hc⟩
  rw [Bool.and_eq_true, beq_iff_eq, bne_iff_ne] at hc
  exact hc.2 (M.same e (Array.mem_toList_iff.mp hin) hc.1)
theorem stored_quiet (M : Look prog w A s es v hh m) : ∀ u ∈ (placesWithHash es.size (fun i => es[i]?.map (·.hash)) hh).filterMap (fun i => es[i]?.map (·.key)), QuietAt prog w 8 s u := by
  intro u hu
  obtain ⟨i, hi, z⟩ := List.mem_filterMap.mp hu
  obtain ⟨hl, _⟩ := of_places hi
  rw [Array.getElem?_eq_getElem hl, Option.map_some] at z
  rw [← Option.some.inj z]
  exact M.quiets _ (Array.getElem_mem hl)
theorem find_any {Q : Option Nat → Shared → Prop} (ho : s.heap.get? d = some o) (hd : o.data = .dict es ep) (M : Look prog w A s es v hh m) (h : Q (es.findIdx? m) s) : wpAny (model prog w) A (dictFind d v hh) Q E s := by
  have hany := not_any M
  have hst := stored_quiet M
  unfold dictFind
  try with_reducible refine wpAny_holding ?_
  refine wpAny_bind (wpAny_dictEntries ho hd ?_)
  have strOne : ∀ x t, v = .str x t → (es.all fun e => isExactStrKey e.key) = true → wpAny (model prog w) A (foundByValue d v es x) Q E s := by
    intro x t ev hs
    have hf : es.findIdx? (fun e => e.key.isStr x) = es.findIdx? m := by
      have all : ∀ e ∈ es, e.key.isStr x = m e := fun e he => M.txts x t ev e he (by
        rw [← Array.all_toList, List.all_eq_true] at hs
        exact hs e (Array.mem_toList_iff.mpr he))
      exact findIdx_eq all
    unfold foundByValue
    rw [hf]
    cases hc : es.findIdx? m with
    | none =>
      rw [hc] at h
      exact wpAny_pure h
    | some i =>
      rw [hc] at h
      obtain ⟨hlt, hi, _⟩ := Array.findIdx?_eq_some_iff_getElem.mp hc
      simp only [Array.getElem?_eq_getElem hlt]
      refine wpAny_bind (wpAny_dictEpoch ho hd (wpAny_bind (M.eqv _ (Array.getElem_mem hlt) _ _ _ _ (wpAny_bind (wpAny_dictEpoch ho hd ?_)))))
      show wpAny _ _ (if (ep != ep) = true then _ else _) _ E _
      rw [if_neg (by simp), hi]
      exact wpAny_bind (wpAny_rule (wpAny_pure h))
  dsimp only
  by_cases hall : ((v :: (placesWithHash es.size (fun i => es[i]?.map (·.hash)) hh).filterMap (fun i => es[i]?.map (·.key))).all carriedByValue) = true
  · rw [if_pos hall]
    split
    · split
      · rename_i hs
        exact strOne _ _ rfl hs
      · exact plain_any ho hd M h
    · exact plain_any ho hd M h
  · rw [if_neg hall]
    rw [if_neg hany]
    have nd := places_nodup (es := es) (hh := hh)
    by_cases hone : ((placesWithHash es.size (fun i => es[i]?.map (·.hash)) hh).filterMap (fun i => es[i]?.map (·.key)) == [v]) = true
    all_goals
      first | rw [if_pos hone] | rw [if_neg hone]
      cases v
      all_goals
        dsimp only
        try (split; (rename_i hs; exact strOne _ _ rfl hs))
        first
          | refine wpAny_bind (wpAny_pure ?_)
          | refine wpAny_bind (may_quiet M.quiet hst ?_)
        rw [if_neg (by simp)]
        refine wpAny_bind ?_
        refine wpAny_forIn_list _ (fun rest b s' => s' = s ∧ ∃ done hit, placesWithHash es.size (fun i => es[i]?.map (·.hash)) hh = done ++ rest ∧ b = (none, hit) ∧ ((hit = none ∧ ∀ i ∈ done, ∀ hi : i < es.size, m es[i] = false) ∨ ∃ i, ∃ hi : i < es.size, hit = some i ∧ i ∈ done ∧ m es[i] = true)) _ ?_ ?_ _ _
          ⟨rfl, [], none, rfl, rfl, .inl ⟨rfl, fun i z => nomatch z⟩⟩
        · rintro x rest b s' ⟨rfl, done, hit, hp, rfl, hH⟩
          obtain ⟨hx, hxh⟩ := of_places (es := es) (hh := hh) (i := x) (by rw [hp]; simp)
          simp only [Array.getElem?_eq_getElem hx]
          rw [if_pos (by rw [hxh]; exact beq_self_eq_true _)]
          refine wpAny_bind (wpAny_dictEpoch ho hd (wpAny_bind (M.eqv _ (Array.getElem_mem hx) _ _ _ _ (wpAny_bind (wpAny_dictEpoch ho hd ?_)))))
          show wpAny _ _ (if (ep != ep) = true then _ else _) _ E _
          rw [if_neg (by simp)]
          cases hm : m es[x] with
          | true =>
            rcases hH with ⟨rfl, hno⟩ | ⟨i, hi, rfl, hd1, hm1⟩
            · simp only [Option.isSome_none, Bool.false_eq_true, if_false, if_true]
              refine wpAny_bind (wpAny_rule ?_)
              split
              · rw [M.find hx hm] at h
                exact wpAny_pure (wpAny_pure h)
              · exact wpAny_pure ⟨rfl, done ++ [x], some x, by rw [hp, List.append_assoc]; rfl, rfl, .inr ⟨x, hx, rfl, by simp, hm⟩⟩
            · have e := M.one i x hi hx hm1 hm
              subst e
              rw [hp] at nd
              exact absurd rfl ((List.nodup_append.mp nd).2.2 i hd1 i (by simp))
          | false =>
            simp only [Bool.false_eq_true, if_false]
            refine wpAny_bind (wpAny_rule ?_)
            try rw [if_neg (by simp)]
            refine wpAny_pure ⟨rfl, done ++ [x], hit, by rw [hp, List.append_assoc]; rfl, rfl, ?_⟩
            rcases hH with ⟨h0, hno⟩ | ⟨i, hi, h1, hd1, hm1⟩
            · refine .inl ⟨h0, fun i hi hl => ?_⟩
              rcases List.mem_append.mp hi with z | z
              · exact hno i z hl
              · obtain rfl := List.mem_singleton.mp z
                exact hm
            · exact .inr ⟨i, hi, h1, List.mem_append.mpr (.inl hd1), hm1⟩
        · rintro b s' ⟨rfl, done, hit, hp, rfl, hH⟩
          rw [List.append_nil] at hp
          rcases hH with ⟨rfl, hno⟩ | ⟨i, hi, rfl, hd1, hm1⟩
          · rw [M.none (by rw [hp]; exact hno)] at h
            exact wpAny_pure h
          · rw [M.find hi hm1] at h
            exact wpAny_pure h
end
end MX

set_option Elab.async false
set_option linter.all false
set_option maxRecDepth 100000
set_option maxHeartbeats 4000000
/-! The same, told by keys: flat ones and tuples of such. -/
namespace MX
open PySem PySem.Spec PySem.SeqAt PyProof.Rows
section
variable {prog : Program} {w : World} {A : Around} {E : Value → Shared → Prop} {s : Shared} {d : Addr} {o : Obj} {es : Array DictEntry} {ep : Nat} {v : Value}
/-- an entry -/
def entN (w : World) (x : NestedKey × Value × Value) : DictEntry := ⟨x.1.hash w, x.2.1, x.2.2⟩
/-- the keys stand there -/
def KeysN (h : Heap) (xs : List (NestedKey × Value × Value)) : Prop := ∀ x ∈ xs, NestedIs h x.1 x.2.1 ∧ x.1.depth ≤ 8
noncomputable def isN (h : Heap) (k : NestedKey) (e : DictEntry) : Bool := @decide (NestedIs h k e.key) (Classical.propDecidable _)
theorem isN_iff {h : Heap} {k : NestedKey} {e : DictEntry} : isN h k e = true ↔ NestedIs h k e.key := by
  unfold isN
  exact @decide_eq_true_iff _ (Classical.propDecidable _)
theorem isN_ent {h : Heap} {k : NestedKey} {x : NestedKey × Value × Value} (hx : NestedIs h x.1 x.2.1) : isN h k (entN w x) = decide (x.1 = k) := by
  cases z : isN h k (entN w x) with
  | true => exact (decide_eq_true (NestedIs.inj _ _ _ hx (isN_iff.mp z))).symm
  | false =>
    refine (decide_eq_false fun e => ?_).symm
    subst e
    have := isN_iff (k := x.1) (e := entN w x) |>.mpr hx
    rw [z] at this
    cases this
theorem ent_of {xs : List (NestedKey × Value × Value)} (he : es.toList = xs.map (entN w)) {e : DictEntry} (h : e ∈ es) : ∃ x ∈ xs, e = entN w x := by
  have z : e ∈ xs.map (entN w) := he ▸ Array.mem_toList_iff.mpr h
  obtain ⟨x, hx, rfl⟩ := List.mem_map.mp z
  exact ⟨x, hx, rfl⟩
theorem ent_size {xs : List (NestedKey × Value × Value)} (he : es.toList = xs.map (entN w)) : es.size = xs.length := by
  rw [← Array.length_toList, he, List.length_map]
theorem ent_at {xs : List (NestedKey × Value × Value)} (he : es.toList = xs.map (entN w)) {i : Nat} (hi : i < es.size) : es[i] = entN w (xs[i]'(by rw [← ent_size he]; exact hi)) := by
  have z : es.toList[i]'(by rw [Array.length_toList]; exact hi) = (xs.map (entN w))[i]'(by rw [List.length_map, ← ent_size he]; exact hi) := by simp only [he]
  rw [List.getElem_map] at z
  rw [← z]
  exact (Array.getElem_toList hi).symm
theorem look_nest {xs : List (NestedKey × Value × Value)} {k : NestedKey} (he : es.toList = xs.map (entN w)) (his : KeysN s.heap xs) (nd : (xs.map (·.1)).Nodup) (hk : NestedIs s.heap k v) (kd : k.depth ≤ 8) (hu : A.units + 8 < cLine) :
    Look prog w A s es v (k.hash w) (isN s.heap k) where
  eqv := fun e h => by
    obtain ⟨x, hx, rfl⟩ := ent_of he h
    have z := eqAt_key x.1 k A s x.2.1 v (his x hx).1 hk (by have := (his x hx).2; omega)
    rw [isN_ent (his x hx).1, NestedKey.decide_eq]
    exact z
  hash := fun e h z => by
    obtain ⟨x, hx, rfl⟩ := ent_of he h
    rw [isN_ent (his x hx).1, decide_eq_true_iff] at z
    show x.1.hash w = _
    rw [z]
  same := fun e h z => by
    obtain ⟨x, hx, rfl⟩ := ent_of he h
    have q := (his x hx).1
    have z2 : x.2.1 = v := z
    rw [z2] at q
    show x.1.hash w = _
    rw [NestedIs.inj _ _ _ q hk]
  quiet := quiet_key k v 8 s hk kd
  quiets := fun e h => by
    obtain ⟨x, hx, rfl⟩ := ent_of he h
    exact quiet_key x.1 _ 8 s (his x hx).1 (his x hx).2
  txts := fun x t ev e h z => by
    subst ev
    cases hk
    cases hek : e.key with
    | str y u =>
      rw [Bool.eq_iff_iff, isN_iff, hek]
      constructor
      · intro q
        have : y = x := by simpa [Value.isStr] using q
        rw [this]
        exact .text _ _
      · intro q
        cases q
        simp [Value.isStr]
    | _ =>
      rw [hek] at z
      cases z
  one := fun i j hi hj h1 h2 => by
    rw [ent_at he hi, isN_ent (his _ (List.getElem_mem _)).1, decide_eq_true_iff] at h1
    rw [ent_at he hj, isN_ent (his _ (List.getElem_mem _)).1, decide_eq_true_iff] at h2
    have pw := List.pairwise_iff_getElem.mp nd
    have li : i < (xs.map (·.1)).length := by rw [List.length_map, ← ent_size he]; exact hi
    have lj : j < (xs.map (·.1)).length := by rw [List.length_map, ← ent_size he]; exact hj
    rcases Nat.lt_trichotomy i j with z | z | z
    · exact absurd (by rw [List.getElem_map, List.getElem_map, h1, h2]) (pw i j li lj z)
    · exact z
    · exact absurd (by rw [List.getElem_map, List.getElem_map, h1, h2]) (pw j i lj li z)
end
end MX

set_option Elab.async false
set_option linter.all false
set_option maxRecDepth 100000
set_option maxHeartbeats 4000000
/-! A dict of flat keys and tuples: what stands under a key, a key stored. -/
namespace MX
open PySem PySem.Spec PySem.SeqAt PyProof.Rows
/-- the dict at d: its keys as keys and as values, and what stands under them, in their order -/
def DictN (w : World) (h : Heap) (d : Addr) (xs : List (NestedKey × Value × Value)) : Prop :=
  ∃ o es ep, h.get? d = some o ∧ o.ExactDict ∧ o.data = .dict es ep ∧ es.toList = xs.map (entN w) ∧ KeysN h xs ∧ (xs.map (·.1)).Nodup
def putN (k : NestedKey) (u : Value) (x : NestedKey × Value × Value) : NestedKey × Value × Value := if x.1 = k then (x.1, x.2.1, u) else x
/-- u stored under k, the key v -/
def storeN (xs : List (NestedKey × Value × Value)) (k : NestedKey) (v u : Value) : List (NestedKey × Value × Value) := if k ∈ xs.map (·.1) then xs.map (putN k u) else xs ++ [(k, v, u)]
def atN (xs : List (NestedKey × Value × Value)) (k : NestedKey) : Option Value := (xs.find? fun x => decide (x.1 = k)).map (·.2.2)
theorem putN_key {k : NestedKey} {u : Value} (xs : List (NestedKey × Value × Value)) : (xs.map (putN k u)).map (·.1) = xs.map (·.1) := by
  rw [List.map_map]
  refine List.map_congr_left fun x _ => ?_
  show (putN k u x).1 = x.1
  unfold putN
  split <;> rfl
theorem atN_none {xs : List (NestedKey × Value × Value)} {k : NestedKey} (h : k ∉ xs.map (·.1)) : atN xs k = none := by
  unfold atN
  rw [List.find?_eq_none.mpr fun x hx => by
    rw [decide_eq_true_iff]
    intro e
    exact h (List.mem_map.mpr ⟨x, hx, e⟩)]
  rfl
theorem atN_some {xs : List (NestedKey × Value × Value)} {k : NestedKey} {x : NestedKey × Value × Value} (nd : (xs.map (·.1)).Nodup) (hx : x ∈ xs) (e : x.1 = k) : atN xs k = some x.2.2 := by
  unfold atN
  induction xs with
  | nil => cases hx
  | cons y ys ih =>
    rw [List.find?_cons]
    rw [List.map_cons, List.nodup_cons] at nd
    rcases List.mem_cons.mp hx with rfl | z
    · rw [decide_eq_true e]
      rfl
    · have ne : y.1 ≠ k := fun q => nd.1 (List.mem_map.mpr ⟨x, z, e.trans q.symm⟩)
      rw [decide_eq_false ne]
      exact ih nd.2 z
section
variable {prog : Program} {w : World} {A : Around} {E : Value → Shared → Prop} {s : Shared} {d : Addr} {o : Obj} {es : Array DictEntry} {ep : Nat} {v u : Value} {k : NestedKey} {xs : List (NestedKey × Value × Value)}
theorem KeysN.keeps {h h' : Heap} (ks : KeysN h xs) (ho : h.get? d = some o) (hd : o.data = .dict es ep) (hs : Heap.SameBut d h h') : KeysN h' xs := fun x hx =>
  ⟨NestedIs.at (fun b ob vs n hb hc => (hs.2 b fun e => by
    subst e
    rw [ho] at hb
    cases hb
    rw [hd] at hc
    cases hc).trans hb) x.1 _ (ks x hx).1, (ks x hx).2⟩
/-- where k stands -/
theorem find_pos (he : es.toList = xs.map (entN w)) {h : Heap} (his : KeysN h xs) : (k ∉ xs.map (·.1) ∧ es.findIdx? (isN h k) = none) ∨ ∃ i, ∃ hi : i < xs.length, xs[i].1 = k ∧ es.findIdx? (isN h k) = some i := by
  cases z : es.findIdx? (isN h k) with
  | none =>
    refine .inl ⟨fun hm => ?_, rfl⟩
    obtain ⟨x, hx, e⟩ := List.mem_map.mp hm
    have q : entN w x ∈ es := Array.mem_toList_iff.mp (he ▸ List.mem_map.mpr ⟨x, hx, rfl⟩)
    have r := Array.findIdx?_eq_none_iff.mp z _ q
    rw [isN_ent (his x hx).1, decide_eq_true e] at r
    cases r
  | some i =>
    obtain ⟨hi, h1, _⟩ := Array.findIdx?_eq_some_iff_getElem.mp z
    have hl : i < xs.length := by rw [← ent_size he]; exact hi
    rw [ent_at he hi, isN_ent (his _ (List.getElem_mem _)).1, decide_eq_true_iff] at h1
    exact .inr ⟨i, hl, h1, rfl⟩
theorem get_nest {Q : Option Value → Shared → Prop} (hm : DictN w s.heap d xs) (hk : NestedIs s.heap k v) (kd : k.depth ≤ 8) (hu : A.units + 8 < cLine) (h : Q (atN xs k) { s with toks := s.toks + k.draws }) : wpAny (model prog w) A (dictGet d v) Q E s := by
  obtain ⟨o, es, ep, ho, hc, hd, he, his, nd⟩ := hm
  unfold dictGet
  try with_reducible refine wpAny_holding ?_
  refine wpAny_bind (pyHash_key k v A s _ hk (by omega) ?_)
  refine wpAny_bind (find_any (s := { s with toks := s.toks + k.draws }) ho hd (look_nest (s := { s with toks := s.toks + k.draws }) he his nd hk kd hu) ?_)
  rcases find_pos (k := k) he his with ⟨hno, e⟩ | ⟨i, hi, hx, e⟩
  · show (fun r s' => wpAny _ _ _ Q E s') (es.findIdx? (isN s.heap k)) _
    rw [e]
    rw [atN_none hno] at h
    exact wpAny_pure h
  · show (fun r s' => wpAny _ _ _ Q E s') (es.findIdx? (isN s.heap k)) _
    rw [e]
    rw [atN_some nd (List.getElem_mem hi) hx] at h
    refine wpAny_bind (wpAny_dictEntries (s := { s with toks := s.toks + k.draws }) ho hd ?_)
    have hi2 : i < es.size := by rw [ent_size he]; exact hi
    rw [Array.getElem?_eq_getElem hi2, ent_at he hi2]
    exact wpAny_pure h
theorem modify_put {i : Nat} (nd : (xs.map (·.1)).Nodup) (hi : i < xs.length) (hx : xs[i].1 = k) : (xs.map (entN w)).modify i (fun e => { e with val := u }) = (xs.map (putN k u)).map (entN w) := by
  refine List.ext_getElem (by simp) fun j h1 h2 => ?_
  have hj : j < xs.length := by simpa using h2
  rw [List.getElem_modify, List.getElem_map, List.getElem_map, List.getElem_map]
  by_cases e : i = j
  · subst e
    rw [if_pos rfl]
    unfold putN
    rw [if_pos hx]
    rfl
  · rw [if_neg e]
    unfold putN
    rw [if_neg fun z => ?_]
    have pw := List.pairwise_iff_getElem.mp nd
    rcases Nat.lt_or_gt_of_ne e with lt | lt
    · exact pw i j (by simpa using hi) (by simpa using hj) lt (by rw [List.getElem_map, List.getElem_map, hx, z])
    · exact pw j i (by simpa using hj) (by simpa using hi) lt (by rw [List.getElem_map, List.getElem_map, hx, z])
theorem set_nest {Q : Unit → Shared → Prop} (hm : DictN w s.heap d xs) (hk : NestedIs s.heap k v) (kd : k.depth ≤ 8) (hu : A.units + 8 < cLine) (few : xs.length ≤ sizeLine)
    (hQ : ∀ h', DictN w h' d (storeN xs k v u) → Heap.SameBut d s.heap h' → Q () { s with heap := h', toks := s.toks + k.draws }) : wpAny (model prog w) A (dictSet d v u) Q E s := by
  obtain ⟨o, es, ep, ho, hc, hd, he, his, nd⟩ := hm
  unfold dictSet
  try with_reducible refine wpAny_holding ?_
  refine wpAny_bind (pyHash_key k v A s _ hk (by omega) ?_)
  unfold dictSetHashed
  try with_reducible refine wpAny_holding ?_
  refine wpAny_bind (find_any (s := { s with toks := s.toks + k.draws }) ho hd (look_nest (s := { s with toks := s.toks + k.draws }) he his nd hk kd hu) ?_)
  rcases find_pos (k := k) he his with ⟨hno, e⟩ | ⟨i, hi, hx, e⟩
  · show (fun r s' => wpAny _ _ _ Q E s') (es.findIdx? (isN s.heap k)) _
    rw [e]
    refine wpAny_bind (wpAny_rule (wpAny_updateDictKeys (hz := by have e := ent_size he; omega) (s := { s with toks := s.toks + k.draws }) ho hd (hQ _ ⟨_, _, ep + 1, Heap.get?_update_self _ ho (Obj.isFreed_of_dict (Obj.data_mapDictKeys hd _)),
      hc.mapDictKeys _, Obj.data_mapDictKeys hd _, ?_, ?_, ?_⟩ (Heap.SameBut.update ..))))
    · unfold storeN
      rw [if_neg hno]
      simp [he, entN]
    · unfold storeN
      rw [if_neg hno]
      have all : KeysN s.heap (xs ++ [(k, v, u)]) := fun x hx => by
        rcases List.mem_append.mp hx with z | z
        · exact his x z
        · obtain rfl := List.mem_singleton.mp z
          exact ⟨hk, kd⟩
      exact KeysN.keeps all ho hd (Heap.SameBut.update ..)
    · unfold storeN
      rw [if_neg hno, List.map_append, List.nodup_append]
      refine ⟨nd, by simp, ?_⟩
      intro x hx y hy
      simp only [List.map_cons, List.map_nil, List.mem_singleton] at hy
      subst hy
      exact fun e => hno (e ▸ hx)
  · show (fun r s' => wpAny _ _ _ Q E s') (es.findIdx? (isN s.heap k)) _
    rw [e]
    have hin : k ∈ xs.map (·.1) := List.mem_map.mpr ⟨xs[i], List.getElem_mem hi, hx⟩
    refine wpAny_bind (wpAny_rule (wpAny_bind (wpAny_updateDict (s := { s with toks := s.toks + k.draws }) ho hd (wpAny_point (hQ _ ⟨_, _, ep, Heap.get?_update_self _ ho (Obj.isFreed_of_dict (Obj.data_mapDict hd _)),
      hc.mapDict _, Obj.data_mapDict hd _, ?_, ?_, ?_⟩ (Heap.SameBut.update ..))))))
    · unfold storeN
      rw [if_pos hin, Array.toList_modify, he]
      exact modify_put nd hi hx
    · unfold storeN
      rw [if_pos hin]
      have all : KeysN s.heap (xs.map (putN k u)) := fun x hx => by
        obtain ⟨y, hy, rfl⟩ := List.mem_map.mp hx
        unfold putN
        split <;> exact his y hy
      exact KeysN.keeps all ho hd (Heap.SameBut.update ..)
    · unfold storeN
      rw [if_pos hin, putN_key]
      exact nd
end
end MX

set_option Elab.async false
set_option linter.all false
set_option maxRecDepth 100000
set_option maxHeartbeats 4000000
/-! k in d, d[k], d[k] = u for such a dict. -/
namespace MX
open PySem PySem.Spec PySem.SeqAt PyProof.Rows
section
variable {prog : Program} {w : World} {A : Around} {E : Value → Shared → Prop} {s : Shared} {d : Addr} {v u : Value} {k : NestedKey} {xs : List (NestedKey × Value × Value)}
theorem DictN.typeIs (hm : DictN w s.heap d xs) : s.TypeIs (.ref d) "dict" := let ⟨o, _, _, ho, hc, _⟩ := hm; ⟨o, ho, hc.1⟩
theorem contains_nest {Q : Bool → Shared → Prop} (hm : DictN w s.heap d xs) (hd : (d == sysModules) = false) (hk : NestedIs s.heap k v) (kd : k.depth ≤ 8) (hu : A.in1.units + 8 < cLine)
    (h : Q (atN xs k).isSome { s with toks := s.toks + k.draws }) : wpAny (model prog w) A (contains (.ref d) v) Q E s := by
  unfold contains
  try with_reducible refine wpAny_holding ?_
  refine wpAny_bind (wpAny_specialOf (hm.typeIs) slot_dict_contains.lookup ?_)
  show wpAny _ _ (if (some (Value.builtin "dict.__contains__") == some Value.none) = true then _ else _) _ E s
  rw [if_neg (by rw [beq_builtin_none]; exact Bool.false_ne_true)]
  refine wpAny_bind (wpAny_callSpecialUnlessNone?_slot (name := Str.ofString "__contains__") (hm.typeIs) slot_dict_contains
    (wpAny_call_entry slot_dict_contains (hm.typeIs) entry_dict_contains ?_ (args_dict_contains _ _)))
  show wpAny _ _ (dictGet d v >>= _) _ _ s
  refine wpAny_bind (get_nest hm hk kd hu ?_)
  cases hf : atN xs k with
  | some p =>
    rw [hf] at h
    show wpAny _ _ (ret (.bool true)) _ _ _
    exact wpAny_pure ⟨_, rfl, wpAny_truthy_bool h⟩
  | none =>
    rw [hf] at h
    show wpAny _ _ (Builtin.Dict.pendingKey? d v >>= _) _ _ _
    exact wpAny_bind (wpAny_pendingKey_other hd (wpAny_pure ⟨_, rfl, wpAny_truthy_bool h⟩))
theorem getItem_nest {p : Value} {Q : Value → Shared → Prop} (hm : DictN w s.heap d xs) (hk : NestedIs s.heap k v) (kd : k.depth ≤ 8) (hu : A.in1.units + 8 < cLine) (hp : atN xs k = some p)
    (h : Q p { s with toks := s.toks + k.draws }) : wpAny (model prog w) A (getItem (.ref d) v) Q E s := by
  unfold getItem
  try with_reducible refine wpAny_holding ?_
  refine wpAny_bind (wpAny_sequenceKey (hm.typeIs) (by decide) ?_)
  refine wpAny_bind (wpAny_callSpecial?_slot (name := Str.ofString "__getitem__") (hm.typeIs) slot_dict_getitem
    (wpAny_call_entry slot_dict_getitem (hm.typeIs) entry_dict_getitem ?_ (args_dict_getitem _ _)))
  show wpAny _ _ (dictGet d v >>= _) _ _ s
  refine wpAny_bind (get_nest hm hk kd hu ?_)
  rw [hp]
  exact wpAny_pure ⟨p, rfl, wpAny_pure h⟩
theorem setItem_nest {Q : Unit → Shared → Prop} (hm : DictN w s.heap d xs) (hk : NestedIs s.heap k v) (kd : k.depth ≤ 8) (hu : A.in1.units + 8 < cLine) (few : xs.length ≤ sizeLine)
    (hQ : ∀ h', DictN w h' d (storeN xs k v u) → Heap.SameBut d s.heap h' → Q () { s with heap := h', toks := s.toks + k.draws }) : wpAny (model prog w) A (setItem (.ref d) v u) Q E s := by
  unfold setItem
  try with_reducible refine wpAny_holding ?_
  refine wpAny_bind (wpAny_sequenceKey (hm.typeIs) (by decide) ?_)
  refine wpAny_bind (wpAny_callSpecial?_slot (name := Str.ofString "__setitem__") (hm.typeIs) slot_dict_setitem
    (wpAny_call_entry slot_dict_setitem (hm.typeIs) entry_dict_setitem ?_ (args_dict_setitem _ _ _)))
  show wpAny _ _ (Builtin.Dict.notOrdered "__setitem__" ⟨[.ref d, v, u], []⟩ >>= _) _ _ s
  refine wpAny_bind (wpAny_notOrdered_dict (hm.typeIs) ?_)
  show wpAny _ _ (dictSet d v u >>= _) _ _ s
  exact wpAny_bind (set_nest hm hk kd hu few fun h' hm' hs' => wpAny_pure ⟨.none, rfl, wpAny_pure (hQ h' hm' hs')⟩)
end
end MX

set_option Elab.async false
set_option linter.all false
set_option maxRecDepth 100000
set_option maxHeartbeats 4000000
/-! Dicts of flat keys and tuples, tracked. -/
namespace L2
open PySem PySem.Spec PyProof.Rows MX
/-- the dict at a: each key, what it is as a value, what stands under it -/
def MixO (w : World) (a : Addr) (kvs : List (NestedKey × V × V)) : HO := .ext fun h => kvs.length ≤ sizeLine ∧ (a == sysModules) = false ∧ ∃ xs : List (NestedKey × Value × Value),
  Paired (fun p q => p.1 = q.1 ∧ RelV p.2.1 q.2.1 ∧ RelV p.2.2 q.2.2) kvs xs ∧ ∃ o es ep, h.get? a = some o ∧ o.ExactDict ∧ o.data = .dict es ep ∧ es.toList = xs.map (entN w) ∧ (xs.map (·.1)).Nodup
/-- the key k is the value x: a flat one -/
inductive KeyF : NestedKey → V → Prop
  | none : KeyF .none .non
  | int (i : Int) : KeyF (.num i) (.int i)
  | text (z : Str) : KeyF (.text z) (.str z)
  | bool (b : Bool) : KeyF (.num (if b = true then 1 else 0)) (.bl b)
inductive KeyFs : List NestedKey → List V → Prop
  | nil : KeyFs [] []
  | cons {k : NestedKey} {x : V} {ks : List NestedKey} {xs : List V} : KeyF k x → KeyFs ks xs → KeyFs (k :: ks) (x :: xs)
/-- .. or a tuple of such -/
inductive KeyV (H : Hp) : NestedKey → V → Prop
  | flat {k : NestedKey} {x : V} : KeyF k x → KeyV H k x
  | tup {t : Addr} {ks : List NestedKey} {xs : List V} : H t = some (.tup xs) → KeyFs ks xs → KeyV H (.tup ks) (.ref t)
theorem KeyF.is {h : Heap} {k : NestedKey} {x : V} {u : Value} (f : KeyF k x) (r : RelV x u) : NestedIs h k u ∧ k.depth = 0 := by
  cases f with
  | none => cases r; exact ⟨.none, rfl⟩
  | int i => obtain ⟨t, rfl⟩ := r; exact ⟨.int _ _, rfl⟩
  | text z => obtain ⟨t, rfl⟩ := r; exact ⟨.text _ _, rfl⟩
  | bool b => cases r; exact ⟨.bool rfl, rfl⟩
theorem KeyFs.all {h : Heap} {ks : List NestedKey} {xs : List V} {us : List Value} (f : KeyFs ks xs) (r : Vals xs us) : NestedAll h ks us ∧ NestedKey.depthAll ks = 0 := by
  induction f generalizing us with
  | nil => cases r; exact ⟨.nil, rfl⟩
  | cons g _ ih =>
    cases r with
    | cons r1 r2 =>
      have a := ih r2
      have b := g.is (h := h) r1
      refine ⟨.cons b.1 a.1, ?_⟩
      simp only [NestedKey.depthAll]
      omega
section
variable {X : Cx} {pins : List (Addr × Obj)} {σ : St} {H : Hp} {s : Shared} {k : NestedKey} {x : V} {u : Value}
theorem KeyV.is (I : Inv X pins σ H s) (f : KeyV H k x) (r : RelV x u) : NestedIs s.heap k u ∧ k.depth ≤ 8 := by
  cases f with
  | flat g =>
    have z := g.is (h := s.heap) r
    exact ⟨z.1, by omega⟩
  | tup ht g =>
    obtain rfl : u = Value.ref _ := r
    obtain ⟨_, its, rv, ob⟩ := I.hok _ _ ht
    have z := g.all (h := s.heap) rv
    obtain ⟨o, e1, e2, n, e3⟩ := ob
    exact ⟨.tup e1 e2 e3 (show NestedAll _ _ its.toArray.toList from z.1), by show NestedKey.depthAll _ + 1 ≤ 8; omega⟩
end
/-- one key stored -/
def putM (kvs : List (NestedKey × V × V)) (k : NestedKey) (x v : V) : List (NestedKey × V × V) := if k ∈ kvs.map (·.1) then kvs.map (fun p => if p.1 = k then (p.1, p.2.1, v) else p) else kvs ++ [(k, x, v)]
/-- what stands under a key -/
def atM (kvs : List (NestedKey × V × V)) (k : NestedKey) : Option V := (kvs.find? fun p => decide (p.1 = k)).map (·.2.2)
abbrev PairM (kvs : List (NestedKey × V × V)) (xs : List (NestedKey × Value × Value)) : Prop := Paired (fun p q => p.1 = q.1 ∧ RelV p.2.1 q.2.1 ∧ RelV p.2.2 q.2.2) kvs xs
theorem PairM.keys {kvs : List (NestedKey × V × V)} {xs : List (NestedKey × Value × Value)} (h : PairM kvs xs) : kvs.map (·.1) = xs.map (·.1) := by
  induction h with
  | nil => rfl
  | cons e _ ih => rw [List.map_cons, List.map_cons, e.1, ih]
theorem PairM.len {kvs : List (NestedKey × V × V)} {xs : List (NestedKey × Value × Value)} (h : PairM kvs xs) : kvs.length = xs.length := by
  induction h with
  | nil => rfl
  | cons e _ ih => rw [List.length_cons, List.length_cons, ih]
theorem PairM.at {kvs : List (NestedKey × V × V)} {xs : List (NestedKey × Value × Value)} (h : PairM kvs xs) (k : NestedKey) : RelO (atM kvs k) (atN xs k) := by
  unfold atM atN
  induction h with
  | nil => first | exact True.intro | exact .none | exact ⟨⟩
  | @cons a b l1 l2 e _ ih =>
    rw [List.find?_cons, List.find?_cons, e.1]
    cases decide (b.1 = k) with
    | true => exact e.2.2
    | false => exact ih
theorem PairM.put {kvs : List (NestedKey × V × V)} {xs : List (NestedKey × Value × Value)} (h : PairM kvs xs) {k : NestedKey} {x v : V} {u r : Value} (rx : RelV x u) (rv : RelV v r) : PairM (putM kvs k x v) (storeN xs k u r) := by
  unfold putM storeN
  rw [h.keys]
  split
  · rename_i hin
    clear rx hin
    induction h with
    | nil => exact .nil
    | @cons a b l1 l2 e _ ih =>
      rw [List.map_cons, List.map_cons]
      refine .cons ?_ ih
      unfold putN
      rw [e.1]
      split
      · exact ⟨rfl, e.2.1, rv⟩
      · exact e
  · exact h.snoc ⟨rfl, rx, rv⟩
theorem putM_len (kvs : List (NestedKey × V × V)) (k : NestedKey) (x v : V) : (putM kvs k x v).length ≤ kvs.length + 1 := by
  unfold putM
  split
  · rw [List.length_map]
    exact Nat.le_succ _
  · rw [List.length_append]
    exact Nat.le_refl _
/-- it is there, and so are its keys -/
structure MixD (w : World) (H : Hp) (a : Addr) (kvs : List (NestedKey × V × V)) : Prop where
  at_ : H a = some (MixO w a kvs)
  keys : ∀ p ∈ kvs, KeyV H p.1 p.2.1
theorem mix_ok {P : Program} {w : World} {H : Hp} {h : Heap} {a : Addr} {kvs : List (NestedKey × V × V)} {xs : List (NestedKey × Value × Value)} (few : kvs.length ≤ sizeLine) (hd : (a == sysModules) = false) (r : PairM kvs xs)
    (x : ∃ o es ep, h.get? a = some o ∧ o.ExactDict ∧ o.data = .dict es ep ∧ es.toList = xs.map (entN w) ∧ (xs.map (·.1)).Nodup) : ObjOk P w H h a (MixO w a kvs) := by
  refine ⟨⟨few, hd, xs, r, x⟩, ?_, fun h1 h2 z k => ?_⟩
  · obtain ⟨o, es, ep, e, _⟩ := x
    exact ⟨o, e⟩
  · obtain ⟨few2, hd2, xs2, r2, o, es, ep, e, q⟩ := z
    exact ⟨few2, hd2, xs2, r2, o, es, ep, k _ e, q⟩
section
variable {X : Cx} {pins : List (Addr × Obj)} {σ : St} {H : Hp} {s : Shared} {a : Addr} {kvs : List (NestedKey × V × V)} {k : NestedKey} {x v : V} {u r : Value} {A : Around} {E : Value → Shared → Prop}
theorem PairM.keysN {xs : List (NestedKey × Value × Value)} (p : PairM kvs xs) (I : Inv X pins σ H s) (hk : ∀ p ∈ kvs, KeyV H p.1 p.2.1) : KeysN s.heap xs := by
  induction p with
  | nil => exact fun y hy => nomatch hy
  | @cons c d l1 l2 e _ ih =>
    intro y hy
    rcases List.mem_cons.mp hy with rfl | z
    · have q := (hk c List.mem_cons_self).is I e.2.1
      rw [e.1] at q
      exact q
    · exact ih (fun p hp => hk p (List.mem_cons_of_mem _ hp)) y z
theorem MixD.dict (I : Inv X pins σ H s) (m : MixD X.w H a kvs) : kvs.length ≤ sizeLine ∧ (a == sysModules) = false ∧ ∃ xs, PairM kvs xs ∧ DictN X.w s.heap a xs := by
  obtain ⟨⟨few, hd, xs, p, o, es, ep, h1, h2, h3, h4, h5⟩, _, _⟩ := I.hok a _ m.at_
  refine ⟨few, hd, xs, p, o, es, ep, h1, h2, h3, h4, PairM.keysN p I m.keys, h5⟩
/-- d[y], there -/
theorem m_getItem {Q : Value → Shared → Prop} (hu : A.in1.units + 8 < cLine) (I : Inv X pins σ H s) (m : MixD X.w H a kvs) (hk : KeyV H k x) (rx : RelV x u) (l : atM kvs k = some v) (h : ∀ w' s', Inv X pins σ H s' → RelV v w' → Q w' s') :
    wpAny (model X.prog X.w) A (getItem (.ref a) u) Q E s := by
  obtain ⟨few, hd, xs, p, D⟩ := m.dict I
  have z := hk.is I rx
  obtain ⟨w', hw, rw'⟩ := RelO.some_of (v := v) (o := atN xs k) (by rw [← l]; exact PairM.at p k)
  exact getItem_nest D z.1 z.2 hu hw (h w' _ (I.tok _) rw')
/-- y in d -/
theorem m_contains {Q : Bool → Shared → Prop} (hu : A.in1.units + 8 < cLine) (I : Inv X pins σ H s) (m : MixD X.w H a kvs) (hk : KeyV H k x) (rx : RelV x u) (h : ∀ s', Inv X pins σ H s' → Q (atM kvs k).isSome s') :
    wpAny (model X.prog X.w) A (contains (.ref a) u) Q E s := by
  obtain ⟨few, hd, xs, p, D⟩ := m.dict I
  have z := hk.is I rx
  refine contains_nest D hd z.1 z.2 hu ?_
  rw [← (PairM.at p k).isSome_eq]
  exact h _ (I.tok _)
/-- d[y] = v -/
theorem m_setItem {Q : Unit → Shared → Prop} (hu : A.in1.units + 8 < cLine) (I : Inv X pins σ H s) (m : MixD X.w H a kvs) (hl : kvs.length < sizeLine) (hk : KeyV H k x) (rx : RelV x u) (rv : RelV v r)
    (h : ∀ s', Inv X pins σ (upd H a (MixO X.w a (putM kvs k x v))) s' → Q () s') : wpAny (model X.prog X.w) A (setItem (.ref a) u r) Q E s := by
  obtain ⟨few, hd, xs, p, D⟩ := m.dict I
  have z := hk.is I rx
  refine setItem_nest D z.1 z.2 hu (by rw [← PairM.len p]; exact few) fun h' D' hs => h _ ?_
  obtain ⟨o, es, ep, e1, e2, e3, e4, _, e5⟩ := D'
  exact d_write I (by rw [m.at_]; exact True.intro) hs ⟨o, e1⟩ (mix_ok (by have := putM_len kvs k x v; omega) hd (PairM.put p rx rv) ⟨o, es, ep, e1, e2, e3, e4, e5⟩)
/-- {} -/
theorem pe_dnewM {pos : Pos} : PE X (.Dict [] [] pos) (fun _ H Q => ∀ p, H p = none → Q (.ref p) (upd H p (MixO X.w p []))) := ⟨fun pins s σ H Q I h =>
  wpAny_Dict_empty ⟨.ref s.heap.objs.size, _, I.laid (a := s.heap.objs.size) (o := MixO X.w s.heap.objs.size []) (t' := s.toks) (fun _ _ q => Heap.get?_push_of_some _ q) (Nat.le_refl _)
    (mix_ok (xs := []) (Nat.zero_le _) (beq_eq_false_iff_ne.mpr (Ne.symm (Nat.ne_of_lt I.big))) .nil ⟨_, #[], 0, Heap.get?_push_size _ rfl, ⟨rfl, rfl, rfl⟩, rfl, rfl, List.nodup_nil⟩), rfl, h _ (I.hok.fresh (Nat.le_refl _))⟩⟩
end
end L2

set_option Elab.async false
set_option linter.all false
set_option maxRecDepth 100000
set_option maxHeartbeats 4000000
/-! d[k] = v, d[k], k in d in terms, for dicts of flat keys and tuples. -/
namespace L2
open PySem PySem.Spec PyProof.Rows MX
section
variable {X : Cx}
def rSetM (w : World) : TSet := fun o i v H Q => ∃ (a : Addr) (kvs : List (NestedKey × V × V)) (k : NestedKey), o = .ref a ∧ MixD w H a kvs ∧ kvs.length < sizeLine ∧ KeyV H k i ∧ Q (upd H a (MixO w a (putM kvs k i v)))
theorem set_mix (hu : X.A.units + 9 < cLine) : PSet X (rSetM X.w) := by
  intro pins s σ H o i v ov iv u Q I ro ri rv h
  obtain ⟨a, kvs, k, rfl, m, hl, hk, q⟩ := h
  obtain rfl : ov = Value.ref a := ro
  exact m_setItem (by show X.A.units + 1 + 8 < cLine; omega) I m hl hk ri rv fun s' I' => ⟨_, I', q⟩
def rGetM (w : World) : V → V → Hp → VK → Prop := fun o i H Q => ∃ (a : Addr) (kvs : List (NestedKey × V × V)) (k : NestedKey) (v : V), o = .ref a ∧ MixD w H a kvs ∧ KeyV H k i ∧ atM kvs k = some v ∧ Q v H
theorem get_mix (hu : X.A.units + 9 < cLine) : PGet X (rGetM X.w) := by
  intro pins s σ H o i ov iv Q I ro ri h
  obtain ⟨a, kvs, k, v, rfl, m, hk, l, q⟩ := h
  obtain rfl : ov = Value.ref a := ro
  exact m_getItem (by show X.A.units + 1 + 8 < cLine; omega) I m hk ri l fun w' s' I' rw' => ⟨v, H, I', rw', q⟩
def rInM (w : World) : R2 := fun x y H Q => ∃ (a : Addr) (kvs : List (NestedKey × V × V)) (k : NestedKey), y = .ref a ∧ MixD w H a kvs ∧ KeyV H k x ∧ Q (.bl (atM kvs k).isSome) H
theorem op_in_mix (hu : X.A.units + 9 < cLine) : OpR X (compareOp .In) (rInM X.w) := by
  intro pins s σ H x y v u Q I rx ry h
  obtain ⟨a, kvs, k, rfl, m, hk, q⟩ := h
  obtain rfl : u = Value.ref a := ry
  show wpAny _ _ (do return Value.bool (← contains (Value.ref a) v)) _ _ s
  exact wpAny_bind (m_contains (by show X.A.units + 1 + 8 < cLine; omega) I m hk rx fun s' I' => wpAny_pure ⟨.bl (atM kvs k).isSome, H, I', rfl, q⟩)
end
/-- the keys stay where the heap only grows -/
theorem KeyV.same {H H2 : Hp} {k : NestedKey} {x : V} (f : KeyV H k x) (s : Same H H2) : KeyV H2 k x := by
  cases f with
  | flat g => exact .flat g
  | tup h g => exact .tup (s _ _ h) g
theorem MixD.same {w : World} {H H2 : Hp} {a : Addr} {kvs : List (NestedKey × V × V)} (m : MixD w H a kvs) (s : Same H H2) : MixD w H2 a kvs := ⟨s _ _ m.at_, fun p hp => (m.keys p hp).same s⟩
/-- stored -/
theorem MixD.put {w : World} {H : Hp} {a : Addr} {kvs : List (NestedKey × V × V)} {k : NestedKey} {x v : V} (m : MixD w H a kvs) (hk : KeyV H k x) : MixD w (upd H a (MixO w a (putM kvs k x v))) a (putM kvs k x v) := by
  have up : ∀ {j : NestedKey} {y : V}, KeyV H j y → KeyV (upd H a (MixO w a (putM kvs k x v))) j y := fun f => by
    cases f with
    | flat g => exact .flat g
    | tup h g =>
      refine .tup ?_ g
      rw [upd_ne fun z => ?_]
      · exact h
      · rw [z, m.at_] at h
        cases h
  refine ⟨upd_same, fun p hp => ?_⟩
  unfold putM at hp
  split at hp
  · obtain ⟨q, hq, rfl⟩ := List.mem_map.mp hp
    have z := up (m.keys q hq)
    split
    · exact z
    · exact z
  · rcases List.mem_append.mp hp with z | z
    · exact up (m.keys p z)
    · obtain rfl := List.mem_singleton.mp z
      exact up hk
theorem MixD.new {w : World} {H : Hp} {a : Addr} : MixD w (upd H a (MixO w a [])) a [] := ⟨upd_same, fun p hp => nomatch hp⟩
end L2

set_option Elab.async false
set_option linter.all false
set_option maxRecDepth 100000
set_option maxHeartbeats 4000000
/-! for k in d, d a dict of flat keys and tuples. -/
namespace L2
open PySem PySem.Spec PyProof.Rows MX
/-- the keys of the locked dict at d, in their order -/
def Itm (w : World) (d : Addr) (o : Obj) (kvs : List (NestedKey × V × V)) : It :=
  ⟨fun i H => H d = some (.frz o (MixO w d kvs)) ∧ i < kvs.length, fun i H x H' => H' = H ∧ ∃ k v, kvs[i]? = some (k, x, v), fun i H => H d = some (.frz o (MixO w d kvs)) ∧ kvs.length ≤ i⟩
theorem PairM.get {kvs : List (NestedKey × V × V)} {xs : List (NestedKey × Value × Value)} (h : PairM kvs xs) {i : Nat} {p : NestedKey × V × V} (e : kvs[i]? = some p) : ∃ q, xs[i]? = some q ∧ RelV p.2.1 q.2.1 ∧ RelV p.2.2 q.2.2 := by
  induction h generalizing i with
  | nil => simp at e
  | @cons a b l1 l2 r _ ih =>
    cases i with
    | zero =>
      rw [List.getElem?_cons_zero] at e
      cases e
      exact ⟨b, rfl, r.2⟩
    | succ j =>
      rw [List.getElem?_cons_succ] at e ⊢
      exact ih e
section
variable {X : Cx} {pins : List (Addr × Obj)} {σ : St} {H : Hp} {s : Shared} {d : Addr} {o : Obj} {kvs : List (NestedKey × V × V)}
theorem Inv.frzM (I : Inv X pins σ H s) (h : H d = some (.frz o (MixO X.w d kvs))) : (d == sysModules) = false ∧ s.heap.get? d = some o ∧ o.ExactDict ∧ ∃ (es : Array DictEntry) (ep : Nat), o.data = .dict es ep ∧ es.size = kvs.length ∧
    ∀ (i : Nat) (k : NestedKey) (x v : V), kvs[i]? = some (k, x, v) → ∃ en : DictEntry, es[i]? = some en ∧ RelV x en.key := by
  obtain ⟨ho, ⟨few, hs, xs, p, o', es, ep, ho', hx, hdt, he, _⟩, _, _⟩ := I.hok d _ h
  rw [ho] at ho'
  cases ho'
  refine ⟨hs, ho, hx, es, ep, hdt, by rw [ent_size he, PairM.len p], fun i k x v e => ?_⟩
  obtain ⟨q, hq, r, _⟩ := PairM.get p e
  have hi : i < xs.length := (List.getElem?_eq_some_iff.mp hq).1
  have hi2 : i < es.size := by rw [ent_size he]; exact hi
  refine ⟨entN X.w q, ?_, r⟩
  rw [Array.getElem?_eq_getElem hi2, ent_at he hi2]
  rw [List.getElem?_eq_getElem hi] at hq
  rw [Option.some.inj hq]
end
section
variable {P : Program} {w : World} {K : PySem.W.Frag} {tg : Expr} {d : Addr} {o : Obj} {es : Array DictEntry} {ep : Nat}
theorem turn_keysM {kvs : List (NestedKey × V × V)} (it : Addr) (hod : o.data = .dict es ep) : Turn P w K tg (Itm w d o kvs) [it] it (fun i h => h.IsKeyIter it d i kvs.length ep) where
  mem := by simp
  obj := fun i h st b hb => by
    obtain rfl : b = it := by simpa using hb
    obtain ⟨oi, e, c, dd⟩ := st
    exact ⟨oi, e, fun v z => by rw [dd] at z; cases z⟩
  keep := fun i h h' st k => st.at fun oi e => k it (by simp) oi e
  item := by
    intro X hP hw hK hc i pins s σ H E I hf st hg
    subst hP hw hK
    obtain ⟨hd, hi⟩ := hg
    obtain ⟨f0, f1, f2, f3, f4, f5⟩ := hf it (by simp)
    obtain ⟨hs, hgd, hx, es', ep', hdt, hsz, ent⟩ := I.frzM hd
    obtain ⟨rfl, rfl⟩ := dict_ep hod hdt
    obtain ⟨⟨k, x, v⟩, hkv⟩ : ∃ p, kvs[i]? = some p := ⟨kvs[i], List.getElem?_eq_getElem hi⟩
    obtain ⟨en, hen, hr⟩ := ent i k x v hkv
    refine next_key_item st hgd hdt hsz hen fun h' st' sb => ?_
    have I1 : Inv X pins σ H { s with heap := h' } := I.turned (t' := s.toks) (fun b ob hb e => (sb.2 b hb).trans e) f0 f1 f3 f4 f5
    obtain ⟨oi, e, c, dd⟩ := id st'
    exact ⟨en.key, rfl, go_of (s := { s with heap := h' }) e c dd (by decide) ⟨x, H, I1, hr, ⟨rfl, k, v, hkv⟩, st', fun b hb => (hf b hb).1⟩⟩
  done := by
    intro X hP hw hK hc i pins s σ H E I hf st hg
    subst hP hw hK
    obtain ⟨hd, hi⟩ := hg
    obtain ⟨f0, f1, f2, f3, f4, f5⟩ := hf it (by simp)
    obtain ⟨hs, hgd, hx, es', ep', hdt, hsz, ent⟩ := I.frzM hd
    obtain ⟨rfl, rfl⟩ := dict_ep hod hdt
    exact next_key_end (I.ok.hd hc) st hgd hdt hsz hi fun h' eb => ⟨rfl, I.turned (t' := s.toks) (fun b ob hb e => eb b ob hb e) f0 f1 f3 f4 f5⟩
  self := fun A i s Q E st h => wpAny_pyIter_keyiter st h
def iKeysX (w : World) (td : TE) : TI := fun σ H R => td σ H fun x H1 => ∃ d o kvs, x = .ref d ∧ H1 d = some (.frz o (MixO w d kvs)) ∧ R (Itm w d o kvs) H1
end
section
variable {X : Cx} {tg e : Expr} {td : TE}
/-- for k in d, d locked -/
theorem pi_keysX (he : PE X e td) : PI X tg e (iKeysX X.w td) := by
  refine ⟨fun pins s σ H R I h => ?_⟩
  refine thn (he.run pins s σ H _ I h) fun u s1 ⟨x, H1, I1, rx, d, o, kvs, ex, hd, q⟩ => ?_
  subst ex
  obtain rfl : u = Value.ref d := rx
  obtain ⟨hs, hgd, hx, es, ep, hdt, hsz, ent⟩ := I1.frzM hd
  refine iter_keys hs hgd hx hdt (pi_one (tk := s1.toks) I1 _ (turn_keysM _ hdt) ⟨_, Heap.get?_push_size _ rfl, rfl, ?_⟩ q)
  rw [hsz] <;> rfl
end
end L2

set_option Elab.async false
set_option linter.all false
set_option maxRecDepth 100000
set_option maxHeartbeats 4000000
/-! Such a dict whose keys are all texts is a dict of texts. -/
namespace L2
open PySem PySem.Spec PyProof.Rows MX
def txM (ts : List (Str × V)) : List (NestedKey × V × V) := ts.map fun p => (.text p.1, .str p.1, p.2)
def txK (ts : List (Str × V)) : List (Key × V) := ts.map fun p => (Sum.inr p.1, p.2)
theorem pair_texts {P : Program} {w : World} {ts : List (Str × V)} {xs : List (NestedKey × Value × Value)} (h : PairM (txM ts) xs) : ∃ vs : List (Key × Value), KV (txK ts) vs ∧ (∀ e ∈ xs.map (entN w), ∃ k, (mixKind P w).is k e.key = true ∧ e.hash = (mixKind P w).hash k) ∧ Pairs (mixKind P w) (xs.map (entN w)) vs ∧
    vs.map (·.1) = ts.map (fun p => (Sum.inr p.1 : Key)) ∧ xs.map (·.1) = ts.map (fun p => NestedKey.text p.1) := by
  induction ts generalizing xs with
  | nil =>
    cases h
    exact ⟨[], .nil, fun e he => (nomatch he), .nil, rfl, rfl⟩
  | cons t ts ih =>
    cases h with
    | @cons a b l1 l2 e r =>
      obtain ⟨vs, h1, h2, h3, h4, h5⟩ := ih r
      obtain ⟨z1, z2, z3⟩ := e
      obtain ⟨tk, z4⟩ := z2
      have k1 : (mixKind P w).is (Sum.inr t.1) (entN w b).key = true := by
        show keyIs (.inr t.1) b.2.1 = true
        rw [z4]
        exact keyIs_str _ _
      refine ⟨(Sum.inr t.1, b.2.2) :: vs, .cons ⟨rfl, z3⟩ h1, fun en he => ?_, ?_, by rw [List.map_cons, List.map_cons, h4], by rw [List.map_cons, List.map_cons, h5, ← z1]⟩
      · rcases List.mem_cons.mp he with rfl | m
        · refine ⟨Sum.inr t.1, k1, ?_⟩
          show b.1.hash w = _
          rw [← z1]
          rfl
        · exact h2 en m
      · exact .cons k1 rfl h3
section
variable {X : Cx} {pins : List (Addr × Obj)} {σ : St} {H : Hp} {s : Shared} {a : Addr} {ts : List (Str × V)}
/-- .. from now on tracked as one -/
theorem Inv.texts (I : Inv X pins σ H s) (e : H a = some (MixO X.w a (txM ts))) : Inv X pins σ (upd H a (.dK (txK ts))) s := by
  obtain ⟨⟨few, hd, xs, p, o, es, ep, h1, h2, h3, h4, h5⟩, _, _⟩ := I.hok a _ e
  refine I.reword e ?_
  obtain ⟨vs, q1, q2, q3, q4, q5⟩ := pair_texts (P := X.prog) (w := X.w) p
  refine ⟨by show (ts.map _).length ≤ _; rw [List.length_map]; rw [show (txM ts).length = ts.length from List.length_map _] at few; exact few, hd, vs, q1, o, es, ep, h1, h2, h3, fun en he => q2 en (by rw [← h4]; exact Array.mem_toList_iff.mpr he), by rw [h4]; exact q3, ?_⟩
  rw [q4]
  rw [q5] at h5
  rw [List.nodup_iff_pairwise_ne] at h5 ⊢
  rw [List.pairwise_map] at h5 ⊢
  exact h5.imp fun ne z => ne (by rw [Sum.inr.inj z])
end
end L2

set_option Elab.async false
set_option linter.all false
set_option maxRecDepth 100000
set_option maxHeartbeats 4000000
/-! len(set(xs)), xs a list of any texts. -/
namespace SetT
open PySem PySem.Spec PyProof.Rows
/-- one more, unless it is there -/
def add1 (acc : List Str) (y : Str) : List Str := if y ∈ acc then acc else acc ++ [y]
/-- each once, as first met -/
def uqs (ys : List Str) : List Str := ys.foldl add1 []
theorem uqs_snoc (ys : List Str) (y : Str) : uqs (ys ++ [y]) = add1 (uqs ys) y := by
  unfold uqs
  rw [List.foldl_append]
  rfl
theorem mem_add1 {acc : List Str} {x y : Str} : x ∈ add1 acc y ↔ x ∈ acc ∨ x = y := by
  unfold add1
  split
  · rename_i h
    exact ⟨.inl, fun z => z.elim id fun e => e ▸ h⟩
  · rw [List.mem_append, List.mem_singleton]
theorem uqs_mem {x : Str} : ∀ {ys acc : List Str}, x ∈ ys.foldl add1 acc ↔ x ∈ acc ∨ x ∈ ys
  | [], acc => by simp
  | y :: ys, acc => by
    rw [List.foldl_cons, uqs_mem (ys := ys), mem_add1, List.mem_cons, or_assoc]
theorem mem_uqs {x : Str} {ys : List Str} : x ∈ uqs ys ↔ x ∈ ys := by
  unfold uqs
  rw [uqs_mem]
  simp
theorem nd_add1 {acc : List Str} {y : Str} (h : acc.Nodup) : (add1 acc y).Nodup := by
  unfold add1
  split
  · exact h
  · rename_i hn
    refine List.nodup_append.mpr ⟨h, by simp, fun a ha b hb e => hn ?_⟩
    rw [List.mem_singleton.mp hb] at e
    exact e ▸ ha
theorem nd_fold : ∀ {ys acc : List Str}, acc.Nodup → (ys.foldl add1 acc).Nodup
  | [], _, h => h
  | _ :: ys, _, h => nd_fold (ys := ys) (nd_add1 h)
theorem uqs_nd (ys : List Str) : (uqs ys).Nodup := nd_fold List.nodup_nil
theorem len_add1 (acc : List Str) (y : Str) : (add1 acc y).length = if y ∈ acc then acc.length else acc.length + 1 := by
  unfold add1
  split
  · rfl
  · rw [List.length_append]
    rfl
theorem len_fold : ∀ (ys acc : List Str), (ys.foldl add1 acc).length ≤ acc.length + ys.length
  | [], _ => Nat.le_refl _
  | y :: ys, acc => by
    have h1 := len_fold ys (add1 acc y)
    have h2 : (add1 acc y).length ≤ acc.length + 1 := by
      rw [len_add1]
      split <;> omega
    rw [List.foldl_cons, List.length_cons]
    omega
theorem uqs_len (ys : List Str) : (uqs ys).length ≤ ys.length := by
  have h := len_fold ys []
  show (ys.foldl add1 []).length ≤ ys.length
  simpa using h
/-- two lists without doubles and with the same members are of one length -/
theorem nd_sub {α : Type} [DecidableEq α] : ∀ {a b : List α}, a.Nodup → (∀ x ∈ a, x ∈ b) → a.length ≤ b.length
  | [], _, _, _ => Nat.zero_le _
  | x :: a, b, h, hs => by
    have hx : x ∈ b := hs x List.mem_cons_self
    have h1 := List.nodup_cons.mp h
    have ih := nd_sub (a := a) (b := b.erase x) h1.2 fun y hy => (List.mem_erase_of_ne (fun e : y = x => h1.1 (e ▸ hy))).mpr (hs y (List.mem_cons_of_mem _ hy))
    rw [List.length_erase_of_mem hx] at ih
    have : 0 < b.length := List.length_pos_of_mem hx
    rw [List.length_cons]
    omega
theorem nd_same {α : Type} [DecidableEq α] {a b : List α} (ha : a.Nodup) (hb : b.Nodup) (h : ∀ x, x ∈ a ↔ x ∈ b) : a.length = b.length :=
  Nat.le_antisymm (nd_sub ha fun x hx => (h x).mp hx) (nd_sub hb fun x hx => (h x).mpr hx)
section
variable {P : Program} {w : World} {A : Around} {R : Result → Shared → Prop} {J : Addr} {fr ws : List Addr} {G : Array GenState → Array GenState → Prop} {n : Nat} {Pv : Nat → Value → Prop} {St : Nat → Shared → Prop}
theorem setOf_moved {h g : Heap} {D : Addr} {S : Str → Bool} {m : Nat} (x : h.SetOf (strKind P w) D S m) (e : ∀ o, h.get? D = some o → g.get? D = some o) : g.SetOf (strKind P w) D S m := by
  obtain ⟨o, es, ep, t, ho, r⟩ := x
  exact ⟨o, es, ep, t, e o ho, r⟩
theorem fill_texts (W : WalksS P w A.in1 J fr ws G n Pv St) (D : Addr) (off : D ∉ fr) (ys : List Str) (many : ys.length = n) (few : n ≤ 4000) (val : ∀ j v, Pv j v → ∃ tk, v = .str (ys.getD j Str.empty) tk) :
    ∀ (left j : Nat) (z : Shared), n - j = left → j ≤ n → St j z → z.heap.SetOf (strKind P w) D (fun y => decide (y ∈ uqs (ys.take j))) (uqs (ys.take j)).length →
      (∀ z2, Moved (D :: ws) G z z2 → z2.heap.SetOf (strKind P w) D (fun y => decide (y ∈ uqs ys)) (uqs ys).length → R (.ok (.ret .none)) z2) →
      codeAny (model P w) A (.builtin "set.update.loop" ⟨[.ref D, .ref J], []⟩) R z := by
  have away : D ∉ ws := fun q => off (W.sub _ q)
  have more : ∀ b ∈ ws, b ∈ D :: ws := fun b q => List.mem_cons_of_mem _ q
  intro left
  induction left with
  | zero =>
    intro j z hl hj st set out
    obtain rfl : j = n := by omega
    rw [List.take_of_length_le (by omega)] at set
    refine codeAny_builtin PyProof.Rows.F.entry_set_update_loop ?_
    rw [Around.under_plainId PyProof.Rows.F.plain_set_update_loop _]
    show wpAny _ A.in1 (pyNext (.ref J) >>= _) _ _ z
    refine wpAny_bind (W.done z _ _ st fun z2 mv => ?_)
    show wpAny _ A.in1 (ret Value.none) _ _ z2
    exact wpAny_pure (out z2 (mv.mono more) (setOf_moved set fun o e => mv.heap D _ away e))
  | succ left ih =>
    intro j z hl hj st set out
    have lt : j < n := by omega
    refine codeAny_builtin PyProof.Rows.F.entry_set_update_loop ?_
    rw [Around.under_plainId PyProof.Rows.F.plain_set_update_loop _]
    show wpAny _ A.in1 (pyNext (.ref J) >>= _) _ _ z
    refine wpAny_bind (W.item j z _ _ lt st fun v z2 pv st2 mv => ?_)
    obtain ⟨tk, rfl⟩ := val j v pv
    have set2 := setOf_moved set fun o e => mv.heap D _ away e
    have at_ : ys[j]? = some (ys.getD j Str.empty) := by
      rw [List.getD_eq_getElem?_getD, List.getElem?_eq_getElem (by omega)]
      rfl
    show wpAny _ A.in1 (holding [Value.str (ys.getD j Str.empty) tk] (setAdd D (.str (ys.getD j Str.empty) tk)) >>= _) _ _ z2
    refine wpAny_bind (wpAny_holding ?_)
    unfold setAdd
    refine wpAny_holding ?_
    refine wpAny_bind ((PySem.strKind P w).pyHash (k := ys.getD j Str.empty) (strKind_is _ _ _ _) ?_)
    have l1 := uqs_len (ys.take j)
    have l2 : (ys.take j).length ≤ j := by
      rw [List.length_take]
      omega
    refine wpAny_setAddHashed_of (knd := PySem.strKind P w) (s := { z2 with toks := z2.toks + 1 }) (strKind_is _ _ _ _) rfl set2 (by unfold scanBound; omega) fun g sb set3 => ?_
    have set4 : g.SetOf (PySem.strKind P w) D (fun y => decide (y ∈ uqs (ys.take (j + 1)))) (uqs (ys.take (j + 1))).length := by
      have e : ys.take (j + 1) = ys.take j ++ [ys.getD j Str.empty] := by rw [List.take_add_one, at_]; rfl
      rw [e, uqs_snoc]
      refine SetOf_congr set3 (fun y => ?_) ?_
      · rw [Bool.eq_iff_iff, Bool.or_eq_true, decide_eq_true_iff, decide_eq_true_iff, decide_eq_true_iff, mem_add1]
      · rw [len_add1]
        by_cases q : ys.getD j Str.empty ∈ uqs (ys.take j)
        · rw [if_pos q, if_pos (decide_eq_true q)]
        · rw [if_neg q, if_neg (by rw [decide_eq_false q]; exact Bool.false_ne_true)]
    refine wpAny_pure ⟨plainId_quiet PyProof.Rows.F.plain_set_update_loop _, ih (j + 1) _ (by omega) lt (W.frame _ z2 _ _ st2 (Nat.le_succ _) fun b q o e => ?_) set4 fun z3 mv3 set5 => ?_⟩
    · rw [sb.2 b (fun u : b = D => off (by rw [← u]; exact q))]
      exact e
    · refine out z3 (Moved.trans W.gtrans ((mv.mono more).then_heap (Nat.le_succ _) fun b o q e => ?_) mv3) set5
      rw [sb.2 b (fun u : b = D => q (by rw [u]; exact List.mem_cons_self))]
      exact e
end
section
variable {P : Program} {w : World} {A : Around} {E : Value → Shared → Prop} {z : Shared}
set_option maxHeartbeats 3200000 in
theorem set_texts {l : Addr} {its : Array Value} {ys : List Str} {Q : Value → Shared → Prop} (calm : A.handled = none) (at_ : z.heap.IsList l its) (txt : PyProof.Rows.StrsAre its.toList ys) (few : ys.length ≤ 4000)
    (go : ∀ (g : Heap) (tk : Nat), g.SetOf (PySem.strKind P w) z.heap.objs.size (fun y => decide (y ∈ uqs ys)) (uqs ys).length → (∀ b o, b < z.heap.objs.size → z.heap.get? b = some o → g.get? b = some o) → Q (.ref z.heap.objs.size) { z with heap := g, toks := tk }) :
    wpAny (model P w) A (call (.type "set") [.ref l]) Q E z := by
  obtain ⟨cc, tll, hmro2⟩ := PySem.F.called_set.mro
  have made2 := PySem.F.called_set.made
  have sub2 := PySem.F.called_set.sub
  refine wpAny_call (codeAny_of_tree ?_)
  show wpAny _ _ (callAny (.type "set") _) _ _ _
  refine wpAny_pure ⟨Code.quiet_builtin _ (by decide +kernel), codeAny_builtin PySem.F.entry_type_call ?_⟩
  rw [Around.under_plain (weight_type_call_type "set" [.ref l] []) rfl]
  have nt2 := PySem.F.called_set.notType
  have cr2 := PySem.F.called_set.canCreate
  have tc2 := PySem.F.typeCall_set_1 (.ref l)
  repeat (any_goals (first | assumption | wp_step))
  refine codeAny_mono (code_set_new_1 (.ref l) (E := E) (Q₁ := fun ob z1 => ∃ led : Bool, ob = .ref z.heap.objs.size ∧ z1 = { z with heap := z.heap.push { cls := .type "set", dict := none, data := .set #[] 0 (.fresh 0 0 led) } }) fun led => ⟨led, rfl, rfl⟩) fun r z1 hr => ?_
  match r, hr with
  | .error e, hr => exact hr
  | .ok .next, hr => exact hr.elim
  | .ok .brk, hr => exact hr.elim
  | .ok .cont, hr => exact hr.elim
  | .ok (.ret ob), hr =>
    obtain ⟨led, rfl, rfl⟩ := hr
    have new2 : (z.heap.push { cls := .type "set", dict := none, data := .set #[] 0 (.fresh 0 0 led) }).get? z.heap.objs.size = some { cls := .type "set", dict := none, data := .set #[] 0 (.fresh 0 0 led) } := Heap.get?_push_size _ rfl
    have ty2 : Shared.TypeIs { z with heap := z.heap.push { cls := .type "set", dict := none, data := .set #[] 0 (.fresh 0 0 led) } } (.ref z.heap.objs.size) "set" := ⟨_, new2, rfl⟩
    have li2 := PySem.F.called_set.init.lookup
    have bi2 := PySem.F.called_set.init.bind (.ref z.heap.objs.size)
    repeat (any_goals (first | assumption | wp_step))
    refine codeAny_mono (codeAny_call_builtin (R := wants (fun r z2 => r = .none ∧ ∃ g tk, z2 = { z with heap := g, toks := tk } ∧ g.SetOf (PySem.strKind P w) z.heap.objs.size (fun y => decide (y ∈ uqs ys)) (uqs ys).length ∧
        (∀ b o, b < z.heap.objs.size → z.heap.get? b = some o → g.get? b = some o)) E) PySem.F.called_set.init.plain PySem.F.entry_set_init (check_set_init_1 ty2 ?_)) fun r2 z2 hr2 => ?_
    · obtain ⟨⟨c0, d0, t0, s0⟩, o1, o2, n2, o3⟩ := at_
      simp only at o2 o3
      subst o2
      subst o3
      have at2 : (z.heap.push { cls := .type "set", dict := none, data := .set #[] 0 (.fresh 0 0 led) }).get? l = some { cls := .type "list", dict := d0, data := .seq its n2, slots := s0 } := Heap.get?_push_of_some _ o1
      have sl1 := PySem.F.sub_list_set
      have sl2 := PySem.F.sub_list_frozenset
      have ned : (Value.type "list" == Value.type "dict") = false := by decide
      have at3 : (z.heap.push { cls := .type "set", dict := none, data := .set #[] 0 (.fresh 0 0 led) }).IsList l its := ⟨_, at2, rfl, n2, rfl⟩
      unfold Builtin.«set.__init__» noKeywords Builtin.Frozenset.updateFrom
      generalize hIT : pyIter = IT
      wp_walk
      subst hIT
      refine wpAny_pyIter_list at3 ?_
      refine wpAny_bind (wpAny_runValue ?_)
      have ll : l < z.heap.objs.size := Heap.lt_size o1
      have calm3 : A.in1.in1.in1.handled = none := by simp [calm]
      have ne3 : l ≠ (z.heap.push { cls := .type "set", dict := none, data := .set #[] 0 (.fresh 0 0 led) }).objs.size := by
        rw [Heap.size_push]
        exact Nat.ne_of_lt (Nat.lt_succ_of_lt ll)
      have off3 : z.heap.objs.size ∉ [(z.heap.push { cls := .type "set", dict := none, data := .set #[] 0 (.fresh 0 0 led) }).objs.size, l] := by
        rw [Heap.size_push]
        simp only [List.mem_cons, List.mem_singleton, List.not_mem_nil, or_false, not_or]
        exact ⟨Nat.ne_of_lt (Nat.lt_succ_self _), Nat.ne_of_gt ll⟩
      have many : ys.length = its.size := by rw [← StrsAre.len_eq txt, Array.length_toList]
      have val3 : ∀ (i : Nat) (v : Value), its[i]? = some v → ∃ tk, v = .str (ys.getD i Str.empty) tk := fun i v hv => SS.strs_at txt i v (by rw [Array.getElem?_toList]; exact hv)
      refine fill_texts ((Walks.list calm3 _ l ne3 its).toS) z.heap.objs.size off3 ys many (by rw [← many]; exact few) val3 (its.size - 0) 0 _ (by omega) (Nat.zero_le _) ⟨⟨_, Heap.get?_push_size _ rfl, rfl, rfl⟩, (at3.push _)⟩ ?first ?last
      case first =>
        have get3 : ((z.heap.push { cls := .type "set", dict := none, data := .set #[] 0 (.fresh 0 0 led) }).push { cls := .type "list_iterator", data := .fields #[.ref l, .int 0 0] }).get? z.heap.objs.size = some { cls := .type "set", dict := none, data := .set #[] 0 (.fresh 0 0 led) } := Heap.get?_push_of_some _ new2
        exact PyProof.Rows.SetOf_congr ((PyProof.Rows.setObjOf_fresh (knd := PySem.strKind P w) led).setOf get3 (by unfold scanBound; omega)) (fun _ => rfl) rfl
      case last =>
        intro z3 mv set3
        obtain ⟨g, ge, dr, tk, os⟩ := z3
        obtain rfl : ge = z.gens := mv.gens
        obtain rfl : dr = z.drawn := mv.drawn
        obtain rfl : os = z.os := mv.os
        show wpAny _ _ _ _ _ _
        refine wpAny_pure ?_
        show wpAny _ _ (ret Value.none) _ _ _
        refine wpAny_pure ⟨rfl, g, tk, rfl, set3, fun b o q e => ?_⟩
        refine mv.heap b o ?_ (Heap.get?_push_of_some _ (Heap.get?_push_of_some _ e))
        rw [Heap.size_push]
        simp only [List.mem_cons, List.mem_singleton, List.not_mem_nil, or_false, not_or]
        exact ⟨Nat.ne_of_lt q, Nat.ne_of_lt (Nat.lt_succ_of_lt q)⟩
    · match r2, hr2 with
      | .error e, hr2 => exact hr2
      | .ok .next, hr2 => exact hr2.elim
      | .ok .brk, hr2 => exact hr2.elim
      | .ok .cont, hr2 => exact hr2.elim
      | .ok (.ret u), hr2 =>
        obtain ⟨rfl, g, tk, rfl, set3, keep3⟩ := hr2
        repeat (any_goals (first | assumption | wp_step))
        exact go _ _ set3 keep3
end
end SetT
namespace L2
open PySem PySem.Spec PyProof.Rows SetT
/-- len(set(xs)), xs a list of texts -/
def tLenSetS (K : PySem.W.Frag) (ta : TE) : TE := fun σ H Q => ta σ H fun x H1 => ∃ (l : Addr) (ys : List Str), x = .ref l ∧ SqL K H1 l (ys.map V.str) ∧ ys.length ≤ 4000 ∧ Q (.int ((uqs ys).length : Nat)) H1
theorem pe_lenSetS {X : Cx} {a : Expr} {ta : TE} {p p2 q pos : Pos} (calm : X.calm = true) (hg : Gl X "len") (hm : X.mg "len" = none) (hg2 : Gl X "set") (hm2 : X.mg "set" = none) (ha : PE X a ta)
    (na : starEach [a] X.env = (false, eval a X.env) :: starEach [] X.env := by rfl) : PE X (.Call (.Name "len" p) [.Call (.Name "set" p2) [a] [] q] [] pos) (tLenSetS X.K ta) := by
  refine ⟨fun pins s σ H Q I h => ?_⟩
  refine Call_ (ld_blt I hg hm boot_len ?_)
  refine PyProof.Rows.callWith_builtin1 (PyProof.Rows.args_cons ?_ rfl) rfl rfl
  refine Call_ (ld_blt I hg2 hm2 boot_set ?_)
  refine PyProof.Rows.callWith_type1 (PyProof.Rows.args_cons (thn (ha.run pins s σ H _ I h) fun v s1 ⟨x, H1, I1, r1, q1⟩ => PyProof.Rows.args_nil ?_) na) na rfl
  obtain ⟨l, ys, rfl, sq, few, q1⟩ := q1
  obtain rfl : v = Value.ref l := r1
  obtain ⟨its, rv, pl, hz⟩ := I1.list sq
  refine set_texts (I1.ok.hd calm) pl.isList (ys := ys) (by simpa using strsAre_of rv) few fun g tk set3 keep3 => PyProof.Rows.args_nil ?_
  obtain ⟨o, es, ep, t, ho, hex, hd, _, _, _, hf, hn⟩ := set3
  have I2 : Inv X pins σ H1 { s1 with heap := g, toks := tk } := I1.kept fun b o e => keep3 b o (Heap.lt_size e) e
  have l3 := uqs_len ys
  exact call_len_set ho hex hd hf (by rw [hn] <;> omega) ⟨.int ((uqs ys).length : Nat), H1, I2.tok _, ⟨_, by rw [hn]⟩, q1⟩
end L2

set_option Elab.async false
set_option linter.all false
set_option maxRecDepth 100000
set_option maxHeartbeats 4000000
/-! Two readings of one call; a dict whose keys are texts taken as one. -/
namespace L2
open PySem PySem.Spec PyProof.Rows MX
section
variable {X : Cx} {f : Value} {r1 r2 : List V → Hp → VK → Prop} {q1 q2 : R2} {o : Value → Value → Sem Value} {e : Expr} {t : TE}
def tTexts (w : World) (t : TE) : TE := fun σ H Q => t σ H fun v H1 => Q v H1 ∨ ∃ (a : Addr) (ts : List (Str × V)), H1 a = some (MixO w a (txM ts)) ∧ Q v (upd H1 a (.dK (txK ts)))
theorem pe_texts (h : PE X e t) : PE X e (tTexts X.w t) := by
  refine ⟨fun pins s σ H Q I q => thn (h.run pins s σ H _ I q) fun v s1 z => ?_⟩
  obtain ⟨x, H1, I1, r, q1⟩ := z
  rcases q1 with q1 | ⟨a, ts, e, q1⟩
  · exact ⟨x, H1, I1, r, q1⟩
  · exact ⟨x, _, I1.texts e, r, q1⟩
/-- either of two expressions' readings -/
theorem PE.or {t2 : TE} (h1 : PE X e t) (h2 : PE X e t2) : PE X e (fun σ H Q => t σ H Q ∨ t2 σ H Q) := by
  refine ⟨fun pins s σ H Q I q => ?_⟩
  rcases q with q | q
  · exact h1.run pins s σ H Q I q
  · exact h2.run pins s σ H Q I q
end
theorem txM_keys (ts : List (Str × V)) : (txM ts).map (·.1) = ts.map fun p => NestedKey.text p.1 := by
  unfold txM
  rw [List.map_map]
  rfl
/-- all keys are texts: then it is one of these -/
theorem txM_of : ∀ {kvs : List (NestedKey × V × V)}, (∀ p ∈ kvs, ∃ z, p.1 = .text z ∧ p.2.1 = .str z) → ∃ ts, kvs = txM ts
  | [], _ => ⟨[], rfl⟩
  | p :: r, h => by
    obtain ⟨z, e1, e2⟩ := h p List.mem_cons_self
    obtain ⟨ts, e⟩ := txM_of fun q hq => h q (List.mem_cons_of_mem _ hq)
    refine ⟨(z, p.2.2) :: ts, ?_⟩
    obtain ⟨k, x, v⟩ := p
    dsimp only at e1 e2
    rw [e1, e2, e]
    rfl
theorem txK_nd {ts : List (Str × V)} (h : ((txM ts).map (·.1)).Nodup) : ((txK ts).map (·.1)).Nodup := by
  rw [txM_keys] at h
  unfold txK
  rw [List.map_map]
  rw [List.nodup_iff_pairwise_ne, List.pairwise_map] at h ⊢
  exact h.imp fun ne z => ne (by rw [Sum.inr.inj (show (Sum.inr _ : Key) = Sum.inr _ from z)])
theorem putM_nd {kvs : List (NestedKey × V × V)} {k : NestedKey} {x v : V} (h : (kvs.map (·.1)).Nodup) : ((putM kvs k x v).map (·.1)).Nodup := by
  unfold putM
  split
  · rw [List.map_map]
    have e : kvs.map ((·.1) ∘ fun p : NestedKey × V × V => if p.1 = k then (p.1, p.2.1, v) else p) = kvs.map (·.1) := List.map_congr_left fun p _ => by
      show (if p.1 = k then (p.1, p.2.1, v) else p).1 = p.1
      split <;> rfl
    rw [e]
    exact h
  · rename_i hn
    rw [List.map_append]
    refine List.nodup_append.mpr ⟨h, by simp, fun a ha b hb e => hn ?_⟩
    have eb : b = k := by simpa using hb
    rw [← eb, ← e]
    exact ha
theorem putM_mem {kvs : List (NestedKey × V × V)} {k : NestedKey} {x v : V} {p : NestedKey × V × V} (h : p ∈ putM kvs k x v) : p ∈ kvs ∨ p = (k, x, v) ∨ ∃ q ∈ kvs, p = (q.1, q.2.1, v) := by
  unfold putM at h
  split at h
  · obtain ⟨q, hq, rfl⟩ := List.mem_map.mp h
    split
    · exact .inr (.inr ⟨q, hq, rfl⟩)
    · exact .inl hq
  · rcases List.mem_append.mp h with z | z
    · exact .inl z
    · exact .inr (.inl (List.mem_singleton.mp z))
end L2

set_option Elab.async false
set_option linter.all false
set_option maxRecDepth 100000
set_option maxHeartbeats 8000000
/-! Values that may be no letters, no texts, no codes; what is raised. -/
namespace V8
open PySem PySem.Spec PyProof.Rows L2
def okL (s : List Nat) : Bool := s.all fun c => decide (isLt c)
theorem okL_iff {s : List Nat} : okL s = true ↔ ∀ c ∈ s, isLt c := by
  unfold okL
  rw [List.all_eq_true]
  exact ⟨fun h c hc => of_decide_eq_true (h c hc), fun h c hc => decide_eq_true (h c hc)⟩
/-- a text of letters, of a length from lo to hi -/
def wordD (lo hi : Nat) : PyData → Bool
  | .str z => decide (lo ≤ z.length) && decide (z.length ≤ hi) && okL z.cps.toList
  | _ => false
theorem Sx_self (z : Str) : Sx z.cps.toList = z := by
  unfold Sx
  cases z
  simp
theorem len_self (z : Str) : z.cps.toList.length = z.length := by
  rw [← Sx_len, Sx_self]
/-- what a drawn datum is like -/
structure NiceD (d : PyData) : Prop where
  te : Tells d
  sz : d.shown.length ≤ 3000
  dp : d.depth ≤ 1
  sh : PyData.strOk d.shown = true
  tx : ∀ z, d = .str z → z.length ≤ 2500 ∧ ∀ c ∈ z.cps.toList, c < 128
structure Held (H : Hp) (x : V) (d : PyData) : Prop where
  tl : Told2 H x
  pw : PyW H x d
  ni : NiceD d
theorem Held.th {H : Hp} {x : V} {d : PyData} (h : Held H x d) : Th1 H x d := ⟨h.tl, h.pw, h.ni.te, h.ni.sz, h.ni.dp⟩
theorem Held.same {H H2 : Hp} {x : V} {d : PyData} (h : Held H x d) (s : Same H H2) : Held H2 x d := ⟨h.tl.same s, h.pw.same s, h.ni⟩
/-- an integer of a code -/
def numD : PyData → Bool
  | .int i => decide (0 ≤ i) && decide (i ≤ 255)
  | _ => false
theorem pw_kind {K : PySem.W.Frag} {H : Hp} {x : V} {d : PyData} (p : PyW H x d) : (∃ z, x = .str z ∧ d = .str z) ∨ ((∀ lo hi, wordD lo hi d = false) ∧ ∃ t, TyX K H x t ∧ PySem.W.kitOne K t (.type "str") = some false) := by
  cases p with
  | non => exact .inr ⟨fun _ _ => rfl, _, .base .non, kit_ty (by decide +kernel)⟩
  | bl b => exact .inr ⟨fun _ _ => rfl, _, .base (.bl b), kit_ty (by decide +kernel)⟩
  | int i => exact .inr ⟨fun _ _ => rfl, _, .base (.int i), kit_ty (by decide +kernel)⟩
  | str z => exact .inl ⟨z, rfl, rfl⟩
  | tup h r => exact .inr ⟨fun _ _ => rfl, _, .base (.tup h), kit_ty (by decide +kernel)⟩
  | lst h r => exact .inr ⟨fun _ _ => rfl, _, .base (.lst h), kit_ty (by decide +kernel)⟩
  | dic h r => exact .inr ⟨fun _ _ => rfl, _, .base (.dK h), kit_ty (by decide +kernel)⟩
/-- an integer, a truth, or neither -/
theorem pw_num {K : PySem.W.Frag} {H : Hp} {x : V} {d : PyData} (p : PyW H x d) : (∃ i, x = .int i ∧ d = .int i) ∨ (∃ b, x = .bl b ∧ d = .bool b) ∨ ((∀ i, d ≠ .int i) ∧ numD d = false ∧ ∃ t, TyX K H x t ∧ PySem.W.kitOne K t (.type "int") = some false) := by
  cases p with
  | non => exact .inr (.inr ⟨(fun _ z => nomatch z), rfl, _, .base .non, kit_ty (by decide +kernel)⟩)
  | bl b => exact .inr (.inl ⟨b, rfl, rfl⟩)
  | int i => exact .inl ⟨i, rfl, rfl⟩
  | str z => exact .inr (.inr ⟨(fun _ z => nomatch z), rfl, _, .base (.str z), kit_ty (by decide +kernel)⟩)
  | tup h r => exact .inr (.inr ⟨(fun _ z => nomatch z), rfl, _, .base (.tup h), kit_ty (by decide +kernel)⟩)
  | lst h r => exact .inr (.inr ⟨(fun _ z => nomatch z), rfl, _, .base (.lst h), kit_ty (by decide +kernel)⟩)
  | dic h r => exact .inr (.inr ⟨(fun _ z => nomatch z), rfl, _, .base (.dK h), kit_ty (by decide +kernel)⟩)
/-! ### what is raised -/
inductive Bad where
  | one (i : Nat) (d : PyData)
def fldOf : Nat → Str
  | 0 => "part"
  | 3 => "letter"
  | 5 => "letter"
  | _ => "value"
def OutB (Cz : Nat → Addr) (H : Hp) (b : Bad) (E : XK) : Prop := match b with
  | .one i d => ∀ dd y H2, Same H H2 → PyW H2 y d → H2 dd = some (.xd [(fldOf i, y)]) → E (.ref (Cz i)) (some dd) H2
theorem OutB.same {Cz : Nat → Addr} {H H1 : Hp} {b : Bad} {E : XK} (o : OutB Cz H b E) (s : Same H H1) : OutB Cz H1 b E := by
  cases b with
  | one i d => exact fun dd y H2 s2 p e => o dd y H2 (fun b u h => s2 _ _ (s _ _ h)) p e
theorem OutB.rz {Cz : Nat → Addr} {H H1 : Hp} {i : Nat} {x : V} {d : PyData} {E : XK} (o : OutB Cz H (.one i d) E) (s : Same H H1) (t : Th1 H1 x d) : Rz1 (Cz i) (fldOf i) x H1 E := ⟨d, t, fun dx y H2 s2 p e => o dx y H2 (fun b u h => s2 _ _ (s _ _ h)) p e⟩
theorem th_str {H : Hp} {z : Str} (n : NiceD (.str z)) : Th1 H (.str z) (.str z) := ⟨.inl (.inl ⟨_, rfl⟩), .str _, n.te, n.sz, n.dp⟩
theorem th_int {H : Hp} {i : Int} (n : NiceD (.int i)) : Th1 H (.int i) (.int i) := ⟨.inl (.inr (.inl ⟨_, rfl⟩)), .int _, n.te, n.sz, n.dp⟩
theorem weakF {P : Program} {w : World} {K : PySem.W.Frag} {mg : Str → Option Value} {base : Heap} {C : CXT} {k : Nat} {f : Addr} {fd : FuncData} {ps : List Str} {sp sp2 : Sp} (F : FnOk P w K mg base C k f fd ps sp) (i : ∀ vs H Q E, sp2 vs H Q E → sp vs H Q E) : FnOk P w K mg base C k f fd ps sp2 :=
  ⟨fun vs H Q E h => F.len vs H Q E (i vs H Q E h), fun A outer s H args us vs Q E hr e0 b r h => F.run A outer s H args us vs Q E hr e0 b r (i vs H Q E h)⟩
def spWordD (lo hi : Nat) : Sp := fun vs H Q _ => ∃ x d, vs = [x] ∧ PyW H x d ∧ (∀ z, d = .str z → z.length ≤ 2500) ∧ Q (.bl (wordD lo hi d)) H
theorem okL_one (c : Nat) : okL [c] = decide (c ∈ abc) := by
  unfold okL
  rw [List.all_cons, List.all_nil, Bool.and_true]
  exact decide_eq_decide.mpr abc_mem.symm
theorem word_let {z : Str} : wordD 1 1 (.str z) = true ↔ ∃ c ∈ abc, z = L1 c := by
  show (decide (1 ≤ z.length) && decide (z.length ≤ 1) && okL z.cps.toList) = true ↔ _
  constructor
  · intro h
    rw [Bool.and_eq_true, Bool.and_eq_true, decide_eq_true_iff, decide_eq_true_iff] at h
    obtain ⟨⟨h1, h2⟩, h3⟩ := h
    rw [← len_self] at h1 h2
    match e : z.cps.toList, h1, h2, h3 with
    | [c], _, _, h3 =>
      refine ⟨c, abc_mem.mpr (okL_iff.mp h3 c List.mem_cons_self), ?_⟩
      rw [← Sx_self z, e]
      rfl
    | _ :: _ :: _, _, h2, _ => simp at h2
  · rintro ⟨c, hc, rfl⟩
    rw [Bool.and_eq_true, Bool.and_eq_true, decide_eq_true_iff, decide_eq_true_iff]
    exact ⟨⟨Nat.le_refl _, Nat.le_refl _⟩, okL_iff.mpr fun d hd => by
      obtain rfl : d = c := by simpa [L1] using hd
      exact abc_mem.mp hc⟩
section
variable {P : Program} {w : World} {K : PySem.W.Frag} {mg : Str → Option Value} {base : Heap} {Cz : Nat → Addr}
theorem isLetter_D {f : Addr} {fd : FuncData} (F : FnOk P w K mg base CX0 1 f fd ["value"] (spIsLetter K)) : FnOk P w K mg base CX0 1 f fd ["value"] (spWordD 1 1) := weakF F fun vs H Q E h => by
  obtain ⟨x, d, rfl, p, l, q⟩ := h
  rcases pw_kind (K := K) p with ⟨z, rfl, rfl⟩ | ⟨n, t, ty, k⟩
  · refine ⟨_, rfl, ?_⟩
    by_cases h1 : z.length = 1
    · have h2 := h1
      rw [← len_self] at h2
      match e : z.cps.toList, h2 with
      | [c], _ =>
        have ez : z = L1 c := by
          rw [← Sx_self z, e]
          rfl
        subst ez
        refine .inl ⟨c, rfl, ?_⟩
        have e2 : wordD 1 1 (.str (L1 c)) = decide (c ∈ abc) := by
          rw [Bool.eq_iff_iff, word_let, decide_eq_true_iff]
          exact ⟨fun ⟨d, hd, e⟩ => (L1_inj e) ▸ hd, fun h => ⟨c, h, rfl⟩⟩
        rw [← e2]
        exact q
    · refine .inr (.inl ⟨z, rfl, by have := l z rfl; rw [sizeLine_eq]; omega, h1, ?_⟩)
      have e2 : wordD 1 1 (.str z) = false := by
        cases e : wordD 1 1 (.str z) with
        | false => rfl
        | true =>
          obtain ⟨c, _, rfl⟩ := word_let.mp e
          exact absurd rfl h1
      rw [← e2]
      exact q
  · rw [n] at q
    exact ⟨_, rfl, .inr (.inr ⟨t, ty, k, q⟩)⟩
end
end V8

set_option Elab.async false
set_option linter.all false
set_option maxRecDepth 100000
set_option maxHeartbeats 8000000
/-! Tables of codes and of signs, as dicts; what the top has left. -/
namespace V8
open PySem PySem.Spec PyProof.Rows L2
/-- a table as a dict: keys told by kf, values by vf -/
def encG (kf : Nat → Key) (vf : Nat × List Nat → V) (t : Tab) : List (Key × V) := t.map fun q => (kf q.1, vf q)
def kL : Nat → Key := fun c => Sum.inr (L1 c)
def kN : Nat → Key := fun n => Sum.inl ((n : Nat) : Int)
theorem kL_inj : ∀ a b, kL a = kL b → a = b := fun a b e => L1_inj (Sum.inr.inj e)
theorem kN_inj : ∀ a b, kN a = kN b → a = b := fun a b e => Int.ofNat.inj (Sum.inl.inj e)
theorem encG_len {kf : Nat → Key} {vf : Nat × List Nat → V} (t : Tab) : (encG kf vf t).length = t.length := List.length_map ..
theorem find_look {t : Tab} {c : Nat} {s : List Nat} (h : lookT t c = some s) : t.find? (fun q => decide (q.1 = c)) = some (c, s) := by
  unfold lookT at h
  cases e : t.find? (fun q => decide (q.1 = c)) with
  | none =>
    rw [e] at h
    cases h
  | some q =>
    rw [e] at h
    have h3 : q.1 = c := by simpa using List.find?_some e
    have h4 : q.2 = s := Option.some.inj h
    rw [← h3, ← h4]
section
variable {kf : Nat → Key} {vf : Nat × List Nat → V} (inj : ∀ a b, kf a = kf b → a = b)
include inj
theorem valG (c : Nat) : ∀ t : Tab, valV (encG kf vf t) (kf c) = (t.find? fun q => decide (q.1 = c)).map vf
  | [] => rfl
  | q :: t => by
    have ih := valG c t
    show valV ((kf q.1, vf q) :: encG kf vf t) _ = _
    by_cases h : q.1 = c
    · rw [valV_pos (by rw [h]), List.find?_cons_of_pos (by simpa using h)]
      rfl
    · rw [valV_neg (fun e => h (inj _ _ e)), ih, List.find?_cons_of_neg (by simpa using h)]
theorem valG_some {t : Tab} {c : Nat} {s : List Nat} (h : lookT t c = some s) : valV (encG kf vf t) (kf c) = some (vf (c, s)) := by
  rw [valG inj, find_look h]
  rfl
theorem valG_is {t : Tab} {c : Nat} : (valV (encG kf vf t) (kf c)).isSome = (lookT t c).isSome := by
  rw [valG inj, Option.isSome_map]
  unfold lookT
  rw [Option.isSome_map]
theorem putG {t : Tab} {c : Nat} {s : List Nat} (h : c ∉ t.map (·.1)) : putK (encG kf vf t) (kf c) (vf (c, s)) = encG kf vf (t ++ [(c, s)]) := by
  unfold putK
  rw [if_neg]
  · unfold encG
    rw [List.map_append]
    rfl
  · intro z
    obtain ⟨p, hp, e⟩ := List.any_eq_true.mp z
    obtain ⟨q, hq, rfl⟩ := List.mem_map.mp hp
    have e' : kf q.1 = kf c := by simpa using e
    exact h (List.mem_map.mpr ⟨q, hq, inj _ _ e'⟩)
end
theorem encG_at {kf : Nat → Key} {vf : Nat × List Nat → V} {t : Tab} {i : Nat} {k : Key} {v : V} (h : (encG kf vf t)[i]? = some (k, v)) : ∃ hi : i < t.length, k = kf t[i].1 ∧ v = vf t[i] := by
  unfold encG at h
  rw [List.getElem?_map] at h
  cases e : t[i]? with
  | none =>
    rw [e] at h
    cases h
  | some c =>
    obtain ⟨hi, ec⟩ := List.getElem?_eq_some_iff.mp e
    rw [e] at h
    have h' := Option.some.inj h
    refine ⟨hi, ?_, ?_⟩
    · rw [ec]
      exact (congrArg Prod.fst h').symm
    · rw [ec]
      exact (congrArg Prod.snd h').symm
abbrev Ad := Nat → Addr
def nums (s : List Nat) : List V := s.map fun n => V.int ((n : Nat) : Int)
theorem nums_len (s : List Nat) : (nums s).length = s.length := List.length_map ..
theorem nums_at {s : List Nat} {i : Nat} {x : V} (h : (nums s)[i]? = some x) : ∃ hi : i < s.length, x = .int ((s[i] : Nat) : Int) := by
  unfold nums at h
  rw [List.getElem?_map] at h
  cases e : s[i]? with
  | none =>
    rw [e] at h
    cases h
  | some c =>
    obtain ⟨hi, ec⟩ := List.getElem?_eq_some_iff.mp e
    rw [e] at h
    exact ⟨hi, by rw [ec]; exact (Option.some.inj h).symm⟩
def encC (A : Ad) : Tab → List (Key × V) := encG kL fun q => V.ref (A q.1)
def encS : Tab → List (Key × V) := encG kN fun q => V.str (Sx q.2)
def Tups (H : Hp) (A : Ad) (t : Tab) : Prop := ∀ q ∈ t, H (A q.1) = some (.tup (nums q.2))
def GoodI4 (s : List Nat) : Prop := 1 ≤ s.length ∧ s.length ≤ 4 ∧ ∀ n ∈ s, n < 256
structure GoodC (t : Tab) : Prop where
  nd : (t.map (·.1)).Nodup
  lt : ∀ q ∈ t, isLt q.1
  cod : ∀ q ∈ t, GoodI4 q.2
structure GoodS (t : Tab) : Prop where
  nd : (t.map (·.1)).Nodup
  lt : ∀ q ∈ t, q.1 < 256
  sg : ∀ q ∈ t, ∃ c, q.2 = [c] ∧ isLt c
theorem GoodC.key {t : Tab} (g : GoodC t) : (t.length ≤ 26) := by
  have h := nd_len (a := t.map (·.1)) (b := abc) g.nd fun x hx => by
    obtain ⟨q, hq, rfl⟩ := List.mem_map.mp hx
    exact abc_mem.mpr (g.lt q hq)
  rw [List.length_map, abc_len] at h
  exact h
theorem GoodS.key {t : Tab} (g : GoodS t) : (t.length ≤ 256) := by
  have h := nd_len (a := t.map (·.1)) (b := List.range 256) g.nd fun x hx => by
    obtain ⟨q, hq, rfl⟩ := List.mem_map.mp hx
    exact List.mem_range.mpr (g.lt q hq)
  rw [List.length_map, List.length_range] at h
  exact h
theorem GoodC.nil : GoodC [] := ⟨List.nodup_nil, fun q h => (List.not_mem_nil h).elim, fun q h => (List.not_mem_nil h).elim⟩
theorem GoodS.nil : GoodS [] := ⟨List.nodup_nil, fun q h => (List.not_mem_nil h).elim, fun q h => (List.not_mem_nil h).elim⟩
theorem GoodC.look {t : Tab} (g : GoodC t) {c : Nat} {s : List Nat} (h : lookT t c = some s) : isLt c ∧ GoodI4 s := ⟨g.lt _ (look_in h), g.cod _ (look_in h)⟩
theorem GoodS.look {t : Tab} (g : GoodS t) {n : Nat} {s : List Nat} (h : lookT t n = some s) : n < 256 ∧ ∃ c, s = [c] ∧ isLt c := ⟨g.lt _ (look_in h), g.sg _ (look_in h)⟩
/-- the kept part of a table, in the order of L -/
def keysL (L : List Nat) (u : Tab) : List Nat := L.filter fun c => (lookT u c).isSome
def imsL (L : List Nat) (u : Tab) : Tab := (keysL L u).map fun c => (c, (lookT u c).getD [])
theorem look_imsL (L : List Nat) (u : Tab) (c : Nat) : lookT (imsL L u) c = if c ∈ keysL L u then some ((lookT u c).getD []) else none := lookT_map _ c _
theorem look_imsL_in {L : List Nat} {u : Tab} (h : ∀ q ∈ u, q.1 ∈ L) (c : Nat) : lookT (imsL L u) c = lookT u c := by
  rw [look_imsL]
  cases e : lookT u c with
  | none =>
    rw [if_neg]
    intro z
    have := (List.mem_filter.mp z).2
    rw [e] at this
    cases this
  | some s =>
    rw [if_pos]
    · rfl
    · exact List.mem_filter.mpr ⟨h _ (look_in e), by rw [e]; rfl⟩
theorem imsL_len (L : List Nat) (u : Tab) : (imsL L u).length ≤ L.length := by
  unfold imsL
  rw [List.length_map]
  exact List.length_filter_le _ _
theorem imsL_key {L : List Nat} {u : Tab} {c : Nat} (h : c ∈ (imsL L u).map (·.1)) : c ∈ L := by
  obtain ⟨q, hq, rfl⟩ := List.mem_map.mp h
  obtain ⟨c, hc, rfl⟩ := List.mem_map.mp hq
  exact (List.mem_filter.mp hc).1
theorem imsL_no {L : List Nat} {u : Tab} {c : Nat} (h : lookT u c = none) : imsL (L ++ [c]) u = imsL L u := by
  unfold imsL keysL
  rw [List.filter_append, List.filter_cons_of_neg (by rw [h]; simp), List.filter_nil, List.append_nil]
theorem imsL_yes {L : List Nat} {u : Tab} {c : Nat} {s : List Nat} (h : lookT u c = some s) : imsL (L ++ [c]) u = imsL L u ++ [(c, s)] := by
  unfold imsL keysL
  rw [List.filter_append, List.filter_cons_of_pos (by rw [h]; rfl), List.filter_nil, List.map_append, List.map_singleton, h]
  rfl
theorem GoodC.inL {t : Tab} (g : GoodC t) : ∀ q ∈ t, q.1 ∈ abc := fun q h => abc_mem.mpr (g.lt q h)
theorem GoodS.inL {t : Tab} (g : GoodS t) : ∀ q ∈ t, q.1 ∈ List.range 256 := fun q h => List.mem_range.mpr (g.lt q h)
theorem imsL_mem {L : List Nat} {u : Tab} {q : Nat × List Nat} (h : q ∈ imsL L u) : lookT u q.1 = some q.2 ∧ q.1 ∈ L := by
  obtain ⟨c, hc, rfl⟩ := List.mem_map.mp h
  have m := List.mem_filter.mp hc
  obtain ⟨s, e⟩ := Option.isSome_iff_exists.mp m.2
  refine ⟨?_, m.1⟩
  show lookT u c = some ((lookT u c).getD [])
  rw [e]
  rfl
theorem Tups.look {H : Hp} {A : Ad} {t : Tab} (h : Tups H A t) {c : Nat} {s : List Nat} (e : lookT t c = some s) : H (A c) = some (.tup (nums s)) := h _ (look_in e)
theorem Tups.same {H H' : Hp} {A : Ad} {t : Tab} (h : Tups H A t) (s : Same H H') : Tups H' A t := fun q hq => s _ _ (h q hq)
theorem Tups.upd {H : Hp} {A : Ad} {t : Tab} {d : Addr} {o : HO} (h : Tups H A t) (hd : ∀ xs, H d ≠ some (.tup xs)) : Tups (upd H d o) A t := fun q hq => by
  rw [upd_ne]
  · exact h q hq
  · intro z
    have e := h q hq
    rw [z] at e
    exact hd _ e
def fW (b : Addr) : List (Str × V) := putF "_codes" (.ref b) []
def fR (b : Addr) : List (Str × V) := putF "_signs" (.ref b) []
theorem fW_i (b : Addr) : (fW b).lookup ("_codes" : Str) = some (.ref b) := by
  unfold fW
  rw [lookup_putF, if_pos rfl]
theorem fR_i (b : Addr) : (fR b).lookup ("_signs" : Str) = some (.ref b) := by
  unfold fR
  rw [lookup_putF, if_pos rfl]
structure WrAt (C : Addr) (H : Hp) (x : Addr) (A : Ad) (t : Tab) : Prop where
  at_ : ∃ dx b, H x = some (.ins C dx (fW b)) ∧ Rd H b (.dK (encC A (imsL abc t)))
  tu : Tups H A t
  g : GoodC t
structure RdAt (C : Addr) (H : Hp) (x : Addr) (t : Tab) : Prop where
  at_ : ∃ dx b, H x = some (.ins C dx (fR b)) ∧ Rd H b (.dK (encS (imsL (List.range 256) t)))
  g : GoodS t
theorem Rd.same {H H' : Hp} {b : Addr} {o : HO} (h : Rd H b o) (s : Same H H') : Rd H' b o := by
  rcases h with h | ⟨od, h⟩
  · exact .inl (s _ _ h)
  · exact .inr ⟨od, s _ _ h⟩
theorem WrAt.same {C : Addr} {H H' : Hp} {x : Addr} {A : Ad} {t : Tab} (m : WrAt C H x A t) (s : Same H H') : WrAt C H' x A t := by
  obtain ⟨⟨dx, b, h1, h2⟩, tu, g⟩ := m
  exact ⟨⟨dx, b, s _ _ h1, Rd.same h2 s⟩, tu.same s, g⟩
theorem RdAt.same {C : Addr} {H H' : Hp} {x : Addr} {t : Tab} (m : RdAt C H x t) (s : Same H H') : RdAt C H' x t := by
  obtain ⟨⟨dx, b, h1, h2⟩, g⟩ := m
  exact ⟨⟨dx, b, s _ _ h1, Rd.same h2 s⟩, g⟩
structure WrU (C : Addr) (H : Hp) (x : Addr) (A : Ad) (t : Tab) : Prop where
  at_ : ∃ dx b, H x = some (.ins C dx (fW b)) ∧ H b = some (.dK (encC A (imsL abc t)))
  tu : Tups H A t
  g : GoodC t
theorem WrU.wr {C : Addr} {H : Hp} {x : Addr} {A : Ad} {t : Tab} (m : WrU C H x A t) : WrAt C H x A t := by
  obtain ⟨⟨dx, b, h1, h2⟩, tu, g⟩ := m
  exact ⟨⟨dx, b, h1, .inl h2⟩, tu, g⟩
theorem WrU.same {C : Addr} {H H' : Hp} {x : Addr} {A : Ad} {t : Tab} (m : WrU C H x A t) (s : Same H H') : WrU C H' x A t := by
  obtain ⟨⟨dx, b, h1, h2⟩, tu, g⟩ := m
  exact ⟨⟨dx, b, s _ _ h1, s _ _ h2⟩, tu.same s, g⟩
structure RdU (C : Addr) (H : Hp) (x : Addr) (t : Tab) : Prop where
  at_ : ∃ dx b, H x = some (.ins C dx (fR b)) ∧ H b = some (.dK (encS (imsL (List.range 256) t)))
  g : GoodS t
theorem RdU.rd {C : Addr} {H : Hp} {x : Addr} {t : Tab} (m : RdU C H x t) : RdAt C H x t := by
  obtain ⟨⟨dx, b, h1, h2⟩, g⟩ := m
  exact ⟨⟨dx, b, h1, .inl h2⟩, g⟩
theorem RdU.same {C : Addr} {H H' : Hp} {x : Addr} {t : Tab} (m : RdU C H x t) (s : Same H H') : RdU C H' x t := by
  obtain ⟨⟨dx, b, h1, h2⟩, g⟩ := m
  exact ⟨⟨dx, b, s _ _ h1, s _ _ h2⟩, g⟩
/-- one dict of keys and codes -/
def CodA (H : Hp) (d : Addr) (A : Ad) (t : Tab) : Prop := H d = some (.dK (encC A t)) ∧ Tups H A t ∧ GoodC t
def SigA (H : Hp) (d : Addr) (t : Tab) : Prop := H d = some (.dK (encS t)) ∧ GoodS t
structure Tc (K : PySem.W.Frag) (mg : Str → Option Value) (CW CE : Addr) (Cz : Nat → Addr) : Prop extends Tq mg where
  iter : mg "iter" = none
  all : mg "all" = none
  bool : mg "bool" = none
  ValueError : mg "ValueError" = none
  gLETTERS : GV mg "LETTERS" (.str abcS)
  gLONGEST : GV mg "LONGEST" (.int 2000)
  gNUMBERS : GV mg "NUMBERS" (.int 256)
  gLONGEST_CODE : GV mg "LONGEST_CODE" (.int 4)
  gWriteTable : GV mg "WriteTable" (.ref CW)
  gBadTable : GV mg "BadTable" (.ref (Cz 0))
  gBadLetter : GV mg "BadLetter" (.ref (Cz 1))
  gBadCode : GV mg "BadCode" (.ref (Cz 2))
  gNoSign : GV mg "NoSign" (.ref (Cz 3))
  gBadWord : GV mg "BadWord" (.ref (Cz 4))
  gUnlike : GV mg "Unlike" (.ref (Cz 5))
  gE : mg "RepairError" = some (.ref CE)
  clW : Cls K CW
  nW : NoAttr K CW "_codes"
  tB : PySem.W.specialIn K (.builtin "object.__class__") "__get__" = some (some (.builtin "getset_descriptor.__get__"))
  tC : PySem.W.takesIn K (.builtin "object.__class__") = some true
  wA : PySem.W.findIn K (.ref CW) "__class__" = some (some (.builtin "object.__class__"))
  wD : PySem.W.mroIn K CW (.type "object") = some true
  WW : PySem.W.kitOne K (.ref CW) (.ref CW) = some true
  nfW : PySem.W.notFirst K CW (.ref CW) = true
  nfd : PySem.W.notFirst K CW (.type "dict") = true
  neW : PySem.W.findIn K (.ref CW) "__ne__" = some (some (.builtin "object.__ne__"))
  oN : PySem.W.kitOne K (.type "NoneType") (.ref CW) = some false
  oD : PySem.W.kitOne K (.type "dict") (.ref CW) = some false
  oS : PySem.W.kitOne K (.type "str") (.ref CW) = some false
  oI : PySem.W.kitOne K (.type "int") (.ref CW) = some false
  eX : ∀ i, i < 6 → PySem.W.exmOne K (.ref (Cz i)) (.ref CE) = some true
  kit : ∀ i j, i < 6 → j < 6 → PySem.W.kitOne K (.ref (Cz i)) (.ref (Cz j)) = some (decide (i = j))
  kV : ∀ i, i < 6 → PySem.W.kitOne K (.ref (Cz i)) (.type "ValueError") = some true
  xc : ∀ i, i < 6 → ExcC K (Cz i)
  no : ∀ i, i < 6 → PySem.W.findIn K (.ref (Cz i)) (fldOf i) = some none
end V8

set_option Elab.async false
set_option linter.all false
set_option maxRecDepth 100000
set_option maxHeartbeats 8000000
/-! The program's own tests, of any value. -/
namespace V8
open PySem PySem.Spec PyProof.Rows L2 MX
abbrev s_is_letter : Stmt := topS 13
abbrev n_is_letter : List Str := ["value"]
theorem sc_is_letter : FnScope ["value"] ["value"] (defScope s_is_letter) := ⟨rfl, rfl, rfl, by decide +kernel, rfl, by decide +kernel, by decide +kernel⟩
abbrev s_is_integer : Stmt := topS 16
abbrev n_is_integer : List Str := ["value"]
theorem sc_is_integer : FnScope ["value"] ["value"] (defScope s_is_integer) := ⟨rfl, rfl, rfl, by decide +kernel, rfl, by decide +kernel, by decide +kernel⟩
abbrev s_is_between : Stmt := topS 17
abbrev n_is_between : List Str := ["value", "least", "most"]
theorem sc_is_between : FnScope ["value", "least", "most"] ["value", "least", "most"] (defScope s_is_between) := ⟨rfl, rfl, rfl, by decide +kernel, rfl, by decide +kernel, by decide +kernel⟩
abbrev s_is_number : Stmt := topS 23
abbrev n_is_number : List Str := ["value"]
theorem sc_is_number : FnScope ["value"] ["value"] (defScope s_is_number) := ⟨rfl, rfl, rfl, by decide +kernel, rfl, by decide +kernel, by decide +kernel⟩
abbrev s_is_code : Stmt := topS 24
abbrev n_is_code : List Str := ["value", "number"]
theorem sc_is_code : FnScope ["value", "number"] ["value"] (defScope s_is_code) := ⟨rfl, rfl, rfl, by decide +kernel, rfl, by decide +kernel, by decide +kernel⟩
abbrev s_is_text : Stmt := topS 14
abbrev n_is_text : List Str := ["value"]
theorem sc_is_text : FnScope ["value"] ["value"] (defScope s_is_text) := ⟨rfl, rfl, rfl, by decide +kernel, rfl, by decide +kernel, by decide +kernel⟩
abbrev s_all_letters : Stmt := topS 15
abbrev n_all_letters : List Str := ["string"]
theorem sc_all_letters : FnScope ["string"] ["string"] (defScope s_all_letters) := ⟨rfl, rfl, rfl, by decide +kernel, rfl, by decide +kernel, by decide +kernel⟩
abbrev s_check_text : Stmt := topS 18
abbrev n_check_text : List Str := ["value"]
theorem sc_check_text : FnScope ["value"] ["value"] (defScope s_check_text) := ⟨rfl, rfl, rfl, by decide +kernel, rfl, by decide +kernel, by decide +kernel⟩
def intD : PyData → Bool
  | .int _ => true
  | _ => false
def spIntD : Sp := fun vs H Q _ => ∃ x d, vs = [x] ∧ PyW H x d ∧ Q (.bl (intD d)) H
def spBtwD : Sp := fun vs H Q _ => ∃ x d, vs = [x, .int 0, .int 255] ∧ PyW H x d ∧ Q (.bl (numD d)) H
def spNumD : Sp := fun vs H Q _ => ∃ x d, vs = [x] ∧ PyW H x d ∧ Q (.bl (numD d)) H
theorem i4_num {s : List Nat} (h : GoodI4 s) {i : Nat} (hi : i < s.length) : (0 : Int) ≤ (s[i] : Nat) ∧ ((s[i] : Nat) : Int) < 256 := by
  have := h.2.2 _ (List.getElem_mem hi)
  omega
theorem num_nat {n : Nat} (h : n < 256) : numD (.int ((n : Nat) : Int)) = true := by
  show (decide ((0 : Int) ≤ (n : Int)) && decide ((n : Int) ≤ 255)) = true
  rw [decide_eq_true (by omega), decide_eq_true (by omega)]
  rfl
theorem num_some {d : PyData} (h : numD d = true) : ∃ n : Nat, n < 256 ∧ d = .int ((n : Nat) : Int) := by
  cases d with
  | int i =>
    have h2 : (decide (0 ≤ i) && decide (i ≤ 255)) = true := h
    rw [Bool.and_eq_true, decide_eq_true_iff, decide_eq_true_iff] at h2
    exact ⟨i.toNat, by omega, by rw [Int.toNat_of_nonneg h2.1]⟩
  | none => cases h
  | bool b => cases h
  | str s => cases h
  | list l => cases h
  | tuple l => cases h
  | dict l => cases h
theorem tw_all {p : Nat → Bool} : ∀ {l : List Nat}, (∀ c ∈ l, p c = true) → l.takeWhile p = l
  | [], _ => rfl
  | a :: r, h => by
    rw [List.takeWhile_cons, if_pos (h a (List.mem_cons_self ..)), tw_all fun c hc => h c (List.mem_cons_of_mem _ hc)]
theorem strip_all {cs : List Nat} (h : ∀ c ∈ cs, isLt c) : (Txt.stripChars (Sx cs) abcS).length = 0 := by
  have ha : ∀ c ∈ cs, abcS.cps.contains c = true := fun c hc => by
    have h1 : c ∈ abcS.cps.toList := by
      rw [abcS_cps]
      exact abc_mem.mpr (h c hc)
    exact Array.contains_iff_mem.mpr (Array.mem_toList_iff.mp h1)
  have hl : stripLo abcS.cps.contains true (Sx cs) = cs.length := by
    unfold stripLo
    rw [if_pos rfl]
    show (List.takeWhile abcS.cps.contains cs).length = cs.length
    rw [tw_all ha]
  unfold Txt.stripChars
  rw [stripBy_eq, hl]
  have e := TL.tl_strSub (Sx cs) cs.length (stripHi abcS.cps.contains true (Sx cs) cs.length)
  have e2 : TL.tl (Sx cs) = cs := rfl
  rw [e2, List.drop_length, List.take_nil] at e
  have e3 := congrArg List.length e
  exact e3
theorem abc_has (c : Nat) : abcS.cps.contains c = decide (isLt c) := by
  have h : abcS.cps.contains c = true ↔ isLt c := by
    rw [Array.contains_iff_mem, ← Array.mem_toList_iff, abcS_cps]
    exact abc_mem
  by_cases e : isLt c
  · rw [decide_eq_true e, h.mpr e]
  · rw [decide_eq_false e]
    cases z : abcS.cps.contains c with
    | false => rfl
    | true => exact absurd (h.mp z) e
theorem mem_tw {p : Nat → Bool} {c : Nat} : ∀ {m : List Nat}, c ∈ m.takeWhile p → p c = true
  | [], h => by cases h
  | a :: m, h => by
    rw [List.takeWhile_cons] at h
    by_cases q : p a = true
    · rw [if_pos q] at h
      rcases List.mem_cons.mp h with rfl | h
      · exact q
      · exact mem_tw h
    · rw [if_neg q] at h
      cases h
theorem tw_less {p : Nat → Bool} {l : List Nat} {c : Nat} (hc : c ∈ l) (hp : p c = false) : (l.takeWhile p).length < l.length := by
  rcases Nat.lt_or_ge (l.takeWhile p).length l.length with h | h
  · exact h
  · have e := (List.takeWhile_prefix p (l := l)).eq_of_length_le h
    rw [← e] at hc
    rw [mem_tw hc] at hp
    cases hp
theorem strip_some {z : List Nat} {c : Nat} (hc : c ∈ z) (hn : ¬ isLt c) : (Txt.stripChars (Sx z) abcS).length ≠ 0 := by
  have hp : abcS.cps.contains c = false := by rw [abc_has, decide_eq_false hn]
  have hl : stripLo abcS.cps.contains true (Sx z) = (z.takeWhile abcS.cps.contains).length := by
    unfold stripLo
    rw [if_pos rfl]
    rfl
  unfold Txt.stripChars
  rw [stripBy_eq, hl]
  have e := TL.tl_strSub (Sx z) (z.takeWhile abcS.cps.contains).length (stripHi abcS.cps.contains true (Sx z) (z.takeWhile abcS.cps.contains).length)
  have e2 : TL.tl (Sx z) = z := rfl
  rw [e2] at e
  have e3 := congrArg List.length e
  have ed : z.drop (z.takeWhile abcS.cps.contains).length = z.dropWhile abcS.cps.contains := by
    conv => lhs; arg 2; rw [← List.takeWhile_append_dropWhile (p := abcS.cps.contains) (l := z)]
    rw [List.drop_left]
  have hh : stripHi abcS.cps.contains true (Sx z) (z.takeWhile abcS.cps.contains).length = z.length - ((z.dropWhile abcS.cps.contains).reverse.takeWhile abcS.cps.contains).length := by
    unfold stripHi
    rw [if_pos rfl, ← ed]
    rfl
  have hm : c ∈ (z.dropWhile abcS.cps.contains).reverse := by
    rw [List.mem_reverse]
    have h1 := hc
    rw [← List.takeWhile_append_dropWhile (p := abcS.cps.contains) (l := z)] at h1
    rcases List.mem_append.mp h1 with h | h
    · exfalso
      rw [mem_tw h] at hp
      cases hp
    · exact h
  have hw := tw_less hm hp
  have hs : (z.takeWhile abcS.cps.contains).length + (z.dropWhile abcS.cps.contains).length = z.length := by
    rw [← List.length_append, List.takeWhile_append_dropWhile]
  rw [List.length_reverse] at hw
  rw [ed, hh, List.length_take] at e3
  rw [hh]
  intro h0
  have e4 := e3.symm.trans h0
  omega
def spAllG : Sp := fun vs H Q _ => ∃ z : List Nat, vs = [.str (Sx z)] ∧ z.length ≤ 2000 ∧ Q (.bl (okL z)) H
def spTxtA (K : PySem.W.Frag) : Sp := fun vs H Q _ => ∃ x, vs = [x] ∧ ((∃ z : List Nat, x = .str (Sx z) ∧ z.length ≤ 3000 ∧ Q (.bl (decide (z.length ≤ 2000) && okL z)) H) ∨ (∃ t, TyX K H x t ∧ PySem.W.kitOne K t (.type "str") = some false ∧ Q (.bl false) H))
def spChkD (Cz : Nat → Addr) : Sp := fun vs H Q E => ∃ x d, vs = [x] ∧ Held H x d ∧ ((wordD 0 2000 d = true ∧ Q .non H) ∨ (wordD 0 2000 d = false ∧ OutB Cz H (.one 4 d) E))
def codeD : PyData → Bool
  | .tuple ds => decide (1 ≤ ds.length) && decide (ds.length ≤ 4) && ds.all numD
  | _ => false
def spCodeD : Sp := fun vs H Q _ => ∃ x d, vs = [x] ∧ PyW H x d ∧ ∀ H', Same H H' → Q (.bl (codeD d)) H'
theorem pw_tup {K : PySem.W.Frag} {H : Hp} {x : V} {d : PyData} (p : PyW H x d) : (∃ a xs ds, x = .ref a ∧ d = .tuple ds ∧ H a = some (.tup xs) ∧ PyWs H xs ds) ∨ (codeD d = false ∧ ∃ t, TyX K H x t ∧ PySem.W.kitOne K t (.type "tuple") = some false) := by
  cases p with
  | non => exact .inr ⟨rfl, _, .base .non, kit_ty (by decide +kernel)⟩
  | bl b => exact .inr ⟨rfl, _, .base (.bl b), kit_ty (by decide +kernel)⟩
  | int i => exact .inr ⟨rfl, _, .base (.int i), kit_ty (by decide +kernel)⟩
  | str z => exact .inr ⟨rfl, _, .base (.str z), kit_ty (by decide +kernel)⟩
  | tup h r => exact .inl ⟨_, _, _, rfl, rfl, h, r⟩
  | lst h r => exact .inr ⟨rfl, _, .base (.lst h), kit_ty (by decide +kernel)⟩
  | dic h r => exact .inr ⟨rfl, _, .base (.dK h), kit_ty (by decide +kernel)⟩
theorem pws_len {H : Hp} : ∀ {xs : List V} {ds : List PyData}, PyWs H xs ds → xs.length = ds.length
  | _, _, .nil => rfl
  | _, _, .cons _ r => by rw [List.length_cons, List.length_cons, pws_len r]
theorem pws_at {H : Hp} : ∀ {xs : List V} {ds : List PyData} {i : Nat} {x : V}, PyWs H xs ds → xs[i]? = some x → ∃ d, ds[i]? = some d ∧ PyW H x d
  | _, _, _, _, .nil, e => by simp at e
  | _, _, 0, _, .cons h _, e => by
    cases e
    exact ⟨_, rfl, h⟩
  | _, _, i + 1, _, .cons _ r, e => pws_at (i := i) r (by simpa using e)
section
variable {P : Program} {w : World} {K : PySem.W.Frag} {mg : Str → Option Value} {base : Heap} {CW CE : Addr} {Cz : Nat → Addr}
theorem ok_is_letter {f : Addr} {fd : FuncData} (F : Fun K "is_letter" "is_letter" s_is_letter f fd) (T : Tc K mg CW CE Cz) : FnOk P w K mg base CX0 1 f fd ["value"] (spIsLetter K) := by
  refine F.ok sc_is_letter (fun vs H Q E h => ?_) (fun cdv A outer s H vs Q E hr h => ?_)
  · obtain ⟨x, rfl, _⟩ := h
    rfl
  · obtain ⟨x, rfl, h⟩ := h
    refine ⟨_, (pss_one (ps_ret (pe_and (pe_callB call_isi (by rfl) T.isinstance (by decide +kernel) (pa_cons (pv 0) (pa_cons (pe_bltn (v := .ty "str") (by rfl) T.str (by decide +kernel) rfl) pa_nil))) (pe_and (pe_cmpR op_eq (pe_callB call_len_str (by rfl) T.len (by decide +kernel) (pa_cons (pv 0) pa_nil)) pe_int (nomark _)) (pe_one (pe_cmpR op_in_sign (pv 0) (pe_gv T.gLETTERS (by rfl)) rfl)))))), ?_⟩
    rcases h with ⟨c, rfl, q⟩ | ⟨z, rfl, hz, h1, q⟩ | ⟨t, ty, e, q⟩
    · refine ⟨_, rfl, _, .ty "str", .type "str", .type "str", true, rfl, .ty _, ty_str _, kit_ty (by decide +kernel), true, rfl, ?_⟩
      refine ⟨_, rfl, _, rfl, by show 1 ≤ sizeLine; decide, rfl, true, rfl, ?_⟩
      refine ⟨_, rfl, c, abcS, rfl, rfl, ?_⟩
      rw [abcS_cps]
      exact q
    · refine ⟨_, rfl, _, .ty "str", .type "str", .type "str", true, rfl, .ty _, ty_str _, kit_ty (by decide +kernel), true, rfl, ?_⟩
      refine ⟨_, rfl, _, rfl, hz, rfl, false, ?_, ?_⟩
      · rw [decide_eq_false]
        intro e
        have e' := V.int.inj e
        omega
      · exact q
    · exact ⟨_, rfl, _, .ty "str", t, .type "str", false, rfl, .ty _, ty, e, false, rfl, q⟩
theorem ok_is_integerD {f : Addr} {fd : FuncData} (F : Fun K "is_integer" "is_integer" s_is_integer f fd) (T : Tc K mg CW CE Cz) : FnOk P w K mg base CX0 1 f fd ["value"] spIntD := by
  refine F.ok sc_is_integer (fun vs H Q E h => ?_) (fun cdv A outer s H vs Q E hr h => ?_)
  · obtain ⟨x, d, rfl, _⟩ := h
    rfl
  · obtain ⟨x, d, rfl, p, q⟩ := h
    refine ⟨_, (pss_one (ps_ret (pe_and (pe_callB call_isi (by rfl) T.isinstance (by decide +kernel) (pa_cons (pv 0) (pa_cons (pe_bltn (v := .ty "int") (by rfl) T.int (by decide +kernel) rfl) pa_nil))) (pe_one (pe_not (pe_callB call_isi (by rfl) T.isinstance (by decide +kernel) (pa_cons (pv 0) (pa_cons (pe_bltn (v := .ty "bool") (by rfl) T.bool (by decide +kernel) rfl) pa_nil)))))))), ?_⟩
    rcases pw_num (K := K) p with ⟨i, rfl, rfl⟩ | ⟨b, rfl, rfl⟩ | ⟨ni, _, t, ty, e⟩
    · refine ⟨_, rfl, _, .ty "int", .type "int", .type "int", true, rfl, .ty _, .base (.int i), kit_ty (by decide +kernel), true, rfl, ?_⟩
      refine ⟨_, rfl, _, .ty "bool", .type "int", .type "bool", false, rfl, .ty _, .base (.int i), kit_ty (by decide +kernel), ?_⟩
      exact ⟨_, rfl, q⟩
    · refine ⟨_, rfl, _, .ty "int", .type "bool", .type "int", true, rfl, .ty _, .base (.bl b), kit_ty (by decide +kernel), true, rfl, ?_⟩
      refine ⟨_, rfl, _, .ty "bool", .type "bool", .type "bool", true, rfl, .ty _, .base (.bl b), kit_ty (by decide +kernel), ?_⟩
      exact ⟨_, rfl, q⟩
    · have e2 : intD d = false := by
        cases d with
        | int i => exact absurd rfl (ni i)
        | _ => rfl
      rw [e2] at q
      exact ⟨_, rfl, _, .ty "int", t, .type "int", false, rfl, .ty _, ty, e, false, rfl, q⟩
theorem ok_is_betweenD {f : Addr} {fd : FuncData} (F : Fun K "is_between" "is_between" s_is_between f fd) (T : Tc K mg CW CE Cz) (D_is_integer : Df P w K mg base 1 "is_integer" spIntD) : FnOk P w K mg base CX0 2 f fd ["value", "least", "most"] spBtwD := by
  refine F.ok sc_is_between (fun vs H Q E h => ?_) (fun cdv A outer s H vs Q E hr h => ?_)
  · obtain ⟨x, d, rfl, _⟩ := h
    rfl
  · obtain ⟨x, d, rfl, p, q⟩ := h
    refine ⟨_, (pss_one (ps_ret (pe_and (pe_c D_is_integer hr (by decide) (by rfl) (pa_cons (pv 0) pa_nil)) (pe_one (pe_chain op_le op_le (pv 1) (pv 0) (pv 2)))))), ?_⟩
    refine ⟨_, rfl, x, d, rfl, p, ?_⟩
    rcases pw_num (K := K) p with ⟨i, rfl, rfl⟩ | ⟨b, rfl, rfl⟩ | ⟨ni, e, _⟩
    · refine ⟨true, rfl, iteT ⟨_, rfl, _, rfl, _, _, rfl, rfl, decide (0 ≤ i), rfl, ?_⟩⟩
      have q1 : Q (.bl (decide (0 ≤ i) && decide (i ≤ 255))) H := q
      by_cases h : 0 ≤ i
      · rw [decide_eq_true h] at q1 ⊢
        refine ⟨_, rfl, _, _, rfl, rfl, ?_⟩
        rw [Bool.true_and] at q1
        exact q1
      · rw [decide_eq_false h] at q1 ⊢
        rw [Bool.false_and] at q1
        exact q1
    · exact ⟨false, rfl, iteF q⟩
    · have e2 : intD d = false := by
        cases d with
        | int i => exact absurd rfl (ni i)
        | _ => rfl
      rw [e2]
      rw [e] at q
      exact ⟨false, rfl, iteF q⟩
theorem ok_is_numberD {f : Addr} {fd : FuncData} (F : Fun K "is_number" "is_number" s_is_number f fd) (T : Tc K mg CW CE Cz) (D_is_between : Df P w K mg base 2 "is_between" spBtwD) : FnOk P w K mg base CX0 3 f fd ["value"] spNumD := by
  refine F.ok sc_is_number (fun vs H Q E h => ?_) (fun cdv A outer s H vs Q E hr h => ?_)
  · obtain ⟨x, d, rfl, _⟩ := h
    rfl
  · obtain ⟨x, d, rfl, p, q⟩ := h
    refine ⟨_, (pss_one (ps_ret (pe_c D_is_between hr (by decide) (by rfl) (pa_cons (pv 0) (pa_cons pe_int (pa_cons (pe_op op_sub (pe_gv T.gNUMBERS (by rfl)) pe_int) pa_nil)))))), ?_⟩
    exact ⟨_, rfl, _, _, rfl, rfl, x, d, rfl, p, q⟩
theorem ok_is_codeD {f : Addr} {fd : FuncData} (F : Fun K "is_code" "is_code" s_is_code f fd) (T : Tc K mg CW CE Cz) (D_is_number : Df P w K mg base 3 "is_number" spNumD) : FnOk P w K mg base CX0 4 f fd ["value"] spCodeD := by
  refine F.ok sc_is_code (fun vs H Q E h => ?_) (fun cdv A outer s H vs Q E hr h => ?_)
  · obtain ⟨x, d, rfl, _⟩ := h
    rfl
  · obtain ⟨x, d, rfl, p, q⟩ := h
    refine ⟨_, (pss_one (ps_ret (pe_and (pe_callB call_isi (by rfl) T.isinstance (by decide +kernel) (pa_cons (pv 0) (pa_cons (pe_bltn (v := .ty "tuple") (by rfl) T.tuple (by decide +kernel) rfl) pa_nil))) (pe_and (pe_chain op_le op_le pe_int (pe_callB (call_len_seqK (K := K) rfl) (by rfl) T.len (by decide +kernel) (pa_cons (pv 0) pa_nil)) (pe_gv T.gLONGEST_CODE (by rfl))) (pe_one (pe_callB (cr_all rfl) (by rfl) T.all (by decide +kernel) (pa_cons (pe_lc (own := [("number", 1)]) (g := gName 1) (by rfl) sc_is_code.nd (pi_tup (pv 0)) (blkOk_by (own := [("number", 1)]) (N := n_is_code) (sc := defScope s_is_code) (by decide +kernel)) (fun _ _ _ _ _ => (pg_name (i := 1) sc_is_code.nd rfl (.inl rfl))) (fun _ _ _ _ _ => pts_nil) (fun _ _ _ _ _ => (pe_c D_is_number hr (by decide) (by rfl) (pa_cons (pv 1) pa_nil)))) pa_nil))))))), ?_⟩
    rcases pw_tup (K := K) p with ⟨a, xs, ds, rfl, rfl, ha, ps⟩ | ⟨e, t, ty, k⟩
    · have len := pws_len ps
      refine ⟨_, rfl, _, .ty "tuple", .type "tuple", .type "tuple", true, rfl, .ty _, .base (.tup ha), kit_ty (by decide +kernel), true, rfl, iteT ?_⟩
      refine ⟨_, rfl, a, _, rfl, .inr (.inl (.inl ha)), ?_⟩
      refine ⟨_, _, rfl, rfl, decide (1 ≤ ds.length), ?_, ?_⟩
      · show V.bl (decide ((1 : Int) ≤ (xs.length : Int))) = _
        rw [len]
        congr 1
        by_cases h : 1 ≤ ds.length
        · rw [decide_eq_true h, decide_eq_true (by omega)]
        · rw [decide_eq_false h, decide_eq_false (by omega)]
      have q2 : ∀ H', Same H H' → Q (.bl (decide (1 ≤ ds.length) && decide (ds.length ≤ 4) && ds.all numD)) H' := q
      by_cases h1 : 1 ≤ ds.length
      · rw [decide_eq_true h1] at q2 ⊢
        rw [Bool.true_and] at q2
        refine iteT ⟨_, _, rfl, rfl, decide (ds.length ≤ 4), ?_, ?_⟩
        · show V.bl (decide ((xs.length : Int) ≤ (4 : Int))) = _
          rw [len]
          congr 1
          by_cases h : ds.length ≤ 4
          · rw [decide_eq_true h, decide_eq_true (by omega)]
          · rw [decide_eq_false h, decide_eq_false (by omega)]
        by_cases h4 : ds.length ≤ 4
        · rw [decide_eq_true h4] at q2 ⊢
          rw [Bool.true_and] at q2
          refine iteT ⟨_, rfl, a, rfl, ⟨_, .inl (.inl ha)⟩, fun D nD => lc_it (walk_tup (K := K) (a := a) (xs := xs)) (fun i H2 => H2 = upd H D (.lst ((ds.take i).map fun d => V.bl (numD d)))) rfl ?_ ?_ ?_⟩
          · rintro i H2 hi rfl
            exact .inl (.inl (by rw [upd_ne (ne_of_none ha nD)]; exact ha))
          · rintro i x H2 H2' hi rfl ⟨rfl, hx⟩
            obtain ⟨d, hd, pd⟩ := pws_at ps hx
            have s2 : Same H (upd H D (.lst ((ds.take i).map fun d => V.bl (numD d)))) := same_put (s := Same.refl H) nD
            refine ⟨rfl, _, rfl, _, _, rfl, pd.same s2, ?_⟩
            refine ⟨_, upd_same, ?_, ?_⟩
            · rw [List.length_map, List.length_take, sizeLine_eq]
              omega
            · rw [upd_upd, List.take_add_one, hd, List.map_append]
              rfl
          · rintro H2 rfl
            rw [len, List.take_length]
            refine ⟨D, ds.map numD, rfl, .inl (.inl ?_), ?_⟩
            · rw [upd_same, List.map_map]
              rfl
            · have e : (ds.map numD).all id = ds.all numD := by rw [List.all_map]; rfl
              rw [e]
              exact q2 _ (same_put (s := Same.refl H) nD)
        · rw [decide_eq_false h4] at q2 ⊢
          rw [Bool.false_and] at q2
          exact iteF (q2 _ (Same.refl H))
      · rw [decide_eq_false h1] at q2 ⊢
        rw [Bool.false_and, Bool.false_and] at q2
        exact iteF ⟨false, rfl, iteF (q2 _ (Same.refl H))⟩
    · rw [e] at q
      exact ⟨_, rfl, _, .ty "tuple", t, .type "tuple", false, rfl, .ty _, ty, k, false, rfl, iteF (q _ (Same.refl H))⟩
theorem ok_all_lettersG {f : Addr} {fd : FuncData} (F : Fun K "all_letters" "all_letters" s_all_letters f fd) (T : Tc K mg CW CE Cz) : FnOk P w K mg base CX0 1 f fd ["string"] spAllG := by
  refine F.ok sc_all_letters (fun vs H Q E h => ?_) (fun cdv A outer s H vs Q E hr h => ?_)
  · obtain ⟨z, rfl, _⟩ := h
    rfl
  · obtain ⟨z, rfl, h2, q⟩ := h
    refine ⟨_, (pss_one (ps_ret (pe_notTK (K := K) rfl (pe_bmK (K := K) rfl PySem.F.plainAttrs_str PySem.F.slot_str_strip PySem.F.type_str_strip mt_stripChars (pv 0) (pa_cons (pe_gv T.gLETTERS (by rfl)) pa_nil))))), ?_⟩
    have hz : (Sx z).length ≤ sizeLine := by rw [Sx_len, sizeLine_eq]; omega
    refine ⟨_, rfl, rfl, _, abcS, rfl, rfl, hz, !okL z, ⟨?_, ?_⟩, ?_⟩
    · exact Nat.le_trans (len_stripChars _ _) hz
    · by_cases e : okL z = true
      · rw [strip_all (okL_iff.mp e), e]
        rfl
      · have e' : okL z = false := by simpa using e
        rw [e']
        have : ∃ c ∈ z, ¬ isLt c := by
          apply Classical.byContradiction
          intro n
          refine e (okL_iff.mpr fun c hc => ?_)
          apply Classical.byContradiction
          intro m
          exact n ⟨c, hc, m⟩
        obtain ⟨c, hc, hn⟩ := this
        have z3 : ((Txt.stripChars (Sx z) abcS).length : Int) ≠ 0 := by
          have := strip_some hc hn
          omega
        exact (bne_iff_ne.mpr z3).symm
    · rw [Bool.not_not]
      exact q
theorem ok_is_textA {f : Addr} {fd : FuncData} (F : Fun K "is_text" "is_text" s_is_text f fd) (T : Tc K mg CW CE Cz) (D_all_letters : Df P w K mg base 1 "all_letters" spAllG) : FnOk P w K mg base CX0 2 f fd ["value"] (spTxtA K) := by
  refine F.ok sc_is_text (fun vs H Q E h => ?_) (fun cdv A outer s H vs Q E hr h => ?_)
  · obtain ⟨x, rfl, _⟩ := h
    rfl
  · obtain ⟨x, rfl, h⟩ := h
    refine ⟨_, (pss_one (ps_ret (pe_and (pe_callB call_isi (by rfl) T.isinstance (by decide +kernel) (pa_cons (pv 0) (pa_cons (pe_bltn (v := .ty "str") (by rfl) T.str (by decide +kernel) rfl) pa_nil))) (pe_and (pe_cmpR op_le (pe_callB call_len_str (by rfl) T.len (by decide +kernel) (pa_cons (pv 0) pa_nil)) (pe_gv T.gLONGEST (by rfl)) (nomark _)) (pe_one (pe_c D_all_letters hr (by decide) (by rfl) (pa_cons (pv 0) pa_nil))))))), ?_⟩
    rcases h with ⟨z, rfl, h3, q⟩ | ⟨t, ty, e, q⟩
    · have hz : (Sx z).length ≤ sizeLine := by rw [Sx_len, sizeLine_eq]; omega
      refine ⟨_, rfl, _, .ty "str", .type "str", .type "str", true, rfl, .ty _, ty_str _, kit_ty (by decide +kernel), true, rfl, ?_⟩
      refine ⟨_, rfl, _, rfl, hz, _, _, rfl, rfl, decide (z.length ≤ 2000), ?_, ?_⟩
      · show V.bl (decide (((Sx z).length : Int) ≤ 2000)) = _
        rw [Sx_len]
        congr 1
        by_cases h : z.length ≤ 2000
        · rw [decide_eq_true h, decide_eq_true (by omega)]
        · rw [decide_eq_false h, decide_eq_false (by omega)]
      · by_cases h : z.length ≤ 2000
        · rw [decide_eq_true h, Bool.true_and] at q
          rw [decide_eq_true h]
          exact ⟨_, rfl, z, rfl, h, q⟩
        · rw [decide_eq_false h, Bool.false_and] at q
          rw [decide_eq_false h]
          exact q
    · exact ⟨_, rfl, _, .ty "str", t, .type "str", false, rfl, .ty _, ty, e, false, rfl, q⟩
theorem isText_D {f : Addr} {fd : FuncData} (F : FnOk P w K mg base CX0 2 f fd ["value"] (spTxtA K)) : FnOk P w K mg base CX0 2 f fd ["value"] (spWordD 0 2000) := weakF F fun vs H Q E h => by
  obtain ⟨x, d, rfl, p, l, q⟩ := h
  refine ⟨_, rfl, ?_⟩
  rcases pw_kind (K := K) p with ⟨z, rfl, rfl⟩ | ⟨n, t, ty, k⟩
  · refine .inl ⟨z.cps.toList, by rw [Sx_self], by have := l z rfl; rw [len_self]; omega, ?_⟩
    have e : wordD 0 2000 (.str z) = (decide (z.cps.toList.length ≤ 2000) && okL z.cps.toList) := by
      show (decide (0 ≤ z.length) && decide (z.length ≤ 2000) && okL z.cps.toList) = _
      rw [len_self, decide_eq_true (Nat.zero_le _), Bool.true_and]
    rw [← e]
    exact q
  · rw [n] at q
    exact .inr ⟨t, ty, k, q⟩
theorem ok_check_textD {f : Addr} {fd : FuncData} (F : Fun K "check_text" "check_text" s_check_text f fd) (T : Tc K mg CW CE Cz) (D_is_text : Df P w K mg base 2 "is_text" (spWordD 0 2000)) (E_BadWord : Er1 P w K mg base "BadWord" "value" (Cz 4)) : FnG P w K mg base (L2.CX P w) 5 f fd ["value"] (spChkD Cz) := by
  refine F.okXG sc_check_text (fun vs H Q E h => ?_) (fun cdv A outer s H vs Q E quiet hr h => ?_)
  · obtain ⟨x, d, rfl, _⟩ := h
    rfl
  · obtain ⟨x, d, rfl, hd, h⟩ := h
    refine ⟨_, (pss_one (ps_if (pt_not (pt_val (pe_c D_is_text hr (by decide) (by rfl) (pa_cons (pv 0) pa_nil))))
        (pss_one (ps_raise rfl (takes_of rfl rfl rfl rfl) (pmk_one E_BadWord quiet hr (by decide) (by rfl) (pa_cons (pv 0) pa_nil))))
        pss_nil)), ?_⟩
    refine ⟨_, rfl, x, d, rfl, hd.pw, fun z e => (hd.ni.tx z e).1, ?_⟩
    rcases h with ⟨e, q⟩ | ⟨e, o⟩
    · rw [e]
      exact ⟨true, rfl, iteF q⟩
    · rw [e]
      exact ⟨false, rfl, iteT ⟨_, rfl, by show 1 ≤ 1000; decide, fun a na => rz1 E_BadWord.oc E_BadWord.no (o.rz (Same.refl H) hd.th) a na⟩⟩
end
end V8

set_option Elab.async false
set_option linter.all false
set_option maxRecDepth 100000
set_option maxHeartbeats 4000000
/-! An error raised while a dict is gone over: the dict is unlocked on the way out. -/
namespace L2
open PySem PySem.Spec PyProof.Rows MX
def wUnl (H0 : Hp) (W : WX) : WX := fun cls d σ H => ∃ (dd : Addr) (od : Obj) (u : HO), H dd = some (.frz od u) ∧ (∀ o' u', H0 dd ≠ some (.frz o' u')) ∧ W cls d σ (upd H dd u)
theorem takes_unl {X : Cx} {W : WX} {H0 : Hp} (h0 : X.H_0 = H0) (t : Takes X W) : Takes X (wUnl H0 W) := by
  subst h0
  rintro u s2 ⟨a, B, sI, pins, σ, H, cls, d, e, I, nb, up, sky, na, os, ag, dd, od, o, hf, hn, w⟩
  exact t u s2 ⟨a, B, sI, pins, σ, upd H dd o, cls, d, e, I.unlock hf hn, nb, up, sky, by rw [upd_ne (Ne.symm (ne_of_none hf na))]; exact na, os, ag, w⟩
end L2
namespace L2
open PySem PySem.Spec PyProof.Rows MX
/-- isinstance(d, c), d a dict of flat keys and tuples -/
def rIsiM (w : World) (K : PySem.W.Frag) : List V → Hp → VK → Prop := fun xs H Q => ∃ (a : Addr) (kvs : List (NestedKey × V × V)) (c : V) (u : Value) (b : Bool), xs = [.ref a, c] ∧ MixD w H a kvs ∧ ClsV c u ∧ PySem.W.kitOne K (.type "dict") u = some b ∧ Q (.bl b) H
theorem call_isiM {X : Cx} : CallR X (.builtin "isinstance") (rIsiM X.w X.K) := by
  intro pins s σ H xs us Q I r h
  obtain ⟨a, kvs, c, u, b, rfl, m, k, e, q⟩ := h
  obtain ⟨u1, u2, rfl, r1, r2⟩ := vals2 r
  obtain rfl := k.eq r2
  obtain rfl : u1 = Value.ref a := r1
  obtain ⟨few, hd, xs, p, o, es, ep, h1, h2, _⟩ := m.dict I
  exact PySem.W.kia_one PySem.W.kitx_dict I.kIn ⟨o, h1, h2.1⟩ e (fun z => nomatch z) fun tk => ⟨.bl b, H, I.tok tk, rfl, q⟩
end L2
namespace L2
open PySem PySem.Spec PyProof.Rows MX
theorem walk_keysM {w : World} {d : Addr} {o : Obj} {kvs : List (NestedKey × V × V)} : Walk (Itm w d o kvs) kvs.length (fun H => H d = some (.frz o (MixO w d kvs))) (fun i H x H2 => H2 = H ∧ ∃ k v, kvs[i]? = some (k, x, v)) :=
  ⟨fun _ _ lt q => And.intro q lt, fun _ q => And.intro q (Nat.le_refl _), fun _ _ _ _ _ _ y => y⟩
end L2

set_option Elab.async false
set_option linter.all false
set_option maxRecDepth 100000
set_option maxHeartbeats 8000000
/-! Tables of codes told, or refused. -/
namespace V8
open PySem PySem.Spec PyProof.Rows L2 MX
abbrev s_check_codes : Stmt := topS 25
abbrev n_check_codes : List Str := ["codes", "key", "letter"]
theorem sc_check_codes : FnScope ["codes", "key", "letter"] ["codes"] (defScope s_check_codes) := ⟨rfl, rfl, rfl, by decide +kernel, rfl, by decide +kernel, by decide +kernel⟩
abbrev Dt := List (Key × PyData)
structure TabA (H : Hp) (a : Addr) (dt : Dt) : Prop where
  at_ : ∃ kvs, H a = some (.dK kvs) ∧ Paired (fun (p : Key × V) (q : Key × PyData) => p.1 = q.1 ∧ Held H p.2 q.2) kvs dt
  nd : (dt.map (·.1)).Nodup
  few : dt.length ≤ 30
  txt : ∀ q ∈ dt, NiceD (keyD q.1)
/-- a table with a key that is no text -/
structure TabM (w : World) (H : Hp) (a : Addr) (ks : List PyData) : Prop where
  at_ : ∃ kvs, MixD w H a kvs ∧ Paired (fun (p : NestedKey × V × V) (d : PyData) => Held H p.2.1 d) kvs ks
  few : ks.length ≤ 30
  lay : ∀ d ∈ ks, d.canLay0 = true
theorem pair_get {α β : Type} {R : α → β → Prop} {xs : List α} {ys : List β} (h : Paired R xs ys) {i : Nat} {x : α} (e : xs[i]? = some x) : ∃ y, ys[i]? = some y ∧ R x y := by
  induction h generalizing i with
  | nil => simp at e
  | cons r _ ih =>
    cases i with
    | zero =>
      rw [List.getElem?_cons_zero] at e
      cases e
      exact ⟨_, rfl, r⟩
    | succ j =>
      rw [List.getElem?_cons_succ] at e ⊢
      exact ih e
theorem pair_len {α β : Type} {R : α → β → Prop} {xs : List α} {ys : List β} (h : Paired R xs ys) : xs.length = ys.length := by
  induction h with
  | nil => rfl
  | cons _ _ ih => rw [List.length_cons, List.length_cons, ih]
theorem pair_imp {α β : Type} {R S : α → β → Prop} {xs : List α} {ys : List β} (h : Paired R xs ys) (i : ∀ x y, R x y → S x y) : Paired S xs ys := by
  induction h with
  | nil => exact .nil
  | cons r _ ih => exact .cons (i _ _ r) ih
theorem TabA.same {H H2 : Hp} {a : Addr} {dt : Dt} (t : TabA H a dt) (s : Same H H2) : TabA H2 a dt := by
  obtain ⟨⟨kvs, h, p⟩, nd, few, tx⟩ := t
  exact ⟨⟨kvs, s _ _ h, pair_imp p fun _ _ z => ⟨z.1, z.2.same s⟩⟩, nd, few, tx⟩
theorem TabM.same {w : World} {H H2 : Hp} {a : Addr} {ks : List PyData} (t : TabM w H a ks) (s : Same H H2) : TabM w H2 a ks := by
  obtain ⟨⟨kvs, h, p⟩, few, lay⟩ := t
  exact ⟨⟨kvs, h.same s, pair_imp p fun _ _ z => z.same s⟩, few, lay⟩
def atD (dt : Dt) (k : Key) : Option PyData := (dt.find? fun q => decide (q.1 = k)).map (·.2)
theorem at_pair {H : Hp} {kvs : List (Key × V)} {dt : Dt} (h : Paired (fun (p : Key × V) (q : Key × PyData) => p.1 = q.1 ∧ Held H p.2 q.2) kvs dt) (k : Key) : (valV kvs k = none ∧ atD dt k = none) ∨ ∃ v d, valV kvs k = some v ∧ atD dt k = some d ∧ Held H v d := by
  unfold valV atD
  induction h with
  | nil => exact .inl ⟨rfl, rfl⟩
  | @cons p q l1 l2 r _ ih =>
    rw [List.find?_cons, List.find?_cons, r.1]
    cases decide (q.1 = k) with
    | true => exact .inr ⟨_, _, rfl, rfl, r.2⟩
    | false => exact ih
theorem find_take {α : Type} {p : α → Bool} : ∀ {l : List α} {i : Nat} {x : α}, l[i]? = some x → (∀ y ∈ l.take i, p y = false) → p x = true → l.find? p = some x
  | [], i, x, e, _, _ => by simp at e
  | a :: l, 0, x, e, _, h => by
    obtain rfl : a = x := by simpa using e
    rw [List.find?_cons, h]
  | a :: l, i + 1, x, e, k, h => by
    have ka := k a (by rw [List.take_succ_cons]; exact List.mem_cons_self)
    rw [List.find?_cons, ka]
    exact find_take (i := i) (by simpa using e) (fun y hy => k y (by rw [List.take_succ_cons]; exact List.mem_cons_of_mem _ hy)) h
theorem find_no {α : Type} {p : α → Bool} {l : List α} (h : ∀ y ∈ l, p y = false) : l.find? p = none := by
  rw [List.find?_eq_none]
  intro x hx
  rw [h x hx]
  exact Bool.false_ne_true
theorem key_py {H : Hp} (k : Key) : PyW H (kV k) (keyD k) := by
  cases k with
  | inl i => exact .int i
  | inr z => exact .str z
theorem key_told {H : Hp} (k : Key) : Told2 H (kV k) := by
  cases k with
  | inl i => exact .inl (.inr (.inl ⟨i, rfl⟩))
  | inr z => exact .inl (.inl ⟨z, rfl⟩)
theorem key_held {H : Hp} {k : Key} (n : NiceD (keyD k)) : Held H (kV k) (keyD k) := ⟨key_told k, key_py k, n⟩
theorem nice_let : ∀ c ∈ abc, NiceD (.str (L1 c)) := fun c hc => by
  have h : ∀ c ∈ abc, (PyData.str (L1 c)).shown.length ≤ 10 ∧ PyData.strOk (PyData.str (L1 c)).shown = true := by decide +kernel
  obtain ⟨h1, h2⟩ := h c hc
  refine ⟨⟨by simp [PyData.showable], by simp [PyData.depth], by omega⟩, by omega, by simp [PyData.depth], h2, fun z e => ?_⟩
  cases e
  refine ⟨by show 1 ≤ 2500; decide, fun d hd => ?_⟩
  obtain rfl : d = c := by simpa [L1] using hd
  have := (abc_mem.mp hc).2
  omega
theorem th_flat {H : Hp} {z : Str} (n : NiceD (.str z)) : Held H (.str z) (.str z) := ⟨.inl (.inl ⟨_, rfl⟩), .str _, n⟩
/-- only where it stands itself matters -/
theorem held_move {H H2 : Hp} {x : V} {d : PyData} (h : Held H x d) (k : ∀ b o, x = .ref b → H b = some o → H2 b = some o) : Held H2 x d := by
  refine ⟨?_, ?_, h.ni⟩
  · rcases h.tl with f | ⟨b, xs, e, hb, l, g⟩ | ⟨b, kvs, e, hb, l, n, g⟩
    · exact .inl f
    · exact .inr (.inl ⟨b, xs, e, hb.imp (k b _ e) (k b _ e), l, g⟩)
    · exact .inr (.inr ⟨b, kvs, e, k b _ e hb, l, n, g⟩)
  · have fl := h.tl
    cases h.pw with
    | non => exact .non
    | bl b => exact .bl b
    | int i => exact .int i
    | str z => exact .str z
    | tup hb r =>
      rcases fl with f | ⟨b, xs, e, hb2, l, g⟩ | ⟨b, kvs, e, hb2, l, n, g⟩
      · rcases f with ⟨z, e⟩ | ⟨i, e⟩ | e | ⟨b, e⟩ <;> cases e
      · cases e
        rcases hb2 with z | z
        · rw [hb] at z
          cases z
          exact .tup (k _ _ rfl hb) (flats_pyw g r)
        · rw [hb] at z
          cases z
      · cases e
        rw [hb] at hb2
        cases hb2
    | lst hb r =>
      rcases fl with f | ⟨b, xs, e, hb2, l, g⟩ | ⟨b, kvs, e, hb2, l, n, g⟩
      · rcases f with ⟨z, e⟩ | ⟨i, e⟩ | e | ⟨b, e⟩ <;> cases e
      · cases e
        rcases hb2 with z | z
        · rw [hb] at z
          cases z
        · rw [hb] at z
          cases z
          exact .lst (k _ _ rfl hb) (flats_pyw g r)
      · cases e
        rw [hb] at hb2
        cases hb2
    | dic hb r =>
      rcases fl with f | ⟨b, xs, e, hb2, l, g⟩ | ⟨b, kvs, e, hb2, l, n, g⟩
      · rcases f with ⟨z, e⟩ | ⟨i, e⟩ | e | ⟨b, e⟩ <;> cases e
      · cases e
        rcases hb2 with z | z <;> rw [hb] at z <;> cases z
      · cases e
        rw [hb] at hb2
        cases hb2
        exact .dic (k _ _ rfl hb) (flats_pyw g r)
/-- raised while the dict at a is gone over -/
theorem out_unl {Cz : Nat → Addr} {H : Hp} {a : Addr} {od : Obj} {u : HO} {i : Nat} {x : V} {d : PyData} {E : XK} {σ : L2.St} (o : OutB Cz H (.one i d) E) (ha : H a = some u) (nf : ∀ o' u', u ≠ .frz o' u') (t : Th1 (upd H a (.frz od u)) x d) :
    Rz1 (Cz i) (fldOf i) x (upd H a (.frz od u)) (fun cls dd H2 => wUnl H (fun cls dd _ H2 => E cls dd H2) cls dd σ H2) := by
  refine ⟨d, t, fun dx y H2 s p e => ?_⟩
  have fa : H2 a = some (.frz od u) := s _ _ upd_same
  refine ⟨a, od, u, fa, fun o' u' z => ?_, o dx y _ (fun b v h => ?_) (p.keep fun b v h k => ?_) ?_⟩
  · rw [ha] at z
    exact nf o' u' (Option.some.inj z)
  · by_cases hb : b = a
    · rw [hb, upd_same]
      rw [hb, ha] at h
      exact h
    · rw [upd_ne hb]
      exact s _ _ (by rw [upd_ne hb]; exact h)
  · have hb : b ≠ a := fun z => by
      rw [z, fa] at h
      cases h
      rcases k with ⟨xs, k⟩ | ⟨xs, k⟩ | ⟨xs, k⟩ <;> cases k
    rw [upd_ne hb]
    exact h
  · have hb : dx ≠ a := fun z => by
      rw [z, fa] at e
      cases e
    rw [upd_ne hb]
    exact e
def badC (dt : Dt) (c : Nat) : Option PyData := match atD dt (kL c) with
  | some d => if codeD d = true then none else some d
  | none => none
def letD (d : PyData) : Bool := wordD 1 1 d
/-- what is refused of a table of codes -/
def toldC (dt : Dt) : Option Bad := match dt.find? fun q => !letD (keyD q.1) with
  | some q => some (.one 1 (keyD q.1))
  | none => match abc.find? fun c => (badC dt c).isSome with
    | some c => (badC dt c).map (.one 2)
    | none => none
theorem nice_codes : NiceD (.str "codes") := ⟨⟨by simp [PyData.showable], by simp [PyData.depth], by decide +kernel⟩, by decide +kernel, by simp [PyData.depth], by decide +kernel, fun z e => by
  cases e
  exact ⟨by decide +kernel, by decide +kernel⟩⟩
theorem nice_other : NiceD (.str "other") := ⟨⟨by simp [PyData.showable], by simp [PyData.depth], by decide +kernel⟩, by decide +kernel, by simp [PyData.depth], by decide +kernel, fun z e => by
  cases e
  exact ⟨by decide +kernel, by decide +kernel⟩⟩
theorem py_nums {H : Hp} : ∀ s : List Nat, PyWs H (nums s) (s.map fun n => .int ((n : Nat) : Int))
  | [] => .nil
  | n :: s => .cons (.int _) (py_nums s)
theorem code_good {s : List Nat} (g : GoodI4 s) : codeD (.tuple (s.map fun n => .int ((n : Nat) : Int))) = true := by
  show (decide (1 ≤ (s.map _).length) && decide ((s.map _).length ≤ 4) && (s.map _).all numD) = true
  rw [List.length_map, decide_eq_true g.1, decide_eq_true g.2.1, Bool.true_and, Bool.true_and, List.all_eq_true]
  intro d hd
  obtain ⟨n, hn, rfl⟩ := List.mem_map.mp hd
  exact num_nat (g.2.2 n hn)
def spCkC : Sp := fun vs H Q _ => ∃ (d : Addr) (A : Ad) (t : Tab), vs = [.ref d] ∧ CodA H d A t ∧ ∀ H', Same H H' → Q .non H'
def spCkN (K : PySem.W.Frag) (Cz : Nat → Addr) : Sp := fun vs H Q E => ∃ x t, vs = [x] ∧ TyX K H x t ∧ PySem.W.kitOne K t (.type "dict") = some false ∧ OutB Cz H (.one 0 (.str "codes")) E
def spCkM (w : World) (Cz : Nat → Addr) : Sp := fun vs H Q E => ∃ a ks d, vs = [.ref a] ∧ TabM w H a ks ∧ ks.find? (fun d => !letD d) = some d ∧ OutB Cz H (.one 1 d) E
def spCkK (Cz : Nat → Addr) : Sp := fun vs H Q E => ∃ a dt b, vs = [.ref a] ∧ TabA H a dt ∧ toldC dt = some b ∧ OutB Cz H b E
theorem encC_len {A : Ad} {t : Tab} : (encC A t).length = t.length := encG_len t
theorem dgC {H : Hp} {d : Addr} {A : Ad} {t : Tab} (h : Rd H d (.dK (encC A t))) (c : Nat) : DGet H d (.str (L1 c)) (valV (encC A t) (kL c)) := .inl ⟨_, kL c, h, rfl, rfl⟩
theorem cSome {A : Ad} {t : Tab} {c : Nat} {s : List Nat} (h : lookT t c = some s) : valV (encC A t) (kL c) = some (.ref (A c)) := valG_some kL_inj h
theorem cIs {A : Ad} {t : Tab} {c : Nat} : (valV (encC A t) (kL c)).isSome = (lookT t c).isSome := valG_is kL_inj
theorem abc_take {i c : Nat} (h : abc[i]? = some c) : abc.take (i + 1) = abc.take i ++ [c] ∧ c ∉ abc.take i := by
  refine ⟨by rw [List.take_add_one, h]; rfl, fun z => ?_⟩
  have nd := abc_nd
  have e : abc.take (i + 1) = abc.take i ++ [c] := by rw [List.take_add_one, h]; rfl
  rw [← List.take_append_drop (i + 1) abc, e] at nd
  exact (List.nodup_append.mp (List.nodup_append.mp nd).1).2.2 _ z c (by simp) rfl
section
variable {P : Program} {w : World} {K : PySem.W.Frag} {mg : Str → Option Value} {base : Heap} {CW CE : Addr} {Cz : Nat → Addr}
theorem ok_check_codes {f : Addr} {fd : FuncData} (F : Fun K "check_codes" "check_codes" s_check_codes f fd) (T : Tc K mg CW CE Cz) (D_is_letter : Df P w K mg base 1 "is_letter" (spWordD 1 1)) (D_is_code : Df P w K mg base 4 "is_code" spCodeD) : FnOk P w K mg base CX0 5 f fd ["codes"] spCkC := by
  refine F.ok sc_check_codes (fun vs H Q E h => ?_) (fun cdv A outer s H vs Q E hr h => ?_)
  · obtain ⟨d, A, t, rfl, _⟩ := h
    rfl
  · obtain ⟨d, B, t, rfl, ⟨hd, tu, g⟩, q⟩ := h
    refine ⟨_, (pss_cons (ps_if (pt_not (pt_val (pe_callB call_isi (by rfl) T.isinstance (by decide +kernel) (pa_cons (pv 0) (pa_cons (pe_bltn (v := .ty "dict") (by rfl) T.dict (by decide +kernel) rfl) pa_nil)))))
        (pss_one ps_never)
        pss_nil)
      (pss_cons (ps_lock (ps_for PassesOwn.never rfl (pi_keys (pv 0)) (pg_name (i := 1) sc_check_codes.nd rfl (.inl rfl))
        (pss_one (ps_if (pt_not (pt_val (pe_c D_is_letter hr (by decide) (by rfl) (pa_cons (pv 1) pa_nil))))
          (pss_one ps_never)
          pss_nil))))
      (pss_one (ps_for PassesOwn.never rfl (pi_str (pe_gv T.gLETTERS (by rfl))) (pg_name (i := 2) sc_check_codes.nd rfl (.inl rfl))
        (pss_one (ps_if (PW.pt (pw_and (pt_cmp (pc_din (hu_of hr) (pv 2) (pv 0))) (pw_and1 (pt_not (pt_val (pe_c D_is_code hr (by decide) (by rfl) (pa_cons (pe_dget (hu_of hr) (pv 0) (pv 2) (fun _ _ => rfl)) pa_nil)))))))
          (pss_one ps_never)
          pss_nil)))))), ?_⟩
    refine ⟨_, rfl, _, .ty "dict", .type "dict", .type "dict", true, rfl, .ty _, .base (.dK hd), kit_ty (by decide +kernel), true, rfl, iteF ?_⟩
    refine ⟨d, _, hd, True.intro, fun od => ⟨_, rfl, d, od, rfl, .inl ⟨_, upd_same, for_it walk_keys (fun i σ H2 => ∃ v1, σ = [some (.ref d), v1, none] ∧ H2 = upd H d (.frz od (.dK (encC B t)))) ⟨none, rfl, rfl⟩ ?_ ?_ ?_⟩⟩⟩
    · rintro i σ H2 hi ⟨v1, rfl, rfl⟩
      exact upd_same
    · rintro i x σ H2 H2' hi ⟨v1, rfl, rfl⟩ ⟨rfl, k, v, hk, rfl⟩
      obtain ⟨hit, rfl, rfl⟩ := encG_at hk
      have hc : t[i].1 ∈ abc := abc_mem.mpr (g.lt _ (List.getElem_mem hit))
      refine ⟨_, rfl, _, _, rfl, .str _, fun z e => ?_, ?_⟩
      · cases e
        show 1 ≤ 2500
        decide
      rw [show wordD 1 1 (.str (L1 t[i].1)) = true from word_let.mpr ⟨_, hc, rfl⟩]
      exact ⟨true, rfl, iteF ⟨_, rfl, rfl⟩⟩
    · rintro σ H2 ⟨v1, rfl, rfl⟩
      refine ⟨upd_same, ?_⟩
      rw [Same.upd_back hd]
      refine ⟨abcS, rfl, for_it walk_str (fun i σ H2 => ∃ v2, σ = [some (.ref d), v1, v2] ∧ Same H H2) ⟨none, rfl, Same.refl H⟩ ?_ ?_ ?_⟩
      · rintro i σ H2 hi _
        trivial
      · rintro i x σ H2 H2' hi ⟨v2, rfl, s2⟩ ⟨rfl, c, hc, rfl⟩
        refine ⟨_, rfl, _, rfl, d, _, rfl, dgC (.inl (s2 _ _ hd)) c, _, rfl, ?_⟩
        rw [cIs]
        cases e : lookT t c with
        | none => exact iteF ⟨_, rfl, s2⟩
        | some z =>
          refine iteT ⟨_, rfl, _, rfl, d, V.ref (B c), rfl, .inl ⟨_, kL c, .inl (s2 _ _ hd), rfl, by rw [cSome e]⟩, _, _, rfl, .tup (s2 _ _ (tu.look e)) (py_nums z), fun H3 s3 => ?_⟩
          rw [code_good (g.look e).2]
          exact ⟨true, rfl, ⟨_, rfl, fun b o x => s3 _ _ (s2 _ _ x)⟩⟩
      · rintro σ H2 ⟨v2, rfl, s2⟩
        exact q _ s2
theorem ok_ckN {f : Addr} {fd : FuncData} (F : Fun K "check_codes" "check_codes" s_check_codes f fd) (T : Tc K mg CW CE Cz) (D_is_letter : Df P w K mg base 1 "is_letter" (spWordD 1 1)) (D_is_code : Df P w K mg base 4 "is_code" spCodeD)
    (E_BadTable : Er1 P w K mg base "BadTable" "part" (Cz 0)) (E_BadLetter : Er1 P w K mg base "BadLetter" "value" (Cz 1)) (E_BadCode : Er1 P w K mg base "BadCode" "value" (Cz 2)) : FnG P w K mg base (L2.CX P w) 5 f fd ["codes"] (spCkN K Cz) := by
  refine F.okXG sc_check_codes (fun vs H Q E h => ?_) (fun cdv A outer s H vs Q E quiet hr h => ?_)
  · obtain ⟨x, t, rfl, _⟩ := h
    rfl
  · obtain ⟨x, t, rfl, ty, k, o⟩ := h
    refine ⟨_, (pss_cons (ps_if (pt_not (pt_val (pe_callB call_isi (by rfl) T.isinstance (by decide +kernel) (pa_cons (pv 0) (pa_cons (pe_bltn (v := .ty "dict") (by rfl) T.dict (by decide +kernel) rfl) pa_nil)))))
        (pss_one (ps_raise rfl (takes_of rfl rfl rfl rfl) (pmk_one E_BadTable quiet hr (by decide) (by rfl) (pa_cons pe_str pa_nil))))
        pss_nil)
      (pss_cons (ps_lock (ps_for (passes_of rfl) rfl (pi_keys (pv 0)) (pg_name (i := 1) sc_check_codes.nd rfl (.inl rfl))
        (pss_one (ps_if (pt_not (pt_val (pe_c D_is_letter hr (by decide) (by rfl) (pa_cons (pv 1) pa_nil))))
          (pss_one (ps_raise rfl (takes_unl (H0 := H) rfl (takes_of rfl rfl rfl rfl)) (pmk_one E_BadLetter quiet hr (by decide) (by rfl) (pa_cons (pv 1) pa_nil))))
          pss_nil))))
      (pss_one (ps_for (passes_of rfl) rfl (pi_str (pe_gv T.gLETTERS (by rfl))) (pg_name (i := 2) sc_check_codes.nd rfl (.inl rfl))
        (pss_one (ps_if (PW.pt (pw_and (pt_cmp (pc_din (hu_of hr) (pv 2) (pv 0))) (pw_and1 (pt_not (pt_val (pe_c D_is_code hr (by decide) (by rfl) (pa_cons (pe_dget (hu_of hr) (pv 0) (pv 2) (fun _ _ => rfl)) pa_nil)))))))
          (pss_one (ps_raise rfl (takes_of rfl rfl rfl rfl) (pmk_one E_BadCode quiet hr (by decide) (by rfl) (pa_cons (pe_dget (hu_of hr) (pv 0) (pv 2) (fun _ _ => rfl)) pa_nil))))
          pss_nil)))))), ?_⟩
    refine ⟨_, rfl, _, .ty "dict", t, .type "dict", false, rfl, .ty _, ty, k, false, rfl, iteT ?_⟩
    exact ⟨by show 1 ≤ 1000; decide, fun a na => rz1 E_BadTable.oc E_BadTable.no (o.rz (Same.refl H) (th_flat nice_codes).th) a na⟩
theorem ok_ckM {f : Addr} {fd : FuncData} (F : Fun K "check_codes" "check_codes" s_check_codes f fd) (T : Tc K mg CW CE Cz) (D_is_letter : Df P w K mg base 1 "is_letter" (spWordD 1 1)) (D_is_code : Df P w K mg base 4 "is_code" spCodeD)
    (E_BadTable : Er1 P w K mg base "BadTable" "part" (Cz 0)) (E_BadLetter : Er1 P w K mg base "BadLetter" "value" (Cz 1)) (E_BadCode : Er1 P w K mg base "BadCode" "value" (Cz 2)) : FnG P w K mg base (L2.CX P w) 5 f fd ["codes"] (spCkM w Cz) := by
  refine F.okXG sc_check_codes (fun vs H Q E h => ?_) (fun cdv A outer s H vs Q E quiet hr h => ?_)
  · obtain ⟨a, ks, d, rfl, _⟩ := h
    rfl
  · obtain ⟨a, ks, d, rfl, ⟨⟨kvs, m, pr⟩, few, lay⟩, fd, o⟩ := h
    refine ⟨_, (pss_cons (ps_if (pt_not (pt_val (pe_callB call_isiM (by rfl) T.isinstance (by decide +kernel) (pa_cons (pv 0) (pa_cons (pe_bltn (v := .ty "dict") (by rfl) T.dict (by decide +kernel) rfl) pa_nil)))))
        (pss_one (ps_raise rfl (takes_of rfl rfl rfl rfl) (pmk_one E_BadTable quiet hr (by decide) (by rfl) (pa_cons pe_str pa_nil))))
        pss_nil)
      (pss_cons (ps_lock (ps_for (passes_of rfl) rfl (pi_keysX (pv 0)) (pg_name (i := 1) sc_check_codes.nd rfl (.inl rfl))
        (pss_one (ps_if (pt_not (pt_val (pe_c D_is_letter hr (by decide) (by rfl) (pa_cons (pv 1) pa_nil))))
          (pss_one (ps_raise rfl (takes_unl (H0 := H) rfl (takes_of rfl rfl rfl rfl)) (pmk_one E_BadLetter quiet hr (by decide) (by rfl) (pa_cons (pv 1) pa_nil))))
          pss_nil))))
      (pss_one (ps_for (passes_of rfl) rfl (pi_str (pe_gv T.gLETTERS (by rfl))) (pg_name (i := 2) sc_check_codes.nd rfl (.inl rfl))
        (pss_one (ps_if (PW.pt (pw_and (pt_cmp (pc_din (hu_of hr) (pv 2) (pv 0))) (pw_and1 (pt_not (pt_val (pe_c D_is_code hr (by decide) (by rfl) (pa_cons (pe_dget (hu_of hr) (pv 0) (pv 2) (fun _ _ => rfl)) pa_nil)))))))
          (pss_one (ps_raise rfl (takes_of rfl rfl rfl rfl) (pmk_one E_BadCode quiet hr (by decide) (by rfl) (pa_cons (pe_dget (hu_of hr) (pv 0) (pv 2) (fun _ _ => rfl)) pa_nil))))
          pss_nil)))))), ?_⟩
    have hn : ∀ (o' : Obj) (u' : HO), MixO w a kvs ≠ .frz o' u' := fun _ _ z => nomatch z
    refine ⟨_, rfl, a, kvs, .ty "dict", .type "dict", true, rfl, m, .ty _, kit_ty (by decide +kernel), true, rfl, iteF ?_⟩
    refine ⟨a, _, m.at_, True.intro, fun od => ⟨_, rfl, a, od, kvs, rfl, upd_same, for_it (walk_keysM (w := w) (d := a) (o := od) (kvs := kvs)) (fun i σ H2 => (∃ v2, σ = [some (.ref a), v2, none]) ∧ H2 = upd H a (.frz od (MixO w a kvs)) ∧ ∀ d ∈ ks.take i, (!letD d) = false) ⟨⟨none, rfl⟩, rfl, fun d h => by simp at h⟩ ?_ ?_ ?_⟩⟩
    · rintro i σ H2 hi ⟨_, rfl, _⟩
      exact upd_same
    · rintro i x σ H2 H3 hi ⟨⟨v2, rfl⟩, rfl, kn⟩ ⟨rfl, k, v, hk⟩
      obtain ⟨d2, hd2, hh⟩ := pair_get pr hk
      have ne : ∀ b, x = .ref b → b ≠ a := fun b e z => by
        have kv := m.keys _ (List.mem_of_getElem? hk)
        dsimp only at kv
        rw [e] at kv
        cases kv with
        | flat g => cases g
        | tup ht _ =>
          rw [z, m.at_] at ht
          cases ht
      have hh2 : Held (upd H a (.frz od (MixO w a kvs))) x d2 := held_move hh fun b o e h => by rw [upd_ne (ne b e)]; exact h
      refine ⟨_, rfl, x, d2, rfl, hh2.pw, fun z e => (hh2.ni.tx z e).1, ?_⟩
      cases e : wordD 1 1 d2 with
      | true =>
        refine ⟨true, rfl, iteF ⟨⟨_, rfl⟩, rfl, fun d3 h3 => ?_⟩⟩
        rw [List.take_add_one, hd2] at h3
        rcases List.mem_append.mp h3 with h | h
        · exact kn d3 h
        · rw [List.mem_singleton.mp h]
          show (!wordD 1 1 d2) = false
          rw [e]
          rfl
      | false =>
        have f2 := find_take hd2 kn (by show (!wordD 1 1 d2) = true; rw [e]; rfl)
        rw [f2] at fd
        cases fd
        exact ⟨false, rfl, iteT ⟨_, rfl, by show 1 ≤ 1000; decide, fun b nb => rz1 E_BadLetter.oc E_BadLetter.no (out_unl o m.at_ hn hh2.th) b nb⟩⟩
    · rintro σ H2 ⟨_, _, kn⟩
      exfalso
      have e := pair_len pr
      rw [List.take_of_length_le (by omega)] at kn
      rw [find_no kn] at fd
      cases fd
theorem ok_ckK {f : Addr} {fd : FuncData} (F : Fun K "check_codes" "check_codes" s_check_codes f fd) (T : Tc K mg CW CE Cz) (D_is_letter : Df P w K mg base 1 "is_letter" (spWordD 1 1)) (D_is_code : Df P w K mg base 4 "is_code" spCodeD)
    (E_BadTable : Er1 P w K mg base "BadTable" "part" (Cz 0)) (E_BadLetter : Er1 P w K mg base "BadLetter" "value" (Cz 1)) (E_BadCode : Er1 P w K mg base "BadCode" "value" (Cz 2)) : FnG P w K mg base (L2.CX P w) 5 f fd ["codes"] (spCkK Cz) := by
  refine F.okXG sc_check_codes (fun vs H Q E h => ?_) (fun cdv A outer s H vs Q E quiet hr h => ?_)
  · obtain ⟨a, dt, b, rfl, _⟩ := h
    rfl
  · obtain ⟨a, dt, b, rfl, ⟨⟨kvs, hd, pr⟩, nd, few, tx⟩, tb, o⟩ := h
    refine ⟨_, (pss_cons (ps_if (pt_not (pt_val (pe_callB call_isi (by rfl) T.isinstance (by decide +kernel) (pa_cons (pv 0) (pa_cons (pe_bltn (v := .ty "dict") (by rfl) T.dict (by decide +kernel) rfl) pa_nil)))))
        (pss_one (ps_raise rfl (takes_of rfl rfl rfl rfl) (pmk_one E_BadTable quiet hr (by decide) (by rfl) (pa_cons pe_str pa_nil))))
        pss_nil)
      (pss_cons (ps_lock (ps_for (passes_of rfl) rfl (pi_keys (pv 0)) (pg_name (i := 1) sc_check_codes.nd rfl (.inl rfl))
        (pss_one (ps_if (pt_not (pt_val (pe_c D_is_letter hr (by decide) (by rfl) (pa_cons (pv 1) pa_nil))))
          (pss_one (ps_raise rfl (takes_unl (H0 := H) rfl (takes_of rfl rfl rfl rfl)) (pmk_one E_BadLetter quiet hr (by decide) (by rfl) (pa_cons (pv 1) pa_nil))))
          pss_nil))))
      (pss_one (ps_for (passes_of rfl) rfl (pi_str (pe_gv T.gLETTERS (by rfl))) (pg_name (i := 2) sc_check_codes.nd rfl (.inl rfl))
        (pss_one (ps_if (PW.pt (pw_and (pt_cmp (pc_din (hu_of hr) (pv 2) (pv 0))) (pw_and1 (pt_not (pt_val (pe_c D_is_code hr (by decide) (by rfl) (pa_cons (pe_dget (hu_of hr) (pv 0) (pv 2) (fun _ _ => rfl)) pa_nil)))))))
          (pss_one (ps_raise rfl (takes_of rfl rfl rfl rfl) (pmk_one E_BadCode quiet hr (by decide) (by rfl) (pa_cons (pe_dget (hu_of hr) (pv 0) (pv 2) (fun _ _ => rfl)) pa_nil))))
          pss_nil)))))), ?_⟩
    have hn : ∀ (o' : Obj) (u' : HO), HO.dK kvs ≠ .frz o' u' := fun _ _ z => nomatch z
    refine ⟨_, rfl, _, .ty "dict", .type "dict", .type "dict", true, rfl, .ty _, .base (.dK hd), kit_ty (by decide +kernel), true, rfl, iteF ?_⟩
    refine ⟨a, _, hd, True.intro, fun od => ⟨_, rfl, a, od, rfl, .inl ⟨_, upd_same, for_it walk_keys (fun i σ H2 => (∃ v2, σ = [some (.ref a), v2, none]) ∧ H2 = upd H a (.frz od (.dK kvs)) ∧ ∀ q ∈ dt.take i, (!letD (keyD q.1)) = false) ⟨⟨none, rfl⟩, rfl, fun d h => by simp at h⟩ ?_ ?_ ?_⟩⟩⟩
    · rintro i σ H2 hi ⟨_, rfl, _⟩
      exact upd_same
    · rintro i x σ H2 H3 hi ⟨⟨v2, rfl⟩, rfl, kn⟩ ⟨rfl, k, v, hk, rfl⟩
      obtain ⟨⟨k2, d2⟩, hd2, ek, hh⟩ := pair_get pr hk
      dsimp only at ek
      subst ek
      have nk := tx _ (List.mem_of_getElem? hd2)
      dsimp only at nk
      have hh2 : Held (upd H a (.frz od (.dK kvs))) (kV k) (keyD k) := key_held nk
      refine ⟨_, rfl, _, keyD k, rfl, hh2.pw, fun z e => (hh2.ni.tx z e).1, ?_⟩
      cases e : wordD 1 1 (keyD k) with
      | true =>
        refine ⟨true, rfl, iteF ⟨⟨_, rfl⟩, rfl, fun d3 h3 => ?_⟩⟩
        rw [List.take_add_one, hd2] at h3
        rcases List.mem_append.mp h3 with h | h
        · exact kn d3 h
        · rw [List.mem_singleton.mp h]
          show (!wordD 1 1 (keyD k)) = false
          rw [e]
          rfl
      | false =>
        have f2 := find_take hd2 kn (by show (!wordD 1 1 (keyD k)) = true; rw [e]; rfl)
        unfold toldC at tb
        rw [f2] at tb
        cases tb
        exact ⟨false, rfl, iteT ⟨_, rfl, by show 1 ≤ 1000; decide, fun b nb => rz1 E_BadLetter.oc E_BadLetter.no (out_unl o hd hn hh2.th) b nb⟩⟩
    · rintro σ H2 ⟨⟨v2, rfl⟩, rfl, kn⟩
      refine ⟨upd_same, ?_⟩
      rw [Same.upd_back hd]
      have e := pair_len pr
      rw [List.take_of_length_le (by omega)] at kn
      unfold toldC at tb
      rw [find_no kn] at tb
      dsimp only at tb
      refine ⟨abcS, rfl, for_it walk_str (fun i σ H2 => (∃ v3, σ = [some (.ref a), v2, v3]) ∧ Same H H2 ∧ ∀ c ∈ abc.take i, (badC dt c).isSome = false) ⟨⟨none, rfl⟩, Same.refl H, fun d h => by simp at h⟩ ?_ ?_ ?_⟩
      · rintro i σ H2 hi _
        trivial
      · rintro i x σ H2 H2' hi ⟨⟨v3, rfl⟩, s2, kc⟩ ⟨eH, c, hc, rfl⟩
        rw [eH]
        have hc' : abc[i]? = some c := by
          rw [← abcS_cps]
          simpa using hc
        have step : badC dt c = none → ∀ c2 ∈ abc.take (i + 1), (badC dt c2).isSome = false := fun e2 c2 h2 => by
          rw [List.take_add_one, hc'] at h2
          rcases List.mem_append.mp h2 with h | h
          · exact kc c2 h
          · rw [List.mem_singleton.mp h, e2]
            rfl
        have hd2 := s2 _ _ hd
        refine ⟨_, rfl, _, rfl, a, _, rfl, DGet.k (k := kL c) hd2, _, rfl, ?_⟩
        rcases at_pair pr (kL c) with ⟨e1, e2⟩ | ⟨v, d2, e1, e2, hv⟩
        · rw [e1]
          refine iteF ⟨⟨_, rfl⟩, s2, step ?_⟩
          unfold badC
          rw [e2]
        · rw [e1]
          refine iteT ?_
          refine ⟨_, rfl, _, rfl, a, v, rfl, .inl ⟨_, kL c, .inl hd2, rfl, e1.symm⟩, v, d2, rfl, (hv.same s2).pw, fun H3 s3 => ?_⟩
          have s4 : Same H H3 := fun b o e => s3 _ _ (s2 _ _ e)
          cases e3 : codeD d2 with
          | true =>
            refine ⟨true, rfl, ⟨⟨_, rfl⟩, s4, step ?_⟩⟩
            unfold badC
            rw [e2]
            show (if codeD d2 = true then none else some d2) = none
            rw [e3]
            rfl
          | false =>
            have b1 : badC dt c = some d2 := by
              unfold badC
              rw [e2]
              show (if codeD d2 = true then none else some d2) = _
              rw [e3]
              rfl
            have f2 : abc.find? (fun c => (badC dt c).isSome) = some c := find_take hc' kc (by show (badC dt c).isSome = true; rw [b1]; rfl)
            rw [f2] at tb
            dsimp only at tb
            rw [b1] at tb
            cases tb
            exact ⟨false, rfl, ⟨_, rfl, _, rfl, a, v, rfl, .inl ⟨_, kL c, .inl (s4 _ _ hd), rfl, e1.symm⟩, by show 1 ≤ 1000; decide, fun b nb => rz1 E_BadCode.oc E_BadCode.no (o.rz s4 (hv.same s4).th) b nb⟩⟩
      · rintro σ H2 ⟨_, _, kc⟩
        exfalso
        have ea : abc.take abcS.cps.size = abc := by
          have : abcS.cps.size = 26 := by rw [← Array.length_toList, abcS_cps, abc_len]
          rw [this]
          exact List.take_of_length_le (by rw [abc_len]; exact Nat.le_refl _)
        rw [ea] at kc
        rw [find_no kc] at tb
        cases tb
end
end V8

set_option Elab.async false
set_option linter.all false
set_option maxRecDepth 100000
set_option maxHeartbeats 4000000
/-! Where no repr is under way: own classes made, methods, [ ], staticmethods, by defs that may raise. -/
namespace L2
open PySem PySem.Spec PyProof.Rows
/-- two promises, of which the one raises nothing -/
theorem FnG.either0 {P : Program} {w : World} {K : PySem.W.Frag} {mg : Str → Option Value} {base : Heap} {C : CXT} {k : Nat} {f : Addr} {fd : FuncData} {ps : List Str} {sp1 sp2 : Sp} (F1 : FnG P w K mg base CX0 k f fd ps sp1) (F2 : FnG P w K mg base C k f fd ps sp2) :
    FnG P w K mg base C k f fd ps (fun vs H Q E => sp1 vs H Q E0 ∨ sp2 vs H Q E) := by
  refine ⟨fun vs H Q E h => h.elim (F1.count _ _ _ _) (F2.count _ _ _ _), fun A outer s H args us vs Q E g r e b v h => ?_⟩
  rcases h with h | h
  · refine codeAny_mono (F1.runs A outer s H args us vs Q E0 g r e b v h) fun x s2 q => ?_
    match x, q with
    | .error er, q => exact (show False from q).elim
    | .ok (.ret u), q => exact q
    | .ok .next, q => exact q
    | .ok .brk, q => exact q
    | .ok .cont, q => exact q
  · exact F2.runs A outer s H args us vs Q E g r e b v h
section
variable {X : Cx} {C : CXT} {k j n : Nat} {f Cl p0 : Addr} {fd : FuncData} {ps ks : List Str} {sp : Sp} {E : XK} {m : Str} {o e : Expr} {es : List Expr} {kws : List Keyword} {pos apos : Pos} {ta tb : TE} {t tk : TA} {mc : Value}
/-- the def runs, wherever it is quiet -/
theorem runQ {A : Around} {pins : List (Addr × Obj)} {σ : St} {H : Hp} {s : Shared} {Q : VK} {us : List Value} {xs : List V} (F : FnG X.prog X.w X.K X.mg X.base C k f fd ps sp) (g : Quiet A) (sb : Sub X k A) (b : Binds X.K fd ps []) (out : Passes C X E)
    (I : Inv X pins σ H s) (v : Vals xs us) (h : sp xs H Q E) : wpAny (model X.prog X.w) A (call (.ref f) us) (EP X pins σ Q) X.xe s := by
  have en : Env0 X.prog X.w X.K X.mg X.base A X.stack s H := by
    have z := I.env0
    exact ⟨by rw [sb.fr]; exact z.frames, z.mod, z.bs, z.bsz, z.funs, z.frf, z.hok, z.bare⟩
  have many : us.length = ps.length := by
    rw [← v.length]
    exact F.count _ _ _ _ h
  have bd := b s us I.kIn (by rw [List.append_nil]; exact many)
  rw [List.append_nil] at bd
  refine wpAny_call (codeAny_mono (F.runs A X.stack s H ⟨us, []⟩ us xs Q E g sb.room en bd v h) fun x s2 q => ?_)
  match x, q with
  | .error er, q => exact out pins σ H s er s2 I q
  | .ok (.ret u), q => exact I.after q
  | .ok .next, q => exact q.elim
  | .ok .brk, q => exact q.elim
  | .ok .cont, q => exact q.elim
/-- a method of the text's own -/
structure MfG (P : Program) (w : World) (K : PySem.W.Frag) (mg : Str → Option Value) (base : Heap) (CX : CXT) (k : Nat) (C : Addr) (m : Str) (sp : Sp) : Prop where
  ex : ∃ (f : Addr) (fd : FuncData) (ps : List Str), FnG P w K mg base CX k f fd ps sp ∧ Meth K C m f ∧ Own K C m f ∧ PySem.W.fnIn K f = true ∧ Binds K fd ps []
theorem pe_mtG {pl : Sem Bool} (he : PE X o ta) (c : Cls X.K Cl) (M : MfG X.prog X.w X.K X.mg X.base C k Cl m sp) (g : Quiet X.A) (out : Passes C X E) (hr : Room j X.A) (hk : k ≤ j) (ha : PA X (e :: es) t)
    (hst : starEach (e :: es) X.env = (false, eval e X.env) :: starEach es X.env := by rfl) (hpl : (backTo pos (starEach es X.env)).any (·.1) = false := by rfl)
    (ht : eval (.Call (.Attribute o m apos) (e :: es) [] pos) X.env = (do
      let x ← eval o X.env
      standAt apos.atName
      let (u, first) ← holding [x] (getMethod x m pl)
      callWith pos u first (backTo pos (starEach (e :: es) X.env)) (backToKw pos (keywordEach [] X.env))) := by rfl) :
    PE X (.Call (.Attribute o m apos) (e :: es) [] pos) (tMeth Cl m sp [] E ta t) := by
  obtain ⟨f, fd, ps, F, hm, own, fi, b⟩ := M.ex
  refine ⟨fun pins s σ H Q I h => ?_⟩
  refine PySem.W.methodCall_KW (pl := pl) (thn (he.run pins s σ H _ I h) fun u s1 z => ?_) ht
  obtain ⟨x, H1, I1, rx, a, dx, fs, ex, ea, l, q⟩ := z
  subst ex
  obtain rfl : u = Value.ref a := rx
  refine getmeth_ok I1 ea c hm l ?_
  refine PySem.W.callWith_K (first := [.ref a]) (h₀ := X.base) I.ok.mod.kin hm.kp (thn (ha.run pos pins s1 σ H1 _ I1 q) fun us s2 z => ?_) hst hpl
  obtain ⟨vs, H2, I2, r, q2⟩ := z
  rw [List.append_nil] at q2
  exact ⟨I2.kIn, runQ F g (Sub.here (hr.mono hk)) b out I2 (show Vals (V.ref a :: vs) (Value.ref a :: us) from .cons rfl r) q2⟩
theorem pe_ixG {a b : Expr} (M : MfG X.prog X.w X.K X.mg X.base C k Cl "__getitem__" sp) (g : Quiet X.A) (out : Passes C X E) (hr : Room j X.A) (hk : k + 1 ≤ j) (hA : PE X a ta) (hB : PE X b tb)
    (hsl : ∀ v u, subscripted b true v u = runValue (.builtin "lifetime.subscript" ⟨[v, u], []⟩) := by intro _ _; rfl) :
    PE X (.Subscript a b pos) (tOp (fun x y H Q => ∃ a dx fs, x = .ref a ∧ H a = some (.ins Cl dx fs) ∧ sp [.ref a, y] H Q E) ta tb) := by
  obtain ⟨f, fd, ps, F, hm, own, fi, b⟩ := M.ex
  refine ⟨fun pins s σ H Q I h => ?_⟩
  refine Subscript_ (binT hA hB I h fun v u s2 x y H2 I2 rx ry q => ?_)
  obtain ⟨a, dx, fs, rfl, ha, hs⟩ := q
  obtain rfl : v = Value.ref a := rx
  obtain ⟨od, J⟩ := inst_at I2 ha
  obtain ⟨m, hF⟩ := I2.fr
  exact PySem.W.sub_K hF I2.ok.mod.kin J own.find fi own.fn (runQ F (show Quiet X.A.in1 from g) (Sub.here (hr.mono hk)).in1 b out I2 (show Vals [V.ref a, y] [Value.ref a, u] from .cons rfl (.cons ry .nil)) hs) (hsl _ _)
/-- a staticmethod of the text's own -/
structure SmG (P : Program) (w : World) (K : PySem.W.Frag) (mg : Str → Option Value) (base : Heap) (CX : CXT) (k : Nat) (C : Addr) (m : Str) (sp : Sp) : Prop where
  ex : ∃ (p g : Addr) (fd : FuncData) (mc : Value) (ps : List Str), ClX.CRead K C mc ∧ SMet K C mc m p g ∧ FnG P w K mg base CX k g fd ps sp ∧ Binds K fd ps []
theorem pe_smG {pl : Sem Bool} (he : PE X o ta) (M : SmG X.prog X.w X.K X.mg X.base C k Cl m sp) (g : Quiet X.A) (out : Passes C X E) (hr : Room j X.A) (hk : k ≤ j) (ha : PA X (e :: es) t)
    (hst : starEach (e :: es) X.env = (false, eval e X.env) :: starEach es X.env := by rfl) (hpl : (backTo pos (starEach es X.env)).any (·.1) = false := by rfl)
    (ht : eval (.Call (.Attribute o m apos) (e :: es) [] pos) X.env = (do
      let x ← eval o X.env
      standAt apos.atName
      let (u, first) ← holding [x] (getMethod x m pl)
      callWith pos u first (backTo pos (starEach (e :: es) X.env)) (backToKw pos (keywordEach [] X.env))) := by rfl) :
    PE X (.Call (.Attribute o m apos) (e :: es) [] pos) (tSMeth Cl sp E ta t) := by
  obtain ⟨p, f, fd, mc, ps, rd, sm, F, b⟩ := M.ex
  refine ⟨fun pins s σ H Q I h => ?_⟩
  refine PySem.W.methodCall_KW (pl := pl) (thn (he.run pins s σ H _ I h) fun u s1 z => ?_) ht
  obtain ⟨x, H1, I1, rx, ex, q⟩ := z
  subst ex
  obtain rfl : u = Value.ref Cl := rx
  refine getmethsm_ok I1 rd sm fun s2 I2 => ?_
  refine PySem.W.callWith_K (h₀ := X.base) I.ok.mod.kin sm.kp (thn (ha.run pos pins s2 σ H1 _ I2 q) fun us s3 z => ?_) hst hpl
  obtain ⟨vs, H2, I3, r, q2⟩ := z
  exact ⟨I3.kIn, runQ F g (Sub.here (hr.mono hk)) b out I3 r q2⟩
/-- a class made, by places and by names -/
theorem makeQ {pins : List (Addr × Obj)} {σ : St} {H : Hp} {s : Shared} {Q : VK} {us ws : List Value} {xs zs : List V} {gU : List Value → List Value → List Value} {gV : List V → List V → List V} (M : Mk X.K Cl f) (F : FnG X.prog X.w X.K X.mg X.base C k f fd ps sp) (g : Quiet X.A) (hr : Room (k + 1) X.A)
    (bd : ∀ (s : Shared) (us2 : List Value), X.K.In s.heap → us2.length = us.length + 1 → BindsTo s fd ⟨us2, ks.zip ws⟩ (ps.zip (gU us2 ws))) (rel : ∀ {vs : List V} {us2 : List Value}, Vals vs us2 → Vals (gV vs zs) (gU us2 ws)) (out : Passes C X E)
    (I : Inv X pins σ H s) (r : Vals xs us) (h : ∀ x dx, H x = none → H dx = none → dx ≠ x → sp (gV (.ref x :: xs) zs) (upd (upd H dx (.own x)) x (.ins Cl dx [])) (fun v H2 => v = .non ∧ Q (.ref x) H2) E) :
    wpAny (model X.prog X.w) X.A (call (.ref Cl) us (ks.zip ws)) (EP X pins σ Q) X.xe s := by
  have wish := h (s.heap.objs.size + 1) s.heap.objs.size (I.hok.fresh (Nat.le_succ _)) (I.hok.fresh (Nat.le_refl _)) (Nat.ne_of_lt (Nat.lt_succ_self _))
  have J := Inv.made (C := Cl) I
  have rv : Vals (gV (.ref (s.heap.objs.size + 1) :: xs) zs) (gU (Value.ref (s.heap.objs.size + 1) :: us) ws) := rel (.cons rfl r)
  have ran := F.runs _ X.stack _ _ ⟨Value.ref (s.heap.objs.size + 1) :: us, ks.zip ws⟩ _ _ _ E (under_quiet g) (hr.make Cl us (ks.zip ws)) (J.env0.make Cl us (ks.zip ws)) (bd _ (Value.ref (s.heap.objs.size + 1) :: us) J.kIn (List.length_cons ..)) rv wish
  refine wpAny_call (make_map (f := f) I.kIn M.makes M.init (beq_iff_eq.mp M.fn) (codeAny_mono ran fun x s2 q => ?_))
  match x, q with
  | .error er, q => exact out pins σ _ _ er s2 J q
  | .ok .next, q => exact q.elim
  | .ok .brk, q => exact q.elim
  | .ok .cont, q => exact q.elim
  | .ok (.ret u), q =>
    obtain ⟨v, H2, J2, rw2, ev, q3⟩ := J.after q
    subst ev
    exact ⟨rw2, ⟨V.ref (s.heap.objs.size + 1), H2, J2, rfl, q3⟩⟩
end
/-- a def with defaults, where no repr is under way -/
theorem okXGd {P : Program} {w : World} {K : PySem.W.Frag} {mg : Str → Option Value} {base : Heap} {x qual : Str} {params : Arguments} {body : List Stmt} {scope : Scope} {dvs : List V} {kws : List (Str × V)} {f : Addr} {fd : FuncData} {N ps : List Str} {k : Nat} {sp : Sp} (F : FunD K x qual params body scope dvs kws f fd) (S : FnScope N ps scope) (count : ∀ (xs : List V) (H : Hp) (Q : VK) (E : XK), sp xs H Q E → xs.length = ps.length)
    (go : ∀ (cdv : Value) (A : Around) (outer : List Env) (s : Shared) (H : Hp) (xs : List V) (Q : VK) (E : XK), Quiet A → Room k (A.deeper (envOfC qual scope s.heap.objs.size f cdv)) → sp xs H Q E →
      ∃ t, PSs (cxOf (L2.CX P w) P w K mg base N qual scope f cdv A outer s H E) body t ∧ t { nx := fun _ H2 => Q .non H2, rt := Q } (start N xs) H) : FnG P w K mg base (L2.CX P w) (k + 1) f fd ps sp := by
  obtain ⟨oc, od, dV, kV, doc, pm, an, cdv, ct, osl, e, look, ci, _, _⟩ := F.ex
  subst e
  exact ⟨count, fun A outer s H args us xs Q E g r e0 b v h => LamX.run_ofS look ci S r e0 b v (count _ _ _ _ h) fun r2 => go cdv A outer s H xs Q E g r2 h⟩
end L2

set_option Elab.async false
set_option linter.all false
set_option maxRecDepth 100000
set_option maxHeartbeats 4000000
/-! A list or a tuple, whichever it is, gone over. -/
namespace L2
open PySem PySem.Spec PyProof.Rows
/-- a list, or a tuple -/
def SqB (K : PySem.W.Frag) : Bool → Hp → Addr → List V → Prop
  | true, H, a, xs => SqL K H a xs
  | false, H, a, xs => SqT K H a xs
def ItB (K : PySem.W.Frag) : Bool → Addr → It
  | true, a => Itl K a
  | false, a => Itt K a
def ItEB (K : PySem.W.Frag) : Bool → Addr → It
  | true, a => Ite K a
  | false, a => ItTe K a
theorem walk_seq {K : PySem.W.Frag} {b : Bool} {a : Addr} {xs : List V} : Walk (ItB K b a) xs.length (fun H => SqB K b H a xs) (YAt xs) := by
  cases b with
  | true => exact walk_list
  | false => exact walk_tup
theorem walk_enumQ {K : PySem.W.Frag} {b : Bool} {a : Addr} {xs : List V} : Walk (ItEB K b a) xs.length (fun H => SqB K b H a xs) (fun i H v H' => ∃ T x, v = .ref T ∧ H T = none ∧ H' = upd H T (.tup [.int (i : Nat), x]) ∧ xs[i]? = some x) := by
  cases b with
  | false => exact walk_enumT
  | true => exact ⟨fun i _ hi q => ⟨xs, xs[i], q, by simp [hi]⟩, fun _ q => ⟨xs, q, Nat.le_refl _⟩, fun _ _ _ _ _ q y => by
      obtain ⟨T, x, e1, e2, e3, e4⟩ := y
      exact ⟨T, x, e1, e2, e3, e4 xs q⟩⟩
def iSeq (K : PySem.W.Frag) (i : Nat) : TI := fun σ H R => ∃ a b, σ[i]? = some (some (.ref a)) ∧ (∃ xs, SqB K b H a xs) ∧ R (ItB K b a) H
def iEnumQ (K : PySem.W.Frag) (i : Nat) : TI := fun σ H R => ∃ a b, σ[i]? = some (some (.ref a)) ∧ (∃ xs, SqB K b H a xs) ∧ R (ItEB K b a) H
section
variable {X : Cx} {tg l : Expr} {i : Nat}
theorem pi_seq (hl : PE X l (tVar i)) : PI X tg l (iSeq X.K i) := by
  refine ⟨fun pins s σ H R I h => ?_⟩
  obtain ⟨a, b, e, ⟨xs, hs⟩, r⟩ := h
  cases b with
  | true => exact (pi_list hl).run pins s σ H R I ⟨_, e, a, rfl, ⟨xs, hs⟩, r⟩
  | false => exact (pi_tup hl).run pins s σ H R I ⟨_, e, a, rfl, ⟨xs, hs⟩, r⟩
theorem pi_enumQ {e : Expr} {p pos tpos : Pos} {elts : List Expr} {kk : Nat} (hg : Gl X "enumerate") (hm : X.mg "enumerate" = none) (ha : PA X [e] (tCons (tVar i) tNil)) (hs : starEach [e] X.env = [(false, eval e X.env)] := by rfl) :
    PI X (.Tuple elts kk tpos) (.Call (.Name "enumerate" p) [e] [] pos) (iEnumQ X.K i) := by
  refine ⟨fun pins s σ H R I h => ?_⟩
  obtain ⟨a, b, ee, ⟨xs, hs2⟩, r⟩ := h
  cases b with
  | true => exact (pi_enum hg hm ha hs).run pins s σ H R I ⟨_, ee, a, xs, rfl, hs2, r⟩
  | false => exact (pi_enumT hg hm ha hs).run pins s σ H R I ⟨_, ee, a, xs, rfl, hs2, r⟩
end
theorem SqB.same {K : PySem.W.Frag} {b : Bool} {H H2 : Hp} {a : Addr} {xs : List V} (h : SqB K b H a xs) (s : Same H H2) : SqB K b H2 a xs := by
  cases b with
  | true => exact h.elim (fun h => .inl (h.elim (fun h => .inl (s _ _ h)) fun ⟨o, h⟩ => .inr ⟨o, s _ _ h⟩)) .inr
  | false => exact h.elim (fun h => .inl (h.elim (fun h => .inl (s _ _ h)) fun ⟨o, h⟩ => .inr ⟨o, s _ _ h⟩)) .inr
end L2

set_option Elab.async false
set_option linter.all false
set_option maxRecDepth 100000
set_option maxHeartbeats 4000000
/-! `==` of dicts: alike, or of other lengths. -/
namespace L2
open PySem PySem.Spec PyProof.Rows ItX
section
variable {X : Cx}
def rEqDX (K : PySem.W.Frag) : R2 := fun x y H Q => rEqDD K x y H Q ∨ ∃ a b ks ls, x = .ref a ∧ y = .ref b ∧ Rd H a (.dK ks) ∧ Rd H b (.dK ls) ∧ ks.length ≠ ls.length ∧ Q (.bl false) H
theorem op_eqDX {K : PySem.W.Frag} {j : Nat} (hK : X.K = K) (hr : Room j X.A) : OpR X (compareOp .Eq) (rEqDX K) := by
  intro pins s σ H x y v u Q I rx ry h
  rcases h with h | h
  · exact op_eqDD hK hr pins s σ H x y v u Q I rx ry h
  subst hK
  obtain ⟨a, b, ks, ls, rfl, rfl, ea, eb, hl, q⟩ := h
  obtain rfl : v = Value.ref a := rx
  obtain rfl : u = Value.ref b := ry
  obtain ⟨_, ya, va, ra, da⟩ := dk_rd I.hok ea
  obtain ⟨_, yb, vb, rb, db⟩ := dk_rd I.hok eb
  have h1 : va.length = ks.length := (Paired.length ra).symm
  have h2 : vb.length = ls.length := (Paired.length rb).symm
  have hu := hr.un
  refine PySem.W.keq_eq (knd := mixKind X.prog X.w) (r := true) ya yb da db (by omega) (fun e => absurd (by omega) hl) (fin_bl I q ?_)
  rw [h1, h2, Bool.and_true]
  exact (beq_eq_false_iff_ne.mpr hl).symm
end
end L2

set_option Elab.async false
set_option linter.all false
set_option maxRecDepth 100000
set_option maxHeartbeats 4000000
/-! A list of anything and the empty list. -/
namespace L2
open PySem PySem.Spec PyProof.Rows
def rNeNil (K : PySem.W.Frag) : R2 := fun x y H Q => ∃ (a b : Addr) (xs : List V), x = .ref a ∧ y = .ref b ∧ SqL K H a xs ∧ SqL K H b [] ∧ Q (.bl (!xs.isEmpty)) H
theorem op_neNil {X : Cx} (hu : X.A.units < cLine) : OpR X (compareOp .NotEq) (rNeNil X.K) := by
  intro pins s σ H x y v u Q I rx ry h
  obtain ⟨a, b, xs, rfl, rfl, ha, hb, q⟩ := h
  obtain rfl : v = Value.ref a := rx
  obtain rfl : u = Value.ref b := ry
  obtain ⟨its, r1, p1, _⟩ := I.list ha
  obtain ⟨jts, r2, p2, _⟩ := I.list hb
  cases r2
  have l1 : s.heap.IsList a its.toArray := by
    obtain ⟨o, n, e, c, d, f⟩ := p1
    exact ⟨o, e, c, n, by first | exact d | exact f⟩
  have l2 : s.heap.IsList b ([] : List Value).toArray := by
    obtain ⟨o, n, e, c, d, f⟩ := p2
    exact ⟨o, e, c, n, by first | exact d | exact f⟩
  cases its with
  | nil =>
    cases r1
    exact SeqAt.RcNeAt.lists (e := fun _ => true) l1 l2 rfl hu (fun j h1 _ => absurd h1 (by simp)) _ _ _ _ ⟨.bl false, H, I, rfl, q⟩
  | cons t ts =>
    cases r1
    exact SeqAt.RcNeAt.lists_lengths l1 l2 (by simp) hu _ _ _ _ ⟨.bl true, H, I, rfl, q⟩
theorem op_neNilK {X : Cx} {K : PySem.W.Frag} (hK : X.K = K) (hu : X.A.units < cLine) : OpR X (compareOp .NotEq) (rNeNil K) := by
  subst hK
  exact op_neNil hu
section
variable {X : Cx} {C : CXT} {k j : Nat} {Cl f : Addr} {fd : FuncData} {ps : List Str} {sp : Sp} {E : XK} {fe e : Expr} {es : List Expr} {tf : TE} {t : TA} {pos : Pos}
/-- an instance called, its text raising or not -/
def tCallG (Cl : Addr) (sp : Sp) (E : XK) (tf : TE) (t : TA) : TE := fun σ H Q => tf σ H fun y H1 => ∃ a, y = V.ref a ∧ t σ H1 fun vs H2 => (∃ dx fs, H2 a = some (.ins Cl dx fs)) ∧ sp (V.ref a :: vs) H2 Q E
theorem runCallQ {A : Around} {pins : List (Addr × Obj)} {σ : St} {H : Hp} {s : Shared} {Q : VK} {a : Addr} {us : List Value} {xs : List V} (o : Own X.K Cl "__call__" f) (fi : PySem.W.fnIn X.K f = true) (F : FnG X.prog X.w X.K X.mg X.base C k f fd ps sp) (g : Quiet A) (sb : Sub X k A) (b : Binds X.K fd ps []) (out : Passes C X E)
    (I : Inv X pins σ H s) (hi : StX.InsC X H a Cl) (v : Vals xs us) (h : sp (.ref a :: xs) H Q E) : wpAny (model X.prog X.w) A (call (.ref a) us) (EP X pins σ Q) X.xe s := by
  have en : Env0 X.prog X.w X.K X.mg X.base A X.stack s H := by
    have z := I.env0
    exact ⟨by rw [sb.fr]; exact z.frames, z.mod, z.bs, z.bsz, z.funs, z.frf, z.hok, z.bare⟩
  have v2 : Vals (V.ref a :: xs) (Value.ref a :: us) := .cons rfl v
  have many : (Value.ref a :: us).length = ps.length := by
    rw [← v2.length]
    exact F.count _ _ _ _ h
  have bd := b s (Value.ref a :: us) I.kIn (by rw [List.append_nil]; exact many)
  rw [List.append_nil] at bd
  obtain ⟨ox, od, J, hd⟩ := StX.insC_at I hi
  refine wpAny_call (PySem.W.kco_code I.kIn J hd o.find o.fn fi (codeAny_mono (F.runs A X.stack s H ⟨Value.ref a :: us, []⟩ (Value.ref a :: us) (V.ref a :: xs) Q E g sb.room en bd v2 h) fun x s2 q => ?_))
  match x, q with
  | .error er, q => exact out pins σ H s er s2 I q
  | .ok (.ret u), q => exact I.after q
  | .ok .next, q => exact q.elim
  | .ok .brk, q => exact q.elim
  | .ok .cont, q => exact q.elim
theorem pe_callG (hf : PE X fe tf) (M : MfG X.prog X.w X.K X.mg X.base C k Cl "__call__" sp) (g : Quiet X.A) (out : Passes C X E) (hr : Room j X.A) (hk : k ≤ j) (ha : PA X (e :: es) t)
    (ht : eval (.Call fe (e :: es) [] pos) X.env = (do callWith pos (← eval fe X.env) [] (backTo pos (starEach (e :: es) X.env)) (backToKw pos (keywordEach [] X.env))) := by rfl)
    (he : starEach (e :: es) X.env = (false, eval e X.env) :: starEach es X.env := by rfl) (hpl : (backTo pos (starEach es X.env)).any (·.1) = false := by rfl) : PE X (.Call fe (e :: es) [] pos) (tCallG Cl sp E tf t) := by
  obtain ⟨f, fd, ps, F, hm, own, fi, b⟩ := M.ex
  refine ⟨fun pins s σ H Q I h => Call_ (thn (hf.run pins s σ H _ I h) fun u s1 z => ?_) ht⟩
  obtain ⟨y, H1, I1, ry, a, ey, q⟩ := z
  subst ey
  obtain rfl : u = Value.ref a := ry
  refine StX.callO_with (thn (ha.run pos pins s1 σ H1 _ I1 q) fun us s2 z => ?_) he hpl
  obtain ⟨vs, H2, I2, r, ⟨dx, fs, hi⟩, q2⟩ := z
  have hi2 : StX.InsC X H2 a Cl := .inr ⟨dx, fs, hi⟩
  obtain ⟨ox, od, J, hd⟩ := StX.insC_at I2 hi2
  exact ⟨⟨Cl, ox, od, J, hd⟩, runCallQ own fi F g (Sub.here (hr.mono hk)) b out I2 hi2 r q2⟩
end
end L2

set_option Elab.async false
set_option linter.all false
set_option maxRecDepth 100000
set_option maxHeartbeats 8000000
/-! A table of codes: made, refused, asked. -/
namespace V8
open PySem PySem.Spec PyProof.Rows L2 ItX MX
abbrev s_WriteTable_init : Stmt := inClass (topS 22) 0
abbrev n_WriteTable_init : List Str := ["self", "codes", "letter"]
theorem sc_WriteTable_init : FnScope ["self", "codes", "letter"] ["self", "codes"] (defScope s_WriteTable_init) := ⟨rfl, rfl, rfl, by decide +kernel, rfl, by decide +kernel, by decide +kernel⟩
abbrev s_WriteTable_contains : Stmt := inClass (topS 22) 1
abbrev n_WriteTable_contains : List Str := ["self", "x"]
theorem sc_WriteTable_contains : FnScope ["self", "x"] ["self", "x"] (defScope s_WriteTable_contains) := ⟨rfl, rfl, rfl, by decide +kernel, rfl, by decide +kernel, by decide +kernel⟩
abbrev s_WriteTable_len : Stmt := inClass (topS 22) 2
abbrev n_WriteTable_len : List Str := ["self"]
theorem sc_WriteTable_len : FnScope ["self"] ["self"] (defScope s_WriteTable_len) := ⟨rfl, rfl, rfl, by decide +kernel, rfl, by decide +kernel, by decide +kernel⟩
abbrev s_WriteTable_iter : Stmt := inClass (topS 22) 3
abbrev n_WriteTable_iter : List Str := ["self"]
theorem sc_WriteTable_iter : FnScope ["self"] ["self"] (defScope s_WriteTable_iter) := ⟨rfl, rfl, rfl, by decide +kernel, rfl, by decide +kernel, by decide +kernel⟩
abbrev s_WriteTable_getitem : Stmt := inClass (topS 22) 4
abbrev n_WriteTable_getitem : List Str := ["self", "at"]
theorem sc_WriteTable_getitem : FnScope ["self", "at"] ["self", "at"] (defScope s_WriteTable_getitem) := ⟨rfl, rfl, rfl, by decide +kernel, rfl, by decide +kernel, by decide +kernel⟩
abbrev s_WriteTable_eq : Stmt := inClass (topS 22) 7
abbrev n_WriteTable_eq : List Str := ["self", "other"]
theorem sc_WriteTable_eq : FnScope ["self", "other"] ["self", "other"] (defScope s_WriteTable_eq) := ⟨rfl, rfl, rfl, by decide +kernel, rfl, by decide +kernel, by decide +kernel⟩
theorem passTk {X : Cx} {E : XK} (tk : Takes X fun cls d _ H => E cls d H) : Passes (L2.CX X.prog X.w) X E := passes_call tk fun _ _ _ _ h => h
theorem passL {X : Cx} : Passes (L2.CX X.prog X.w) X E0 := fun _ _ _ _ _ _ _ ⟨_, _, _, _, _, _, _, _, _, _, _, _, h⟩ => h.elim
def spIniW (CW : Addr) : Sp := fun vs H Q _ => ∃ (x dx d : Addr) (A : Ad) (t : Tab), vs = [.ref x, .ref d] ∧ H x = some (.ins CW dx []) ∧ CodA H d A t ∧
  ∀ H' b, H b = none → H' x = some (.ins CW dx (fW b)) → H' b = some (.dK (encC A (imsL abc t))) → (∀ c o, H c = some o → c ≠ x → H' c = some o) → Q .non H'
/-- iteration of the class's own -/
structure ItM (P : Program) (w : World) (K : PySem.W.Frag) (mg : Str → Option Value) (base : Heap) (k : Nat) (C : Addr) (sn : Nat → Sp) : Prop where
  ex : ∃ (f : Addr) (fd : FuncData) (ps : List Str), FnN P w K mg base CX0 k f fd ps sn ∧ Own K C "__iter__" f ∧ Binds K fd ps []
theorem putT_new {t : Tab} {c : Nat} {s : List Nat} (h : c ∉ t.map (·.1)) : putT t c s = t ++ [(c, s)] := by
  unfold putT
  rw [if_neg]
  intro z
  obtain ⟨q, hq, e⟩ := List.any_eq_true.mp z
  have e' : q.1 = c := by simpa using e
  exact h (List.mem_map.mpr ⟨q, hq, e'⟩)
/-- a table and a letter more -/
def setA (A : Ad) (c : Nat) (a : Addr) : Ad := fun x => if x = c then a else A x
theorem encC_set {A : Ad} {t : Tab} {c : Nat} {a : Addr} (h : c ∉ t.map (·.1)) : encC (setA A c a) t = encC A t := List.map_congr_left fun q hq => by
  have hne : q.1 ≠ c := fun e => h (e ▸ List.mem_map_of_mem hq)
  show (kL q.1, V.ref (if q.1 = c then a else A q.1)) = _
  rw [if_neg hne]
theorem GoodC.snoc {t : Tab} (g : GoodC t) {c : Nat} {s : List Nat} (hc : isLt c) (hs : GoodI4 s) (h : c ∉ t.map (·.1)) : GoodC (t ++ [(c, s)]) := by
  refine ⟨?_, fun q hq => ?_, fun q hq => ?_⟩
  · rw [← putT_new (s := s) h]
    exact put_nd g.nd
  · rcases List.mem_append.mp hq with h | h
    · exact g.lt q h
    · rw [List.mem_singleton.mp h]
      exact hc
  · rcases List.mem_append.mp hq with h | h
    · exact g.cod q h
    · rw [List.mem_singleton.mp h]
      exact hs
theorem Tups.snoc {H : Hp} {A : Ad} {t : Tab} {c : Nat} {s : List Nat} {a : Addr} (h : Tups H A t) (hc : c ∉ t.map (·.1)) (ha : H a = some (.tup (nums s))) : Tups H (setA A c a) (t ++ [(c, s)]) := fun q hq => by
  rcases List.mem_append.mp hq with h2 | h2
  · have hne : q.1 ≠ c := fun e => hc (e ▸ List.mem_map_of_mem h2)
    show H (if q.1 = c then a else A q.1) = _
    rw [if_neg hne]
    exact h q h2
  · rw [List.mem_singleton.mp h2]
    show H (if c = c then a else A c) = _
    rw [if_pos rfl]
    exact ha
theorem same_over {H H' : Hp} {D : Addr} {o : HO} (s : Same H H') (n : H D = none) : Same H (upd H' D o) := fun b u e => by
  rw [upd_ne (ne_of_none e n)]
  exact s b u e
theorem CodA.same {H H' : Hp} {d : Addr} {A : Ad} {t : Tab} (m : CodA H d A t) (s : Same H H') : CodA H' d A t := ⟨s _ _ m.1, m.2.1.same s, m.2.2⟩
theorem look_ims26 {t : Tab} (g : GoodC t) (c : Nat) : lookT (imsL abc t) c = lookT t c := look_imsL_in g.inL c
theorem dp_map {K : PySem.W.Frag} {H : Hp} {α : Type} (f : α → V) (g : α → PyData) (h : ∀ a, Dp K H (f a) (g a)) : ∀ l : List α, DpAll K H (l.map f) (l.map g)
  | [] => .nil
  | a :: r => .cons (h a) (dp_map f g h r)
theorem lay_map {α : Type} (g : α → PyData) : ∀ l : List α, (∀ a ∈ l, (g a).canLay0 = true) → PyData.canLayAll0 (l.map g) = true
  | [], _ => by simp [PyData.canLayAll0]
  | a :: r, h => by
    have ih := lay_map g r fun x hx => h x (List.mem_cons_of_mem _ hx)
    simp only [List.map_cons, PyData.canLayAll0, h a (List.mem_cons_self ..), Bool.true_and]
    exact ih
theorem depth_map {α : Type} (g : α → PyData) (h : ∀ a, (g a).depth = 0) : ∀ l : List α, PyData.depthAll (l.map g) = 0
  | [] => by simp [PyData.depthAll]
  | a :: r => by
    have ih := depth_map g h r
    simp only [List.map_cons, PyData.depthAll, h a]
    omega
theorem shaped_map {α : Type} (g : α → PyData) (l : List α) (h1 : ∀ a ∈ l, (g a).canLay0 = true) (h2 : ∀ a, (g a).depth = 0) : SeqAt.shaped (.list (l.map g)) = true := by
  have h3 : PyData.depth (.list (l.map g)) ≤ 64 := by
    simp only [PyData.depth, depth_map g h2]
    omega
  show (PyData.canLay0 (.list (l.map g)) && decide (PyData.depth (.list (l.map g)) ≤ 64)) = true
  rw [Bool.and_eq_true]
  exact ⟨by simp only [PyData.canLay0]; exact lay_map g l h1, decide_eq_true h3⟩
theorem shaped_mapT {α : Type} (g : α → PyData) (l : List α) (h1 : ∀ a ∈ l, (g a).canLay0 = true) (h2 : ∀ a, (g a).depth = 0) : SeqAt.shaped (.tuple (l.map g)) = true := by
  have h3 : PyData.depth (.tuple (l.map g)) ≤ 64 := by
    simp only [PyData.depth, depth_map g h2]
    omega
  show (PyData.canLay0 (.tuple (l.map g)) && decide (PyData.depth (.tuple (l.map g)) ≤ 64)) = true
  rw [Bool.and_eq_true]
  exact ⟨by simp only [PyData.canLay0]; exact lay_map g l h1, decide_eq_true h3⟩
theorem dp_nums {K : PySem.W.Frag} {H : Hp} (s : List Nat) : DpAll K H (nums s) (s.map fun n => PyData.int ((n : Nat) : Int)) := dp_map _ _ (fun n => .int _) s
theorem sh_nums (s : List Nat) : SeqAt.shaped (.tuple (s.map fun n => PyData.int ((n : Nat) : Int))) = true := shaped_mapT _ s (fun _ _ => by simp [PyData.canLay0]) (fun _ => by simp [PyData.depth])
/-- walks, whatever their bodies -/
theorem gen_it {J : It} {n : Nat} {G : Hp → Prop} {Y : Nat → Hp → V → Hp → Prop} (w : Walk J n G Y) {B : (Hp → Prop) → V → Hp → Prop} {Qd : Hp → Prop} {H0 : Hp} (Pv : Nat → Hp → Prop) (h0 : Pv 0 H0) (hG : ∀ i H, i ≤ n → Pv i H → G H) (hs : ∀ i x H H', i < n → Pv i H → Y i H x H' → B (Pv (i + 1)) x H') (hd : ∀ H, Pv n H → Qd H) :
    ∃ W : Nat → Nat → Hp → Prop, (∃ m, W 0 m H0) ∧ ∀ i m H, W i m H → (J.stop i H ∧ Qd H) ∨ (J.go i H ∧ ∃ Nx : Hp → Prop, (∀ H', Nx H' → ∃ m', m' < m ∧ W (i + 1) m' H') ∧ ∀ x H', J.yld i H x H' → B Nx x H') := by
  refine ⟨fun i m H => i + m = n ∧ Pv i H, ⟨n, by omega, h0⟩, fun i m H h => ?_⟩
  obtain ⟨e, p⟩ := h
  have q := hG i H (by omega) p
  by_cases h : m = 0
  · subst h
    have e2 : i = n := by omega
    subst e2
    exact .inl ⟨w.stops H q, hd H p⟩
  · exact .inr ⟨w.goes i H (by omega) q, Pv (i + 1), fun H' p' => ⟨m - 1, by omega, by omega, p'⟩, fun x H' y => hs i x H H' (by omega) p (w.yields i H x H' (by omega) q y)⟩
/-! ### made or refused -/
def notDict : PyData → Bool
  | .dict _ => false
  | _ => true
theorem nodict_ty {K : PySem.W.Frag} {H : Hp} {x : V} {d : PyData} (p : PyW H x d) (n : notDict d = true) : ∃ t, TyX K H x t ∧ PySem.W.kitOne K t (.type "dict") = some false := by
  cases p with
  | non => exact ⟨_, .base .non, kit_ty (by decide +kernel)⟩
  | bl b => exact ⟨_, .base (.bl b), kit_ty (by decide +kernel)⟩
  | int i => exact ⟨_, .base (.int i), kit_ty (by decide +kernel)⟩
  | str z => exact ⟨_, .base (.str z), kit_ty (by decide +kernel)⟩
  | tup h r => exact ⟨_, .base (.tup h), kit_ty (by decide +kernel)⟩
  | lst h r => exact ⟨_, .base (.lst h), kit_ty (by decide +kernel)⟩
  | dic h r => cases n
/-- what is refused -/
def rsC (w : World) (Cz : Nat → Addr) (y : V) (H : Hp) (E : XK) : Prop := (∃ d, Held H y d ∧ notDict d = true ∧ OutB Cz H (.one 0 (.str "codes")) E) ∨
  (∃ a ks d, y = .ref a ∧ TabM w H a ks ∧ ks.find? (fun d => !letD d) = some d ∧ OutB Cz H (.one 1 d) E) ∨ (∃ a dt b, y = .ref a ∧ TabA H a dt ∧ toldC dt = some b ∧ OutB Cz H b E) ∨ (∃ a xs, y = .ref a ∧ H a = some (.lst xs) ∧ OutB Cz H (.one 0 (.str "codes")) E)
theorem rsC.same {w : World} {Cz : Nat → Addr} {y : V} {H H2 : Hp} {E : XK} (r : rsC w Cz y H E) (s : Same H H2) : rsC w Cz y H2 E := by
  rcases r with ⟨d, h, n, o⟩ | ⟨a, ks, d, e, m, f, o⟩ | ⟨a, dt, b, e, m, f, o⟩ | ⟨a, xs, e, h, o⟩
  · exact .inl ⟨d, h.same s, n, o.same s⟩
  · exact .inr (.inl ⟨a, ks, d, e, m.same s, f, o.same s⟩)
  · exact .inr (.inr (.inl ⟨a, dt, b, e, m.same s, f, o.same s⟩))
  · exact .inr (.inr (.inr ⟨a, xs, e, s _ _ h, o.same s⟩))
def spCkX (K : PySem.W.Frag) (w : World) (Cz : Nat → Addr) : Sp := fun vs H Q E => spCkN K Cz vs H Q E ∨ spCkM w Cz vs H Q E ∨ spCkK Cz vs H Q E
def spIniX (w : World) (Cz : Nat → Addr) : Sp := fun vs H _ E => ∃ x y, vs = [x, y] ∧ rsC w Cz y H E
def pS : List Str := ["self", "codes"]
/-- the class by its name -/
structure MkW (P : Program) (w : World) (K : PySem.W.Frag) (mg : Str → Option Value) (base : Heap) (CW : Addr) (Cz : Nat → Addr) : Prop where
  ex : ∃ (f : Addr) (fd : FuncData), Mk K CW f ∧ FnG P w K mg base (L2.CX P w) 6 f fd pS (fun vs H Q E => spIniW CW vs H Q E0 ∨ spIniX w Cz vs H Q E) ∧ mg "WriteTable" = some (.ref CW) ∧ Binds K fd pS [] ∧ KBn K fd pS 1 ["codes"] (fun us ws => us ++ ws) (fun vs zs => vs ++ zs)
/-- the table at x, its own dict a new one -/
def WrN (CW : Addr) (H H' : Hp) (x : Addr) (A : Ad) (t : Tab) : Prop := ∃ dx b, H b = none ∧ H' x = some (.ins CW dx (fW b)) ∧ H' b = some (.dK (encC A (imsL abc t)))
/-- made, or refused -/
def mkW (w : World) (CW : Addr) (Cz : Nat → Addr) (vs : List V) (H : Hp) (Q : VK) (E : XK) : Prop := ∃ y, vs = [y] ∧ ((∃ d A t, y = .ref d ∧ CodA H d A t ∧ ∀ x H', H x = none → WrU CW H' x A t → Same H H' → WrN CW H H' x A t → Q (.ref x) H') ∨ rsC w Cz y H E)
theorem mkW.init {w : World} {CW : Addr} {Cz : Nat → Addr} {vs : List V} {H : Hp} {Q : VK} {E : XK} (h : mkW w CW Cz vs H Q E) (x dx : Addr) (hx : H x = none) (hdx : H dx = none) (ne : dx ≠ x) :
    spIniW CW (.ref x :: vs) (upd (upd H dx (.own x)) x (.ins CW dx [])) (fun v H2 => v = .non ∧ Q (.ref x) H2) E0 ∨ spIniX w Cz (.ref x :: vs) (upd (upd H dx (.own x)) x (.ins CW dx [])) (fun v H2 => v = .non ∧ Q (.ref x) H2) E := by
  obtain ⟨y, rfl, h⟩ := h
  have up : Same H (upd (upd H dx (.own x)) x (.ins CW dx [])) := fun b o eo => by
    rw [upd_ne (ne_of_none eo hx), upd_ne (ne_of_none eo hdx)]
    exact eo
  rcases h with ⟨d, A, t, rfl, cd, q⟩ | r
  · refine .inl ⟨x, dx, d, A, t, rfl, upd_same, cd.same up, fun H' b nb h1 h2 h3 => ⟨rfl, q x H' hx ⟨⟨dx, b, h1, h2⟩, fun z hz => ?_, cd.2.2⟩ ?_ ⟨dx, b, ?_, h1, h2⟩⟩⟩
    · have e0 := cd.2.1 z hz
      exact h3 _ _ (up _ _ e0) (ne_of_none e0 hx)
    · exact fun b o eo => h3 _ _ (up _ _ eo) (ne_of_none eo hx)
    · cases e : H b with
      | none => rfl
      | some o =>
        rw [up _ _ e] at nb
        cases nb
  · exact .inr ⟨_, y, rfl, r.same up⟩
theorem mkW.len {w : World} {CW : Addr} {Cz : Nat → Addr} {vs : List V} {H : Hp} {Q : VK} {E : XK} (h : mkW w CW Cz vs H Q E) : vs.length = 1 := by
  obtain ⟨y, rfl, _⟩ := h
  rfl
def tMkW (w : World) (CW : Addr) (Cz : Nat → Addr) (E : XK) (t : TA) : TE := fun σ H Q => t σ H fun vs H1 => mkW w CW Cz vs H1 Q E
section
variable {P : Program} {w : World} {K : PySem.W.Frag} {mg : Str → Option Value} {base : Heap} {CW CE : Addr} {Cz : Nat → Addr}
theorem ok_initW {f : Addr} {fd : FuncData} (F : Fun K "__init__" "WriteTable.__init__" s_WriteTable_init f fd) (T : Tc K mg CW CE Cz) (D_check_codes : Df P w K mg base 5 "check_codes" spCkC) : FnOk P w K mg base CX0 6 f fd ["self", "codes"] (spIniW CW) := by
  refine F.ok sc_WriteTable_init (fun vs H Q E h => ?_) (fun cdv A outer s H vs Q E hr h => ?_)
  · obtain ⟨x, dx, d, A, t, rfl, _⟩ := h
    rfl
  · obtain ⟨x, dx, d, B, t, rfl, hx, ⟨hd, tu, g⟩, q⟩ := h
    refine ⟨_, (pss_cons (ps_expr (pe_c D_check_codes hr (by decide) (by rfl) (pa_cons (pv 1) pa_nil)))
      (pss_one (ps_fld (pv 0) (pe_dc (own := [("letter", 2)]) (g := gName 2) (by rfl) sc_WriteTable_init.nd (pi_str (pe_gv T.gLETTERS (by rfl))) (blkOk_by (own := [("letter", 2)]) (N := n_WriteTable_init) (sc := defScope s_WriteTable_init) (by decide +kernel)) (fun _ _ _ _ _ => (pg_name (i := 2) sc_WriteTable_init.nd rfl (.inl rfl))) (fun _ _ _ _ _ => (pts_one (pt_cmp (pc_din (hu_of hr) (pv 2) (pv 1))))) (fun _ _ _ _ _ => (pv 2)) (fun _ _ _ _ _ => (pe_dget (hu_of hr) (pv 1) (pv 2) (fun _ _ => rfl)))) rfl))), ?_⟩
    refine ⟨_, rfl, d, B, t, rfl, ⟨hd, tu, g⟩, fun H1 s1 => ?_⟩
    refine ⟨abcS, rfl, fun D nD => dc_it walk_str (fun i H3 => H3 = upd H1 D (.dK (encC B (imsL (abc.take i) t)))) rfl (fun _ _ _ _ => trivial) ?_ ?_⟩
    · rintro i x H3 H3' hi rfl ⟨rfl, c, hc, rfl⟩
      have hc1 : abc[i]? = some c := by
        rw [← abcS_cps]
        simpa using hc
      obtain ⟨e1, e2⟩ := abc_take hc1
      have hdD : d ≠ D := ne_of_none (s1 _ _ hd) nD
      have hd3 : upd H1 D (.dK (encC B (imsL (abc.take i) t))) d = some (.dK (encC B t)) := by rw [upd_ne hdD]; exact s1 _ _ hd
      refine ⟨rfl, _, rfl, _, rfl, d, _, rfl, dgC (.inl hd3) c, _, rfl, ?_⟩
      rw [cIs]
      cases e : lookT t c with
      | none =>
        refine iteF ?_
        show _ = _
        rw [e1, imsL_no e]
      | some z =>
        refine iteT ⟨_, rfl, _, rfl, _, rfl, d, V.ref (B c), rfl, .inl ⟨_, kL c, .inl hd3, rfl, by rw [cSome e]⟩, _, kL c, rfl, upd_same, ?_, ?_⟩
        · rw [encC_len]
          have := imsL_len (abc.take i) t
          rw [List.length_take, abc_len] at this
          exact small1000 (by omega)
        · have nk : c ∉ (imsL (abc.take i) t).map (·.1) := fun z => e2 (imsL_key z)
          rw [upd_upd, e1, imsL_yes e]
          congr 2
          exact putG (vf := fun q => V.ref (B q.1)) kL_inj (s := z) nk
    · rintro H3 rfl
      have e3 : abc.take abcS.cps.size = abc := by
        have : abcS.cps.size = 26 := by rw [← Array.length_toList, abcS_cps, abc_len]
        rw [this]
        exact List.take_of_length_le (by rw [abc_len]; exact Nat.le_refl _)
      rw [e3]
      have hxD : x ≠ D := ne_of_none (s1 _ _ hx) nD
      refine ⟨_, rfl, x, CW, dx, [], rfl, by rw [upd_ne hxD]; exact s1 _ _ hx, T.clW, T.nW, by decide, ?_⟩
      refine q _ D (same_none s1 nD) upd_same (by rw [upd_ne hxD.symm]; exact upd_same) fun c o e hc => ?_
      rw [upd_ne hc, upd_ne (ne_of_none (s1 _ _ e) nD)]
      exact s1 _ _ e
theorem ok_ckX {f : Addr} {fd : FuncData} (F : Fun K "check_codes" "check_codes" s_check_codes f fd) (T : Tc K mg CW CE Cz) (D_is_letter : Df P w K mg base 1 "is_letter" (spWordD 1 1)) (D_is_code : Df P w K mg base 4 "is_code" spCodeD)
    (E_BadTable : Er1 P w K mg base "BadTable" "part" (Cz 0)) (E_BadLetter : Er1 P w K mg base "BadLetter" "value" (Cz 1)) (E_BadCode : Er1 P w K mg base "BadCode" "value" (Cz 2)) : FnG P w K mg base (L2.CX P w) 5 f fd ["codes"] (spCkX K w Cz) :=
  (ok_ckN F T D_is_letter D_is_code E_BadTable E_BadLetter E_BadCode).both ((ok_ckM F T D_is_letter D_is_code E_BadTable E_BadLetter E_BadCode).both (ok_ckK F T D_is_letter D_is_code E_BadTable E_BadLetter E_BadCode))
theorem ok_initX {f : Addr} {fd : FuncData} (F : Fun K "__init__" "WriteTable.__init__" s_WriteTable_init f fd) (T : Tc K mg CW CE Cz) (D_check_codes : DfG P w K mg base (L2.CX P w) 5 "check_codes" (spCkX K w Cz)) : FnG P w K mg base (L2.CX P w) 6 f fd ["self", "codes"] (spIniX w Cz) := by
  refine F.okXG sc_WriteTable_init (fun vs H Q E h => ?_) (fun cdv A outer s H vs Q E quiet hr h => ?_)
  · obtain ⟨x, y, rfl, _⟩ := h
    rfl
  · obtain ⟨x, y, rfl, h⟩ := h
    refine ⟨_, (pss_cons (ps_expr (pe_cG D_check_codes quiet (passTk (takes_of rfl rfl rfl rfl)) hr (by decide) (by rfl) (pa_cons (pv 1) pa_nil)))
      (pss_one (ps_fld (pv 0) (pe_dc (own := [("letter", 2)]) (g := gName 2) (by rfl) sc_WriteTable_init.nd (pi_str (pe_gv T.gLETTERS (by rfl))) (blkOk_by (own := [("letter", 2)]) (N := n_WriteTable_init) (sc := defScope s_WriteTable_init) (by decide +kernel)) (fun _ _ _ _ _ => (pg_name (i := 2) sc_WriteTable_init.nd rfl (.inl rfl))) (fun _ _ _ _ _ => (pts_one (pt_cmp (pc_din (hu_of hr) (pv 2) (pv 1))))) (fun _ _ _ _ _ => (pv 2)) (fun _ _ _ _ _ => (pe_dget (hu_of hr) (pv 1) (pv 2) (fun _ _ => rfl)))) rfl))), ?_⟩
    rcases h with ⟨d, hd, n, o⟩ | ⟨a, ks, d, rfl, m, f, o⟩ | ⟨a, dt, b, rfl, m, f, o⟩ | ⟨a, xs, rfl, hx, o⟩
    · obtain ⟨t, ty, k⟩ := nodict_ty (K := K) hd.pw n
      exact ⟨_, rfl, .inl ⟨y, t, rfl, ty, k, o⟩⟩
    · exact ⟨_, rfl, .inr (.inl ⟨a, ks, d, rfl, m, f, o⟩)⟩
    · exact ⟨_, rfl, .inr (.inr ⟨a, dt, b, rfl, m, f, o⟩)⟩
    · exact ⟨_, rfl, .inl ⟨_, _, rfl, .base (.lst hx), kit_ty (by decide +kernel), o⟩⟩
theorem ok_init_all {f : Addr} {fd : FuncData} (F : Fun K "__init__" "WriteTable.__init__" s_WriteTable_init f fd) (T : Tc K mg CW CE Cz) (D0 : Df P w K mg base 5 "check_codes" spCkC) (D_check_codes : DfG P w K mg base (L2.CX P w) 5 "check_codes" (spCkX K w Cz)) :
    FnG P w K mg base (L2.CX P w) 6 f fd pS (fun vs H Q E => spIniW CW vs H Q E0 ∨ spIniX w Cz vs H Q E) := FnG.either0 (ok_initW F T D0).quiet (ok_initX F T D_check_codes)
end
section
variable {X : Cx} {j : Nat} {CW : Addr} {Cz : Nat → Addr} {p pos : Pos} {e : Expr} {es : List Expr} {kws : List Keyword} {t tk : TA} {E : XK} {w : World}
theorem pe_mkW (hw : X.w = w) (M : MkW X.prog X.w X.K X.mg X.base CW Cz) (g : Quiet X.A) (out : Passes (L2.CX X.prog X.w) X E) (hr : Room j X.A) (hj : 7 ≤ j) (hg : Gl X "WriteTable") (ha : PA X (e :: es) t) (he : starEach (e :: es) X.env = (false, eval e X.env) :: starEach es X.env := by rfl) (hpl : (backTo pos (starEach es X.env)).any (·.1) = false := by rfl) :
    PE X (.Call (.Name "WriteTable" p) (e :: es) [] pos) (tMkW w CW Cz E t) := by
  subst hw
  obtain ⟨f, fd, M, F, hm, b0, k2⟩ := M.ex
  refine ⟨fun pins s σ H Q I h => ?_⟩
  refine wpAny_Call_Name_kw (ld_glob I hg hm ?_ (by decide))
  refine PySem.W.callWith_K (h₀ := X.base) I.ok.mod.kin M.kp (thn (ha.run pos pins s σ H _ I h) fun us s1 z => ?_) he hpl
  obtain ⟨vs, H1, I1, r, q⟩ := z
  refine ⟨I1.kIn, ?_⟩
  have l := q.len
  have l2 := r.length
  exact makeQ (ks := []) (ws := []) (zs := []) (gU := fun us _ => us ++ []) (gV := fun vs _ => vs ++ []) M F g (hr.mono hj) (fun s us2 kin n => b0 s us2 kin (by show (us2 ++ []).length = 2; rw [List.append_nil, n, List.nil_append, ← l2, l])) (fun r => r.append .nil) out I1 r (fun x dx a b c => by rw [List.append_nil]; exact q.init x dx a b c)
theorem pe_mkWK (hw : X.w = w) (M : MkW X.prog X.w X.K X.mg X.base CW Cz) (g : Quiet X.A) (out : Passes (L2.CX X.prog X.w) X E) (hr : Room j X.A) (hj : 7 ≤ j) (hg : Gl X "WriteTable") (hkw : PK X kws tk) (hall : (backToKw pos (keywordEach kws X.env)).all (·.1.isSome) = true := by rfl) (hks : (backToKw pos (keywordEach kws X.env)).filterMap (·.1) = (["codes"] : List Str) := by rfl)
    (hpl : ((backTo pos (starEach [] X.env)).any (·.1) || (backToKw pos (keywordEach kws X.env)).any (·.1.isNone)) = false := by rfl) : PE X (.Call (.Name "WriteTable" p) [] kws pos) (tMkW w CW Cz E tk) := by
  subst hw
  obtain ⟨f, fd, M, F, hm, b0, k2⟩ := M.ex
  refine ⟨fun pins s σ H Q I h => ?_⟩
  refine wpAny_Call_Name_kw (ld_glob I hg hm ?_ (by decide))
  refine PySem.W.callWith_KW0 (h₀ := X.base) I.ok.mod.kin M.kp hall ?_ hpl
  refine thn (hkw.run pos pins s σ H _ I h) fun ws s2 z => ?_
  obtain ⟨zs, H2, I2, rz, q2⟩ := z
  refine ⟨I2.kIn, ?_⟩
  rw [hks]
  have l := q2.len
  rw [rz.length] at l
  exact makeQ (us := []) (xs := []) (zs := zs) (gU := fun us ws => us ++ ws) (gV := fun vs zs => vs ++ zs) M F g (hr.mono hj) (fun s us2 kin n => k2.to s us2 ws kin n (by rw [l]; rfl)) (fun r => k2.rel r rz) out I2 .nil q2.init
theorem pi_ownKI {X : Cx} {j : Nat} {k : Nat} {C : Addr} {sn : Nat → Sp} {tg l : Expr} {tl : TE} (c : ItM X.prog X.w X.K X.mg X.base k C sn) (hr : Room j X.A) (hk : k ≤ j) (hl : PE X l tl) : PI X tg l (iOwnK X.K C X.s_0.heap.objs.size sn E0 tl) := by
  obtain ⟨f, fd, ps, F, o, b⟩ := c.ex
  exact pi_ownK F b pass0 o (hr.mono hk) hl
end
/-! ### asked -/
def lookC (t : Tab) : PyData → Option (List Nat)
  | .str z => match z.cps.toList with
    | [c] => lookT t c
    | _ => none
  | _ => none
theorem lookC_let (t : Tab) (c : Nat) : lookC t (.str (L1 c)) = lookT t c := rfl
theorem look_some_lt {t : Tab} (g : GoodC t) {c : Nat} (h : ¬ isLt c) : lookT t c = none := by
  cases e : lookT t c with
  | none => rfl
  | some s => exact absurd (g.look e).1 h
theorem lookC_no {t : Tab} (g : GoodC t) {d : PyData} (h : wordD 1 1 d = false) : lookC t d = none := by
  cases d with
  | str z =>
    show (match z.cps.toList with | [c] => lookT t c | _ => none) = none
    match e : z.cps.toList with
    | [] => rfl
    | [c] =>
      refine look_some_lt g fun hc => ?_
      have ez : z = L1 c := by
        rw [← Sx_self z, e]
        rfl
      rw [word_let.mpr ⟨c, abc_mem.mpr hc, ez⟩] at h
      cases h
    | _ :: _ :: _ => rfl
  | _ => rfl
theorem let_of {H : Hp} {x : V} {d : PyData} (p : PyW H x d) (h : wordD 1 1 d = true) : ∃ c, isLt c ∧ x = .str (L1 c) ∧ d = .str (L1 c) := by
  cases p with
  | str z =>
    obtain ⟨c, hc, rfl⟩ := word_let.mp h
    exact ⟨c, abc_mem.mp hc, rfl, rfl⟩
  | _ => cases h
def spInW (CW : Addr) : Sp := fun vs H Q _ => ∃ x A t y d, vs = [.ref x, y] ∧ WrU CW H x A t ∧ Held H y d ∧ Q (.bl (lookC t d).isSome) H
def spLenW (CW : Addr) : Sp := fun vs H Q _ => ∃ x A t, vs = [.ref x] ∧ WrU CW H x A t ∧ Q (.int (((imsL abc t).length : Nat) : Int)) H
def snIterW (CW : Addr) : Nat → Sp := fun n vs H Q _ => ∃ x dx b od kvs, vs = [.ref x] ∧ H x = some (.ins CW dx (fW b)) ∧ H b = some (.frz od (.dK kvs)) ∧ ∀ it, H it = none → n ≤ it → Q (.ref it) (upd H it (ItK b od kvs.length it))
def spGetW (CW : Addr) (Cz : Nat → Addr) : Sp := fun vs H Q E => ∃ x A t y d, vs = [.ref x, y] ∧ WrU CW H x A t ∧ Held H y d ∧ ((wordD 1 1 d = false ∧ OutB Cz H (.one 1 d) E) ∨ (wordD 1 1 d = true ∧ lookC t d = none ∧ OutB Cz H (.one 3 d) E) ∨ ∃ c s, d = .str (L1 c) ∧ lookT t c = some s ∧ H (A c) = some (.tup (nums s)) ∧ Q (.ref (A c)) H)
def spEqW (K : PySem.W.Frag) (CW : Addr) : Sp := fun vs H Q _ => ∃ x A t y, vs = [.ref x, y] ∧ WrU CW H x A t ∧ ((∃ z B u, y = .ref z ∧ WrU CW H z B u ∧ (∀ c, lookT t c = lookT u c) ∧ Q (.bl true) H) ∨ (∃ z B u, y = .ref z ∧ WrU CW H z B u ∧ (imsL abc t).length ≠ (imsL abc u).length ∧ Q (.bl false) H) ∨
  (∃ ty, TyX K H y ty ∧ PySem.W.kitOne K ty (.ref CW) = some false ∧ Q (.bl false) H))
theorem imsL_congr {t u : Tab} (h : ∀ c, lookT t c = lookT u c) : imsL abc t = imsL abc u := by
  unfold imsL keysL
  have e : (fun c => (lookT t c).isSome) = fun c => (lookT u c).isSome := funext fun c => by rw [h c]
  rw [e]
  exact List.map_congr_left fun c _ => by rw [h c]
section
variable {P : Program} {w : World} {K : PySem.W.Frag} {mg : Str → Option Value} {base : Heap} {CW CE : Addr} {Cz : Nat → Addr}
theorem ok_inW {f : Addr} {fd : FuncData} (F : Fun K "__contains__" "WriteTable.__contains__" s_WriteTable_contains f fd) (T : Tc K mg CW CE Cz) (D_is_letter : Df P w K mg base 1 "is_letter" (spWordD 1 1)) : FnOk P w K mg base CX0 2 f fd ["self", "x"] (spInW CW) := by
  refine F.ok sc_WriteTable_contains (fun vs H Q E h => ?_) (fun cdv A outer s H vs Q E hr h => ?_)
  · obtain ⟨x, B, t, y, d, rfl, _⟩ := h
    rfl
  · obtain ⟨x, B, t, y, d, rfl, ⟨⟨dx, b, hx, hb⟩, tu, g⟩, p, q⟩ := h
    refine ⟨_, (pss_one (ps_ret (pe_and (pe_c D_is_letter hr (by decide) (by rfl) (pa_cons (pv 1) pa_nil)) (pe_one (pe_cmp (pc_din (hu_of hr) (pv 1) (pe_fldK (K := K) rfl (pv 0) rfl)) rfl))))), ?_⟩
    refine ⟨_, rfl, y, d, rfl, p.pw, fun z e => (p.ni.tx z e).1, ?_⟩
    cases e : wordD 1 1 d with
    | false =>
      rw [lookC_no g e] at q
      exact ⟨false, rfl, iteF q⟩
    | true =>
      obtain ⟨c, hc, rfl, rfl⟩ := let_of p.pw e
      refine ⟨true, rfl, iteT ?_⟩
      refine ⟨_, rfl, _, rfl, x, CW, dx, _, _, rfl, hx, T.clW, T.nW, fW_i b, b, _, rfl, dgC (.inl hb) c, ?_⟩
      rw [cIs, look_ims26 g]
      exact q
theorem ok_lenW {f : Addr} {fd : FuncData} (F : Fun K "__len__" "WriteTable.__len__" s_WriteTable_len f fd) (T : Tc K mg CW CE Cz) : FnOk P w K mg base CX0 1 f fd ["self"] (spLenW CW) := by
  refine F.ok sc_WriteTable_len (fun vs H Q E h => ?_) (fun cdv A outer s H vs Q E hr h => ?_)
  · obtain ⟨x, B, t, rfl, _⟩ := h
    rfl
  · obtain ⟨x, B, t, rfl, ⟨⟨dx, b, hx, hb⟩, _, g⟩, q⟩ := h
    refine ⟨_, (pss_one (ps_ret (pe_callB call_lenD (by rfl) T.len (by decide +kernel) (pa_cons (pe_fldK (K := K) rfl (pv 0) rfl) pa_nil)))), ?_⟩
    refine ⟨_, rfl, x, CW, dx, _, _, rfl, hx, T.clW, T.nW, fW_i b, b, _, rfl, hb, ?_⟩
    rw [encC_len]
    exact q
theorem ok_iterW {f : Addr} {fd : FuncData} (F : Fun K "__iter__" "WriteTable.__iter__" s_WriteTable_iter f fd) (T : Tc K mg CW CE Cz) : FnN P w K mg base CX0 1 f fd ["self"] (snIterW CW) := by
  refine fnN_mk F sc_WriteTable_iter (fun n vs H Q E h => ?_) (fun cdv A outer s H vs Q E hr h => ?_)
  · obtain ⟨x, dx, b, od, kvs, rfl, _⟩ := h
    rfl
  · obtain ⟨x, dx, b, od, kvs, rfl, hx, hb, q⟩ := h
    refine ⟨_, (pss_one (ps_ret (pe_callB call_iterK (by rfl) T.iter (by decide +kernel) (pa_cons (pe_fldK (K := K) rfl (pv 0) rfl) pa_nil)))), ?_⟩
    exact ⟨_, rfl, x, CW, dx, _, _, rfl, hx, T.clW, T.nW, fW_i b, b, od, kvs, rfl, hb, fun it ni hi => q it ni hi⟩
theorem ok_getW {f : Addr} {fd : FuncData} (F : Fun K "__getitem__" "WriteTable.__getitem__" s_WriteTable_getitem f fd) (T : Tc K mg CW CE Cz) (D_is_letter : Df P w K mg base 1 "is_letter" (spWordD 1 1)) (E_BadLetter : Er1 P w K mg base "BadLetter" "value" (Cz 1)) (E_NoSign : Er1 P w K mg base "NoSign" "letter" (Cz 3)) : FnG P w K mg base (L2.CX P w) 5 f fd ["self", "at"] (spGetW CW Cz) := by
  refine F.okXG sc_WriteTable_getitem (fun vs H Q E h => ?_) (fun cdv A outer s H vs Q E quiet hr h => ?_)
  · obtain ⟨x, B, t, y, d, rfl, _⟩ := h
    rfl
  · obtain ⟨x, B, t, y, d, rfl, ⟨⟨dx, b, hx, hb⟩, tu, g⟩, hd, h⟩ := h
    refine ⟨_, (pss_cons (ps_if (pt_not (pt_val (pe_c D_is_letter hr (by decide) (by rfl) (pa_cons (pv 1) pa_nil))))
        (pss_one (ps_raise rfl (takes_of rfl rfl rfl rfl) (pmk_one E_BadLetter quiet hr (by decide) (by rfl) (pa_cons (pv 1) pa_nil))))
        pss_nil)
      (pss_cons (ps_if (pt_cmp (pc_dnotin (hu_of hr) (pv 1) (pe_fldK (K := K) rfl (pv 0) rfl)))
        (pss_one (ps_raise rfl (takes_of rfl rfl rfl rfl) (pmk_one E_NoSign quiet hr (by decide) (by rfl) (pa_cons (pv 1) pa_nil))))
        pss_nil)
      (pss_one (ps_ret (pe_dget (hu_of hr) (pe_fldK (K := K) rfl (pv 0) rfl) (pv 1) (fun _ _ => rfl)))))), ?_⟩
    refine ⟨_, rfl, y, d, rfl, hd.pw, fun z e => (hd.ni.tx z e).1, ?_⟩
    cases e : wordD 1 1 d with
    | false =>
      rcases h with ⟨_, o⟩ | ⟨e2, _⟩ | ⟨c, s, rfl, e2, _⟩
      · exact ⟨false, rfl, iteT ⟨_, rfl, by show 1 ≤ 1000; decide, fun a na => rz1 E_BadLetter.oc E_BadLetter.no (o.rz (Same.refl H) hd.th) a na⟩⟩
      · rw [e] at e2
        cases e2
      · rw [word_let.mpr ⟨c, abc_mem.mpr (g.look e2).1, rfl⟩] at e
        cases e
    | true =>
      obtain ⟨c, hc, rfl, rfl⟩ := let_of hd.pw e
      refine ⟨true, rfl, iteF ?_⟩
      refine ⟨_, rfl, _, rfl, x, CW, dx, _, _, rfl, hx, T.clW, T.nW, fW_i b, b, _, rfl, dgC (.inl hb) c, _, rfl, ?_⟩
      rw [cIs, look_ims26 g]
      rcases h with ⟨e2, _⟩ | ⟨_, e2, o⟩ | ⟨c2, s, ec, e2, _, q⟩
      · rw [e] at e2
        cases e2
      · rw [lookC_let] at e2
        rw [e2]
        exact iteT ⟨_, rfl, by show 1 ≤ 1000; decide, fun a na => rz1 E_NoSign.oc E_NoSign.no (o.rz (Same.refl H) hd.th) a na⟩
      · obtain rfl : c = c2 := L1_inj (PyData.str.inj ec)
        rw [e2]
        refine iteF ⟨_, rfl, x, CW, dx, _, _, rfl, hx, T.clW, T.nW, fW_i b, _, rfl, b, V.ref (B c), rfl, ?_, q⟩
        exact .inl ⟨_, kL c, .inl hb, rfl, by rw [cSome (s := s) (by rw [look_ims26 g, e2])]⟩
theorem ok_eqW {f : Addr} {fd : FuncData} (F : Fun K "__eq__" "WriteTable.__eq__" s_WriteTable_eq f fd) (T : Tc K mg CW CE Cz) : FnOk P w K mg base CX0 1 f fd ["self", "other"] (spEqW K CW) := by
  refine F.ok sc_WriteTable_eq (fun vs H Q E h => ?_) (fun cdv A outer s H vs Q E hr h => ?_)
  · obtain ⟨x, B, t, y, rfl, _⟩ := h
    rfl
  · obtain ⟨x, B, t, y, rfl, ⟨⟨dx, b, hx, hb⟩, tu, g⟩, h⟩ := h
    refine ⟨_, (pss_one (ps_ret (pe_and (pe_callB call_isi (by rfl) T.isinstance (by decide +kernel) (pa_cons (pv 1) (pa_cons (pe_gv T.gWriteTable (by rfl)) pa_nil))) (pe_one (pe_cmpR (op_eqDX (K := K) rfl hr) (pe_fldK (K := K) rfl (pv 0) rfl) (pe_fldK (K := K) rfl (pv 1) rfl) (nomark _)))))), ?_⟩
    rcases h with ⟨z, C, u, rfl, ⟨⟨dy, c, hy, hc⟩, tu2, _⟩, lk, q⟩ | ⟨z, C, u, rfl, ⟨⟨dy, c, hy, hc⟩, tu2, _⟩, ne, q⟩ | ⟨ty, tx, e, q⟩
    · refine ⟨_, rfl, _, .ref CW, .ref CW, .ref CW, true, rfl, .own _, .base (.ins hy T.clW T.wA T.tB T.tC T.wD), T.WW, true, rfl, iteT ?_⟩
      refine ⟨_, rfl, x, CW, dx, _, _, rfl, hx, T.clW, T.nW, fW_i b, _, rfl, z, CW, dy, _, _, rfl, hy, T.clW, T.nW, fW_i c, .inl ⟨b, c, _, _, rfl, rfl, .inl hb, .inl hc, ?_, ?_, q⟩⟩
      · rw [encC_len, encC_len, imsL_congr lk]
      · rintro p hp
        obtain ⟨z, hz, rfl⟩ := List.mem_map.mp hp
        have m := (imsL_mem hz).1
        have m2 := m
        rw [lk] at m2
        have e2 : lookT (imsL abc u) z.1 = some z.2 := by rw [← imsL_congr lk, look_ims26 g, m]
        exact ⟨_, _, cSome e2, .tup (.inl (.inl (tu.look m))) (dp_nums _), .tup (.inl (.inl (tu2.look m2))) (dp_nums _), sh_nums _⟩
    · refine ⟨_, rfl, _, .ref CW, .ref CW, .ref CW, true, rfl, .own _, .base (.ins hy T.clW T.wA T.tB T.tC T.wD), T.WW, true, rfl, iteT ?_⟩
      exact ⟨_, rfl, x, CW, dx, _, _, rfl, hx, T.clW, T.nW, fW_i b, _, rfl, z, CW, dy, _, _, rfl, hy, T.clW, T.nW, fW_i c, .inr ⟨b, c, _, _, rfl, rfl, .inl hb, .inl hc, by rw [encC_len, encC_len]; exact ne, q⟩⟩
    · exact ⟨_, rfl, _, .ref CW, ty, .ref CW, false, rfl, .own _, tx, e, false, rfl, iteF q⟩
end
end V8

set_option Elab.async false
set_option linter.all false
set_option maxRecDepth 100000
set_option maxHeartbeats 8000000
/-! A table of codes: texts written; two joined. -/
namespace V8
open PySem PySem.Spec PyProof.Rows L2 ItX MX
abbrev s_WriteTable_call : Stmt := inClass (topS 22) 5
abbrev n_WriteTable_call : List Str := ["self", "text", "letter", "number"]
theorem sc_WriteTable_call : FnScope ["self", "text", "letter", "number"] ["self", "text"] (defScope s_WriteTable_call) := ⟨rfl, rfl, rfl, by decide +kernel, rfl, by decide +kernel, by decide +kernel⟩
abbrev s_WriteTable_or : Stmt := inClass (topS 22) 6
abbrev n_WriteTable_or : List Str := ["self", "other", "letter"]
theorem sc_WriteTable_or : FnScope ["self", "other", "letter"] ["self", "other"] (defScope s_WriteTable_or) := ⟨rfl, rfl, rfl, by decide +kernel, rfl, by decide +kernel, by decide +kernel⟩
theorem pi_tupK {X : Cx} {K : PySem.W.Frag} {tg l : Expr} {tl : TE} (hK : X.K = K) (hl : PE X l tl) : PI X tg l (iTup K tl) := by
  subst hK
  exact pi_tup hl
theorem sx_at {st : List Nat} {i : Nat} {c : Nat} (h : (Sx st).cps[i]? = some c) : st[i]? = some c := by
  have : (Sx st).cps = st.toArray := rfl
  rw [this] at h
  simpa using h
theorem sx_size (st : List Nat) : (Sx st).cps.size = st.length := by
  show st.toArray.size = _
  simp
theorem nums_app (a b : List Nat) : nums a ++ nums b = nums (a ++ b) := (List.map_append ..).symm
theorem look_iff0 {t : Tab} {c : Nat} : (lookT t c).isSome = true ↔ c ∈ t.map (·.1) := by
  constructor
  · intro h
    obtain ⟨s, e⟩ := Option.isSome_iff_exists.mp h
    exact List.mem_map.mpr ⟨_, look_in e, rfl⟩
  · intro h
    obtain ⟨q, hq, rfl⟩ := List.mem_map.mp h
    unfold lookT
    rw [Option.isSome_map, List.find?_isSome]
    exact ⟨q, hq, by simp⟩
theorem look_app {t : Tab} {c : Nat} {s : List Nat} (h : c ∉ t.map (·.1)) (c' : Nat) : lookT (t ++ [(c, s)]) c' = if c' = c then some s else lookT t c' := by
  unfold lookT
  rw [List.find?_append]
  by_cases e : c' = c
  · subst e
    rw [if_pos rfl]
    have n : t.find? (fun q => decide (q.1 = c')) = none := List.find?_eq_none.mpr fun q hq => by
      simpa using fun z => h (List.mem_map.mpr ⟨q, hq, z⟩)
    rw [n]
    simp
  · rw [if_neg e]
    cases t.find? (fun q => decide (q.1 = c')) with
    | none => simp [Ne.symm e]
    | some q => rfl
theorem looks_app {t : Tab} {c : Nat} {s : List Nat} (h : lookT t c = none) (c' : Nat) : lookT (t ++ [(c, s)]) c' = if c' = c then some s else lookT t c' := by
  refine look_app (fun z => ?_) c'
  obtain ⟨q, hq, e⟩ := List.mem_map.mp z
  have : (t.find? fun q => decide (q.1 = c)) = none := by
    unfold lookT at h
    rwa [Option.map_eq_none_iff] at h
  have := List.find?_eq_none.mp this q hq
  simp [e] at this
theorem put_set {B : Ad} {t : Tab} {c : Nat} {s : List Nat} {tq : Addr} (nk : c ∉ t.map (·.1)) : putK (encC B t) (kL c) (.ref tq) = encC (setA B c tq) (t ++ [(c, s)]) := by
  have h1 := putG (kf := kL) (vf := fun q => V.ref (setA B c tq q.1)) kL_inj (t := t) (c := c) (s := s) nk
  have h2 : V.ref (setA B c tq c) = V.ref tq := by
    show V.ref (if c = c then tq else B c) = _
    rw [if_pos rfl]
  have h3 : encG kL (fun q => V.ref (setA B c tq q.1)) t = encC B t := encC_set nk
  rw [h3] at h1
  refine Eq.trans ?_ h1
  show _ = putK (encC B t) (kL c) (V.ref (setA B c tq c))
  rw [h2]
theorem look_rep (c : Nat) (s : List Nat) (c' : Nat) : ∀ t : Tab, lookT (t.map fun q => if q.1 = c then (q.1, s) else q) c' = if c' = c then (lookT t c).map (fun _ => s) else lookT t c'
  | [] => by
    by_cases h : c' = c
    · rw [if_pos h]; rfl
    · rw [if_neg h]; rfl
  | q :: t => by
    have ih := look_rep c s c' t
    unfold lookT at ih ⊢
    rw [List.map_cons, List.find?_cons]
    by_cases hq : q.1 = c
    · rw [if_pos hq]
      by_cases h : c' = c
      · subst h
        rw [if_pos rfl, List.find?_cons, decide_eq_true hq]
        rfl
      · rw [if_neg h]
        rw [if_neg h] at ih
        rw [List.find?_cons, decide_eq_false (show ¬ q.1 = c' by rw [hq]; exact Ne.symm h)]
        exact ih
    · rw [if_neg hq]
      by_cases h : c' = c
      · subst h
        rw [if_pos rfl] at ih ⊢
        rw [List.find?_cons, decide_eq_false hq]
        exact ih
      · rw [if_neg h] at ih ⊢
        rw [List.find?_cons]
        cases decide (q.1 = c') with
        | true => rfl
        | false => exact ih
theorem any_look (t : Tab) (c : Nat) : (t.any fun q => decide (q.1 = c)) = (lookT t c).isSome := by
  rw [Bool.eq_iff_iff, look_iff0, List.any_eq_true]
  constructor
  · rintro ⟨q, hq, e⟩
    exact List.mem_map.mpr ⟨q, hq, of_decide_eq_true e⟩
  · intro h
    obtain ⟨q, hq, e⟩ := List.mem_map.mp h
    exact ⟨q, hq, decide_eq_true e⟩
theorem look_putT (t : Tab) (c : Nat) (s : List Nat) (c' : Nat) : lookT (putT t c s) c' = if c' = c then some s else lookT t c' := by
  unfold putT
  rw [any_look]
  cases e : lookT t c with
  | some z =>
    rw [if_pos (show (some z).isSome = true from rfl), look_rep, e]
    rfl
  | none =>
    rw [if_neg (by simp)]
    exact looks_app e c'
theorem putK_C {B : Ad} {t : Tab} {c : Nat} {s : List Nat} {tq : Addr} : putK (encC B t) (kL c) (.ref tq) = encC (setA B c tq) (putT t c s) := by
  by_cases h : c ∈ t.map (·.1)
  · have a1 : (t.any fun q => decide (q.1 = c)) = true := by
      obtain ⟨q, hq, e⟩ := List.mem_map.mp h
      exact List.any_eq_true.mpr ⟨q, hq, decide_eq_true e⟩
    have a2 : ((encC B t).any fun kv => decide (kv.1 = kL c)) = true := by
      obtain ⟨q, hq, e⟩ := List.mem_map.mp h
      exact List.any_eq_true.mpr ⟨_, List.mem_map.mpr ⟨q, hq, rfl⟩, decide_eq_true (by rw [e])⟩
    unfold putK putT
    rw [if_pos a1, if_pos a2]
    unfold encC encG
    rw [List.map_map, List.map_map]
    refine List.map_congr_left fun q _ => ?_
    show (if kL q.1 = kL c then (kL q.1, V.ref tq) else (kL q.1, V.ref (B q.1))) = _
    by_cases e : q.1 = c
    · rw [if_pos (by rw [e])]
      show _ = (kL (if q.1 = c then (q.1, s) else q).1, V.ref (setA B c tq (if q.1 = c then (q.1, s) else q).1))
      rw [if_pos e]
      show _ = (kL q.1, V.ref (if q.1 = c then tq else B q.1))
      rw [if_pos e]
    · rw [if_neg (fun z => e (kL_inj _ _ z))]
      show _ = (kL (if q.1 = c then (q.1, s) else q).1, V.ref (setA B c tq (if q.1 = c then (q.1, s) else q).1))
      rw [if_neg e]
      show _ = (kL q.1, V.ref (if q.1 = c then tq else B q.1))
      rw [if_neg e]
  · rw [putT_new h]
    exact put_set h
theorem look_nd {t : Tab} (nd : (t.map (·.1)).Nodup) {q : Nat × List Nat} (h : q ∈ t) : lookT t q.1 = some q.2 := by
  obtain ⟨i, hi, rfl⟩ := List.getElem_of_mem h
  exact look_at nd hi
theorem GoodC.putT {t : Tab} (g : GoodC t) {c : Nat} {s : List Nat} (hc : isLt c) (hs : GoodI4 s) : GoodC (putT t c s) := by
  refine ⟨put_nd g.nd, fun q hq => ?_, fun q hq => ?_⟩
  · rcases keys_put q hq with h | rfl
    · exact g.lt q h
    · exact hc
  · rcases keys_put q hq with h | rfl
    · exact g.cod q h
    · exact hs
theorem Tups.putT {H : Hp} {A : Ad} {t : Tab} {c : Nat} {s : List Nat} {a : Addr} (h : Tups H A t) (g : GoodC t) (ha : H a = some (.tup (nums s))) : Tups H (setA A c a) (putT t c s) := fun q hq => by
  have e := look_nd (put_nd (c := c) (s := s) g.nd) hq
  rw [look_putT] at e
  show H (if q.1 = c then a else A q.1) = _
  by_cases hqc : q.1 = c
  · rw [if_pos hqc] at e ⊢
    rw [ha, Option.some.inj e]
  · rw [if_neg hqc] at e ⊢
    exact h.look e
/-! ### written -/
def lackW (t : Tab) (cs : List Nat) : Option Nat := cs.find? fun c => !(lookT t c).isSome
def wrT (t : Tab) (cs : List Nat) : List Nat := (cs.map fun c => (lookT t c).getD []).flatten
theorem wr_len {t : Tab} (g : GoodC t) : ∀ cs : List Nat, (wrT t cs).length ≤ 4 * cs.length
  | [] => Nat.zero_le _
  | c :: cs => by
    have ih := wr_len g cs
    unfold wrT at ih ⊢
    rw [List.map_cons, List.flatten_cons, List.length_append, List.length_cons]
    have h1 : ((lookT t c).getD []).length ≤ 4 := by
      cases e : lookT t c with
      | none => exact Nat.zero_le _
      | some s => exact (g.look e).2.2.1
    omega
theorem wr_succ {t : Tab} {w : List Nat} {i c : Nat} {z : List Nat} (h : w[i]? = some c) (e : lookT t c = some z) : wrT t (w.take (i + 1)) = wrT t (w.take i) ++ z := by
  unfold wrT
  rw [List.take_add_one, h, List.map_append, List.flatten_append]
  show _ ++ [(lookT t c).getD []].flatten = _
  rw [e]
  simp
def spCaW (CW : Addr) (Cz : Nat → Addr) : Sp := fun vs H Q E => ∃ x A t y d, vs = [.ref x, y] ∧ WrU CW H x A t ∧ Held H y d ∧ ((wordD 0 2000 d = false ∧ OutB Cz H (.one 4 d) E) ∨
  ∃ cs, d = .str (Sx cs) ∧ (∀ c ∈ cs, isLt c) ∧ cs.length ≤ 2000 ∧ ((∃ c, lackW t cs = some c ∧ OutB Cz H (.one 3 (.str (L1 c))) E) ∨ (lackW t cs = none ∧ ∀ a H2, Same H H2 → H2 a = some (.tup (nums (wrT t cs))) → Q (.ref a) H2)))
/-! ### joined -/
def mrgA (A B : Ad) (u : Tab) : Ad := u.foldl (fun a q => setA a q.1 (B q.1)) A
def mrgT (t u : Tab) : Tab := u.foldl (fun acc q => putT acc q.1 q.2) t
theorem mergeK_C {B : Ad} : ∀ (u t : Tab) (A : Ad), mergeK (encC A t) (encC B u) = encC (mrgA A B u) (mrgT t u)
  | [], t, A => rfl
  | q :: u, t, A => by
    have e : mergeK (encC A t) (encC B (q :: u)) = mergeK (putK (encC A t) (kL q.1) (V.ref (B q.1))) (encC B u) := rfl
    rw [e, putK_C (s := q.2), mergeK_C u]
    rfl
theorem look_mrgT (c : Nat) : ∀ (u t : Tab), (u.map (·.1)).Nodup → lookT (mrgT t u) c = (lookT u c).or (lookT t c)
  | [], t, _ => rfl
  | q :: u, t, nd => by
    rw [List.map_cons, List.nodup_cons] at nd
    have e : mrgT t (q :: u) = mrgT (putT t q.1 q.2) u := rfl
    rw [e, look_mrgT c u _ nd.2, look_putT]
    have e2 : lookT (q :: u) c = if c = q.1 then some q.2 else lookT u c := by
      unfold lookT
      rw [List.find?_cons]
      by_cases h : q.1 = c
      · rw [decide_eq_true h, if_pos h.symm]
        rfl
      · rw [decide_eq_false h, if_neg (Ne.symm h)]
    rw [e2]
    by_cases h : c = q.1
    · rw [if_pos h, if_pos h]
      have n : lookT u c = none := by
        cases e3 : lookT u c with
        | none => rfl
        | some s =>
          refine absurd (look_iff0.mp (show (lookT u c).isSome = true by rw [e3]; rfl)) ?_
          rw [h]
          exact nd.1
      rw [n]
      rfl
    · rw [if_neg h, if_neg h]
theorem GoodC.merge : ∀ {u t : Tab}, GoodC t → (∀ q ∈ u, isLt q.1 ∧ GoodI4 q.2) → GoodC (mrgT t u)
  | [], _, g, _ => g
  | q :: u, t, g, h => GoodC.merge (u := u) (g.putT (h q List.mem_cons_self).1 (h q List.mem_cons_self).2) fun p hp => h p (List.mem_cons_of_mem _ hp)
theorem Tups.merge {H : Hp} {B : Ad} : ∀ {u t : Tab} {A : Ad}, Tups H A t → GoodC t → (∀ q ∈ u, isLt q.1 ∧ GoodI4 q.2) → Tups H B u → Tups H (mrgA A B u) (mrgT t u)
  | [], _, _, h, _, _, _ => h
  | q :: u, t, A, h, g, gu, hu => Tups.merge (u := u) (h.putT g (hu q List.mem_cons_self)) (g.putT (gu q List.mem_cons_self).1 (gu q List.mem_cons_self).2) (fun p hp => gu p (List.mem_cons_of_mem _ hp)) fun p hp => hu p (List.mem_cons_of_mem _ hp)
theorem imsL_good {t : Tab} (g : GoodC t) : GoodC (imsL abc t) := by
  refine ⟨?_, fun q hq => (g.look (imsL_mem hq).1).1, fun q hq => (g.look (imsL_mem hq).1).2⟩
  unfold imsL
  rw [List.map_map]
  show (List.map (fun c => c) (keysL abc t)).Nodup
  rw [List.map_id']
  exact abc_nd.filter _
theorem Tups.ims {H : Hp} {A : Ad} {t : Tab} (h : Tups H A t) : Tups H A (imsL abc t) := fun q hq => h.look (imsL_mem hq).1
theorem imsL26 (t : Tab) : (imsL abc t).length ≤ 26 := Nat.le_trans (imsL_len abc t) (by rw [abc_len]; exact Nat.le_refl _)
theorem ims_at {L : List Nat} {t : Tab} {i : Nat} (h : i < (imsL L t).length) : (keysL L t)[i]? = some (imsL L t)[i].1 := by
  have e : ((keysL L t).map fun c => (c, (lookT t c).getD []))[i]? = some (imsL L t)[i] := List.getElem?_eq_getElem h
  rw [List.getElem?_map] at e
  cases hk : (keysL L t)[i]? with
  | none =>
    rw [hk] at e
    cases e
  | some c =>
    rw [hk] at e
    rw [← Option.some.inj e]
/-- two codes that are not alike -/
def clash (t u : Tab) (c : Nat) : Bool := match lookT t c, lookT u c with
  | some a, some b => decide (b ≠ a)
  | _, _ => false
theorem clash_find (t u : Tab) : (keysL abc t).find? (clash t u) = abc.find? (clash t u) := by
  unfold keysL
  rw [List.find?_filter]
  congr 1
  funext c
  unfold clash
  cases lookT t c <;> simp
theorem eqvA_nums : ∀ a b : List Nat, PyData.eqvAll (a.map fun n => .int ((n : Nat) : Int)) (b.map fun n => .int ((n : Nat) : Int)) = decide (a = b)
  | [], [] => rfl
  | [], _ :: _ => rfl
  | _ :: _, [] => rfl
  | x :: a, y :: b => by
    rw [List.map_cons, List.map_cons]
    show (PyData.eqv (.int _) (.int _) && PyData.eqvAll _ _) = _
    rw [eqvA_nums a b]
    show (decide (((x : Nat) : Int) = ((y : Nat) : Int)) && _) = _
    rw [Bool.eq_iff_iff, Bool.and_eq_true, decide_eq_true_iff, decide_eq_true_iff, decide_eq_true_iff, List.cons.injEq]
    constructor
    · rintro ⟨h1, h2⟩
      exact ⟨by omega, h2⟩
    · rintro ⟨h1, h2⟩
      exact ⟨by omega, h2⟩
theorem eqv_nums (a b : List Nat) : PyData.eqv (.tuple (a.map fun n => .int ((n : Nat) : Int))) (.tuple (b.map fun n => .int ((n : Nat) : Int))) = decide (a = b) := eqvA_nums a b
theorem rd_lock {H : Hp} {b c : Addr} {od : Obj} {u v : HO} (hb : H b = some u) (hc : H c = some v) : Rd (upd H b (.frz od u)) c v := by
  by_cases e : c = b
  · subst e
    rw [hb] at hc
    cases hc
    exact .inr ⟨od, upd_same⟩
  · exact .inl (by rw [upd_ne e]; exact hc)
def spOrW (K0 : PySem.W.Frag) (CW : Addr) (Cz : Nat → Addr) : Sp := fun vs H Q E => ∃ x A t y, vs = [.ref x, y] ∧ WrU CW H x A t ∧ ((∃ ty, TyX K0 H y ty ∧ PySem.W.kitOne K0 ty (.ref CW) = some false ∧ OutB Cz H (.one 0 (.str "other")) E) ∨
  ∃ z B u, y = .ref z ∧ WrU CW H z B u ∧ ((∃ c, abc.find? (clash t u) = some c ∧ OutB Cz H (.one 5 (.str (L1 c))) E) ∨ (abc.find? (clash t u) = none ∧ ∀ q C v H', H q = none → WrU CW H' q C v → (∀ c, lookT v c = (lookT u c).or (lookT t c)) → Same H H' → Q (.ref q) H')))
section
variable {P : Program} {w : World} {K : PySem.W.Frag} {mg : Str → Option Value} {base : Heap} {CW CE : Addr} {Cz : Nat → Addr}
theorem ok_callW {f : Addr} {fd : FuncData} (F : Fun K "__call__" "WriteTable.__call__" s_WriteTable_call f fd) (T : Tc K mg CW CE Cz) (D_check_text : DfG P w K mg base (L2.CX P w) 5 "check_text" (spChkD Cz)) (E_NoSign : Er1 P w K mg base "NoSign" "letter" (Cz 3)) : FnG P w K mg base (L2.CX P w) 6 f fd ["self", "text"] (spCaW CW Cz) := by
  refine F.okXG sc_WriteTable_call (fun vs H Q E h => ?_) (fun cdv A outer s H vs Q E quiet hr h => ?_)
  · obtain ⟨x, B, t, y, d, rfl, _⟩ := h
    rfl
  · obtain ⟨x, B, t, y, d, rfl, ⟨⟨dx, b, hx, hb⟩, tu, g⟩, hd, h⟩ := h
    refine ⟨_, (pss_cons (ps_expr (pe_cG D_check_text quiet (passTk (takes_of rfl rfl rfl rfl)) hr (by decide) (by rfl) (pa_cons (pv 1) pa_nil)))
      (pss_cons (ps_for (passes_of rfl) rfl (pi_str (pv 1)) (pg_name (i := 2) sc_WriteTable_call.nd rfl (.inl rfl))
        (pss_one (ps_if (pt_cmp (pc_dnotin (hu_of hr) (pv 2) (pe_fldK (K := K) rfl (pv 0) rfl)))
          (pss_one (ps_raise rfl (takes_of rfl rfl rfl rfl) (pmk_one E_NoSign quiet hr (by decide) (by rfl) (pa_cons (pv 2) pa_nil))))
          pss_nil)))
      (pss_one (ps_ret (pe_callTy (call_tuple_ofK (K := K) rfl) (by rfl) T.tuple (by decide +kernel) (pa_cons (pe_lc2 (own := [("letter", 2), ("number", 3)]) (vs1 := [3]) (g := gName 2) (g1 := gName 3) (by rfl) sc_WriteTable_call.nd (pi_str (pv 1)) (blkOk_by (own := [("letter", 2), ("number", 3)]) (N := n_WriteTable_call) (sc := defScope s_WriteTable_call) (by decide +kernel)) (by decide) (fun _ _ _ _ _ => (pg_name (i := 2) sc_WriteTable_call.nd rfl (.inl rfl))) (fun _ _ _ _ _ => pts_nil) (fun _ _ _ _ _ => (pi_tupK (K := K) rfl (pe_dget (hu_of hr) (pe_fldK (K := K) rfl (pv 0) rfl) (pv 2) (fun _ _ => rfl)))) (fun _ _ _ _ _ => (pg_name (i := 3) sc_WriteTable_call.nd rfl (.inl rfl))) (fun _ _ _ _ _ => pts_nil) (fun _ _ _ _ _ => (pv 3))) pa_nil)))))), ?_⟩
    have hin : ∀ c, (lookT (imsL abc t) c) = lookT t c := look_ims26 g
    rcases h with ⟨e, o⟩ | ⟨w, rfl, hlt, h2, h⟩
    · exact ⟨_, rfl, y, d, rfl, hd, .inr ⟨e, o⟩⟩
    have ey : y = .str (Sx w) := by
      cases hd.pw with
      | str z => rfl
    subst ey
    have w0 : wordD 0 2000 (.str (Sx w)) = true := by
      show (decide (0 ≤ (Sx w).length) && decide ((Sx w).length ≤ 2000) && okL (Sx w).cps.toList) = true
      rw [Sx_len, decide_eq_true (Nat.zero_le _), decide_eq_true h2, Bool.true_and, Bool.true_and]
      exact okL_iff.mpr hlt
    refine ⟨_, rfl, _, _, rfl, hd, .inl ⟨w0, ?_⟩⟩
    refine ⟨_, rfl, Sx w, rfl, for_it walk_str (fun i σ H2 => (∃ v2 : Option V, σ = [some (.ref x), some (.str (Sx w)), v2, none]) ∧ H = H2 ∧ ∀ n ∈ w.take i, (!(lookT t n).isSome) = false) ⟨⟨none, rfl⟩, rfl, fun n h => by simp at h⟩ (fun _ _ _ _ _ => trivial) ?_ ?_⟩
    · rintro i y σ H2 H3 hi ⟨⟨v2, rfl⟩, rfl, hk⟩ ⟨rfl, c, hc0, rfl⟩
      have hc1 := sx_at hc0
      have hcm : c ∈ w := by
        obtain ⟨hi', ec⟩ := List.getElem?_eq_some_iff.mp hc1
        exact ec ▸ List.getElem_mem hi'
      refine ⟨_, rfl, _, rfl, x, CW, dx, _, _, rfl, hx, T.clW, T.nW, fW_i b, b, _, rfl, dgC (.inl hb) c, _, rfl, ?_⟩
      rw [cIs, hin]
      cases e : lookT t c with
      | some z =>
        refine iteF ⟨⟨_, rfl⟩, rfl, fun d hd => ?_⟩
        rw [List.take_add_one, hc1] at hd
        rcases List.mem_append.mp hd with h | h
        · exact hk d h
        · rw [List.mem_singleton.mp h, e]
          rfl
      | none =>
        have fl : lackW t w = some c := find_take hc1 hk (by rw [e]; rfl)
        rcases h with ⟨d, ed, o⟩ | ⟨ed, q⟩
        · rw [fl] at ed
          cases ed
          refine iteT ⟨_, rfl, by show 1 ≤ 1000; decide, fun a na => ?_⟩
          exact rz1 E_NoSign.oc E_NoSign.no (o.rz (Same.refl _) (th_flat (nice_let c (abc_mem.mpr (hlt _ hcm)))).th) a na
        · rw [fl] at ed
          cases ed
    · rintro σ H2 ⟨⟨v2, rfl⟩, rfl, hk⟩
      rw [sx_size, List.take_length] at hk
      have fl : lackW t w = none := find_no hk
      rcases h with ⟨d, ed, o⟩ | ⟨_, q⟩
      · rw [fl] at ed
        cases ed
      have hk2 : ∀ c ∈ w, ∃ z, lookT t c = some z := fun c hc => by
        have := hk c hc
        cases e : lookT t c with
        | none =>
          rw [e] at this
          cases this
        | some z => exact ⟨z, rfl⟩
      have wl : ∀ i, (wrT t (w.take i)).length ≤ 8000 := fun i => by
        have h1 := wr_len g (w.take i)
        rw [List.length_take] at h1
        omega
      refine ⟨_, rfl, Sx w, rfl, fun D nD => gen_it walk_str (fun i H2 => H2 = upd H D (.lst (nums (wrT t (w.take i))))) rfl (fun _ _ _ _ => trivial) ?_ ?_⟩
      · rintro i y H2 H3 hi rfl ⟨rfl, c, hc0, rfl⟩
        have hc1 := sx_at hc0
        have hcm : c ∈ w := by
          obtain ⟨hi', ec⟩ := List.getElem?_eq_some_iff.mp hc1
          exact ec ▸ List.getElem_mem hi'
        obtain ⟨z, ez⟩ := hk2 c hcm
        have sm : ∀ l : List V, Same H (upd H D (.lst l)) := fun l => same_put (s := Same.refl H) nD
        have e2 : lookT (imsL abc t) c = some z := by rw [hin, ez]
        refine ⟨rfl, _, rfl, x, CW, dx, _, _, rfl, sm _ _ _ hx, T.clW, T.nW, fW_i b, _, rfl, b, V.ref (B c), rfl, .inl ⟨_, kL c, .inl (sm _ _ _ hb), rfl, by rw [cSome e2]⟩, B c, rfl, ⟨_, .inl (.inl (sm _ _ _ (tu.look ez)))⟩, gen_it (walk_tup (K := K) (a := B c) (xs := nums z)) (fun j H4 => H4 = upd H D (.lst (nums (wrT t (w.take i) ++ z.take j)))) ?_ ?_ ?_ ?_⟩
        · simp
        · rintro j H4 hj rfl
          exact .inl (.inl (sm _ _ _ (tu.look ez)))
        · rintro j y H4 H5 hj rfl ⟨rfl, hy⟩
          obtain ⟨hj', rfl⟩ := nums_at hy
          have pl := wl i
          have zl := (g.look ez).2.2.1
          refine ⟨rfl, _, rfl, _, upd_same, ?_, ?_⟩
          · rw [nums_len, List.length_append, List.length_take, sizeLine_eq]
            omega
          · rw [upd_upd, List.take_add_one, List.getElem?_eq_getElem hj', ← List.append_assoc, ← nums_app (wrT t (w.take i) ++ z.take j)]
            rfl
        · rintro H4 rfl
          rw [nums_len, List.take_length, wr_succ hc1 ez]
      · rintro H2 rfl
        rw [sx_size, List.take_length]
        refine ⟨D, nums (wrT t w), rfl, .inl ⟨SqL.of upd_same, fun tq nt => ?_⟩⟩
        have s1 := same_put (s := Same.refl H) (o := .lst (nums (wrT t w))) nD
        exact q tq _ (same_put (s := s1) nt) upd_same
theorem ok_orW {f : Addr} {fd : FuncData} (F : Fun K "__or__" "WriteTable.__or__" s_WriteTable_or f fd) (T : Tc K mg CW CE Cz) (D_mk : MkW P w K mg base CW Cz) (E_BadTable : Er1 P w K mg base "BadTable" "part" (Cz 0)) (E_Unlike : Er1 P w K mg base "Unlike" "letter" (Cz 5)) : FnG P w K mg base (L2.CX P w) 8 f fd ["self", "other"] (spOrW K CW Cz) := by
  refine F.okXG sc_WriteTable_or (fun vs H Q E h => ?_) (fun cdv A outer s H vs Q E quiet hr h => ?_)
  · obtain ⟨x, B, t, y, rfl, _⟩ := h
    rfl
  · obtain ⟨x, A1, t, y, rfl, ⟨⟨dx, b, hx, hb⟩, tu, g⟩, h⟩ := h
    refine ⟨_, (pss_cons (ps_if (pt_not (pt_val (pe_callB call_isi (by rfl) T.isinstance (by decide +kernel) (pa_cons (pv 1) (pa_cons (pe_gv T.gWriteTable (by rfl)) pa_nil)))))
        (pss_one (ps_raise rfl (takes_of rfl rfl rfl rfl) (pmk_one E_BadTable quiet hr (by decide) (by rfl) (pa_cons pe_str pa_nil))))
        pss_nil)
      (pss_cons (ps_lock (ps_for (passes_of rfl) rfl (pi_keys (pe_fldK (K := K) rfl (pv 0) rfl)) (pg_name (i := 2) sc_WriteTable_or.nd rfl (.inl rfl))
        (pss_one (ps_if (PW.pt (pw_and (pt_cmp (pc_din (hu_of hr) (pv 2) (pe_fldK (K := K) rfl (pv 1) rfl))) (pw_and1 (pt_cmpR (op_neDK (K := K) rfl hr.units) (pe_dget (hu_of hr) (pe_fldK (K := K) rfl (pv 1) rfl) (pv 2) (fun _ _ => rfl)) (pe_dget (hu_of hr) (pe_fldK (K := K) rfl (pv 0) rfl) (pv 2) (fun _ _ => rfl)) (nomark _)))))
          (pss_one (ps_raise rfl (takes_unl (H0 := H) rfl (takes_of rfl rfl rfl rfl)) (pmk_one E_Unlike quiet hr (by decide) (by rfl) (pa_cons (pv 2) pa_nil))))
          pss_nil))))
      (pss_one (ps_ret (pe_mkW (w := w) rfl D_mk quiet passL hr (by decide) (by rfl) (pa_cons (pe_merge2 (pe_fldK (K := K) rfl (pv 0) rfl) (pe_fldK (K := K) rfl (pv 1) rfl)) pa_nil)))))), ?_⟩
    rcases h with ⟨ty, tx, e, o⟩ | ⟨z, B, u, rfl, ⟨⟨dz, c0, hz, hc0⟩, tu2, g2⟩, h⟩
    · exact ⟨_, rfl, _, .ref CW, ty, .ref CW, false, rfl, .own _, tx, e, false, rfl, iteT ⟨by show 1 ≤ 1000; decide, fun a na => rz1 E_BadTable.oc E_BadTable.no (o.rz (Same.refl H) (th_flat nice_other).th) a na⟩⟩
    refine ⟨_, rfl, _, .ref CW, .ref CW, .ref CW, true, rfl, .own _, .base (.ins hz T.clW T.wA T.tB T.tC T.wD), T.WW, true, rfl, iteF ?_⟩
    have hn : ∀ (o' : Obj) (u' : HO), HO.dK (encC A1 (imsL abc t)) ≠ .frz o' u' := fun _ _ z => nomatch z
    have bx : x ≠ b := ne_of hx hb (fun z => nomatch z)
    have bz : z ≠ b := ne_of hz hb (fun z => nomatch z)
    refine ⟨b, _, hb, True.intro, fun od => ⟨_, rfl, x, CW, dx, _, _, rfl, by rw [upd_ne bx]; exact hx, T.clW, T.nW, fW_i b, b, od, rfl, .inl ⟨_, upd_same, for_it walk_keys (fun i σ H2 => (∃ v2, σ = [some (.ref x), some (.ref z), v2]) ∧ H2 = upd H b (.frz od (.dK (encC A1 (imsL abc t)))) ∧ ∀ c ∈ (keysL abc t).take i, clash t u c = false) ⟨⟨none, rfl⟩, rfl, fun d h => by simp at h⟩ ?_ ?_ ?_⟩⟩⟩
    · rintro i σ H2 hi ⟨_, rfl, _⟩
      exact upd_same
    · rintro i y σ H2 H3 hi ⟨⟨v2, rfl⟩, rfl, kn⟩ ⟨rfl, k, v, hk, rfl⟩
      obtain ⟨hit, rfl, rfl⟩ := encG_at hk
      obtain ⟨c, ec⟩ : ∃ c, c = (imsL abc t)[i].1 := ⟨_, rfl⟩
      have hc1 : (keysL abc t)[i]? = some c := by
        rw [ec]
        exact ims_at hit
      obtain ⟨s1, e1⟩ : ∃ s1, lookT t c = some s1 := ⟨_, by rw [ec]; exact (imsL_mem (List.getElem_mem hit)).1⟩
      have hcl := (g.look e1).1
      rw [← ec]
      clear ec hk
      have hz1 : upd H b (.frz od (.dK (encC A1 (imsL abc t)))) z = some (.ins CW dz (fW c0)) := by rw [upd_ne bz]; exact hz
      have hx1 : upd H b (.frz od (.dK (encC A1 (imsL abc t)))) x = some (.ins CW dx (fW b)) := by rw [upd_ne bx]; exact hx
      have rc := rd_lock (od := od) hb hc0
      have rb := rd_lock (od := od) hb hb
      have t1 : ∀ {a : Addr} {xs : List V}, H a = some (.tup xs) → upd H b (.frz od (.dK (encC A1 (imsL abc t)))) a = some (.tup xs) := fun {a xs} h => by rw [upd_ne (ne_of h hb (fun z => nomatch z))]; exact h
      have step : clash t u c = false → ∀ c2 ∈ (keysL abc t).take (i + 1), clash t u c2 = false := fun e2 c2 h2 => by
        rw [List.take_add_one, hc1] at h2
        rcases List.mem_append.mp h2 with h | h
        · exact kn c2 h
        · rw [List.mem_singleton.mp h, e2]
      refine ⟨_, rfl, _, rfl, z, CW, dz, _, _, rfl, hz1, T.clW, T.nW, fW_i c0, c0, _, rfl, dgC rc c, _, rfl, ?_⟩
      rw [cIs, look_ims26 g2]
      cases e2 : lookT u c with
      | none =>
        refine iteF ⟨⟨_, rfl⟩, rfl, step ?_⟩
        unfold clash
        rw [e1, e2]
      | some s2 =>
        refine iteT ?_
        refine ⟨_, rfl, z, CW, dz, _, _, rfl, hz1, T.clW, T.nW, fW_i c0, _, rfl, c0, V.ref (B c), rfl, .inl ⟨_, kL c, rc, rfl, by rw [cSome (s := s2) (by rw [look_ims26 g2, e2])]⟩, ?_⟩
        refine ⟨_, rfl, x, CW, dx, _, _, rfl, hx1, T.clW, T.nW, fW_i b, _, rfl, b, V.ref (A1 c), rfl, .inl ⟨_, kL c, rb, rfl, by rw [cSome (s := s1) (by rw [look_ims26 g, e1])]⟩, ?_⟩
        refine ⟨_, _, .tup (.inl (.inl (t1 (tu2.look e2)))) (dp_nums s2), .tup (.inl (.inl (t1 (tu.look e1)))) (dp_nums s1), sh_nums _, sh_nums _, _, rfl, ?_⟩
        rw [eqv_nums]
        by_cases es : s2 = s1
        · rw [decide_eq_true es]
          refine iteF ⟨⟨_, rfl⟩, rfl, step ?_⟩
          unfold clash
          rw [e1, e2]
          exact decide_eq_false (fun n => n es)
        · rw [decide_eq_false es]
          have cl : clash t u c = true := by
            unfold clash
            rw [e1, e2]
            exact decide_eq_true es
          have fl : abc.find? (clash t u) = some c := by
            rw [← clash_find]
            exact find_take hc1 kn cl
          rcases h with ⟨c2, e3, o⟩ | ⟨e3, _⟩
          · rw [fl] at e3
            cases e3
            exact iteT ⟨_, rfl, by show 1 ≤ 1000; decide, fun a na => rz1 E_Unlike.oc E_Unlike.no (out_unl o hb hn (th_flat (nice_let c (abc_mem.mpr hcl))).th) a na⟩
          · rw [fl] at e3
            cases e3
    · rintro σ H2 ⟨⟨v2, rfl⟩, rfl, kn⟩
      refine ⟨upd_same, ?_⟩
      rw [Same.upd_back hb]
      have fl : abc.find? (clash t u) = none := by
        rw [← clash_find]
        refine find_no fun c hc => kn c ?_
        rw [List.take_of_length_le]
        · exact hc
        · rw [encC_len]
          unfold imsL
          rw [List.length_map]
          exact Nat.le_refl _
      rcases h with ⟨c2, e3, o⟩ | ⟨_, q⟩
      · rw [fl] at e3
        cases e3
      have l1 := imsL26 t
      have l2 := imsL26 u
      refine fun p np => ?_
      have xp := ne_of_none hx np
      have zp := ne_of_none hz np
      have bp := ne_of_none hb np
      have cp := ne_of_none hc0 np
      refine ⟨_, rfl, x, CW, dx, _, _, rfl, by rw [upd_ne xp]; exact hx, T.clW, T.nW, fW_i b, b, _, rfl, bp, upd_same, .inl (by rw [upd_ne bp]; exact hb), by rw [encC_len]; omega, ?_⟩
      have ek : mergeK [] (encC A1 (imsL abc t)) = encC (mrgA A1 A1 (imsL abc t)) (mrgT [] (imsL abc t)) := mergeK_C (imsL abc t) [] A1
      rw [upd_upd, ek]
      have gi := imsL_good g
      have gi2 := imsL_good g2
      have pr : ∀ {v : Tab}, GoodC v → ∀ q ∈ v, isLt q.1 ∧ GoodI4 q.2 := fun gv q hq => ⟨gv.lt q hq, gv.cod q hq⟩
      have gm := GoodC.merge GoodC.nil (pr gi)
      have gm2 := gm.merge (pr gi2)
      refine ⟨_, rfl, z, CW, dz, _, _, rfl, by rw [upd_ne zp]; exact hz, T.clW, T.nW, fW_i c0, c0, _, _, rfl, cp, upd_same, by rw [encC_len]; have := gm.key; omega, .inl (by rw [upd_ne cp]; exact hc0), by rw [encC_len]; omega, ?_⟩
      rw [upd_upd, mergeK_C]
      have sp := same_put (s := Same.refl H) (o := .dK (encC (mrgA (mrgA A1 A1 (imsL abc t)) B (imsL abc u)) (mrgT (mrgT [] (imsL abc t)) (imsL abc u)))) np
      have tm : Tups H (mrgA A1 A1 (imsL abc t)) (mrgT [] (imsL abc t)) := Tups.merge (fun q h => (List.not_mem_nil h).elim) GoodC.nil (pr gi) tu.ims
      refine ⟨.ref p, rfl, .inl ⟨p, _, _, rfl, ⟨upd_same, (Tups.merge tm gm (pr gi2) tu2.ims).same sp, gm2⟩, fun q2 H3 nq wq sq _ => q q2 _ _ H3 (same_none sp nq) wq (fun c => ?_) fun b o e => sq _ _ (sp _ _ e)⟩⟩
      rw [look_mrgT c _ _ gi2.nd, look_mrgT c _ _ gi.nd, look_ims26 g, look_ims26 g2]
      cases lookT t c <;> rfl
end
end V8

set_option Elab.async false
set_option linter.all false
set_option maxRecDepth 100000
set_option maxHeartbeats 4000000
/-! Where no repr is under way: lambdas, kept or written on the spot, called by the def that gets them. -/
namespace LamX
open PySem PySem.Spec PyProof.Rows L2
/-- what a lambda of X must be there -/
structure LamG (X : Cx) (k : Nat) (params : Arguments) (body : Expr) (scope : Scope) (t : XK → TE) : Prop where
  own : LamS X.env.scope scope
  bind : ∀ (q : Str) (cl : List (Str × Addr)) (pm cv ctv : Value), bindArgs (PySem.W.kla_fn "<lambda>" q params body scope cl pm cv ctv) ⟨[], []⟩ = pure []
  reads : ∀ (A : Around) (outer : List Env) (s : Shared) (H : Hp) (E : XK) (f c' : Addr), Quiet A → Room k (A.deeper (lamEnv X scope s.heap.objs.size f c')) → PE (lamCx X A outer s H E scope f c') body (t E)
section
variable {X : Cx} {pins : List (Addr × Obj)} {σ : L2.St} {H : Hp} {s : Shared}
/-- a() in the def that got the lambda -/
theorem act_quiet {CXg : CXT} {Eg : XK} {Ng : List Str} {qg : Str} {sg : Scope} {g f c1 : Addr} {cdg pm ctv : Value} {params : Arguments} {body : Expr} {scope : Scope} {k i : Nat} {a : Str} {pn : List (Addr × Obj)} {xe : Value → Shared → Prop} {W : WX} {E : XK} {t : XK → TE} {p1 p2 : Pos}
    (I : Inv X pins σ H s) (qu : Quiet X.A) (l : LamG X k params body scope t) (tk : Takes ((cxOf CXg X.prog X.w X.K X.mg X.base Ng qg sg g cdg X.A X.stack s H Eg).tr pn xe) W) (hW : ∀ cls d σ' H', E cls d H' → W cls d σ' H')
    (room : Room (k + 1) (X.A.deeper (envOfC qg sg s.heap.objs.size g cdg))) (hN : Ng[i]? = some a) (hv : Vis sg a) (hd : (a == ("__debug__" : Str)) = false := by decide) (hcd : (a == ("__classdict__" : Str)) = false := by decide) :
    PE ((cxOf CXg X.prog X.w X.K X.mg X.base Ng qg sg g cdg X.A X.stack s H Eg).tr pn xe) (.Call (.Name a p1) [] [] p2)
      (fun σZ HZ Q => σZ[i]? = some (some (.ref f)) ∧ (HZ f = some (FnO f (lamObj X params body scope pm ctv c1)) ∧ HZ c1 = some (CodeO c1 (X.env.qual ++ "<lambda>"))) ∧ t E σ HZ Q) := by
  have own := l.own
  refine ⟨fun pinsZ sZ σZ HZ Q IZ h => ?_⟩
  obtain ⟨at_, ⟨kf, kc⟩, rest⟩ := h
  have name := (pe_var (pos := p1) (i := i) hN hv hd hcd).run pinsZ sZ σZ HZ (fun v H1 => v = .ref f ∧ H1 = HZ) IZ ⟨.ref f, at_, rfl, rfl⟩
  refine wpAny_Call_Name_kw (thn name fun u s1 z => ?_)
  obtain ⟨v, H1, J, rel, rfl, rfl⟩ := z
  obtain rfl : u = Value.ref f := rel
  have obj : s1.heap.get? f = some (lamObj X params body scope pm ctv c1) := (J.hok f _ kf).1
  have code := (J.hok c1 _ kc).1
  obtain ⟨oc, vs, tt, code1, code2, code3⟩ := code
  refine PySem.W.callWith_F0 ⟨_, _, _, _, obj⟩ ?_
  have ran : codeAny (model X.prog X.w) (X.A.deeper (envOfC qg sg s.heap.objs.size g cdg)) (.call (.ref f) ⟨[], []⟩) (CR (L2.CX X.prog X.w) (envOfC qg sg s.heap.objs.size g cdg :: X.stack) X.prog X.w H1 s1 Q E) s1 := by
    refine PySem.W.kla_callFunE room.depth obj rfl own.co own.gen rfl ⟨c1, oc, vs, tt, rfl, code1, code2, code3⟩ ?_
    rw [l.bind]
    refine wpAny_pure (wpAny_newFunctionEnv (fun y hy => (own.own y hy).2) (fun y hy => absurd hy (by simp)) (fun h₁ hns hsb => ?_) own.kind)
    refine ⟨J.nolimit.fresh _ hsb, ?_⟩
    have stay : ∀ b o, s1.heap.get? b = some o → h₁.get? b = some o := fun b o e => hsb.extBut b o (Nat.ne_of_lt (Heap.lt_size e)) (Heap.get?_push_of_some _ e)
    have start : Inv (lamCx X (X.A.deeper (envOfC qg sg s.heap.objs.size g cdg)) (envOfC qg sg s.heap.objs.size g cdg :: X.stack) s1 H1 E scope f c1) [] σ H1 { s1 with heap := h₁, toks := s1.toks + ([] : List (Str × Value)).length } :=
      lam_start2 I own J.env0 room.hd J.base hns stay
    have go := (l.reads (X.A.deeper (envOfC qg sg s.heap.objs.size g cdg)) (envOfC qg sg s.heap.objs.size g cdg :: X.stack) s1 H1 E f c1 (show Quiet (X.A.deeper _) from qu) (room.deeper _)).run [] _ _ H1 Q start rest
    refine PySem.W.kla_codeExpr (wpAny_mono go (fun v s' hq => ?_) fun e s' hq => hq)
    obtain ⟨w', H', J', rv, q⟩ := hq
    exact ⟨w', H', J'.os, J'.bare, J'.base, J'.hok, rv, q⟩
  have out : Passes (L2.CX X.prog X.w) ((cxOf CXg X.prog X.w X.K X.mg X.base Ng qg sg g cdg X.A X.stack s H Eg).tr pn xe) E := passes_call tk hW
  refine wpAny_call (codeAny_mono ran fun r s' hq => ?_)
  match r, hq with
  | .error e, hq => exact out pinsZ σZ H1 s1 e s' J hq
  | .ok (.ret u), hq => exact J.after hq
  | .ok .next, hq => exact False.elim hq
  | .ok .brk, hq => exact False.elim hq
  | .ok .cont, hq => exact False.elim hq
/-- a lambda written where it is handed on -/
def tLamG (T : List (Addr × Str)) (TT : (XK → Hp → VK → Prop) → Hp → VK → Prop) (t : XK → TE) : TE := fun σ H Q => Tabs T H ∧ ∀ H1, ExtN H H1 → Tabs T H1 → TT (fun E H' Q' => t E σ H' Q') H1 Q
theorem pe_lamcallG {T : List (Addr × Str)} {TT : (XK → Hp → VK → Prop) → Hp → VK → Prop} {x a : Str} {g c P : Addr} {k : Nat} {pg : Arguments} {bg : List Stmt} {sg : Scope} {dV kV doc pm cdv ct oc : Value} {an od : Option Addr} {osl : Array (Option Value)} {Ng : List Str}
    {params : Arguments} {body : Expr} {scope : Scope} {t : XK → TE} {p lpos pos : Pos} (qu : Quiet X.A) (hg : Gl X x) (hm : X.mg x = some (.ref g)) (hk : PySem.W.keepIn X.K (.ref g) = true) (lk : X.K.lookup g = some ⟨oc, od, .func (PySem.W.fnOf x x pg bg sg dV kV doc pm an cdv ct), osl⟩) (hcg : PySem.W.codeIn X.K cdv x = true)
    (hb : L2.Binds X.K (PySem.W.fnOf x x pg bg sg dV kV doc pm an cdv ct) [a] []) (Sg : FnScope Ng [a] sg) (hNg : Ng[0]? = some a) (hva : Vis sg a) (hG : GivesK X Ng x sg g cdv bg a TT) (TB : TabB X.base X.mg c P) (hcode : X.env.code = .ref c) (hmT : (P, X.env.qual ++ "<lambda>") ∈ T)
    (hu : ∀ q ∈ T, q.1 = P → q.2 = X.env.qual ++ "<lambda>") (hr : Room (k + 2) X.A) (hdef : defaultsOf params X.env = ([], [])) (l : LamG X k params body scope t)
    (hdb : (x == ("__debug__" : Str)) = false := by decide) (hd : (a == ("__debug__" : Str)) = false := by decide) (hcd : (a == ("__classdict__" : Str)) = false := by decide) :
    PE X (.Call (.Name x p) [.Lambda params body scope lpos] [] pos) (tLamG T TT t) := by
  refine ⟨fun pins s σ H Q I h => wpAny_Call_Name_kw (ld_glob I hg hm ?_ hdb)⟩
  obtain ⟨hT, h⟩ := h
  refine PySem.W.callWith_K (h₀ := X.base) I.ok.mod.kin hk ?_ (by rfl) (by rfl)
  show wpAny _ _ (spliced ((false, eval (.Lambda params body scope lpos) X.env) :: backTo pos (starEach [] X.env))) _ _ s
  refine Calls.spliced_cons (lam_made I TB hcode hmT hu hT hdef (l.own.has I.ok) fun f H1 s1 J eN tA nf lo => ?_)
  refine Calls.spliced_nil ⟨J.kIn, ?_⟩
  obtain ⟨c1, pmf, ctf, kf, kc⟩ := lo
  have ran : codeAny (model X.prog X.w) X.A (.call (.ref g) ⟨[.ref f], []⟩) (CR C8.CX0 X.stack X.prog X.w H1 s1 Q C8.E0) s1 := by
    refine run_ofS (N := Ng) (ps := [a]) (us := [.ref f]) (vs := [.ref f]) lk hcg Sg hr J.env0 (hb s1 [.ref f] J.kIn rfl) (.cons rfl .nil) rfl fun room => ?_
    have gave := hG f (fun HZ => HZ f = some (FnO f (lamObj X params body scope pmf ctf c1)) ∧ HZ c1 = some (CodeO c1 (X.env.qual ++ "<lambda>"))) s1 H1 Q (fun E H' Q' => t E σ H' Q')
      (fun _ _ z e => ⟨e _ _ z.1, e _ _ z.2⟩) (fun W pn xe E p1 p2 tk hW => act_quiet (i := 0) J qu l tk hW room hNg hva hd hcd) ⟨kf, kc⟩ (h H1 eN tA)
    obtain ⟨t1, ht1, hq1⟩ := gave
    exact ⟨t1, ht1.nox, hq1⟩
  refine wpAny_call (codeAny_mono ran fun r s2 hq => ?_)
  match r, hq with
  | .error e, hq => exact (show False from hq).elim
  | .ok (.ret u), hq => exact J.after hq
  | .ok .next, hq => exact False.elim hq
  | .ok .brk, hq => exact False.elim hq
  | .ok .cont, hq => exact False.elim hq
end
end LamX

set_option Elab.async false
set_option linter.all false
set_option maxRecDepth 100000
set_option maxHeartbeats 4000000
/-! The end of a law whose promise wants that no repr is under way. -/
namespace LamX
open PySem PySem.Spec PyProof.Rows L2
/-- tables are tracked from the beginning, and so is the script unless it stands in the text -/
def firstH (K : PySem.W.Frag) (ts : List Addr) (a : Addr) (o : Obj) (xs : List V) : Hp := fun b =>
  if b ∈ ts then some (.tbl #[]) else if b = a ∧ K.lookup a = none then some (.frz o (.lst xs)) else none
theorem firstH_tab {K : PySem.W.Frag} {ts : List Addr} {a b : Addr} {o : Obj} {xs : List V} (h : b ∈ ts) : firstH K ts a o xs b = some (.tbl #[]) := by
  unfold firstH
  rw [if_pos h]
theorem firstH_at {K : PySem.W.Frag} {ts : List Addr} {a : Addr} {o : Obj} {xs : List V} (h : a ∉ ts) (n : K.lookup a = none) : firstH K ts a o xs a = some (.frz o (.lst xs)) := by
  unfold firstH
  rw [if_neg h, if_pos ⟨rfl, n⟩]
theorem firstH_of {K : PySem.W.Frag} {ts : List Addr} {a b : Addr} {o : Obj} {xs : List V} {u : HO} (h : firstH K ts a o xs b = some u) : (b ∈ ts ∧ u = .tbl #[]) ∨ (b = a ∧ K.lookup a = none ∧ u = .frz o (.lst xs)) := by
  unfold firstH at h
  by_cases h1 : b ∈ ts
  · rw [if_pos h1] at h
    exact .inl ⟨h1, (Option.some.inj h).symm⟩
  · rw [if_neg h1] at h
    by_cases h2 : b = a ∧ K.lookup a = none
    · rw [if_pos h2] at h
      exact .inr ⟨h2.1, h2.2, (Option.some.inj h).symm⟩
    · rw [if_neg h2] at h
      cases h
theorem law_callG {P : Program} {w : World} {K : PySem.W.Frag} {mg mb : Str → Option Value} {C : CXT} {k : Nat} {fa a : Addr} {cs : List (Addr × Addr)} {fd : FuncData} {x : Str} {sp : Sp} {s : Shared} {vs : List Value} {ns : List Int}
    (kin : K.In s.heap) (glob : s.heap.Ns mainGlobals mg) (bns : s.heap.Ns builtinsNs mb) (boot : ∀ y : Str, y ≠ "__name__" → mb y = bootBuiltins y) (lim : s.heap.NoLimit) (gens : s.gens = #[])
    (tabs : ∀ p ∈ cs, s.heap.get? p.2 = some { cls := .none, data := .fields #[] }) (untold : ∀ p ∈ cs, K.lookup p.2 = none) (codes : ∀ p ∈ cs, PySem.W.CodeHd s.heap p.1 p.2)
    (bmod : ∃ (bm : Addr) (ob : Obj), mg "__builtins__" = some (.ref bm) ∧ bm ≠ builtinsNs ∧ s.heap.get? bm = some ob ∧ ob.cls = .type "module" ∧ ob.dict = some builtinsNs ∧ ob.data = .plain)
    (script : s.heap.get? a = some { cls := .type "list", data := .seq vs.toArray }) (whole : IntsAre vs ns) (short : ns.length ≤ sizeLine) (room : Room k callerA)
    (F : ∀ base : Heap, K.In base → base.Ns mainGlobals mg → (∀ p ∈ cs, TabB base mg p.1 p.2) → FnG P w K mg base C k fa fd [x] sp) (binds : ∀ (s : Shared) (u : Value), BindsTo s fd ⟨[u], []⟩ [(x, u)])
    (holds : ∀ H : Hp, (∀ p ∈ cs, H p.2 = some (.tbl #[])) → SqL K H a (ns.map V.int) → sp [.ref a] H (fun v _ => v = .bl true) fun _ _ _ => False)
    (noerr : ∀ H e s', C [] H s (fun _ _ _ => False) e s' → False) :
    codeAny (model P w) callerA (.call (.ref fa) ⟨[.ref a], []⟩) (fun r s' => r = .ok (.ret (.bool true)) ∧ OldK s.heap s'.heap ∧ s'.os = s.os ∧ AllBare s'.gens) s := by
  have rel := vals_ints whole
  have many := whole.length
  generalize hts : cs.map (·.2) = ts
  have inT : ∀ p ∈ cs, p.2 ∈ ts := fun p hp => by
    rw [← hts]
    exact List.mem_map.mpr ⟨p, hp, rfl⟩
  have ofT : ∀ b ∈ ts, ∃ p ∈ cs, p.2 = b := fun b hb => by
    rw [← hts] at hb
    exact List.mem_map.mp hb
  have emp : ∀ b ∈ ts, s.heap.get? b = some { cls := .none, data := .fields #[] } := fun b hb => by
    obtain ⟨p, hp, rfl⟩ := ofT b hb
    exact tabs p hp
  have aT : a ∉ ts := fun z => by
    have e := emp a z
    rw [script] at e
    have e2 := congrArg Obj.data (Option.some.inj e)
    cases e2
  generalize hH : firstH K ts a { cls := .type "list", data := .seq vs.toArray } (ns.map V.int) = H
  have of : ∀ {b u}, H b = some u → (b ∈ ts ∧ u = .tbl #[]) ∨ (b = a ∧ K.lookup a = none ∧ u = .frz { cls := .type "list", data := .seq vs.toArray } (.lst (ns.map V.int))) := fun {b u} z => by
    rw [← hH] at z
    exact firstH_of z
  have atT : ∀ b ∈ ts, H b = some (.tbl #[]) := fun b hb => by
    rw [← hH]
    exact firstH_tab hb
  -- what is neither a list nor an empty table is not tracked
  have off : ∀ {b : Addr} {o : Obj}, s.heap.get? b = some o → (∀ us n, o.data ≠ .seq us n) → o.data ≠ .fields #[] → H b = none := fun {b o} e n1 n2 => by
    cases z : H b with
    | none => rfl
    | some u =>
      rcases of z with ⟨m, _⟩ | ⟨m, _, _⟩
      · rw [emp b m] at e
        cases e
        exact absurd rfl n2
      · rw [m, script] at e
        cases e
        exact absurd rfl (n1 _ _)
  have dict : ∀ {b : Addr} {o : Obj} {es : Array DictEntry} {n : Nat}, s.heap.get? b = some o → o.data = .dict es n → H b = none := fun {b o es n} e d =>
    off e (fun us m z => by rw [d] at z; cases z) fun z => by rw [d] at z; cases z
  have stays : ∀ {b : Addr} {m : Str → Option Value}, s.heap.Ns b m → (hidT s.heap H).Ns b m := fun {b m} z => by
    obtain ⟨o, es, ep, e, d, r⟩ := z
    exact ⟨o, es, ep, hidT_get e (dict e d), d, r⟩
  have kin2 : K.In (hidT s.heap H) := fun b o e => by
    refine hidT_get (kin b o e) ?_
    cases z : H b with
    | none => rfl
    | some u =>
      rcases of z with ⟨m, _⟩ | ⟨m, n, _⟩
      · obtain ⟨p, hp, rfl⟩ := ofT b m
        rw [untold p hp] at e
        cases e
      · rw [m, n] at e
        cases e
  have glob2 := stays glob
  have mod : L2.Mod K mg (hidT s.heap H) := by
    refine ⟨kin2, glob2, ⟨mb, stays bns, boot⟩, ?_⟩
    obtain ⟨mc, l1, l2⟩ := lim
    exact ⟨mc, stays l1, l2⟩
  have tb : ∀ p ∈ cs, TabB (hidT s.heap H) mg p.1 p.2 := fun p hp => by
    have eT := tabs p hp
    refine ⟨?_, ?_, fun z => ?_⟩
    · obtain ⟨o, us, file, tf, flags, tg, inF, text, tt, e1, r1, r2, r3, r⟩ := codes p hp
      refine ⟨o, us, file, tf, flags, tg, inF, text, tt, hidT_get e1 (off e1 (fun ws n z => ?_) fun z => ?_), r1, r2, r3, r⟩
      · rw [r2] at z
        cases z
      · rw [r2] at z
        have z2 : us = #[] := by cases z; rfl
        rw [z2] at r3
        simp at r3
    · obtain ⟨bm, ob, b1, b2, b3, b4, b5, b6⟩ := bmod
      refine ⟨bm, ob, b1, b2, fun z => ?_, fun z => ?_, hidT_get b3 (off b3 (fun ws n z => ?_) fun z => ?_), b4, b5, b6⟩
      · obtain ⟨o, es, ep, e, hd, _⟩ := glob
        rw [z, e] at b3
        cases b3
        rw [hd] at b6
        cases b6
      · rw [z, eT] at b3
        cases b3
        cases b6
      · rw [b6] at z
        cases z
      · rw [b6] at z
        cases z
    · obtain ⟨o, es, ep, e, hd, _⟩ := glob
      rw [z, eT] at e
      cases e
      cases hd
  have held : HOk P w H s.heap := fun b u z => by
    rcases of z with ⟨m, rfl⟩ | ⟨rfl, n, rfl⟩
    · exact emp b m
    · refine ⟨script, ?_, vs, 0, rel, script⟩
      rw [List.length_map]
      exact short
  have seq : SqL K H a (ns.map V.int) := by
    cases hk : K.lookup a with
    | none =>
      refine .inl (.inr ⟨{ cls := .type "list", data := .seq vs.toArray }, ?_⟩)
      rw [← hH]
      exact firstH_at aT hk
    | some o =>
      have e := kin a o hk
      rw [script] at e
      cases e
      refine .inr ⟨_, vs.toArray, _, hk, rfl, rfl, rfl, ?_, by simpa using rel⟩
      rw [List.size_toArray, many]
      exact short
  have start : Env0 P w K mg (hidT s.heap H) callerA [] s H := by
    refine ⟨rfl, mod, fun b o e => of_hidT e, Nat.le_of_eq (hidT_size _ _), trivial, fun b z => ?_, held, .of_eq gens⟩
    exact absurd z (List.not_mem_nil)
  have ran := (F _ kin2 glob2 tb).runs callerA [] s H ⟨[.ref a], []⟩ [.ref a] [.ref a] _ _ rfl room start (binds s (.ref a)) (.cons rfl .nil) (holds H (fun p hp => atT _ (inT p hp)) seq)
  refine codeAny_mono ran fun r s2 h => ?_
  match r, h with
  | .error e, h => exact (noerr H e s2 h).elim
  | .ok .next, h => exact h.elim
  | .ok .brk, h => exact h.elim
  | .ok .cont, h => exact h.elim
  | .ok (.ret u), h =>
    obtain ⟨v, H2, os, bare, un, ok2, rv, rfl⟩ := h
    obtain rfl : u = Value.bool true := rv
    have same : ∀ b o, b ∉ ts → s.heap.get? b = some o → s2.heap.get? b = some o := fun b o nb e => by
      cases z : H b with
      | none => exact un.keep b o e z (List.not_mem_nil) (List.not_mem_nil)
      | some u =>
        rcases of z with ⟨m, _⟩ | ⟨rfl, n, rfl⟩
        · exact absurd m nb
        · obtain ⟨e2, _⟩ := ok2 b _ (un.frzs b _ _ z)
          rw [script] at e
          cases e
          exact e2
    have more : ∀ b ∈ ts, ∃ us : Array Value, s2.heap.get? b = some { cls := .none, data := .fields us } := fun b hb => by
      obtain ⟨us, z⟩ := un.tbls b #[] (atT b hb)
      exact ⟨_, ok2 b _ z⟩
    refine ⟨rfl, ⟨fun b o e => ?_, fun b o e => ?_⟩, os, bare⟩
    · by_cases hb : b ∈ ts
      · obtain ⟨us, hu⟩ := more b hb
        obtain ⟨p, hp, rfl⟩ := ofT b hb
        have eT := tabs p hp
        rw [eT] at e
        cases e
        refine .inr (.inl ⟨((codes p hp).tab eT).isCodeTable, rfl, #[], us, rfl, ?_⟩)
        rw [Array.empty_append]
        exact hu
      · exact .inl (same b o hb e)
    · by_cases hb : b ∈ ts
      · obtain ⟨us, hu⟩ := more b hb
        exact ⟨_, hu⟩
      · exact ⟨o, same b o hb e⟩
end LamX

set_option Elab.async false
set_option linter.all false
set_option maxRecDepth 100000
set_option maxHeartbeats 16000000
set_option pp.maxSteps 2000
/-! What is heard of a call: what it returns, or one of six errors. -/
namespace V8
open PySem PySem.Spec PyProof.Rows L2 LamX MX
abbrev s_heard : Stmt := topS 33
abbrev n_heard : List Str := ["_law_ask", "_law_caught", "_law_found", "error", "_law_some"]
theorem sc_heard : FnScope ["_law_ask", "_law_caught", "_law_found", "error", "_law_some"] ["_law_ask"] (defScope s_heard) := ⟨rfl, rfl, rfl, by decide +kernel, rfl, by decide +kernel, by decide +kernel⟩
def wordOf : Nat → Str
  | 0 => "table"
  | 1 => "letter"
  | 2 => "code"
  | 3 => "none"
  | 4 => "word"
  | _ => "unlike"
/-- the words that are heard -/
def wordsB : Bad → List Str
  | .one i d => [wordOf i, d.shown]
/-- heard: a tuple of words -/
def HrB (H : Hp) (v : V) (b : Bad) : Prop := ∃ t, v = .ref t ∧ H t = some (.tup ((wordsB b).map V.str))
/-- heard: what is returned of an error -/
def HearE (Cz : Nat → Addr) (Q : VK) : XK := fun cls d H => ∃ dd, d = some dd ∧
  ∃ i y p, i < 6 ∧ cls = .ref (Cz i) ∧ PyW H y p ∧ Tells p ∧ H dd = some (.xd [(fldOf i, y)]) ∧ ∀ v H2, Same H H2 → HrB H2 v (.one i p) → Q v H2
/-- .. of a value -/
def HearV (Q : VK) : VK := fun v H => ∀ l H2, Same H H2 → H l = none → H2 l = some (.lst [v]) → Q (.ref l) H2
def TTheard (Cz : Nat → Addr) : (XK → Hp → VK → Prop) → Hp → VK → Prop := fun tl H Q => ∀ (R : VK) (H1 : Hp), (∀ v H2, HearV Q v H2 → R v H2) → Same H H1 → tl (HearE Cz Q) H1 R
theorem five_of {l : L2.St} (h : l.length = 5) : ∃ a b c d e, l = [a, b, c, d, e] := by
  match l, h with
  | [a, b, c, d, e], _ => exact ⟨a, b, c, d, e, rfl⟩
theorem keptX_same {K : PySem.W.Frag} {H H2 : Hp} {a D : Addr} {fs : List (Str × V)} (k : KeptX K H a D fs) (s : ∀ b o, H b = some o → (∀ xs, o ≠ .lst xs) → H2 b = some o) : KeptX K H2 a D fs := by
  obtain ⟨⟨d, h1, h2⟩, c⟩ := k
  exact ⟨⟨d, s _ _ h1 (fun _ z => nomatch z), s _ _ h2 (fun _ z => nomatch z)⟩, c⟩
theorem heard_givesG {X : Cx} {CW CE g : Addr} {Cz : Nat → Addr} {cdg : Value} (T : Tc X.K X.mg CW CE Cz) (sys : SysIn X.base) (quiet : Quiet X.A) (hr3 : ∀ (s : Shared), Room 1 (X.A.deeper (envOfC "_law_heard" (defScope s_heard) s.heap.objs.size g cdg))) : GivesK X n_heard "_law_heard" (defScope s_heard) g cdg (defBody s_heard) "_law_ask" (TTheard Cz) := by
  intro f Kn s H Q tl stay act hc h
  have hr := hr3 s
  refine ⟨_, (pss_cons (ps_asg (pe_tup (pa_cons pe_non (pa_cons pe_non pa_nil))) (pg_tup (by rfl) (pgs_cons (pg_name (i := 1) sc_heard.nd rfl (.inl rfl)) (pgs_cons (pg_name (i := 2) sc_heard.nd rfl (.inl rfl)) pgs_nil))))
      (pss_cons (ps_try_keep (X := (cxOf C8.CX0 X.prog X.w X.K X.mg X.base n_heard "_law_heard" (defScope s_heard) g cdg X.A X.stack s H C8.E0).nox) (c := .ref CE) (i := 3) (tb := fun W D σ H => ∃ Ech : XK, (∀ cls d σ' H', Ech cls d H' → W cls d σ' H') ∧ σ[0]? = some (some (.ref f)) ∧ Kn H ∧ tl Ech H (fun v H' => D.nx (σ.set 2 (some v)) H')) rfl rfl sc_heard.nd rfl rfl ⟨by rfl, by decide, .inl T.gE⟩ (fun W pn xe tk _ => ?_) (fun a pn => pss_one (ps_set (i := 1) sc_heard.nd rfl (.inl rfl) (pv 3))))
      (pss_cons (ps_if (pt_cmpR op_isN (pv 1) pe_non (nomark _))
        (pss_one (ps_ret (pe_lst (pa_cons (pv 2) pa_nil))))
        pss_nil)
      (pss_cons (ps_set (i := 4) sc_heard.nd rfl (.inl rfl) (pe_lst pa_nil))
      (pss_cons (ps_if (pt_val (pe_callB call_isK (by rfl) T.isinstance (by decide +kernel) (pa_cons (pv 1) (pa_cons (pe_gv T.gBadTable (by rfl)) pa_nil))))
        (pss_one (ps_expr (pe_bmK (K := X.K) rfl PySem.F.plainAttrs_list PySem.F.slot_list_append PySem.F.type_list_append mt_append (pv 4) (pa_cons (pe_tup (pa_cons pe_str (pa_cons (pe_callB (call_reprW sys quiet hr) (by rfl) T.repr (by decide +kernel) (pa_cons (pe_keptF (pv 1)) pa_nil)) pa_nil))) pa_nil))))
        pss_nil)
      (pss_cons (ps_if (pt_val (pe_callB call_isK (by rfl) T.isinstance (by decide +kernel) (pa_cons (pv 1) (pa_cons (pe_gv T.gBadLetter (by rfl)) pa_nil))))
        (pss_one (ps_expr (pe_bmK (K := X.K) rfl PySem.F.plainAttrs_list PySem.F.slot_list_append PySem.F.type_list_append mt_append (pv 4) (pa_cons (pe_tup (pa_cons pe_str (pa_cons (pe_callB (call_reprW sys quiet hr) (by rfl) T.repr (by decide +kernel) (pa_cons (pe_keptF (pv 1)) pa_nil)) pa_nil))) pa_nil))))
        pss_nil)
      (pss_cons (ps_if (pt_val (pe_callB call_isK (by rfl) T.isinstance (by decide +kernel) (pa_cons (pv 1) (pa_cons (pe_gv T.gBadCode (by rfl)) pa_nil))))
        (pss_one (ps_expr (pe_bmK (K := X.K) rfl PySem.F.plainAttrs_list PySem.F.slot_list_append PySem.F.type_list_append mt_append (pv 4) (pa_cons (pe_tup (pa_cons pe_str (pa_cons (pe_callB (call_reprW sys quiet hr) (by rfl) T.repr (by decide +kernel) (pa_cons (pe_keptF (pv 1)) pa_nil)) pa_nil))) pa_nil))))
        pss_nil)
      (pss_cons (ps_if (pt_val (pe_callB call_isK (by rfl) T.isinstance (by decide +kernel) (pa_cons (pv 1) (pa_cons (pe_gv T.gNoSign (by rfl)) pa_nil))))
        (pss_one (ps_expr (pe_bmK (K := X.K) rfl PySem.F.plainAttrs_list PySem.F.slot_list_append PySem.F.type_list_append mt_append (pv 4) (pa_cons (pe_tup (pa_cons pe_str (pa_cons (pe_callB (call_reprW sys quiet hr) (by rfl) T.repr (by decide +kernel) (pa_cons (pe_keptF (pv 1)) pa_nil)) pa_nil))) pa_nil))))
        pss_nil)
      (pss_cons (ps_if (pt_val (pe_callB call_isK (by rfl) T.isinstance (by decide +kernel) (pa_cons (pv 1) (pa_cons (pe_gv T.gBadWord (by rfl)) pa_nil))))
        (pss_one (ps_expr (pe_bmK (K := X.K) rfl PySem.F.plainAttrs_list PySem.F.slot_list_append PySem.F.type_list_append mt_append (pv 4) (pa_cons (pe_tup (pa_cons pe_str (pa_cons (pe_callB (call_reprW sys quiet hr) (by rfl) T.repr (by decide +kernel) (pa_cons (pe_keptF (pv 1)) pa_nil)) pa_nil))) pa_nil))))
        pss_nil)
      (pss_cons (ps_if (pt_val (pe_callB call_isK (by rfl) T.isinstance (by decide +kernel) (pa_cons (pv 1) (pa_cons (pe_gv T.gUnlike (by rfl)) pa_nil))))
        (pss_one (ps_expr (pe_bmK (K := X.K) rfl PySem.F.plainAttrs_list PySem.F.slot_list_append PySem.F.type_list_append mt_append (pv 4) (pa_cons (pe_tup (pa_cons pe_str (pa_cons (pe_callB (call_reprW sys quiet hr) (by rfl) T.repr (by decide +kernel) (pa_cons (pe_keptF (pv 1)) pa_nil)) pa_nil))) pa_nil))))
        pss_nil)
      (pss_one (ps_ret (pe_ifExp (PW.pt (pw_and (pt_cmpR op_eq (pe_callB (call_len_seqK (K := X.K) rfl) (by rfl) T.len (by decide +kernel) (pa_cons (pv 4) pa_nil)) pe_int (nomark _)) (pw_and1 (pt_val (pe_callB call_isK (by rfl) T.isinstance (by decide +kernel) (pa_cons (pv 1) (pa_cons (pe_bltn (v := .ty "ValueError") (by rfl) T.ValueError (by decide +kernel) rfl) pa_nil))))))) (pe_ix (ix_listK (K := X.K) rfl) (pv 4) pe_int (fun _ _ => rfl)) (pe_tup (pa_cons pe_str pa_nil))))))))))))))), ?_⟩
  · refine ⟨fun pins s' σ H' D I h' => ?_⟩
    obtain ⟨Ech, hW, h1, h2, h3⟩ := h'
    exact PSs.run (pss_one (ps_set (i := 2) sc_heard.nd rfl (.inl rfl) (act W pn xe Ech _ _ tk hW))) pins s' σ H' D I ⟨h1, h2, h3⟩
  · refine ⟨by show 2 ≤ sizeLine; decide, fun t0 n0 => ⟨t0, _, rfl, .inl (.inl upd_same), rfl, _, _, rfl, _, _, rfl, rfl, ?_⟩⟩
    have s0 : Same H (upd H t0 (.tup [.non, .non])) := same_put (s := Same.refl H) n0
    have hc1 := stay _ _ hc s0
    refine ⟨HearE Cz Q, ?_, rfl, hc1, h _ _ (fun v H' hv => ?_) s0⟩
    · rintro cls d σ' H' ⟨dd, rfl, hh⟩
      have kept : ∀ {C : Addr} {fs : List (Str × V)} {a : Addr}, H' a = none → H' dd = some (.xd fs) → ExcC X.K C → KeptX X.K (upd H' a (CaughtO (.ref C) (some dd) a)) a C fs := fun na hx cl =>
        ⟨⟨dd, upd_same, by rw [upd_ne (ne_of_none hx na)]; exact hx⟩, cl⟩
      obtain ⟨i, y, p, i4, rfl, py, tp, hx, hq⟩ := hh
      · refine ⟨T.eX i (by omega), fun len a na => ?_⟩
        obtain ⟨s0, s1, s2, s3, s4, rfl⟩ := five_of len
        have k := kept na hx (T.xc i (by omega))
        have sa := same_put (s := Same.refl H') (o := CaughtO (.ref (Cz i)) (some dd) a) na
        refine ⟨_, rfl, _, rfl, rfl, false, rfl, iteF ?_⟩
        refine ⟨Nat.zero_le _, fun l nl => ?_⟩
        have sl := same_put (s := sa) (o := .lst []) nl
        have kl := keptX_same k fun b o e _ => same_put (s := Same.refl _) (o := .lst []) nl b o e
        have pl := py.same sl
        have hl : upd (upd H' a (CaughtO (.ref (Cz i)) (some dd) a)) l (.lst []) l = some (.lst []) := upd_same
        have nl2 : H' l = none := same_none sa nl
        clear k
        generalize upd (upd H' a (CaughtO (.ref (Cz i)) (some dd) a)) l (.lst []) = H1 at sl kl pl hl ⊢
        rcases (by omega : i = 0 ∨ i = 1 ∨ i = 2 ∨ i = 3 ∨ i = 4 ∨ i = 5) with rfl | rfl | rfl | rfl | rfl | rfl
        · refine ⟨_, rfl, a, Cz 0, _, .ref (Cz 0), .ref (Cz 0), true, rfl, kl, fun u r => r, T.kit 0 0 (by decide) (by decide), true, rfl, iteT ?_⟩
          refine ⟨_, rfl, .inl ⟨rfl, _, SqL.of hl⟩, _, rfl, a, Cz 0, _, y, rfl, kl, T.no 0 (by decide), by simp [List.lookup, fldOf], y, p, rfl, pl, tp, by show 2 ≤ sizeLine; decide, fun l1 nl1 => ?_⟩
          have n1 : l ≠ l1 := ne_of_none hl nl1
          refine ⟨l, [], _, rfl, rfl, by rw [upd_ne n1]; exact hl, by show 0 < sizeLine; decide, ?_⟩
          have h2 : upd (upd H1 l1 (.tup [.str (wordOf 0), .str p.shown])) l (.lst [.ref l1]) l = some (.lst [.ref l1]) := upd_same
          have h3 : upd (upd H1 l1 (.tup [.str (wordOf 0), .str p.shown])) l (.lst [.ref l1]) l1 = some (.tup [.str (wordOf 0), .str p.shown]) := by
            rw [upd_ne (Ne.symm n1)]
            exact upd_same
          have k2 := keptX_same (H2 := upd (upd H1 l1 (.tup [.str (wordOf 0), .str p.shown])) l (.lst [.ref l1])) kl fun b o e nb => by
            rw [upd_ne (fun z => by rw [z, hl] at e; exact nb _ (Option.some.inj e).symm), upd_ne (ne_of_none e nl1)]
            exact e
          have sm2 : Same H' (upd (upd H1 l1 (.tup [.str (wordOf 0), .str p.shown])) l (.lst [.ref l1])) := fun b o e => by
            rw [upd_ne (ne_of_none e nl2), upd_ne (ne_of_none (sl _ _ e) nl1)]
            exact sl _ _ e
          show Ends.nx _ _ (upd (upd H1 l1 (.tup [.str (wordOf 0), .str p.shown])) l (.lst [.ref l1]))
          generalize upd (upd H1 l1 (.tup [.str (wordOf 0), .str p.shown])) l (.lst [.ref l1]) = H2 at h2 h3 k2 sm2 ⊢
          refine ⟨_, rfl, a, Cz 0, _, .ref (Cz 1), .ref (Cz 1), false, rfl, k2, fun u r => r, T.kit 0 1 (by decide) (by decide), false, rfl, iteF ?_⟩
          refine ⟨_, rfl, a, Cz 0, _, .ref (Cz 2), .ref (Cz 2), false, rfl, k2, fun u r => r, T.kit 0 2 (by decide) (by decide), false, rfl, iteF ?_⟩
          refine ⟨_, rfl, a, Cz 0, _, .ref (Cz 3), .ref (Cz 3), false, rfl, k2, fun u r => r, T.kit 0 3 (by decide) (by decide), false, rfl, iteF ?_⟩
          refine ⟨_, rfl, a, Cz 0, _, .ref (Cz 4), .ref (Cz 4), false, rfl, k2, fun u r => r, T.kit 0 4 (by decide) (by decide), false, rfl, iteF ?_⟩
          refine ⟨_, rfl, a, Cz 0, _, .ref (Cz 5), .ref (Cz 5), false, rfl, k2, fun u r => r, T.kit 0 5 (by decide) (by decide), false, rfl, iteF ?_⟩
          refine ⟨_, rfl, l, _, rfl, .inl (SqL.of h2), rfl, true, rfl, iteT ?_⟩
          refine ⟨_, rfl, a, Cz 0, _, .ty "ValueError", .type "ValueError", true, rfl, k2, fun u r => r, T.kV 0 (by decide), true, rfl, iteT ?_⟩
          exact ⟨_, rfl, l, _, 0, _, rfl, rfl, SqL.of h2, rfl, hq (.ref l1) H2 sm2 ⟨l1, rfl, h3⟩⟩
        · refine ⟨_, rfl, a, Cz 1, _, .ref (Cz 0), .ref (Cz 0), false, rfl, kl, fun u r => r, T.kit 1 0 (by decide) (by decide), false, rfl, iteF ?_⟩
          refine ⟨_, rfl, a, Cz 1, _, .ref (Cz 1), .ref (Cz 1), true, rfl, kl, fun u r => r, T.kit 1 1 (by decide) (by decide), true, rfl, iteT ?_⟩
          refine ⟨_, rfl, .inl ⟨rfl, _, SqL.of hl⟩, _, rfl, a, Cz 1, _, y, rfl, kl, T.no 1 (by decide), by simp [List.lookup, fldOf], y, p, rfl, pl, tp, by show 2 ≤ sizeLine; decide, fun l1 nl1 => ?_⟩
          have n1 : l ≠ l1 := ne_of_none hl nl1
          refine ⟨l, [], _, rfl, rfl, by rw [upd_ne n1]; exact hl, by show 0 < sizeLine; decide, ?_⟩
          have h2 : upd (upd H1 l1 (.tup [.str (wordOf 1), .str p.shown])) l (.lst [.ref l1]) l = some (.lst [.ref l1]) := upd_same
          have h3 : upd (upd H1 l1 (.tup [.str (wordOf 1), .str p.shown])) l (.lst [.ref l1]) l1 = some (.tup [.str (wordOf 1), .str p.shown]) := by
            rw [upd_ne (Ne.symm n1)]
            exact upd_same
          have k2 := keptX_same (H2 := upd (upd H1 l1 (.tup [.str (wordOf 1), .str p.shown])) l (.lst [.ref l1])) kl fun b o e nb => by
            rw [upd_ne (fun z => by rw [z, hl] at e; exact nb _ (Option.some.inj e).symm), upd_ne (ne_of_none e nl1)]
            exact e
          have sm2 : Same H' (upd (upd H1 l1 (.tup [.str (wordOf 1), .str p.shown])) l (.lst [.ref l1])) := fun b o e => by
            rw [upd_ne (ne_of_none e nl2), upd_ne (ne_of_none (sl _ _ e) nl1)]
            exact sl _ _ e
          show Ends.nx _ _ (upd (upd H1 l1 (.tup [.str (wordOf 1), .str p.shown])) l (.lst [.ref l1]))
          generalize upd (upd H1 l1 (.tup [.str (wordOf 1), .str p.shown])) l (.lst [.ref l1]) = H2 at h2 h3 k2 sm2 ⊢
          refine ⟨_, rfl, a, Cz 1, _, .ref (Cz 2), .ref (Cz 2), false, rfl, k2, fun u r => r, T.kit 1 2 (by decide) (by decide), false, rfl, iteF ?_⟩
          refine ⟨_, rfl, a, Cz 1, _, .ref (Cz 3), .ref (Cz 3), false, rfl, k2, fun u r => r, T.kit 1 3 (by decide) (by decide), false, rfl, iteF ?_⟩
          refine ⟨_, rfl, a, Cz 1, _, .ref (Cz 4), .ref (Cz 4), false, rfl, k2, fun u r => r, T.kit 1 4 (by decide) (by decide), false, rfl, iteF ?_⟩
          refine ⟨_, rfl, a, Cz 1, _, .ref (Cz 5), .ref (Cz 5), false, rfl, k2, fun u r => r, T.kit 1 5 (by decide) (by decide), false, rfl, iteF ?_⟩
          refine ⟨_, rfl, l, _, rfl, .inl (SqL.of h2), rfl, true, rfl, iteT ?_⟩
          refine ⟨_, rfl, a, Cz 1, _, .ty "ValueError", .type "ValueError", true, rfl, k2, fun u r => r, T.kV 1 (by decide), true, rfl, iteT ?_⟩
          exact ⟨_, rfl, l, _, 0, _, rfl, rfl, SqL.of h2, rfl, hq (.ref l1) H2 sm2 ⟨l1, rfl, h3⟩⟩
        · refine ⟨_, rfl, a, Cz 2, _, .ref (Cz 0), .ref (Cz 0), false, rfl, kl, fun u r => r, T.kit 2 0 (by decide) (by decide), false, rfl, iteF ?_⟩
          refine ⟨_, rfl, a, Cz 2, _, .ref (Cz 1), .ref (Cz 1), false, rfl, kl, fun u r => r, T.kit 2 1 (by decide) (by decide), false, rfl, iteF ?_⟩
          refine ⟨_, rfl, a, Cz 2, _, .ref (Cz 2), .ref (Cz 2), true, rfl, kl, fun u r => r, T.kit 2 2 (by decide) (by decide), true, rfl, iteT ?_⟩
          refine ⟨_, rfl, .inl ⟨rfl, _, SqL.of hl⟩, _, rfl, a, Cz 2, _, y, rfl, kl, T.no 2 (by decide), by simp [List.lookup, fldOf], y, p, rfl, pl, tp, by show 2 ≤ sizeLine; decide, fun l1 nl1 => ?_⟩
          have n1 : l ≠ l1 := ne_of_none hl nl1
          refine ⟨l, [], _, rfl, rfl, by rw [upd_ne n1]; exact hl, by show 0 < sizeLine; decide, ?_⟩
          have h2 : upd (upd H1 l1 (.tup [.str (wordOf 2), .str p.shown])) l (.lst [.ref l1]) l = some (.lst [.ref l1]) := upd_same
          have h3 : upd (upd H1 l1 (.tup [.str (wordOf 2), .str p.shown])) l (.lst [.ref l1]) l1 = some (.tup [.str (wordOf 2), .str p.shown]) := by
            rw [upd_ne (Ne.symm n1)]
            exact upd_same
          have k2 := keptX_same (H2 := upd (upd H1 l1 (.tup [.str (wordOf 2), .str p.shown])) l (.lst [.ref l1])) kl fun b o e nb => by
            rw [upd_ne (fun z => by rw [z, hl] at e; exact nb _ (Option.some.inj e).symm), upd_ne (ne_of_none e nl1)]
            exact e
          have sm2 : Same H' (upd (upd H1 l1 (.tup [.str (wordOf 2), .str p.shown])) l (.lst [.ref l1])) := fun b o e => by
            rw [upd_ne (ne_of_none e nl2), upd_ne (ne_of_none (sl _ _ e) nl1)]
            exact sl _ _ e
          show Ends.nx _ _ (upd (upd H1 l1 (.tup [.str (wordOf 2), .str p.shown])) l (.lst [.ref l1]))
          generalize upd (upd H1 l1 (.tup [.str (wordOf 2), .str p.shown])) l (.lst [.ref l1]) = H2 at h2 h3 k2 sm2 ⊢
          refine ⟨_, rfl, a, Cz 2, _, .ref (Cz 3), .ref (Cz 3), false, rfl, k2, fun u r => r, T.kit 2 3 (by decide) (by decide), false, rfl, iteF ?_⟩
          refine ⟨_, rfl, a, Cz 2, _, .ref (Cz 4), .ref (Cz 4), false, rfl, k2, fun u r => r, T.kit 2 4 (by decide) (by decide), false, rfl, iteF ?_⟩
          refine ⟨_, rfl, a, Cz 2, _, .ref (Cz 5), .ref (Cz 5), false, rfl, k2, fun u r => r, T.kit 2 5 (by decide) (by decide), false, rfl, iteF ?_⟩
          refine ⟨_, rfl, l, _, rfl, .inl (SqL.of h2), rfl, true, rfl, iteT ?_⟩
          refine ⟨_, rfl, a, Cz 2, _, .ty "ValueError", .type "ValueError", true, rfl, k2, fun u r => r, T.kV 2 (by decide), true, rfl, iteT ?_⟩
          exact ⟨_, rfl, l, _, 0, _, rfl, rfl, SqL.of h2, rfl, hq (.ref l1) H2 sm2 ⟨l1, rfl, h3⟩⟩
        · refine ⟨_, rfl, a, Cz 3, _, .ref (Cz 0), .ref (Cz 0), false, rfl, kl, fun u r => r, T.kit 3 0 (by decide) (by decide), false, rfl, iteF ?_⟩
          refine ⟨_, rfl, a, Cz 3, _, .ref (Cz 1), .ref (Cz 1), false, rfl, kl, fun u r => r, T.kit 3 1 (by decide) (by decide), false, rfl, iteF ?_⟩
          refine ⟨_, rfl, a, Cz 3, _, .ref (Cz 2), .ref (Cz 2), false, rfl, kl, fun u r => r, T.kit 3 2 (by decide) (by decide), false, rfl, iteF ?_⟩
          refine ⟨_, rfl, a, Cz 3, _, .ref (Cz 3), .ref (Cz 3), true, rfl, kl, fun u r => r, T.kit 3 3 (by decide) (by decide), true, rfl, iteT ?_⟩
          refine ⟨_, rfl, .inl ⟨rfl, _, SqL.of hl⟩, _, rfl, a, Cz 3, _, y, rfl, kl, T.no 3 (by decide), by simp [List.lookup, fldOf], y, p, rfl, pl, tp, by show 2 ≤ sizeLine; decide, fun l1 nl1 => ?_⟩
          have n1 : l ≠ l1 := ne_of_none hl nl1
          refine ⟨l, [], _, rfl, rfl, by rw [upd_ne n1]; exact hl, by show 0 < sizeLine; decide, ?_⟩
          have h2 : upd (upd H1 l1 (.tup [.str (wordOf 3), .str p.shown])) l (.lst [.ref l1]) l = some (.lst [.ref l1]) := upd_same
          have h3 : upd (upd H1 l1 (.tup [.str (wordOf 3), .str p.shown])) l (.lst [.ref l1]) l1 = some (.tup [.str (wordOf 3), .str p.shown]) := by
            rw [upd_ne (Ne.symm n1)]
            exact upd_same
          have k2 := keptX_same (H2 := upd (upd H1 l1 (.tup [.str (wordOf 3), .str p.shown])) l (.lst [.ref l1])) kl fun b o e nb => by
            rw [upd_ne (fun z => by rw [z, hl] at e; exact nb _ (Option.some.inj e).symm), upd_ne (ne_of_none e nl1)]
            exact e
          have sm2 : Same H' (upd (upd H1 l1 (.tup [.str (wordOf 3), .str p.shown])) l (.lst [.ref l1])) := fun b o e => by
            rw [upd_ne (ne_of_none e nl2), upd_ne (ne_of_none (sl _ _ e) nl1)]
            exact sl _ _ e
          show Ends.nx _ _ (upd (upd H1 l1 (.tup [.str (wordOf 3), .str p.shown])) l (.lst [.ref l1]))
          generalize upd (upd H1 l1 (.tup [.str (wordOf 3), .str p.shown])) l (.lst [.ref l1]) = H2 at h2 h3 k2 sm2 ⊢
          refine ⟨_, rfl, a, Cz 3, _, .ref (Cz 4), .ref (Cz 4), false, rfl, k2, fun u r => r, T.kit 3 4 (by decide) (by decide), false, rfl, iteF ?_⟩
          refine ⟨_, rfl, a, Cz 3, _, .ref (Cz 5), .ref (Cz 5), false, rfl, k2, fun u r => r, T.kit 3 5 (by decide) (by decide), false, rfl, iteF ?_⟩
          refine ⟨_, rfl, l, _, rfl, .inl (SqL.of h2), rfl, true, rfl, iteT ?_⟩
          refine ⟨_, rfl, a, Cz 3, _, .ty "ValueError", .type "ValueError", true, rfl, k2, fun u r => r, T.kV 3 (by decide), true, rfl, iteT ?_⟩
          exact ⟨_, rfl, l, _, 0, _, rfl, rfl, SqL.of h2, rfl, hq (.ref l1) H2 sm2 ⟨l1, rfl, h3⟩⟩
        · refine ⟨_, rfl, a, Cz 4, _, .ref (Cz 0), .ref (Cz 0), false, rfl, kl, fun u r => r, T.kit 4 0 (by decide) (by decide), false, rfl, iteF ?_⟩
          refine ⟨_, rfl, a, Cz 4, _, .ref (Cz 1), .ref (Cz 1), false, rfl, kl, fun u r => r, T.kit 4 1 (by decide) (by decide), false, rfl, iteF ?_⟩
          refine ⟨_, rfl, a, Cz 4, _, .ref (Cz 2), .ref (Cz 2), false, rfl, kl, fun u r => r, T.kit 4 2 (by decide) (by decide), false, rfl, iteF ?_⟩
          refine ⟨_, rfl, a, Cz 4, _, .ref (Cz 3), .ref (Cz 3), false, rfl, kl, fun u r => r, T.kit 4 3 (by decide) (by decide), false, rfl, iteF ?_⟩
          refine ⟨_, rfl, a, Cz 4, _, .ref (Cz 4), .ref (Cz 4), true, rfl, kl, fun u r => r, T.kit 4 4 (by decide) (by decide), true, rfl, iteT ?_⟩
          refine ⟨_, rfl, .inl ⟨rfl, _, SqL.of hl⟩, _, rfl, a, Cz 4, _, y, rfl, kl, T.no 4 (by decide), by simp [List.lookup, fldOf], y, p, rfl, pl, tp, by show 2 ≤ sizeLine; decide, fun l1 nl1 => ?_⟩
          have n1 : l ≠ l1 := ne_of_none hl nl1
          refine ⟨l, [], _, rfl, rfl, by rw [upd_ne n1]; exact hl, by show 0 < sizeLine; decide, ?_⟩
          have h2 : upd (upd H1 l1 (.tup [.str (wordOf 4), .str p.shown])) l (.lst [.ref l1]) l = some (.lst [.ref l1]) := upd_same
          have h3 : upd (upd H1 l1 (.tup [.str (wordOf 4), .str p.shown])) l (.lst [.ref l1]) l1 = some (.tup [.str (wordOf 4), .str p.shown]) := by
            rw [upd_ne (Ne.symm n1)]
            exact upd_same
          have k2 := keptX_same (H2 := upd (upd H1 l1 (.tup [.str (wordOf 4), .str p.shown])) l (.lst [.ref l1])) kl fun b o e nb => by
            rw [upd_ne (fun z => by rw [z, hl] at e; exact nb _ (Option.some.inj e).symm), upd_ne (ne_of_none e nl1)]
            exact e
          have sm2 : Same H' (upd (upd H1 l1 (.tup [.str (wordOf 4), .str p.shown])) l (.lst [.ref l1])) := fun b o e => by
            rw [upd_ne (ne_of_none e nl2), upd_ne (ne_of_none (sl _ _ e) nl1)]
            exact sl _ _ e
          show Ends.nx _ _ (upd (upd H1 l1 (.tup [.str (wordOf 4), .str p.shown])) l (.lst [.ref l1]))
          generalize upd (upd H1 l1 (.tup [.str (wordOf 4), .str p.shown])) l (.lst [.ref l1]) = H2 at h2 h3 k2 sm2 ⊢
          refine ⟨_, rfl, a, Cz 4, _, .ref (Cz 5), .ref (Cz 5), false, rfl, k2, fun u r => r, T.kit 4 5 (by decide) (by decide), false, rfl, iteF ?_⟩
          refine ⟨_, rfl, l, _, rfl, .inl (SqL.of h2), rfl, true, rfl, iteT ?_⟩
          refine ⟨_, rfl, a, Cz 4, _, .ty "ValueError", .type "ValueError", true, rfl, k2, fun u r => r, T.kV 4 (by decide), true, rfl, iteT ?_⟩
          exact ⟨_, rfl, l, _, 0, _, rfl, rfl, SqL.of h2, rfl, hq (.ref l1) H2 sm2 ⟨l1, rfl, h3⟩⟩
        · refine ⟨_, rfl, a, Cz 5, _, .ref (Cz 0), .ref (Cz 0), false, rfl, kl, fun u r => r, T.kit 5 0 (by decide) (by decide), false, rfl, iteF ?_⟩
          refine ⟨_, rfl, a, Cz 5, _, .ref (Cz 1), .ref (Cz 1), false, rfl, kl, fun u r => r, T.kit 5 1 (by decide) (by decide), false, rfl, iteF ?_⟩
          refine ⟨_, rfl, a, Cz 5, _, .ref (Cz 2), .ref (Cz 2), false, rfl, kl, fun u r => r, T.kit 5 2 (by decide) (by decide), false, rfl, iteF ?_⟩
          refine ⟨_, rfl, a, Cz 5, _, .ref (Cz 3), .ref (Cz 3), false, rfl, kl, fun u r => r, T.kit 5 3 (by decide) (by decide), false, rfl, iteF ?_⟩
          refine ⟨_, rfl, a, Cz 5, _, .ref (Cz 4), .ref (Cz 4), false, rfl, kl, fun u r => r, T.kit 5 4 (by decide) (by decide), false, rfl, iteF ?_⟩
          refine ⟨_, rfl, a, Cz 5, _, .ref (Cz 5), .ref (Cz 5), true, rfl, kl, fun u r => r, T.kit 5 5 (by decide) (by decide), true, rfl, iteT ?_⟩
          refine ⟨_, rfl, .inl ⟨rfl, _, SqL.of hl⟩, _, rfl, a, Cz 5, _, y, rfl, kl, T.no 5 (by decide), by simp [List.lookup, fldOf], y, p, rfl, pl, tp, by show 2 ≤ sizeLine; decide, fun l1 nl1 => ?_⟩
          have n1 : l ≠ l1 := ne_of_none hl nl1
          refine ⟨l, [], _, rfl, rfl, by rw [upd_ne n1]; exact hl, by show 0 < sizeLine; decide, ?_⟩
          have h2 : upd (upd H1 l1 (.tup [.str (wordOf 5), .str p.shown])) l (.lst [.ref l1]) l = some (.lst [.ref l1]) := upd_same
          have h3 : upd (upd H1 l1 (.tup [.str (wordOf 5), .str p.shown])) l (.lst [.ref l1]) l1 = some (.tup [.str (wordOf 5), .str p.shown]) := by
            rw [upd_ne (Ne.symm n1)]
            exact upd_same
          have k2 := keptX_same (H2 := upd (upd H1 l1 (.tup [.str (wordOf 5), .str p.shown])) l (.lst [.ref l1])) kl fun b o e nb => by
            rw [upd_ne (fun z => by rw [z, hl] at e; exact nb _ (Option.some.inj e).symm), upd_ne (ne_of_none e nl1)]
            exact e
          have sm2 : Same H' (upd (upd H1 l1 (.tup [.str (wordOf 5), .str p.shown])) l (.lst [.ref l1])) := fun b o e => by
            rw [upd_ne (ne_of_none e nl2), upd_ne (ne_of_none (sl _ _ e) nl1)]
            exact sl _ _ e
          show Ends.nx _ _ (upd (upd H1 l1 (.tup [.str (wordOf 5), .str p.shown])) l (.lst [.ref l1]))
          generalize upd (upd H1 l1 (.tup [.str (wordOf 5), .str p.shown])) l (.lst [.ref l1]) = H2 at h2 h3 k2 sm2 ⊢
          refine ⟨_, rfl, l, _, rfl, .inl (SqL.of h2), rfl, true, rfl, iteT ?_⟩
          refine ⟨_, rfl, a, Cz 5, _, .ty "ValueError", .type "ValueError", true, rfl, k2, fun u r => r, T.kV 5 (by decide), true, rfl, iteT ?_⟩
          exact ⟨_, rfl, l, _, 0, _, rfl, rfl, SqL.of h2, rfl, hq (.ref l1) H2 sm2 ⟨l1, rfl, h3⟩⟩
    · refine ⟨_, rfl, rfl, true, rfl, iteT ?_⟩
      exact ⟨_, rfl, by show 1 ≤ sizeLine; decide, fun l nl => hv l _ (same_put (s := Same.refl H') nl) nl upd_same⟩
/-- a def whose code object is known -/
structure FunC (K : PySem.W.Frag) (x qual : Str) (st : Stmt) (f c : Addr) (fd : FuncData) : Prop where
  ex : ∃ (oc : Value) (od : Option Addr) (kV doc pm : Value) (an : Option Addr) (ct : Value) (osl : Array (Option Value)), fd = PySem.W.fnOf x qual (defArgs st) (defBody st) (defScope st) .none kV doc pm an (.ref c) ct ∧ K.lookup f = some ⟨oc, od, .func fd, osl⟩ ∧ PySem.W.codeIn K (.ref c) qual = true
section
variable {P : Program} {w : World} {K : PySem.W.Frag} {mg : Str → Option Value} {base : Heap}
theorem FunC.ok {x qual : Str} {st : Stmt} {f c : Addr} {fd : FuncData} {N ps : List Str} {k : Nat} {sp : Sp} (F : FunC K x qual st f c fd) (S : FnScope N ps (defScope st)) (len : ∀ vs H Q E, sp vs H Q E → vs.length = ps.length)
    (body : ∀ (A : Around) (outer : List Env) (s : Shared) (H : Hp) (vs : List V) (Q : VK) (E : XK), Room k (A.deeper (envOfC qual (defScope st) s.heap.objs.size f (.ref c))) → sp vs H Q E →
      ∃ t, PSs (cxOf CX0 P w K mg base N qual (defScope st) f (.ref c) A outer s H E).nox (defBody st) t ∧ t { nx := fun _ H' => Q .non H', rt := Q } (L2.start N vs) H) : FnOk P w K mg base CX0 (k + 1) f fd ps sp := by
  obtain ⟨oc, od, kV, doc, pm, an, ct, osl, e, look, ci⟩ := F.ex
  subst e
  exact fn_of look ci S len fun A outer s H vs Q E room h => (body A outer s H vs Q E room h).imp fun t z => ⟨z.1.nox, z.2⟩
end
/-- what hears, by its name -/
structure HearD (K : PySem.W.Frag) (mg : Str → Option Value) (g : Addr) : Prop where
  hm : mg "_law_heard" = some (.ref g)
  kp : PySem.W.keepIn K (.ref g) = true
  lk : ∃ (oc : Value) (od : Option Addr) (kV doc pm : Value) (an : Option Addr) (cdv ct : Value) (osl : Array (Option Value)), K.lookup g = some ⟨oc, od, .func (PySem.W.fnOf "_law_heard" "_law_heard" (defArgs s_heard) (defBody s_heard) (defScope s_heard) .none kV doc pm an cdv ct), osl⟩ ∧ PySem.W.codeIn K cdv "_law_heard" = true
/-- the tables of code objects of those that make lambdas -/
structure TabT (base : Heap) (mg : Str → Option Value) (T : List (Addr × Str)) (q : Str) (c P : Addr) : Prop where
  tb : TabB base mg c P
  mem : (P, q ++ "<lambda>") ∈ T
  one : ∀ p ∈ T, p.1 = P → p.2 = q ++ "<lambda>"
section
variable {X : Cx} {CW CE g c P : Addr} {Cz : Nat → Addr} {T : List (Addr × Str)} {j k : Nat} {params : Arguments} {body : Expr} {scope : Scope} {t : XK → TE} {p lpos pos : Pos} {qn : Str}
/-- what is heard of a lambda written where it is handed on -/
theorem pe_heardG (th : Tc X.K X.mg CW CE Cz) (D : HearD X.K X.mg g) (TB : TabT X.base X.mg T qn c P) (sys : SysIn X.base) (quiet : Quiet X.A) (hr : Room j X.A) (hj : k + 3 ≤ j) (hcode : X.env.code = .ref c) (hq : X.env.qual = qn) (hg : Gl X "_law_heard") (L : LamS X.env.scope scope) (hdef : defaultsOf params X.env = ([], []))
    (hbind : ∀ (q : Str) (cl : List (Str × Addr)) (pm cv ctv : Value), bindArgs (PySem.W.kla_fn "<lambda>" q params body scope cl pm cv ctv) ⟨[], []⟩ = pure [])
    (hbody : ∀ (A : Around) (outer : List Env) (s : Shared) (H : Hp) (E : XK) (f c' : Addr), Quiet A → Room k (A.deeper (lamEnv X scope s.heap.objs.size f c')) → PE (lamCx X A outer s H E scope f c') body (t E)) :
    PE X (.Call (.Name "_law_heard" p) [.Lambda params body scope lpos] [] pos) (tLamG T (TTheard Cz) t) := by
  obtain ⟨oc, od, kV, doc, pm, an, cdv, ct, osl, look, ci⟩ := D.lk
  refine pe_lamcallG (k := k) (Ng := n_heard) (a := "_law_ask") quiet hg D.hm D.kp look ci ?_ sc_heard rfl (.inl rfl) (heard_givesG th sys quiet fun s => ?_) TB.tb hcode (by rw [hq]; exact TB.mem) (by rw [hq]; exact TB.one) (hr.mono (by omega)) hdef ⟨L, hbind, hbody⟩
  · exact .all fun us hl => match us, hl with | [_], _ => rfl
  · exact (hr.mono (show 2 ≤ j by omega)).deeper _
end
end V8

set_option Elab.async false
set_option linter.all false
set_option maxRecDepth 100000
set_option maxHeartbeats 8000000
set_option pp.maxSteps 2000
/-! What is heard, as the law hears it; what stays of a heap; things held. -/
namespace V8
open PySem PySem.Spec PyProof.Rows L2 MX SetT LamX PySem.Builtin.Str
theorem nice_text {z : Str} (h : (PyData.str z).shown.length ≤ 3000) (h2 : PyData.strOk (PyData.str z).shown = true) (h3 : z.length ≤ 2500) (h4 : ∀ c ∈ z.cps.toList, c < 128) : NiceD (.str z) := ⟨⟨by simp [PyData.showable], by simp [PyData.depth], by omega⟩, h, by simp [PyData.depth], h2, fun z e => by
  cases e
  exact ⟨h3, h4⟩⟩
theorem strOk_lt {z : Str} (h : ∀ c ∈ z.cps.toList, c < 128) : PyData.strOk z = true := by
  unfold PyData.strOk
  rw [← Array.all_toList, List.all_eq_true]
  intro c hc
  have := h c hc
  exact decide_eq_true (by omega)
theorem shaped_of {d : PyData} (h : d.canLay0 = true) (h2 : d.depth ≤ 64) : SeqAt.shaped d = true := by
  show (d.canLay0 && decide (d.depth ≤ 64)) = true
  rw [h, decide_eq_true h2]
  rfl
def okZ (z : Str) : Bool := decide ((PyData.str z).shown.length ≤ 3000) && PyData.strOk (PyData.str z).shown && decide (z.length ≤ 2500) && z.cps.toList.all fun c => decide (c < 128)
theorem nice_okZ {z : Str} (h : okZ z = true) : NiceD (.str z) := by
  unfold okZ at h
  rw [Bool.and_eq_true, Bool.and_eq_true, Bool.and_eq_true, decide_eq_true_iff, decide_eq_true_iff] at h
  exact nice_text h.1.1.1 h.1.1.2 h.1.2 fun c hc => of_decide_eq_true (List.all_eq_true.mp h.2 c hc)
theorem nice_non : NiceD .none := ⟨⟨by simp [PyData.showable], by simp [PyData.depth], by decide +kernel⟩, by decide +kernel, by simp [PyData.depth], by decide +kernel, fun z e => nomatch e⟩
theorem fold_app (a : Array Nat) : ∀ (k : Nat) (acc : Array Nat), (List.replicate k a).foldl (fun x y => x ++ y) acc = acc ++ ((List.replicate k a.toList).flatten).toArray
  | 0, acc => by simp
  | k + 1, acc => by
    rw [List.replicate_succ, List.foldl_cons, fold_app a k]
    apply Array.toList_inj.mp
    simp [List.replicate_succ, List.append_assoc]
theorem mul_Sx (s : List Nat) (k : Nat) (h : 2 ≤ k) (hs : s ≠ []) : Txt.mul (Sx s) ((k : Nat) : Int) = Sx (List.replicate k s).flatten := by
  have hl : (Sx s).length ≠ 0 := by
    rw [Sx_len]
    exact fun z => hs (List.length_eq_zero_iff.mp z)
  unfold Txt.mul
  rw [if_neg (by omega), if_neg (by
    rw [Bool.or_eq_true, beq_iff_eq, beq_iff_eq]
    rintro (z | z)
    · omega
    · exact hl z)]
  have e : ((k : Nat) : Int).toNat = k := Int.toNat_natCast k
  rw [e, fold_app]
  show (⟨#[] ++ ((List.replicate k s.toArray.toList).flatten).toArray⟩ : Str) = ⟨_⟩
  congr 1
  simp
theorem flat_one (k c : Nat) : (List.replicate k [c]).flatten = List.replicate k c := by
  induction k with
  | zero => rfl
  | succ k ih => rw [List.replicate_succ, List.flatten_cons, ih, List.replicate_succ]; rfl
/-- all but the pen and the tables stays -/
def Mv (p : Addr) (H H' : Hp) : Prop := ∀ b o, H b = some o → b ≠ p → (∀ ps, o ≠ .tbl ps) → H' b = some o
theorem Mv.refl {p : Addr} {H : Hp} : Mv p H H := fun _ _ e _ _ => e
theorem Mv.trans {p : Addr} {H H1 H2 : Hp} (a : Mv p H H1) (b : Mv p H1 H2) : Mv p H H2 := fun c o e n t => b c o (a c o e n t) n t
theorem Mv.ofFr {p : Addr} {H H' : Hp} (f : Fr p H H') : Mv p H H' := fun b o e n _ => f b o e n
theorem Mv.ofExt {p : Addr} {H H' : Hp} (f : ExtN H H') : Mv p H H' := fun b o e _ t => f b o e t
theorem Mv.ofSame {p : Addr} {H H' : Hp} (f : Same H H') : Mv p H H' := fun b o e _ _ => f b o e
/-- where the pen is -/
def PenL (H : Hp) (p : Addr) : Prop := ∃ xs, H p = some (.lst xs)
theorem Mv.at {p b : Addr} {H H' : Hp} {o : HO} (m : Mv p H H') (P : PenL H p) (e : H b = some o) (l : ∀ xs, o ≠ .lst xs) (t : ∀ ps, o ≠ .tbl ps) : H' b = some o := m _ _ e (fun z => by
  obtain ⟨xs, h⟩ := P
  rw [z, h] at e
  exact l xs (Option.some.inj e).symm) t
theorem PenAt.pl {H : Hp} {p l : Addr} {ns : List Int} {n : Nat} (P : PenAt H p l ns n) : PenL H p := P.pen
theorem tabs_fr {T : List (Addr × Str)} {p : Addr} {H H' : Hp} (t : Tabs T H) (P : PenL H p) (e : Fr p H H') : Tabs T H' := fun q hq => by
  obtain ⟨ps, h1, h2, h3⟩ := t q hq
  obtain ⟨xs, hp⟩ := P
  have off : ∀ {b : Addr} {o : HO}, H b = some o → (∀ ys, o ≠ .lst ys) → H' b = some o := fun {b o} e1 n => e b o e1 fun z => by
    rw [z, hp] at e1
    exact n _ (Option.some.inj e1).symm
  refine ⟨ps, off h1 (fun _ z => nomatch z), h2, fun pos cv hc => ?_⟩
  obtain ⟨c, e1, e2⟩ := h3 pos cv hc
  exact ⟨c, e1, off e2 (fun _ z => nomatch z)⟩
theorem pen_ext {H H' : Hp} {p l : Addr} {ns : List Int} {n : Nat} (P : PenAt H p l ns n) (s : ExtN H H') : PenAt H' p l ns n := by
  obtain ⟨⟨a, g, h1, h2, h3, h4⟩, i, e, sh⟩ := P
  exact ⟨⟨a, g, s _ _ h1 (fun _ z => nomatch z), h2, h3, h4⟩, s _ _ i (fun _ z => nomatch z), e, sh⟩
section
variable {P : Program} {w : World} {K : PySem.W.Frag} {mg : Str → Option Value} {base : Heap}
theorem FunC.okG {x qual : Str} {st : Stmt} {f c : Addr} {fd : FuncData} {N ps : List Str} {k : Nat} {sp : Sp} (F : FunC K x qual st f c fd) (S : FnScope N ps (defScope st)) (count : ∀ (xs : List V) (H : Hp) (Q : VK) (E : XK), sp xs H Q E → xs.length = ps.length)
    (body : ∀ (A : Around) (outer : List Env) (s : Shared) (H : Hp) (xs : List V) (Q : VK) (E : XK), Quiet A → Room k (A.deeper (envOfC qual (defScope st) s.heap.objs.size f (.ref c))) → sp xs H Q E →
      ∃ t, PSs (cxOf CX0 P w K mg base N qual (defScope st) f (.ref c) A outer s H E).nox (defBody st) t ∧ t { nx := fun _ H2 => Q .non H2, rt := Q } (L2.start N xs) H) : FnG P w K mg base CX0 (k + 1) f fd ps sp := by
  obtain ⟨oc, od, kV, doc, pm, an, ct, osl, e, look, ci⟩ := F.ex
  subst e
  refine ⟨count, fun A outer s H args us xs Q E g r e0 b v h => LamX.run_ofS look ci S r e0 b v (count _ _ _ _ h) fun r2 => ?_⟩
  obtain ⟨t, h1, h2⟩ := body A outer s H xs Q E g r2 h
  exact ⟨t, h1.nox, h2⟩
end
theorem eq_same {K : PySem.W.Frag} {H : Hp} {Q : VK} {x y : V} {d : PyData} (hx : Dp K H x d) (hy : Dp K H y d) (sh : SeqAt.shaped d = true) (q : Q (.bl true) H) : rEqD K x y H Q := by
  refine ⟨d, d, hx, hy, sh, sh, ?_⟩
  rw [SeqAt.eqv_refl d (SeqAt.canLay_of_shaped sh)]
  exact q
theorem neD_same {K : PySem.W.Frag} {H : Hp} {Q : VK} {x y : V} {d : PyData} (hx : Dp K H x d) (hy : Dp K H y d) (sh : SeqAt.shaped d = true) (q : Q (.bl false) H) : rNeD K x y H Q := by
  refine ⟨d, d, hx, hy, sh, sh, ?_⟩
  rw [SeqAt.eqv_refl d (SeqAt.canLay_of_shaped sh)]
  exact q
theorem held_shape {H : Hp} {a : Addr} {d : PyData} (h : Held H (.ref a) d) : ∃ o, H a = some o ∧ (∀ ps, o ≠ .tbl ps) := by
  rcases h.tl with f | ⟨b, xs, e, hb, l, g⟩ | ⟨b, kvs, e, hb, l, n, g⟩
  · rcases f with ⟨z, e⟩ | ⟨i, e⟩ | e | ⟨b, e⟩ <;> cases e
  · cases e
    rcases hb with hb | hb
    · exact ⟨_, hb, fun _ z => nomatch z⟩
    · exact ⟨_, hb, fun _ z => nomatch z⟩
  · cases e
    exact ⟨_, hb, fun _ z => nomatch z⟩
theorem held_mv {p : Addr} {H H2 : Hp} {x : V} {d : PyData} (h : Held H x d) (np : ∀ a, x = .ref a → a ≠ p) (m : Mv p H H2) : Held H2 x d := held_move h fun b o e hb => by
  subst e
  obtain ⟨o2, e2, n2⟩ := held_shape h
  rw [hb] at e2
  cases e2
  exact m _ _ hb (np b rfl) n2
theorem grow_mv {H : Hp} {b : Addr} {o : HO} : Mv b H (upd H b o) := fun c u e nc _ => by
  rw [upd_ne nc]
  exact e
theorem nice_bool (b : Bool) : NiceD (.bool b) := by
  cases b
  · exact ⟨⟨by simp [PyData.showable], by simp [PyData.depth], by decide +kernel⟩, by decide +kernel, by simp [PyData.depth], by decide +kernel, fun z e => nomatch e⟩
  · exact ⟨⟨by simp [PyData.showable], by simp [PyData.depth], by decide +kernel⟩, by decide +kernel, by simp [PyData.depth], by decide +kernel, fun z e => nomatch e⟩
theorem nice_dict : NiceD (.dict []) := ⟨⟨by decide +kernel, by decide +kernel, by decide +kernel⟩, by decide +kernel, by decide +kernel, by decide +kernel, fun z e => nomatch e⟩
theorem held_non {H : Hp} : Held H .non .none := ⟨.inl (.inr (.inr (.inl rfl))), .non, nice_non⟩
theorem held_int {H : Hp} {i : Int} (n : NiceD (.int i)) : Held H (.int i) (.int i) := ⟨.inl (.inr (.inl ⟨i, rfl⟩)), .int i, n⟩
theorem held_bl {H : Hp} (b : Bool) : Held H (.bl b) (.bool b) := ⟨.inl (.inr (.inr (.inr ⟨b, rfl⟩))), .bl b, nice_bool b⟩
theorem held_dict {H : Hp} {t : Addr} (h : H t = some (.dK [])) : Held H (.ref t) (.dict []) := ⟨.inr (.inr ⟨t, [], rfl, h, by decide, List.nodup_nil, fun y hy => absurd hy List.not_mem_nil⟩), .dic (ds := []) h .nil, nice_dict⟩
theorem np_flat {p : Addr} {v : V} (h : ∀ a, v ≠ .ref a) : ∀ a, v = .ref a → a ≠ p := fun a e => absurd e (h a)
theorem np_ref {p t : Addr} (h : t ≠ p) : ∀ a, V.ref t = .ref a → a ≠ p := fun a e => by
  cases e
  exact h
def BadOk : Bad → Prop
  | .one i d => i < 6 ∧ NiceD d
theorem out_hear {Cz : Nat → Addr} {H : Hp} {b : Bad} {Q : VK} (nb : BadOk b) (k : ∀ v H2, Same H H2 → HrB H2 v b → Q v H2) : OutB Cz H b (HearE Cz Q) := by
  cases b with
  | one i d => exact fun dd y H2 s p e => ⟨dd, rfl, i, y, d, nb.1, rfl, p, nb.2.te, e, fun v H3 s3 hv => k v H3 (fun b o z => s3 _ _ (s _ _ z)) hv⟩
/-- what is heard: words of an error, or a list of what is returned -/
def HrO (P : V → Hp → Prop) (H : Hp) (v : V) : Option Bad → Prop
  | some b => HrB H v b
  | none => ∃ l x, v = .ref l ∧ H l = some (.lst [x]) ∧ P x H
/-- what is heard of a lambda, by what it does -/
theorem heard_end {TL : List (Addr × Str)} {Cz : Nat → Addr} {t : XK → TE} {σ : L2.St} {H : Hp} {Q : VK} (o : Option Bad) (P : V → Hp → Prop) (tb : Tabs TL H)
    (body : ∀ (H1 : Hp) (E : XK) (R : VK), ExtN H H1 → Tabs TL H1 → (∀ b, BadOk b → o = some b → OutB Cz H1 b E) → (o = none → ∀ x H2, Same H1 H2 → (∀ H3, Same H2 H3 → P x H3) → R x H2) → t E σ H1 R) (q : ∀ v H2, ExtN H H2 → Tabs TL H2 → HrO P H2 v o → Q v H2) : tLamG TL (TTheard Cz) t σ H Q := by
  refine ⟨tb, fun H1 e1 tb1 R H2 hR s2 => body H2 _ R (e1.trans (ExtN.of s2)) (tb1.ext s2) (fun b nb eo => ?_) (fun eo v H3 s3 hP => hR v H3 fun l H4 s4 nl hl => ?_)⟩
  · exact out_hear nb fun v H3 s3 hv => q v H3 ((e1.trans (ExtN.of s2)).trans (ExtN.of s3)) ((tb1.ext s2).ext s3) (eo ▸ hv)
  · refine q (.ref l) H4 (((e1.trans (ExtN.of s2)).trans (ExtN.of s3)).trans (ExtN.of s4)) (((tb1.ext s2).ext s3).ext s4) ?_
    rw [eo]
    exact ⟨l, v, rfl, hl, hP H4 s4⟩
end V8

set_option Elab.async false
set_option linter.all false
set_option maxRecDepth 100000
set_option maxHeartbeats 8000000
/-! Lists that are short when told. -/
namespace V8
open PySem PySem.Spec PyProof.Rows L2 MX SetT LamX
theorem from_le (B : Nat) : ∀ (ts : List Str) (k : Nat) (acc : Str), (∀ t ∈ ts, t.length ≤ B) → (textFrom k acc ts).length ≤ acc.length + ts.length * (B + 2)
  | [], k, acc, _ => by
    show acc.length ≤ acc.length + 0 * _
    omega
  | t :: r, k, acc, h => by
    have ih := from_le B r (k + 1) (acc ++ (if k > 0 then ", " else "" : String) ++ t) fun x hx => h x (List.mem_cons_of_mem _ hx)
    have ht := h t List.mem_cons_self
    have hc : ((if k > 0 then ", " else "" : String) : Str).length ≤ 2 := by
      by_cases z : k > 0
      · rw [if_pos z]
        decide +kernel
      · rw [if_neg z]
        decide +kernel
    rw [strLen_append, strLen_append] at ih
    show (textFrom (k + 1) _ r).length ≤ _
    rw [List.length_cons, Nat.succ_mul]
    omega
theorem shown_all (ds : List PyData) : PyData.shownAll ds = ds.map PyData.shown := by
  induction ds with
  | nil => simp [PyData.shownAll]
  | cons d r ih => simp [PyData.shownAll, ih]
theorem show_all {ds : List PyData} (h : ∀ d ∈ ds, d.showable = true) : PyData.showableAll ds = true := by
  induction ds with
  | nil => simp [PyData.showableAll]
  | cons d r ih => simp [PyData.showableAll, h d List.mem_cons_self, ih fun x hx => h x (List.mem_cons_of_mem _ hx)]
theorem dep_all {ds : List PyData} {n : Nat} (h : ∀ d ∈ ds, d.depth ≤ n) : PyData.depthAll ds ≤ n + 1 := by
  induction ds with
  | nil => simp [PyData.depthAll]
  | cons d r ih =>
    have h1 := h d List.mem_cons_self
    have h2 := ih fun x hx => h x (List.mem_cons_of_mem _ hx)
    simp only [PyData.depthAll]
    omega
theorem tells_list {ds : List PyData} (B : Nat) (h : ∀ d ∈ ds, d.showable = true ∧ d.depth ≤ 2 ∧ d.shown.length ≤ B) (h2 : ds.length * (B + 2) + 2 ≤ 8000000) : Tells (.list ds) := by
  refine ⟨?_, ?_, ?_⟩
  · simp only [PyData.showable]
    exact show_all fun d hd => (h d hd).1
  · simp only [PyData.depth]
    have := dep_all fun d hd => (h d hd).2.1
    omega
  · simp only [PyData.shown]
    unfold listText
    rw [strLen_append, shown_all]
    have := from_le B (ds.map PyData.shown) 0 "[" fun t ht => by
      obtain ⟨d, hd, rfl⟩ := List.mem_map.mp ht
      exact (h d hd).2.2
    rw [List.length_map] at this
    have e1 : ("[" : Str).length = 1 := by decide +kernel
    have e2 : ("]" : Str).length = 1 := by decide +kernel
    omega
end V8

set_option Elab.async false
set_option linter.all false
set_option maxRecDepth 100000
set_option maxHeartbeats 16000000
set_option pp.maxSteps 1500
/-! What a table tells. -/
namespace V8
open PySem PySem.Spec PyProof.Rows L2 MX SetT LamX ItX
abbrev s__law_tells : Stmt := topS 34
abbrev n__law_tells : List Str := ["_law_table", "_law_codes_so", "_law_due", "_law_odd", "_law_key", "_law_one"]
theorem sc__law_tells : FnScope ["_law_table", "_law_codes_so", "_law_due", "_law_odd", "_law_key", "_law_one"] ["_law_table", "_law_codes_so"] (defScope s__law_tells) := ⟨rfl, rfl, rfl, by decide +kernel, rfl, by decide +kernel, by decide +kernel⟩
theorem frz_back {H : Hp} {d D : Addr} {u o : HO} {od : Obj} (hd : H d = some u) (ne : d ≠ D) : upd (upd (upd H d (.frz od u)) D o) d u = upd H D o := by
  funext b
  by_cases h1 : b = d
  · rw [h1, upd_same, upd_ne ne, hd]
  · rw [upd_ne h1]
    by_cases h2 : b = D
    · rw [h2, upd_same, upd_same]
    · rw [upd_ne h2, upd_ne h1, upd_ne h2]
theorem dropH_upd {H : Hp} {it : Addr} {o : HO} (n : H it = none) : ItX.dropH (upd H it o) it = H := by
  funext b
  unfold ItX.dropH
  by_cases h : b = it
  · rw [if_pos h, h, n]
  · rw [if_neg h, upd_ne h]
theorem lt1 (z p : Nat) (h : (!ltCps (L1 z).cps.toList (L1 p).cps.toList) = true) : p ≤ z := by
  have e1 : (L1 z).cps.toList = [z] := rfl
  have e2 : (L1 p).cps.toList = [p] := rfl
  rw [e1, e2] at h
  simp [ltCps] at h
  omega
theorem rise_pw : ∀ (zs : List Nat) (p : Nat), risingS (L1 p) (zs.map L1) = true → (p :: zs).Pairwise (· ≤ ·)
  | [], p, _ => List.pairwise_singleton _ _
  | z :: r, p, h => by
    have h' : (!ltCps (L1 z).cps.toList (L1 p).cps.toList && risingS (L1 z) (r.map L1)) = true := h
    rw [Bool.and_eq_true] at h'
    have ih := rise_pw r z h'.2
    have hp := lt1 z p h'.1
    refine List.Pairwise.cons (fun x hx => ?_) ih
    rcases List.mem_cons.mp hx with e | e
    · rw [e]
      exact hp
    · exact Nat.le_trans hp ((List.pairwise_cons.mp ih).1 x e)
theorem sorted_pw (zs : List Nat) (h : sortedS (zs.map L1) = true) : zs.Pairwise (· ≤ ·) := by
  cases zs with
  | nil => exact .nil
  | cons z r => exact rise_pw r z h
theorem un_map {ys : List Str} {xs : List Nat} (h : ys.Perm (xs.map L1)) : ∃ zs : List Nat, ys = zs.map L1 ∧ zs.Perm xs := by
  have e : ∀ y ∈ ys, L1 (y.cps.toList.headD 0) = y := fun y hy => by
    obtain ⟨c, _, rfl⟩ := List.mem_map.mp (h.mem_iff.mp hy)
    rfl
  refine ⟨ys.map fun y => y.cps.toList.headD 0, ?_, ?_⟩
  · rw [List.map_map]
    have : ys.map (L1 ∘ fun y => y.cps.toList.headD 0) = ys.map id := List.map_congr_left fun y hy => e y hy
    rw [this, List.map_id]
  · have h2 := h.map fun y => y.cps.toList.headD 0
    rw [List.map_map] at h2
    have : xs.map ((fun y : Str => y.cps.toList.headD 0) ∘ L1) = xs.map id := List.map_congr_left fun y hy => rfl
    rw [this, List.map_id] at h2
    exact h2
theorem abc_pw : abc.Pairwise (· ≤ ·) := by decide
theorem piled_le {B : Nat} : ∀ {ts : List Str}, (∀ t ∈ ts, t.length ≤ B) → piled ts ≤ ts.length * (B + 2)
  | [], _ => by simp [piled]
  | t :: r, h => by
    have ih := piled_le (ts := r) fun x hx => h x (List.mem_cons_of_mem _ hx)
    have ht := h t List.mem_cons_self
    have e : piled (t :: r) = t.length + 2 + piled r := by simp [piled]
    rw [e, List.length_cons, Nat.succ_mul]
    omega
theorem nice_int {i : Int} (h : (PyData.int i).shown.length ≤ 3000) (h2 : PyData.strOk (PyData.int i).shown = true) (h3 : (PyData.int i).showable = true) : NiceD (.int i) := ⟨⟨h3, by simp [PyData.depth], by omega⟩, h, by simp [PyData.depth], h2, fun z e => nomatch e⟩
theorem nice_nat : ∀ n : Nat, n ≤ 2100 → NiceD (.int ((n : Nat) : Int)) := fun n hn => by
  have h : ∀ n ∈ List.range 2101, (PyData.int ((n : Nat) : Int)).shown.length ≤ 3000 ∧ PyData.strOk (PyData.int ((n : Nat) : Int)).shown = true ∧ (PyData.int ((n : Nat) : Int)).showable = true := by decide +kernel
  obtain ⟨h1, h2, h3⟩ := h n (List.mem_range.mpr (by omega))
  exact nice_int h1 h2 h3
theorem nat_ok : ∀ n : Nat, n < 256 → (PyData.int ((n : Nat) : Int)).showable = true ∧ (PyData.int ((n : Nat) : Int)).depth ≤ 2 ∧ (PyData.int ((n : Nat) : Int)).shown.length ≤ 3000 := fun n hn => by
  have h := nice_nat n (by omega)
  exact ⟨h.te.sh, Nat.le_trans h.dp (by decide), h.sz⟩
theorem ka_perm {t : Tab} (g : GoodC t) : (t.map (·.1)).Perm (keysL abc t) := by
  refine (List.perm_ext_iff_of_nodup g.nd (abc_nd.filter _)).mpr fun c => ?_
  rw [List.mem_filter, look_iff0]
  constructor
  · intro h
    obtain ⟨q, hq, rfl⟩ := List.mem_map.mp h
    exact ⟨abc_mem.mpr (g.lt q hq), h⟩
  · exact fun h => h.2
theorem sorted_ka {t : Tab} {ys : List Str} (g : GoodC t) (hp : ys.Perm (t.map fun q => L1 q.1)) (hs : sortedS ys = true) : ys = (keysL abc t).map L1 := by
  have hp' : ys.Perm ((t.map (·.1)).map L1) := by
    rw [List.map_map]
    exact hp
  obtain ⟨zs, rfl, hz⟩ := un_map hp'
  have h1 := sorted_pw zs hs
  have h2 : (keysL abc t).Pairwise (· ≤ ·) := abc_pw.filter _
  have h3 : zs = keysL abc t := List.Perm.eq_of_pairwise (le := (· ≤ ·)) (fun a b _ _ x y => Nat.le_antisymm x y) h1 h2 (hz.trans (ka_perm g))
  rw [h3]
theorem ka_mem {t : Tab} {c : Nat} : c ∈ keysL abc t ↔ c ∈ abc ∧ (lookT t c).isSome = true := by
  unfold keysL
  rw [List.mem_filter]
theorem ka_len (t : Tab) : (keysL abc t).length ≤ 26 := Nat.le_trans (List.length_filter_le _ _) (by rw [abc_len]; exact Nat.le_refl _)
theorem ims_len_ka (t : Tab) : (imsL abc t).length = (keysL abc t).length := by
  unfold imsL
  rw [List.length_map]
theorem ka_congr {t u : Tab} (h : ∀ c, lookT t c = lookT u c) : keysL abc t = keysL abc u := by
  unfold keysL
  have e : (fun c => (lookT t c).isSome) = fun c => (lookT u c).isSome := funext fun c => by rw [h c]
  rw [e]
/-! ### codes, as data -/
def codeDt (s : List Nat) : PyData := .tuple (s.map fun n => .int ((n : Nat) : Int))
theorem tup_sz {ds : List PyData} (B : Nat) (h : ∀ d ∈ ds, d.shown.length ≤ B) : (PyData.tuple ds).shown.length ≤ ds.length * (B + 2) + 3 := by
  have e3 : ("(" : Str).length = 1 := by decide +kernel
  have e4 : (",)" : Str).length = 2 := by decide +kernel
  have e5 : (")" : Str).length = 1 := by decide +kernel
  simp only [PyData.shown]
  rw [shown_all]
  have ln : ∀ t ∈ ds.map PyData.shown, t.length ≤ B := fun t ht => by
    obtain ⟨d, hd, rfl⟩ := List.mem_map.mp ht
    exact h d hd
  have hl : (ds.map PyData.shown).length = ds.length := List.length_map _
  generalize ds.map PyData.shown = ts at ln hl
  have hj : (Str.join ", " ts).length ≤ ts.length * (B + 2) := by
    by_cases z : ts = []
    · subst z
      show (Str.join ", " []).length ≤ _
      have : (Str.join ", " []).length = 0 := by decide +kernel
      omega
    · have h1 := join_length_add ts z
      have h2 := piled_le ln
      omega
  unfold tupleText
  rw [strLen_append, strLen_append]
  have hx : ((if ts.length == 1 then ",)" else ")" : String) : Str).length ≤ 2 := by
    cases ts.length == 1
    · show (")" : Str).length ≤ 2
      omega
    · show (",)" : Str).length ≤ 2
      omega
  rw [hl] at hj
  omega
theorem code_ok {s : List Nat} (h : ∀ n ∈ s, n < 256) : (codeDt s).showable = true ∧ (codeDt s).depth ≤ 2 ∧ (codeDt s).shown.length ≤ s.length * 3002 + 3 := by
  have hd : ∀ d ∈ s.map (fun n => PyData.int ((n : Nat) : Int)), ∃ n < 256, d = PyData.int ((n : Nat) : Int) := fun d hd => by
    obtain ⟨n, hn, rfl⟩ := List.mem_map.mp hd
    exact ⟨n, h n hn, rfl⟩
  refine ⟨?_, ?_, ?_⟩
  · show (PyData.tuple _).showable = true
    simp only [PyData.showable]
    exact show_all fun d hd2 => by
      obtain ⟨n, hn, rfl⟩ := hd d hd2
      exact (nat_ok n hn).1
  · show (PyData.tuple _).depth ≤ 2
    simp only [PyData.depth]
    have := dep_all (ds := s.map (fun n => PyData.int ((n : Nat) : Int))) (n := 0) fun d hd2 => by
      obtain ⟨n, hn, rfl⟩ := hd d hd2
      simp [PyData.depth]
    omega
  · have := tup_sz (ds := s.map (fun n => PyData.int ((n : Nat) : Int))) 3000 fun d hd2 => by
      obtain ⟨n, hn, rfl⟩ := hd d hd2
      exact (nat_ok n hn).2.2
    rw [List.length_map] at this
    exact this
theorem code_lay (s : List Nat) : (codeDt s).canLay0 = true ∧ (codeDt s).depth ≤ 1 := by
  constructor
  · show (PyData.tuple _).canLay0 = true
    simp only [PyData.canLay0]
    exact lay_map _ s fun n _ => by simp [PyData.canLay0]
  · show (PyData.tuple _).depth ≤ 1
    simp only [PyData.depth]
    have := depth_map (fun n : Nat => PyData.int ((n : Nat) : Int)) (fun n => by simp [PyData.depth]) s
    omega
theorem py_code {H : Hp} {a : Addr} {s : List Nat} (h : H a = some (.tup (nums s))) : PyW H (.ref a) (codeDt s) := .tup h (py_nums s)
theorem dp_code {K : PySem.W.Frag} {H : Hp} {a : Addr} {s : List Nat} (h : H a = some (.tup (nums s))) : Dp K H (.ref a) (codeDt s) := .tup (.inl (.inl h)) (dp_nums s)
/-- the code of a letter -/
def cdV (A : Ad) (c : Nat) : V := .ref (A c)
def cdD (t : Tab) (c : Nat) : PyData := codeDt ((lookT t c).getD [])
theorem tells_codes {t : Tab} (g : GoodC t) {l : List Nat} (hl : l.length ≤ 30) : Tells (.list (l.map (cdD t))) := by
  refine tells_list 20000 (fun d hd => ?_) ?_
  · obtain ⟨c, hc, rfl⟩ := List.mem_map.mp hd
    have h4 : ((lookT t c).getD []).length ≤ 4 ∧ ∀ n ∈ (lookT t c).getD [], n < 256 := by
      cases e : lookT t c with
      | none => exact ⟨Nat.zero_le _, fun n h => absurd h List.not_mem_nil⟩
      | some s => exact ⟨(g.look e).2.2.1, (g.look e).2.2.2⟩
    obtain ⟨h1, h2, h3⟩ := code_ok h4.2
    exact ⟨h1, h2, Nat.le_trans h3 (by have := Nat.mul_le_mul_right 3002 h4.1; omega)⟩
  · rw [List.length_map]
    have := Nat.mul_le_mul_right (20000 + 2) hl
    omega
theorem py_codes {H : Hp} {A : Ad} {t : Tab} : ∀ {l : List Nat}, (∀ c ∈ l, ∃ s, lookT t c = some s ∧ H (A c) = some (.tup (nums s))) → PyWs H (l.map (cdV A)) (l.map (cdD t))
  | [], _ => .nil
  | c :: l, h => by
    obtain ⟨s, e, ha⟩ := h c List.mem_cons_self
    refine .cons ?_ (py_codes fun x hx => h x (List.mem_cons_of_mem _ hx))
    show PyW H (.ref (A c)) (codeDt ((lookT t c).getD []))
    rw [e]
    exact py_code ha
theorem held_let1 {H : Hp} {c : Nat} (h : isLt c) : Held H (.str (L1 c)) (.str (L1 c)) := th_flat (nice_let c (abc_mem.mpr h))
theorem nice_l0 : NiceD (.list []) := ⟨⟨by decide +kernel, by decide +kernel, by decide +kernel⟩, by decide +kernel, by decide +kernel, by decide +kernel, fun z e => nomatch e⟩
theorem nice_ta : NiceD (.tuple [.str "a"]) := ⟨⟨by decide +kernel, by decide +kernel, by decide +kernel⟩, by decide +kernel, by decide +kernel, by decide +kernel, fun z e => nomatch e⟩
theorem held_str {H : Hp} {z : Str} (h : okZ z = true) : Held H (.str z) (.str z) := th_flat (nice_okZ h)
theorem held_l0 {H : Hp} {t : Addr} (h : H t = some (.lst [])) : Held H (.ref t) (.list []) := ⟨.inr (.inl ⟨t, [], rfl, .inr h, by decide, fun y hy => absurd hy List.not_mem_nil⟩), .lst h .nil, nice_l0⟩
theorem held_ta {H : Hp} {t : Addr} (h : H t = some (.tup [.str "a"])) : Held H (.ref t) (.tuple [.str "a"]) := by
  refine ⟨.inr (.inl ⟨t, _, rfl, .inl h, by decide, fun y hy => ?_⟩), .tup h (.cons (.str "a") .nil), nice_ta⟩
  rw [List.mem_singleton.mp hy]
  exact .inl ⟨"a", rfl⟩
theorem odd_no {H : Hp} {ta dd le : Addr} {t : Tab} {y : V} (ht : H ta = some (.tup [.str "a"])) (hd : H dd = some (.dK [])) (hl : H le = some (.lst [])) (g : GoodC t)
    (h : y ∈ [V.str "", .str "A", .str "ab", .non, .int 0, .ref ta, .ref dd, .ref le]) : ∃ d, Held H y d ∧ lookC t d = none := by
  simp only [List.mem_cons, List.not_mem_nil, or_false] at h
  rcases h with rfl | rfl | rfl | rfl | rfl | rfl | rfl | rfl
  · exact ⟨_, held_str (by decide +kernel), lookC_no g (by decide +kernel)⟩
  · exact ⟨_, held_str (by decide +kernel), lookC_no g (by decide +kernel)⟩
  · exact ⟨_, held_str (by decide +kernel), lookC_no g (by decide +kernel)⟩
  · exact ⟨_, held_non, rfl⟩
  · exact ⟨_, held_int (nice_nat 0 (by decide)), rfl⟩
  · exact ⟨_, held_ta ht, rfl⟩
  · exact ⟨_, held_dict hd, rfl⟩
  · exact ⟨_, held_l0 hl, rfl⟩
def spTells (CW : Addr) : Sp := fun vs H Q _ => ∃ x A u d B t, vs = [.ref x, .ref d] ∧ WrU CW H x A u ∧ CodA H d B t ∧ (∀ c, lookT u c = lookT t c) ∧ ∀ H2, Same H H2 → Q (.bl true) H2
section
variable {P : Program} {w : World} {K : PySem.W.Frag} {mg : Str → Option Value} {base : Heap} {CW CE : Addr} {Cz : Nat → Addr}
theorem ok_tells {f : Addr} {fd : FuncData} (F : Fun K "_law_tells" "_law_tells" s__law_tells f fd) (T : Tc K mg CW CE Cz) (sys : SysIn base) (D_inW : Mf P w K mg base 2 CW "__contains__" (spInW CW)) (D_lenW : Mf P w K mg base 1 CW "__len__" (spLenW CW)) (D_iterW : ItM P w K mg base 1 CW (snIterW CW))
    (D_getW : MfG P w K mg base (L2.CX P w) 5 CW "__getitem__" (spGetW CW Cz)) : FnG P w K mg base CX0 10 f fd ["_law_table", "_law_codes_so"] (spTells CW) := by
  refine F.okG sc__law_tells (fun vs H Q E h => ?_) (fun cdv A outer s H vs Q E quiet hr h => ?_)
  · obtain ⟨x, A, u, d, B, t, rfl, _⟩ := h
    rfl
  · obtain ⟨x, A1, u, d, B, t, rfl, wr, cd, lk, q⟩ := h
    obtain ⟨hd, tu, g⟩ := id cd
    refine ⟨_, (pss_cons (ps_set (i := 2) sc__law_tells.nd rfl (.inl rfl) (pe_callB cr_sortedS (by rfl) T.sorted (by decide +kernel) (pa_cons (pe_lock (pe_lc (own := [("_law_key", 4)]) (g := gName 4) (by rfl) sc__law_tells.nd (pi_keys (pv 1)) (blkOk_by (own := [("_law_key", 4)]) (N := n__law_tells) (sc := defScope s__law_tells) (by decide +kernel)) (fun _ _ _ _ _ => (pg_name (i := 4) sc__law_tells.nd rfl (.inl rfl))) (fun _ _ _ _ _ => pts_nil) (fun _ _ _ _ _ => (pe_callTy call_strS (by rfl) T.str (by decide +kernel) (pa_cons (pv 4) pa_nil))))) pa_nil)))
      (pss_cons (ps_if (PW.pt (pw_or (pt_not (pt_val (pe_callB call_isi (by rfl) T.isinstance (by decide +kernel) (pa_cons (pv 0) (pa_cons (pe_gv T.gWriteTable (by rfl)) pa_nil))))) (pw_or (pt_cmpR (op_neDK (K := K) rfl hr.units) (pe_lock (pe_lc (own := [("_law_one", 5)]) (g := gName 5) (by rfl) sc__law_tells.nd (pi_ownKI D_iterW hr (by decide) (pv 0)) (blkOk_by (own := [("_law_one", 5)]) (N := n__law_tells) (sc := defScope s__law_tells) (by decide +kernel)) (fun _ _ _ _ _ => (pg_name (i := 5) sc__law_tells.nd rfl (.inl rfl))) (fun _ _ _ _ _ => pts_nil) (fun _ _ _ _ _ => (pv 5)))) (pv 2) (nomark _)) (pw_or1 (pt_cmpR op_ne (pe_callB (call_reprW sys quiet hr) (by rfl) T.repr (by decide +kernel) (pa_cons (pe_callB (call_lenO D_lenW hr (by decide)) (by rfl) T.len (by decide +kernel) (pa_cons (pv 0) pa_nil)) pa_nil)) (pe_callB (call_reprW sys quiet hr) (by rfl) T.repr (by decide +kernel) (pa_cons (pe_callB (call_len_seqK (K := K) rfl) (by rfl) T.len (by decide +kernel) (pa_cons (pv 2) pa_nil)) pa_nil)) (nomark _))))))
        (pss_one (ps_ret pe_bl))
        pss_nil)
      (pss_cons (ps_if (pt_cmpR op_ne (pe_callB (call_reprW sys quiet hr) (by rfl) T.repr (by decide +kernel) (pa_cons (pe_lc (own := [("_law_one", 5)]) (g := gName 5) (by rfl) sc__law_tells.nd (pi_list (pv 2)) (blkOk_by (own := [("_law_one", 5)]) (N := n__law_tells) (sc := defScope s__law_tells) (by decide +kernel)) (fun _ _ _ _ _ => (pg_name (i := 5) sc__law_tells.nd rfl (.inl rfl))) (fun _ _ _ _ _ => pts_nil) (fun _ _ _ _ _ => (pe_ixG D_getW quiet passL hr (by decide) (pv 0) (pv 5)))) pa_nil)) (pe_callB (call_reprW sys quiet hr) (by rfl) T.repr (by decide +kernel) (pa_cons (pe_lc (own := [("_law_one", 5)]) (g := gName 5) (by rfl) sc__law_tells.nd (pi_list (pv 2)) (blkOk_by (own := [("_law_one", 5)]) (N := n__law_tells) (sc := defScope s__law_tells) (by decide +kernel)) (fun _ _ _ _ _ => (pg_name (i := 5) sc__law_tells.nd rfl (.inl rfl))) (fun _ _ _ _ _ => pts_nil) (fun _ _ _ _ _ => (pe_dget (hu_of hr) (pv 1) (pv 5) (fun _ _ => rfl)))) pa_nil)) (nomark _))
        (pss_one (ps_ret pe_bl))
        pss_nil)
      (pss_cons (ps_set (i := 3) sc__law_tells.nd rfl (.inl rfl) (pe_lst (pa_cons pe_str (pa_cons pe_str (pa_cons pe_str (pa_cons pe_non (pa_cons pe_int (pa_cons (pe_tup (pa_cons pe_str pa_nil)) (pa_cons pe_dnewK (pa_cons (pe_lst pa_nil) pa_nil))))))))))
      (pss_one (ps_ret (pe_and (pe_cmpR (op_eqDK (K := K) rfl hr.units) (pe_lc (own := [("_law_one", 5)]) (g := gName 5) (by rfl) sc__law_tells.nd (pi_list (pv 2)) (blkOk_by (own := [("_law_one", 5)]) (N := n__law_tells) (sc := defScope s__law_tells) (by decide +kernel)) (fun _ _ _ _ _ => (pg_name (i := 5) sc__law_tells.nd rfl (.inl rfl))) (fun _ _ _ _ _ => (pts_one (pt_cmpR (op_notInO D_inW hr (by decide)) (pv 5) (pv 0) rfl))) (fun _ _ _ _ _ => (pv 5))) (pe_lst pa_nil) (nomark _)) (pe_one (pe_cmpR (op_eqDK (K := K) rfl hr.units) (pe_lc (own := [("_law_one", 5)]) (g := gName 5) (by rfl) sc__law_tells.nd (pi_list (pv 3)) (blkOk_by (own := [("_law_one", 5)]) (N := n__law_tells) (sc := defScope s__law_tells) (by decide +kernel)) (fun _ _ _ _ _ => (pg_name (i := 5) sc__law_tells.nd rfl (.inl rfl))) (fun _ _ _ _ _ => (pts_one (pt_cmpR (op_inO D_inW hr (by decide)) (pv 5) (pv 0) rfl))) (fun _ _ _ _ _ => (pv 5))) (pe_lst pa_nil) (nomark _)))))))))), ?_⟩
    -- sorted
    refine ⟨d, _, hd, True.intro, fun od => ⟨_, rfl, d, od, rfl, .inl ⟨_, upd_same, fun D nD => lc_it (walk_keys (d := d) (o := od) (kvs := encC B t)) (fun i H2 => H2 = upd (upd H d (.frz od (.dK (encC B t)))) D (.lst (lets ((t.take i).map (·.1))))) rfl ?_ ?_ ?_⟩⟩⟩
    · rintro i H2 hi rfl
      rw [upd_ne (ne_of_none upd_same nD)]
      exact upd_same
    · rintro i y H2 H3 hi rfl ⟨eH, k, v, hk, rfl⟩
      rw [eH]
      obtain ⟨hit, rfl, rfl⟩ := encG_at hk
      have tl := g.key
      refine ⟨rfl, _, rfl, _, rfl, _, upd_same, ?_, ?_⟩
      · show (List.map _ _).length < _
        rw [List.length_map, List.length_map, List.length_take, sizeLine_eq]
        omega
      · rw [upd_upd, List.take_add_one, List.getElem?_eq_getElem hit]
        unfold lets
        rw [List.map_append, List.map_append]
        rfl
    · rintro H2 rfl
      have dD : d ≠ D := ne_of_none upd_same nD
      rw [encC_len, List.take_of_length_le (Nat.le_refl _)]
      refine ⟨by rw [upd_ne dD]; exact upd_same, ?_⟩
      rw [frz_back hd dD]
      have nD0 : H D = none := by
        rw [upd_ne (Ne.symm dD)] at nD
        exact nD
      have tl := g.key
      refine ⟨D, t.map fun q => L1 q.1, rfl, SqL.of (by rw [upd_same]; unfold lets; rw [List.map_map, List.map_map]; rfl), by rw [List.length_map]; omega, fun ys p0 hp hs np => ?_⟩
      rw [show ys.map V.str = lets (keysL abc t) from by rw [sorted_ka g hp hs, List.map_map]; rfl]
      have s1 := same_put (s := same_put (s := Same.refl H) (o := .lst (lets (t.map (·.1)))) nD0) (o := .lst (lets (keysL abc t))) np
      have hp1 : upd (upd H D (.lst (lets (t.map (·.1))))) p0 (.lst (lets (keysL abc t))) p0 = some (.lst (lets (keysL abc t))) := upd_same
      show gName 2 (.ref p0) _ (upd (upd H D (.lst (lets (t.map (·.1))))) p0 (.lst (lets (keysL abc t)))) _
      generalize upd (upd H D (.lst (lets (t.map (·.1))))) p0 (.lst (lets (keysL abc t))) = H1 at s1 hp1 ⊢
      clear hp hs np nD nD0 dD
      have kl := ka_len t
      have kin : ∀ c ∈ keysL abc t, isLt c ∧ (lookT t c).isSome = true := fun c hc => ⟨abc_mem.mp (ka_mem.mp hc).1, (ka_mem.mp hc).2⟩
      have ku := ka_congr lk
      have wr1 := wr.same s1
      obtain ⟨⟨dx, b, hx, hb⟩, tu1, gu⟩ := id wr1
      -- a table
      refine ⟨_, rfl, _, .ref CW, .ref CW, .ref CW, true, rfl, .own _, .base (.ins hx T.clW T.wA T.tB T.tC T.wD), T.WW, true, rfl, iteF ?_⟩
      -- its letters
      refine ⟨b, _, hb, True.intro, fun od => ?_⟩
      have xb : x ≠ b := ne_of hx hb (fun z => nomatch z)
      have hbl : upd H1 b (.frz od (.dK (encC A1 (imsL abc u)))) b = some (.frz od (.dK (encC A1 (imsL abc u)))) := upd_same
      have hxl : upd H1 b (.frz od (.dK (encC A1 (imsL abc u)))) x = some (.ins CW dx (fW b)) := by rw [upd_ne xb]; exact hx
      refine ⟨_, rfl, x, dx, _, rfl, hxl, fun k hk => ⟨x, dx, b, od, _, rfl, hxl, hbl, fun it ni hi => ⟨it, b, od, _, rfl, hi, upd_same, by rw [upd_ne (ne_of_none hbl ni)]; exact hbl, ?_⟩⟩⟩
      rw [dropH_upd ni]
      refine fun D2 nD2 => lc_it (walk_keys (d := b) (o := od) (kvs := encC A1 (imsL abc u))) (fun i H3 => H3 = upd (upd H1 b (.frz od (.dK (encC A1 (imsL abc u))))) D2 (.lst (lets ((keysL abc t).take i)))) rfl ?_ ?_ ?_
      · rintro i H3 hi rfl
        rw [upd_ne (ne_of_none upd_same nD2)]
        exact upd_same
      · rintro i y H3 H4 hi rfl ⟨eH, k, v, hk, rfl⟩
        rw [eH]
        obtain ⟨hit, rfl, rfl⟩ := encG_at hk
        have ek : (keysL abc t)[i]? = some (imsL abc u)[i].1 := by
          rw [← ku]
          exact ims_at hit
        refine ⟨rfl, _, rfl, _, upd_same, ?_, ?_⟩
        · show (List.map _ _).length < _
          rw [List.length_map, List.length_take, sizeLine_eq]
          omega
        · rw [upd_upd, List.take_add_one, ek]
          unfold lets
          rw [List.map_append]
          rfl
      · rintro H3 rfl
        have bD : b ≠ D2 := ne_of_none upd_same nD2
        have li : (imsL abc u).length = (keysL abc t).length := by rw [ims_len_ka, ku]
        rw [encC_len, li, List.take_of_length_le (Nat.le_refl _)]
        refine ⟨by rw [upd_ne bD]; exact upd_same, ?_⟩
        rw [frz_back hb bD]
        have nD3 : H1 D2 = none := by
          rw [upd_ne (Ne.symm bD)] at nD2
          exact nD2
        have s2 := same_put (s := Same.refl H1) (o := .lst (lets (keysL abc t))) nD3
        have hp2 := s2 _ _ hp1
        have hD2 : upd H1 D2 (.lst (lets (keysL abc t))) D2 = some (.lst (lets (keysL abc t))) := upd_same
        generalize upd H1 D2 (.lst (lets (keysL abc t))) = H2 at s2 hp2 hD2 ⊢
        have dl : ∀ {H3 : Hp} {a : Addr}, H3 a = some (.lst (lets (keysL abc t))) → Dp K H3 (.ref a) (.list ((keysL abc t).map fun c => .str (L1 c))) := fun h => .lst (SqL.of h) (dp_map _ _ (fun c => .str _) _)
        have sl : SeqAt.shaped (.list ((keysL abc t).map fun c => PyData.str (L1 c))) = true := shaped_map _ _ (fun c hc => by
          have ok : PyData.strOk (L1 c) = true := ok_sx (cs := [c]) fun a ha => by
            rw [List.mem_singleton.mp ha]
            exact (kin c hc).1
          simp only [PyData.canLay0]
          exact ok) (fun c => by simp [PyData.depth])
        refine ⟨_, rfl, neD_same (dl hD2) (dl hp2) sl ⟨false, rfl, iteF ?_⟩⟩
        have s3 : Same H H2 := fun b o e => s2 _ _ (s1 _ _ e)
        have wr2 := wr.same s3
        have cd2 := CodA.same cd s3
        clear nD2 nD3 bD hD2 hxl hbl ni hi xb hx hb wr1 hp1 s2 s1 tu1 gu
        obtain ⟨⟨dx, b, hx, hb⟩, _⟩ := id wr2
        -- as many
        have ln : (lets (keysL abc t)).length = (keysL abc t).length := List.length_map _
        have tn : Tells (.int (((keysL abc t).length : Nat) : Int)) := (nice_nat _ (by omega)).te
        have sc1 : (imsL abc u).length ≤ sizeLine := by rw [li, sizeLine_eq]; omega
        refine ⟨_, rfl, x, dx, _, rfl, hx, x, A1, u, rfl, wr2, (imsL abc u).length, rfl, sc1, _, .int (((imsL abc u).length : Nat) : Int), rfl, .int _, by rw [li]; exact tn, _, rfl, p0, _, rfl, .inl (SqL.of hp2), _, .int (((lets (keysL abc t)).length : Nat) : Int), rfl, .int _, by rw [ln]; exact tn, ?_⟩
        refine ⟨rfl, false, ?_, iteF ?_⟩
        · rw [li, ln, decide_eq_true rfl]
          rfl
        -- its codes
        have cin : ∀ {H3 : Hp} {A : Ad} {v : Tab}, Tups H3 A v → (∀ c, lookT v c = lookT t c) → ∀ c ∈ keysL abc t, ∃ s, lookT v c = some s ∧ H3 (A c) = some (.tup (nums s)) := fun tu e c hc => by
          obtain ⟨s, es⟩ := Option.isSome_iff_exists.mp (kin c hc).2
          exact ⟨s, by rw [e, es], tu.look (by rw [e, es])⟩
        have ecd : cdD u = cdD t := funext fun c => by
          unfold cdD
          rw [lk c]
        refine ⟨_, rfl, p0, rfl, ⟨_, SqL.of hp2⟩, fun L1' nL1 => lc_it (walk_list (K := K) (a := p0) (xs := lets (keysL abc t))) (fun i H3 => H3 = upd H2 L1' (.lst (((keysL abc t).map (cdV A1)).take i))) rfl ?_ ?_ ?_⟩
        · rintro i H3 hi rfl
          exact SqL.of (by rw [upd_ne (ne_of_none hp2 nL1)]; exact hp2)
        · rintro i y H3 H4 hi rfl ⟨eH, hy⟩
          rw [eH]
          obtain ⟨hi', rfl⟩ := lets_get hy
          have s4 := same_put (s := Same.refl H2) (o := .lst (((keysL abc t).map (cdV A1)).take i)) nL1
          have hn := List.getElem_mem hi'
          have wr4 := wr2.same s4
          obtain ⟨z, e⟩ := Option.isSome_iff_exists.mp (kin _ hn).2
          have eu : lookT u (keysL abc t)[i] = some z := by rw [lk, e]
          refine ⟨rfl, _, rfl, _, rfl, x, dx, _, rfl, s4 _ _ hx, x, A1, u, _, _, rfl, wr4, held_let1 (kin _ hn).1, .inr (.inr ⟨_, z, rfl, eu, wr4.tu.look eu, _, upd_same, ?_, ?_⟩)⟩
          · rw [List.length_take, List.length_map, sizeLine_eq]
            omega
          · rw [upd_upd, List.take_add_one, List.getElem?_map, List.getElem?_eq_getElem hi']
            rfl
        rintro H3 rfl
        rw [ln, List.take_of_length_le (by rw [List.length_map]; exact Nat.le_refl _)]
        have s4 := same_put (s := Same.refl H2) (o := .lst ((keysL abc t).map (cdV A1))) nL1
        have hL1 : upd H2 L1' (.lst ((keysL abc t).map (cdV A1))) L1' = some (.lst ((keysL abc t).map (cdV A1))) := upd_same
        have hp3 := s4 _ _ hp2
        have wr3 := wr2.same s4
        generalize upd H2 L1' (.lst ((keysL abc t).map (cdV A1))) = H3 at s4 hL1 hp3 wr3 ⊢
        have cd3 := CodA.same cd2 s4
        have tl1 := tells_codes g (l := keysL abc t) (by omega)
        refine ⟨_, .list ((keysL abc t).map (cdD u)), rfl, .lst hL1 (py_codes (cin wr3.tu lk)), by rw [ecd]; exact tl1, ?_⟩
        refine ⟨_, rfl, p0, rfl, ⟨_, SqL.of hp3⟩, fun L2' nL2 => lc_it (walk_list (K := K) (a := p0) (xs := lets (keysL abc t))) (fun i H4 => H4 = upd H3 L2' (.lst (((keysL abc t).map (cdV B)).take i))) rfl ?_ ?_ ?_⟩
        · rintro i H4 hi rfl
          exact SqL.of (by rw [upd_ne (ne_of_none hp3 nL2)]; exact hp3)
        · rintro i y H4 H5 hi rfl ⟨eH, hy⟩
          rw [eH]
          obtain ⟨hi', rfl⟩ := lets_get hy
          have s5 := same_put (s := Same.refl H3) (o := .lst (((keysL abc t).map (cdV B)).take i)) nL2
          have hn := List.getElem_mem hi'
          obtain ⟨z, e⟩ := Option.isSome_iff_exists.mp (kin _ hn).2
          refine ⟨rfl, _, rfl, _, rfl, d, V.ref (B (keysL abc t)[i]), rfl, .inl ⟨_, kL _, .inl (s5 _ _ cd3.1), rfl, by rw [cSome e]⟩, _, upd_same, ?_, ?_⟩
          · rw [List.length_take, List.length_map, sizeLine_eq]
            omega
          · rw [upd_upd, List.take_add_one, List.getElem?_map, List.getElem?_eq_getElem hi']
            rfl
        rintro H4 rfl
        rw [ln, List.take_of_length_le (by rw [List.length_map]; exact Nat.le_refl _)]
        have s5 := same_put (s := Same.refl H3) (o := .lst ((keysL abc t).map (cdV B))) nL2
        have hL2 : upd H3 L2' (.lst ((keysL abc t).map (cdV B))) L2' = some (.lst ((keysL abc t).map (cdV B))) := upd_same
        have hp4 := s5 _ _ hp3
        have cd4 := CodA.same cd3 s5
        generalize upd H3 L2' (.lst ((keysL abc t).map (cdV B))) = H4 at s5 hL2 hp4 cd4 ⊢
        refine ⟨_, .list ((keysL abc t).map (cdD t)), rfl, .lst hL2 (py_codes (cin cd4.2.1 fun c => rfl)), tl1, ?_⟩
        refine ⟨rfl, false, ?_, iteF ?_⟩
        · rw [ecd, decide_eq_true rfl]
          rfl
        have s6 : Same H H4 := fun b o e => s5 _ _ (s4 _ _ (s3 _ _ e))
        clear hL2 hL1 hp3 s4 s5 cd3 wr3 cd2 wr2 hp2 s3 nL1 nL2 hx hb cd4
        -- odd things
        refine ⟨by show 1 ≤ sizeLine; decide, fun ta na => fun dd ndd => ⟨Nat.zero_le _, fun le nle => ⟨by show 8 ≤ sizeLine; decide, fun lo nlo => ?_⟩⟩⟩
        have st := same_put (s := Same.refl H4) (o := .tup [.str "a"]) na
        have sdd := same_put (s := Same.refl _) (o := .dK []) ndd
        have sle := same_put (s := Same.refl _) (o := .lst []) nle
        have slo := same_put (s := Same.refl _) (o := .lst [V.str "", .str "A", .str "ab", .non, .int 0, .ref ta, .ref dd, .ref le]) nlo
        have h7 := slo _ _ (sle _ _ (sdd _ _ (show upd H4 ta (.tup [.str "a"]) ta = _ from upd_same)))
        have hdd := slo _ _ (sle _ _ (show upd (upd H4 ta (.tup [.str "a"])) dd (.dK []) dd = _ from upd_same))
        have hle := slo _ _ (show upd (upd (upd H4 ta (.tup [.str "a"])) dd (.dK [])) le (.lst []) le = _ from upd_same)
        have hlo : upd (upd (upd (upd H4 ta (.tup [.str "a"])) dd (.dK [])) le (.lst [])) lo (.lst [V.str "", .str "A", .str "ab", .non, .int 0, .ref ta, .ref dd, .ref le]) lo = _ := upd_same
        have s14 : Same H4 (upd (upd (upd (upd H4 ta (.tup [.str "a"])) dd (.dK [])) le (.lst [])) lo (.lst [V.str "", .str "A", .str "ab", .non, .int 0, .ref ta, .ref dd, .ref le])) := fun b o e => slo _ _ (sle _ _ (sdd _ _ (st _ _ e)))
        show gName 3 (.ref lo) _ (upd (upd (upd (upd H4 ta (.tup [.str "a"])) dd (.dK [])) le (.lst [])) lo (.lst [V.str "", .str "A", .str "ab", .non, .int 0, .ref ta, .ref dd, .ref le])) _
        generalize upd (upd (upd (upd H4 ta (.tup [.str "a"])) dd (.dK [])) le (.lst [])) lo (.lst [V.str "", .str "A", .str "ab", .non, .int 0, .ref ta, .ref dd, .ref le]) = H9 at h7 hdd hle hlo s14 ⊢
        clear st sdd sle slo na ndd nle nlo
        have hp9 := s14 _ _ hp4
        have s9 : Same H H9 := fun b o e => s14 _ _ (s6 _ _ e)
        have wr9 := wr.same s9
        obtain ⟨⟨dx, b, hx, hb⟩, _⟩ := id wr9
        clear hp4 s14 s6
        -- each is in it
        refine ⟨_, rfl, p0, rfl, ⟨_, SqL.of hp9⟩, fun A2 nA2 => lc_it (walk_list (K := K) (a := p0) (xs := lets (keysL abc t))) (fun i H3 => H3 = upd H9 A2 (.lst [])) rfl ?_ ?_ ?_⟩
        · rintro i H3 hi rfl
          exact SqL.of (by rw [upd_ne (ne_of_none hp9 nA2)]; exact hp9)
        · rintro i y H3 H5 hi rfl ⟨eH, hy⟩
          rw [eH]
          obtain ⟨hi', rfl⟩ := lets_get hy
          have s7 := same_put (s := Same.refl H9) (o := .lst []) nA2
          have hn := List.getElem_mem hi'
          refine ⟨rfl, _, rfl, _, rfl, x, dx, _, rfl, s7 _ _ hx, x, A1, u, _, _, rfl, wr9.same s7, held_let1 (kin _ hn).1, _, rfl, _, rfl, ?_⟩
          rw [lookC_let, lk, (kin _ hn).2]
          exact iteF rfl
        rintro H3 rfl
        have s7 := same_put (s := Same.refl H9) (o := .lst []) nA2
        have hA2 : upd H9 A2 (.lst []) A2 = some (.lst []) := upd_same
        generalize upd H9 A2 (.lst []) = H10 at s7 hA2 ⊢
        refine ⟨Nat.zero_le _, fun o no => ?_⟩
        have s8 := same_put (s := s7) (o := .lst []) no
        have hA5 : upd H10 o (.lst []) A2 = some (.lst []) := by rw [upd_ne (ne_of_none hA2 no)]; exact hA2
        have ho : upd H10 o (.lst []) o = some (.lst []) := upd_same
        show rEqD K _ _ (upd H10 o (.lst [])) _
        generalize upd H10 o (.lst []) = H11 at s8 hA5 ho ⊢
        refine eq_same (d := .list []) (.lst (SqL.of hA5) .nil) (.lst (SqL.of ho) .nil) (by rfl) ⟨true, rfl, iteT ?_⟩
        have s11 : Same H H11 := fun b o e => s8 _ _ (s9 _ _ e)
        have hlob := s8 _ _ hlo
        have h7b := s8 _ _ h7
        have hddb := s8 _ _ hdd
        have hleb := s8 _ _ hle
        have wr11 := wr.same s11
        have hx15 := s8 _ _ hx
        clear s8 hA5 ho s7 hA2 no nA2 s9 wr9 hx hb hp9 hlo h7 hdd hle
        refine ⟨_, rfl, lo, rfl, ⟨_, SqL.of hlob⟩, fun A3 nA3 => lc_it (walk_list (K := K) (a := lo) (xs := [V.str "", .str "A", .str "ab", .non, .int 0, .ref ta, .ref dd, .ref le])) (fun i H3 => H3 = upd H11 A3 (.lst [])) rfl ?_ ?_ ?_⟩
        · rintro i H3 hi rfl
          exact SqL.of (by rw [upd_ne (ne_of_none hlob nA3)]; exact hlob)
        · rintro i y H3 H5 hi rfl ⟨eH, hy⟩
          rw [eH]
          have s17 := same_put (s := Same.refl H11) (o := .lst []) nA3
          have wr17 := wr11.same s17
          obtain ⟨d2, p2, e2⟩ := odd_no (g := wr17.g) (s17 _ _ h7b) (s17 _ _ hddb) (s17 _ _ hleb) (List.mem_of_getElem? hy)
          refine ⟨rfl, _, rfl, _, rfl, x, dx, _, rfl, s17 _ _ hx15, x, A1, u, _, _, rfl, wr17, p2, _, rfl, _, rfl, ?_⟩
          rw [e2]
          exact iteF rfl
        rintro H3 rfl
        have s17 := same_put (s := Same.refl H11) (o := .lst []) nA3
        have hA3 : upd H11 A3 (.lst []) A3 = some (.lst []) := upd_same
        generalize upd H11 A3 (.lst []) = H12 at s17 hA3 ⊢
        refine ⟨Nat.zero_le _, fun o no => ?_⟩
        have s18 := same_put (s := s17) (o := .lst []) no
        exact eq_same (d := .list []) (.lst (SqL.of (by rw [upd_ne (ne_of_none hA3 no)]; exact hA3)) .nil) (.lst (SqL.of upd_same) .nil) (by rfl) (q _ fun b o e => s18 _ _ (s11 _ _ e))
end
end V8

set_option Elab.async false
set_option linter.all false
set_option maxRecDepth 100000
set_option maxHeartbeats 16000000
/-! Letters, orders and tables of codes drawn. -/
namespace V8
open PySem PySem.Spec PyProof.Rows L2 ItX
abbrev s__law_letters : Stmt := topS 31
abbrev n__law_letters : List Str := ["_law_pen_here", "_law_many", "_law_left", "_law_turn"]
theorem sc__law_letters : FnScope ["_law_pen_here", "_law_many", "_law_left", "_law_turn"] ["_law_pen_here", "_law_many"] (defScope s__law_letters) := ⟨rfl, rfl, rfl, by decide +kernel, rfl, by decide +kernel, by decide +kernel⟩
abbrev s_shuffled : Stmt := topS 30
abbrev n_shuffled : List Str := ["_law_pen_here", "_law_some", "_law_left", "_law_turn"]
theorem sc_shuffled : FnScope ["_law_pen_here", "_law_some", "_law_left", "_law_turn"] ["_law_pen_here", "_law_some"] (defScope s_shuffled) := ⟨rfl, rfl, rfl, by decide +kernel, rfl, by decide +kernel, by decide +kernel⟩
abbrev s_codes : Stmt := topS 32
abbrev n_codes : List Str := ["_law_pen_here", "_law_some", "_law_numbers", "_law_found", "_law_letter_so", "_law_many", "_law_turn"]
theorem sc_codes : FnScope ["_law_pen_here", "_law_some", "_law_numbers", "_law_found", "_law_letter_so", "_law_many", "_law_turn"] ["_law_pen_here", "_law_some"] (defScope s_codes) := ⟨rfl, rfl, rfl, by decide +kernel, rfl, by decide +kernel, by decide +kernel⟩
theorem permV {α : Type} {got rest xs : List α} {k : Nat} {y : α} (hp : (got ++ rest).Perm xs) (hy : rest[k]? = some y) : ((got ++ [y]) ++ rest.eraseIdx k).Perm xs := by
  refine List.Perm.trans ?_ hp
  rw [List.append_assoc]
  refine List.Perm.append_left got ?_
  show (y :: rest.eraseIdx k).Perm rest
  obtain ⟨hk, e⟩ := List.getElem?_eq_some_iff.mp hy
  rw [List.eraseIdx_eq_take_drop_succ]
  have h2 : rest = rest.take k ++ (y :: rest.drop (k + 1)) := by
    rw [← e, ← List.drop_eq_getElem_cons hk, List.take_append_drop]
  exact (List.perm_middle.symm).trans (List.Perm.of_eq h2.symm)
def spShuf : Sp := fun vs H Q _ => ∃ (p l a : Addr) (ns : List Int) (n : Nat) (xs : List V), vs = [.ref p, .ref a] ∧ PenAt H p l ns (n + xs.length) ∧ H a = some (.lst xs) ∧ a ≠ p ∧ xs.length ≤ 900 ∧
  ∀ (D : Addr) (ys : List V) (H' : Hp), ys.Perm xs → PenAt H' p l ns n → Fr p H H' → H D = none → H' D = some (.lst ys) → Q (.ref D) H'
theorem nums_mem {s : List Nat} {v : V} (h : v ∈ nums s) : ∃ n ∈ s, v = .int ((n : Nat) : Int) := by
  obtain ⟨n, hn, e⟩ := List.mem_map.mp h
  exact ⟨n, hn, e.symm⟩
theorem un_lets {ys : List V} {cs : List Nat} (h : ys.Perm (lets cs)) : ∃ ds, ys = lets ds ∧ ds.Perm cs := by
  have e : ∀ y ∈ ys, ∃ c, y = V.str (L1 c) := fun y hy => by
    obtain ⟨c, _, e⟩ := lets_mem (h.mem_iff.mp hy)
    exact ⟨c, e⟩
  let g : V → Nat := fun v => match v with | .str z => z.cps.toList.headD 0 | _ => 0
  have gl : ∀ l : List Nat, (lets l).map g = l := fun l => by
    unfold lets
    rw [List.map_map]
    have : l.map (g ∘ fun c => V.str (L1 c)) = l.map id := List.map_congr_left fun c _ => rfl
    rw [this, List.map_id]
  refine ⟨ys.map g, ?_, ?_⟩
  · unfold lets
    rw [List.map_map]
    have : ys.map ((fun c => V.str (L1 c)) ∘ g) = ys.map id := List.map_congr_left fun y hy => by
      obtain ⟨c, rfl⟩ := e y hy
      rfl
    rw [this, List.map_id]
  · have h2 := h.map g
    rw [gl] at h2
    exact h2
theorem DPut.l {H : Hp} {a : Addr} {kvs : List (Key × V)} {c : Nat} {v : V} (e : H a = some (.dK kvs)) (hl : kvs.length < sizeLine) : DPut H a (.str (L1 c)) v (upd H a (.dK (putK kvs (kL c) v))) := .inl ⟨kvs, kL c, e, rfl, hl, rfl⟩
theorem lets_take {ds : List Nat} {i c : Nat} (nd : ds.Nodup) (h : ds[i]? = some c) : ds.take (i + 1) = ds.take i ++ [c] ∧ c ∉ ds.take i := by
  have e : ds.take (i + 1) = ds.take i ++ [c] := by rw [List.take_add_one, h]; rfl
  refine ⟨e, fun z => ?_⟩
  rw [← List.take_append_drop (i + 1) ds, e] at nd
  exact (List.nodup_append.mp (List.nodup_append.mp nd).1).2.2 _ z c (by simp) rfl
def spCodes : Sp := fun vs H Q _ => ∃ (p l a : Addr) (ns : List Int) (n : Nat) (cs : List Nat), vs = [.ref p, .ref a] ∧ PenAt H p l ns (n + 200) ∧ H a = some (.lst (lets cs)) ∧ a ≠ p ∧ cs.Nodup ∧ cs.length ≤ 26 ∧ (∀ c ∈ cs, isLt c) ∧
  ∀ (d : Addr) (A : Ad) (t : Tab) (H' : Hp), CodA H' d A t → (∀ q ∈ t, q.1 ∈ cs) → PenAt H' p l ns n → Fr p H H' → H d = none → Q (.ref d) H'
section
variable {P : Program} {w : World} {K : PySem.W.Frag} {mg : Str → Option Value} {base : Heap}
theorem ok_letters {f : Addr} {fd : FuncData} (F : Fun K "_law_letters" "_law_letters" s__law_letters f fd) (T : Blt mg) (D_draw : Df P w K mg base 1 "_law_draw" spDraw) : FnOk P w K mg base CX0 2 f fd ["_law_pen_here", "_law_many"] spLetters := by
  refine F.ok sc__law_letters (fun vs H Q E h => ?_) (fun cdv A outer s H vs Q E hr h => ?_)
  · obtain ⟨p, l, ns, n, many, rfl, _⟩ := h
    rfl
  · obtain ⟨p, l, ns, n, many, rfl, PA, hm, q⟩ := h
    refine ⟨_, (pss_cons (ps_set (i := 2) sc__law_letters.nd rfl (.inr rfl) (pe_callTy (call_listS rfl) (by rfl) T.list (by decide +kernel) (pa_cons pe_str pa_nil)))
      (pss_one (ps_ret (pe_lc (own := [("_law_turn", 3)]) (g := gName 3) (by rfl) sc__law_letters.nd (pi_range1 (by rfl) T.range (pa_cons (pv 1) pa_nil)) (blkOk_by (own := [("_law_turn", 3)]) (N := n__law_letters) (sc := defScope s__law_letters) (by decide +kernel)) (fun _ _ _ _ _ => (pg_name (i := 3) sc__law_letters.nd rfl (.inl rfl))) (fun _ _ _ _ _ => pts_nil) (fun _ _ _ _ _ => (pe_bmK (K := K) rfl PySem.F.plainAttrs_list PySem.F.slot_list_pop PySem.F.type_list_pop mt_popAt (pv 2) (pa_cons (pe_c D_draw hr (by decide) (by rfl) (pa_cons (pv 0) (pa_cons (pe_callB (call_len_seqK (K := K) rfl) (by rfl) T.len (by decide +kernel) (pa_cons (pv 2) pa_nil)) pa_nil))) pa_nil))))))), ?_⟩
    refine ⟨_, rfl, by decide, fun a na => ?_⟩
    have ePool : (List.map (fun c => V.str ⟨#[c]⟩) (Str.ofString "abcdefghijklmnopqrstuvwxyz").cps.toList) = lets abc := by
      show List.map (fun c => V.str (L1 c)) abcS.cps.toList = lets abc
      rw [abcS_cps]
      rfl
    rw [ePool]
    have PA1 := PA.new (o := .lst (lets abc)) na
    have hap : p ≠ a := by
      obtain ⟨⟨sp, g, h1, _⟩, _⟩ := PA
      exact ne_of_none h1 na
    have hla : l ≠ a := ne_of_none PA.nums na
    refine ⟨_, rfl, many, rfl, by omega, by omega, fun D nD => lc_range (lo := 0) (n := many) (fun i H2 => ∃ got rest : List Nat, (got ++ rest).Perm abc ∧ got.length = i ∧ H2 D = some (.lst (lets got)) ∧ H2 a = some (.lst (lets rest)) ∧ PenAt H2 p l ns (n + (many - i)) ∧ Fr p H H2) ?_ ?_ ?_⟩
    · have hDa : a ≠ D := ne_of_none upd_same nD
      refine ⟨[], abc, List.Perm.refl _, rfl, upd_same, by rw [upd_ne hDa, upd_same], (PA1.new nD).less (by omega), (Fr.new na).trans (Fr.new nD)⟩
    · rintro i H2 hi ⟨got, rest, pm, hg, hD, ha, PA2, fr⟩
      have hlen : got.length + rest.length = 26 := by
        have := pm.length_eq
        rw [List.length_append, abc_len] at this
        exact this
      have hDa : D ≠ a := by
        intro e
        subst e
        rw [upd_same] at nD
        cases nD
      have nDH : H D = none := by
        cases e : H D with
        | none => rfl
        | some o =>
          rw [upd_ne (ne_of_none e na), e] at nD
          cases nD
      have hDp : D ≠ p := by
        intro e
        subst e
        obtain ⟨⟨sp, g, h1, _⟩, _⟩ := PA1
        rw [h1] at nD
        cases nD
      have hDl : D ≠ l := by
        intro e
        subst e
        rw [PA1.nums] at nD
        cases nD
      have hr0 : 0 < (lets rest).length := by rw [lets_len]; omega
      refine ⟨rfl, ⟨_, rfl, .inl ⟨rfl, _, SqL.of ha⟩, _, rfl, _, rfl, a, _, rfl, .inl (SqL.of ha), p, l, ns, n + (many - (i + 1)), _, rfl, PA2.less (by omega), by omega, by rw [lets_len]; omega, fun v H3 v0 v1 PA3 fr3 => ?_⟩⟩
      obtain ⟨j, rfl⟩ : ∃ j : Nat, v = j := ⟨v.toNat, by omega⟩
      have hj : j < rest.length := by rw [lets_len] at v1; omega
      have hx : (lets rest)[j]? = some (.str (L1 rest[j])) := by
        unfold lets
        rw [List.getElem?_map, List.getElem?_eq_getElem hj]
        rfl
      have ha3 : H3 a = some (.lst (lets rest)) := fr3 _ _ ha (Ne.symm hap)
      have hD3 : H3 D = some (.lst (lets got)) := fr3 _ _ hD hDp
      have hk : seqIndex? (j : Int) (lets rest).length = some j := by
        unfold seqIndex?
        rw [lets_len]
        simp
        omega
      refine ⟨a, _, _, j, _, rfl, rfl, ha3, by omega, by omega, hk, hx, lets got, by rw [upd_ne hDa]; exact hD3, by rw [lets_len]; exact small1000 (by omega), got ++ [rest[j]], rest.eraseIdx j, perm_erase pm (List.getElem?_eq_getElem hj), by simp [hg], ?_, ?_, ?_, ?_⟩
      · rw [upd_same]
        unfold lets
        rw [List.map_append]
        rfl
      · rw [upd_ne (Ne.symm hDa), upd_same]
        rw [lets_erase]
      · exact (PA3.other (Ne.symm hap) (Ne.symm hla)).other hDp hDl
      · exact ((fr.trans fr3).put na).put nDH
    · rintro H2 ⟨got, rest, pm, hg, hD, ha, PA2, fr⟩
      have hnd : (got ++ rest).Nodup := pm.nodup_iff.mpr abc_nd
      have nD' : H D = none := by
        cases e : H D with
        | none => rfl
        | some o =>
          rw [upd_ne (ne_of_none e na), e] at nD
          cases nD
      refine q D got H2 hg (List.nodup_append.mp hnd).1 (fun c hc => abc_mem.mp (pm.mem_iff.mp (List.mem_append_left _ hc))) (PA2.less (by omega)) fr nD' hD
theorem ok_shuffled {f : Addr} {fd : FuncData} (F : Fun K "_law_shuffled" "_law_shuffled" s_shuffled f fd) (T : Blt mg) (D_draw : Df P w K mg base 1 "_law_draw" spDraw) : FnOk P w K mg base CX0 2 f fd ["_law_pen_here", "_law_some"] spShuf := by
  refine F.ok sc_shuffled (fun vs H Q E h => ?_) (fun cdv A outer s H vs Q E hr h => ?_)
  · obtain ⟨p, l, a, ns, n, xs, rfl, _⟩ := h
    rfl
  · obtain ⟨p, l, a, ns, n, xs, rfl, PA, hx, hap, h9, q⟩ := h
    refine ⟨_, (pss_cons (ps_set (i := 2) sc_shuffled.nd rfl (.inr rfl) (pe_callTy (call_list_ofK (K := K) rfl) (by rfl) T.list (by decide +kernel) (pa_cons (pv 1) pa_nil)))
      (pss_one (ps_ret (pe_lc (own := [("_law_turn", 3)]) (g := gName 3) (by rfl) sc_shuffled.nd (pi_range1 (by rfl) T.range (pa_cons (pe_callB (call_len_seqK (K := K) rfl) (by rfl) T.len (by decide +kernel) (pa_cons (pv 1) pa_nil)) pa_nil)) (blkOk_by (own := [("_law_turn", 3)]) (N := n_shuffled) (sc := defScope s_shuffled) (by decide +kernel)) (fun _ _ _ _ _ => (pg_name (i := 3) sc_shuffled.nd rfl (.inl rfl))) (fun _ _ _ _ _ => pts_nil) (fun _ _ _ _ _ => (pe_bmK (K := K) rfl PySem.F.plainAttrs_list PySem.F.slot_list_pop PySem.F.type_list_pop mt_popAt (pv 2) (pa_cons (pe_c D_draw hr (by decide) (by rfl) (pa_cons (pv 0) (pa_cons (pe_callB (call_len_seqK (K := K) rfl) (by rfl) T.len (by decide +kernel) (pa_cons (pv 2) pa_nil)) pa_nil))) pa_nil))))))), ?_⟩
    refine ⟨_, rfl, a, xs, rfl, .inl (SqL.of hx), fun b nb => ?_⟩
    have PA1 := PA.new (o := .lst xs) nb
    have hbp : b ≠ p := PA.nep nb
    have hbl : b ≠ l := PA.nel nb
    have hx1 : upd H b (.lst xs) a = some (.lst xs) := by rw [upd_ne (ne_of_none hx nb)]; exact hx
    refine ⟨_, rfl, a, xs, rfl, .inl (SqL.of hx1), xs.length, rfl, by omega, by omega, fun D nD => lc_range (lo := 0) (n := xs.length) (fun i H2 => ∃ got rest : List V, (got ++ rest).Perm xs ∧ got.length = i ∧ H2 D = some (.lst got) ∧ H2 b = some (.lst rest) ∧ PenAt H2 p l ns (n + (xs.length - i)) ∧ Fr p H H2) ?_ ?_ ?_⟩
    · have hDb : b ≠ D := ne_of_none upd_same nD
      refine ⟨[], xs, List.Perm.refl _, rfl, upd_same, by rw [upd_ne hDb, upd_same], (PA1.new nD).less (by omega), (Fr.new nb).trans (Fr.new nD)⟩
    · rintro i H2 hi ⟨got, rest, pm, hg, hD, hb, PA2, fr⟩
      have hlen : got.length + rest.length = xs.length := by
        have := pm.length_eq
        rw [List.length_append] at this
        exact this
      have hDb : D ≠ b := by
        intro e
        subst e
        rw [upd_same] at nD
        cases nD
      have nDH : H D = none := by
        cases e : H D with
        | none => rfl
        | some o =>
          rw [upd_ne (ne_of_none e nb), e] at nD
          cases nD
      have hDp : D ≠ p := PA.nep nDH
      have hDl : D ≠ l := PA.nel nDH
      refine ⟨rfl, ⟨_, rfl, .inl ⟨rfl, _, SqL.of hb⟩, _, rfl, _, rfl, b, _, rfl, .inl (SqL.of hb), p, l, ns, n + (xs.length - (i + 1)), _, rfl, PA2.less (by omega), by omega, by omega, fun v H3 v0 v1 PA3 fr3 => ?_⟩⟩
      obtain ⟨j, rfl⟩ : ∃ j : Nat, v = j := ⟨v.toNat, by omega⟩
      have hj : j < rest.length := by omega
      have hb3 : H3 b = some (.lst rest) := fr3 _ _ hb hbp
      have hD3 : H3 D = some (.lst got) := fr3 _ _ hD hDp
      refine ⟨b, _, _, j, rest[j], rfl, rfl, hb3, by omega, by omega, seq_ix hj, List.getElem?_eq_getElem hj, got, by rw [upd_ne hDb]; exact hD3, small1000 (by omega), got ++ [rest[j]], rest.eraseIdx j, permV pm (List.getElem?_eq_getElem hj), by simp [hg], upd_same, ?_, ?_, ?_⟩
      · rw [upd_ne (Ne.symm hDb), upd_same]
      · exact (PA3.other hbp hbl).other hDp hDl
      · exact ((fr.trans fr3).put nb).put nDH
    · rintro H2 ⟨got, rest, pm, hg, hD, hb, PA2, fr⟩
      have hr0 : rest = [] := by
        have := pm.length_eq
        rw [List.length_append] at this
        exact List.eq_nil_of_length_eq_zero (by omega)
      rw [hr0, List.append_nil] at pm
      have nDH : H D = none := by
        cases e : H D with
        | none => rfl
        | some o =>
          rw [upd_ne (ne_of_none e nb), e] at nD
          cases nD
      exact q D got H2 pm (PA2.less (by omega)) fr nDH hD
theorem ok_codes {f : Addr} {fd : FuncData} (F : Fun K "_law_codes" "_law_codes" s_codes f fd) (T : Blt mg) (D_draw : Df P w K mg base 1 "_law_draw" spDraw) (D_pick : Df P w K mg base 2 "_law_pick" (spPick K)) (D_shuffled : Df P w K mg base 2 "_law_shuffled" spShuf) : FnOk P w K mg base CX0 3 f fd ["_law_pen_here", "_law_some"] spCodes := by
  refine F.ok sc_codes (fun vs H Q E h => ?_) (fun cdv A outer s H vs Q E hr h => ?_)
  · obtain ⟨p, l, a, ns, n, cs, rfl, _⟩ := h
    rfl
  · obtain ⟨p, l, a, ns, n, cs, rfl, PA, ha, hap, nd, h26, hlt, q⟩ := h
    refine ⟨_, (pss_cons (ps_set (i := 2) sc_codes.nd rfl (.inr rfl) (pe_op op_cat (pe_lst (pa_cons pe_int (pa_cons pe_int (pa_cons pe_int (pa_cons pe_int (pa_cons pe_int (pa_cons pe_int pa_nil))))))) (pe_lc (own := [("_law_turn", 6)]) (g := gName 6) (by rfl) sc_codes.nd (pi_range1 (by rfl) T.range (pa_cons pe_int pa_nil)) (blkOk_by (own := [("_law_turn", 6)]) (N := n_codes) (sc := defScope s_codes) (by decide +kernel)) (fun _ _ _ _ _ => (pg_name (i := 6) sc_codes.nd rfl (.inl rfl))) (fun _ _ _ _ _ => pts_nil) (fun _ _ _ _ _ => (pe_c D_draw hr (by decide) (by rfl) (pa_cons (pv 0) (pa_cons pe_int pa_nil)))))))
      (pss_cons (ps_set (i := 3) sc_codes.nd rfl (.inl rfl) pe_dnewK)
      (pss_cons (ps_for PassesOwn.never rfl (pi_list (pe_c D_shuffled hr (by decide) (by rfl) (pa_cons (pv 0) (pa_cons (pv 1) pa_nil)))) (pg_name (i := 4) sc_codes.nd rfl (.inl rfl))
        (pss_cons (ps_set (i := 5) sc_codes.nd rfl (.inl rfl) (pe_c D_pick hr (by decide) (by rfl) (pa_cons (pv 0) (pa_cons (pe_lst (pa_cons pe_int (pa_cons pe_int (pa_cons pe_int (pa_cons pe_int (pa_cons pe_int (pa_cons pe_int pa_nil))))))) pa_nil))))
        (pss_one (ps_dput (hu_of hr) (pv 3) (pv 4) (pe_callTy (call_tuple_ofK (K := K) rfl) (by rfl) T.tuple (by decide +kernel) (pa_cons (pe_lc (own := [("_law_turn", 6)]) (g := gName 6) (by rfl) sc_codes.nd (pi_range1 (by rfl) T.range (pa_cons (pv 5) pa_nil)) (blkOk_by (own := [("_law_turn", 6)]) (N := n_codes) (sc := defScope s_codes) (by decide +kernel)) (fun _ _ _ _ _ => (pg_name (i := 6) sc_codes.nd rfl (.inl rfl))) (fun _ _ _ _ _ => pts_nil) (fun _ _ _ _ _ => (pe_c D_pick hr (by decide) (by rfl) (pa_cons (pv 0) (pa_cons (pv 2) pa_nil))))) pa_nil)) rfl))))
      (pss_one (ps_ret (pv 3)))))), ?_⟩
    refine ⟨by show 6 ≤ sizeLine; decide, fun b nb => ?_⟩
    have PAb := PA.new (o := .lst (nums [0, 1, 97, 194, 195, 255])) nb
    have hbp := PA.nep nb
    refine ⟨_, rfl, by decide, by decide, fun D nD => lc_range (lo := 0) (n := 2) (fun i H2 => H2 b = some (.lst (nums [0, 1, 97, 194, 195, 255])) ∧ (∃ s : List Nat, s.length = i ∧ (∀ k ∈ s, k < 256) ∧ H2 D = some (.lst (nums s))) ∧ PenAt H2 p l ns (n + 198 + (2 - i)) ∧ Fr p H H2) ?_ ?_ ?_⟩
    · have hbD : b ≠ D := ne_of_none upd_same nD
      exact ⟨by rw [upd_ne hbD]; exact upd_same, ⟨[], rfl, fun k h => (List.not_mem_nil h).elim, upd_same⟩, (PAb.new nD).less (by omega), (Fr.new nb).trans (Fr.new nD)⟩
    · rintro i H2 hi ⟨hb, ⟨s, hs, h256, hD⟩, PA2, fr⟩
      have hbD : b ≠ D := ne_of_none upd_same nD
      have hDp : D ≠ p := PAb.nep nD
      have hDl : D ≠ l := PAb.nel nD
      have nDH : H D = none := by
        rw [← nD, upd_ne (Ne.symm hbD)]
      refine ⟨rfl, _, rfl, p, l, ns, n + 198 + (2 - (i + 1)), 256, rfl, PA2.less (by omega), by decide, by decide, fun v H3 v0 v1 PA3 fr3 => ?_⟩
      obtain ⟨j, rfl⟩ : ∃ j : Nat, v = j := ⟨v.toNat, by omega⟩
      have hD3 := fr3 _ _ hD hDp
      refine ⟨nums s, hD3, by rw [nums_len]; exact small1000 (by omega), ?_, ⟨s ++ [j], by simp [hs], fun k hk => ?_, ?_⟩, PA3.other hDp hDl, (fr.trans fr3).put nDH⟩
      · rw [upd_ne hbD]
        exact fr3 _ _ hb hbp
      · rcases List.mem_append.mp hk with h | h
        · exact h256 k h
        · rw [List.mem_singleton.mp h]
          omega
      · rw [upd_same, ← nums_app]
        rfl
    · rintro H2 ⟨hb, ⟨s8, hs, h256, hD⟩, PA2, fr⟩
      refine ⟨b, D, _, _, rfl, rfl, hb, hD, by rw [nums_len, nums_len, sizeLine_eq]; show 6 + s8.length ≤ _; omega, fun e ne => ?_⟩
      rw [nums_app]
      have n8 : ∀ k ∈ [0, 1, 97, 194, 195, 255] ++ s8, k < 256 := fun k hk => by
        rcases List.mem_append.mp hk with h | h
        · exact (show ∀ k ∈ [0, 1, 97, 194, 195, 255], k < 256 by decide) k h
        · exact h256 k h
      have l8 : ([0, 1, 97, 194, 195, 255] ++ s8).length = 8 := by
        rw [List.length_append, hs]
        rfl
      generalize [0, 1, 97, 194, 195, 255] ++ s8 = s9 at n8 l8 ⊢
      refine fun d nd0 => ?_
      have hed : e ≠ d := ne_of_none upd_same nd0
      have neH : H e = none := by
        cases z : H e with
        | none => rfl
        | some o =>
          have := fr _ _ z (PA2.nep ne)
          rw [this] at ne
          cases ne
      have ndH2 : H2 d = none := by
        rw [← nd0, upd_ne (Ne.symm hed)]
      have ndH : H d = none := by
        cases z : H d with
        | none => rfl
        | some o =>
          have := fr _ _ z (PA2.nep ndH2)
          rw [this] at ndH2
          cases ndH2
      have PA3 : PenAt (upd (upd H2 e (.lst (nums s9))) d (.dK [])) p l ns (n + 198) := ((PA2.new ne).new nd0).less (by omega)
      have fr3 : Fr p H (upd (upd H2 e (.lst (nums s9))) d (.dK [])) := (fr.put neH).put ndH
      have he3 : upd (upd H2 e (.lst (nums s9))) d (.dK []) e = some (.lst (nums s9)) := by rw [upd_ne hed]; exact upd_same
      have hd3 : upd (upd H2 e (.lst (nums s9))) d (.dK []) d = some (.dK []) := upd_same
      generalize upd (upd H2 e (.lst (nums s9))) d (.dK []) = H3 at PA3 fr3 he3 hd3 ⊢
      clear hb hD PA2 fr ne nd0 ndH2 hed
      have hep : e ≠ p := PA.nep neH
      have hel : e ≠ l := PA.nel neH
      have hdp : d ≠ p := PA.nep ndH
      have hdl : d ≠ l := PA.nel ndH
      have hed : e ≠ d := ne_of he3 hd3 (fun z => nomatch z)
      refine ⟨_, rfl, _, rfl, p, l, a, ns, n + 150, lets cs, rfl, PA3.less (by rw [lets_len]; omega), fr3 _ _ ha hap, hap, by rw [lets_len]; omega, fun L ys H4 pm PA4 fr4 nL hL => ?_⟩
      obtain ⟨ds, rfl, pd⟩ := un_lets pm
      have ndd : ds.Nodup := pd.nodup_iff.mpr nd
      have hld : ds.length = cs.length := pd.length_eq
      have hLp : L ≠ p := PA3.nep nL
      have hLl : L ≠ l := PA3.nel nL
      have hLd : L ≠ d := (ne_of_none hd3 nL).symm
      refine ⟨L, rfl, ⟨_, SqL.of hL⟩, for_it (walk_list (K := K) (a := L) (xs := lets ds)) (fun i σ H5 => ∃ (v4 v5 : Option V) (B : Ad) (t : Tab), σ = [some (.ref p), some (.ref a), some (.ref e), some (.ref d), v4, v5, none] ∧ H5 e = some (.lst (nums s9)) ∧ H5 d = some (.dK (encC B t)) ∧ Tups H5 B t ∧ GoodC t ∧
        (∀ c ∈ t.map (·.1), c ∈ ds.take i) ∧ PenAt H5 p l ns (n + 5 * (26 - i)) ∧ Fr p H H5 ∧ H5 L = some (.lst (lets ds))) ⟨none, none, fun _ => 0, [], rfl, fr4 _ _ he3 hep, fr4 _ _ hd3 hdp, fun q h => (List.not_mem_nil h).elim, GoodC.nil, fun c h => (List.not_mem_nil h).elim, PA4.less (by omega), fr3.trans fr4, hL⟩ ?_ ?_ ?_⟩
      · rintro i σ H5 hi ⟨v4, v5, B, t, rfl, he5, hd5, tu, g, ks, PA5, fr5, hL5⟩
        exact SqL.of hL5
      · rintro i x σ H50 H5 hi ⟨v4, v5, B, t, rfl, he5, hd5, tu, g, ks, PA5, fr5, hL5⟩ ⟨rfl, hx⟩
        obtain ⟨hi', rfl⟩ := lets_get hx
        generalize hc : ds[i] = c
        have hc1 : ds[i]? = some c := by rw [List.getElem?_eq_getElem hi', hc]
        obtain ⟨eT, nT⟩ := lets_take ndd hc1
        have hcc : isLt c := hlt _ (pd.mem_iff.mp (hc ▸ List.getElem_mem hi'))
        have nk : c ∉ t.map (·.1) := fun z => nT (ks c z)
        have li : i < 26 := by omega
        -- many
        refine ⟨_, rfl, by show 6 ≤ sizeLine; decide, fun m nm => ?_⟩
        have hmp := PA5.nep nm
        have PA6 := PA5.new (o := .lst [.int 1, .int 1, .int 2, .int 2, .int 3, .int 4]) nm
        refine ⟨p, l, m, ns, n + 5 * (26 - i) - 1, [.int 1, .int 1, .int 2, .int 2, .int 3, .int 4], rfl, PA6.less (by omega), SqL.of upd_same, by decide, by decide, fun H' f => SqL.of (f _ _ upd_same hmp), fun v H6 hv PA7 fr7 => ?_⟩
        obtain ⟨k, rfl, k1, k4⟩ : ∃ k : Nat, v = .int ((k : Nat) : Int) ∧ 1 ≤ k ∧ k ≤ 4 := by
          simp only [List.mem_cons, List.not_mem_nil, or_false] at hv
          rcases hv with rfl | rfl | rfl | rfl | rfl | rfl
          · exact ⟨1, rfl, by omega, by omega⟩
          · exact ⟨1, rfl, by omega, by omega⟩
          · exact ⟨2, rfl, by omega, by omega⟩
          · exact ⟨2, rfl, by omega, by omega⟩
          · exact ⟨3, rfl, by omega, by omega⟩
          · exact ⟨4, rfl, by omega, by omega⟩
        have up6 : ∀ b o, H5 b = some o → b ≠ p → H6 b = some o := fun b o eo hb => fr7 _ _ (by rw [upd_ne (ne_of_none eo nm)]; exact eo) hb
        have nmH : H m = none := by
          cases z : H m with
          | none => rfl
          | some o =>
            have := fr5 _ _ z hmp
            rw [this] at nm
            cases nm
        have fr6 : Fr p H H6 := fun b o eo hb => up6 _ _ (fr5 _ _ eo hb) hb
        have tu6 : Tups H6 B t := fun q hq => by
          obtain ⟨xs, hp⟩ := PA5.pen
          exact up6 _ _ (tu q hq) (ne_of (tu q hq) hp (fun z => nomatch z))
        have he6 := up6 _ _ he5 hep
        have hd6 := up6 _ _ hd5 hdp
        have hL6 := up6 _ _ hL5 hLp
        -- the code
        refine ⟨_, rfl, ((k : Nat) : Int), rfl, by omega, by omega, fun D2 nD2 => lc_range (lo := 0) (n := k) (fun i2 H7 => (∃ s : List Nat, s.length = i2 ∧ (∀ k ∈ s, k < 256) ∧ H7 D2 = some (.lst (nums s))) ∧ PenAt H7 p l ns (n + 5 * (26 - (i + 1)) + (4 - i2)) ∧ (∀ b o, H6 b = some o → b ≠ p → H7 b = some o)) ?_ ?_ ?_⟩
        · refine ⟨⟨[], rfl, fun k h => (List.not_mem_nil h).elim, upd_same⟩, (PA7.new nD2).less (by omega), fun b o eo hb => by rw [upd_ne (ne_of_none eo nD2)]; exact eo⟩
        · rintro i2 H7 hi2 ⟨⟨s, hs, h256, hD⟩, PA8, fr8⟩
          have hDp : D2 ≠ p := PA7.nep nD2
          have hDl : D2 ≠ l := PA7.nel nD2
          refine ⟨rfl, _, rfl, _, rfl, p, l, e, ns, n + 5 * (26 - (i + 1)) + (4 - (i2 + 1)), nums s9, rfl, PA8.less (by omega), SqL.of (fr8 _ _ he6 hep), by rw [nums_len]; omega, by rw [nums_len]; omega, fun H' f => SqL.of (f _ _ (fr8 _ _ he6 hep) hep), fun v H8 hv PA9 fr9 => ?_⟩
          obtain ⟨j, hj, rfl⟩ := nums_mem hv
          refine ⟨nums s, fr9 _ _ hD hDp, by rw [nums_len]; exact small1000 (by omega), ⟨s ++ [j], by simp [hs], fun k hk => ?_, ?_⟩, PA9.other hDp hDl, fun b o eo hb => ?_⟩
          · rcases List.mem_append.mp hk with h | h
            · exact h256 k h
            · rw [List.mem_singleton.mp h]
              exact n8 j hj
          · rw [upd_same, ← nums_app]
            rfl
          · rw [upd_ne (ne_of_none eo nD2)]
            exact fr9 _ _ (fr8 _ _ eo hb) hb
        · rintro H7 ⟨⟨s, hs, h256, hD⟩, PA8, fr8⟩
          refine ⟨D2, nums s, rfl, .inl ⟨SqL.of hD, fun tq nt => ?_⟩⟩
          have up8 : ∀ b o, H6 b = some o → b ≠ p → upd H7 tq (.tup (nums s)) b = some o := fun b o eo hb => by
            have e8 := fr8 _ _ eo hb
            rw [upd_ne (ne_of_none e8 nt)]
            exact e8
          have PA10 := PA8.new (o := .tup (nums s)) nt
          have hd8 := up8 _ _ hd6 hdp
          refine ⟨_, rfl, _, rfl, d, _, rfl, DPut.l hd8 (by rw [encC_len]; have := g.key; exact small1000 (by omega)), ?_⟩
          have hdt : d ≠ tq := fun z => by
            have e9 := fr8 _ _ hd6 hdp
            rw [z, nt] at e9
            cases e9
          have htd := Ne.symm hdt
          have htq : upd (upd H7 tq (.tup (nums s))) d (.dK (putK (encC B t) (kL c) (.ref tq))) tq = some (.tup (nums s)) := by rw [upd_ne htd]; exact upd_same
          have g4 : GoodI4 s := ⟨by omega, by omega, h256⟩
          have ep : putK (encC B t) (kL c) (.ref tq) = encC (setA B c tq) (t ++ [(c, s)]) := by
            have h1 := putG (kf := kL) (vf := fun q => V.ref (setA B c tq q.1)) kL_inj (t := t) (c := c) (s := s) nk
            have h2 : V.ref (setA B c tq c) = V.ref tq := by
              show V.ref (if c = c then tq else B c) = _
              rw [if_pos rfl]
            have h3 : encG kL (fun q => V.ref (setA B c tq q.1)) t = encC B t := encC_set nk
            rw [h3] at h1
            refine Eq.trans ?_ h1
            show _ = putK (encC B t) (kL c) (V.ref (setA B c tq c))
            rw [h2]
          have ups : ∀ b o, H6 b = some o → b ≠ p → b ≠ d → upd (upd H7 tq (.tup (nums s))) d (.dK (putK (encC B t) (kL c) (.ref tq))) b = some o := fun b o eo hb hd => by
            rw [upd_ne hd]
            exact up8 _ _ eo hb
          refine ⟨_, _, setA B c tq, t ++ [(c, s)], rfl, ups _ _ he6 hep hed, by rw [upd_same, ep], Tups.snoc (fun q hq => ?_) nk htq, g.snoc hcc g4 nk, fun x hx => ?_, (PA10.other hdp hdl).less (by omega), fun b o eo hb => ?_, ups _ _ hL6 hLp hLd⟩
          · obtain ⟨xs, hp⟩ := PA7.pen
            exact ups _ _ (tu6 q hq) (ne_of (tu6 q hq) hp (fun z => nomatch z)) (ne_of (tu6 q hq) hd6 (fun z => nomatch z))
          · rw [List.map_append] at hx
            rw [eT]
            rcases List.mem_append.mp hx with h | h
            · exact List.mem_append_left _ (ks x h)
            · exact List.mem_append_right _ h
          · exact ups _ _ (fr6 _ _ eo hb) hb (ne_of_none eo ndH)
      · rintro σ H5 ⟨v4, v5, B, t, rfl, he5, hd5, tu, g, ks, PA5, fr5, hL5⟩
        exact ⟨_, rfl, q d B t H5 ⟨hd5, tu, g⟩ (fun z hz => pd.mem_iff.mp (List.mem_of_mem_take (ks z.1 (List.mem_map_of_mem hz)))) (PA5.less (by omega)) fr5 ndH⟩
end
end V8

set_option Elab.async false
set_option linter.all false
set_option maxRecDepth 100000
set_option maxHeartbeats 8000000
/-! What is heard, as data; what stays. -/
namespace V8
open PySem PySem.Spec PyProof.Rows L2 MX SetT LamX PySem.Builtin.Str
theorem quote_letters {w : List Nat} (h : ∀ c ∈ w, isLt c) : reprText (Sx w) = Sx (39 :: (w ++ [39])) := by
  have hq : reprQuote (Sx w) = 39 := by
    unfold reprQuote
    have : (Sx w).cps.contains 39 = false := by
      cases z : (Sx w).cps.contains 39 with
      | false => rfl
      | true =>
        have m := Array.contains_iff_mem.mp z
        have m2 : 39 ∈ w := by
          have := Array.mem_toList_iff.mpr m
          exact this |> fun z => by
            have e : (Sx w).cps.toList = w := by show w.toArray.toList = w; simp
            rw [e] at z
            exact z
        have := h _ m2
        exact absurd this (by decide)
    rw [this]
    rfl
  have one : ∀ c, isLt c → reprChar 39 c = [c] := fun c hc => (show ∀ c ∈ abc, reprChar 39 c = [c] by decide +kernel) c (abc_mem.mpr hc)
  have fold : ∀ (l : List Nat) (acc : Array Nat), (∀ c ∈ l, isLt c) → l.foldl (fun out c => out ++ (reprChar 39 c).toArray) acc = acc ++ l.toArray := by
    intro l
    induction l with
    | nil => intro acc _; simp
    | cons a r ih =>
      intro acc hl
      rw [List.foldl_cons, one a (hl a (List.mem_cons_self ..)), ih _ fun c hc => hl c (List.mem_cons_of_mem _ hc)]
      apply Array.toList_inj.mp
      simp
  unfold reprText
  rw [hq, ← Array.foldl_toList]
  have e : (Sx w).cps.toList = w := by show w.toArray.toList = w; simp
  rw [e, fold w _ h]
  show (⟨_⟩ : Str) = ⟨_⟩
  congr 1
  apply Array.toList_inj.mp
  simp
theorem py_strs {H : Hp} : ∀ l : List Str, PyWs H (l.map V.str) (l.map PyData.str)
  | [] => .nil
  | _ :: r => .cons (.str _) (py_strs r)
theorem dp_strs {K : PySem.W.Frag} {H : Hp} : ∀ l : List Str, DpAll K H (l.map V.str) (l.map PyData.str)
  | [] => .nil
  | _ :: r => .cons (.str _) (dp_strs r)
theorem lay_str : ∀ {zs : List Str}, (∀ z ∈ zs, PyData.strOk z = true ∧ z.length ≤ 3000) → PyData.canLayAll0 (zs.map .str) = true
  | [], _ => by simp [PyData.canLayAll0]
  | z :: r, h => by
    have ih := lay_str (zs := r) fun x hx => h x (List.mem_cons_of_mem _ hx)
    simp only [List.map_cons, PyData.canLayAll0, PyData.canLay0, (h z List.mem_cons_self).1, ih, Bool.and_true]
theorem dep_str : ∀ zs : List Str, PyData.depthAll (zs.map .str) = 0
  | [] => by simp [PyData.depthAll]
  | z :: r => by simp [PyData.depthAll, PyData.depth, dep_str r]
theorem show_str {z : Str} (h : PyData.strOk z = true) : (PyData.str z).shown.length ≤ 10 * z.length + 2 := by
  simp only [PyData.shown]
  refine PySem.StrLaws.reprText_len z fun c hc => ?_
  unfold PyData.strOk at h
  rw [← Array.all_toList, List.all_eq_true] at h
  have := of_decide_eq_true (h c hc)
  have e : (16 : Nat) ^ 8 = 4294967296 := by decide
  omega
theorem via {t : TE} {σ : L2.St} {H : Hp} {R : VK} (A : V → Hp → Prop) (h1 : ∀ R' : VK, (∀ v H', A v H' → R' v H') → t σ H R') (h2 : ∀ v H', A v H' → R v H') : t σ H R := h1 R h2
theorem pair_right {α β : Type} {R : α → β → Prop} {xs : List α} {ys : List β} (h : Paired R xs ys) : ∀ y ∈ ys, ∃ x ∈ xs, R x y := by
  induction h with
  | nil => exact fun y hy => absurd hy List.not_mem_nil
  | cons r _ ih =>
    intro y hy
    rcases List.mem_cons.mp hy with rfl | hy
    · exact ⟨_, List.mem_cons_self, r⟩
    · obtain ⟨x, hx, rx⟩ := ih y hy
      exact ⟨x, List.mem_cons_of_mem _ hx, rx⟩
theorem pairs_held {H H2 : Hp} {p : Addr} {S : Addr → Prop} : ∀ {xs : List V} {ds : List PyData}, Paired (Held H) xs ds → (∀ v ∈ xs, ∀ a, v = .ref a → S a) → (∀ a, S a → a ≠ p) → Mv p H H2 → Paired (Held H2) xs ds
  | [], [], .nil, _, _, _ => .nil
  | x :: xs, d :: ds, .cons h r, np, sp, m => .cons (held_mv h (fun a e => sp a (np x List.mem_cons_self a e)) m) (pairs_held r (fun v hv => np v (List.mem_cons_of_mem _ hv)) sp m)
theorem held_ext {H H2 : Hp} {x : V} {d : PyData} (h : Held H x d) (e : ExtN H H2) : Held H2 x d := held_move h fun b o eb hb => by
  subst eb
  obtain ⟨o2, e2, n2⟩ := held_shape h
  rw [e2] at hb
  cases hb
  exact e _ _ e2 n2
def wdD (b : Bad) : PyData := .tuple ((wordsB b).map .str)
theorem hrB_ext {H H2 : Hp} {v : V} {b : Bad} (h : HrB H v b) (s : ExtN H H2) : HrB H2 v b := by
  obtain ⟨t, e, ht⟩ := h
  exact ⟨t, e, s _ _ ht (fun _ z => nomatch z)⟩
theorem hrB_at {p : Addr} {H H2 : Hp} {v : V} {b : Bad} (h : HrB H v b) (P : PenL H p) (m : Mv p H H2) : HrB H2 v b := by
  obtain ⟨t, e, ht⟩ := h
  exact ⟨t, e, m.at P ht (fun _ z => nomatch z) (fun _ z => nomatch z)⟩
theorem hrB_py {H : Hp} {v : V} {b : Bad} (h : HrB H v b) : PyW H v (wdD b) := by
  obtain ⟨t, rfl, ht⟩ := h
  exact .tup ht (py_strs _)
theorem hrB_dp {K : PySem.W.Frag} {H : Hp} {v : V} {b : Bad} (h : HrB H v b) : Dp K H v (wdD b) := by
  obtain ⟨t, rfl, ht⟩ := h
  exact .tup (.inl (.inl ht)) (dp_strs _)
theorem words_ok {b : Bad} (h : BadOk b) : ∀ z ∈ wordsB b, PyData.strOk z = true ∧ z.length ≤ 3000 := fun z hz => by
  cases b with
  | one i d =>
    have hw : ∀ i, PyData.strOk (wordOf i) = true ∧ (wordOf i).length ≤ 3000 := fun i => by
      match i with
      | 0 => exact ⟨by decide +kernel, by decide +kernel⟩
      | 1 => exact ⟨by decide +kernel, by decide +kernel⟩
      | 2 => exact ⟨by decide +kernel, by decide +kernel⟩
      | 3 => exact ⟨by decide +kernel, by decide +kernel⟩
      | 4 => exact ⟨by decide +kernel, by decide +kernel⟩
      | _ + 5 => exact ⟨by show PyData.strOk "unlike" = true; decide +kernel, by show ("unlike" : Str).length ≤ 3000; decide +kernel⟩
    have hz2 : z ∈ [wordOf i, d.shown] := hz
    simp only [List.mem_cons, List.not_mem_nil, or_false] at hz2
    rcases hz2 with rfl | rfl
    · exact hw i
    · exact ⟨h.2.sh, h.2.sz⟩
theorem words_two (b : Bad) : (wordsB b).length = 2 := by
  cases b with
  | one i d => rfl
theorem wd_lay {b : Bad} (h : BadOk b) : (wdD b).canLay0 = true ∧ (wdD b).depth ≤ 1 :=
  ⟨by show (PyData.tuple _).canLay0 = true; simp only [PyData.canLay0]; exact lay_str (words_ok h), by show (PyData.tuple _).depth ≤ 1; simp only [PyData.depth, dep_str]; omega⟩
theorem wd_tells {b : Bad} (h : BadOk b) : (wdD b).showable = true ∧ (wdD b).depth ≤ 2 ∧ (wdD b).shown.length ≤ 200000 := by
  refine ⟨?_, by have := (wd_lay h).2; omega, ?_⟩
  · show (PyData.tuple _).showable = true
    simp only [PyData.showable]
    exact show_all fun d hd => by
      obtain ⟨z, _, rfl⟩ := List.mem_map.mp hd
      simp [PyData.showable]
  · have := tup_sz (ds := (wordsB b).map PyData.str) 30002 fun d hd => by
      obtain ⟨z, hz, rfl⟩ := List.mem_map.mp hd
      obtain ⟨h1, h2⟩ := words_ok h z hz
      have := show_str h1
      omega
    rw [List.length_map, words_two] at this
    show (PyData.tuple ((wordsB b).map PyData.str)).shown.length ≤ 200000
    omega
theorem tells_of {d : PyData} (h : d.showable = true ∧ d.depth ≤ 2 ∧ d.shown.length ≤ 200000) : Tells d := ⟨h.1, by omega, by omega⟩
theorem wds_shaped {bs : List Bad} (h : ∀ b ∈ bs, BadOk b) : SeqAt.shaped (.list (bs.map wdD)) = true := by
  have l : PyData.canLayAll0 (bs.map wdD) = true ∧ PyData.depthAll (bs.map wdD) ≤ 1 := by
    induction bs with
    | nil => exact ⟨by simp [PyData.canLayAll0], by simp [PyData.depthAll]⟩
    | cons r rs ih =>
      obtain ⟨h1, h2⟩ := wd_lay (h r List.mem_cons_self)
      obtain ⟨h3, h4⟩ := ih fun x hx => h x (List.mem_cons_of_mem _ hx)
      refine ⟨?_, ?_⟩
      · simp only [List.map_cons, PyData.canLayAll0, h1, h3, Bool.and_true]
      · simp only [List.map_cons, PyData.depthAll]
        omega
  exact shaped_of (by simp only [PyData.canLay0]; exact l.1) (by simp only [PyData.depth]; have := l.2; omega)
theorem wd_shaped {b : Bad} (h : BadOk b) : SeqAt.shaped (wdD b) = true := shaped_of (wd_lay h).1 (by have := (wd_lay h).2; omega)
/-! ### tables in a heap that moves -/
theorem WrU.mv {C p x : Addr} {H H2 : Hp} {A : Ad} {t : Tab} (r : WrU C H x A t) (P : PenL H p) (m : Mv p H H2) : WrU C H2 x A t := by
  obtain ⟨⟨dx, b, h1, h2⟩, tu, g⟩ := r
  exact ⟨⟨dx, b, m.at P h1 (fun _ z => nomatch z) (fun _ z => nomatch z), m.at P h2 (fun _ z => nomatch z) (fun _ z => nomatch z)⟩, fun q hq => m.at P (tu q hq) (fun _ z => nomatch z) (fun _ z => nomatch z), g⟩
theorem CodA.mv {p d : Addr} {H H2 : Hp} {A : Ad} {t : Tab} (r : CodA H d A t) (P : PenL H p) (m : Mv p H H2) : CodA H2 d A t :=
  ⟨m.at P r.1 (fun _ z => nomatch z) (fun _ z => nomatch z), fun q hq => m.at P (r.2.1 q hq) (fun _ z => nomatch z) (fun _ z => nomatch z), r.2.2⟩
theorem WrU.ext {C x : Addr} {H H2 : Hp} {A : Ad} {t : Tab} (r : WrU C H x A t) (m : ExtN H H2) : WrU C H2 x A t := by
  obtain ⟨⟨dx, b, h1, h2⟩, tu, g⟩ := r
  exact ⟨⟨dx, b, m _ _ h1 (fun _ z => nomatch z), m _ _ h2 (fun _ z => nomatch z)⟩, fun q hq => m _ _ (tu q hq) (fun _ z => nomatch z), g⟩
theorem CodA.ext {d : Addr} {H H2 : Hp} {A : Ad} {t : Tab} (r : CodA H d A t) (m : ExtN H H2) : CodA H2 d A t :=
  ⟨m _ _ r.1 (fun _ z => nomatch z), fun q hq => m _ _ (r.2.1 q hq) (fun _ z => nomatch z), r.2.2⟩
/-- none of what was there is at W -/
def Off (p W : Addr) (H : Hp) : Prop := ∀ b o, H b = some o → b ≠ p → (∀ ps, o ≠ .tbl ps) → b ≠ W
theorem Mv.off {p W : Addr} {H H1 : Hp} (m : Mv p H H1) (n : H1 W = none) : Off p W H := fun b o e np nt => ne_of_none (m b o e np nt) n
theorem Mv.put {p W : Addr} {H H1 : Hp} {o : HO} (m : Mv p H H1) (f : Off p W H) : Mv p H (upd H1 W o) := fun b u e np nt => by
  rw [upd_ne (f b u e np nt)]
  exact m b u e np nt
end V8

set_option Elab.async false
set_option linter.all false
set_option maxRecDepth 100000
set_option maxHeartbeats 4000000
/-! d.update(b); a new dict gone over where it stands; a | b by a method that may raise. -/
namespace L2
open PySem PySem.Spec PyProof.Rows
section
variable {X : Cx}
def rUpd : V → List V → Hp → VK → Prop := fun x vs H Q => ∃ d b kvs more, x = .ref d ∧ vs = [.ref b] ∧ d ≠ b ∧ H d = some (.dK kvs) ∧ H b = some (.dK more) ∧ kvs.length + more.length ≤ 1000 ∧ Q .non (upd H d (.dK (mergeK kvs more)))
theorem mt_update : MtM X "dict.update" rUpd := by
  intro pins s σ H x vs v us Q I rx rv h
  obtain ⟨d, b, kvs, more, rfl, rfl, ne, hd, hb, few, q⟩ := h
  cases rx
  obtain ⟨u, rfl, ru⟩ := rv.one
  cases ru
  obtain ⟨z, lo, xs, r, dd⟩ := dk_of I.hok hd
  obtain ⟨z2, lo2, ys, r2, dd2⟩ := dk_of I.hok hb
  have e1 : xs.length = kvs.length := (Paired.length r).symm
  have e2 : ys.length = more.length := (Paired.length r2).symm
  refine PySem.call_meetsIn F.slot_dict_update dd.typeIs F.entry_dict_update (F.args_dict_update_2 _ _) (meets_dict_update (mixKind X.prog X.w) d b ne lo2) ⟨xs, ys, dd, dd2, by rw [sizeLine_eq]; omega, fun h' dd' _ sb => ?_⟩
  have hz : (mergeK kvs more).length ≤ sizeLine := by
    have h1 := length_mergeK more kvs
    rw [sizeLine_eq]; omega
  have he : ∃ q, h'.get? d = some q := let ⟨q, _, _, hq, _⟩ := dd'; ⟨q, hq⟩
  exact ⟨.non, _, d_write I (by rw [hd]; exact True.intro) sb he (dk_new hz lo (r2.merge r) dd'), rfl, q⟩
/-! ### a new dict, gone over where it stands -/
/-- the keys of a dict just made; it stays locked -/
def iKeysF (td : TE) : TI := fun σ H R => td σ H fun x H1 => ∃ d kvs, x = .ref d ∧ H1 d = some (.dK kvs) ∧ ∀ od, R (Itk d od kvs) (upd H1 d (.frz od (.dK kvs)))
theorem pi_keysF {tg e : Expr} {td : TE} (he : PE X e td) : PI X tg e (iKeysF td) := by
  refine ⟨fun pins s σ H R I h => ?_⟩
  refine thn (he.run pins s σ H _ I h) fun u s1 ⟨x, H1, I1, rx, d, kvs, ex, hd, q⟩ => ?_
  subst ex
  obtain rfl : u = Value.ref d := rx
  obtain ⟨od, I2⟩ := I1.lock hd True.intro
  obtain ⟨hs, hgd, hx, es, ep, vs, hdt, hsz, _⟩ := I2.frzK (upd_same : upd H1 d (.frz od (.dK kvs)) d = _)
  refine iter_keys hs hgd hx hdt (pi_one (tk := s1.toks) I2 _ (turn_keys _ hdt) ⟨_, Heap.get?_push_size _ rfl, rfl, ?_⟩ (q od))
  rw [hsz] <;> rfl
/-- what was locked on the way is unlocked -/
def tUnl (t : TE) : TE := fun σ H Q => t σ H fun v H1 => ∃ d od u, H d = none ∧ H1 d = some (.frz od u) ∧ Q v (upd H1 d u)
theorem pe_unl {e : Expr} {t : TE} (h : PE X e t) : PE X e (tUnl t) := by
  refine ⟨fun pins s σ H Q I hw => ?_⟩
  refine thn (h.run pins s σ H _ I hw) fun v s1 ⟨x, H1, I1, r, d, od, u, hn, hd, q⟩ => ?_
  refine ⟨x, _, I1.unlock hd (fun o' u' e => ?_), r, q⟩
  have q := I.base.frzs d o' u' e
  rw [hn] at q
  cases q
end
/-! ### signs -/
section
variable {X : Cx} {C : CXT} {k j : Nat} {Cl : Addr} {m : Str} {sp : Sp} {E : XK} {K : PySem.W.Frag}
theorem op_binG {op : Operator} (hK : X.K = K) (M : MfG X.prog X.w X.K X.mg X.base C k Cl m sp) (g : Quiet X.A) (out : Passes C X E) (hc : PySem.W.selfFirst X.K Cl = true) (hr : Room j X.A) (hk : k ≤ j) (hm : PySem.dunder op.info.2 = m := by rfl) : OpR X (binaryOp op) (rBinOwn K Cl sp E) := by
  subst hK
  obtain ⟨f, fd, ps, F, _, own, fi, b⟩ := M.ex
  intro pins s σ H x y v u Q I rx ry h
  obtain ⟨a, dx, fs, b', dy, gs, rfl, ha, rfl, hbb, hsp⟩ := h
  cases rx
  cases ry
  obtain ⟨od, J⟩ := inst_at I ha
  obtain ⟨od2, J2⟩ := inst_at I hbb
  obtain ⟨m, hF⟩ := I.fr
  refine PySem.W.binop_K hF I.ok.mod.kin J J2.type hc (hm ▸ own.find) own.fn (thn (runQ F g (Sub.here (hr.mono hk)) b out I (show Vals [V.ref a, V.ref b'] [Value.ref a, Value.ref b'] from .cons rfl (.cons rfl .nil)) hsp) fun r s' q => ?_)
  obtain ⟨z, H', I', rz, q⟩ := q
  exact notNI rz ⟨z, H', I', rz, q⟩
theorem op_anyG {op : Operator} (hK : X.K = K) (M : MfG X.prog X.w X.K X.mg X.base C k Cl m sp) (g : Quiet X.A) (out : Passes C X E) (hc : PySem.W.selfFirst X.K Cl = true) (hn : PySem.W.findIn X.K (.ref Cl) (PySem.dunderR op.info.2) = some none) (hr : Room j X.A) (hk : k ≤ j) (hm : PySem.dunder op.info.2 = m := by rfl) : OpR X (binaryOp op) (rBinAny K Cl op.info.2 sp E) := by
  subst hK
  obtain ⟨f, fd, ps, F, _, own, fi, b⟩ := M.ex
  intro pins s σ H x y v u Q I rx ry h
  obtain ⟨a, dx, fs, t, rfl, ha, ty, bt, hsp⟩ := h
  cases rx
  obtain ⟨od, J⟩ := inst_at I ha
  obtain ⟨m, hF⟩ := I.fr
  obtain ⟨P, Z, p, _⟩ := kit_of I ry ty
  obtain ⟨T, fo, ro, rfl, h1, h2, h3⟩ := bt.ex
  refine PySem.W.bin_any hF I.ok.mod.kin J (Z.ty _ _ I.kIn p) hc (hm ▸ own.find) own.fn hn (.inl rfl) h1 h2 h3 (thn (runQ F g (Sub.here (hr.mono hk)) b out I (show Vals [V.ref a, y] [Value.ref a, u] from .cons rfl (.cons ry .nil)) hsp) fun r s' q => ?_)
  obtain ⟨z, H', I', rz, q⟩ := q
  exact notNI rz ⟨z, H', I', rz, q⟩
end
end L2

set_option Elab.async false
set_option linter.all false
set_option maxRecDepth 100000
set_option maxHeartbeats 8000000
/-! Two tables joined: what is drawn, what clashes. -/
namespace V8
open PySem PySem.Spec PyProof.Rows L2 MX SetT LamX
theorem cut3 (xs : List V) : cutV xs none (some 3) = xs.take 3 := by
  unfold cutV
  rw [HT.sIx_none, List.drop_zero]
  have e : HT.sIx xs.length xs.length (some 3) = min 3 xs.length := HT.sIx_nat _ _ 3
  rw [e, Nat.sub_zero, ← List.take_eq_take_min]
theorem lets_app (a b : List Nat) : lets a ++ lets b = lets (a ++ b) := (List.map_append ..).symm
theorem lets_cut (a : List Nat) (k : Nat) : (lets a).take k = lets (a.take k) := List.map_take.symm
/-! ### letters, each once -/
def ddL : List Nat → List Nat → List Nat
  | acc, [] => acc
  | acc, c :: r => ddL (if c ∈ acc then acc else acc ++ [c]) r
def keyJ (l : List Nat) : List (Key × V) := l.map fun c => (kL c, V.bl true)
theorem putJ (acc : List Nat) (c : Nat) : putK (keyJ acc) (kL c) (.bl true) = keyJ (if c ∈ acc then acc else acc ++ [c]) := by
  unfold putK
  by_cases h : c ∈ acc
  · have a1 : ((keyJ acc).any fun kv => decide (kv.1 = kL c)) = true := List.any_eq_true.mpr ⟨(kL c, V.bl true), List.mem_map.mpr ⟨c, h, rfl⟩, decide_eq_true rfl⟩
    rw [if_pos h, if_pos a1]
    unfold keyJ
    rw [List.map_map]
    refine List.map_congr_left fun a _ => ?_
    show (if kL a = kL c then (kL a, V.bl true) else (kL a, V.bl true)) = _
    split <;> rfl
  · rw [if_neg h, if_neg]
    · unfold keyJ
      rw [List.map_append]
      rfl
    · intro z
      obtain ⟨p, hp, e⟩ := List.any_eq_true.mp z
      obtain ⟨q, hq, rfl⟩ := List.mem_map.mp hp
      have e' : kL q = kL c := by simpa using e
      exact h (kL_inj _ _ e' ▸ hq)
theorem mergeJ : ∀ (l acc : List Nat), mergeK (keyJ acc) (keyJ l) = keyJ (ddL acc l)
  | [], acc => rfl
  | c :: r, acc => by
    have e : mergeK (keyJ acc) (keyJ (c :: r)) = mergeK (putK (keyJ acc) (kL c) (.bl true)) (keyJ r) := rfl
    rw [e, putJ, mergeJ r]
    rfl
theorem dd_nd : ∀ (l acc : List Nat), acc.Nodup → (ddL acc l).Nodup
  | [], _, h => h
  | c :: r, acc, h => by
    refine dd_nd r _ ?_
    by_cases m : c ∈ acc
    · rw [if_pos m]
      exact h
    · rw [if_neg m]
      refine List.nodup_append.mpr ⟨h, by simp, fun x hx y hy e => ?_⟩
      rw [List.mem_singleton.mp hy] at e
      exact m (e ▸ hx)
theorem dd_sub : ∀ (l acc : List Nat), ∀ c ∈ ddL acc l, c ∈ acc ∨ c ∈ l
  | [], _, c, h => .inl h
  | a :: r, acc, c, h => by
    rcases dd_sub r _ c h with h | h
    · by_cases m : a ∈ acc
      · rw [if_pos m] at h
        exact .inl h
      · rw [if_neg m] at h
        rcases List.mem_append.mp h with h | h
        · exact .inl h
        · exact .inr (by rw [List.mem_singleton.mp h]; exact List.mem_cons_self)
    · exact .inr (List.mem_cons_of_mem _ h)
theorem keyJ_at {l : List Nat} {i : Nat} {k : Key} {v : V} (h : (keyJ l)[i]? = some (k, v)) : ∃ hi : i < l.length, k = kL l[i] ∧ v = .bl true := by
  unfold keyJ at h
  rw [List.getElem?_map] at h
  cases e : l[i]? with
  | none =>
    rw [e] at h
    cases h
  | some c =>
    obtain ⟨hi, ec⟩ := List.getElem?_eq_some_iff.mp e
    rw [e] at h
    cases h
    exact ⟨hi, by rw [ec], rfl⟩
theorem keyJ_len (l : List Nat) : (keyJ l).length = l.length := List.length_map _
/-! ### what clashes -/
theorem clash_com (t u : Tab) (c : Nat) : clash t u c = clash u t c := by
  unfold clash
  cases lookT t c with
  | none => cases lookT u c <;> rfl
  | some a =>
    cases lookT u c with
    | none => rfl
    | some b => exact decide_eq_decide.mpr ⟨Ne.symm, Ne.symm⟩
theorem clash_filter (t u : Tab) : (keysL abc u).filter (clash t u) = abc.filter (clash t u) := by
  unfold keysL
  rw [List.filter_filter]
  refine List.filter_congr fun c _ => ?_
  unfold clash
  cases lookT t c <;> cases lookT u c <;> simp
theorem sorted_bad {t u : Tab} {ys : List Str} (g : GoodC u) (hp : ys.Perm (((u.map (·.1)).filter (clash t u)).map L1)) (hs : sortedS ys = true) : ys = (abc.filter (clash t u)).map L1 := by
  obtain ⟨zs, rfl, hz⟩ := un_map hp
  have h1 := sorted_pw zs hs
  have h2 : (abc.filter (clash t u)).Pairwise (· ≤ ·) := abc_pw.filter _
  have h0 : ((u.map (·.1)).filter (clash t u)).Perm (abc.filter (clash t u)) := by
    rw [← clash_filter]
    exact (ka_perm g).filter _
  have h3 : zs = abc.filter (clash t u) := List.Perm.eq_of_pairwise (le := (· ≤ ·)) (fun a b _ _ x y => Nat.le_antisymm x y) h1 h2 (hz.trans h0)
  rw [h3]
theorem clash_head (t u : Tab) : (abc.filter (clash t u)).head? = abc.find? (clash t u) := List.head?_filter
/-- no clash: joined one way as the other -/
theorem or_same {t u : Tab} (gt : GoodC t) (h : abc.find? (clash t u) = none) (c : Nat) : (lookT u c).or (lookT t c) = (lookT t c).or (lookT u c) := by
  cases e1 : lookT t c with
  | none => cases lookT u c <;> rfl
  | some a =>
    cases e2 : lookT u c with
    | none => rfl
    | some b =>
      have n := List.find?_eq_none.mp h c (abc_mem.mpr (gt.look e1).1)
      unfold clash at n
      rw [e1, e2] at n
      have : b = a := by simpa using n
      rw [this]
/-! ### codes put in again -/
theorem put_keys {t : Tab} {c : Nat} {s : List Nat} (h : c ∈ t.map (·.1)) : (putT t c s).map (·.1) = t.map (·.1) := by
  unfold putT
  have a1 : (t.any fun q => decide (q.1 = c)) = true := by
    obtain ⟨q, hq, e⟩ := List.mem_map.mp h
    exact List.any_eq_true.mpr ⟨q, hq, decide_eq_true e⟩
  rw [if_pos a1, List.map_map]
  refine List.map_congr_left fun q _ => ?_
  show (if q.1 = c then (q.1, s) else q).1 = q.1
  split <;> rfl
theorem good_mrg {t u : Tab} (gt : GoodC t) (gu : GoodC u) : GoodC (mrgT t u) := gt.merge fun q hq => ⟨gu.lt q hq, gu.cod q hq⟩
theorem tups_mrg {H : Hp} {A B : Ad} {t u : Tab} (a : Tups H A t) (b : Tups H B u) (gt : GoodC t) (gu : GoodC u) : Tups H (mrgA A B u) (mrgT t u) := a.merge gt (fun q hq => ⟨gu.lt q hq, gu.cod q hq⟩) b
/-- what a sign asks beside -/
structure To (K : PySem.W.Frag) (CW : Addr) : Prop where
  sf : PySem.W.selfFirst K CW = true
  ror : PySem.W.findIn K (.ref CW) "__ror__" = some none
  bes : ∀ t ∈ ["NoneType", "dict", "str", "int"], BesideT K CW (Operator.BitOr).info.2 (.type t)
end V8

set_option Elab.async false
set_option linter.all false
set_option maxRecDepth 100000
set_option maxHeartbeats 16000000
set_option pp.maxSteps 900
/-! Two tables joined. -/
namespace V8
open PySem PySem.Spec PyProof.Rows L2 MX SetT LamX
abbrev s__law_joined_right : Stmt := topS 36
abbrev n__law_joined_right : List Str := ["_law_pen_here", "_law_table", "_law_codes_so", "_law_some", "_law_others", "_law_one", "_law_bad", "_law_both", "_law_more", "_law_heard_here", "_law_wrong", "_law_key", "_law_each"]
theorem sc__law_joined_right : FnScope ["_law_pen_here", "_law_table", "_law_codes_so", "_law_some", "_law_others", "_law_one", "_law_bad", "_law_both", "_law_more", "_law_heard_here", "_law_wrong", "_law_key", "_law_each"] ["_law_pen_here", "_law_table", "_law_codes_so"] (defScope s__law_joined_right) := ⟨rfl, rfl, rfl, by decide +kernel, rfl, by decide +kernel, by decide +kernel⟩
theorem pair_map {α β γ : Type} {R : α → β → Prop} {S : α → γ → Prop} {f : β → γ} {xs : List α} {ys : List β} (h : Paired R xs ys) (i : ∀ x y, R x y → S x (f y)) : Paired S xs (ys.map f) := by
  induction h with
  | nil => exact .nil
  | cons r _ ih => exact .cons (i _ _ r) ih
theorem tabs_dk {T : List (Addr × Str)} {b : Addr} {o : HO} {kvs : List (Key × V)} {H : Hp} (t : Tabs T H) (hb : H b = some (.dK kvs)) : Tabs T (upd H b o) := fun q hq => by
  obtain ⟨ps, h1, h2, h3⟩ := t q hq
  have off : ∀ {a : Addr} {u : HO}, H a = some u → (∀ ys, u ≠ .dK ys) → upd H b o a = some u := fun {a u} e n => by
    rw [upd_ne (ne_of e hb (n kvs))]
    exact e
  refine ⟨ps, off h1 (fun _ z => nomatch z), h2, fun pos cv hc => ?_⟩
  obtain ⟨c, e1, e2⟩ := h3 pos cv hc
  exact ⟨c, e1, off e2 (fun _ z => nomatch z)⟩
theorem Tups.ups {H H' : Hp} {A : Ad} {t : Tab} (h : Tups H A t) (u : ∀ {a : Addr} {xs : List V}, H a = some (.tup xs) → H' a = some (.tup xs)) : Tups H' A t := fun q hq => u (h q hq)
theorem iteB {A B : Prop} {b : Bool} (h1 : A) (h2 : B) : if b = true then A else B := by
  cases b with
  | true => exact h1
  | false => exact h2
/-- no table, and beside a table's sign -/
def OddJ (H : Hp) (v : V) : Prop := v = .non ∨ (∃ a kvs, v = .ref a ∧ H a = some (.dK kvs)) ∨ (∃ z, v = .str z) ∨ ∃ i, v = .int i
theorem OddJ.ext {H H' : Hp} {v : V} (o : OddJ H v) (e : ExtN H H') : OddJ H' v := by
  rcases o with rfl | ⟨a, kvs, rfl, h⟩ | ⟨z, rfl⟩ | ⟨z, rfl⟩
  · exact .inl rfl
  · exact .inr (.inl ⟨_, _, rfl, e _ _ h (fun _ z => nomatch z)⟩)
  · exact .inr (.inr (.inl ⟨_, rfl⟩))
  · exact .inr (.inr (.inr ⟨_, rfl⟩))
theorem OddJ.ty {K : PySem.W.Frag} {mg : Str → Option Value} {CW CE : Addr} {Cz : Nat → Addr} {H : Hp} {v : V} (T : Tc K mg CW CE Cz) (o : OddJ H v) : ∃ t ∈ ["NoneType", "dict", "str", "int"], TyX K H v (.type t) ∧ PySem.W.kitOne K (.type t) (.ref CW) = some false := by
  rcases o with rfl | ⟨a, kvs, rfl, h⟩ | ⟨z, rfl⟩ | ⟨z, rfl⟩
  · exact ⟨"NoneType", by decide, .base .non, T.oN⟩
  · exact ⟨"dict", by decide, .base (.dK h), T.oD⟩
  · exact ⟨"str", by decide, .base (.str z), T.oS⟩
  · exact ⟨"int", by decide, .base (.int z), T.oI⟩
def spJoined (TL : List (Addr × Str)) (CW : Addr) : Sp := fun vs H Q _ => ∃ (p l : Addr) (ns : List Int) (n : Nat) (x : Addr) (A : Ad) (d : Addr) (B : Ad) (t : Tab), vs = [.ref p, .ref x, .ref d] ∧ PenAt H p l ns (n + 300) ∧ Tabs TL H ∧ WrU CW H x A t ∧ CodA H d B t ∧
  ∀ H2, Mv p H H2 → PenAt H2 p l ns n → Tabs TL H2 → Q (.bl true) H2
section
variable {P : Program} {w : World} {K : PySem.W.Frag} {mg : Str → Option Value} {base : Heap} {CW CE g c PT : Addr} {Cz : Nat → Addr} {TL : List (Addr × Str)}
theorem ok_joined {f : Addr} {fd : FuncData} (F : FunC K "_law_joined_right" "_law_joined_right" s__law_joined_right f c fd) (T : Tc K mg CW CE Cz) (TO : To K CW) (sys : SysIn base) (D_draw : Df P w K mg base 1 "_law_draw" spDraw) (D_pick : Df P w K mg base 2 "_law_pick" (spPick K)) (D_letters : Df P w K mg base 2 "_law_letters" spLetters) (D_codes : Df P w K mg base 3 "_law_codes" spCodes)
    (D_tells : DfG P w K mg base CX0 10 "_law_tells" (spTells CW)) (D_mk : MkW P w K mg base CW Cz) (D_or : MfG P w K mg base (L2.CX P w) 8 CW "__or__" (spOrW K CW Cz)) (D_eqW : Mf P w K mg base 1 CW "__eq__" (spEqW K CW)) (D_heard : HearD K mg g) (TB : TabT base mg TL (("_law_joined_right" : Str) ++ ".<locals>.") c PT) :
    FnG P w K mg base CX0 12 f fd ["_law_pen_here", "_law_table", "_law_codes_so"] (spJoined TL CW) := by
  refine F.okG sc__law_joined_right (fun vs H Q E h => ?_) (fun A outer s H vs Q E quiet hr h => ?_)
  · obtain ⟨p, l, ns, n, x, A, d, B, t, rfl, _⟩ := h
    rfl
  · obtain ⟨p, l, ns, n, x, A1, d, B, t, rfl, PA, tb, wr, cd, q⟩ := h
    refine ⟨_, (pss_cons (ps_set (i := 3) sc__law_joined_right.nd rfl (.inl rfl) (pe_op op_cat (pe_slice (sl_listK (K := K) rfl) (pe_lock (pe_lc (own := [("_law_one", 5)]) (g := gName 5) (by rfl) sc__law_joined_right.nd (pi_keys (pv 2)) (blkOk_by (own := [("_law_one", 5)]) (N := n__law_joined_right) (sc := defScope s__law_joined_right) (by decide +kernel)) (fun _ _ _ _ _ => (pg_name (i := 5) sc__law_joined_right.nd rfl (.inl rfl))) (fun _ _ _ _ _ => pts_nil) (fun _ _ _ _ _ => (pv 5)))) po_none (po_some pe_int)) (pe_c D_letters hr (by decide) (by rfl) (pa_cons (pv 0) (pa_cons pe_int pa_nil)))))
      (pss_cons (ps_set (i := 4) sc__law_joined_right.nd rfl (.inr rfl) (pe_c D_codes hr (by decide) (by rfl) (pa_cons (pv 0) (pa_cons (pe_callB cr_sortedS (by rfl) T.sorted (by decide +kernel) (pa_cons (pe_unl (pe_lc (own := [("_law_key", 11)]) (g := gName 11) (by rfl) sc__law_joined_right.nd (pi_keysF (pe_callTy (call_dictP rfl) (by rfl) T.dict (by decide +kernel) (pa_cons (pe_lc (own := [("_law_each", 12)]) (g := gName 12) (by rfl) sc__law_joined_right.nd (pi_list (pv 3)) (blkOk_by (own := [("_law_each", 12)]) (N := n__law_joined_right) (sc := defScope s__law_joined_right) (by decide +kernel)) (fun _ _ _ _ _ => (pg_name (i := 12) sc__law_joined_right.nd rfl (.inl rfl))) (fun _ _ _ _ _ => pts_nil) (fun _ _ _ _ _ => (pe_tup (pa_cons (pv 12) (pa_cons pe_bl pa_nil))))) pa_nil))) (blkOk_by (own := [("_law_key", 11)]) (N := n__law_joined_right) (sc := defScope s__law_joined_right) (by decide +kernel)) (fun _ _ _ _ _ => (pg_name (i := 11) sc__law_joined_right.nd rfl (.inl rfl))) (fun _ _ _ _ _ => pts_nil) (fun _ _ _ _ _ => (pe_callTy call_strS (by rfl) T.str (by decide +kernel) (pa_cons (pv 11) pa_nil))))) pa_nil)) pa_nil))))
      (pss_cons (ps_for PassesOwn.never rfl (pi_list (pe_lock (pe_lc (own := [("_law_one", 5)]) (g := gName 5) (by rfl) sc__law_joined_right.nd (pi_keys (pv 4)) (blkOk_by (own := [("_law_one", 5)]) (N := n__law_joined_right) (sc := defScope s__law_joined_right) (by decide +kernel)) (fun _ _ _ _ _ => (pg_name (i := 5) sc__law_joined_right.nd rfl (.inl rfl))) (fun _ _ _ _ _ => (pts_one (pt_cmp (pc_din (hu_of hr) (pv 5) (pv 2))))) (fun _ _ _ _ _ => (pv 5))))) (pg_name (i := 5) sc__law_joined_right.nd rfl (.inl rfl))
        (pss_one (ps_if (pt_cmpR op_gt (pe_c D_draw hr (by decide) (by rfl) (pa_cons (pv 0) (pa_cons pe_int pa_nil))) pe_int (nomark _))
          (pss_one (ps_dput (hu_of hr) (pv 4) (pv 5) (pe_dget (hu_of hr) (pv 2) (pv 5) (fun _ _ => rfl)) rfl))
          pss_nil)))
      (pss_cons (ps_set (i := 6) sc__law_joined_right.nd rfl (.inl rfl) (pe_callB cr_sortedS (by rfl) T.sorted (by decide +kernel) (pa_cons (pe_lock (pe_lc (own := [("_law_one", 5)]) (g := gName 5) (by rfl) sc__law_joined_right.nd (pi_keys (pv 4)) (blkOk_by (own := [("_law_one", 5)]) (N := n__law_joined_right) (sc := defScope s__law_joined_right) (by decide +kernel)) (fun _ _ _ _ _ => (pg_name (i := 5) sc__law_joined_right.nd rfl (.inl rfl))) (fun _ _ _ _ _ => (pts_one (PW.pt (pw_and (pt_cmp (pc_din (hu_of hr) (pv 5) (pv 2))) (pw_and1 (pt_cmpR (op_neDK (K := K) rfl hr.units) (pe_dget (hu_of hr) (pv 4) (pv 5) (fun _ _ => rfl)) (pe_dget (hu_of hr) (pv 2) (pv 5) (fun _ _ => rfl)) (nomark _))))))) (fun _ _ _ _ _ => (pe_callTy call_strS (by rfl) T.str (by decide +kernel) (pa_cons (pv 5) pa_nil))))) pa_nil)))
      (pss_cons (ps_set (i := 7) sc__law_joined_right.nd rfl (.inl rfl) (pe_callTy call_dictD (by rfl) T.dict (by decide +kernel) (pa_cons (pv 2) pa_nil)))
      (pss_cons (ps_expr (pe_bmK (K := K) rfl PySem.F.plainAttrs_dict PySem.F.slot_dict_update PySem.F.type_dict_update mt_update (pv 7) (pa_cons (pv 4) pa_nil)))
      (pss_cons (ps_set (i := 8) sc__law_joined_right.nd rfl (.inr rfl) (pe_mkW (w := w) rfl D_mk quiet passL hr (by decide) (by rfl) (pa_cons (pv 4) pa_nil)))
      (pss_cons (ps_set (i := 9) sc__law_joined_right.nd rfl (.inl rfl) (pe_heardG (k := 8) T D_heard TB sys quiet hr (by decide) rfl rfl (by rfl) (lamS_by (sc := defScope s__law_joined_right) (by decide +kernel)) (by rfl) (fun _ _ _ _ _ => rfl) (fun A2 o2 s2 H2 E2 f2 c2 quiet2 hr2 => (pe_op (op_binG (K := K) rfl D_or quiet2 (passTk (takes_of rfl rfl rfl rfl)) TO.sf hr2 (by decide)) (pv 1) (pv 8)))))
      (pss_cons (ps_if (pt_cmpR (op_neNilK (K := K) rfl hr.units0) (pv 6) (pe_lst pa_nil) (nomark _))
        (pss_one (ps_ret (pe_cmpR (op_eqDK (K := K) rfl hr.units) (pv 9) (pe_tup (pa_cons pe_str (pa_cons (pe_callB (call_reprW sys quiet hr) (by rfl) T.repr (by decide +kernel) (pa_cons (pe_ix (ix_listK (K := K) rfl) (pv 6) pe_int (fun _ _ => rfl)) pa_nil)) pa_nil))) (nomark _))))
        pss_nil)
      (pss_cons (ps_if (PW.pt (pw_or (pt_not (pt_val (pe_callB call_isi (by rfl) T.isinstance (by decide +kernel) (pa_cons (pv 9) (pa_cons (pe_bltn (v := .ty "list") (by rfl) T.list (by decide +kernel) rfl) pa_nil))))) (pw_or (pt_not (pt_val (pe_cG D_tells quiet pass0 hr (by decide) (by rfl) (pa_cons (pe_ix (ix_listK (K := K) rfl) (pv 9) pe_int (fun _ _ => rfl)) (pa_cons (pv 7) pa_nil))))) (pw_or1 (pt_cmpR (op_neO D_eqW T.neW T.wD hr (by decide)) (pe_ix (ix_listK (K := K) rfl) (pv 9) pe_int (fun _ _ => rfl)) (pe_op (op_binG (K := K) rfl D_or quiet passL TO.sf hr (by decide)) (pv 8) (pv 1)) (nomark _))))))
        (pss_one (ps_ret pe_bl))
        pss_nil)
      (pss_cons (ps_set (i := 10) sc__law_joined_right.nd rfl (.inr rfl) (pe_c D_pick hr (by decide) (by rfl) (pa_cons (pv 0) (pa_cons (pe_lst (pa_cons pe_non (pa_cons pe_dnewK (pa_cons (pv 2) (pa_cons pe_str (pa_cons pe_int pa_nil)))))) pa_nil))))
      (pss_one (ps_ret (pe_and (pe_cmpR (op_eqDK (K := K) rfl hr.units) (pe_heardG (k := 8) T D_heard TB sys quiet hr (by decide) rfl rfl (by rfl) (lamS_by (sc := defScope s__law_joined_right) (by decide +kernel)) (by rfl) (fun _ _ _ _ _ => rfl) (fun A2 o2 s2 H2 E2 f2 c2 quiet2 hr2 => (pe_op (op_anyG (K := K) rfl D_or quiet2 (passTk (takes_of rfl rfl rfl rfl)) TO.sf TO.ror hr2 (by decide)) (pv 1) (pv 10)))) (pe_tup (pa_cons pe_str (pa_cons pe_str pa_nil))) (nomark _)) (pe_one (pe_cG D_tells quiet pass0 hr (by decide) (by rfl) (pa_cons (pv 1) (pa_cons (pv 2) pa_nil)))))))))))))))))), ?_⟩
    obtain ⟨hd, tu, g⟩ := id cd
    have tl := g.key
    -- its letters
    refine ⟨d, _, hd, True.intro, fun od => ⟨_, rfl, d, od, rfl, .inl ⟨_, upd_same, fun D nD => lc_it (walk_keys (d := d) (o := od) (kvs := encC B t)) (fun i H2 => H2 = upd (upd H d (.frz od (.dK (encC B t)))) D (.lst (lets ((t.take i).map (·.1))))) rfl ?_ ?_ ?_⟩⟩⟩
    · rintro i H2 hi rfl
      rw [upd_ne (ne_of_none upd_same nD)]
      exact upd_same
    · rintro i y H2 H3 hi rfl ⟨eH, k, v, hk, rfl⟩
      rw [eH]
      obtain ⟨hit, rfl, rfl⟩ := encG_at hk
      refine ⟨rfl, _, rfl, _, upd_same, ?_, ?_⟩
      · show (List.map _ _).length < _
        rw [List.length_map, List.length_map, List.length_take, sizeLine_eq]
        omega
      · rw [upd_upd, List.take_add_one, List.getElem?_eq_getElem hit]
        unfold lets
        rw [List.map_append, List.map_append]
        rfl
    rintro H2 rfl
    have dD : d ≠ D := ne_of_none upd_same nD
    rw [encC_len, List.take_of_length_le (Nat.le_refl _)]
    refine ⟨by rw [upd_ne dD]; exact upd_same, ?_⟩
    rw [frz_back hd dD]
    have nD0 : H D = none := by
      rw [upd_ne (Ne.symm dD)] at nD
      exact nD
    have s1 := same_put (s := Same.refl H) (o := .lst (lets (t.map (·.1)))) nD0
    refine ⟨_, rfl, D, _, rfl, SqL.of upd_same, fun a na => ?_⟩
    rw [cut3, lets_cut]
    have s2 := same_put (s := s1) (o := .lst (lets ((t.map (·.1)).take 3))) na
    have ha : upd (upd H D (.lst (lets (t.map (·.1))))) a (.lst (lets ((t.map (·.1)).take 3))) a = some (.lst (lets ((t.map (·.1)).take 3))) := upd_same
    have ap := (pen_ext PA (ExtN.of s1)).nep na
    have PA1 := pen_ext PA (ExtN.of s2)
    have tb1 := tb.ext s2
    generalize upd (upd H D (.lst (lets (t.map (·.1))))) a (.lst (lets ((t.map (·.1)).take 3))) = H1 at s2 ha PA1 tb1 ⊢
    clear nD dD nD0 s1 na
    have kl : ∀ c ∈ (t.map (·.1)).take 3, isLt c := fun c hc => by
      obtain ⟨q, hq, rfl⟩ := List.mem_map.mp (List.mem_of_mem_take hc)
      exact g.lt q hq
    have kn : ((t.map (·.1)).take 3).length ≤ 3 := List.length_take_le ..
    generalize (t.map (·.1)).take 3 = k3 at ha kl kn ⊢
    -- three more
    refine ⟨_, rfl, p, l, ns, n + 290, 3, rfl, PA1.less (by omega), by decide, fun so cs H2 cl cnd clt PA2 fr2 nso hso => ?_⟩
    have m2 : Mv p H H2 := (Mv.ofSame s2).trans (Mv.ofFr fr2)
    have tb2 := tabs_fr tb1 PA1.pl fr2
    have ha2 := fr2 _ _ ha ap
    refine ⟨a, so, _, _, rfl, rfl, ha2, hso, by rw [lets_len, lets_len, sizeLine_eq]; omega, fun b nb => ?_⟩
    rw [lets_app]
    have s3 := same_put (s := Same.refl H2) (o := .lst (lets (k3 ++ cs))) nb
    have hb : upd H2 b (.lst (lets (k3 ++ cs))) b = some (.lst (lets (k3 ++ cs))) := upd_same
    have PA3 := pen_ext PA2 (ExtN.of s3)
    have tb3 := tb2.ext s3
    have m3 : Mv p H (upd H2 b (.lst (lets (k3 ++ cs)))) := m2.trans (Mv.ofSame s3)
    show Ends.nx _ _ (upd H2 b (.lst (lets (k3 ++ cs))))
    generalize upd H2 b (.lst (lets (k3 ++ cs))) = H3 at s3 hb PA3 tb3 m3 ⊢
    clear s3 m2 tb2 ha2 s2 fr2 hso nso PA2 nb tb1 PA1 ha ap
    have kl6 : (k3 ++ cs).length ≤ 6 := by
      rw [List.length_append]
      omega
    have klt : ∀ c ∈ k3 ++ cs, isLt c := fun c hc => by
      rcases List.mem_append.mp hc with h | h
      · exact kl c h
      · exact clt c h
    generalize k3 ++ cs = ks at hb kl6 klt ⊢
    clear kl kn clt cnd cl
    -- each once
    refine ⟨_, rfl, _, rfl, b, rfl, ⟨_, SqL.of hb⟩, fun D1 nD1 => lc_it (walk_list (K := K) (a := b) (xs := lets ks)) (fun i H4 => ∃ ps, Paired (fun pa c => H4 pa = some (.tup [.str (L1 c), .bl true])) ps (ks.take i) ∧ H4 D1 = some (.lst (ps.map V.ref)) ∧ Same H3 H4) ?_ ?_ ?_ ?_⟩
    · exact ⟨[], .nil, upd_same, same_put (s := Same.refl H3) nD1⟩
    · rintro i H4 hi ⟨ps, pr, hD1, s4⟩
      exact SqL.of (s4 _ _ hb)
    · rintro i y H40 H4 hi ⟨ps, pr, hD1, s4⟩ ⟨rfl, hy⟩
      obtain ⟨hi', rfl⟩ := lets_get hy
      have pl := pair_len pr
      rw [List.length_take] at pl
      refine ⟨rfl, _, rfl, by show 2 ≤ sizeLine; decide, fun pa npa => ⟨_, by rw [upd_ne (ne_of_none hD1 npa)]; exact hD1, by rw [List.length_map, sizeLine_eq]; omega, ps ++ [pa], ?_, ?_, ?_⟩⟩
      · rw [List.take_add_one, List.getElem?_eq_getElem hi']
        have pD : pa ≠ D1 := Ne.symm (ne_of_none hD1 npa)
        refine Paired.snoc (pair_imp pr fun a c e => ?_) ?_
        · rw [upd_ne (ne_of e hD1 (fun z => nomatch z)), upd_ne (ne_of_none e npa)]
          exact e
        · rw [upd_ne pD]
          exact upd_same
      · rw [upd_same, List.map_append]
        rfl
      · intro b2 o2 e2
        rw [upd_ne (ne_of_none e2 nD1), upd_ne (ne_of_none (s4 _ _ e2) npa)]
        exact s4 _ _ e2
    rintro H4 ⟨ps, pr, hD1, s4⟩
    rw [lets_len, List.take_of_length_le (Nat.le_refl _)] at pr
    have prk : Paired (fun pa kv => SqT K H4 pa [kV kv.1, kv.2]) ps (keyJ ks) := by
      unfold keyJ
      exact pair_map pr fun pa c e => .inl (.inl e)
    refine ⟨D1, ps, keyJ ks, rfl, SqL.of hD1, prk, fun de nde => ?_⟩
    rw [show mergeK [] (keyJ ks) = keyJ (ddL [] ks) from mergeJ ks []]
    have dnd : (ddL [] ks).Nodup := dd_nd ks [] List.nodup_nil
    have dlt : ∀ c ∈ ddL [] ks, isLt c := fun c hc => by
      rcases dd_sub ks [] c hc with h | h
      · exact absurd h List.not_mem_nil
      · exact klt c h
    generalize ddL [] ks = ds at dnd dlt ⊢
    have d26 : ds.length ≤ 26 := by
      have h := nd_len (a := ds) (b := abc) dnd fun x hx => abc_mem.mpr (dlt x hx)
      rw [abc_len] at h
      exact h
    refine ⟨de, _, rfl, upd_same, fun od L nL => lc_it (walk_keys (d := de) (o := od) (kvs := keyJ ds)) (fun i H5 => H5 = upd (upd (upd H4 de (.dK (keyJ ds))) de (.frz od (.dK (keyJ ds)))) L (.lst (lets (ds.take i)))) rfl ?_ ?_ ?_⟩
    · rintro i H5 hi rfl
      rw [upd_ne (ne_of_none upd_same nL)]
      exact upd_same
    · rintro i y H5 H6 hi rfl ⟨eH, k, v, hk, rfl⟩
      rw [eH]
      obtain ⟨hit, rfl, rfl⟩ := keyJ_at hk
      refine ⟨rfl, _, rfl, _, rfl, _, upd_same, ?_, ?_⟩
      · rw [lets_len, List.length_take, sizeLine_eq]
        omega
      · rw [upd_upd, List.take_add_one, List.getElem?_eq_getElem hit]
        unfold lets
        rw [List.map_append]
        rfl
    rintro H5 rfl
    rw [keyJ_len, List.take_of_length_le (Nat.le_refl _)]
    have eL : de ≠ L := ne_of_none upd_same nL
    refine ⟨de, od, .dK (keyJ ds), same_none s4 nde, by rw [upd_ne eL]; exact upd_same, ?_⟩
    rw [frz_back upd_same eL]
    have nL1 : upd H4 de (.dK (keyJ ds)) L = none := by
      rw [upd_ne (Ne.symm eL)] at nL
      exact nL
    have s5 := same_put (s := s4) (o := .dK (keyJ ds)) nde
    have s6 := same_put (s := s5) (o := .lst (lets ds)) nL1
    refine ⟨L, ds.map L1, rfl, SqL.of (by rw [upd_same]; unfold lets; rw [List.map_map]; rfl), by rw [List.length_map]; omega, fun ys S hp hs nS => ?_⟩
    obtain ⟨zs, rfl, hz⟩ := un_map hp
    have s7 := same_put (s := s6) (o := .lst ((zs.map L1).map V.str)) nS
    have hS : upd (upd (upd H4 de (.dK (keyJ ds))) L (.lst (lets ds))) S (.lst ((zs.map L1).map V.str)) S = some (.lst (lets zs)) := by
      rw [upd_same]
      unfold lets
      rw [List.map_map]
      rfl
    have PA4 := pen_ext PA3 (ExtN.of s7)
    have Sp := (pen_ext PA3 (ExtN.of s6)).nep nS
    have tb4 := tb3.ext s7
    have m4 := m3.trans (Mv.ofSame s7)
    generalize upd (upd (upd H4 de (.dK (keyJ ds))) L (.lst (lets ds))) S (.lst ((zs.map L1).map V.str)) = H6 at s7 hS PA4 tb4 m4 ⊢
    have znd : zs.Nodup := hz.nodup_iff.mpr dnd
    have z26 : zs.length ≤ 26 := by
      rw [hz.length_eq]
      exact d26
    have zlt : ∀ c ∈ zs, isLt c := fun c hc => dlt c (hz.mem_iff.mp hc)
    clear s6 s5 nL1 eL nL nde prk pr hD1 s4 nD1 dlt dnd d26 hp hs nS hz s7 PA3 tb3 m3 hb
    -- others
    refine ⟨p, l, S, ns, n + 90, zs, rfl, PA4.less (by omega), hS, Sp, znd, z26, zlt, fun d2 B2 t2 H7 cd2 ks2 PA5 fr5 nd2 => ?_⟩
    have m5 := m4.trans (Mv.ofFr fr5)
    have tb5 := tabs_fr tb4 PA4.pl fr5
    have off2 := m4.off nd2
    have d2p := PA4.nep nd2
    have d2l := PA4.nel nd2
    clear PA4 tb4 m4 hS Sp znd z26 zlt fr5 nd2
    have cd7 := CodA.mv cd PA.pl m5
    obtain ⟨hd7, tu7, _⟩ := id cd7
    obtain ⟨hd2, tu2, g2⟩ := id cd2
    have tl2 := g2.key
    have d2d : d2 ≠ d := fun z => off2 _ _ hd (ne_of hd PA.pl.choose_spec (fun z => nomatch z)) (fun _ z => nomatch z) z.symm
    -- both have them
    refine ⟨d2, _, hd2, True.intro, fun od => ⟨_, rfl, d2, od, rfl, .inl ⟨_, upd_same, fun L nL => lc_it (walk_keys (d := d2) (o := od) (kvs := encC B2 t2)) (fun i H8 => H8 = upd (upd H7 d2 (.frz od (.dK (encC B2 t2)))) L (.lst (lets (((t2.take i).map (·.1)).filter fun c => (lookT t c).isSome)))) rfl ?_ ?_ ?_⟩⟩⟩
    · rintro i H8 hi rfl
      rw [upd_ne (ne_of_none upd_same nL)]
      exact upd_same
    · rintro i y H8 H9 hi rfl ⟨eH, k, v, hk, rfl⟩
      rw [eH]
      obtain ⟨hit, rfl, rfl⟩ := encG_at hk
      have dL : d ≠ L := ne_of_none (show upd H7 d2 (.frz od (.dK (encC B2 t2))) d = _ by rw [upd_ne (Ne.symm d2d)]; exact hd7) nL
      have hd8 : ∀ o, upd (upd H7 d2 (.frz od (.dK (encC B2 t2)))) L o d = some (.dK (encC B t)) := fun o => by
        rw [upd_ne dL, upd_ne (Ne.symm d2d)]
        exact hd7
      have fl : (((t2.take i).map (·.1)).filter fun c => (lookT t c).isSome).length ≤ 26 := by
        refine Nat.le_trans (List.length_filter_le _ _) ?_
        rw [List.length_map, List.length_take]
        omega
      have ft : ((t2.take (i + 1)).map (·.1)).filter (fun c => (lookT t c).isSome) = (((t2.take i).map (·.1)).filter fun c => (lookT t c).isSome) ++ if (lookT t t2[i].1).isSome = true then [t2[i].1] else [] := by
        rw [List.take_add_one, List.getElem?_eq_getElem hit, List.map_append, List.filter_append]
        congr 1
        show List.filter _ [t2[i].1] = _
        rw [List.filter_cons]
        rfl
      refine ⟨rfl, _, rfl, _, rfl, d, _, rfl, dgC (.inl (hd8 _)) _, _, rfl, ?_⟩
      rw [cIs]
      cases e : lookT t t2[i].1 with
      | none =>
        refine iteF ?_
        rw [ft, e]
        show _ = upd _ L (.lst (lets (_ ++ [])))
        rw [List.append_nil]
      | some z =>
        refine iteT ⟨_, rfl, _, upd_same, by rw [lets_len, sizeLine_eq]; omega, ?_⟩
        rw [upd_upd, ft, e]
        unfold lets
        rw [List.map_append]
        rfl
    rintro H8 rfl
    have dL : d2 ≠ L := ne_of_none upd_same nL
    rw [encC_len, List.take_of_length_le (Nat.le_refl _)]
    refine ⟨by rw [upd_ne dL]; exact upd_same, ?_⟩
    rw [frz_back hd2 dL]
    have nL0 : H7 L = none := by
      rw [upd_ne (Ne.symm dL)] at nL
      exact nL
    have s8 := same_put (s := Same.refl H7) (o := .lst (lets ((t2.map (·.1)).filter fun c => (lookT t c).isSome))) nL0
    have hL : upd H7 L (.lst (lets ((t2.map (·.1)).filter fun c => (lookT t c).isSome))) L = some (.lst (lets ((t2.map (·.1)).filter fun c => (lookT t c).isSome))) := upd_same
    have Lp := PA5.nep nL0
    have Ll := PA5.nel nL0
    have PA6 := pen_ext PA5 (ExtN.of s8)
    have tb6 := tb5.ext s8
    have m6 := m5.trans (Mv.ofSame s8)
    have cd6 := cd2.same s8
    generalize upd H7 L (.lst (lets ((t2.map (·.1)).filter fun c => (lookT t c).isSome))) = H8 at s8 hL PA6 tb6 m6 cd6 ⊢
    have f26 : ((t2.map (·.1)).filter fun c => (lookT t c).isSome).length ≤ 26 := by
      refine Nat.le_trans (List.length_filter_le _ _) ?_
      rw [List.length_map]
      exact tl2
    have fin : ∀ c ∈ (t2.map (·.1)).filter (fun c => (lookT t c).isSome), c ∈ t2.map (·.1) ∧ ∃ z, lookT t c = some z := fun c hc => by
      obtain ⟨h1, h2⟩ := List.mem_filter.mp hc
      exact ⟨h1, Option.isSome_iff_exists.mp h2⟩
    generalize (t2.map (·.1)).filter (fun c => (lookT t c).isSome) = fs at hL f26 fin ⊢
    clear nL nL0 s8 PA5 tb5 m5 cd2 hd2 tu2 cd7 hd7 tu7 tl2
    refine ⟨L, rfl, ⟨_, SqL.of hL⟩, for_it (walk_list (K := K) (a := L) (xs := lets fs)) (fun i σ H9 => ∃ (v5 : Option V) (B3 : Ad) (t3 : Tab), σ = [some (.ref p), some (.ref x), some (.ref d), some (.ref b), some (.ref d2), v5, none, none, none, none, none, none, none] ∧
      CodA H9 d2 B3 t3 ∧ t3.map (·.1) = t2.map (·.1) ∧ PenAt H9 p l ns (n + 60 + (26 - i)) ∧ i ≤ 26 ∧ Tabs TL H9 ∧ Mv p H H9 ∧ H9 L = some (.lst (lets fs))) ?_ ?_ ?_ ?_⟩
    · exact ⟨_, B2, t2, rfl, cd6, rfl, PA6.less (by omega), Nat.zero_le _, tb6, m6, hL⟩
    · rintro i σ H9 hi ⟨v5, B3, t3, _, _, _, _, _, _, _, h⟩
      exact SqL.of h
    · rintro i y σ H90 H9 hi ⟨v5, B3, t3, rfl, cd9, ek, PA9, i26, tb9, m9, hL9⟩ ⟨rfl, hy⟩
      obtain ⟨hi', rfl⟩ := lets_get hy
      obtain ⟨ck, z, ez⟩ := fin _ (List.getElem_mem hi')
      generalize fs[i] = cc at ck ez ⊢
      have i25 : i < 26 := by omega
      have eb : n + 60 + (26 - i) = n + 60 + (26 - (i + 1)) + 1 := by omega
      rw [eb] at PA9
      refine ⟨_, rfl, p, l, ns, n + 60 + (26 - (i + 1)), 3, rfl, PA9, by decide, by decide, fun v0 H10 v00 v03 PA10 fr10 => ⟨_, _, rfl, rfl, ?_⟩⟩
      have cd10 := CodA.mv cd9 PA9.pl (Mv.ofFr fr10)
      have tb10 := tabs_fr tb9 PA9.pl fr10
      have m10 := m9.trans (Mv.ofFr fr10)
      have hL10 := fr10 _ _ hL9 Lp
      clear cd9 tb9 m9 hL9 PA9 fr10
      refine ⟨_, rfl, iteB ?_ ?_⟩
      · have cdA := CodA.mv cd PA.pl m10
        obtain ⟨hdA, tuA, _⟩ := id cdA
        obtain ⟨hdB, tuB, gB⟩ := id cd10
        have tB := gB.key
        have mk : ∀ c, c ∈ t3.map (·.1) ↔ c ∈ t2.map (·.1) := fun c => by rw [ek]
        refine ⟨_, rfl, _, rfl, d, V.ref (B cc), rfl, .inl ⟨_, kL cc, .inl hdA, rfl, by rw [cSome ez]⟩, _, rfl, _, rfl, d2, _, rfl, DPut.l hdB (by rw [encC_len]; exact small1000 (by omega)), ?_⟩
        have hz := tuA.look ez
        have gz := g.look ez
        have m11 : Mv p H (upd H10 d2 (.dK (putK (encC B3 t3) (kL cc) (.ref (B cc))))) := m10.put off2
        rw [putK_C (s := z)] at m11 ⊢
        have gm : Mv d2 H10 (upd H10 d2 (.dK (encC (setA B3 cc (B cc)) (putT t3 cc z)))) := grow_mv
        have up : ∀ {a : Addr} {xs : List V}, H10 a = some (.tup xs) → upd H10 d2 (.dK (encC (setA B3 cc (B cc)) (putT t3 cc z))) a = some (.tup xs) := fun {a xs} e => by
          rw [upd_ne (ne_of e hdB (fun z => nomatch z))]
          exact e
        refine ⟨_, setA B3 cc (B cc), putT t3 cc z, rfl, ⟨upd_same, (tuB.putT gB hz).ups up, gB.putT gz.1 gz.2⟩, ?_, PA10.other d2p d2l, by omega, tabs_dk tb10 hdB, m11, ?_⟩
        · rw [put_keys ((mk cc).mpr ck), ek]
        · rw [upd_ne (Ne.symm (ne_of hdB hL10 (fun z => nomatch z)))]
          exact hL10
      · exact ⟨_, B3, t3, rfl, cd10, ek, PA10, by omega, tb10, m10, hL10⟩
    rintro σ H9 ⟨v5, B3, t3, rfl, cd9, ek, PA9, i26, tb9, m9, hL9⟩
    clear hL9 hL PA6 tb6 m6 cd6 ek fin f26 ks2 i26 Lp Ll
    have cd8 := CodA.mv cd PA.pl m9
    have cdL := cd8
    obtain ⟨hd8, tu8, _⟩ := id cd8
    obtain ⟨hd9, tu9, g9⟩ := id cd9
    have tl9 := g9.key
    -- what clashes
    refine ⟨d2, _, hd9, True.intro, fun od => ⟨_, rfl, d2, od, rfl, .inl ⟨_, upd_same, fun L nL => lc_it (walk_keys (d := d2) (o := od) (kvs := encC B3 t3)) (fun i H8 => H8 = upd (upd H9 d2 (.frz od (.dK (encC B3 t3)))) L (.lst (lets (((t3.take i).map (·.1)).filter (clash t t3))))) rfl ?_ ?_ ?_⟩⟩⟩
    · rintro i H8 hi rfl
      rw [upd_ne (ne_of_none upd_same nL)]
      exact upd_same
    · rintro i y H8 HA hi rfl ⟨eH, k, v, hk, rfl⟩
      rw [eH]
      obtain ⟨hit, rfl, rfl⟩ := encG_at hk
      have dL : d ≠ L := ne_of_none (show upd H9 d2 (.frz od (.dK (encC B3 t3))) d = _ by rw [upd_ne (Ne.symm d2d)]; exact hd8) nL
      have d2L : d2 ≠ L := ne_of_none upd_same nL
      have hdK : ∀ o, upd (upd H9 d2 (.frz od (.dK (encC B3 t3)))) L o d = some (.dK (encC B t)) := fun o => by
        rw [upd_ne dL, upd_ne (Ne.symm d2d)]
        exact hd8
      have hdF : ∀ o, upd (upd H9 d2 (.frz od (.dK (encC B3 t3)))) L o d2 = some (.frz od (.dK (encC B3 t3))) := fun o => by
        rw [upd_ne d2L]
        exact upd_same
      have up : ∀ o {a : Addr} {xs : List V}, H9 a = some (.tup xs) → upd (upd H9 d2 (.frz od (.dK (encC B3 t3)))) L o a = some (.tup xs) := fun o {a xs} e => by
        have e1 : upd H9 d2 (.frz od (.dK (encC B3 t3))) a = some (.tup xs) := by
          rw [upd_ne (ne_of e hd9 (fun z => nomatch z))]
          exact e
        rw [upd_ne (ne_of_none e1 nL)]
        exact e1
      have fl : (((t3.take i).map (·.1)).filter (clash t t3)).length ≤ 26 := by
        refine Nat.le_trans (List.length_filter_le _ _) ?_
        rw [List.length_map, List.length_take]
        omega
      have ft : ((t3.take (i + 1)).map (·.1)).filter (clash t t3) = (((t3.take i).map (·.1)).filter (clash t t3)) ++ if clash t t3 t3[i].1 = true then [t3[i].1] else [] := by
        rw [List.take_add_one, List.getElem?_eq_getElem hit, List.map_append, List.filter_append]
        congr 1
        show List.filter _ [t3[i].1] = _
        rw [List.filter_cons]
        rfl
      have e3 : lookT t3 t3[i].1 = some t3[i].2 := look_at g9.nd hit
      refine ⟨rfl, _, rfl, _, rfl, d, _, rfl, dgC (.inl (hdK _)) _, _, rfl, ?_⟩
      rw [cIs]
      have no : clash t t3 t3[i].1 = false → upd (upd H9 d2 (.frz od (.dK (encC B3 t3)))) L (.lst (lets (((t3.take i).map (·.1)).filter (clash t t3)))) = upd (upd H9 d2 (.frz od (.dK (encC B3 t3)))) L (.lst (lets (((t3.take (i + 1)).map (·.1)).filter (clash t t3)))) := fun e => by
        rw [ft, e]
        show _ = upd _ L (.lst (lets (_ ++ [])))
        rw [List.append_nil]
      cases e : lookT t t3[i].1 with
      | none =>
        refine iteF (no ?_)
        unfold clash
        rw [e]
      | some z =>
        refine iteT ?_
        refine ⟨_, rfl, _, rfl, d2, V.ref (B3 t3[i].1), rfl, .inl ⟨_, kL t3[i].1, .inr ⟨od, hdF _⟩, rfl, by rw [cSome e3]⟩, _, rfl, _, rfl, d, V.ref (B t3[i].1), rfl, .inl ⟨_, kL t3[i].1, .inl (hdK _), rfl, by rw [cSome e]⟩, ?_⟩
        refine ⟨_, _, .tup (.inl (.inl (up _ (tu9.look e3)))) (dp_nums _), .tup (.inl (.inl (up _ (tu8.look e)))) (dp_nums _), sh_nums _, sh_nums _, _, rfl, ?_⟩
        rw [eqv_nums]
        have ec : clash t t3 t3[i].1 = decide (t3[i].2 ≠ z) := by
          unfold clash
          rw [e, e3]
        by_cases es : t3[i].2 = z
        · rw [decide_eq_true es]
          refine iteF (no ?_)
          rw [ec]
          exact decide_eq_false (fun n => n es)
        · rw [decide_eq_false es]
          have cl : clash t t3 t3[i].1 = true := by
            rw [ec]
            exact decide_eq_true es
          refine iteT ⟨_, rfl, _, rfl, _, upd_same, by rw [lets_len, sizeLine_eq]; omega, ?_⟩
          rw [upd_upd, ft, cl]
          unfold lets
          rw [List.map_append]
          rfl
    rintro H8 rfl
    have dL : d2 ≠ L := ne_of_none upd_same nL
    rw [encC_len, List.take_of_length_le (Nat.le_refl _)]
    refine ⟨by rw [upd_ne dL]; exact upd_same, ?_⟩
    rw [frz_back hd9 dL]
    have nL0 : H9 L = none := by
      rw [upd_ne (Ne.symm dL)] at nL
      exact nL
    have s8 := same_put (s := Same.refl H9) (o := .lst (lets ((t3.map (·.1)).filter (clash t t3)))) nL0
    have f26 : ((t3.map (·.1)).filter (clash t t3)).length ≤ 26 := by
      refine Nat.le_trans (List.length_filter_le _ _) ?_
      rw [List.length_map]
      exact tl9
    refine ⟨L, ((t3.map (·.1)).filter (clash t t3)).map L1, rfl, SqL.of (by rw [upd_same]; unfold lets; rw [List.map_map]; rfl), by rw [List.length_map]; omega, fun ys S hp hs nS => ?_⟩
    have eys := sorted_bad g9 hp hs
    subst eys
    have s10 := same_put (s := s8) (o := .lst (((abc.filter (clash t t3)).map L1).map V.str)) nS
    have hS : upd (upd H9 L (.lst (lets ((t3.map (·.1)).filter (clash t t3))))) S (.lst (((abc.filter (clash t t3)).map L1).map V.str)) S = some (.lst (lets (abc.filter (clash t t3)))) := by
      rw [upd_same]
      unfold lets
      rw [List.map_map]
      rfl
    show Ends.nx _ _ (upd (upd H9 L (.lst (lets ((t3.map (·.1)).filter (clash t t3))))) S (.lst (((abc.filter (clash t t3)).map L1).map V.str)))
    have PAA := (pen_ext PA9 (ExtN.of s10)).less (show n + 1 ≤ _ by omega)
    have tbA := tb9.ext s10
    have mA := m9.trans (Mv.ofSame s10)
    have cdA := cd9.same s10
    have cdB := cdL.same s10
    generalize upd (upd H9 L (.lst (lets ((t3.map (·.1)).filter (clash t t3))))) S (.lst (((abc.filter (clash t t3)).map L1).map V.str)) = HA at s10 hS PAA tbA mA cdA cdB ⊢
    clear nL dL nL0 s8 f26 hp hs nS PA9 tb9 m9 cd9 s10 cdL cd8 hd8 tu8 hd9 tu9
    -- both
    refine ⟨_, rfl, d, _, rfl, .inl cdB.1, fun d3 nd3 => ?_⟩
    have sB := same_put (s := Same.refl HA) (o := .dK (encC B t)) nd3
    have h3 : upd HA d3 (.dK (encC B t)) d3 = some (.dK (encC B t)) := upd_same
    have d3d : d3 ≠ d2 := Ne.symm (ne_of_none cdA.1 nd3)
    refine ⟨_, rfl, .inr (.inr (.inl ⟨rfl, .inl ⟨_, h3⟩⟩)), _, rfl, d3, d2, encC B t, encC B3 t3, rfl, rfl, d3d, h3, sB _ _ cdA.1, by rw [encC_len, encC_len]; omega, ?_⟩
    rw [upd_upd, mergeK_C]
    have sC : Same HA (upd HA d3 (.dK (encC (mrgA B B3 t3) (mrgT t t3)))) := same_put (s := Same.refl HA) nd3
    have cdC : CodA (upd HA d3 (.dK (encC (mrgA B B3 t3) (mrgT t t3)))) d3 (mrgA B B3 t3) (mrgT t t3) := ⟨upd_same, (tups_mrg cdB.2.1 cdA.2.1 g g9).same sC, good_mrg g g9⟩
    have PAB := pen_ext PAA (ExtN.of sC)
    have tbB := tbA.ext sC
    have mB := mA.trans (Mv.ofSame sC)
    have cdA2 := cdA.same sC
    have cdB2 := cdB.same sC
    have hS2 := sC _ _ hS
    show Ends.nx _ _ (upd HA d3 (.dK (encC (mrgA B B3 t3) (mrgT t t3))))
    generalize upd HA d3 (.dK (encC (mrgA B B3 t3) (mrgT t t3))) = HB at sC cdC PAB tbB mB cdA2 cdB2 hS2 ⊢
    clear sC sB h3 hS PAA tbA mA cdA cdB nd3 d3d
    -- more
    refine ⟨_, rfl, .ref d2, rfl, .inl ⟨d2, B3, t3, rfl, cdA2, fun y HC ny wrY sD _ => ?_⟩⟩
    have PAC := pen_ext PAB (ExtN.of sD)
    have tbC := tbB.ext sD
    have mC := mB.trans (Mv.ofSame sD)
    have cdC2 := cdC.same sD
    have cdB3 := cdB2.same sD
    have hS3 := sD _ _ hS2
    clear PAB tbB mB cdA2 cdC cdB2 hS2 sD ny
    -- joined
    have bok : ∀ c, abc.find? (clash t t3) = some c → BadOk (.one 5 (.str (L1 c))) := fun c ec => ⟨by decide, nice_let c (List.mem_of_find?_eq_some ec)⟩
    refine heard_end ((abc.find? (clash t t3)).map fun c => .one 5 (.str (L1 c))) (fun v H => ∃ z C vv, v = .ref z ∧ WrU CW H z C vv ∧ ∀ c, lookT vv c = (lookT t3 c).or (lookT t c)) tbC (fun H1 E2 R e1 tb1 hE hR => ?_) (fun v HD eD tbD hv => ?_)
    · have wrx := (wr.mv PA.pl mC).ext e1
      have wry := wrY.ext e1
      obtain ⟨⟨dx, bx, hx, _⟩, _⟩ := id wrx
      obtain ⟨⟨dy, by_, hy, _⟩, _⟩ := id wry
      refine ⟨_, rfl, _, rfl, x, dx, _, y, dy, _, rfl, hx, rfl, hy, x, A1, t, .ref y, rfl, wrx, .inr ⟨y, B3, t3, rfl, wry, ?_⟩⟩
      cases ec : abc.find? (clash t t3) with
      | some c => exact .inl ⟨c, rfl, hE _ (bok c ec) (by rw [ec]; rfl)⟩
      | none => exact .inr ⟨rfl, fun q C v H' nq wq lk sq => hR (by rw [ec]; rfl) _ _ sq fun H3 s3 => ⟨q, C, v, rfl, wq.same s3, lk⟩⟩
    have PAD := pen_ext PAC eD
    have mD := mC.trans (Mv.ofExt eD)
    have cdD := CodA.ext cdC2 eD
    have cdB4 := CodA.ext cdB3 eD
    have wrY2 := wrY.ext eD
    have hS4 := eD _ _ hS3 (fun _ z => nomatch z)
    clear PAC tbC mC cdC2 cdB3 wrY hS3 eD
    refine ⟨_, rfl, Nat.zero_le _, fun o no => ⟨S, o, lets (abc.filter (clash t t3)), rfl, rfl, ?_, SqL.of upd_same, ?_⟩⟩
    · exact SqL.of (by rw [upd_ne (ne_of_none hS4 no)]; exact hS4)
    have s11 := same_put (s := Same.refl HD) (o := .lst []) no
    have PAE := pen_ext PAD (ExtN.of s11)
    have tbE := tbD.ext s11
    have mE := mD.trans (Mv.ofSame s11)
    have cdE := cdD.same s11
    have cdB5 := cdB4.same s11
    have wrY3 := wrY2.same s11
    have hS5 := s11 _ _ hS4
    generalize upd HD o (.lst []) = HE at s11 PAE tbE mE cdE cdB5 wrY3 hS5 ⊢
    clear PAD tbD mD cdD cdB4 wrY2 hS4
    have ef := clash_head t t3
    cases eb : abc.filter (clash t t3) with
    | cons m0 rest =>
      rw [eb] at ef hS5
      have ef2 : abc.find? (clash t t3) = some m0 := ef.symm
      rw [ef2] at hv
      have hv : HrB HD v (.one 5 (.str (L1 m0))) := hv
      have bk := bok m0 ef2
      refine ⟨true, rfl, iteT ⟨_, rfl, _, rfl, S, _, _, _, rfl, rfl, SqL.of hS5, atI_nat (j := 0) rfl, _, .str (L1 m0), rfl, .str _, bk.2.te, by show 2 ≤ sizeLine; decide, fun t2 nt2 => ?_⟩⟩
      have s12 := same_put (s := Same.refl HE) (o := .tup [.str "unlike", .str (PyData.str (L1 m0)).shown]) nt2
      exact eq_same (d := wdD (.one 5 (.str (L1 m0)))) (hrB_dp (hrB_ext hv (ExtN.of fun b o e => s12 _ _ (s11 _ _ e)))) (.tup (.inl (.inl upd_same)) (dp_strs ["unlike", (PyData.str (L1 m0)).shown])) (wd_shaped bk) (q _ (mE.trans (Mv.ofSame s12)) ((pen_ext PAE (ExtN.of s12)).less (by omega)) (tbE.ext s12))
    | nil =>
      rw [eb] at ef
      have ef2 : abc.find? (clash t t3) = none := ef.symm
      rw [ef2] at hv
      obtain ⟨hl, v1, rfl, hhl, z, C, vv, rfl, wrz, lkz⟩ := hv
      have hhl2 := s11 _ _ hhl
      have wrz2 := wrz.same s11
      clear hhl wrz s11 hS5 eb ef no bok
      refine ⟨false, rfl, iteF ?_⟩
      -- a table of both
      refine ⟨_, rfl, _, .ty "list", .type "list", .type "list", true, rfl, .ty _, .base (.lst hhl2), kit_ty (by decide +kernel), true, rfl, iteF ?_⟩
      refine ⟨_, rfl, hl, _, _, _, rfl, rfl, SqL.of hhl2, atI_nat (j := 0) rfl, _, rfl, z, C, vv, d3, _, _, rfl, wrz2, cdE, fun c => ?_, fun HF sF => ⟨true, rfl, iteF ?_⟩⟩
      · rw [lkz, look_mrgT c _ _ g9.nd]
      have PAF := pen_ext PAE (ExtN.of sF)
      have tbF := tbE.ext sF
      have mF := mE.trans (Mv.ofSame sF)
      have cdB6 := cdB5.same sF
      have wrY4 := wrY3.same sF
      have hhl3 := sF _ _ hhl2
      have wrz3 := wrz2.same sF
      have wrx := wr.mv PA.pl mF
      clear PAE tbE mE cdE cdB5 wrY3 hhl2 wrz2 sF
      obtain ⟨⟨dx, bx, hx, _⟩, _⟩ := id wrx
      obtain ⟨⟨dy, by_, hy, _⟩, _⟩ := id wrY4
      have ef3 : abc.find? (clash t3 t) = none := by
        rw [← ef2]
        congr 1
        funext c
        exact clash_com t3 t c
      -- the other way
      refine ⟨_, rfl, hl, _, _, _, rfl, rfl, SqL.of hhl3, atI_nat (j := 0) rfl, _, rfl, _, rfl, y, dy, _, x, dx, _, rfl, hy, rfl, hx, y, B3, t3, .ref x, rfl, wrY4, .inr ⟨x, A1, t, rfl, wrx, .inr ⟨ef3, fun q2 C2 v2 HG nq2 wq2 lk2 sG => ?_⟩⟩⟩
      have wrz4 := wrz3.same sG
      obtain ⟨⟨dz, bz, hz, _⟩, _⟩ := id wrz4
      obtain ⟨⟨dq, bq, hq, _⟩, _⟩ := id wq2
      refine ⟨z, dz, _, .ref CW, rfl, hz, .base (.ins hq T.clW T.wA T.tB T.tC T.wD), T.nfW, z, C, vv, .ref q2, rfl, wrz4, .inl ⟨q2, C2, v2, rfl, wq2, fun c => ?_, true, rfl, false, rfl, iteF ?_⟩⟩
      · rw [lkz, lk2]
        exact or_same g ef2 c
      have PAG := pen_ext PAF (ExtN.of sG)
      have tbG := tbF.ext sG
      have mG := mF.trans (Mv.ofSame sG)
      have cdB7 := cdB6.same sG
      clear PAF tbF mF cdB6 wrY4 hhl3 wrz3 wrz4 wq2 sG nq2 lk2 lkz hx hy hz hq wrx
      -- no table
      refine ⟨_, rfl, fun e ne => ⟨_, rfl, by show 5 ≤ sizeLine; decide, fun lo nlo => ?_⟩⟩
      have sE := same_put (s := Same.refl HG) (o := .dK []) ne
      have he0 : upd HG e (.dK []) e = some (.dK []) := upd_same
      have ep := PAG.nep ne
      have PAg := pen_ext PAG (ExtN.of sE)
      generalize upd HG e (.dK []) = Hg at sE he0 PAg nlo ⊢
      have sL0 := same_put (s := Same.refl Hg) (o := .lst [V.non, .ref e, .ref d, .str "a", .int 0]) nlo
      have sL := same_put (s := sE) (o := .lst [V.non, .ref e, .ref d, .str "a", .int 0]) nlo
      have he := sL0 _ _ he0
      have hlo : upd Hg lo (.lst [V.non, .ref e, .ref d, .str "a", .int 0]) lo = some (.lst [V.non, .ref e, .ref d, .str "a", .int 0]) := upd_same
      have lop := PAg.nep nlo
      have PAH := pen_ext PAg (ExtN.of sL0)
      have tbH := tbG.ext sL
      have mH := mG.trans (Mv.ofSame sL)
      have hdH := sL _ _ cdB7.1
      show spPick K ([V.ref p, V.ref lo] ++ []) (upd Hg lo (.lst [V.non, .ref e, .ref d, .str "a", .int 0])) _ E0
      generalize upd Hg lo (.lst [V.non, .ref e, .ref d, .str "a", .int 0]) = HH at sL0 sL he hlo PAH tbH mH hdH ⊢
      clear sL0 sL sE he0 PAg nlo ne PAG tbG mG cdB7
      refine ⟨p, l, lo, ns, n, _, rfl, PAH, SqL.of hlo, by show 0 < 5; decide, by show 5 < 1000; decide, fun H5 f5 => SqL.of (f5 _ _ hlo lop), fun wv HI hw PAI frI => ?_⟩
      have dp := ne_of hdH PAH.pl.choose_spec (fun z => nomatch z)
      have oj : OddJ HI wv := by
        simp only [List.mem_cons, List.not_mem_nil, or_false] at hw
        rcases hw with rfl | rfl | rfl | rfl | rfl
        · exact .inl rfl
        · exact .inr (.inl ⟨e, _, rfl, frI _ _ he ep⟩)
        · exact .inr (.inl ⟨d, _, rfl, frI _ _ hdH dp⟩)
        · exact .inr (.inr (.inl ⟨_, rfl⟩))
        · exact .inr (.inr (.inr ⟨_, rfl⟩))
      have mI := mH.trans (Mv.ofFr frI)
      have tbI := tabs_fr tbH PAH.pl frI
      clear hw he hlo hdH dp lop ep frI PAH tbH mH
      have bk : BadOk (.one 0 (.str "other")) := ⟨by decide, nice_other⟩
      refine heard_end (some (.one 0 (.str "other"))) (fun _ _ => False) tbI (fun H1 E2 R e1 tb1 hE hR => ?_) (fun u1 HJ eJ tbJ hu => ?_)
      · have wrx := (wr.mv PA.pl mI).ext e1
        obtain ⟨⟨dx, bx, hx, _⟩, _⟩ := id wrx
        obtain ⟨tn, htn, ty, kt⟩ := (oj.ext e1).ty T
        exact ⟨_, rfl, _, rfl, x, dx, _, .type tn, rfl, hx, ty, TO.bes tn htn, x, A1, t, wv, rfl, wrx, .inl ⟨_, ty, kt, hE _ bk rfl⟩⟩
      have hu : HrB HJ u1 (.one 0 (.str "other")) := hu
      refine ⟨by show 2 ≤ sizeLine; decide, fun tp ntp => ?_⟩
      have sP := same_put (s := Same.refl HJ) (o := .tup [V.str "table", .str "'other'"]) ntp
      have hp : upd HJ tp (.tup [V.str "table", .str "'other'"]) tp = some (.tup [V.str "table", .str "'other'"]) := upd_same
      have mJ := (mI.trans (Mv.ofExt eJ)).trans (Mv.ofSame sP)
      have tbK := tbJ.ext sP
      have PAK := pen_ext (pen_ext PAI eJ) (ExtN.of sP)
      have hu2 := hrB_ext hu (ExtN.of sP)
      show rEqD K _ _ (upd HJ tp (.tup [V.str "table", .str "'other'"])) _
      generalize upd HJ tp (.tup [V.str "table", .str "'other'"]) = HK at sP hp mJ tbK PAK hu2 ⊢
      have ew : wdD (.one 0 (.str "other")) = .tuple ((["table", "'other'"] : List Str).map PyData.str) := by
        show PyData.tuple [.str (wordOf 0), .str (PyData.str "other").shown] = _
        rw [show (PyData.str "other").shown = "'other'" by decide +kernel]
        rfl
      refine eq_same (d := wdD (.one 0 (.str "other"))) (hrB_dp hu2) (ew ▸ .tup (.inl (.inl hp)) (dp_strs ["table", "'other'"])) (wd_shaped bk) ⟨true, rfl, iteT ?_⟩
      exact ⟨_, rfl, _, rfl, x, A1, t, d, B, t, rfl, wr.mv PA.pl mJ, CodA.mv cd PA.pl mJ, fun c => rfl, fun H2 s2 => q _ (mJ.trans (Mv.ofSame s2)) (pen_ext PAK (ExtN.of s2)) (tbK.ext s2)⟩
end
end V8

set_option Elab.async false
set_option linter.all false
set_option maxRecDepth 100000
set_option maxHeartbeats 16000000
set_option pp.maxSteps 900
/-! Texts written. -/
namespace V8
open PySem PySem.Spec PyProof.Rows L2 MX SetT LamX
abbrev s__law_texts_right : Stmt := topS 35
abbrev n__law_texts_right : List Str := ["_law_pen_here", "_law_table", "_law_codes_so", "_law_strange", "_law_some", "_law_turn", "_law_word", "_law_lacking", "_law_numbers", "_law_one", "_law_heard_here", "_law_odd", "_law_spot"]
theorem sc__law_texts_right : FnScope ["_law_pen_here", "_law_table", "_law_codes_so", "_law_strange", "_law_some", "_law_turn", "_law_word", "_law_lacking", "_law_numbers", "_law_one", "_law_heard_here", "_law_odd", "_law_spot"] ["_law_pen_here", "_law_table", "_law_codes_so", "_law_strange"] (defScope s__law_texts_right) := ⟨rfl, rfl, rfl, by decide +kernel, rfl, by decide +kernel, by decide +kernel⟩
/-- what comes of a text that is written -/
def dueW (t : Tab) (ws : List Nat) : Bad ⊕ List Nat := match lackW t ws with
  | some c => .inl (.one 3 (.str (L1 c)))
  | none => .inr (wrT t ws)
def HrC (H : Hp) (v : V) : Bad ⊕ List Nat → Prop
  | .inl b => HrB H v b
  | .inr s => ∃ l a, v = .ref l ∧ H l = some (.lst [.ref a]) ∧ H a = some (.tup (nums s))
def dC : Bad ⊕ List Nat → PyData
  | .inl b => wdD b
  | .inr s => .list [codeDt s]
def oC : Bad ⊕ List Nat → Option Bad
  | .inl b => some b
  | .inr _ => none
def PC (r : Bad ⊕ List Nat) : V → Hp → Prop := fun x H => ∃ s a, r = .inr s ∧ x = .ref a ∧ H a = some (.tup (nums s))
theorem hrC_of {H : Hp} {v : V} {r : Bad ⊕ List Nat} (h : HrO (PC r) H v (oC r)) : HrC H v r := by
  cases r with
  | inl b => exact h
  | inr s =>
    obtain ⟨l, x, rfl, hl, s2, a, e, rfl, ha⟩ := h
    cases e
    exact ⟨l, a, rfl, hl, ha⟩
theorem hrC_py {H : Hp} {v : V} {r : Bad ⊕ List Nat} (h : HrC H v r) : PyW H v (dC r) := by
  cases r with
  | inl b => exact hrB_py h
  | inr s =>
    obtain ⟨l, a, rfl, hl, ha⟩ := h
    exact .lst hl (.cons (py_code ha) .nil)
theorem tells_one {s : List Nat} (h : ∀ n ∈ s, n < 256) (l : s.length ≤ 40) : Tells (.list [codeDt s]) := tells_list 200000 (fun d hd => by
  rw [List.mem_singleton.mp hd]
  obtain ⟨h1, h2, h3⟩ := code_ok h
  exact ⟨h1, h2, Nat.le_trans h3 (by have := Nat.mul_le_mul_right 3002 l; omega)⟩) (by show 1 * (200000 + 2) + 2 ≤ 8000000; decide)
theorem wr_256 {t : Tab} (g : GoodC t) (ws : List Nat) : ∀ n ∈ wrT t ws, n < 256 := fun n hn => by
  unfold wrT at hn
  obtain ⟨s, hs, hn2⟩ := List.mem_flatten.mp hn
  obtain ⟨c, _, rfl⟩ := List.mem_map.mp hs
  cases e : lookT t c with
  | none =>
    rw [e] at hn2
    exact absurd hn2 List.not_mem_nil
  | some z =>
    rw [e] at hn2
    exact (g.look e).2.2.2 n hn2
theorem lack_filter (t : Tab) (ws : List Nat) : lackW t ws = (ws.filter fun c => !(lookT t c).isSome).head? := List.head?_filter.symm
theorem flat_sing : ∀ ws : List Nat, (ws.map fun c => [c]).flatten = ws
  | [] => rfl
  | c :: ws => by
    rw [List.map_cons, List.flatten_cons, flat_sing ws]
    rfl
theorem held_t0 {H : Hp} {a : Addr} (h : H a = some (.tup [])) : Held H (.ref a) (.tuple []) := ⟨.inr (.inl ⟨a, [], rfl, .inl h, by decide, fun y hy => absurd hy List.not_mem_nil⟩), .tup h .nil, ⟨by decide +kernel, by decide +kernel, by decide +kernel⟩, by decide +kernel, by decide +kernel, by decide +kernel, fun z e => nomatch e⟩
theorem wr_step {t : Tab} {ws : List Nat} {i c : Nat} (h : ws[i]? = some c) : wrT t (ws.take (i + 1)) = wrT t (ws.take i) ++ (lookT t c).getD [] := by
  unfold wrT
  rw [List.take_add_one, h, List.map_append, List.flatten_append]
  show _ ++ [(lookT t c).getD []].flatten = _
  rw [List.flatten_cons, List.flatten_nil, List.append_nil]
theorem nice_word {ws : List Nat} (h : ∀ c ∈ ws, isLt c) (l : ws.length ≤ 5) : NiceD (.str (Sx ws)) := by
  have ok := ok_sx h
  have sh := show_str (z := Sx ws) ok
  rw [Sx_len] at sh
  refine ⟨⟨by simp [PyData.showable], by simp [PyData.depth], by omega⟩, by omega, by simp [PyData.depth], ?_, fun z e => ?_⟩
  · simp only [PyData.shown]
    rw [quote_letters h]
    refine strOk_lt fun c hc => ?_
    have hc2 : c ∈ 39 :: (ws ++ [39]) := by
      have e : (Sx (39 :: (ws ++ [39]))).cps.toList = 39 :: (ws ++ [39]) := by
        show (39 :: (ws ++ [39])).toArray.toList = _
        simp
      rw [e] at hc
      exact hc
    rcases List.mem_cons.mp hc2 with h2 | h2
    · omega
    · rcases List.mem_append.mp h2 with h3 | h3
      · have := (h c h3).2
        omega
      · have := List.mem_singleton.mp h3
        omega
  · cases e
    refine ⟨by rw [Sx_len]; omega, fun d hd => ?_⟩
    have := (h d hd).2
    omega
def spTexts (TL : List (Addr × Str)) (CW : Addr) : Sp := fun vs H Q _ => ∃ (p l : Addr) (ns : List Int) (n : Nat) (x : Addr) (A : Ad) (d : Addr) (B : Ad) (t : Tab) (sl : Addr) (s0 s1 : Nat), vs = [.ref p, .ref x, .ref d, .ref sl] ∧ PenAt H p l ns (n + 40) ∧ Tabs TL H ∧ WrU CW H x A t ∧ CodA H d B t ∧ H sl = some (.lst (lets [s0, s1])) ∧ sl ≠ p ∧ isLt s0 ∧ isLt s1 ∧ lookT t s0 = none ∧
  ∀ H2, Mv p H H2 → PenAt H2 p l ns n → Tabs TL H2 → Q (.bl true) H2
section
variable {P : Program} {w : World} {K : PySem.W.Frag} {mg : Str → Option Value} {base : Heap} {CW CE g c PT : Addr} {Cz : Nat → Addr} {TL : List (Addr × Str)}
theorem ok_texts {f : Addr} {fd : FuncData} (F : FunC K "_law_texts_right" "_law_texts_right" s__law_texts_right f c fd) (T : Tc K mg CW CE Cz) (sys : SysIn base) (D_draw : Df P w K mg base 1 "_law_draw" spDraw) (D_pick : Df P w K mg base 2 "_law_pick" (spPick K)) (D_callW : MfG P w K mg base (L2.CX P w) 6 CW "__call__" (spCaW CW Cz))
    (D_getW : MfG P w K mg base (L2.CX P w) 5 CW "__getitem__" (spGetW CW Cz)) (D_heard : HearD K mg g) (TB : TabT base mg TL (("_law_texts_right" : Str) ++ ".<locals>.") c PT) : FnG P w K mg base CX0 12 f fd ["_law_pen_here", "_law_table", "_law_codes_so", "_law_strange"] (spTexts TL CW) := by
  refine F.okG sc__law_texts_right (fun vs H Q E h => ?_) (fun A outer s H vs Q E quiet hr h => ?_)
  · obtain ⟨p, l, ns, n, x, A, d, B, t, sl, s0, s1, rfl, _⟩ := h
    rfl
  · obtain ⟨p, l, ns, n, x, A1, d, B, t, sl, s0, s1, rfl, PA, tb, wr, cd, hsl, slp, hs0, hs1, ls0, q⟩ := h
    refine ⟨_, (pss_cons (ps_set (i := 4) sc__law_texts_right.nd rfl (.inr rfl) (pe_lock (pe_lc (own := [("_law_one", 9)]) (g := gName 9) (by rfl) sc__law_texts_right.nd (pi_keys (pv 2)) (blkOk_by (own := [("_law_one", 9)]) (N := n__law_texts_right) (sc := defScope s__law_texts_right) (by decide +kernel)) (fun _ _ _ _ _ => (pg_name (i := 9) sc__law_texts_right.nd rfl (.inl rfl))) (fun _ _ _ _ _ => pts_nil) (fun _ _ _ _ _ => (pv 9)))))
      (pss_cons (ps_for PassesOwn.never rfl (pi_range1 (by rfl) T.range (pa_cons pe_int pa_nil)) (pg_name (i := 5) sc__law_texts_right.nd rfl (.inl rfl))
        (pss_cons (ps_set (i := 6) sc__law_texts_right.nd rfl (.inr rfl) (pe_joinK (K := K) rfl pe_str (pe_lc (own := [("_law_spot", 12)]) (g := gName 12) (by rfl) sc__law_texts_right.nd (pi_range1 (by rfl) T.range (pa_cons (pe_c D_draw hr (by decide) (by rfl) (pa_cons (pv 0) (pa_cons pe_int pa_nil))) pa_nil)) (blkOk_by (own := [("_law_spot", 12)]) (N := n__law_texts_right) (sc := defScope s__law_texts_right) (by decide +kernel)) (fun _ _ _ _ _ => (pg_name (i := 12) sc__law_texts_right.nd rfl (.inl rfl))) (fun _ _ _ _ _ => pts_nil) (fun _ _ _ _ _ => (pe_c D_pick hr (by decide) (by rfl) (pa_cons (pv 0) (pa_cons (pe_op op_cat (pe_op op_cat (pv 4) (pv 4)) (pv 3)) pa_nil)))))))
        (pss_cons (ps_par (i := 7) (j := 8) (by rfl) sc__law_texts_right.nd rfl rfl (by decide) rfl rfl (pa_cons (pe_lc (own := [("_law_one", 9)]) (g := gName 9) (by rfl) sc__law_texts_right.nd (pi_str (pv 6)) (blkOk_by (own := [("_law_one", 9)]) (N := n__law_texts_right) (sc := defScope s__law_texts_right) (by decide +kernel)) (fun _ _ _ _ _ => (pg_name (i := 9) sc__law_texts_right.nd rfl (.inl rfl))) (fun _ _ _ _ _ => (pts_one (pt_cmp (pc_dnotin (hu_of hr) (pv 9) (pv 2))))) (fun _ _ _ _ _ => (pv 9))) (pa_cons (pe_lst pa_nil) pa_nil)) (by rfl))
        (pss_cons (ps_for PassesOwn.never rfl (pi_str (pv 6)) (pg_name (i := 9) sc__law_texts_right.nd rfl (.inl rfl))
          (pss_one (ps_set (i := 8) sc__law_texts_right.nd rfl (.inl rfl) (pe_op op_cat (pv 8) (pe_callTy (call_list_ofK (K := K) rfl) (by rfl) T.list (by decide +kernel) (pa_cons (pe_dget2 (hu_of hr) (pv 2) (pv 9) (pe_tup pa_nil) ⟨by rfl, by rfl, by rfl, by rfl⟩) pa_nil))))))
        (pss_cons (ps_set (i := 10) sc__law_texts_right.nd rfl (.inl rfl) (pe_heardG (k := 8) T D_heard TB sys quiet hr (by decide) rfl rfl (by rfl) (lamS_by (sc := defScope s__law_texts_right) (by decide +kernel)) (by rfl) (fun _ _ _ _ _ => rfl) (fun A2 o2 s2 H2 E2 f2 c2 quiet2 hr2 => (pe_callG (pv 1) D_callW quiet2 (passTk (takes_of rfl rfl rfl rfl)) hr2 (by decide) (pa_cons (pv 6) pa_nil)))))
        (pss_one (ps_if (pt_cmpR op_ne (pe_callB (call_reprW sys quiet hr) (by rfl) T.repr (by decide +kernel) (pa_cons (pv 10) pa_nil)) (pe_callB (call_reprW sys quiet hr) (by rfl) T.repr (by decide +kernel) (pa_cons (pe_ifExp (pt_cmpR (op_eqDK (K := K) rfl hr.units) (pv 7) (pe_lst pa_nil) (nomark _)) (pe_lst (pa_cons (pe_callTy (call_tuple_ofK (K := K) rfl) (by rfl) T.tuple (by decide +kernel) (pa_cons (pv 8) pa_nil)) pa_nil)) (pe_tup (pa_cons pe_str (pa_cons (pe_callB (call_reprW sys quiet hr) (by rfl) T.repr (by decide +kernel) (pa_cons (pe_ix (ix_listK (K := K) rfl) (pv 7) pe_int (fun _ _ => rfl)) pa_nil)) pa_nil)))) pa_nil)) (nomark _))
          (pss_one (ps_ret pe_bl))
          pss_nil)))))))
      (pss_cons (ps_set (i := 11) sc__law_texts_right.nd rfl (.inr rfl) (pe_c D_pick hr (by decide) (by rfl) (pa_cons (pv 0) (pa_cons (pe_lst (pa_cons pe_non (pa_cons pe_int (pa_cons pe_str (pa_cons pe_str (pa_cons (pe_tup (pa_cons pe_str pa_nil)) (pa_cons (pe_lst pa_nil) (pa_cons pe_dnewK (pa_cons pe_bl (pa_cons pe_str (pa_cons (pe_op op_pow pe_int pe_int) pa_nil))))))))))) pa_nil))))
      (pss_cons (ps_set (i := 10) sc__law_texts_right.nd rfl (.inl rfl) (pe_lst (pa_cons (pe_heardG (k := 8) T D_heard TB sys quiet hr (by decide) rfl rfl (by rfl) (lamS_by (sc := defScope s__law_texts_right) (by decide +kernel)) (by rfl) (fun _ _ _ _ _ => rfl) (fun A2 o2 s2 H2 E2 f2 c2 quiet2 hr2 => (pe_callG (pv 1) D_callW quiet2 (passTk (takes_of rfl rfl rfl rfl)) hr2 (by decide) (pa_cons (pv 11) pa_nil)))) pa_nil)))
      (pss_cons (ps_expr (pe_bmK (K := K) rfl PySem.F.plainAttrs_list PySem.F.slot_list_append PySem.F.type_list_append mt_append (pv 10) (pa_cons (pe_heardG (k := 8) T D_heard TB sys quiet hr (by decide) rfl rfl (by rfl) (lamS_by (sc := defScope s__law_texts_right) (by decide +kernel)) (by rfl) (fun _ _ _ _ _ => rfl) (fun A2 o2 s2 H2 E2 f2 c2 quiet2 hr2 => (pe_ixG D_getW quiet2 (passTk (takes_of rfl rfl rfl rfl)) hr2 (by decide) (pv 1) (pe_ix (ix_listK (K := K) rfl) (pv 3) pe_int (fun _ _ => rfl))))) pa_nil)))
      (pss_cons (ps_expr (pe_bmK (K := K) rfl PySem.F.plainAttrs_list PySem.F.slot_list_append PySem.F.type_list_append mt_append (pv 10) (pa_cons (pe_heardG (k := 8) T D_heard TB sys quiet hr (by decide) rfl rfl (by rfl) (lamS_by (sc := defScope s__law_texts_right) (by decide +kernel)) (by rfl) (fun _ _ _ _ _ => rfl) (fun A2 o2 s2 H2 E2 f2 c2 quiet2 hr2 => (pe_ixG D_getW quiet2 (passTk (takes_of rfl rfl rfl rfl)) hr2 (by decide) (pv 1) (pv 11)))) pa_nil)))
      (pss_one (ps_ret (pe_cmpR (op_eqDK (K := K) rfl hr.units) (pv 10) (pe_lst (pa_cons (pe_tup (pa_cons pe_str (pa_cons (pe_callB (call_reprW sys quiet hr) (by rfl) T.repr (by decide +kernel) (pa_cons (pv 11) pa_nil)) pa_nil))) (pa_cons (pe_tup (pa_cons pe_str (pa_cons (pe_callB (call_reprW sys quiet hr) (by rfl) T.repr (by decide +kernel) (pa_cons (pe_ix (ix_listK (K := K) rfl) (pv 3) pe_int (fun _ _ => rfl)) pa_nil)) pa_nil))) (pa_cons (pe_tup (pa_cons pe_str (pa_cons (pe_callB (call_reprW sys quiet hr) (by rfl) T.repr (by decide +kernel) (pa_cons (pv 11) pa_nil)) pa_nil))) pa_nil)))) (nomark _)))))))))), ?_⟩
    obtain ⟨hd, tu, g⟩ := id cd
    have tl := g.key
    -- its letters
    refine ⟨d, _, hd, True.intro, fun od => ⟨_, rfl, d, od, rfl, .inl ⟨_, upd_same, fun D nD => lc_it (walk_keys (d := d) (o := od) (kvs := encC B t)) (fun i H2 => H2 = upd (upd H d (.frz od (.dK (encC B t)))) D (.lst (lets ((t.take i).map (·.1))))) rfl ?_ ?_ ?_⟩⟩⟩
    · rintro i H2 hi rfl
      rw [upd_ne (ne_of_none upd_same nD)]
      exact upd_same
    · rintro i y H2 H3 hi rfl ⟨eH, k, v, hk, rfl⟩
      rw [eH]
      obtain ⟨hit, rfl, rfl⟩ := encG_at hk
      refine ⟨rfl, _, rfl, _, upd_same, ?_, ?_⟩
      · show (List.map _ _).length < _
        rw [List.length_map, List.length_map, List.length_take, sizeLine_eq]
        omega
      · rw [upd_upd, List.take_add_one, List.getElem?_eq_getElem hit]
        unfold lets
        rw [List.map_append, List.map_append]
        rfl
    rintro H2 rfl
    have dD : d ≠ D := ne_of_none upd_same nD
    rw [encC_len, List.take_of_length_le (Nat.le_refl _)]
    refine ⟨by rw [upd_ne dD]; exact upd_same, ?_⟩
    rw [frz_back hd dD]
    have nD0 : H D = none := by
      rw [upd_ne (Ne.symm dD)] at nD
      exact nD
    have s1' := same_put (s := Same.refl H) (o := .lst (lets (t.map (·.1)))) nD0
    have hkn : upd H D (.lst (lets (t.map (·.1)))) D = some (.lst (lets (t.map (·.1)))) := upd_same
    have knp := PA.nep nD0
    have PA1 := pen_ext PA (ExtN.of s1')
    have tb1 := tb.ext s1'
    have m1 : Mv p H (upd H D (.lst (lets (t.map (·.1))))) := Mv.ofSame s1'
    generalize upd H D (.lst (lets (t.map (·.1)))) = H1 at s1' hkn PA1 tb1 m1 ⊢
    clear nD dD nD0 hd tu s1' tb
    have kl : ∀ c ∈ t.map (·.1), isLt c := fun c hc => by
      obtain ⟨q, hq, rfl⟩ := List.mem_map.mp hc
      exact g.lt q hq
    have kn : (t.map (·.1)).length ≤ 26 := by rw [List.length_map]; exact tl
    generalize t.map (·.1) = ks at hkn kl kn ⊢
    -- the turns
    refine ⟨_, rfl, by decide, by decide, for_it (walk_range (lo := 0) (n := 3)) (fun i σ H2 => (∃ v5 v6 v7 v8 v9 v10 v11 v12 : Option V, σ = [some (.ref p), some (.ref x), some (.ref d), some (.ref sl), some (.ref D), v5, v6, v7, v8, v9, v10, v11, v12]) ∧ PenAt H2 p l ns (n + 3 + 10 * (3 - i)) ∧ Tabs TL H2 ∧ H2 D = some (.lst (lets ks)) ∧ Mv p H H2) ⟨⟨_, _, _, _, _, _, _, _, rfl⟩, PA1.less (by omega), tb1, hkn, m1⟩ (fun _ _ _ _ _ => True.intro) ?_ ?_⟩
    · rintro i z σ H20 H2 hi ⟨⟨v5, v6, v7, v8, v9, v10, v11, v12, rfl⟩, PA2, tb2, hk2, m2⟩ ⟨rfl, rfl⟩
      have eb : n + 3 + 10 * (3 - i) = n + 3 + 10 * (3 - (i + 1)) + 10 := by omega
      rw [eb] at PA2
      generalize n + 3 + 10 * (3 - (i + 1)) = m at PA2 ⊢
      -- a word
      have hsl2 := m2 _ _ hsl slp (fun _ z => nomatch z)
      refine ⟨⟨_, rfl⟩, _, rfl, p, l, ns, m + 9, 5, rfl, PA2, by decide, by decide, fun cnt H3 c0 c1 PA3 fr3 => ⟨cnt, rfl, by omega, by omega, fun W nW => ?_⟩⟩
      have m3 : Mv p H H3 := m2.trans (Mv.ofFr fr3)
      have hk3 := fr3 _ _ hk2 knp
      have tb3 := tabs_fr tb2 PA2.pl fr3
      have Wp := PA3.nep nW
      have Wl := PA3.nel nW
      have WD := ne_of_none hk3 nW
      have offW := m3.off nW
      clear m2 hk2 tb2 PA2 fr3 hsl2
      refine lc_range (lo := 0) (n := cnt.toNat) (fun i H4 => ∃ ws : List Nat, ws.length = i ∧ (∀ c ∈ ws, isLt c) ∧ H4 W = some (.lst (lets ws)) ∧ PenAt H4 p l ns (m + 4 + (5 - i)) ∧ Tabs TL H4 ∧ H4 D = some (.lst (lets ks)) ∧ Mv p H H4) ?_ ?_ ?_
      · have sW := same_put (s := Same.refl H3) (o := .lst []) nW
        exact ⟨[], rfl, (fun c h => absurd h List.not_mem_nil), upd_same, (pen_ext PA3 (ExtN.of sW)).less (by omega), tb3.ext sW, sW _ _ hk3, m3.trans (Mv.ofSame sW)⟩
      · rintro i2 H4 hi2 ⟨ws, wl, wlt, hW, PA4, tb4, hk4, m4⟩
        have hsl4 := m4 _ _ hsl slp (fun _ z => nomatch z)
        refine ⟨rfl, _, rfl, _, rfl, _, rfl, D, D, _, _, rfl, rfl, hk4, hk4, by rw [lets_len, sizeLine_eq]; omega, fun a1 na1 => ?_⟩
        have sa1 := same_put (s := Same.refl H4) (o := .lst (lets ks ++ lets ks)) na1
        have ha1 : upd H4 a1 (.lst (lets ks ++ lets ks)) a1 = some (.lst (lets ks ++ lets ks)) := upd_same
        have PAa := pen_ext PA4 (ExtN.of sa1)
        generalize upd H4 a1 (.lst (lets ks ++ lets ks)) = Ha at sa1 ha1 PAa ⊢
        refine ⟨_, rfl, a1, sl, _, _, rfl, rfl, ha1, sa1 _ _ hsl4, by rw [List.length_append, lets_len, lets_len, sizeLine_eq]; show _ + 2 ≤ _; omega, fun a2 na2 => ?_⟩
        have sa2 := same_put (s := sa1) (o := .lst (lets ks ++ lets ks ++ lets [s0, s1])) na2
        have ha2 : upd Ha a2 (.lst (lets ks ++ lets ks ++ lets [s0, s1])) a2 = some (.lst (lets ks ++ lets ks ++ lets [s0, s1])) := upd_same
        have a2p := PAa.nep na2
        have PAb := pen_ext PAa (ExtN.of (same_put (s := Same.refl Ha) (o := .lst (lets ks ++ lets ks ++ lets [s0, s1])) na2))
        generalize upd Ha a2 (.lst (lets ks ++ lets ks ++ lets [s0, s1])) = Hb at sa2 ha2 PAb ⊢
        refine ⟨p, l, a2, ns, m + 4 + (5 - (i2 + 1)), _, rfl, PAb.less (by omega), SqL.of ha2, by rw [List.length_append, lets_len]; show 0 < _ + 2; omega, by rw [List.length_append, List.length_append, lets_len, lets_len]; show _ + 2 < _; omega, fun H' f => SqL.of (f _ _ ha2 a2p), fun v H5 hv PA5 fr5 => ?_⟩
        obtain ⟨c, hc, rfl⟩ : ∃ c, isLt c ∧ v = .str (L1 c) := by
          rcases List.mem_append.mp hv with h | h
          · rcases List.mem_append.mp h with h | h
            · obtain ⟨c, hc, rfl⟩ := lets_mem h
              exact ⟨c, kl c hc, rfl⟩
            · obtain ⟨c, hc, rfl⟩ := lets_mem h
              exact ⟨c, kl c hc, rfl⟩
          · obtain ⟨c, hc, rfl⟩ := lets_mem h
            simp only [List.mem_cons, List.not_mem_nil, or_false] at hc
            rcases hc with rfl | rfl
            · exact ⟨_, hs0, rfl⟩
            · exact ⟨_, hs1, rfl⟩
        have m5 : Mv p H4 H5 := (Mv.ofSame sa2).trans (Mv.ofFr fr5)
        have hW5 := m5 _ _ hW Wp (fun _ z => nomatch z)
        refine ⟨lets ws, hW5, by rw [lets_len, wl, sizeLine_eq]; omega, ws ++ [c], by rw [List.length_append, wl]; rfl, fun d hd => ?_, ?_, PA5.other Wp Wl, tabs_fr (tabs_fr (tb4.ext sa2) PAb.pl fr5) ⟨_, hW5⟩ Fr.at, ?_, (m4.trans m5).put offW⟩
        · rcases List.mem_append.mp hd with h | h
          · exact wlt d h
          · rw [List.mem_singleton.mp h]
            exact hc
        · rw [upd_same]
          unfold lets
          rw [List.map_append]
          rfl
        · rw [upd_ne WD]
          exact m5 _ _ hk4 knp (fun _ z => nomatch z)
      rintro H4 ⟨ws, wl, wlt, hW, PA4, tb4, hk4, m4⟩
      refine ⟨Str.empty, W, ws.map L1, rfl, rfl, .inl (SqL.of (by rw [hW]; unfold lets; rw [List.map_map]; rfl)), ?_, ?_⟩
      · have h1 : ((ws.map L1).map fun x => x.length).sum ≤ _ := sum_le (fun x => x.length) 1 _ fun y hy => by
          obtain ⟨c, _, rfl⟩ := List.mem_map.mp hy
          exact Nat.le_refl _
        rw [List.length_map] at h1 ⊢
        show _ + _ * 0 ≤ _
        omega
      rw [join_L1]
      clear nW offW PA3 m3 hk3 tb3 Wp Wl WD hW
      have wr4 := wr.mv PA.pl m4
      have cd4 := CodA.mv cd PA.pl m4
      obtain ⟨hd4, tu4, _⟩ := id cd4
      -- the letters that have none
      refine ⟨_, rfl, Sx ws, rfl, fun L nL => lc_it walk_str (fun i H5 => H5 = upd H4 L (.lst (lets ((ws.take i).filter fun c => !(lookT t c).isSome)))) rfl (fun _ _ _ _ => trivial) ?_ ?_⟩
      · rintro i2 y H5 H6 hi2 rfl ⟨rfl, c, hc0, rfl⟩
        have hc1 := sx_at hc0
        have s5 := same_put (s := Same.refl H4) (o := .lst (lets ((ws.take i2).filter fun c => !(lookT t c).isSome))) nL
        have fl : ((ws.take i2).filter fun c => !(lookT t c).isSome).length ≤ 5 := Nat.le_trans (List.length_filter_le _ _) (by rw [List.length_take]; omega)
        have ft : (ws.take (i2 + 1)).filter (fun c => !(lookT t c).isSome) = ((ws.take i2).filter fun c => !(lookT t c).isSome) ++ if (!(lookT t c).isSome) = true then [c] else [] := by
          rw [List.take_add_one, hc1, List.filter_append]
          congr 1
          show List.filter _ [c] = _
          rw [List.filter_cons]
          rfl
        refine ⟨rfl, _, rfl, _, rfl, d, _, rfl, dgC (.inl (s5 _ _ hd4)) c, _, rfl, ?_⟩
        rw [cIs]
        cases e : lookT t c with
        | some z =>
          refine iteF ?_
          rw [ft, e]
          show _ = upd H4 L (.lst (lets (_ ++ [])))
          rw [List.append_nil]
        | none =>
          refine iteT ⟨_, rfl, _, upd_same, by rw [lets_len, sizeLine_eq]; omega, ?_⟩
          rw [upd_upd, ft, e]
          unfold lets
          rw [List.map_append]
          rfl
      · rintro H5 rfl
        rw [sx_size, List.take_length]
        have s5 := same_put (s := Same.refl H4) (o := .lst (lets (ws.filter fun c => !(lookT t c).isSome))) nL
        have hL5 : upd H4 L (.lst (lets (ws.filter fun c => !(lookT t c).isSome))) L = some (.lst (lets (ws.filter fun c => !(lookT t c).isSome))) := upd_same
        have Lp := PA4.nep nL
        generalize upd H4 L (.lst (lets (ws.filter fun c => !(lookT t c).isSome))) = H5 at s5 hL5 ⊢
        refine ⟨Nat.zero_le _, fun nb nnb => ?_⟩
        have s6 := same_put (s := s5) (o := .lst []) nnb
        have hnb : upd H5 nb (.lst []) nb = some (.lst []) := upd_same
        have hL6 : upd H5 nb (.lst []) L = _ := (same_put (s := Same.refl H5) (o := .lst []) nnb) _ _ hL5
        generalize upd H5 nb (.lst []) = H6 at s6 hnb hL6 ⊢
        refine ⟨_, _, rfl, ?_⟩
        have tb6 := tb4.ext s6
        have PA6 := pen_ext PA4 (ExtN.of s6)
        have hk6 := s6 _ _ hk4
        have m6 : Mv p H H6 := m4.trans (Mv.ofSame s6)
        clear hL5 s5 nnb nL tb4 PA4 hk4 s6 wr4 cd4 hd4 tu4 m4
        have w5 : ws.length ≤ 5 := by omega
        -- its integers
        refine ⟨_, rfl, Sx ws, rfl, for_it walk_str (fun i2 σ H7 => (∃ (v9 : Option V) (na : Addr), σ = [some (.ref p), some (.ref x), some (.ref d), some (.ref sl), some (.ref D), some (.int (0 + ((i : Nat) : Int))), some (.str (Sx ws)), some (.ref L), some (.ref na), v9, v10, v11, v12] ∧ H7 na = some (.lst (nums (wrT t (ws.take i2))))) ∧ Same H6 H7) ⟨⟨v9, nb, rfl, hnb⟩, Same.refl H6⟩ (fun _ _ _ _ _ => trivial) ?_ ?_⟩
        · rintro i2 y σ H70 H7 hi2 ⟨⟨v9, na, rfl, hna⟩, s7⟩ ⟨rfl, c, hc0, rfl⟩
          have hc1 := sx_at hc0
          have cd7 := (CodA.mv cd PA.pl m6).same s7
          obtain ⟨hd7, tu7, _⟩ := id cd7
          have wl := wr_len g (ws.take i2)
          have wl2 : (ws.take i2).length ≤ 5 := by rw [List.length_take]; omega
          refine ⟨_, rfl, _, rfl, d, rfl, .inl ⟨_, .inl hd7⟩, _, rfl, Nat.zero_le _, fun te nte => ?_⟩
          have st := same_put (s := Same.refl H7) (o := .tup []) nte
          have hte : upd H7 te (.tup []) te = some (.tup []) := upd_same
          generalize upd H7 te (.tup []) = H8 at st hte ⊢
          refine ⟨_, dgC (.inl (st _ _ hd7)) c, ?_⟩
          obtain ⟨pa, hpa, epa⟩ : ∃ pa, H8 pa = some (.tup (nums ((lookT t c).getD []))) ∧ (valV (encC B t) (kL c)).getD (V.ref te) = .ref pa := by
            cases e : lookT t c with
            | none =>
              refine ⟨te, hte, ?_⟩
              have h1 : (valV (encC B t) (kL c)).isSome = false := by rw [cIs, e]; rfl
              cases e2 : valV (encC B t) (kL c) with
              | none => rfl
              | some v =>
                rw [e2] at h1
                cases h1
            | some z => exact ⟨B c, st _ _ (tu7.look e), by rw [cSome e]; rfl⟩
          have l4 : ((lookT t c).getD []).length ≤ 4 := by
            cases e : lookT t c with
            | none => exact Nat.zero_le _
            | some z => exact (g.look e).2.2.1
          refine ⟨pa, _, by rw [epa], .inr (.inl (.inl hpa)), fun l2 nl2 => ⟨na, l2, _, _, rfl, rfl, (same_put (s := st) (o := .lst (nums ((lookT t c).getD []))) nl2) _ _ hna, upd_same, by rw [nums_len, nums_len, sizeLine_eq]; omega, fun nc nnc => ?_⟩⟩
          refine ⟨⟨_, nc, rfl, by rw [upd_same, nums_app, wr_step hc1]⟩, ?_⟩
          exact fun b o e => (same_put (s := same_put (s := st) nl2) nnc) _ _ (s7 _ _ e)
        · rintro σ H7 ⟨⟨v9, na, rfl, hna⟩, s7⟩
          rw [sx_size, List.take_length] at hna
          have PA7 := pen_ext PA6 (ExtN.of s7)
          have tb7 := tb6.ext s7
          have m7 : Mv p H H7 := m6.trans (Mv.ofSame s7)
          have hk7 := s7 _ _ hk6
          have hL7 := s7 _ _ hL6
          have wr7 := wr.mv PA.pl m7
          have wl := wr_len g ws
          have hwd : Held H7 (.str (Sx ws)) (.str (Sx ws)) := th_flat (nice_word wlt w5)
          clear PA6 tb6 m6 hk6 hL6 hnb s7
          obtain ⟨r, er⟩ : ∃ r, r = dueW t ws := ⟨_, rfl⟩
          have bok : ∀ c, lackW t ws = some c → BadOk (.one 3 (.str (L1 c))) := fun c ec => ⟨by decide, nice_let c (abc_mem.mpr (wlt c (List.mem_of_find?_eq_some ec)))⟩
          refine heard_end (oC r) (PC r) tb7 (fun H8 E2 R e8 tb8 hE hR => ?_) (fun w1 H8 e8 tb8 hw1 => ?_)
          · have wr8 := wr7.ext e8
            obtain ⟨⟨dx, b, hx, _⟩, _⟩ := id wr8
            refine ⟨_, rfl, x, rfl, _, rfl, ⟨dx, _, hx⟩, x, A1, t, _, _, rfl, wr8, held_ext hwd e8, .inr ⟨ws, rfl, wlt, by omega, ?_⟩⟩
            unfold dueW at er
            cases el : lackW t ws with
            | some c =>
              rw [el] at er
              exact .inl ⟨c, rfl, hE _ (bok c el) (by rw [er]; rfl)⟩
            | none =>
              rw [el] at er
              exact .inr ⟨rfl, fun a H2 s2 ha => hR (by rw [er]; rfl) _ _ s2 fun H3 s3 => ⟨wrT t ws, a, er, rfl, s3 _ _ ha⟩⟩
          have hw1 := hrC_of hw1
          have PA8 := pen_ext PA7 e8
          have m8 : Mv p H H8 := m7.trans (Mv.ofExt e8)
          have hk8 := e8 _ _ hk7 (fun _ z => nomatch z)
          have hL8 := e8 _ _ hL7 (fun _ z => nomatch z)
          have hna8 := e8 _ _ hna (fun _ z => nomatch z)
          clear PA7 tb7 m7 hk7 hL7 hna e8 wr7 hwd
          have elf := lack_filter t ws
          have lfl : ∀ c ∈ ws.filter (fun c => !(lookT t c).isSome), isLt c := fun c hc => wlt c (List.mem_filter.mp hc).1
          generalize (ws.filter fun c => !(lookT t c).isSome) = lf at hL8 elf lfl
          unfold dueW at er
          refine ⟨_, rfl, ?_⟩
          cases lf with
          | nil =>
            rw [show lackW t ws = none from elf] at er
            subst er
            refine ⟨_, dC (.inr (wrT t ws)), rfl, hrC_py hw1, tells_one (wr_256 g ws) (by omega), ?_⟩
            refine ⟨_, rfl, Nat.zero_le _, fun o no => ?_⟩
            have s9 := same_put (s := Same.refl H8) (o := .lst []) no
            refine eq_same (d := .list []) (.lst (SqL.of (s9 _ _ hL8)) .nil) (.lst (SqL.of upd_same) .nil) (by rfl) ⟨true, rfl, iteT ?_⟩
            refine ⟨_, rfl, na, _, rfl, .inl ⟨SqL.of (s9 _ _ hna8), fun tq ntq => ⟨by show 1 ≤ sizeLine; decide, fun l2 nl2 => ?_⟩⟩⟩
            have s10 := same_put (s := s9) (o := .tup (nums (wrT t ws))) ntq
            have s11 := same_put (s := s10) (o := .lst [V.ref tq]) nl2
            have hq := (same_put (s := Same.refl _) (o := .lst [V.ref tq]) nl2) _ _ (show upd (upd H8 o (.lst [])) tq (.tup (nums (wrT t ws))) tq = _ from upd_same)
            refine ⟨_, .list [codeDt (wrT t ws)], rfl, .lst upd_same (.cons (py_code hq) .nil), tells_one (wr_256 g ws) (by omega), rfl, false, ?_, iteF ?_⟩
            · rw [show dC (.inr (wrT t ws)) = .list [codeDt (wrT t ws)] from rfl, decide_eq_true rfl]
              rfl
            · exact ⟨⟨_, _, _, _, _, _, _, _, rfl⟩, (pen_ext PA8 (ExtN.of s11)).less (by omega), tb8.ext s11, s11 _ _ hk8, m8.trans (Mv.ofSame s11)⟩
          | cons c rest =>
            have ec : lackW t ws = some c := elf
            rw [ec] at er
            subst er
            have bk := bok c ec
            refine ⟨_, dC (.inl (.one 3 (.str (L1 c)))), rfl, hrC_py hw1, tells_of (wd_tells bk), ?_⟩
            refine ⟨_, rfl, Nat.zero_le _, fun o no => ?_⟩
            have s9 := same_put (s := Same.refl H8) (o := .lst []) no
            have hL9 := s9 _ _ hL8
            refine ⟨.list ((c :: rest).map fun c => .str (L1 c)), .list [], .lst (SqL.of hL9) (dp_map _ _ (fun c => .str _) _), .lst (SqL.of upd_same) .nil, ?_, by rfl, ?_⟩
            · exact shaped_map _ _ (fun c hc => by
                have ok : PyData.strOk (L1 c) = true := ok_sx (cs := [c]) fun a ha => by
                  rw [List.mem_singleton.mp ha]
                  exact lfl c hc
                simp only [PyData.canLay0]
                exact ok) (fun c => by simp [PyData.depth])
            refine ⟨false, rfl, iteF ?_⟩
            refine ⟨_, rfl, L, _, _, _, rfl, rfl, SqL.of hL9, atI_nat (j := 0) rfl, _, .str (L1 c), rfl, .str _, bk.2.te, by show 2 ≤ sizeLine; decide, fun t2 nt2 => ?_⟩
            have s10 := same_put (s := s9) (o := .tup [.str "none", .str (PyData.str (L1 c)).shown]) nt2
            refine ⟨_, wdD (.one 3 (.str (L1 c))), rfl, .tup upd_same (py_strs ["none", (PyData.str (L1 c)).shown]), tells_of (wd_tells bk), rfl, false, ?_, iteF ?_⟩
            · rw [show dC (.inl (.one 3 (.str (L1 c)))) = wdD (.one 3 (.str (L1 c))) from rfl, decide_eq_true rfl]
              rfl
            · exact ⟨⟨_, _, _, _, _, _, _, _, rfl⟩, (pen_ext PA8 (ExtN.of s10)).less (by omega), tb8.ext s10, s10 _ _ hk8, m8.trans (Mv.ofSame s10)⟩
    · rintro σ H2 ⟨⟨v5, v6, v7, v8, v9, v10, v11, v12, rfl⟩, PA2, tb2, hk2, m2⟩
      -- an odd thing
      have hsl2 := m2 _ _ hsl slp (fun _ z => nomatch z)
      refine ⟨_, rfl, by show 1 ≤ sizeLine; decide, fun ta nta => ⟨Nat.zero_le _, fun le nle => fun dd ndd => ⟨10, 30, rfl, rfl, ⟨by decide, by decide, by decide⟩, by show 10 ≤ sizeLine; decide, fun lo nlo => ?_⟩⟩⟩
      have sa := same_put (s := Same.refl H2) (o := .tup [.str "a"]) nta
      have ha : upd H2 ta (.tup [.str "a"]) ta = some (.tup [.str "a"]) := upd_same
      have PAa := pen_ext PA2 (ExtN.of sa)
      generalize upd H2 ta (.tup [.str "a"]) = Ha at sa ha PAa nle ndd nlo ⊢
      have sb := same_put (s := Same.refl Ha) (o := .lst []) nle
      have hle : upd Ha le (.lst []) le = some (.lst []) := upd_same
      have lep := PAa.nep nle
      have PAb := pen_ext PAa (ExtN.of sb)
      generalize upd Ha le (.lst []) = Hb at sb hle PAb ndd nlo ⊢
      have sc := same_put (s := Same.refl Hb) (o := .dK []) ndd
      have hdd : upd Hb dd (.dK []) dd = some (.dK []) := upd_same
      have PAc := pen_ext PAb (ExtN.of sc)
      generalize upd Hb dd (.dK []) = Hc at sc hdd PAc nlo ⊢
      have so := same_put (s := Same.refl Hc) (o := .lst [V.non, .int 0, .str "A", .str "a b", .ref ta, .ref le, .ref dd, .bl true, .str "a\n", .int (10 ^ 30)]) nlo
      have hlo : upd Hc lo (.lst [V.non, .int 0, .str "A", .str "a b", .ref ta, .ref le, .ref dd, .bl true, .str "a\n", .int (10 ^ 30)]) lo = _ := upd_same
      have lop := PAc.nep nlo
      have PAd := pen_ext PAc (ExtN.of so)
      show spPick K ([V.ref p, V.ref lo] ++ []) (upd Hc lo (.lst [V.non, .int 0, .str "A", .str "a b", .ref ta, .ref le, .ref dd, .bl true, .str "a\n", .int (10 ^ 30)])) _ E0
      generalize upd Hc lo (.lst [V.non, .int 0, .str "A", .str "a b", .ref ta, .ref le, .ref dd, .bl true, .str "a\n", .int (10 ^ 30)]) = Hd at so hlo PAd ⊢
      have s4 : Same H2 Hd := fun b o e => so _ _ (sc _ _ (sb _ _ (sa _ _ e)))
      have ha4 := so _ _ (sc _ _ (sb _ _ ha))
      have hle4 := so _ _ (sc _ _ hle)
      have hdd4 := so _ _ hdd
      have tb4 := tb2.ext s4
      have m4 : Mv p H Hd := m2.trans (Mv.ofSame s4)
      clear sa sb sc so nta nle ndd nlo ha hle hdd PAa PAb PAc tb2 PA2 m2 hk2 hsl2 s4
      refine ⟨p, l, lo, ns, n + 2, _, rfl, PAd.less (by omega), SqL.of hlo, by show 0 < 10; decide, by show 10 < 1000; decide, fun H5 f5 => SqL.of (f5 _ _ hlo lop), fun vo H5 hvo PA5 fr5 => ?_⟩
      have tp := ne_of ha4 PAd.pl.choose_spec (fun z => nomatch z)
      have dp := ne_of hdd4 PAd.pl.choose_spec (fun z => nomatch z)
      obtain ⟨dv, hv5, w0, w1⟩ : ∃ dv, Held H5 vo dv ∧ wordD 0 2000 dv = false ∧ wordD 1 1 dv = false := by
        simp only [List.mem_cons, List.not_mem_nil, or_false] at hvo
        rcases hvo with rfl | rfl | rfl | rfl | rfl | rfl | rfl | rfl | rfl | rfl
        · exact ⟨_, held_non, rfl, rfl⟩
        · exact ⟨_, held_int (nice_nat 0 (by decide)), rfl, rfl⟩
        · exact ⟨_, held_str (by decide +kernel), by decide +kernel, by decide +kernel⟩
        · exact ⟨_, held_str (by decide +kernel), by decide +kernel, by decide +kernel⟩
        · exact ⟨_, held_ta (fr5 _ _ ha4 tp), rfl, rfl⟩
        · exact ⟨_, held_l0 (fr5 _ _ hle4 lep), rfl, rfl⟩
        · exact ⟨_, held_dict (fr5 _ _ hdd4 dp), rfl, rfl⟩
        · exact ⟨_, held_bl true, rfl, rfl⟩
        · exact ⟨_, held_str (by decide +kernel), by decide +kernel, by decide +kernel⟩
        · exact ⟨_, held_int (nice_int (by decide +kernel) (by decide +kernel) (by decide +kernel)), rfl, rfl⟩
      have m5 : Mv p H H5 := m4.trans (Mv.ofFr fr5)
      have tb5 := tabs_fr tb4 PAd.pl fr5
      have PA5' : PenAt H5 p l ns n := PA5.less (by omega)
      clear ha4 hle4 hdd4 tb4 m4 fr5 hlo lop hvo PAd tp dp lep PA5
      have wr5 := wr.mv PA.pl m5
      have hsl5 := m5 _ _ hsl slp (fun _ z => nomatch z)
      have ok1 : BadOk (.one 4 dv) := ⟨by decide, hv5.ni⟩
      have ok2 : BadOk (.one 3 (.str (L1 s0))) := ⟨by decide, nice_let s0 (abc_mem.mpr hs0)⟩
      have ok3 : BadOk (.one 1 dv) := ⟨by decide, hv5.ni⟩
      -- no text
      refine heard_end (some (.one 4 dv)) (fun _ _ => False) tb5 (fun H6 E2 R e6 tb6 hE hR => ?_) (fun u1 H6 e6 tb6 hu1 => ?_)
      · have wr6 := wr5.ext e6
        obtain ⟨⟨dx, b, hx, _⟩, _⟩ := id wr6
        exact ⟨_, rfl, x, rfl, _, rfl, ⟨dx, _, hx⟩, x, A1, t, _, dv, rfl, wr6, held_ext hv5 e6, .inl ⟨w0, hE _ ok1 rfl⟩⟩
      have hu1 : HrB H6 u1 (.one 4 dv) := hu1
      refine ⟨by show 1 ≤ sizeLine; decide, fun hl nhl => ?_⟩
      have s6 := same_put (s := Same.refl H6) (o := .lst [u1]) nhl
      have hl7 : upd H6 hl (.lst [u1]) hl = some (.lst [u1]) := upd_same
      have e57 : ExtN H5 (upd H6 hl (.lst [u1])) := e6.trans (ExtN.of s6)
      have PA6 := pen_ext PA5' e6
      have hlp := PA6.nep nhl
      have hll := PA6.nel nhl
      have m6 : Mv p H H6 := m5.trans (Mv.ofExt e6)
      have offh := m6.off nhl
      have vn : ∀ a, vo = .ref a → a ≠ hl := fun a e => by
        subst e
        obtain ⟨o, ho, _⟩ := held_shape (held_ext hv5 e6)
        exact ne_of_none ho nhl
      have hu7 := hrB_ext hu1 (ExtN.of s6)
      have tb7 := tb6.ext s6
      have PA7 := pen_ext PA6 (ExtN.of s6)
      have m7 : Mv p H (upd H6 hl (.lst [u1])) := m6.trans (Mv.ofSame s6)
      generalize upd H6 hl (.lst [u1]) = H7 at hl7 e57 hu7 tb7 PA7 m7 ⊢
      have wr7 := wr5.ext e57
      have hv7 := held_ext hv5 e57
      have hsl7 := e57 _ _ hsl5 (fun _ z => nomatch z)
      clear s6 hu1 tb6 e6 PA6 m6 nhl wr5 hv5 hsl5 e57 tb5 m5 PA5'
      -- a letter without a code
      refine ⟨_, rfl, .inl ⟨rfl, _, SqL.of hl7⟩, ?_⟩
      refine heard_end (some (.one 3 (.str (L1 s0)))) (fun _ _ => False) tb7 (fun H8 E2 R e8 tb8 hE hR => ?_) (fun u2 H8 e8 tb8 hu2 => ?_)
      · have wr8 := wr7.ext e8
        obtain ⟨⟨dx, b, hx, _⟩, _⟩ := id wr8
        exact ⟨_, rfl, _, rfl, sl, _, _, _, rfl, rfl, SqL.of (e8 _ _ hsl7 (fun _ z => nomatch z)), atI_nat (j := 0) rfl, x, dx, _, rfl, hx, x, A1, t, _, _, rfl, wr8, held_let1 hs0, .inr (.inl ⟨word_let.mpr ⟨s0, abc_mem.mpr hs0, rfl⟩, ls0, hE _ ok2 rfl⟩)⟩
      have hu2 : HrB H8 u2 (.one 3 (.str (L1 s0))) := hu2
      have hl8 := e8 _ _ hl7 (fun _ z => nomatch z)
      have m8 : Mv p H H8 := m7.trans (Mv.ofExt e8)
      have PA8 := pen_ext PA7 e8
      refine ⟨hl, [u1], u2, rfl, rfl, hl8, by show 1 < sizeLine; decide, ?_⟩
      have gm : Mv hl H8 (upd H8 hl (.lst ([u1] ++ [u2]))) := grow_mv
      have hl9 : upd H8 hl (.lst ([u1] ++ [u2])) hl = some (.lst [u1, u2]) := upd_same
      have hu19 := hrB_at (hrB_ext hu7 e8) ⟨_, hl8⟩ gm
      have hu29 := hrB_at hu2 ⟨_, hl8⟩ gm
      have PA9 := PA8.other (o := .lst ([u1] ++ [u2])) hlp hll
      have tb9 : Tabs TL (upd H8 hl (.lst ([u1] ++ [u2]))) := tabs_fr tb8 ⟨_, hl8⟩ Fr.at
      have m9 : Mv p H (upd H8 hl (.lst ([u1] ++ [u2]))) := m8.put offh
      have wr9 := (wr7.ext e8).mv ⟨_, hl8⟩ gm
      have hv9 := held_mv (held_ext hv7 e8) vn gm
      have slh : sl ≠ hl := fun z => by
        rw [z, hl7] at hsl7
        have e4 := HO.lst.inj (Option.some.inj hsl7)
        simp [lets] at e4
      have hsl9 := gm _ _ (e8 _ _ hsl7 (fun _ z => nomatch z)) slh (fun _ z => nomatch z)
      dsimp only
      generalize upd H8 hl (.lst ([u1] ++ [u2])) = H9 at hl9 hu19 hu29 PA9 tb9 m9 wr9 hv9 hsl9 ⊢
      clear gm hl7 hl8 hu7 hu2 tb8 PA8 m8 wr7 hv7 e8 tb7 PA7 m7 hsl7
      -- no letter
      refine ⟨_, rfl, .inl ⟨rfl, _, SqL.of hl9⟩, ?_⟩
      refine heard_end (some (.one 1 dv)) (fun _ _ => False) tb9 (fun H10 E2 R e10 tb10 hE hR => ?_) (fun u3 H10 e10 tb10 hu3 => ?_)
      · have wr10 := wr9.ext e10
        obtain ⟨⟨dx, b, hx, _⟩, _⟩ := id wr10
        exact ⟨_, rfl, _, rfl, x, dx, _, rfl, hx, x, A1, t, vo, dv, rfl, wr10, held_ext hv9 e10, .inl ⟨w1, hE _ ok3 rfl⟩⟩
      have hu3 : HrB H10 u3 (.one 1 dv) := hu3
      have hl10 := e10 _ _ hl9 (fun _ z => nomatch z)
      have m10 : Mv p H H10 := m9.trans (Mv.ofExt e10)
      have PA10 := pen_ext PA9 e10
      refine ⟨hl, [u1, u2], u3, rfl, rfl, hl10, by show 2 < sizeLine; decide, ?_⟩
      have gm : Mv hl H10 (upd H10 hl (.lst ([u1, u2] ++ [u3]))) := grow_mv
      have hl11 : upd H10 hl (.lst ([u1, u2] ++ [u3])) hl = some (.lst [u1, u2, u3]) := upd_same
      have hu111 := hrB_at (hrB_ext hu19 e10) ⟨_, hl10⟩ gm
      have hu211 := hrB_at (hrB_ext hu29 e10) ⟨_, hl10⟩ gm
      have hu311 := hrB_at hu3 ⟨_, hl10⟩ gm
      have PA11 := PA10.other (o := .lst ([u1, u2] ++ [u3])) hlp hll
      have tb11 : Tabs TL (upd H10 hl (.lst ([u1, u2] ++ [u3]))) := tabs_fr tb10 ⟨_, hl10⟩ Fr.at
      have m11 : Mv p H (upd H10 hl (.lst ([u1, u2] ++ [u3]))) := m10.put offh
      have hv11 := held_mv (held_ext hv9 e10) vn gm
      have hsl11 := gm _ _ (e10 _ _ hsl9 (fun _ z => nomatch z)) slh (fun _ z => nomatch z)
      dsimp only
      generalize upd H10 hl (.lst ([u1, u2] ++ [u3])) = H11 at hl11 hu111 hu211 hu311 PA11 tb11 m11 hv11 hsl11 ⊢
      clear gm hl9 hl10 hu19 hu29 hu3 tb9 PA9 m9 tb10 PA10 m10 wr9 hv9 e10 hsl9 vn slh offh
      -- as told
      refine ⟨_, rfl, _, rfl, vo, dv, rfl, hv11.pw, hv11.ni.te, by show 2 ≤ sizeLine; decide, fun t1 nt1 => ?_⟩
      have q1 := same_put (s := Same.refl H11) (o := .tup [.str "word", .str dv.shown]) nt1
      have ht1 : upd H11 t1 (.tup [.str "word", .str dv.shown]) t1 = some (.tup [.str "word", .str dv.shown]) := upd_same
      generalize upd H11 t1 (.tup [.str "word", .str dv.shown]) = H12 at q1 ht1 ⊢
      refine ⟨_, rfl, sl, _, _, _, rfl, rfl, SqL.of (q1 _ _ hsl11), atI_nat (j := 0) rfl, _, .str (L1 s0), rfl, .str _, ok2.2.te, by show 2 ≤ sizeLine; decide, fun t2 nt2 => ?_⟩
      have q2 := same_put (s := Same.refl H12) (o := .tup [.str "none", .str (PyData.str (L1 s0)).shown]) nt2
      have ht2 : upd H12 t2 (.tup [.str "none", .str (PyData.str (L1 s0)).shown]) t2 = some (.tup [.str "none", .str (PyData.str (L1 s0)).shown]) := upd_same
      generalize upd H12 t2 (.tup [.str "none", .str (PyData.str (L1 s0)).shown]) = H13 at q2 ht2 ⊢
      have q12 : Same H11 H13 := fun b o e => q2 _ _ (q1 _ _ e)
      have hv13 := hv11.same q12
      refine ⟨_, rfl, vo, dv, rfl, hv13.pw, hv13.ni.te, by show 2 ≤ sizeLine; decide, fun t3 nt3 => ⟨by show 3 ≤ sizeLine; decide, fun l4 nl4 => ?_⟩⟩
      have q3 := same_put (s := q12) (o := .tup [.str "letter", .str dv.shown]) nt3
      have ht3 : upd H13 t3 (.tup [.str "letter", .str dv.shown]) t3 = some (.tup [.str "letter", .str dv.shown]) := upd_same
      have g1 := (same_put (s := Same.refl H13) (o := .tup [.str "letter", .str dv.shown]) nt3) _ _ (q2 _ _ ht1)
      have g2 := (same_put (s := Same.refl H13) (o := .tup [.str "letter", .str dv.shown]) nt3) _ _ ht2
      generalize upd H13 t3 (.tup [.str "letter", .str dv.shown]) = H14 at q3 ht3 g1 g2 nl4 ⊢
      have q4 := same_put (s := Same.refl H14) (o := .lst [V.ref t1, .ref t2, .ref t3]) nl4
      have hl4 : upd H14 l4 (.lst [V.ref t1, .ref t2, .ref t3]) l4 = some (.lst [V.ref t1, .ref t2, .ref t3]) := upd_same
      show rEqD K _ _ (upd H14 l4 (.lst [V.ref t1, .ref t2, .ref t3])) _
      generalize upd H14 l4 (.lst [V.ref t1, .ref t2, .ref t3]) = H15 at q4 hl4 ⊢
      have q5 : Same H11 H15 := fun b o e => q4 _ _ (q3 _ _ e)
      have x1 : HrB H15 (.ref t1) (.one 4 dv) := ⟨t1, rfl, q4 _ _ g1⟩
      have x2 : HrB H15 (.ref t2) (.one 3 (.str (L1 s0))) := ⟨t2, rfl, q4 _ _ g2⟩
      have x3 : HrB H15 (.ref t3) (.one 1 dv) := ⟨t3, rfl, q4 _ _ ht3⟩
      refine eq_same (d := .list ([.one 4 dv, .one 3 (.str (L1 s0)), .one 1 dv].map wdD)) (.lst (SqL.of (q5 _ _ hl11)) (.cons (hrB_dp (hrB_ext hu111 (ExtN.of q5))) (.cons (hrB_dp (hrB_ext hu211 (ExtN.of q5))) (.cons (hrB_dp (hrB_ext hu311 (ExtN.of q5))) .nil)))) (.lst (SqL.of hl4) (.cons (hrB_dp x1) (.cons (hrB_dp x2) (.cons (hrB_dp x3) .nil)))) (wds_shaped fun r hr => ?_) (q _ (m11.trans (Mv.ofSame q5)) (pen_ext PA11 (ExtN.of q5)) (tb11.ext q5))
      simp only [List.mem_cons, List.not_mem_nil, or_false] at hr
      rcases hr with rfl | rfl | rfl
      · exact ok1
      · exact ok2
      · exact ok3
end
end V8

set_option Elab.async false
set_option linter.all false
set_option maxRecDepth 100000
set_option maxHeartbeats 4000000
/-! dict(a list of pairs), the keys of any flat kind or tuples of such. -/
namespace MX
open PySem PySem.Spec PySem.SeqAt PyProof.Rows L2
abbrev Tri := NestedKey × Value × Value
def allN (acc : List Tri) (rest : List Tri) : List Tri := rest.foldl (fun a q => storeN a q.1 q.2.1 q.2.2) acc
theorem storeN_len (xs : List Tri) (k : NestedKey) (v u : Value) : (storeN xs k v u).length ≤ xs.length + 1 := by
  unfold storeN
  by_cases h : k ∈ xs.map (·.1)
  · rw [if_pos h, List.length_map]
    omega
  · rw [if_neg h, List.length_append]
    exact Nat.le_refl _
section
variable {prog : Program} {w : World} {A : Around} {E : Value → Shared → Prop}
theorem DictN.moved {h h' : Heap} {d : Addr} {xs : List Tri} (m : DictN w h d xs) (hs : ∀ b o, h.get? b = some o → (∀ vs, o.data ≠ .fields vs) → h'.get? b = some o) : DictN w h' d xs := by
  obtain ⟨o, es, ep, ho, hc, hd, he, his, nd⟩ := m
  refine ⟨o, es, ep, hs _ _ ho (fun vs z => by rw [hd] at z; cases z), hc, hd, he, fun x hx => ⟨NestedIs.at (fun b ob vs n hb hc => hs b ob hb fun vs2 z => by rw [hc] at z; cases z) x.1 _ (his x hx).1, (his x hx).2⟩, nd⟩
theorem DictN.new (h : Heap) : DictN w (h.push { cls := .type "dict", data := .dict #[] }) h.objs.size [] := ⟨_, #[], 0, Heap.get?_push_size _ rfl, ⟨rfl, rfl, rfl⟩, rfl, rfl, (fun _ z => nomatch z), List.nodup_nil⟩
/-- what a pair of the list is -/
def PrN (h : Heap) (b : Addr) (q : Tri) : Prop := IsTup h b #[q.2.1, q.2.2] ∧ NestedIs h q.1 q.2.1 ∧ q.1.depth ≤ 8
theorem PrN.moved {h h' : Heap} {b : Addr} {q : Tri} (p : PrN h b q) (hs : ∀ b o, h.get? b = some o → (∀ vs, o.data ≠ .fields vs) → h'.get? b = some o) : PrN h' b q := by
  obtain ⟨⟨o, ho, hc, n, hd⟩, i, d⟩ := p
  exact ⟨⟨o, hs _ _ ho (fun vs z => by rw [hd] at z; cases z), hc, n, hd⟩, NestedIs.at (fun b ob vs n hb hc => hs b ob hb fun vs2 z => by rw [hc] at z; cases z) _ _ i, d⟩
theorem PrN.put {h h' : Heap} {d b : Addr} {q : Tri} {o : Obj} {es : Array DictEntry} {ep : Nat} (p : PrN h b q) (ho : h.get? d = some o) (hd : o.data = .dict es ep) (hs : Heap.SameBut d h h') : PrN h' b q := by
  have mv : ∀ c oc vs n, h.get? c = some oc → oc.data = .seq vs n → h'.get? c = some oc := fun c oc vs n hc hdc => hs.extBut c oc (fun e => by
    subst e
    rw [ho] at hc
    cases hc
    rw [hd] at hdc
    cases hdc) hc
  obtain ⟨⟨o2, ho2, hc2, n2, hd2⟩, i, dp⟩ := p
  exact ⟨⟨o2, mv _ _ _ _ ho2 hd2, hc2, n2, hd2⟩, NestedIs.at (fun b ob vs n hb hc => mv b ob vs n hb hc) _ _ i, dp⟩
/-- the walk over the pairs -/
theorem updN_loop {R : Result → Shared → Prop} {S I l : Addr} {items : Array Value} {res : Value} (hh : A.handled = none) (hlI : l ≠ I) (hSI : S ≠ I) (hSl : S ≠ l) (hu : A.in1.units + 8 < cLine) :
    ∀ (rest : List Tri) (i : Nat) (acc : List Tri) (ix : Int) (t : Tok) (s : Shared), items.size = i + rest.length → acc.length + rest.length ≤ sizeLine →
      (∀ (j : Nat) (q : Tri), rest[j]? = some q → ∃ b : Addr, items[i + j]? = some (.ref b) ∧ b ≠ S ∧ b ≠ I ∧ PrN s.heap b q) →
      s.heap.IsListIter I l i → s.heap.IsList l items → DictN w s.heap S acc →
      (∀ h' tk, DictN w h' S (allN acc rest) → (∀ b o, b ≠ S → b ≠ I → s.heap.get? b = some o → h'.get? b = some o) → R (.ok (.ret res)) { s with heap := h', toks := tk }) →
      codeAny (model prog w) A (.builtin "dict.update.loop" ⟨[.ref S, .ref I, .int ix t, res], []⟩) R s
  | [], i, acc, ix, t, s, hsz, hln, ht, hit, hl, hm, hR => by
    have oI := hit
    obtain ⟨oi, hoi, hci, hdi⟩ := oI
    refine codeAny_builtin ud_entry ?_
    rw [Around.under_plainId ud_plain _]
    show wpAny _ A.in1 (pyNext (.ref I) >>= _) _ _ s
    refine wpAny_bind (wpAny_pyNext_list_end (A := A.in1) hh hit hl (by first | exact Array.getElem?_eq_none (Nat.le_of_eq hsz) | (simp at hsz; simp; omega)) fun h' he => ?_)
    show wpAny _ A.in1 (Builtin.Dict.addKeywords S [] >>= _) _ _ _
    refine wpAny_bind (wpAny_pure (wpAny_pure ?_))
    exact hR h' s.toks (hm.moved fun b o hb hd => he b o (fun e => by
      subst e
      rw [hoi] at hb
      cases hb
      exact hd _ hdi) hb) fun b o _ hb e => he b o hb e
  | q :: rest, i, acc, ix, t, s, hsz, hln, ht, hit, hl, hm, hR => by
    obtain ⟨b, hb, hbS, hbI, hpr⟩ := ht 0 q rfl
    have oI := hit
    obtain ⟨oi, hoi, hci, hdi⟩ := oI
    rw [List.length_cons] at hsz hln
    refine codeAny_builtin ud_entry ?_
    rw [Around.under_plainId ud_plain _]
    show wpAny _ A.in1 (pyNext (.ref I) >>= _) _ _ s
    refine wpAny_bind (wpAny_pyNext_list_item (x := .ref b) hit hl (by simpa using hb) fun h1 hit1 hs1 => ?_)
    have mv : ∀ c oc, s.heap.get? c = some oc → (∀ vs, oc.data ≠ .fields vs) → h1.get? c = some oc := fun c oc hc hd => hs1.extBut c oc (fun e => by
      subst e
      rw [hoi] at hc
      cases hc
      exact hd _ hdi) hc
    have hpr1 : PrN h1 b q := hpr.moved mv
    have hl1 : h1.IsList l items := hl.extBut hs1.extBut hlI
    have hm1 : DictN w h1 S acc := hm.moved mv
    obtain ⟨o, ho, hc, n, hd⟩ := id hpr1.1
    show wpAny _ A.in1 (holding [Value.ref b] _ >>= _) _ _ _
    refine wpAny_bind (wpAny_holding ?_)
    refine wpAny_bind (wpAny_tryCatch ?_)
    unfold Builtin.Dict.pairItems
    refine wpAny_bind (wpAny_typeOf (T := "tuple") ⟨o, ho, hc⟩ ?_)
    rw [if_pos (by first | decide | rfl | simp)]
    refine wpAny_bind (wpAny_seqItems ho hd (wpAny_pure ?_))
    show wpAny _ A.in1 (holding [q.2.1, q.2.2] (dictSet S q.2.1 q.2.2)) _ _ _
    have oS := hm1
    obtain ⟨od, es, ep, hod, _, hdd, _⟩ := oS
    refine wpAny_holding (set_nest (s := { s with heap := h1 }) hm1 hpr1.2.1 hpr1.2.2 hu (by omega) fun h2 hm2 hs2 => ?_)
    refine wpAny_pure ⟨plainId_quiet ud_plain _, updN_loop (items := items) hh hlI hSI hSl hu rest (i + 1) (storeN acc q.1 q.2.1 q.2.2) (ix + 1) 0 _ (show items.size = i + 1 + rest.length by omega) ?_ (fun j q' e => ?_) ?_ ?_ hm2 fun h' tk hd' k => ?_⟩
    · have z := storeN_len acc q.1 q.2.1 q.2.2
      omega
    · obtain ⟨b', hb', hbS', hbI', hpr'⟩ := ht (j + 1) q' (by simpa using e)
      refine ⟨b', ?_, hbS', hbI', (hpr'.moved mv).put hod hdd hs2⟩
      rw [show i + 1 + j = i + (j + 1) by omega]
      exact hb'
    · exact hit1.at fun o' e => hs2.extBut I o' (Ne.symm hSI) e
    · exact hl1.extBut hs2.extBut (Ne.symm hSl)
    · exact hR h' tk hd' fun c oc h3 h4 e => k c oc h3 h4 (hs2.extBut c oc h3 (hs1.extBut c oc h4 e))
/-- dict(l) of a list of pairs -/
theorem call_dictN {s : Shared} {l : Addr} {ol : Obj} {items : Array Value} {n : Nat} {prs : List Tri} {Q : Value → Shared → Prop} (hu : A.in1.in1.units + 8 < cLine) (hh : A.handled = none) (hl : s.heap.get? l = some ol) (hc : ol.cls = .type "list") (hd : ol.dict = none)
    (hdat : ol.data = .seq items n) (hsz : items.size = prs.length) (hln : prs.length ≤ sizeLine)
    (ht : ∀ (j : Nat) (q : Tri), prs[j]? = some q → ∃ b : Addr, items[j]? = some (.ref b) ∧ PrN s.heap b q)
    (h : ∀ h' tk, DictN w h' s.heap.objs.size (allN [] prs) → (∀ b o, s.heap.get? b = some o → h'.get? b = some o) → Q (.ref s.heap.objs.size) { s with heap := h', toks := tk }) :
    wpAny (model prog w) A (call (.type "dict") [.ref l]) Q E s := by
  refine callType_codes (Q₁ := fun obj s₁ => obj = .ref s.heap.objs.size ∧ s₁ = { s with heap := s.heap.push { cls := .type "dict", data := .dict #[] } }) PySem.F.kt_called_dict (PySem.F.kt_typeCall_dict_1 _) PySem.F.entry_dict_init (kt_code_dict_new _ ⟨rfl, rfl⟩) ?_
  rintro obj s₁ ⟨rfl, rfl⟩
  have hnew : (s.heap.push { cls := .type "dict", data := .dict #[] }).DictOf (mixKind prog w) s.heap.objs.size [] := Heap.DictOf.new s.heap
  have hnewN : DictN w (s.heap.push { cls := .type "dict", data := .dict #[] }) s.heap.objs.size [] := DictN.new s.heap
  have k0 : ∀ b o, s.heap.get? b = some o → (s.heap.push { cls := .type "dict", data := .dict #[] }).get? b = some o := fun b o e => Heap.get?_push_of_some _ e
  refine ⟨hnew.typeIs, PySem.F.args_dict_init_2 _ _, ?_⟩
  unfold Builtin.«dict.__init__»
  refine wpAny_bind ?_
  unfold Builtin.Dict.selfAndRest
  refine wpAny_bind (wpAny_notOrdered_dict hnew.typeIs ?_)
  show wpAny _ _ (pure (s.heap.objs.size, [Value.ref l])) _ _ _
  refine wpAny_pure ?_
  show wpAny _ _ (Builtin.Dict.updateFrom "dict.__init__" s.heap.objs.size (.ref l) [] .none) _ _ _
  unfold Builtin.Dict.updateFrom
  refine wpAny_bind (wpAny_typeOf (T := "list") ⟨ol, k0 _ _ hl, hc⟩ ?_)
  rw [if_pos (by first | decide | rfl | simp)]
  refine wpAny_bind (miss_list (k0 _ _ hl) hc hdat hd hh fun h1 tk1 hk1 => ?_)
  rw [if_pos (show (none : Option Value).isNone = true from rfl)]
  refine wpAny_bind (wpAny_rule ?_)
  have hl1 : h1.IsList l items := ⟨ol, hk1 _ _ (k0 _ _ hl), hc, n, hdat⟩
  have hS1 : s.heap.objs.size < h1.objs.size := by
    have e : (s.heap.push { cls := .type "dict", data := .dict #[] }).get? s.heap.objs.size = some { cls := .type "dict", data := .dict #[] } := Heap.get?_push_size _ rfl
    exact Heap.lt_size (hk1 _ _ e)
  refine wpAny_bind (wpAny_pyIter_list hl1 ?_)
  have k2 : ∀ b o, h1.get? b = some o → (h1.push { cls := .type "list_iterator", data := .fields #[.ref l, .int 0 0] }).get? b = some o := fun b o e => Heap.get?_push_of_some _ e
  have hlt : l < s.heap.objs.size := Heap.lt_size hl
  have key := updN_loop (prog := prog) (w := w) (A := A.in1) (R := wants (fun r s₂ => r = .none ∧ Q (.ref s.heap.objs.size) s₂) E) (S := s.heap.objs.size) (I := h1.objs.size) (l := l) (items := items) (res := Value.none) hh
    (Nat.ne_of_lt (Nat.lt_trans hlt hS1)) (Nat.ne_of_lt hS1) (Nat.ne_of_gt hlt) hu prs 0 [] 0 0
    { s with heap := h1.push { cls := .type "list_iterator", data := .fields #[.ref l, .int 0 0] }, toks := tk1 } (by rw [hsz, Nat.zero_add]) (by rw [List.length_nil, Nat.zero_add]; exact hln)
    (fun j q e => by
      obtain ⟨b, e1, e2⟩ := ht j q e
      have hb : b < s.heap.objs.size := e2.1.lt
      exact ⟨b, by rw [Nat.zero_add]; exact e1, Nat.ne_of_lt hb, Nat.ne_of_lt (Nat.lt_trans hb hS1), e2.moved fun c o z _ => k2 _ _ (hk1 _ _ (k0 _ _ z))⟩)
    ⟨_, Heap.get?_push_size _ rfl, rfl, rfl⟩ (hl1.at fun o e => k2 _ _ e) (hnewN.moved fun b o e _ => k2 _ _ (hk1 _ _ e))
    (fun h' tk hd' k => ⟨rfl, h h' tk hd' fun b o e => k b o (Nat.ne_of_lt (Heap.lt_size e)) (Nat.ne_of_lt (Nat.lt_trans (Heap.lt_size e) hS1)) (k2 _ _ (hk1 _ _ (k0 _ _ e)))⟩)
  first
    | exact wpAny_pure ⟨plainId_quiet ud_plain _, key⟩
    | exact wpAny_bind (wpAny_pure (wpAny_pure ⟨plainId_quiet ud_plain _, key⟩))
end
end MX
namespace L2
open PySem PySem.Spec PyProof.Rows MX
/-- the pairs of a row, each a key and what stands under it -/
abbrev TriV := NestedKey × V × V
def putAll (acc : List TriV) (qs : List TriV) : List TriV := qs.foldl (fun a q => putM a q.1 q.2.1 q.2.2) acc
theorem putAll_len : ∀ (qs acc : List TriV), (putAll acc qs).length ≤ acc.length + qs.length
  | [], acc => Nat.le_refl _
  | q :: qs, acc => by
    have z := putAll_len qs (putM acc q.1 q.2.1 q.2.2)
    have y := putM_len acc q.1 q.2.1 q.2.2
    have e : putAll acc (q :: qs) = putAll (putM acc q.1 q.2.1 q.2.2) qs := rfl
    rw [e, List.length_cons]
    omega
theorem PairM.putAll : ∀ {qs : List TriV} {rs : List Tri} {acc : List TriV} {bcc : List Tri}, PairM qs rs → PairM acc bcc → PairM (putAll acc qs) (allN bcc rs)
  | _, _, acc, bcc, .nil, h => h
  | _, _, acc, bcc, .cons (a := q) (b := r) (l₁ := qs) (l₂ := rs) e t, h => by
    have e1 : L2.putAll acc (q :: qs) = L2.putAll (putM acc q.1 q.2.1 q.2.2) qs := rfl
    have e2 : allN bcc (r :: rs) = allN (storeN bcc r.1 r.2.1 r.2.2) rs := rfl
    rw [e1, e2]
    refine PairM.putAll t ?_
    rw [← e.1]
    exact PairM.put h e.2.1 e.2.2
section
variable {X : Cx}
theorem tris_of {pins : List (Addr × Obj)} {σ : St} {H : Hp} {s : Shared} (I : Inv X pins σ H s) : ∀ {ps : List Addr} {kvs : List TriV}, Paired (fun p kv => SqT X.K H p [kv.2.1, kv.2.2] ∧ KeyV H kv.1 kv.2.1) ps kvs →
    ∃ prs : List Tri, PairM kvs prs ∧ prs.length = ps.length ∧ ∀ (j : Nat) (q : Tri), prs[j]? = some q → ∃ b : Addr, ps[j]? = some b ∧ PrN s.heap b q
  | _, _, .nil => ⟨[], .nil, rfl, fun j q e => by simp at e⟩
  | _, _, .cons (a := p) (b := kv) h t => by
    obtain ⟨prs, r, hl, hp⟩ := tris_of I t
    obtain ⟨its, rv, ht, _⟩ := I.tuple h.1
    obtain ⟨u, y, ei, ru, ry⟩ := vals2 rv
    subst ei
    have z := h.2.is I ru
    refine ⟨(kv.1, u, y) :: prs, .cons ⟨rfl, ru, ry⟩ r, by rw [List.length_cons, List.length_cons, hl], fun j q e => ?_⟩
    cases j with
    | zero =>
      have e' : (kv.1, u, y) = q := Option.some.inj e
      subst e'
      exact ⟨p, rfl, ht, z.1, z.2⟩
    | succ j =>
      obtain ⟨b, e1, e2⟩ := hp j q (by simpa using e)
      exact ⟨b, by simpa using e1, e2⟩
/-- dict(xs) of a list of pairs (key, value) -/
def cDictM (X : Cx) : List V → Hp → VK → Prop := fun xs H Q => ∃ (a : Addr) (ps : List Addr) (kvs : List TriV), xs = [.ref a] ∧ SqL X.K H a (ps.map V.ref) ∧ Paired (fun p kv => SqT X.K H p [kv.2.1, kv.2.2] ∧ KeyV H kv.1 kv.2.1) ps kvs ∧
    ∀ p, H p = none → Q (.ref p) (upd H p (MixO X.w p (putAll [] kvs)))
theorem call_dictM (hcalm : X.calm = true) (hu : X.A.units + 10 < cLine) : CallR X (.type "dict") (cDictM X) := by
  intro pins s σ H xs us Q I r q
  obtain ⟨a, ps, kvs, ex, hq, hp, q⟩ := q
  subst ex
  obtain ⟨u, eu, rx⟩ := vals1 r
  subst eu
  cases rx
  obtain ⟨its, rv, pl, hz⟩ := I.list hq
  have ei := refs_at rv
  subst ei
  rw [List.length_map] at hz
  obtain ⟨prs, rel, hl, hpr⟩ := tris_of I hp
  obtain ⟨o, n, ho, hc, hd, hdat⟩ := pl
  refine call_dictN (prs := prs) (by show X.A.units + 1 + 1 + 8 < cLine; omega) (I.ok.hd hcalm) ho hc hd hdat (by simp [hl]) (by rw [hl]; exact hz) (fun j q' e => ?_) fun h' tk hd' k => ?_
  · obtain ⟨b, e1, e2⟩ := hpr j q' e
    exact ⟨b, by simp [e1], e2⟩
  · have hm : (s.heap.objs.size == sysModules) = false := beq_eq_false_iff_ne.mpr (Nat.ne_of_gt I.big)
    have hlen : (putAll [] kvs).length ≤ sizeLine := by
      refine Nat.le_trans (putAll_len kvs []) ?_
      rw [List.length_nil, Nat.zero_add, PairM.len rel, hl]
      exact hz
    obtain ⟨od, es, ep, h1, h2, h3, h4, _, h5⟩ := hd'
    exact ⟨.ref s.heap.objs.size, upd H s.heap.objs.size (MixO X.w s.heap.objs.size (putAll [] kvs)), I.laid (t' := tk) k (Nat.le_refl _) (mix_ok hlen hm (PairM.putAll rel .nil) ⟨od, es, ep, h1, h2, h3, h4, h5⟩), rfl, q _ (I.hok.fresh (Nat.le_refl _))⟩
end
end L2

set_option Elab.async false
set_option linter.all false
set_option maxRecDepth 100000
set_option maxHeartbeats 4000000
/-! A dict whose keys are all numbers, taken as one. -/
namespace L2
open PySem PySem.Spec PyProof.Rows MX
def nuM (ts : List (Int × V)) : List (NestedKey × V × V) := ts.map fun p => (.num p.1, .int p.1, p.2)
def nuK (ts : List (Int × V)) : List (Key × V) := ts.map fun p => (Sum.inl p.1, p.2)
theorem pair_nums {P : Program} {w : World} {ts : List (Int × V)} {xs : List (NestedKey × Value × Value)} (h : PairM (nuM ts) xs) : ∃ vs : List (Key × Value), KV (nuK ts) vs ∧ (∀ e ∈ xs.map (entN w), ∃ k, (mixKind P w).is k e.key = true ∧ e.hash = (mixKind P w).hash k) ∧ Pairs (mixKind P w) (xs.map (entN w)) vs ∧
    vs.map (·.1) = ts.map (fun p => (Sum.inl p.1 : Key)) ∧ xs.map (·.1) = ts.map (fun p => NestedKey.num p.1) := by
  induction ts generalizing xs with
  | nil =>
    cases h
    exact ⟨[], .nil, fun e he => (nomatch he), .nil, rfl, rfl⟩
  | cons t ts ih =>
    cases h with
    | @cons a b l1 l2 e r =>
      obtain ⟨vs, h1, h2, h3, h4, h5⟩ := ih r
      obtain ⟨z1, z2, z3⟩ := e
      obtain ⟨tk, z4⟩ := z2
      have k1 : (mixKind P w).is (Sum.inl t.1) (entN w b).key = true := by
        show keyIs (.inl t.1) b.2.1 = true
        rw [z4]
        simp [keyIs, Value.isInt]
      refine ⟨(Sum.inl t.1, b.2.2) :: vs, .cons ⟨rfl, z3⟩ h1, fun en he => ?_, ?_, by rw [List.map_cons, List.map_cons, h4], by rw [List.map_cons, List.map_cons, h5, ← z1]⟩
      · rcases List.mem_cons.mp he with rfl | m
        · refine ⟨Sum.inl t.1, k1, ?_⟩
          show b.1.hash w = _
          rw [← z1]
          rfl
        · exact h2 en m
      · exact .cons k1 rfl h3
section
variable {X : Cx} {pins : List (Addr × Obj)} {σ : St} {H : Hp} {s : Shared} {a : Addr} {ts : List (Int × V)} {e : Expr} {t : TE}
/-- .. from now on tracked as one -/
theorem Inv.nums (I : Inv X pins σ H s) (e : H a = some (MixO X.w a (nuM ts))) : Inv X pins σ (upd H a (.dK (nuK ts))) s := by
  obtain ⟨⟨few, hd, xs, p, o, es, ep, h1, h2, h3, h4, h5⟩, _, _⟩ := I.hok a _ e
  refine I.reword e ?_
  obtain ⟨vs, q1, q2, q3, q4, q5⟩ := pair_nums (P := X.prog) (w := X.w) p
  refine ⟨by show (ts.map _).length ≤ _; rw [List.length_map]; rw [show (nuM ts).length = ts.length from List.length_map _] at few; exact few, hd, vs, q1, o, es, ep, h1, h2, h3, fun en he => q2 en (by rw [← h4]; exact Array.mem_toList_iff.mpr he), by rw [h4]; exact q3, ?_⟩
  rw [q4]
  rw [q5] at h5
  rw [List.nodup_iff_pairwise_ne] at h5 ⊢
  rw [List.pairwise_map] at h5 ⊢
  exact h5.imp fun ne z => ne (by rw [Sum.inl.inj z])
def tNums (w : World) (t : TE) : TE := fun σ H Q => t σ H fun v H1 => Q v H1 ∨ ∃ (a : Addr) (ts : List (Int × V)), H1 a = some (MixO w a (nuM ts)) ∧ Q v (upd H1 a (.dK (nuK ts)))
theorem pe_nums (h : PE X e t) : PE X e (tNums X.w t) := by
  refine ⟨fun pins s σ H Q I q => thn (h.run pins s σ H _ I q) fun v s1 z => ?_⟩
  obtain ⟨x, H1, I1, r, q1⟩ := z
  rcases q1 with q1 | ⟨a, ts, e, q1⟩
  · exact ⟨x, H1, I1, r, q1⟩
  · exact ⟨x, _, I1.nums e, r, q1⟩
/-- either of two calls' readings -/
theorem CallR.or2 {f : Value} {r1 r2 : List V → Hp → VK → Prop} (h1 : CallR X f r1) (h2 : CallR X f r2) : CallR X f (fun xs H Q => r1 xs H Q ∨ r2 xs H Q) := by
  intro pins s σ H xs us Q I r q
  rcases q with q | q
  · exact h1 pins s σ H xs us Q I r q
  · exact h2 pins s σ H xs us Q I r q
end
theorem nuM_keys (ts : List (Int × V)) : (nuM ts).map (·.1) = ts.map fun p => NestedKey.num p.1 := by
  unfold nuM
  rw [List.map_map]
  rfl
/-- all keys are numbers: then it is one of these -/
theorem nuM_of : ∀ {kvs : List (NestedKey × V × V)}, (∀ p ∈ kvs, ∃ z, p.1 = .num z ∧ p.2.1 = .int z) → ∃ ts, kvs = nuM ts
  | [], _ => ⟨[], rfl⟩
  | p :: r, h => by
    obtain ⟨z, e1, e2⟩ := h p List.mem_cons_self
    obtain ⟨ts, e⟩ := nuM_of fun q hq => h q (List.mem_cons_of_mem _ hq)
    refine ⟨(z, p.2.2) :: ts, ?_⟩
    obtain ⟨k, x, v⟩ := p
    dsimp only at e1 e2
    rw [e1, e2, e]
    rfl
theorem nuK_nd {ts : List (Int × V)} (h : ((nuM ts).map (·.1)).Nodup) : ((nuK ts).map (·.1)).Nodup := by
  rw [nuM_keys] at h
  unfold nuK
  rw [List.map_map]
  rw [List.nodup_iff_pairwise_ne, List.pairwise_map] at h ⊢
  exact h.imp fun ne z => ne (by rw [Sum.inl.inj (show (Sum.inl _ : Key) = Sum.inl _ from z)])
theorem mem_nuM {ts : List (Int × V)} {p : NestedKey × V × V} (h : p ∈ nuM ts) : ∃ n v, (n, v) ∈ ts ∧ p = (.num n, .int n, v) := by
  obtain ⟨q, hq, rfl⟩ := List.mem_map.mp h
  exact ⟨q.1, q.2, hq, rfl⟩
end L2

set_option Elab.async false
set_option linter.all false
set_option maxRecDepth 100000
set_option maxHeartbeats 8000000
/-! The pairs of a row of letters and codes, and the dict of them. -/
namespace V8
open PySem PySem.Spec PyProof.Rows L2 MX SetT LamX
/-- a key as data -/
def dKy : NestedKey → PyData
  | .none => .none
  | .num i => .int i
  | .text z => .str z
  | .tup _ => .tuple [.int 1]
def dKv (k : NestedKey) (x : V) : PyData := match x with
  | .bl b => .bool b
  | _ => dKy k
abbrev dKe (e : TriV) : PyData := dKv e.1 e.2.1
theorem putM_keys {kvs : List TriV} {k j : NestedKey} {x v : V} : j ∈ (putM kvs k x v).map (·.1) ↔ j = k ∨ j ∈ kvs.map (·.1) := by
  unfold putM
  by_cases h : k ∈ kvs.map (·.1)
  · rw [if_pos h]
    have e : (kvs.map fun p => if p.1 = k then (p.1, p.2.1, v) else p).map (·.1) = kvs.map (·.1) := by
      rw [List.map_map]
      refine List.map_congr_left fun p _ => ?_
      show (if p.1 = k then (p.1, p.2.1, v) else p).1 = p.1
      split <;> rfl
    rw [e]
    exact ⟨fun z => .inr z, fun z => z.elim (fun z => z ▸ h) id⟩
  · rw [if_neg h, List.map_append, List.mem_append]
    exact ⟨fun z => z.elim .inr fun z => .inl (List.mem_singleton.mp z), fun z => z.elim (fun z => .inr (List.mem_singleton.mpr z)) .inl⟩
theorem putAll_cons (acc : List TriV) (q : TriV) (qs : List TriV) : putAll acc (q :: qs) = putAll (putM acc q.1 q.2.1 q.2.2) qs := rfl
/-- each key is one of the row's .. -/
theorem putAll_key : ∀ (qs acc : List TriV) (p : TriV), p ∈ putAll acc qs → ∃ q ∈ acc ++ qs, p.1 = q.1 ∧ p.2.1 = q.2.1
  | [], acc, p, h => ⟨p, by rw [List.append_nil]; exact h, rfl, rfl⟩
  | a :: qs, acc, p, h => by
    rw [putAll_cons] at h
    obtain ⟨q, hq, e1, e2⟩ := putAll_key qs _ p h
    rcases List.mem_append.mp hq with z | z
    · rcases putM_mem z with z | z | ⟨r, hr, z⟩
      · exact ⟨q, List.mem_append_left _ z, e1, e2⟩
      · refine ⟨a, List.mem_append_right _ List.mem_cons_self, ?_, ?_⟩
        · rw [e1, z]
        · rw [e2, z]
      · refine ⟨r, List.mem_append_left _ hr, ?_, ?_⟩
        · rw [e1, z]
        · rw [e2, z]
    · exact ⟨q, List.mem_append_right _ (List.mem_cons_of_mem _ z), e1, e2⟩
/-- .. and each of the row's is there -/
theorem putAll_has : ∀ (qs acc : List TriV) (j : NestedKey), j ∈ (acc ++ qs).map (·.1) → j ∈ (putAll acc qs).map (·.1)
  | [], acc, j, h => by
    rw [List.append_nil] at h
    exact h
  | a :: qs, acc, j, h => by
    rw [putAll_cons]
    refine putAll_has qs _ j ?_
    rw [List.map_append, List.mem_append] at h ⊢
    rw [putM_keys]
    rcases h with h | h
    · exact .inl (.inr h)
    · rw [List.map_cons] at h
      rcases List.mem_cons.mp h with h | h
      · exact .inl (.inl h)
      · exact .inr h
/-- no key comes twice: then the dict is the row -/
theorem putAll_nd : ∀ (qs acc : List TriV), ((acc ++ qs).map (·.1)).Nodup → putAll acc qs = acc ++ qs
  | [], acc, _ => by
    rw [List.append_nil]
    rfl
  | a :: qs, acc, h => by
    have e : putM acc a.1 a.2.1 a.2.2 = acc ++ [a] := by
      unfold putM
      rw [if_neg fun z => ?_]
      rw [List.map_append, List.nodup_append] at h
      exact h.2.2 _ z _ (List.mem_map.mpr ⟨a, List.mem_cons_self, rfl⟩) rfl
    have e2 : acc ++ a :: qs = acc ++ [a] ++ qs := by rw [List.append_assoc]; rfl
    rw [putAll_cons, e, putAll_nd qs _ (by rw [← e2]; exact h), e2]
/-- a pair of the row: a key and what stands under it -/
def RowE (H : Hp) (pa : Addr) (e : TriV) : Prop := H pa = some (.tup [e.2.1, e.2.2]) ∧ KeyV H e.1 e.2.1 ∧ Held H e.2.1 (dKe e) ∧ (dKe e).canLay0 = true
theorem keyV_ref {H : Hp} {k : NestedKey} {a : Addr} (h : KeyV H k (.ref a)) : ∃ xs, H a = some (.tup xs) := by
  cases h with
  | flat g => cases g
  | tup ht _ => exact ⟨_, ht⟩
theorem keyV_mv {p0 : Addr} {H H2 : Hp} {k : NestedKey} {x : V} (h : KeyV H k x) (pl : PenL H p0) (m : Mv p0 H H2) : KeyV H2 k x := by
  cases h with
  | flat g => exact .flat g
  | tup ht g =>
    obtain ⟨xs, hp⟩ := pl
    exact .tup (m _ _ ht (ne_of ht hp (fun z => nomatch z)) (fun _ z => nomatch z)) g
theorem RowE.mv {p0 : Addr} {H H2 : Hp} {pa : Addr} {e : TriV} (r : RowE H pa e) (pl : PenL H p0) (m : Mv p0 H H2) : RowE H2 pa e := by
  obtain ⟨h1, h2, h3, h4⟩ := r
  obtain ⟨xs, hp⟩ := id pl
  refine ⟨m _ _ h1 (ne_of h1 hp (fun z => nomatch z)) (fun _ z => nomatch z), keyV_mv h2 pl m, held_mv h3 (fun a ea => ?_) m, h4⟩
  rw [ea] at h2
  obtain ⟨ys, hy⟩ := keyV_ref h2
  exact ne_of hy hp (fun z => nomatch z)
theorem RowE.same {H H2 : Hp} {pa : Addr} {e : TriV} (r : RowE H pa e) (s : Same H H2) : RowE H2 pa e := ⟨s _ _ r.1, r.2.1.same s, r.2.2.1.same s, r.2.2.2⟩
theorem pair_take {α β : Type} {R : α → β → Prop} {xs : List α} {ys : List β} (h : Paired R xs ys) : ∀ k, Paired R (xs.take k) (ys.take k) := by
  induction h with
  | nil => intro k; rw [List.take_nil, List.take_nil]; exact .nil
  | cons r _ ih =>
    intro k
    cases k with
    | zero => exact .nil
    | succ k => exact .cons r (ih k)
theorem pair_drop {α β : Type} {R : α → β → Prop} {xs : List α} {ys : List β} (h : Paired R xs ys) : ∀ k, Paired R (xs.drop k) (ys.drop k) := by
  induction h with
  | nil => intro k; rw [List.drop_nil, List.drop_nil]; exact .nil
  | cons r t ih =>
    intro k
    cases k with
    | zero => exact .cons r t
    | succ k => exact ih k
theorem pair_app {α β : Type} {R : α → β → Prop} {xs xs2 : List α} {ys ys2 : List β} (h : Paired R xs ys) (h2 : Paired R xs2 ys2) : Paired R (xs ++ xs2) (ys ++ ys2) := by
  induction h with
  | nil => exact h2
  | cons r _ ih => exact .cons r ih
theorem cut_lo (xs : List V) {k : Nat} (h : k ≤ xs.length) : cutV xs none (some ((k : Nat) : Int)) = xs.take k := by
  unfold cutV
  rw [HT.sIx_none, List.drop_zero, HT.sIx_nat, Nat.min_eq_left h]
  rfl
theorem cut_hi (xs : List V) {k : Nat} (h : k ≤ xs.length) : cutV xs (some ((k : Nat) : Int)) none = xs.drop k := by
  unfold cutV
  rw [HT.sIx_none, HT.sIx_nat, Nat.min_eq_left h]
  exact List.take_of_length_le (by rw [List.length_drop]; exact Nat.le_refl _)
theorem hu10_of {A : Around} {k : Nat} (hr : Room k A) : A.units + 10 < cLine := by
  have := hr.units
  omega
theorem pair_left {α β : Type} {R : α → β → Prop} {xs : List α} {ys : List β} (h : Paired R xs ys) : ∀ y ∈ ys, ∃ x, x ∈ xs ∧ R x y := fun y hy => by
  obtain ⟨x, hx, r⟩ := pair_right h y hy
  exact ⟨x, hx, r⟩
theorem keyV_ext {H H2 : Hp} {k : NestedKey} {x : V} (h : KeyV H k x) (e : ExtN H H2) : KeyV H2 k x := by
  cases h with
  | flat g => exact .flat g
  | tup ht g => exact .tup (e _ _ ht (fun _ z => nomatch z)) g
theorem mix_ext {w : World} {H H2 : Hp} {D : Addr} {kvs : List TriV} (m : MixD w H D kvs) (e : ExtN H H2) : MixD w H2 D kvs := ⟨e _ _ m.at_ (fun _ z => nomatch z), fun p hp => keyV_ext (m.keys p hp) e⟩
theorem held_shape3 {H : Hp} {a : Addr} {d : PyData} (h : Held H (.ref a) d) : ∃ o, H a = some o ∧ ∀ (w : World) (b : Addr) (kvs : List TriV), o ≠ MixO w b kvs := by
  rcases h.tl with f | ⟨b, xs, e, hb, l, g⟩ | ⟨b, kvs, e, hb, l, n, g⟩
  · rcases f with ⟨z, e⟩ | ⟨i, e⟩ | e | ⟨b, e⟩ <;> cases e
  · cases e
    rcases hb with hb | hb
    · exact ⟨_, hb, fun _ _ _ z => nomatch z⟩
    · exact ⟨_, hb, fun _ _ _ z => nomatch z⟩
  · cases e
    exact ⟨_, hb, fun _ _ _ z => nomatch z⟩
theorem held_mix {w : World} {H : Hp} {D a : Addr} {kvs : List TriV} {o : HO} {x : V} {d : PyData} (h : Held H x d) (hD : H D = some (MixO w a kvs)) : Held (upd H D o) x d := held_move h fun b o e hb => by
  subst e
  obtain ⟨o2, e2, n2⟩ := held_shape3 h
  rw [upd_ne fun z => ?_]
  · exact hb
  · rw [z, hD] at e2
    exact n2 _ _ _ (Option.some.inj e2).symm
theorem pen_mix {w : World} {H : Hp} {D a p l : Addr} {kvs : List TriV} {o : HO} {ns : List Int} {n : Nat} (P : PenAt H p l ns n) (hD : H D = some (MixO w a kvs)) : PenAt (upd H D o) p l ns n := by
  obtain ⟨s, g, h1, _⟩ := P.here
  exact P.other (ne_of hD h1 (fun z => nomatch z)) (ne_of hD P.nums (fun z => nomatch z))
def hide (D : Addr) (H : Hp) : Hp := fun b => if b = D then none else H b
theorem hide_same {D : Addr} {H H2 : Hp} (s : Same H H2) : Same (hide D H) (hide D H2) := fun b o e => by
  unfold hide at e ⊢
  by_cases h : b = D
  · rw [if_pos h] at e
    cases e
  · rw [if_neg h] at e ⊢
    exact s _ _ e
theorem hide_put {D : Addr} {H : Hp} {o : HO} : Same (hide D H) (upd H D o) := fun b u e => by
  unfold hide at e
  by_cases h : b = D
  · rw [if_pos h] at e
    cases e
  · rw [if_neg h] at e
    rw [upd_ne h]
    exact e
theorem hide_new {D : Addr} {H : Hp} {o : HO} (n : H D = none) : Same H (hide D (upd H D o)) := fun b u e => by
  have h : b ≠ D := ne_of_none e n
  unfold hide
  rw [if_neg h, upd_ne h]
  exact e
/-- a row of letters: each with its value, as a value and as data -/
abbrev CV := Nat × V × PyData
def triC (q : CV) : TriV := (.text (L1 q.1), .str (L1 q.1), q.2.1)
def prC (q : CV) : Str × V := (L1 q.1, q.2.1)
theorem triC_tx (qs : List CV) : qs.map triC = txM (qs.map prC) := by
  unfold txM
  rw [List.map_map]
  rfl
def dtC (qs : List CV) : Dt := qs.map fun q => (kL q.1, q.2.2)
def oddC (qs : List CV) : List Nat := (qs.filter fun q => !codeD q.2.2).map (·.1)
theorem atD_dtC {qs : List CV} (nd : (qs.map (·.1)).Nodup) {q : CV} (h : q ∈ qs) : atD (dtC qs) (kL q.1) = some q.2.2 := by
  unfold atD dtC
  induction qs with
  | nil => exact absurd h List.not_mem_nil
  | cons a r ih =>
    rw [List.map_cons, List.nodup_cons] at nd
    rw [List.map_cons, List.find?_cons]
    rcases List.mem_cons.mp h with rfl | h
    · rw [show decide (kL q.1 = kL q.1) = true from decide_eq_true rfl]
      rfl
    · have ne : a.1 ≠ q.1 := fun e => nd.1 (List.mem_map.mpr ⟨q, h, e.symm⟩)
      rw [show decide (kL a.1 = kL q.1) = false from decide_eq_false fun e => ne (kL_inj _ _ e)]
      exact ih nd.2 h
theorem atD_noneC {qs : List CV} {n : Nat} (h : n ∉ qs.map (·.1)) : atD (dtC qs) (kL n) = none := by
  unfold atD dtC
  induction qs with
  | nil => rfl
  | cons a r ih =>
    rw [List.map_cons, List.mem_cons, not_or] at h
    rw [List.map_cons, List.find?_cons, show decide (kL a.1 = kL n) = false from decide_eq_false fun e => h.1 (kL_inj _ _ e).symm]
    exact ih h.2
theorem oddC_mem {qs : List CV} {n : Nat} (h : n ∈ oddC qs) : ∃ q ∈ qs, q.1 = n ∧ codeD q.2.2 = false := by
  obtain ⟨q, hq, e⟩ := List.mem_map.mp h
  have m := List.mem_filter.mp hq
  exact ⟨q, m.1, e, by simpa using m.2⟩
theorem oddC_of {qs : List CV} {q : CV} (h : q ∈ qs) (o : codeD q.2.2 = false) : q.1 ∈ oddC qs := List.mem_map.mpr ⟨q, List.mem_filter.mpr ⟨h, by rw [o]; rfl⟩, rfl⟩
theorem abc_less : ∀ m ∈ abc, abc[m - 97]? = some m ∧ ∀ y ∈ abc.take (m - 97), y < m := by decide
theorem let_letD {c : Nat} (h : isLt c) : letD (.str (L1 c)) = true := word_let.mpr ⟨c, abc_mem.mpr h, rfl⟩
/-- the least odd letter tells what is refused -/
theorem told_odd {qs : List CV} (nd : (qs.map (·.1)).Nodup) (rg : ∀ q ∈ qs, isLt q.1) {zs : List Nat} {m : Nat} (hp : (m :: zs).Perm (oddC qs)) (hs : (m :: zs).Pairwise (· ≤ ·)) : ∃ q ∈ qs, q.1 = m ∧ toldC (dtC qs) = some (.one 2 q.2.2) := by
  obtain ⟨q, hq, e, o⟩ := oddC_mem (hp.mem_iff.mp List.mem_cons_self)
  refine ⟨q, hq, e, ?_⟩
  have f1 : (dtC qs).find? (fun q => !letD (keyD q.1)) = none := by
    rw [List.find?_eq_none]
    intro p hp2
    obtain ⟨r, hr, rfl⟩ := List.mem_map.mp hp2
    show ¬ (!letD (.str (L1 r.1))) = true
    rw [let_letD (rg r hr)]
    exact fun z => nomatch z
  have bq : badC (dtC qs) q.1 = some q.2.2 := by
    unfold badC
    rw [atD_dtC nd hq]
    show (if codeD q.2.2 = true then none else some q.2.2) = _
    rw [if_neg (by rw [o]; exact fun z => nomatch z)]
  have low : ∀ n : Nat, n < q.1 → (badC (dtC qs) n).isSome = false := fun n hn => by
    by_cases hm : n ∈ qs.map (·.1)
    · obtain ⟨r, hr, er⟩ := List.mem_map.mp hm
      unfold badC
      rw [← er, atD_dtC nd hr]
      show (if codeD r.2.2 = true then none else some r.2.2).isSome = false
      cases w : codeD r.2.2 with
      | true => rfl
      | false =>
        exfalso
        have z := hp.mem_iff.mpr (oddC_of hr w)
        rw [List.pairwise_cons] at hs
        rcases List.mem_cons.mp z with z | z
        · omega
        · have := hs.1 _ z
          omega
    · unfold badC
      rw [atD_noneC hm]
      rfl
  have f2 : abc.find? (fun n => (badC (dtC qs) n).isSome) = some q.1 := by
    obtain ⟨a1, a2⟩ := abc_less q.1 (abc_mem.mpr (rg q hq))
    exact find_take a1 (fun y hy => low y (a2 y hy)) (by show (badC (dtC qs) q.1).isSome = true; rw [bq]; rfl)
  unfold toldC
  rw [f1, f2]
  show (badC (dtC qs) q.1).map (Bad.one 2) = _
  rw [bq]
  rfl
def badK (kvs : List TriV) : List V := (kvs.filter fun e => !letD (dKe e)).map (·.2.1)
theorem badK_cons : ∀ {kvs : List TriV} {a : V} {r : List V}, badK kvs = a :: r → ∃ e ∈ kvs, e.2.1 = a ∧ (kvs.map fun e => dKe e).find? (fun d => !letD d) = some (dKe e)
  | [], a, r, h => nomatch h
  | e :: kvs, a, r, h => by
    unfold badK at h
    rw [List.filter_cons] at h
    rw [List.map_cons, List.find?_cons]
    cases w : letD (dKe e) with
    | true =>
      rw [w] at h
      obtain ⟨e2, h1, h2, h3⟩ := badK_cons (kvs := kvs) (show badK kvs = a :: r from h)
      exact ⟨e2, List.mem_cons_of_mem _ h1, h2, h3⟩
    | false =>
      rw [w] at h
      have h2 : e.2.1 :: badK kvs = a :: r := h
      rw [List.cons.injEq] at h2
      exact ⟨e, List.mem_cons_self, h2.1, rfl⟩
theorem badK_nil {kvs : List TriV} (h : badK kvs = []) : ∀ e ∈ kvs, letD (dKe e) = true := fun e he => by
  unfold badK at h
  rw [List.map_eq_nil_iff, List.filter_eq_nil_iff] at h
  have := h e he
  simpa using this
theorem tabM_of {w : World} {H : Hp} {D : Addr} {kvs : List TriV} (m : MixD w H D kvs) (hk : ∀ e ∈ kvs, Held H e.2.1 (dKe e) ∧ (dKe e).canLay0 = true) (few : kvs.length ≤ 30) : TabM w H D (kvs.map fun e => dKe e) :=
  ⟨⟨kvs, m, by
    have go : ∀ l : List TriV, (∀ e ∈ l, Held H e.2.1 (dKe e)) → Paired (fun (p : NestedKey × V × V) (d : PyData) => Held H p.2.1 d) l (l.map fun e => dKe e) := fun l => by
      induction l with
      | nil => exact fun _ => .nil
      | cons a r ih => exact fun h => .cons (h a List.mem_cons_self) (ih fun e he => h e (List.mem_cons_of_mem _ he))
    exact go kvs fun e he => (hk e he).1⟩, by rw [List.length_map]; exact few, fun d hd => by
    obtain ⟨e, he, rfl⟩ := List.mem_map.mp hd
    exact (hk e he).2⟩
theorem valV_tx {qs : List CV} (nd : (qs.map (·.1)).Nodup) {q : CV} (h : q ∈ qs) : valV (txK (qs.map prC)) (kL q.1) = some q.2.1 := by
  unfold valV txK
  induction qs with
  | nil => exact absurd h List.not_mem_nil
  | cons a r ih =>
    rw [List.map_cons, List.nodup_cons] at nd
    rw [List.map_cons, List.map_cons, List.find?_cons]
    rcases List.mem_cons.mp h with rfl | h
    · rw [show decide ((Sum.inr (prC q).1 : Key) = kL q.1) = true from decide_eq_true rfl]
      rfl
    · have ne : a.1 ≠ q.1 := fun e => nd.1 (List.mem_map.mpr ⟨q, h, e.symm⟩)
      rw [show decide ((Sum.inr (prC a).1 : Key) = kL q.1) = false from decide_eq_false fun e => ne (kL_inj a.1 q.1 e)]
      exact ih nd.2 h
theorem tabA_of {H : Hp} {D : Addr} {qs : List CV} (hD : H D = some (.dK (txK (qs.map prC)))) (hq : ∀ q ∈ qs, Held H q.2.1 q.2.2) (nd : (qs.map (·.1)).Nodup) (rg : ∀ q ∈ qs, isLt q.1) (few : qs.length ≤ 30) : TabA H D (dtC qs) := by
  refine ⟨⟨_, hD, ?_⟩, ?_, by unfold dtC; rw [List.length_map]; exact few, fun p hp => ?_⟩
  · clear nd rg few hD
    unfold txK dtC
    rw [List.map_map]
    induction qs with
    | nil => exact .nil
    | cons a r ih => exact .cons ⟨rfl, hq a List.mem_cons_self⟩ (ih fun q h => hq q (List.mem_cons_of_mem _ h))
  · unfold dtC
    rw [List.map_map]
    rw [List.nodup_iff_pairwise_ne, List.pairwise_map] at nd ⊢
    exact nd.imp fun ne z => ne (kL_inj _ _ z)
  · obtain ⟨q, hq2, rfl⟩ := List.mem_map.mp hp
    exact nice_let q.1 (abc_mem.mpr (rg q hq2))
/-- all have one code: it is a table of codes -/
theorem tab_of {H : Hp} : ∀ {qs : List CV}, (qs.map (·.1)).Nodup → (∀ q ∈ qs, isLt q.1 ∧ ∃ a, q.2.1 = .ref a ∧ H a = some (.tup (nums [1, 2]))) → ∃ (B : Ad) (t : Tab), txK (qs.map prC) = encC B t ∧ t.map (·.1) = qs.map (·.1) ∧ Tups H B t ∧ ∀ q ∈ t, isLt q.1 ∧ GoodI4 q.2
  | [], _, _ => ⟨fun _ => 0, [], rfl, rfl, (fun _ z => nomatch z), (fun _ z => nomatch z)⟩
  | q :: qs, nd, h => by
    rw [List.map_cons, List.nodup_cons] at nd
    obtain ⟨B, t, h1, h2, h3, h4⟩ := tab_of nd.2 fun q2 hq2 => h q2 (List.mem_cons_of_mem _ hq2)
    obtain ⟨hc, a, e, ha⟩ := h q List.mem_cons_self
    have nk : q.1 ∉ t.map (·.1) := by
      rw [h2]
      exact nd.1
    refine ⟨setA B q.1 a, (q.1, [1, 2]) :: t, ?_, by rw [List.map_cons, List.map_cons, h2], fun z hz => ?_, fun z hz => ?_⟩
    · show (kL q.1, q.2.1) :: txK (qs.map prC) = (kL q.1, V.ref (setA B q.1 a q.1)) :: encC (setA B q.1 a) t
      rw [h1, e, encC_set nk]
      show _ = (kL q.1, V.ref (if q.1 = q.1 then a else B q.1)) :: _
      rw [if_pos rfl]
    · rcases List.mem_cons.mp hz with rfl | m
      · show H (if q.1 = q.1 then a else B q.1) = _
        rw [if_pos rfl]
        exact ha
      · have ne : z.1 ≠ q.1 := fun e => nk (e ▸ List.mem_map_of_mem m)
        show H (if z.1 = q.1 then a else B z.1) = _
        rw [if_neg ne]
        exact h3 z m
    · rcases List.mem_cons.mp hz with rfl | m
      · exact ⟨hc, by show 1 ≤ 2; decide, by show 2 ≤ 4; decide, fun k hk => by simp at hk; omega⟩
      · exact h4 z m
/-- beside the row: what is drawn from -/
def WrongOk (H : Hp) (p row : Addr) (v : V) : Prop := ∃ d, Held H v d ∧ (∀ a, v = .ref a → a ≠ p ∧ a ≠ row) ∧ codeD d = false
def KeyOk (H : Hp) (v : V) : Prop := ∃ k, KeyV H k v ∧ Held H v (dKv k v) ∧ letD (dKv k v) = false ∧ (dKv k v).canLay0 = true
theorem WrongOk.mv {p row p0 : Addr} {H H2 : Hp} {v : V} (w : WrongOk H p row v) (h : p0 = p ∨ p0 = row) (m : Mv p0 H H2) : WrongOk H2 p row v := by
  obtain ⟨d, h1, h2, h3⟩ := w
  refine ⟨d, held_mv h1 (fun a e => ?_) m, h2, h3⟩
  rcases h with rfl | rfl
  · exact (h2 a e).1
  · exact (h2 a e).2
theorem KeyOk.mv {p0 : Addr} {H H2 : Hp} {v : V} (w : KeyOk H v) (pl : PenL H p0) (m : Mv p0 H H2) : KeyOk H2 v := by
  obtain ⟨k, h1, h2, h3⟩ := w
  refine ⟨k, keyV_mv h1 pl m, held_mv h2 (fun a e => ?_) m, h3⟩
  rw [e] at h1
  obtain ⟨ys, hy⟩ := keyV_ref h1
  obtain ⟨xs, hp⟩ := pl
  exact ne_of hy hp (fun z => nomatch z)
structure RfS (p row sl ky wr : Addr) (cs : List Nat) (kv wv : List V) (H : Hp) : Prop where
  hsl : H sl = some (.lst (lets cs))
  slp : sl ≠ p
  slr : sl ≠ row
  hky : H ky = some (.lst kv)
  kyp : ky ≠ p
  kyr : ky ≠ row
  hwr : H wr = some (.lst wv)
  wrp : wr ≠ p
  wrr : wr ≠ row
  kok : ∀ v ∈ kv, KeyOk H v
  wok : ∀ v ∈ wv, WrongOk H p row v
theorem RfS.mv {p row sl ky wr : Addr} {cs : List Nat} {kv wv : List V} {H H2 : Hp} (r : RfS p row sl ky wr cs kv wv H) (P : PenL H p) (m : Mv p H H2) : RfS p row sl ky wr cs kv wv H2 :=
  ⟨m _ _ r.hsl r.slp (fun _ z => nomatch z), r.slp, r.slr, m _ _ r.hky r.kyp (fun _ z => nomatch z), r.kyp, r.kyr, m _ _ r.hwr r.wrp (fun _ z => nomatch z), r.wrp, r.wrr, fun v hv => (r.kok v hv).mv P m, fun v hv => (r.wok v hv).mv (.inl rfl) m⟩
theorem RfS.row {p row sl ky wr : Addr} {cs : List Nat} {kv wv : List V} {H H2 : Hp} (r : RfS p row sl ky wr cs kv wv H) (P : PenL H row) (m : Mv row H H2) : RfS p row sl ky wr cs kv wv H2 :=
  ⟨m _ _ r.hsl r.slr (fun _ z => nomatch z), r.slp, r.slr, m _ _ r.hky r.kyr (fun _ z => nomatch z), r.kyp, r.kyr, m _ _ r.hwr r.wrr (fun _ z => nomatch z), r.wrp, r.wrr, fun v hv => (r.kok v hv).mv P m, fun v hv => (r.wok v hv).mv (.inr rfl) m⟩
/-- a letter's pair -/
def RowQ (H : Hp) (p row pa : Addr) (q : CV) : Prop := RowE H pa (triC q) ∧ Held H q.2.1 q.2.2 ∧ (∀ a, q.2.1 = .ref a → a ≠ p ∧ a ≠ row) ∧ ((codeD q.2.2 = true ∧ q.2.2 = codeDt [1, 2]) ∨ codeD q.2.2 = false)
theorem RowQ.mv {p row p0 : Addr} {H H2 : Hp} {pa : Addr} {q : CV} (r : RowQ H p row pa q) (pl : PenL H p0) (h : p0 = p ∨ p0 = row) (m : Mv p0 H H2) : RowQ H2 p row pa q :=
  ⟨r.1.mv pl m, held_mv r.2.1 (fun a e => by
    rcases h with rfl | rfl
    · exact (r.2.2.1 a e).1
    · exact (r.2.2.1 a e).2) m, r.2.2⟩
theorem RowQ.same {H H2 : Hp} {p row pa : Addr} {q : CV} (r : RowQ H p row pa q) (s : Same H H2) : RowQ H2 p row pa q := ⟨r.1.same s, r.2.1.same s, r.2.2⟩
theorem row_tri {H : Hp} {p row : Addr} {ps : List Addr} {qs : List CV} (h : Paired (RowQ H p row) ps qs) : Paired (RowE H) ps (qs.map triC) := by
  induction h with
  | nil => exact .nil
  | cons r _ ih => exact .cons r.1 ih
theorem code_of {H : Hp} {x : V} (p : PyW H x (codeDt [1, 2])) : ∃ a, x = .ref a ∧ H a = some (.tup (nums [1, 2])) := by
  generalize e : codeDt [1, 2] = d at p
  cases p with
  | tup h r =>
    rename_i a xs ds
    have e2 : [PyData.int ((1 : Nat) : Int), .int ((2 : Nat) : Int)] = ds := PyData.tuple.inj e
    subst e2
    refine ⟨a, rfl, ?_⟩
    cases r with
    | cons p1 r =>
      cases r with
      | cons p2 r =>
        cases r
        cases p1
        cases p2
        exact h
  | _ => cases e
end V8

set_option Elab.async false
set_option linter.all false
set_option maxRecDepth 100000
set_option maxHeartbeats 16000000
set_option pp.maxSteps 700
/-! Wrong keys and codes refused. -/
namespace V8
open PySem PySem.Spec PyProof.Rows L2 MX SetT LamX
abbrev s__law_refused_right : Stmt := topS 37
abbrev n__law_refused_right : List Str := ["_law_pen_here", "_law_some", "_law_keys", "_law_wrong", "_law_row", "_law_odd", "_law_one", "_law_is_wrong", "_law_turn", "_law_at", "_law_codes_so", "_law_due", "_law_bad", "_law_heard_here", "_law_key"]
theorem sc__law_refused_right : FnScope ["_law_pen_here", "_law_some", "_law_keys", "_law_wrong", "_law_row", "_law_odd", "_law_one", "_law_is_wrong", "_law_turn", "_law_at", "_law_codes_so", "_law_due", "_law_bad", "_law_heard_here", "_law_key"] ["_law_pen_here", "_law_some"] (defScope s__law_refused_right) := ⟨rfl, rfl, rfl, by decide +kernel, rfl, by decide +kernel, by decide +kernel⟩
def letN : NestedKey → Bool
  | .text z => wordD 1 1 (.str z)
  | _ => false
theorem letN_of {H : Hp} {k : NestedKey} {x : V} (h : KeyV H k x) : letD (dKv k x) = letN k := by
  cases h with
  | flat g => cases g <;> rfl
  | tup _ _ => rfl
theorem held_tp {H : Hp} {t : Addr} {xs : List V} {ds : List PyData} (h : H t = some (.tup xs)) (r : PyWs H xs ds) (f : ∀ y ∈ xs, Flat y) (n : NiceD (.tuple ds) := by decide) (l : xs.length ≤ 100 := by decide) : Held H (.ref t) (.tuple ds) := ⟨.inr (.inl ⟨t, xs, rfl, .inl h, l, f⟩), .tup h r, n⟩
theorem nice_d0 : NiceD (.tuple []) := ⟨⟨by decide +kernel, by decide +kernel, by decide +kernel⟩, by decide +kernel, by decide +kernel, by decide +kernel, fun z e => nomatch e⟩
theorem nice_d5 : NiceD (.tuple [.int 1, .int 2, .int 3, .int 4, .int 5]) := ⟨⟨by decide +kernel, by decide +kernel, by decide +kernel⟩, by decide +kernel, by decide +kernel, by decide +kernel, fun z e => nomatch e⟩
theorem nice_d256 : NiceD (.tuple [.int 256]) := ⟨⟨by decide +kernel, by decide +kernel, by decide +kernel⟩, by decide +kernel, by decide +kernel, by decide +kernel, fun z e => nomatch e⟩
theorem nice_dm1 : NiceD (.tuple [.int (-1)]) := ⟨⟨by decide +kernel, by decide +kernel, by decide +kernel⟩, by decide +kernel, by decide +kernel, by decide +kernel, fun z e => nomatch e⟩
theorem nice_dT : NiceD (.tuple [.bool true]) := ⟨⟨by decide +kernel, by decide +kernel, by decide +kernel⟩, by decide +kernel, by decide +kernel, by decide +kernel, fun z e => nomatch e⟩
theorem nice_l1 : NiceD (.list [.int 1]) := ⟨⟨by decide +kernel, by decide +kernel, by decide +kernel⟩, by decide +kernel, by decide +kernel, by decide +kernel, fun z e => nomatch e⟩
theorem nice_d12 : NiceD (.tuple [.int 1, .str "2"]) := ⟨⟨by decide +kernel, by decide +kernel, by decide +kernel⟩, by decide +kernel, by decide +kernel, by decide +kernel, fun z e => nomatch e⟩
theorem nice_d0n : NiceD (.tuple [.int 0, .none]) := ⟨⟨by decide +kernel, by decide +kernel, by decide +kernel⟩, by decide +kernel, by decide +kernel, by decide +kernel, fun z e => nomatch e⟩
theorem nice_t1 : NiceD (.tuple [.int 1]) := ⟨⟨by decide +kernel, by decide +kernel, by decide +kernel⟩, by decide +kernel, by decide +kernel, by decide +kernel, fun z e => nomatch e⟩
theorem nice_12 : NiceD (codeDt [1, 2]) := ⟨⟨by decide +kernel, by decide +kernel, by decide +kernel⟩, by decide +kernel, by decide +kernel, by decide +kernel, fun z e => nomatch e⟩
theorem let_lay {c : Nat} (h : isLt c) : (PyData.str (L1 c)).canLay0 = true := by
  have ok : PyData.strOk (L1 c) = true := ok_sx (cs := [c]) fun a ha => by
    rw [List.mem_singleton.mp ha]
    exact h
  simp only [PyData.canLay0]
  exact ok
theorem held_t1 {H : Hp} {t : Addr} (h : H t = some (.tup [.int 1])) : Held H (.ref t) (.tuple [.int 1]) := held_tp h (.cons (.int 1) .nil) (fun y hy => by rw [List.mem_singleton.mp hy]; exact .inr (.inl ⟨_, rfl⟩)) nice_t1
theorem viaT {t : TT} {σ : L2.St} {H : Hp} {R : Bool → Hp → Prop} (A : Bool → Hp → Prop) (h1 : ∀ R' : Bool → Hp → Prop, (∀ v H', A v H' → R' v H') → t σ H R') (h2 : ∀ v H', A v H' → R v H') : t σ H R := h1 R h2
theorem lt_one (c d : Nat) : decide ((L1 c).cps.toList < (L1 d).cps.toList) = decide (c < d) := by
  have e1 : (L1 c).cps.toList = [c] := rfl
  have e2 : (L1 d).cps.toList = [d] := rfl
  rw [e1, e2]
  refine decide_eq_decide.mpr ?_
  rw [List.cons_lt_cons_iff]
  simp
theorem call_isiK {X : Cx} {K : PySem.W.Frag} (hK : X.K = K) : CallR X (.builtin "isinstance") (rIsi K) := by
  subst hK
  exact call_isi
def spRefused (TL : List (Addr × Str)) : Sp := fun vs H Q _ => ∃ (p l sl : Addr) (ns : List Int) (n : Nat) (cs : List Nat), vs = [.ref p, .ref sl] ∧ PenAt H p l ns (n + 80) ∧ Tabs TL H ∧ H sl = some (.lst (lets cs)) ∧ sl ≠ p ∧ cs.Nodup ∧ cs ≠ [] ∧ cs.length ≤ 5 ∧ (∀ c ∈ cs, isLt c) ∧
  ∀ H2, PenAt H2 p l ns n → Tabs TL H2 → Q (.bl true) H2
section
variable {P : Program} {w : World} {K : PySem.W.Frag} {mg : Str → Option Value} {base : Heap} {CW CE g c PT : Addr} {Cz : Nat → Addr} {TL : List (Addr × Str)}
theorem ok_refused {f : Addr} {fd : FuncData} (F : FunC K "_law_refused_right" "_law_refused_right" s__law_refused_right f c fd) (T : Tc K mg CW CE Cz) (sys : SysIn base) (D_draw : Df P w K mg base 1 "_law_draw" spDraw) (D_pick : Df P w K mg base 2 "_law_pick" (spPick K)) (D_shuffled : Df P w K mg base 2 "_law_shuffled" spShuf)
    (D_tells : DfG P w K mg base CX0 10 "_law_tells" (spTells CW)) (D_mk : MkW P w K mg base CW Cz) (D_heard : HearD K mg g) (TB : TabT base mg TL (("_law_refused_right" : Str) ++ ".<locals>.") c PT) : FnG P w K mg base CX0 12 f fd ["_law_pen_here", "_law_some"] (spRefused TL) := by
  refine F.okG sc__law_refused_right (fun vs H Q E h => ?_) (fun A outer s H vs Q E quiet hr h => ?_)
  · obtain ⟨p, l, sl, ns, n, cs, rfl, _⟩ := h
    rfl
  · obtain ⟨p, l, sl, ns, n, cs, rfl, PA, tb, hsl, slp, cnd, cs0, cs5, isl, q⟩ := h
    refine ⟨_, (pss_cons (ps_set (i := 2) sc__law_refused_right.nd rfl (.inl rfl) (pe_lst (pa_cons pe_non (pa_cons pe_int (pa_cons pe_str (pa_cons pe_str (pa_cons pe_str (pa_cons (pe_tup (pa_cons pe_int pa_nil)) (pa_cons pe_bl (pa_cons pe_int pa_nil))))))))))
      (pss_cons (ps_set (i := 3) sc__law_refused_right.nd rfl (.inl rfl) (pe_lst (pa_cons pe_non (pa_cons pe_int (pa_cons (pe_tup pa_nil) (pa_cons (pe_tup (pa_cons pe_int (pa_cons pe_int (pa_cons pe_int (pa_cons pe_int (pa_cons pe_int pa_nil)))))) (pa_cons (pe_tup (pa_cons pe_int pa_nil)) (pa_cons (pe_tup (pa_cons (pe_un un_neg pe_int) pa_nil)) (pa_cons (pe_tup (pa_cons pe_bl pa_nil)) (pa_cons (pe_lst (pa_cons pe_int pa_nil)) (pa_cons pe_str (pa_cons (pe_tup (pa_cons pe_int (pa_cons pe_str pa_nil))) (pa_cons pe_dnewK (pa_cons (pe_tup (pa_cons pe_int (pa_cons pe_non pa_nil))) pa_nil))))))))))))))
      (pss_cons (ps_par (i := 4) (j := 5) (by rfl) sc__law_refused_right.nd rfl rfl (by decide) rfl rfl (pa_cons (pe_lst pa_nil) (pa_cons (pe_lst pa_nil) pa_nil)) (by rfl))
      (pss_cons (ps_for PassesOwn.never rfl (pi_list (pe_c D_shuffled hr (by decide) (by rfl) (pa_cons (pv 0) (pa_cons (pv 1) pa_nil)))) (pg_name (i := 6) sc__law_refused_right.nd rfl (.inl rfl))
        (pss_cons (ps_set (i := 7) sc__law_refused_right.nd rfl (.inl rfl) (pe_cmpR op_eq (pe_c D_draw hr (by decide) (by rfl) (pa_cons (pv 0) (pa_cons pe_int pa_nil))) pe_int (nomark _)))
        (pss_cons (ps_expr (pe_bmK (K := K) rfl PySem.F.plainAttrs_list PySem.F.slot_list_append PySem.F.type_list_append mt_append (pv 4) (pa_cons (pe_tup (pa_cons (pv 6) (pa_cons (pe_ifExp (pt_val (pv 7)) (pe_c D_pick hr (by decide) (by rfl) (pa_cons (pv 0) (pa_cons (pv 3) pa_nil))) (pe_tup (pa_cons pe_int (pa_cons pe_int pa_nil)))) pa_nil))) pa_nil)))
        (pss_one (ps_set (i := 5) sc__law_refused_right.nd rfl (.inl rfl) (pe_op op_cat (pv 5) (pe_op op_rep (pe_lst (pa_cons (pv 6) pa_nil)) (pe_callTy call_int1 (by rfl) T.int (by decide +kernel) (pa_cons (pv 7) pa_nil)))))))))
      (pss_cons (ps_for PassesOwn.never rfl (pi_range1 (by rfl) T.range (pa_cons (pe_c D_draw hr (by decide) (by rfl) (pa_cons (pv 0) (pa_cons pe_int pa_nil))) pa_nil)) (pg_name (i := 8) sc__law_refused_right.nd rfl (.inl rfl))
        (pss_cons (ps_set (i := 9) sc__law_refused_right.nd rfl (.inl rfl) (pe_c D_draw hr (by decide) (by rfl) (pa_cons (pv 0) (pa_cons (pe_op op_add (pe_callB (call_len_seqK (K := K) rfl) (by rfl) T.len (by decide +kernel) (pa_cons (pv 4) pa_nil)) pe_int) pa_nil))))
        (pss_one (ps_set (i := 4) sc__law_refused_right.nd rfl (.inl rfl) (pe_op op_cat (pe_op op_cat (pe_slice (sl_listK (K := K) rfl) (pv 4) po_none (po_some (pv 9))) (pe_lst (pa_cons (pe_tup (pa_cons (pe_c D_pick hr (by decide) (by rfl) (pa_cons (pv 0) (pa_cons (pv 2) pa_nil))) (pa_cons (pe_tup (pa_cons pe_int pa_nil)) pa_nil))) pa_nil))) (pe_slice (sl_listK (K := K) rfl) (pv 4) (po_some (pv 9)) po_none))))))
      (pss_cons (ps_asg (pe_tup (pa_cons (pe_callTy (call_dictM rfl (hu10_of hr)) (by rfl) T.dict (by decide +kernel) (pa_cons (pv 4) pa_nil)) (pa_cons pe_non pa_nil))) (pg_tup (by rfl) (pgs_cons (pg_name (i := 10) sc__law_refused_right.nd rfl (.inr rfl)) (pgs_cons (pg_name (i := 11) sc__law_refused_right.nd rfl (.inl rfl)) pgs_nil))))
      (pss_cons (ps_lock (ps_setLc (i := 12) (own := [("_law_key", 14)]) (g := gName 14) (by rfl) sc__law_refused_right.nd rfl rfl (sw_true rfl rfl rfl (by decide +kernel)) (pi_keysX (pv 10)) (blkOk_by (own := [("_law_key", 14)]) (N := n__law_refused_right) (sc := defScope s__law_refused_right) (by decide +kernel)) (fun _ _ _ _ _ => (pg_name (i := 14) sc__law_refused_right.nd rfl (.inl rfl))) (fun _ _ _ _ _ => (pts_one (PW.pt (pw_or (pt_not (pt_val (pe_callB (call_isiK (K := K) rfl) (by rfl) T.isinstance (by decide +kernel) (pa_cons (pv 14) (pa_cons (pe_bltn (v := .ty "str") (by rfl) T.str (by decide +kernel) rfl) pa_nil))))) (pw_or (pt_cmpR op_ne (pe_callB call_len_str (by rfl) T.len (by decide +kernel) (pa_cons (pv 14) pa_nil)) pe_int (nomark _)) (pw_or1 (pt_not (pt_chain op_le_str op_le_str pe_str (pv 14) pe_str)))))))) (fun _ _ _ _ _ => (pv 14))))
      (pss_cons (ps_if (pt_cmpR (op_neNilK (K := K) rfl hr.units0) (pv 12) (pe_lst pa_nil) (nomark _))
        (pss_one (ps_set (i := 11) sc__law_refused_right.nd rfl (.inl rfl) (pe_tup (pa_cons pe_str (pa_cons (pe_callB (call_reprW sys quiet hr) (by rfl) T.repr (by decide +kernel) (pa_cons (pe_ix (ix_listK (K := K) rfl) (pv 12) pe_int (fun _ _ => rfl)) pa_nil)) pa_nil)))))
        (pss_one (ps_if (pt_cmpR (op_neNilK (K := K) rfl hr.units0) (pv 5) (pe_texts (pe_lst pa_nil)) (nomark _))
          (pss_one (ps_set (i := 11) sc__law_refused_right.nd rfl (.inl rfl) (pe_tup (pa_cons pe_str (pa_cons (pe_callB (call_reprW sys quiet hr) (by rfl) T.repr (by decide +kernel) (pa_cons (pe_dget (hu_of hr) (pv 10) (pe_ix (ix_listK (K := K) rfl) (pe_callB cr_sortedS (by rfl) T.sorted (by decide +kernel) (pa_cons (pe_lc (own := [("_law_key", 14)]) (g := gName 14) (by rfl) sc__law_refused_right.nd (pi_list (pv 5)) (blkOk_by (own := [("_law_key", 14)]) (N := n__law_refused_right) (sc := defScope s__law_refused_right) (by decide +kernel)) (fun _ _ _ _ _ => (pg_name (i := 14) sc__law_refused_right.nd rfl (.inl rfl))) (fun _ _ _ _ _ => pts_nil) (fun _ _ _ _ _ => (pe_callTy call_strS (by rfl) T.str (by decide +kernel) (pa_cons (pv 14) pa_nil)))) pa_nil)) pe_int (fun _ _ => rfl)) (fun _ _ => rfl)) pa_nil)) pa_nil)))))
          pss_nil)))
      (pss_cons (ps_set (i := 13) sc__law_refused_right.nd rfl (.inl rfl) (pe_heardG (k := 8) T D_heard TB sys quiet hr (by decide) rfl rfl (by rfl) (lamS_by (sc := defScope s__law_refused_right) (by decide +kernel)) (by rfl) (fun _ _ _ _ _ => rfl) (fun A2 o2 s2 H2 E2 f2 c2 quiet2 hr2 => (pe_mkW (w := w) rfl D_mk quiet2 (passTk (takes_of rfl rfl rfl rfl)) hr2 (by decide) (by rfl) (pa_cons (pv 10) pa_nil)))))
      (pss_one (ps_ret (pe_ifExp (pt_cmpR op_notN (pv 11) pe_non (nomark _)) (pe_cmpR (op_eqDK (K := K) rfl hr.units) (pv 13) (pv 11) (nomark _)) (pe_and (pe_callB call_isi (by rfl) T.isinstance (by decide +kernel) (pa_cons (pv 13) (pa_cons (pe_bltn (v := .ty "list") (by rfl) T.list (by decide +kernel) rfl) pa_nil))) (pe_one (pe_cG D_tells quiet pass0 hr (by decide) (by rfl) (pa_cons (pe_ix (ix_listK (K := K) rfl) (pv 13) pe_int (fun _ _ => rfl)) (pa_cons (pv 10) pa_nil))))))))))))))))), ?_⟩
    refine ⟨by show 1 ≤ sizeLine; decide, fun t1 nt1 => ?_⟩
    replace nt1 : H t1 = none := nt1
    have st1 := same_put (s := Same.refl H) (o := .tup [.int 1]) nt1
    have ht1 : upd H t1 (.tup [.int 1]) t1 = some (.tup [.int 1]) := upd_same
    have t1p := PA.nep nt1
    have PG0 := pen_ext PA (ExtN.of st1)
    generalize upd H t1 (.tup [.int 1]) = G0 at st1 ht1 PG0 ⊢
    refine ⟨by show 8 ≤ sizeLine; decide, fun ky nky => ?_⟩
    replace nky : G0 ky = none := nky
    have sky := same_put (s := Same.refl G0) (o := .lst [V.non, .int 0, .str "", .str "ab", .str "A", .ref t1, .bl true, .int 7]) nky
    have hky : upd G0 ky (.lst [V.non, .int 0, .str "", .str "ab", .str "A", .ref t1, .bl true, .int 7]) ky = some (.lst [V.non, .int 0, .str "", .str "ab", .str "A", .ref t1, .bl true, .int 7]) := upd_same
    have kyp := PG0.nep nky
    have PG1 := pen_ext PG0 (ExtN.of sky)
    show gName 2 (.ref ky) _ (upd G0 ky (.lst [V.non, .int 0, .str "", .str "ab", .str "A", .ref t1, .bl true, .int 7])) _
    generalize upd G0 ky (.lst [V.non, .int 0, .str "", .str "ab", .str "A", .ref t1, .bl true, .int 7]) = G1 at sky hky PG1 ⊢
    refine ⟨Nat.zero_le _, fun ua nua => ?_⟩
    replace nua : G1 ua = none := nua
    have sua := same_put (s := Same.refl G1) (o := .tup []) nua
    have hua : upd G1 ua (.tup []) ua = some (.tup []) := upd_same
    have uap := PG1.nep nua
    have PG2 := pen_ext PG1 (ExtN.of sua)
    generalize upd G1 ua (.tup []) = G2 at sua hua PG2 ⊢
    refine ⟨by show 5 ≤ sizeLine; decide, fun ub nub => ?_⟩
    replace nub : G2 ub = none := nub
    have sub := same_put (s := Same.refl G2) (o := .tup [.int 1, .int 2, .int 3, .int 4, .int 5]) nub
    have hub : upd G2 ub (.tup [.int 1, .int 2, .int 3, .int 4, .int 5]) ub = some (.tup [.int 1, .int 2, .int 3, .int 4, .int 5]) := upd_same
    have ubp := PG2.nep nub
    have PG3 := pen_ext PG2 (ExtN.of sub)
    generalize upd G2 ub (.tup [.int 1, .int 2, .int 3, .int 4, .int 5]) = G3 at sub hub PG3 ⊢
    refine ⟨by show 1 ≤ sizeLine; decide, fun uc nuc => ?_⟩
    replace nuc : G3 uc = none := nuc
    have suc := same_put (s := Same.refl G3) (o := .tup [.int 256]) nuc
    have huc : upd G3 uc (.tup [.int 256]) uc = some (.tup [.int 256]) := upd_same
    have ucp := PG3.nep nuc
    have PG4 := pen_ext PG3 (ExtN.of suc)
    generalize upd G3 uc (.tup [.int 256]) = G4 at suc huc PG4 ⊢
    refine ⟨1, rfl, by show 1 ≤ sizeLine; decide, fun ud nud => ?_⟩
    replace nud : G4 ud = none := nud
    have sud := same_put (s := Same.refl G4) (o := .tup [.int (-1)]) nud
    have hud : upd G4 ud (.tup [.int (-1)]) ud = some (.tup [.int (-1)]) := upd_same
    have udp := PG4.nep nud
    have PG5 := pen_ext PG4 (ExtN.of sud)
    generalize upd G4 ud (.tup [.int (-1)]) = G5 at sud hud PG5 ⊢
    refine ⟨by show 1 ≤ sizeLine; decide, fun ue nue => ?_⟩
    replace nue : G5 ue = none := nue
    have sue := same_put (s := Same.refl G5) (o := .tup [.bl true]) nue
    have hue : upd G5 ue (.tup [.bl true]) ue = some (.tup [.bl true]) := upd_same
    have uep := PG5.nep nue
    have PG6 := pen_ext PG5 (ExtN.of sue)
    generalize upd G5 ue (.tup [.bl true]) = G6 at sue hue PG6 ⊢
    refine ⟨by show 1 ≤ sizeLine; decide, fun uf nuf => ?_⟩
    replace nuf : G6 uf = none := nuf
    have suf := same_put (s := Same.refl G6) (o := .lst [.int 1]) nuf
    have huf : upd G6 uf (.lst [.int 1]) uf = some (.lst [.int 1]) := upd_same
    have ufp := PG6.nep nuf
    have PG7 := pen_ext PG6 (ExtN.of suf)
    generalize upd G6 uf (.lst [.int 1]) = G7 at suf huf PG7 ⊢
    refine ⟨by show 2 ≤ sizeLine; decide, fun ug nug => ?_⟩
    replace nug : G7 ug = none := nug
    have sug := same_put (s := Same.refl G7) (o := .tup [.int 1, .str "2"]) nug
    have hug : upd G7 ug (.tup [.int 1, .str "2"]) ug = some (.tup [.int 1, .str "2"]) := upd_same
    have ugp := PG7.nep nug
    have PG8 := pen_ext PG7 (ExtN.of sug)
    generalize upd G7 ug (.tup [.int 1, .str "2"]) = G8 at sug hug PG8 ⊢
    refine fun uh nuh => ?_
    replace nuh : G8 uh = none := nuh
    have suh := same_put (s := Same.refl G8) (o := .dK []) nuh
    have huh : upd G8 uh (.dK []) uh = some (.dK []) := upd_same
    have uhp := PG8.nep nuh
    have PG9 := pen_ext PG8 (ExtN.of suh)
    generalize upd G8 uh (.dK []) = G9 at suh huh PG9 ⊢
    refine ⟨by show 2 ≤ sizeLine; decide, fun ui nui => ?_⟩
    replace nui : G9 ui = none := nui
    have sui := same_put (s := Same.refl G9) (o := .tup [.int 0, .non]) nui
    have hui : upd G9 ui (.tup [.int 0, .non]) ui = some (.tup [.int 0, .non]) := upd_same
    have uip := PG9.nep nui
    have PG10 := pen_ext PG9 (ExtN.of sui)
    generalize upd G9 ui (.tup [.int 0, .non]) = G10 at sui hui PG10 ⊢
    refine ⟨by show 12 ≤ sizeLine; decide, fun wr nwr => ?_⟩
    replace nwr : G10 wr = none := nwr
    have swr := same_put (s := Same.refl G10) (o := .lst [V.non, .int 5, .ref ua, .ref ub, .ref uc, .ref ud, .ref ue, .ref uf, .str "a", .ref ug, .ref uh, .ref ui]) nwr
    have hwr : upd G10 wr (.lst [V.non, .int 5, .ref ua, .ref ub, .ref uc, .ref ud, .ref ue, .ref uf, .str "a", .ref ug, .ref uh, .ref ui]) wr = some (.lst [V.non, .int 5, .ref ua, .ref ub, .ref uc, .ref ud, .ref ue, .ref uf, .str "a", .ref ug, .ref uh, .ref ui]) := upd_same
    have wrp := PG10.nep nwr
    have PG11 := pen_ext PG10 (ExtN.of swr)
    show gName 3 (.ref wr) _ (upd G10 wr (.lst [V.non, .int 5, .ref ua, .ref ub, .ref uc, .ref ud, .ref ue, .ref uf, .str "a", .ref ug, .ref uh, .ref ui])) _
    generalize upd G10 wr (.lst [V.non, .int 5, .ref ua, .ref ub, .ref uc, .ref ud, .ref ue, .ref uf, .str "a", .ref ug, .ref uh, .ref ui]) = G11 at swr hwr PG11 ⊢
    have ft1 := swr _ _ (sui _ _ (suh _ _ (sug _ _ (suf _ _ (sue _ _ (sud _ _ (suc _ _ (sub _ _ (sua _ _ (sky _ _ (ht1)))))))))))
    have fky := swr _ _ (sui _ _ (suh _ _ (sug _ _ (suf _ _ (sue _ _ (sud _ _ (suc _ _ (sub _ _ (sua _ _ (hky))))))))))
    have fua := swr _ _ (sui _ _ (suh _ _ (sug _ _ (suf _ _ (sue _ _ (sud _ _ (suc _ _ (sub _ _ (hua)))))))))
    have fub := swr _ _ (sui _ _ (suh _ _ (sug _ _ (suf _ _ (sue _ _ (sud _ _ (suc _ _ (hub))))))))
    have fuc := swr _ _ (sui _ _ (suh _ _ (sug _ _ (suf _ _ (sue _ _ (sud _ _ (huc)))))))
    have fud := swr _ _ (sui _ _ (suh _ _ (sug _ _ (suf _ _ (sue _ _ (hud))))))
    have fue := swr _ _ (sui _ _ (suh _ _ (sug _ _ (suf _ _ (hue)))))
    have fuf := swr _ _ (sui _ _ (suh _ _ (sug _ _ (huf))))
    have fug := swr _ _ (sui _ _ (suh _ _ (hug)))
    have fuh := swr _ _ (sui _ _ (huh))
    have fui := swr _ _ (hui)
    have s1 : Same H G11 := fun b o e => swr _ _ (sui _ _ (suh _ _ (sug _ _ (suf _ _ (sue _ _ (sud _ _ (suc _ _ (sub _ _ (sua _ _ (sky _ _ (st1 _ _ (e))))))))))))
    have tb1 := tb.ext s1
    have hsl1 := s1 _ _ hsl
    have PA1 := PG11
    clear st1 sky sua sub suc sud sue suf sug suh sui swr nt1 nky nua nub nuc nud nue nuf nug nuh nui nwr ht1 hky hua hub huc hud hue huf hug huh hui PG0 PG1 PG2 PG3 PG4 PG5 PG6 PG7 PG8 PG9 PG10 PG11
    clear tb hsl
    -- the row
    refine ⟨Nat.zero_le _, fun row nrow => ⟨Nat.zero_le _, fun od nod => ⟨_, _, rfl, ?_⟩⟩⟩
    replace nrow : G11 row = none := nrow
    replace nod : upd G11 row (.lst []) od = none := nod
    have g1 := same_put (s := Same.refl G11) (o := .lst []) nrow
    have g2 := same_put (s := Same.refl _) (o := .lst []) nod
    have hrow := g2 _ _ (show upd G11 row (.lst []) row = some (.lst []) from upd_same)
    have hod : upd (upd G11 row (.lst [])) od (.lst []) od = some (.lst []) := upd_same
    have s2 : Same G11 (upd (upd G11 row (.lst [])) od (.lst [])) := fun b o e => g2 _ _ (g1 _ _ e)
    have rowp := PA1.nep nrow
    have rowl := PA1.nel nrow
    have P1 := pen_ext PA1 (ExtN.of g1)
    have odp := P1.nep nod
    have PA2 := pen_ext PA1 (ExtN.of s2)
    have tb2 := tb1.ext s2
    have odr := Ne.symm (ne_of_none (show upd G11 row (.lst []) row = some (.lst []) from upd_same) nod)
    obtain ⟨kv, ekv0⟩ : ∃ kv, kv = [V.non, .int 0, .str "", .str "ab", .str "A", .ref t1, .bl true, .int 7] := ⟨_, rfl⟩
    obtain ⟨wv, ewv0⟩ : ∃ wv, wv = [V.non, .int 5, .ref ua, .ref ub, .ref uc, .ref ud, .ref ue, .ref uf, .str "a", .ref ug, .ref uh, .ref ui] := ⟨_, rfl⟩
    have kvl : kv.length = 8 := by rw [ekv0]; rfl
    have wvl : wv.length = 12 := by rw [ewv0]; rfl
    have R2 : RfS p row sl ky wr cs kv wv (upd (upd G11 row (.lst [])) od (.lst [])) := by
      refine ⟨s2 _ _ hsl1, slp, ne_of_none hsl1 nrow, by rw [ekv0]; exact s2 _ _ fky, kyp, ne_of_none fky nrow, by rw [ewv0]; exact s2 _ _ hwr, wrp, ne_of_none hwr nrow, fun v hv => ?_, fun v hv => ?_⟩
      · rw [ekv0] at hv
        simp only [List.mem_cons, List.not_mem_nil, or_false] at hv
        rcases hv with rfl | rfl | rfl | rfl | rfl | rfl | rfl | rfl
        · exact ⟨.none, .flat .none, held_non, rfl, by decide +kernel⟩
        · exact ⟨.num 0, .flat (.int _), held_int (nice_nat 0 (by decide)), rfl, by decide +kernel⟩
        · exact ⟨.text "", .flat (.text _), held_str (by decide +kernel), by decide +kernel, by decide +kernel⟩
        · exact ⟨.text "ab", .flat (.text _), held_str (by decide +kernel), by decide +kernel, by decide +kernel⟩
        · exact ⟨.text "A", .flat (.text _), held_str (by decide +kernel), by decide +kernel, by decide +kernel⟩
        · exact ⟨.tup [.num 1], .tup (s2 _ _ ft1) (.cons (.int 1) .nil), held_t1 (s2 _ _ ft1), rfl, by show (PyData.tuple [.int 1]).canLay0 = true; decide +kernel⟩
        · exact ⟨_, .flat (.bool true), held_bl true, rfl, by decide +kernel⟩
        · exact ⟨.num 7, .flat (.int _), held_int (nice_nat 7 (by decide)), rfl, by decide +kernel⟩
      · rw [ewv0] at hv
        have nr : ∀ {a : Addr} {u : HO}, G11 a = some u → a ≠ row := fun e => ne_of_none e nrow
        have rf : ∀ {a : Addr} {u : HO}, G11 a = some u → a ≠ p → ∀ b, V.ref a = .ref b → b ≠ p ∧ b ≠ row := fun e n b z => by
          cases z
          exact ⟨n, nr e⟩
        have nf : ∀ {v : V}, (∀ b, v ≠ .ref b) → ∀ b, v = .ref b → b ≠ p ∧ b ≠ row := fun n b z => absurd z (n b)
        simp only [List.mem_cons, List.not_mem_nil, or_false] at hv
        rcases hv with rfl | rfl | rfl | rfl | rfl | rfl | rfl | rfl | rfl | rfl | rfl | rfl
        · exact ⟨_, held_non, nf (fun _ z => nomatch z), rfl⟩
        · exact ⟨_, held_int (nice_nat 5 (by decide)), nf (fun _ z => nomatch z), rfl⟩
        · exact ⟨_, held_tp (s2 _ _ fua) .nil (fun y hy => absurd hy List.not_mem_nil) nice_d0, rf fua uap, by decide +kernel⟩
        · exact ⟨_, held_tp (s2 _ _ fub) (.cons (.int 1) (.cons (.int 2) (.cons (.int 3) (.cons (.int 4) (.cons (.int 5) .nil))))) (fun y hy => by simp only [List.mem_cons, List.not_mem_nil, or_false] at hy; rcases hy with rfl | rfl | rfl | rfl | rfl <;> exact .inr (.inl ⟨_, rfl⟩)) nice_d5, rf fub ubp, by decide +kernel⟩
        · exact ⟨_, held_tp (s2 _ _ fuc) (.cons (.int 256) .nil) (fun y hy => by rw [List.mem_singleton.mp hy]; exact .inr (.inl ⟨_, rfl⟩)) nice_d256, rf fuc ucp, by decide +kernel⟩
        · exact ⟨_, held_tp (s2 _ _ fud) (.cons (.int (-1)) .nil) (fun y hy => by rw [List.mem_singleton.mp hy]; exact .inr (.inl ⟨_, rfl⟩)) nice_dm1, rf fud udp, by decide +kernel⟩
        · exact ⟨_, held_tp (s2 _ _ fue) (.cons (.bl true) .nil) (fun y hy => by rw [List.mem_singleton.mp hy]; exact .inr (.inr (.inr ⟨_, rfl⟩))) nice_dT, rf fue uep, by decide +kernel⟩
        · exact ⟨.list [.int 1], ⟨.inr (.inl ⟨uf, _, rfl, .inr (s2 _ _ fuf), by decide, fun y hy => by rw [List.mem_singleton.mp hy]; exact .inr (.inl ⟨_, rfl⟩)⟩), .lst (s2 _ _ fuf) (.cons (.int 1) .nil), nice_l1⟩, rf fuf ufp, rfl⟩
        · exact ⟨_, held_str (by decide +kernel), nf (fun _ z => nomatch z), rfl⟩
        · exact ⟨_, held_tp (s2 _ _ fug) (.cons (.int 1) (.cons (.str "2") .nil)) (fun y hy => by simp only [List.mem_cons, List.not_mem_nil, or_false] at hy; rcases hy with rfl | rfl; exact .inr (.inl ⟨_, rfl⟩); exact .inl ⟨_, rfl⟩) nice_d12, rf fug ugp, by decide +kernel⟩
        · exact ⟨_, held_dict (s2 _ _ fuh), rf fuh uhp, rfl⟩
        · exact ⟨_, held_tp (s2 _ _ fui) (.cons (.int 0) (.cons .non .nil)) (fun y hy => by simp only [List.mem_cons, List.not_mem_nil, or_false] at hy; rcases hy with rfl | rfl; exact .inr (.inl ⟨_, rfl⟩); exact .inr (.inr (.inl rfl))) nice_d0n, rf fui uip, by decide +kernel⟩
    have kvl0 : 0 < kv.length := by rw [kvl]; decide
    clear ekv0 ewv0 ft1 fky fua fub fuc fud fue fuf fug fuh fui t1p uap ubp ucp udp uep ufp ugp uhp uip
    generalize upd (upd G11 row (.lst [])) od (.lst []) = H2 at hrow hod PA2 tb2 R2 s2 ⊢
    clear g1 g2 P1 nrow nod s2 hsl1 PA1 tb1 s1 PA hwr
    refine ⟨_, rfl, _, rfl, p, l, sl, ns, n + 70, lets cs, rfl, PA2.less (by rw [lets_len]; omega), R2.hsl, slp, by rw [lets_len]; omega, fun L ys H3 pm PA3 fr3 nL hL => ?_⟩
    have R3 := R2.mv PA2.pl (Mv.ofFr fr3)
    have tb3 := tabs_fr tb2 PA2.pl fr3
    have hrow3 := fr3 _ _ hrow rowp
    have hod3 := fr3 _ _ hod odp
    have Lp := PA2.nep nL
    have Lr := ne_of_none hrow nL
    obtain ⟨ds, rfl, pd⟩ := un_lets pm
    have dl : ds.length ≤ 5 := by rw [pd.length_eq]; exact cs5
    have dnd : ds.Nodup := pd.nodup_iff.mpr cnd
    have dlt : ∀ k ∈ ds, isLt k := fun k hk => isl k (pd.mem_iff.mp hk)
    clear nL R2 tb2 hrow hod PA2 fr3 pm pd
    refine ⟨L, rfl, ⟨_, SqL.of hL⟩, for_it (walk_list (K := K) (a := L) (xs := lets ds)) (fun i σ H4 => ∃ (od : Addr) (qs : List CV) (ps : List Addr), (∃ v6 v7 v8 v9 v10 v11 v12 v13 v14 : Option V, σ = [some (.ref p), some (.ref sl), some (.ref ky), some (.ref wr), some (.ref row), some (.ref od), v6, v7, v8, v9, v10, v11, v12, v13, v14]) ∧
      PenAt H4 p l ns (n + 20 + 2 * (5 - i)) ∧ i ≤ 5 ∧ Tabs TL H4 ∧ RfS p row sl ky wr cs kv wv H4 ∧ H4 L = some (.lst (lets ds)) ∧ qs.map (·.1) = ds.take i ∧ H4 row = some (.lst (ps.map V.ref)) ∧ Paired (RowQ H4 p row) ps qs ∧ H4 od = some (.lst (lets (oddC qs))) ∧ od ≠ p ∧ od ≠ row) ?_ ?_ ?_ ?_⟩
    · exact ⟨od, [], [], ⟨_, _, _, _, _, _, _, _, _, rfl⟩, PA3.less (by omega), Nat.zero_le _, tb3, R3, hL, rfl, hrow3, .nil, hod3, odp, odr⟩
    · rintro i σ H4 hi ⟨od, qs, ps, _, _, _, _, _, h, _⟩
      exact SqL.of h
    · rintro i x σ H40 H4 hi ⟨od, qs, ps, ⟨v6, v7, v8, v9, v10, v11, v12, v13, v14, rfl⟩, PA4, _, tb4, R4, hL4, eqs, hrow4, pr4, hod4, odp, odr⟩ ⟨rfl, hx⟩
      obtain ⟨hi', rfl⟩ := lets_get hx
      have kd := dlt _ (List.getElem_mem hi')
      have i5 : i < 5 := by omega
      have eb : n + 20 + 2 * (5 - i) = (n + 20 + 2 * (5 - (i + 1))) + 1 + 1 := by omega
      rw [eb] at PA4
      generalize n + 20 + 2 * (5 - (i + 1)) = m at PA4 ⊢
      refine ⟨_, rfl, p, l, ns, m + 1, 3, rfl, PA4, by decide, by decide, fun v0 H5 v00 v03 PA5 fr5 => ⟨rfl, ?_⟩⟩
      obtain ⟨bw, ebw⟩ : ∃ bw, bw = decide (V.int v0 = V.int 0) := ⟨_, rfl⟩
      show Ends.nx _ _ H5
      rw [← ebw]
      clear ebw
      have R5 := R4.mv PA4.pl (Mv.ofFr fr5)
      have tb5 := tabs_fr tb4 PA4.pl fr5
      have hL5 := fr5 _ _ hL4 Lp
      have hrow5 := fr5 _ _ hrow4 rowp
      have hod5 := fr5 _ _ hod4 odp
      have pr5 := pair_imp pr4 fun _ _ z => z.mv PA4.pl (.inl rfl) (Mv.ofFr fr5)
      clear R4 tb4 hL4 hrow4 hod4 pr4 PA4 fr5
      refine ⟨_, rfl, .inl ⟨rfl, _, SqL.of hrow5⟩, _, rfl, ?_⟩
      refine via (fun v H6 => ∃ d, Held H6 v d ∧ (∀ a, v = .ref a → a ≠ p ∧ a ≠ row) ∧ ((codeD d = true ∧ d = codeDt [1, 2]) ∨ codeD d = false) ∧ codeD d = !bw ∧ PenAt H6 p l ns m ∧ Fr p H5 H6) (fun R' hR => ?_) (fun v H6 z => ?_)
      · cases bw with
        | true =>
          refine ⟨_, rfl, true, rfl, iteT ⟨_, rfl, _, rfl, p, l, wr, ns, m, _, rfl, PA5, SqL.of R5.hwr, by rw [wvl]; decide, by rw [wvl]; decide, fun H' f => SqL.of (f _ _ R5.hwr R5.wrp), fun v H6 hv PA6 fr6 => ?_⟩⟩
          have R6 := R5.mv PA5.pl (Mv.ofFr fr6)
          obtain ⟨d, h1, h2, h3⟩ := R6.wok v hv
          exact hR _ _ ⟨d, h1, h2, .inr h3, by rw [h3]; rfl, PA6, fr6⟩
        | false =>
          refine ⟨_, rfl, false, rfl, iteF ⟨by show 2 ≤ sizeLine; decide, fun ct nct => ?_⟩⟩
          have sct := same_put (s := Same.refl H5) (o := .tup [.int 1, .int 2]) nct
          have hct : upd H5 ct (.tup [.int 1, .int 2]) ct = some (.tup (nums [1, 2])) := upd_same
          exact hR _ _ ⟨codeDt [1, 2], held_tp hct (py_nums [1, 2]) (fun y hy => by
            obtain ⟨k, _, rfl⟩ := nums_mem hy
            exact .inr (.inl ⟨_, rfl⟩)) nice_12 (by decide), fun a e => by
              cases e
              exact ⟨PA5.nep nct, Ne.symm (ne_of_none hrow5 nct)⟩, .inl ⟨by decide, rfl⟩, by decide, (pen_ext PA5 (ExtN.of sct)).less (by omega), Fr.new nct⟩
      obtain ⟨d, hd6, hdr, hdw, hdb, PA6, fr6⟩ := z
      have R6 := R5.mv PA5.pl (Mv.ofFr fr6)
      have tb6 := tabs_fr tb5 PA5.pl fr6
      have hL6 := fr6 _ _ hL5 Lp
      have hrow6 := fr6 _ _ hrow5 rowp
      have hod6 := fr6 _ _ hod5 odp
      have pr6 := pair_imp pr5 fun _ _ z => z.mv PA5.pl (.inl rfl) (Mv.ofFr fr6)
      have eps := pair_len pr6
      have eqn : qs.length ≤ 5 := by
        have z := congrArg List.length eqs
        rw [List.length_map, List.length_take] at z
        omega
      clear R5 tb5 hL5 hrow5 hod5 pr5 PA5 fr6 hi hx
      refine ⟨by show 2 ≤ sizeLine; decide, fun pa npa => ⟨row, _, _, rfl, rfl, by rw [upd_ne (ne_of_none hrow6 npa)]; exact hrow6, by rw [List.length_map, sizeLine_eq]; omega, ?_⟩⟩
      have sp := same_put (s := Same.refl H6) (o := .tup [.str (L1 ds[i]), v]) npa
      have hpa : upd H6 pa (.tup [.str (L1 ds[i]), v]) pa = _ := upd_same
      have PA7 := pen_ext PA6 (ExtN.of sp)
      have gm : Mv row (upd H6 pa (.tup [.str (L1 ds[i]), v])) (upd (upd H6 pa (.tup [.str (L1 ds[i]), v])) row (.lst (ps.map V.ref ++ [.ref pa]))) := grow_mv
      have hrow7 := sp _ _ hrow6
      have par : pa ≠ row := fun e => by
        rw [e, hrow6] at npa
        cases npa
      have e7 : RowQ (upd H6 pa (.tup [.str (L1 ds[i]), v])) p row pa (ds[i], v, d) := ⟨⟨hpa, .flat (.text _), held_let1 kd, let_lay kd⟩, hd6.same sp, hdr, hdw⟩
      have R7 := (R6.mv PA6.pl (Mv.ofSame sp)).row ⟨_, hrow7⟩ gm
      have tb7 := tabs_fr (tb6.ext sp) ⟨_, hrow7⟩ (Fr.at (o := .lst (ps.map V.ref ++ [.ref pa])))
      have pr7 : Paired (RowQ (upd (upd H6 pa (.tup [.str (L1 ds[i]), v])) row (.lst (ps.map V.ref ++ [.ref pa]))) p row) (ps ++ [pa]) (qs ++ [(ds[i], v, d)]) :=
        (pair_imp pr6 fun _ _ z => (z.same sp).mv ⟨_, hrow7⟩ (.inr rfl) gm).snoc (e7.mv ⟨_, hrow7⟩ (.inr rfl) gm)
      have PA8 := PA7.other (o := .lst (ps.map V.ref ++ [.ref pa])) rowp rowl
      have hL7 := gm _ _ (sp _ _ hL6) (Ne.symm Lr) (fun _ z => nomatch z)
      have hod7 := gm _ _ (sp _ _ hod6) odr (fun _ z => nomatch z)
      have hrow8 : upd (upd H6 pa (.tup [.str (L1 ds[i]), v])) row (.lst (ps.map V.ref ++ [.ref pa])) row = some (.lst ((ps ++ [pa]).map V.ref)) := by
        rw [upd_same, List.map_append]
        rfl
      dsimp only
      generalize upd (upd H6 pa (.tup [.str (L1 ds[i]), v])) row (.lst (ps.map V.ref ++ [.ref pa])) = H8 at R7 tb7 pr7 PA8 hL7 hod7 hrow8 ⊢
      clear sp hpa PA7 gm hrow7 e7 R6 tb6 pr6 PA6 hL6 hod6 hrow6
      -- the odd ones
      have lo : (oddC qs).length ≤ 5 := by
        unfold oddC
        rw [List.length_map]
        exact Nat.le_trans (List.length_filter_le ..) eqn
      refine ⟨_, rfl, _, rfl, by show 1 ≤ sizeLine; decide, fun o1 no1 => ⟨_, rfl, .inr ⟨bw, rfl, o1, _, _, rfl, rfl, upd_same, by cases bw <;> decide, by cases bw <;> decide, by rw [sizeLine_eq]; cases bw <;> simp, fun o2 no2 => ⟨od, o2, lets (oddC qs), (List.replicate (if bw = true then 1 else 0 : Int).toNat [V.str (L1 ds[i])]).flatten, rfl, rfl, ?_, upd_same, ?_, fun o3 no3 => ?_⟩⟩⟩⟩
      · rw [upd_ne (ne_of_none (show upd H8 o1 (.lst [.str (L1 ds[i])]) od = _ by rw [upd_ne (ne_of_none hod7 no1)]; exact hod7) no2), upd_ne (ne_of_none hod7 no1)]
        exact hod7
      · rw [lets_len, sizeLine_eq]
        cases bw <;> (simp; omega)
      have q1 := same_put (s := Same.refl H8) (o := .lst [V.str (L1 ds[i])]) no1
      have q2 := same_put (s := q1) (o := .lst (List.replicate (if bw = true then 1 else 0 : Int).toNat [V.str (L1 ds[i])]).flatten) no2
      have q3 := same_put (s := q2) (o := .lst (lets (oddC qs) ++ (List.replicate (if bw = true then 1 else 0 : Int).toNat [V.str (L1 ds[i])]).flatten)) no3
      have eod : lets (oddC (qs ++ [(ds[i], v, d)])) = lets (oddC qs) ++ (List.replicate (if bw = true then 1 else 0 : Int).toNat [V.str (L1 ds[i])]).flatten := by
        unfold oddC lets
        rw [List.filter_append, List.map_append, List.map_append]
        congr 1
        rw [List.filter_cons, hdb]
        cases bw <;> rfl
      refine ⟨o3, _, _, ⟨_, _, _, _, _, _, _, _, _, rfl⟩, pen_ext PA8 (ExtN.of q3), by omega, tb7.ext q3, R7.mv PA8.pl (Mv.ofSame q3), q3 _ _ hL7, ?_, q3 _ _ hrow8, pair_imp pr7 fun _ _ z => z.same q3, ?_, ?_, ?_⟩
      · rw [List.map_append, eqs, List.take_add_one, List.getElem?_eq_getElem hi']
        rfl
      · rw [eod, upd_same]
      · exact (pen_ext PA8 (ExtN.of q2)).nep no3
      · exact Ne.symm (ne_of_none (q2 _ _ hrow8) no3)
    · rintro σ H4 ⟨od, qs, ps, ⟨v6, v7, v8, v9, v10, v11, v12, v13, v14, rfl⟩, PA4, _, tb4, R4, _, eqs, hrow4, pr4, hod4, odp, odr⟩
      have eqd : qs.map (·.1) = ds := by
        rw [eqs, List.take_of_length_le (by rw [lets_len]; exact Nat.le_refl _)]
      have eql : qs.length ≤ 5 := by
        have z := congrArg List.length eqd
        rw [List.length_map] at z
        omega
      clear rowl Lp Lr hrow3 hod3 R3 tb3 PA3 hL
      -- bad keys put in
      refine ⟨_, rfl, p, l, ns, n + 19, 3, rfl, PA4.less (by omega), by decide, by decide, fun cnt H5 c0 c1 PA5 fr5 => ⟨cnt, rfl, by omega, by omega, ?_⟩⟩
      have R5 := R4.mv PA4.pl (Mv.ofFr fr5)
      have tb5 := tabs_fr tb4 PA4.pl fr5
      have hrow5 := fr5 _ _ hrow4 rowp
      have hod5 := fr5 _ _ hod4 odp
      have pr5 := pair_imp pr4 fun _ _ z => z.mv PA4.pl (.inl rfl) (Mv.ofFr fr5)
      clear R4 tb4 hrow4 hod4 pr4 PA4 fr5
      refine for_it (walk_range (lo := 0) (n := cnt.toNat)) (fun j σ H6 => ∃ (rw_ : Addr) (es : List TriV) (ps : List Addr), (∃ v6 v7 v8 v9 v10 v11 v12 v13 v14 : Option V, σ = [some (.ref p), some (.ref sl), some (.ref ky), some (.ref wr), some (.ref rw_), some (.ref od), v6, v7, v8, v9, v10, v11, v12, v13, v14]) ∧
        PenAt H6 p l ns (n + 10 + 2 * (2 - j)) ∧ Tabs TL H6 ∧ RfS p row sl ky wr cs kv wv H6 ∧ H6 rw_ = some (.lst (ps.map V.ref)) ∧ rw_ ≠ p ∧ Paired (RowE H6) ps es ∧ es.length ≤ 5 + j ∧ H6 od = some (.lst (lets (oddC qs))) ∧ ((es = qs.map triC ∧ Paired (RowQ H6 p row) ps qs) ∨ ∃ e ∈ es, letN e.1 = false)) ?_ (fun _ _ _ _ _ => True.intro) ?_ ?_
      · refine ⟨row, qs.map triC, ps, ⟨_, _, _, _, _, _, _, _, _, rfl⟩, PA5.less (by omega), tb5, R5, hrow5, rowp, ?_, by rw [List.length_map]; omega, hod5, .inl ⟨rfl, pr5⟩⟩
        exact row_tri pr5
      · rintro j y σ H60 H6 hj ⟨rw_, es, ps, ⟨v6, v7, v8, v9, v10, v11, v12, v13, v14, rfl⟩, PA6, tb6, R6, hrw6, rwp, pr6, el, hod6, alt⟩ ⟨rfl, rfl⟩
        have eb : n + 10 + 2 * (2 - j) = (n + 10 + 2 * (2 - (j + 1))) + 1 + 1 := by omega
        rw [eb] at PA6
        generalize n + 10 + 2 * (2 - (j + 1)) = m at PA6 ⊢
        have epl := pair_len pr6
        refine ⟨_, rfl, _, rfl, rw_, _, rfl, .inl (SqL.of hrw6), _, _, rfl, rfl, p, l, ns, m + 1, _, rfl, PA6, by rw [List.length_map]; omega, by rw [List.length_map]; omega, fun at_ H7 a0 a1 PA7 fr7 => ?_⟩
        obtain ⟨k, rfl⟩ : ∃ k : Nat, at_ = k := ⟨at_.toNat, by omega⟩
        have kl : k ≤ (ps.map V.ref).length := by omega
        have kp : k ≤ ps.length := by rw [List.length_map] at kl; exact kl
        have R7 := R6.mv PA6.pl (Mv.ofFr fr7)
        have tb7 := tabs_fr tb6 PA6.pl fr7
        have hrw7 := fr7 _ _ hrw6 rwp
        have hod7 := fr7 _ _ hod6 odp
        have pr7 := pair_imp pr6 fun _ _ z => z.mv PA6.pl (Mv.ofFr fr7)
        have alt7 : (es = qs.map triC ∧ Paired (RowQ H7 p row) ps qs) ∨ ∃ e ∈ es, letN e.1 = false := alt.imp (fun z => ⟨z.1, pair_imp z.2 fun _ _ y => y.mv PA6.pl (.inl rfl) (Mv.ofFr fr7)⟩) id
        clear R6 tb6 hrw6 hod6 pr6 alt PA6 fr7
        refine ⟨_, rfl, _, rfl, _, rfl, rw_, _, rfl, SqL.of hrw7, fun a1 na1 => ⟨_, rfl, _, rfl, p, l, ky, ns, m, kv, rfl, PA7.new na1, ?_, kvl0, by rw [kvl]; decide, fun H' f => ?_, fun v H8 hv PA8 fr8 => ?_⟩⟩
        · exact SqL.of (by rw [upd_ne (ne_of_none R7.hky na1)]; exact R7.hky)
        · exact SqL.of (f _ _ (by rw [upd_ne (ne_of_none R7.hky na1)]; exact R7.hky) R7.kyp)
        rw [cut_lo _ kl] at fr8
        have sa := same_put (s := Same.refl H7) (o := .lst ((ps.map V.ref).take k)) na1
        have P8 := pen_ext PA7 (ExtN.of sa)
        have R8 := (R7.mv PA7.pl (Mv.ofSame sa)).mv P8.pl (Mv.ofFr fr8)
        have tb8 := tabs_fr (tb7.ext sa) P8.pl fr8
        have hrw8 := fr8 _ _ (sa _ _ hrw7) rwp
        have hod8 := fr8 _ _ (sa _ _ hod7) odp
        have ha8 := fr8 _ _ (show upd H7 a1 (.lst ((ps.map V.ref).take k)) a1 = _ from upd_same) (PA7.nep na1)
        have pr8 := pair_imp pr7 fun _ _ z => (z.same sa).mv P8.pl (Mv.ofFr fr8)
        clear R7 tb7 hrw7 hod7 pr7 alt7 PA7 P8 sa fr8 na1
        obtain ⟨kk, kvv, kh, kb0, kc⟩ := R8.kok v hv
        have kb : letN kk = false := by rw [← letN_of kvv]; exact kb0
        refine ⟨by show 1 ≤ sizeLine; decide, fun tv ntv => ?_⟩
        have stv := same_put (s := Same.refl H8) (o := .tup [.int 1]) ntv
        have PA8' := pen_ext PA8 (ExtN.of stv)
        have R8' := R8.mv PA8.pl (Mv.ofSame stv)
        have tb8' := tb8.ext stv
        have hrw8' := stv _ _ hrw8
        have hod8' := stv _ _ hod8
        have ha8' := stv _ _ ha8
        have pr8' := pair_imp pr8 fun _ _ z => z.same stv
        have kvv' := kvv.same stv
        have kh' := kh.same stv
        generalize upd H8 tv (.tup [.int 1]) = H9 at PA8' R8' tb8' hrw8' hod8' ha8' pr8' kvv' kh' ⊢
        clear stv PA8 R8 tb8 hrw8 hod8 ha8 pr8 kvv kh ntv
        refine ⟨by show 2 ≤ sizeLine; decide, fun pa npa => ⟨by show 1 ≤ sizeLine; decide, fun l1 nl1 => ⟨a1, l1, (ps.map V.ref).take k, [.ref pa], rfl, rfl, ?_, upd_same, ?_, fun a2 na2 => ?_⟩⟩⟩
        · rw [upd_ne (ne_of_none (show upd H9 pa (.tup [v, .ref tv]) a1 = _ by rw [upd_ne (ne_of_none ha8' npa)]; exact ha8') nl1), upd_ne (ne_of_none ha8' npa)]
          exact ha8'
        · rw [List.length_take, List.length_map, sizeLine_eq]
          show _ + 1 ≤ _
          omega
        have sb := same_put (s := Same.refl H9) (o := .tup [v, .ref tv]) npa
        have hpa : upd H9 pa (.tup [v, .ref tv]) pa = _ := upd_same
        have sc := same_put (s := sb) (o := .lst [V.ref pa]) nl1
        have sc' := same_put (s := Same.refl _) (o := .lst [V.ref pa]) nl1
        have sd := same_put (s := sc) (o := .lst ((ps.map V.ref).take k ++ [.ref pa])) na2
        have sd' := same_put (s := Same.refl _) (o := .lst ((ps.map V.ref).take k ++ [.ref pa])) na2
        have hpa2 := sd' _ _ (sc' _ _ hpa)
        have ha2 : upd (upd (upd H9 pa (.tup [v, .ref tv])) l1 (.lst [V.ref pa])) a2 (.lst ((ps.map V.ref).take k ++ [.ref pa])) a2 = _ := upd_same
        refine ⟨_, rfl, _, rfl, _, rfl, rw_, _, rfl, SqL.of (sd _ _ hrw8'), fun a3 na3 => ?_⟩
        have se := same_put (s := sd) (o := .lst (cutV (ps.map V.ref) (some ((k : Nat) : Int)) none)) na3
        have se' := same_put (s := Same.refl _) (o := .lst (cutV (ps.map V.ref) (some ((k : Nat) : Int)) none)) na3
        have ha3 := se' _ _ ha2
        have hpa3 := se' _ _ hpa2
        refine ⟨a2, a3, (ps.map V.ref).take k ++ [.ref pa], cutV (ps.map V.ref) (some ((k : Nat) : Int)) none, rfl, rfl, ha3, upd_same, ?_, fun a4 na4 => ?_⟩
        · rw [cut_hi _ kl, List.length_append, List.length_take, List.length_drop, List.length_map, sizeLine_eq]
          show _ + 1 + _ ≤ _
          omega
        have sf := same_put (s := se) (o := .lst ((ps.map V.ref).take k ++ [.ref pa] ++ cutV (ps.map V.ref) (some ((k : Nat) : Int)) none)) na4
        have sf' := same_put (s := Same.refl _) (o := .lst ((ps.map V.ref).take k ++ [.ref pa] ++ cutV (ps.map V.ref) (some ((k : Nat) : Int)) none)) na4
        have hpa4 := sf' _ _ hpa3
        have esl : k ≤ es.length := by omega
        refine ⟨a4, es.take k ++ [(kk, v, .ref tv)] ++ es.drop k, ps.take k ++ [pa] ++ ps.drop k, ⟨_, _, _, _, _, _, _, _, _, rfl⟩, pen_ext PA8' (ExtN.of sf), tb8'.ext sf, R8'.mv PA8'.pl (Mv.ofSame sf), ?_, ?_, ?_, ?_, sf _ _ hod8', .inr ⟨(kk, v, .ref tv), List.mem_append_left _ (List.mem_append_right _ List.mem_cons_self), kb⟩⟩
        · rw [upd_same, cut_hi _ kl, List.map_append, List.map_append, List.map_take, List.map_drop]
          rfl
        · exact (pen_ext PA8' (ExtN.of se)).nep na4
        · have pr9 := pair_imp pr8' fun _ _ z => z.same sf
          exact pair_app (pair_app (pair_take pr9 k) (.cons ⟨hpa4, kvv'.same sf, kh'.same sf, kc⟩ .nil)) (pair_drop pr9 k)
        · rw [List.length_append, List.length_append, List.length_take, List.length_drop]
          show min k es.length + 1 + (es.length - k) ≤ _
          omega
      · rintro σ H6 ⟨rw_, es, ps, ⟨v6, v7, v8, v9, v10, v11, v12, v13, v14, rfl⟩, PA6, tb6, R6, hrw6, rwp, pr6, el, hod6, alt⟩
        -- the dict
        refine ⟨_, rfl, rw_, ps, es, rfl, SqL.of hrw6, pair_imp pr6 fun _ _ z => ⟨SqT.of z.1, z.2.1⟩, fun D nD => ⟨by show 2 ≤ sizeLine; decide, fun t0 n0 => ⟨t0, _, rfl, .inl (.inl upd_same), rfl, _, _, rfl, _, _, rfl, rfl, ?_⟩⟩⟩
        replace n0 : (upd H6 D (MixO w D (putAll [] es))) t0 = none := n0
        show Ends.nx _ _ (upd (upd H6 D (MixO w D (putAll [] es))) t0 (.tup [.ref D, .non]))
        have PA6' : PenAt H6 p l ns n := PA6.less (by omega)
        have mD : MixD w (upd H6 D (MixO w D (putAll [] es))) D (putAll [] es) := ⟨upd_same, fun e he => by
          obtain ⟨e2, h2, z1, z2⟩ := putAll_key es [] e he
          obtain ⟨pa, _, r⟩ := pair_left pr6 e2 h2
          rw [z1, z2]
          exact r.2.1.same (same_put (s := Same.refl H6) nD)⟩
        have hks : ∀ e ∈ putAll [] es, Held (upd H6 D (MixO w D (putAll [] es))) e.2.1 (dKe e) ∧ (dKe e).canLay0 = true := fun e he => by
          obtain ⟨e2, h2, z1, z2⟩ := putAll_key es [] e he
          obtain ⟨pa, _, r⟩ := pair_left pr6 e2 h2
          rw [show dKe e = dKe e2 from by unfold dKe; rw [z1, z2], z2]
          exact ⟨r.2.2.1.same (same_put (s := Same.refl H6) nD), r.2.2.2⟩
        have kl : (putAll [] es).length ≤ 30 := by
          have z := putAll_len es []
          rw [List.length_nil] at z
          omega
        have sD := same_put (s := Same.refl H6) (o := MixO w D (putAll [] es)) nD
        have PA7 := pen_ext PA6' (ExtN.of sD)
        have tb7 := tb6.ext sD
        have th7 := tb6.ext (hide_new (o := MixO w D (putAll [] es)) nD)
        have hod7 := sD _ _ hod6
        have alt7 : (es = qs.map triC ∧ Paired (RowQ (upd H6 D (MixO w D (putAll [] es))) p row) ps qs) ∨ ∃ e ∈ es, letN e.1 = false := alt.imp (fun z => ⟨z.1, pair_imp z.2 fun _ _ y => y.same sD⟩) id
        obtain ⟨kvs, ekv⟩ : ∃ kvs, kvs = putAll [] es := ⟨_, rfl⟩
        rw [← ekv] at mD hks kl PA7 tb7 th7 hod7 alt7 n0 ⊢
        generalize upd H6 D (MixO w D kvs) = H7 at mD hks PA7 tb7 th7 hod7 alt7 n0 ⊢
        clear sD PA6 PA6' tb6 R6 hrw6 pr6 hod6 alt nD
        have s8 := same_put (s := Same.refl H7) (o := .tup [.ref D, .non]) n0
        have mD8 := mD.same s8
        have hk8 : ∀ e ∈ kvs, Held (upd H7 t0 (.tup [.ref D, .non])) e.2.1 (dKe e) ∧ (dKe e).canLay0 = true := fun e he => ⟨(hks e he).1.same s8, (hks e he).2⟩
        have PA8 := pen_ext PA7 (ExtN.of s8)
        have tb8 := tb7.ext s8
        have th8 := th7.ext (hide_same (D := D) s8)
        have hod8 := s8 _ _ hod7
        have alt8 : (es = qs.map triC ∧ Paired (RowQ (upd H7 t0 (.tup [.ref D, .non])) p row) ps qs) ∨ ∃ e ∈ es, letN e.1 = false := alt7.imp (fun z => ⟨z.1, pair_imp z.2 fun _ _ y => y.same s8⟩) id
        generalize upd H7 t0 (.tup [.ref D, .non]) = H8 at mD8 hk8 PA8 tb8 th8 hod8 alt8 ⊢
        clear s8 mD hks PA7 tb7 th7 hod7 alt7 n0
        -- the bad keys
        refine ⟨D, _, mD8.at_, True.intro, fun oo => ⟨_, rfl, D, oo, kvs, rfl, upd_same, fun B nB => lc_it (walk_keysM (w := w) (d := D) (o := oo) (kvs := kvs)) (fun i H9 => H9 = upd (upd H8 D (.frz oo (MixO w D kvs))) B (.lst (badK (kvs.take i)))) rfl ?_ ?_ ?_⟩⟩
        · rintro i H9 hi rfl
          rw [upd_ne (ne_of_none upd_same nB)]
          exact upd_same
        · rintro i y H9 H10 hi rfl ⟨rfl, kk, vv, hk⟩
          obtain ⟨hh, hl⟩ := hk8 _ (List.mem_of_getElem? hk)
          have nn : ∀ b, y = .ref b → b ≠ D := fun b e z => by
            have kv := mD8.keys _ (List.mem_of_getElem? hk)
            dsimp only at kv
            rw [e] at kv
            obtain ⟨xs, hx⟩ := keyV_ref kv
            rw [z, mD8.at_] at hx
            cases hx
          have hh2 : Held (upd H8 D (.frz oo (MixO w D kvs))) y (dKv kk y) := held_move hh fun b o e h => by rw [upd_ne (nn b e)]; exact h
          have hh3 := hh2.same (same_put (s := Same.refl _) (o := .lst (badK (kvs.take i))) nB)
          have et : badK (kvs.take (i + 1)) = badK (kvs.take i) ++ (if (!letD (dKv kk y)) = true then [y] else []) := by
            unfold badK
            rw [List.take_add_one, hk, List.filter_append, List.map_append]
            congr 1
            show (List.filter _ [(kk, y, vv)]).map _ = _
            rw [List.filter_cons]
            cases letD (dKv kk y) <;> rfl
          refine ⟨rfl, viaT (fun bb HH => bb = !letD (dKv kk y) ∧ HH = upd (upd H8 D (.frz oo (MixO w D kvs))) B (.lst (badK (kvs.take i)))) (fun R' hR => ?_) (fun bb HH z => ?_)⟩
          · rcases pw_kind (K := K) hh3.pw with ⟨z, rfl, ed⟩ | ⟨wn, t, ty, kt⟩
            · have hz : z.length ≤ sizeLine := by
                have := (hh3.ni.tx z ed).1
                rw [sizeLine_eq]
                omega
              refine ⟨_, rfl, _, .ty "str", .type "str", .type "str", true, rfl, .ty _, ty_str _, kit_ty (by decide +kernel), true, rfl, iteF ?_⟩
              refine ⟨_, rfl, _, rfl, hz, rfl, _, rfl, ?_⟩
              by_cases h1 : z.length = 1
              · rw [show (!decide (V.int ((z.length : Nat) : Int) = V.int 1)) = false from by rw [h1]; rfl]
                refine iteF ?_
                have h2 := h1
                rw [← len_self] at h2
                obtain ⟨cc, ec⟩ : ∃ cc, z = L1 cc := by
                  match e : z.cps.toList, h2 with
                  | [c], _ => exact ⟨c, by rw [← Sx_self z, e]; rfl⟩
                subst ec
                have le : letD (dKv kk (V.str (L1 cc))) = decide (isLt cc) := by
                  rw [ed]
                  rw [Bool.eq_iff_iff, decide_eq_true_iff]
                  exact ⟨fun h => by
                    obtain ⟨c2, h3, e3⟩ := word_let.mp h
                    rw [L1_inj e3]
                    exact abc_mem.mp h3, fun h => let_letD h⟩
                have ea : (Str.ofString "a") = L1 97 := by decide +kernel
                have eze : (Str.ofString "z") = L1 122 := by decide +kernel
                refine ⟨_, rfl, _, _, rfl, rfl, _, rfl, ?_⟩
                rw [ea, lt_one]
                by_cases c1 : cc < 97
                · rw [decide_eq_true c1]
                  refine iteF ⟨_, rfl, hR _ _ ⟨?_, rfl⟩⟩
                  rw [le, decide_eq_false (by unfold isLt; omega)]
                · rw [decide_eq_false c1]
                  refine iteT ⟨_, _, rfl, rfl, _, rfl, hR _ _ ⟨?_, rfl⟩⟩
                  have e3 : decide (isLt cc) = !decide (122 < cc) := by
                    by_cases c2 : 122 < cc
                    · rw [decide_eq_true c2, decide_eq_false (by unfold isLt; omega)]
                      rfl
                    · rw [decide_eq_false c2, decide_eq_true (by unfold isLt; omega)]
                      rfl
                  rw [eze, lt_one, le, e3]
              · rw [show (!decide (V.int ((z.length : Nat) : Int) = V.int 1)) = true from by
                  rw [decide_eq_false fun e => h1 (by have := V.int.inj e; omega)]
                  rfl]
                refine iteT (hR _ _ ⟨?_, rfl⟩)
                have le : letD (dKv kk (V.str z)) = false := by
                  rw [ed]
                  cases e : letD (.str z) with
                  | false => rfl
                  | true =>
                    obtain ⟨c2, _, rfl⟩ := word_let.mp e
                    exact absurd rfl h1
                rw [le]
                rfl
            · refine ⟨_, rfl, _, .ty "str", t, .type "str", false, rfl, .ty _, ty, kt, false, rfl, iteT (hR _ _ ⟨?_, rfl⟩)⟩
              rw [show letD (dKv kk y) = false from wn 1 1]
              rfl
          obtain ⟨rfl, rfl⟩ := z
          cases eb : letD (dKv kk y) with
          | true =>
            refine iteF ?_
            rw [et, eb]
            show _ = upd _ B (.lst (badK (kvs.take i) ++ []))
            rw [List.append_nil]
          | false =>
            refine iteT ⟨_, rfl, badK (kvs.take i), upd_same, ?_, ?_⟩
            · unfold badK
              rw [List.length_map, sizeLine_eq]
              have z := List.length_filter_le (fun e : TriV => !letD (dKe e)) (kvs.take i)
              rw [List.length_take] at z
              omega
            · rw [upd_upd, et, eb]
              rfl
        rintro H9 rfl
        have dB : D ≠ B := ne_of_none upd_same nB
        rw [List.take_of_length_le (Nat.le_refl _)]
        refine ⟨by rw [upd_ne dB]; exact upd_same, ?_⟩
        rw [frz_back mD8.at_ dB]
        have nB0 : H8 B = none := by
          rw [upd_ne (Ne.symm dB)] at nB
          exact nB
        have s9 := same_put (s := Same.refl H8) (o := .lst (badK kvs)) nB0
        have mD9 := mD8.same s9
        have hk9 : ∀ e ∈ kvs, Held (upd H8 B (.lst (badK kvs))) e.2.1 (dKe e) ∧ (dKe e).canLay0 = true := fun e he => ⟨(hk8 e he).1.same s9, (hk8 e he).2⟩
        have PA9 := pen_ext PA8 (ExtN.of s9)
        have tb9 := tb8.ext s9
        have th9 := th8.ext (hide_same (D := D) s9)
        have hod9 := s9 _ _ hod8
        have alt9 : (es = qs.map triC ∧ Paired (RowQ (upd H8 B (.lst (badK kvs))) p row) ps qs) ∨ ∃ e ∈ es, letN e.1 = false := alt8.imp (fun z => ⟨z.1, pair_imp z.2 fun _ _ y => y.same s9⟩) id
        have hB9 : upd H8 B (.lst (badK kvs)) B = some (.lst (badK kvs)) := upd_same
        generalize upd H8 B (.lst (badK kvs)) = H9 at mD9 hk9 PA9 tb9 th9 hod9 alt9 hB9 ⊢
        clear s9 mD8 hk8 PA8 tb8 th8 hod8 alt8 nB nB0 dB
        refine ⟨_, rfl, Nat.zero_le _, fun z nz => ⟨B, z, badK kvs, rfl, rfl, ?_, SqL.of upd_same, ?_⟩⟩
        · exact SqL.of (by rw [upd_ne (ne_of_none hB9 nz)]; exact hB9)
        have sz := same_put (s := Same.refl H9) (o := .lst []) nz
        have mDa := mD9.same sz
        have hka : ∀ e ∈ kvs, Held (upd H9 z (.lst [])) e.2.1 (dKe e) ∧ (dKe e).canLay0 = true := fun e he => ⟨(hk9 e he).1.same sz, (hk9 e he).2⟩
        have PAa := pen_ext PA9 (ExtN.of sz)
        have tba := tb9.ext sz
        have tha := th9.ext (hide_same (D := D) sz)
        have hoda := sz _ _ hod9
        have hBa := sz _ _ hB9
        have alta : (es = qs.map triC ∧ Paired (RowQ (upd H9 z (.lst [])) p row) ps qs) ∨ ∃ e ∈ es, letN e.1 = false := alt9.imp (fun z => ⟨z.1, pair_imp z.2 fun _ _ y => y.same sz⟩) id
        generalize upd H9 z (.lst []) = Ha at mDa hka PAa tba tha hoda hBa alta ⊢
        clear sz mD9 hk9 PA9 tb9 th9 hod9 hB9 alt9 nz
        cases ebk : badK kvs with
        | cons a r =>
          obtain ⟨e, he, ea, fd⟩ := badK_cons ebk
          obtain ⟨ha, _⟩ := hka e he
          rw [ea] at ha
          rw [ebk] at hBa
          refine ⟨true, rfl, iteT ⟨_, rfl, B, _, _, _, rfl, rfl, SqL.of hBa, atI_nat (j := 0) rfl, a, dKe e, rfl, ha.pw, ha.ni.te, by show 2 ≤ sizeLine; decide, fun tc ntc => ?_⟩⟩
          have sc := same_put (s := Same.refl Ha) (o := .tup [.str "letter", .str (dKe e).shown]) ntc
          have htc : upd Ha tc (.tup [.str "letter", .str (dKe e).shown]) tc = _ := upd_same
          have mDc := mDa.same sc
          have PAc := pen_ext PAa (ExtN.of sc)
          have tbc := tba.ext sc
          have bok : BadOk (.one 1 (dKe e)) := ⟨by decide, ha.ni⟩
          show Ends.nx _ _ (upd Ha tc (.tup [.str "letter", .str (dKe e).shown]))
          have hkc : ∀ e2 ∈ kvs, Held (upd Ha tc (.tup [.str "letter", .str (dKe e).shown])) e2.2.1 (dKe e2) ∧ (dKe e2).canLay0 = true := fun e2 he2 => ⟨(hka e2 he2).1.same sc, (hka e2 he2).2⟩
          generalize upd Ha tc (.tup [.str "letter", .str (dKe e).shown]) = Hc at htc hkc mDc PAc tbc ⊢
          clear sc mDa hka PAa tba hoda hBa alta ntc
          refine heard_end (some (.one 1 (dKe e))) (fun _ _ => False) tbc (fun H10 E2 R e10 tb10 hE hR => ?_) (fun v H10 e10 tb10 hv => ?_)
          · exact ⟨_, rfl, .ref D, rfl, .inr (.inr (.inl ⟨D, _, _, rfl, tabM_of (mix_ext mDc e10) (fun e2 he2 => ⟨held_ext (hkc e2 he2).1 e10, (hkc e2 he2).2⟩) kl, fd, hE _ bok rfl⟩))⟩
          have hv : HrB H10 v (.one 1 (dKe e)) := hv
          have htc10 := e10 _ _ htc (fun _ z => nomatch z)
          refine ⟨_, rfl, rfl, true, rfl, iteT ⟨_, rfl, _, rfl, eq_same (hrB_dp hv) (.tup (.inl (.inl htc10)) (dp_strs ["letter", (dKe e).shown])) (wd_shaped bok) (q _ (pen_ext PAc e10) tb10)⟩⟩
        | nil =>
          have good := badK_nil ebk
          obtain ⟨ees, prq⟩ : es = qs.map triC ∧ Paired (RowQ Ha p row) ps qs := by
            rcases alta with z | ⟨e, he, w0⟩
            · exact z
            · exfalso
              have m := putAll_has es [] e.1 (List.mem_map.mpr ⟨e, he, rfl⟩)
              rw [← ekv] at m
              obtain ⟨e2, h2, z2⟩ := List.mem_map.mp m
              have g2 := good e2 h2
              rw [letN_of (mDa.keys e2 h2), z2, w0] at g2
              cases g2
          have qnd : (qs.map (·.1)).Nodup := by
            rw [eqd]
            exact dnd
          have qrg : ∀ q ∈ qs, isLt q.1 := fun q hq => by
            have m : q.1 ∈ qs.map (·.1) := List.mem_map.mpr ⟨q, hq, rfl⟩
            rw [eqd] at m
            exact dlt _ m
          have ekn : kvs = txM (qs.map prC) := by
            rw [ekv, ees, triC_tx]
            refine putAll_nd _ [] ?_
            show (List.map _ (txM _)).Nodup
            rw [txM_keys, List.map_map]
            rw [List.nodup_iff_pairwise_ne, List.pairwise_map] at qnd ⊢
            exact qnd.imp fun ne z => ne (L1_inj (NestedKey.text.inj z))
          have hqv : ∀ q ∈ qs, Held Ha q.2.1 q.2.2 ∧ ((codeD q.2.2 = true ∧ q.2.2 = codeDt [1, 2]) ∨ codeD q.2.2 = false) := fun q hq => by
            obtain ⟨pa, _, r⟩ := pair_left prq q hq
            exact ⟨r.2.1, r.2.2.2⟩
          have hDa := mDa.at_
          rw [ekn] at hDa
          clear alta good prq ebk mDa hka
          refine ⟨false, rfl, iteF ⟨_, rfl, Nat.zero_le _, fun z2 nz2 => .inr ⟨D, qs.map prC, ?_, od, z2, lets (oddC qs), rfl, rfl, ?_, ?_, ?_⟩⟩⟩
          · rw [upd_ne (ne_of_none hDa nz2)]
            exact hDa
          · refine SqL.of ?_
            rw [upd_ne (ne_of (show upd Ha z2 (.lst []) od = some (.lst (lets (oddC qs))) by rw [upd_ne (ne_of_none hoda nz2)]; exact hoda) (show upd Ha z2 (.lst []) D = some (MixO w D _) by rw [upd_ne (ne_of_none hDa nz2)]; exact hDa) (fun z => nomatch z)), upd_ne (ne_of_none hoda nz2)]
            exact hoda
          · refine SqL.of ?_
            rw [upd_ne (ne_of (show upd Ha z2 (.lst []) z2 = some (.lst []) from upd_same) (show upd Ha z2 (.lst []) D = some (MixO w D _) by rw [upd_ne (ne_of_none hDa nz2)]; exact hDa) (fun z => nomatch z))]
            exact upd_same
          have hDz : upd Ha z2 (.lst []) D = some (MixO w D (txM (qs.map prC))) := by rw [upd_ne (ne_of_none hDa nz2)]; exact hDa
          have sz := same_put (s := Same.refl Ha) (o := .lst []) nz2
          have PAb := pen_mix (o := .dK (txK (qs.map prC))) (pen_ext PAa (ExtN.of sz)) hDz
          have tbb := (tha.ext (hide_same (D := D) sz)).ext (hide_put (o := .dK (txK (qs.map prC))))
          have hqb : ∀ q ∈ qs, Held (upd (upd Ha z2 (.lst [])) D (.dK (txK (qs.map prC)))) q.2.1 q.2.2 := fun q hq => held_mix ((hqv q hq).1.same sz) hDz
          have hDb : upd (upd Ha z2 (.lst [])) D (.dK (txK (qs.map prC))) D = some (.dK (txK (qs.map prC))) := upd_same
          have hodb : upd (upd Ha z2 (.lst [])) D (.dK (txK (qs.map prC))) od = some (.lst (lets (oddC qs))) := by
            rw [upd_ne (ne_of (sz _ _ hoda) hDz (fun z => nomatch z))]
            exact sz _ _ hoda
          generalize upd (upd Ha z2 (.lst [])) D (.dK (txK (qs.map prC))) = Hb at PAb tbb hqb hDb hodb ⊢
          clear sz hDz hDa nz2 hoda tba PAa
          cases eod : oddC qs with
          | cons m0 mr =>
            have l5 : (m0 :: mr).length ≤ 5 := by
              rw [← eod]
              unfold oddC
              rw [List.length_map]
              exact Nat.le_trans (List.length_filter_le ..) eql
            rw [eod] at hodb
            refine ⟨true, rfl, iteT ⟨_, rfl, _, rfl, od, rfl, ⟨_, SqL.of hodb⟩, fun C nC => lc_it (walk_list (K := K) (a := od) (xs := lets (m0 :: mr))) (fun i H2 => H2 = upd Hb C (.lst ((lets (m0 :: mr)).take i))) rfl ?_ ?_ ?_⟩⟩
            · rintro i H2 hi rfl
              exact SqL.of (by rw [upd_ne (ne_of_none hodb nC)]; exact hodb)
            · rintro i x H2 H3 hi rfl ⟨rfl, hx⟩
              obtain ⟨hi', rfl⟩ := lets_get hx
              refine ⟨rfl, _, rfl, _, rfl, _, upd_same, ?_, ?_⟩
              · rw [List.length_take, lets_len, sizeLine_eq]
                omega
              · rw [upd_upd, List.take_add_one, hx]
                rfl
            rintro H2 rfl
            rw [List.take_of_length_le (Nat.le_refl _)]
            have sC := same_put (s := Same.refl Hb) (o := .lst (lets (m0 :: mr))) nC
            refine ⟨C, (m0 :: mr).map L1, rfl, SqL.of (by rw [upd_same, List.map_map]; rfl), by rw [List.length_map]; omega, fun ys S hp hs nS => ?_⟩
            have sS := same_put (s := sC) (o := .lst (ys.map V.str)) nS
            obtain ⟨zs, rfl, hz⟩ := un_map hp
            have hpw := sorted_pw zs hs
            cases zs with
            | nil => exact absurd hz.length_eq (by simp)
            | cons m rest =>
              rw [← eod] at hz
              obtain ⟨q0, hq0, em, told⟩ := told_odd qnd qrg hz hpw
              refine ⟨_, _, _, _, rfl, rfl, SqL.of upd_same, atI_nat (j := 0) rfl, ?_⟩
              have hDs := sS _ _ hDb
              have hqs : ∀ q ∈ qs, Held (upd (upd Hb C (.lst (lets (m0 :: mr)))) S (.lst (((m :: rest).map L1).map V.str))) q.2.1 q.2.2 := fun q hq => (hqb q hq).same sS
              have PAs := pen_ext PAb (ExtN.of sS)
              have tbs := tbb.ext sS
              have vq : valV (txK (qs.map prC)) (kL m) = some q0.2.1 := by
                rw [← em]
                exact valV_tx qnd hq0
              refine ⟨D, q0.2.1, rfl, .inl ⟨_, kL m, .inl hDs, rfl, vq.symm⟩, q0.2.1, q0.2.2, rfl, (hqs q0 hq0).pw, (hqs q0 hq0).ni.te, by show 2 ≤ sizeLine; decide, fun tc ntc => ?_⟩
              replace ntc : (upd (upd Hb C (.lst (lets (m0 :: mr)))) S (.lst (((m :: rest).map L1).map V.str))) tc = none := ntc
              show Ends.nx _ _ (upd (upd (upd Hb C (.lst (lets (m0 :: mr)))) S (.lst (((m :: rest).map L1).map V.str))) tc (.tup [.str "code", .str q0.2.2.shown]))
              generalize upd (upd Hb C (.lst (lets (m0 :: mr)))) S (.lst (((m :: rest).map L1).map V.str)) = Hs at hDs hqs PAs tbs ntc ⊢
              have sT := same_put (s := Same.refl Hs) (o := .tup [.str "code", .str q0.2.2.shown]) ntc
              have hT : upd Hs tc (.tup [.str "code", .str q0.2.2.shown]) tc = some (.tup [.str "code", .str q0.2.2.shown]) := upd_same
              have PAt := pen_ext PAs (ExtN.of sT)
              have tbt := tbs.ext sT
              have hDt := sT _ _ hDs
              have hqt : ∀ q ∈ qs, Held (upd Hs tc (.tup [.str "code", .str q0.2.2.shown])) q.2.1 q.2.2 := fun q hq => (hqs q hq).same sT
              have bok : BadOk (.one 2 q0.2.2) := ⟨by decide, (hqs q0 hq0).ni⟩
              generalize upd Hs tc (.tup [.str "code", .str q0.2.2.shown]) = Ht at hT PAt tbt hDt hqt ⊢
              refine heard_end (some (.one 2 q0.2.2)) (fun _ _ => False) tbt (fun H10 E2 R e10 tb10 hE hR => ?_) (fun v H10 e10 tb10 hv => ?_)
              · exact ⟨_, rfl, .ref D, rfl, .inr (.inr (.inr (.inl ⟨D, dtC qs, _, rfl, tabA_of (e10 _ _ hDt (fun _ z => nomatch z)) (fun q hq => held_ext (hqt q hq) e10) qnd qrg (by omega), told, hE _ bok rfl⟩)))⟩
              have hv : HrB H10 v (.one 2 q0.2.2) := hv
              have hT10 := e10 _ _ hT (fun _ z => nomatch z)
              refine ⟨_, rfl, rfl, true, rfl, iteT ⟨_, rfl, _, rfl, eq_same (hrB_dp hv) (.tup (.inl (.inl hT10)) (dp_strs ["code", q0.2.2.shown])) (wd_shaped bok) (q _ (pen_ext PAt e10) tb10)⟩⟩
          | nil =>
            have hgood : ∀ q ∈ qs, isLt q.1 ∧ ∃ a, q.2.1 = .ref a ∧ Hb a = some (.tup (nums [1, 2])) := fun q hq => by
              refine ⟨qrg q hq, ?_⟩
              rcases (hqv q hq).2 with ⟨_, e⟩ | w0
              · exact code_of (by rw [← e]; exact (hqb q hq).pw)
              · have z := oddC_of hq w0
                rw [eod] at z
                exact absurd z List.not_mem_nil
            obtain ⟨B2, t, et, e1, tus, tl⟩ := tab_of qnd hgood
            have gt : GoodC t := ⟨by rw [e1]; exact qnd, fun z hz => (tl z hz).1, fun z hz => (tl z hz).2⟩
            rw [et] at hDb
            have cdb : CodA Hb D B2 t := ⟨hDb, tus, gt⟩
            refine ⟨false, rfl, iteF ?_⟩
            refine heard_end none (fun x H => ∃ xa, x = .ref xa ∧ WrU CW H xa B2 t) tbb (fun H10 E2 R e10 tb10 hE hR => ?_) (fun v H10 e10 tb10 hv => ?_)
            · exact ⟨_, rfl, .ref D, rfl, .inl ⟨D, B2, t, rfl, CodA.ext cdb e10, fun x H' nx wr s _ => hR rfl _ _ s fun H3 s3 => ⟨x, rfl, wr.same s3⟩⟩⟩
            obtain ⟨hl, x, rfl, hl10, xa, rfl, wr⟩ := hv
            refine ⟨_, rfl, rfl, false, rfl, iteF ?_⟩
            refine ⟨_, rfl, _, .ty "list", .type "list", .type "list", true, rfl, .ty _, .base (.lst hl10), kit_ty (by decide +kernel), ?_⟩
            refine ⟨true, rfl, iteT ⟨_, rfl, hl, _, _, _, rfl, rfl, SqL.of hl10, atI_nat (j := 0) rfl, _, rfl, xa, B2, t, D, B2, t, rfl, wr, CodA.ext cdb e10, fun c => rfl, fun H2 s2 => ?_⟩⟩
            exact q _ (pen_ext (pen_ext PAb e10) (ExtN.of s2)) (tb10.ext s2)
end
end V8

set_option Elab.async false
set_option linter.all false
set_option maxRecDepth 100000
set_option maxHeartbeats 8000000
set_option pp.maxSteps 900
/-! The law. -/
namespace V8
open PySem PySem.Spec PyProof.Rows L2 MX SetT LamX PySem.Builtin.Str
abbrev s_law : Stmt := topS 38
abbrev n_law : List Str := ["_law_script", "_law_pen_here", "_law_turn", "_law_some", "_law_codes_so", "_law_table", "_law_twin", "_law_kept", "_law_wide", "_law_none", "_law_odd", "_law_heard_here", "_law_at", "_law_one"]
theorem sc_law : FnScope ["_law_script", "_law_pen_here", "_law_turn", "_law_some", "_law_codes_so", "_law_table", "_law_twin", "_law_kept", "_law_wide", "_law_none", "_law_odd", "_law_heard_here", "_law_at", "_law_one"] ["_law_script"] (defScope s_law) := ⟨rfl, rfl, rfl, by decide +kernel, rfl, by decide +kernel, by decide +kernel⟩
theorem cutT (xs : List V) (k : Nat) : cutV xs none (some ((k : Nat) : Int)) = xs.take k := by
  unfold cutV
  rw [HT.sIx_none, List.drop_zero, HT.sIx_nat, Nat.sub_zero, ← List.take_eq_take_min]
theorem pen_dk {H : Hp} {d p l : Addr} {kvs : List (Key × V)} {o : HO} {ns : List Int} {n : Nat} (P : PenAt H p l ns n) (hd : H d = some (.dK kvs)) : PenAt (upd H d o) p l ns n := by
  obtain ⟨s, g, h1, _⟩ := P.here
  exact P.other (ne_of hd h1 (fun z => nomatch z)) (ne_of hd P.nums (fun z => nomatch z))
theorem pair_in {α β : Type} {R S : α → β → Prop} {xs : List α} {ys : List β} (h : Paired R xs ys) (i : ∀ x y, y ∈ ys → R x y → S x y) : Paired S xs ys := by
  induction h with
  | nil => exact .nil
  | cons r _ ih => exact .cons (i _ _ List.mem_cons_self r) (ih fun x y m => i x y (List.mem_cons_of_mem _ m))
/-- a table whose own dict is none of d -/
theorem WrU.off {C d x : Addr} {H H' : Hp} {A : Ad} {t : Tab} {kvs : List (Key × V)} (r : WrU C H x A t) (hd : H d = some (.dK kvs)) (wn : ∃ dx b, b ≠ d ∧ H x = some (.ins C dx (fW b)) ∧ H b = some (.dK (encC A (imsL abc t)))) (s : ∀ c u, H c = some u → c ≠ d → H' c = some u) : WrU C H' x A t := by
  obtain ⟨dx, b, nb, h1, h2⟩ := wn
  exact ⟨⟨dx, b, s _ _ h1 (ne_of h1 hd (fun z => nomatch z)), s _ _ h2 nb⟩, fun q hq => s _ _ (r.tu q hq) (ne_of (r.tu q hq) hd (fun z => nomatch z)), r.g⟩
/-! ### a table of all letters -/
def wS (c : Nat) : List Nat := [c - 97, 352 - c]
def tW : Tab := abc.map fun c => (c, wS c)
theorem tW_good : GoodC tW := by
  refine ⟨?_, fun q hq => ?_, fun q hq => ?_⟩
  · unfold tW
    rw [List.map_map]
    show (List.map (fun c => c) abc).Nodup
    rw [List.map_id']
    exact abc_nd
  · obtain ⟨c, hc, rfl⟩ := List.mem_map.mp hq
    exact abc_mem.mp hc
  · obtain ⟨c, hc, rfl⟩ := List.mem_map.mp hq
    obtain ⟨h1, h2⟩ := abc_mem.mp hc
    refine ⟨by show 1 ≤ 2; decide, by show 2 ≤ 4; decide, fun k hk => ?_⟩
    have hk : k ∈ [c - 97, 352 - c] := hk
    simp only [List.mem_cons, List.not_mem_nil, or_false] at hk
    omega
theorem abc_idx {i c : Nat} (h : abc[i]? = some c) : c = 97 + i ∧ i < 26 := by
  have z : ∀ i, i < 26 → abc[i]? = some (97 + i) := by decide +kernel
  have l : i < 26 := by
    have := (List.getElem?_eq_some_iff.mp h).1
    rw [abc_len] at this
    exact this
  rw [z i l] at h
  exact ⟨(Option.some.inj h).symm, l⟩
/-! ### no table -/
def OddS (p : Addr) (H : Hp) (v : V) : Prop := v = .non ∨ v = .int 0 ∨ v = .str "a" ∨ v = .bl true ∨ (∃ a, v = .ref a ∧ a ≠ p ∧ H a = some (.tup [])) ∨ ∃ a xs, v = .ref a ∧ a ≠ p ∧ H a = some (.lst xs)
theorem OddS.mv {p : Addr} {H H2 : Hp} {v : V} (o : OddS p H v) (m : Mv p H H2) : OddS p H2 v := by
  rcases o with h | h | h | h | ⟨a, e, n, h⟩ | ⟨a, xs, e, n, h⟩
  · exact .inl h
  · exact .inr (.inl h)
  · exact .inr (.inr (.inl h))
  · exact .inr (.inr (.inr (.inl h)))
  · exact .inr (.inr (.inr (.inr (.inl ⟨a, e, n, m _ _ h n (fun _ z => nomatch z)⟩))))
  · exact .inr (.inr (.inr (.inr (.inr ⟨a, xs, e, n, m _ _ h n (fun _ z => nomatch z)⟩))))
theorem nice_t0 : NiceD (.tuple []) := ⟨⟨by decide +kernel, by decide +kernel, by decide +kernel⟩, by decide +kernel, by decide +kernel, by decide +kernel, fun z e => nomatch e⟩
theorem OddS.rs {w : World} {Cz : Nat → Addr} {p : Addr} {H : Hp} {v : V} {E : XK} (o : OddS p H v) (x : OutB Cz H (.one 0 (.str "codes")) E) : rsC w Cz v H E := by
  rcases o with rfl | rfl | rfl | rfl | ⟨a, rfl, n, h⟩ | ⟨a, xs, rfl, n, h⟩
  · exact .inl ⟨_, held_non, rfl, x⟩
  · exact .inl ⟨_, held_int (nice_nat 0 (by decide)), rfl, x⟩
  · exact .inl ⟨_, held_str (by decide +kernel), rfl, x⟩
  · exact .inl ⟨_, held_bl true, rfl, x⟩
  · exact .inl ⟨.tuple [], ⟨.inr (.inl ⟨a, [], rfl, .inl h, by decide, fun y hy => absurd hy List.not_mem_nil⟩), .tup h .nil, nice_t0⟩, rfl, x⟩
  · exact .inr (.inr (.inr ⟨a, xs, rfl, h, x⟩))
theorem words_cd : wordsB (.one 0 (.str "codes")) = [("table" : Str), "'codes'"] := by decide +kernel
def spLaw (TL : List (Addr × Str)) (K : PySem.W.Frag) : Sp := fun vs H Q _ => ∃ (a : Addr) (ns : List Int), vs = [.ref a] ∧ SqL K H a (ns.map V.int) ∧ ns.length ≤ 63 ∧ Tabs TL H ∧ ∀ H2, Q (.bl true) H2
section
variable {P : Program} {w : World} {K : PySem.W.Frag} {mg : Str → Option Value} {base : Heap} {CW CE g c PT : Addr} {Cz : Nat → Addr} {TL : List (Addr × Str)}
theorem ok_law {f : Addr} {fd : FuncData} (F : FunC K "law" "law" s_law f c fd) (T : Tc K mg CW CE Cz) (sys : SysIn base) (D_pen : Df P w K mg base 1 "_law_pen" (spPen K)) (D_draw : Df P w K mg base 1 "_law_draw" spDraw) (D_pick : Df P w K mg base 2 "_law_pick" (spPick K))
    (D_letters : Df P w K mg base 2 "_law_letters" spLetters) (D_codes : Df P w K mg base 3 "_law_codes" spCodes) (D_tells : DfG P w K mg base CX0 10 "_law_tells" (spTells CW)) (D_texts_right : DfG P w K mg base CX0 12 "_law_texts_right" (spTexts TL CW)) (D_joined_right : DfG P w K mg base CX0 12 "_law_joined_right" (spJoined TL CW)) (D_refused_right : DfG P w K mg base CX0 12 "_law_refused_right" (spRefused TL))
    (D_mk : MkW P w K mg base CW Cz) (D_eqW : Mf P w K mg base 1 CW "__eq__" (spEqW K CW)) (D_callW : MfG P w K mg base (L2.CX P w) 6 CW "__call__" (spCaW CW Cz)) (D_lenW : Mf P w K mg base 1 CW "__len__" (spLenW CW))
    (D_heard : HearD K mg g) (TB : TabT base mg TL (("law" : Str) ++ ".<locals>.") c PT) : FnG P w K mg base CX0 13 f fd ["_law_script"] (spLaw TL K) := by
  refine F.okG sc_law (fun vs H Q E h => ?_) (fun A outer s H vs Q E quiet hr h => ?_)
  · obtain ⟨a, ns, rfl, _⟩ := h
    rfl
  · obtain ⟨a, ns, rfl, hS, hn0, tb0, q0⟩ := h
    refine ⟨_, (pss_cons (ps_set (i := 1) sc_law.nd rfl (.inl rfl) (pe_c D_pen hr (by decide) (by rfl) (pa_cons (pv 0) pa_nil)))
      (pss_cons (ps_for PassesOwn.never rfl (pi_range1 (by rfl) T.range (pa_cons pe_int pa_nil)) (pg_name (i := 2) sc_law.nd rfl (.inl rfl))
        (pss_cons (ps_set (i := 3) sc_law.nd rfl (.inl rfl) (pe_c D_letters hr (by decide) (by rfl) (pa_cons (pv 1) (pa_cons (pe_op op_add pe_int (pe_c D_draw hr (by decide) (by rfl) (pa_cons (pv 1) (pa_cons pe_int pa_nil)))) pa_nil))))
        (pss_cons (ps_set (i := 4) sc_law.nd rfl (.inl rfl) (pe_c D_codes hr (by decide) (by rfl) (pa_cons (pv 1) (pa_cons (pe_slice (sl_listK (K := K) rfl) (pv 3) (po_some pe_int) po_none) pa_nil))))
        (pss_cons (ps_par (i := 5) (j := 6) (by rfl) sc_law.nd rfl rfl (by decide) rfl rfl (pa_cons (pe_mkW (w := w) rfl D_mk quiet passL hr (by decide) (by rfl) (pa_cons (pv 4) pa_nil)) (pa_cons (pe_mkWK (w := w) rfl D_mk quiet passL hr (by decide) (by rfl) (pk_cons (pe_callTy call_dictD (by rfl) T.dict (by decide +kernel) (pa_cons (pv 4) pa_nil)) pk_nil)) pa_nil)) (by rfl))
        (pss_cons (ps_set (i := 7) sc_law.nd rfl (.inl rfl) (pe_callTy call_dictD (by rfl) T.dict (by decide +kernel) (pa_cons (pv 4) pa_nil)))
        (pss_cons (ps_dput (hu_of hr) (pv 4) pe_str pe_non rfl)
        (pss_cons (ps_if (PW.pt (pw_or (pt_not (pt_val (pe_cG D_tells quiet pass0 hr (by decide) (by rfl) (pa_cons (pv 5) (pa_cons (pv 7) pa_nil))))) (pw_or (pt_cmpR (op_neO D_eqW T.neW T.wD hr (by decide)) (pv 5) (pv 6) (nomark _)) (pw_or1 (pt_cmpR (op_eqO D_eqW hr (by decide)) (pv 5) (pv 7) (nomark _))))))
          (pss_one (ps_ret pe_bl))
          pss_nil)
        (pss_cons (ps_if (PW.pt (pw_or (pt_not (pt_val (pe_cG D_texts_right quiet pass0 hr (by decide) (by rfl) (pa_cons (pv 1) (pa_cons (pv 5) (pa_cons (pv 7) (pa_cons (pe_slice (sl_listK (K := K) rfl) (pv 3) po_none (po_some pe_int)) pa_nil))))))) (pw_or1 (pt_not (pt_val (pe_cG D_joined_right quiet pass0 hr (by decide) (by rfl) (pa_cons (pv 1) (pa_cons (pv 5) (pa_cons (pv 7) pa_nil)))))))))
          (pss_one (ps_ret pe_bl))
          pss_nil)
        (pss_one (ps_if (pt_not (pt_val (pe_cG D_refused_right quiet pass0 hr (by decide) (by rfl) (pa_cons (pv 1) (pa_cons (pe_slice (sl_listK (K := K) rfl) (pv 3) po_none (po_some pe_int)) pa_nil)))))
          (pss_one (ps_ret pe_bl))
          pss_nil))))))))))
      (pss_cons (ps_set (i := 8) sc_law.nd rfl (.inl rfl) (pe_callTy (call_dictP rfl) (by rfl) T.dict (by decide +kernel) (pa_cons (pe_lc (own := [("_law_at", 12), ("_law_one", 13)]) (g := gTup K 2 (gCons (gName 12) (gCons (gName 13) gNil))) (by rfl) sc_law.nd (pi_enumS (by rfl) T.enumerate (pa_cons pe_str pa_nil)) (blkOk_by (own := [("_law_at", 12), ("_law_one", 13)]) (N := n_law) (sc := defScope s_law) (by decide +kernel)) (fun _ _ _ _ _ => (pg_tup (by rfl) (pgs_cons (pg_name (i := 12) sc_law.nd rfl (.inl rfl)) (pgs_cons (pg_name (i := 13) sc_law.nd rfl (.inl rfl)) pgs_nil)))) (fun _ _ _ _ _ => pts_nil) (fun _ _ _ _ _ => (pe_tup (pa_cons (pv 13) (pa_cons (pe_tup (pa_cons (pv 12) (pa_cons (pe_op op_sub pe_int (pv 12)) pa_nil))) pa_nil))))) pa_nil)))
      (pss_cons (ps_if (pt_not (pt_val (pe_cG D_tells quiet pass0 hr (by decide) (by rfl) (pa_cons (pe_mkW (w := w) rfl D_mk quiet passL hr (by decide) (by rfl) (pa_cons (pv 8) pa_nil)) (pa_cons (pv 8) pa_nil)))))
        (pss_one (ps_ret pe_bl))
        pss_nil)
      (pss_cons (ps_set (i := 9) sc_law.nd rfl (.inl rfl) (pe_mkW (w := w) rfl D_mk quiet passL hr (by decide) (by rfl) (pa_cons pe_dnewK pa_nil)))
      (pss_cons (ps_set (i := 10) sc_law.nd rfl (.inr rfl) (pe_c D_pick hr (by decide) (by rfl) (pa_cons (pv 1) (pa_cons (pe_lst (pa_cons pe_non (pa_cons pe_int (pa_cons (pe_lst pa_nil) (pa_cons (pe_tup pa_nil) (pa_cons pe_str (pa_cons (pe_lst (pa_cons (pe_tup (pa_cons pe_str (pa_cons (pe_tup (pa_cons pe_int pa_nil)) pa_nil))) pa_nil)) (pa_cons pe_bl pa_nil)))))))) pa_nil))))
      (pss_cons (ps_set (i := 11) sc_law.nd rfl (.inl rfl) (pe_lst (pa_cons (pe_heardG (k := 8) T D_heard TB sys quiet hr (by decide) rfl rfl (by rfl) (lamS_by (sc := defScope s_law) (by decide +kernel)) (by rfl) (fun _ _ _ _ _ => rfl) (fun A2 o2 s2 H2 E2 f2 c2 quiet2 hr2 => (pe_mkW (w := w) rfl D_mk quiet2 (passTk (takes_of rfl rfl rfl rfl)) hr2 (by decide) (by rfl) (pa_cons (pv 10) pa_nil)))) (pa_cons (pe_lst (pa_cons (pe_callG (pv 9) D_callW quiet passL hr (by decide) (pa_cons pe_str pa_nil)) pa_nil)) (pa_cons (pe_lst (pa_cons (pe_callB (call_lenO D_lenW hr (by decide)) (by rfl) T.len (by decide +kernel) (pa_cons (pv 9) pa_nil)) pa_nil)) pa_nil)))))
      (pss_one (ps_ret (pe_and (pe_cmpR (op_eqDK (K := K) rfl hr.units) (pv 11) (pe_lst (pa_cons (pe_tup (pa_cons pe_str (pa_cons pe_str pa_nil))) (pa_cons (pe_lst (pa_cons (pe_tup pa_nil) pa_nil)) (pa_cons (pe_lst (pa_cons pe_int pa_nil)) pa_nil)))) (nomark _)) (pe_and (pe_cmpR (op_eqO D_eqW hr (by decide)) (pv 9) (pe_mkW (w := w) rfl D_mk quiet passL hr (by decide) (by rfl) (pa_cons pe_dnewK pa_nil)) (nomark _)) (pe_one (pe_cmpR (op_neO D_eqW T.neW T.wD hr (by decide)) (pv 9) (pe_mkW (w := w) rfl D_mk quiet passL hr (by decide) (by rfl) (pa_cons (pe_disp (pps_cons pe_str (pe_tup (pa_cons pe_int pa_nil)) pps_nil) (by rfl) (by rfl) (fun z => by cases z) (by decide)) pa_nil)) (nomark _)))))))))))))), ?_⟩
    -- the pen
    refine ⟨_, rfl, a, ns, rfl, hS, hn0, fun p l H1 np s1 PA1 => ?_⟩
    have tb1 := tb0.ext s1
    clear tb0 s1 np hS
    -- the turns
    refine ⟨_, rfl, by decide, by decide, for_it (walk_range (lo := 0) (n := 4)) (fun i σ H2 => (∃ v2 v3 v4 v5 v6 v7 v8 v9 v10 v11 v12 v13 : Option V, σ = [some (.ref a), some (.ref p), v2, v3, v4, v5, v6, v7, v8, v9, v10, v11, v12, v13]) ∧ PenAt H2 p l ns (20 + 1000 * (4 - i)) ∧ Tabs TL H2) ⟨⟨_, _, _, _, _, _, _, _, _, _, _, _, rfl⟩, PA1.less (by decide), tb1⟩ (fun _ _ _ _ _ => True.intro) ?_ ?_⟩
    · rintro i z σ H20 H2 hi ⟨⟨v2, v3, v4, v5, v6, v7, v8, v9, v10, v11, v12, v13, rfl⟩, PA2, tb2⟩ ⟨rfl, rfl⟩
      have hb : 20 + 1000 * (4 - i) = 20 + 1000 * (4 - (i + 1)) + 1000 := by omega
      rw [hb] at PA2
      generalize 20 + 1000 * (4 - (i + 1)) = n at PA2 ⊢
      refine ⟨_, rfl, _, rfl, p, l, ns, n + 999, 8, rfl, PA2, by decide, by decide, fun dv H3 d0 d1 PA3 fr3 => ⟨_, _, rfl, rfl, ?_⟩⟩
      have tb3 := tabs_fr tb2 PA2.pl fr3
      clear tb2 PA2 fr3
      refine ⟨p, l, ns, n + 900, (3 + dv).toNat, by rw [Int.toNat_of_nonneg (by omega)]; rfl, PA3.less (by omega), by omega, fun sl cs H4 c0 cnd isl PA4 fr4 nsl hsl => ?_⟩
      have slp : sl ≠ p := PA3.nep nsl
      have cs26 : cs.length ≤ 26 := by omega
      obtain ⟨s0, s1, cr, rfl⟩ : ∃ s0 s1 cr, cs = s0 :: s1 :: cr := by
        match cs, c0 with
        | s0 :: s1 :: cr, _ => exact ⟨s0, s1, cr, rfl⟩
        | [_], c0 =>
          have : (1 : Nat) = (3 + dv).toNat := c0
          omega
        | [], c0 =>
          have : (0 : Nat) = (3 + dv).toNat := c0
          omega
      have tb4 := tabs_fr tb3 PA3.pl fr4
      clear tb3 PA3 fr4 nsl c0
      -- codes of all but two
      refine ⟨_, rfl, _, rfl, _, rfl, sl, _, rfl, SqL.of hsl, fun sc nsc => ?_⟩
      rw [show cutV (lets (s0 :: s1 :: cr)) (some 2) none = lets cr from cut_hi (k := 2) _ (by rw [lets_len]; show 2 ≤ cr.length + 1 + 1; omega)]
      have sS := same_put (s := Same.refl H4) (o := .lst (lets cr)) nsc
      have hsc : upd H4 sc (.lst (lets cr)) sc = some (.lst (lets cr)) := upd_same
      have scp := PA4.nep nsc
      have PA5 := pen_ext PA4 (ExtN.of sS)
      have tb5 := tb4.ext sS
      have hsl5 := sS _ _ hsl
      generalize upd H4 sc (.lst (lets cr)) = H5 at hsc PA5 tb5 hsl5 ⊢
      clear sS PA4 tb4 hsl nsc
      have cr26 : cr.length ≤ 26 := by
        have : cr.length + 1 + 1 ≤ 26 := cs26
        omega
      have nd2 := (List.nodup_cons.mp cnd).2
      have s0n : s0 ∉ cr := fun z => (List.nodup_cons.mp cnd).1 (List.mem_cons_of_mem _ z)
      refine ⟨p, l, sc, ns, n + 700, cr, rfl, PA5.less (by omega), hsc, scp, (List.nodup_cons.mp nd2).2, cr26, fun c hc => isl c (List.mem_cons_of_mem _ (List.mem_cons_of_mem _ hc)), fun d B t H6 cd ks PA6 fr6 nd => ?_⟩
      have tb6 := tabs_fr tb5 PA5.pl fr6
      have hsl6 := fr6 _ _ hsl5 slp
      have ls0 : lookT t s0 = none := by
        cases e : lookT t s0 with
        | none => rfl
        | some z => exact absurd (ks _ (look_in e)) s0n
      have tl := cd.2.2.key
      clear hsc scp PA5 tb5 hsl5 fr6 nd2 nd
      have dsl : sl ≠ d := ne_of hsl6 cd.1 (fun z => nomatch z)
      -- the table, its twin, what is kept
      refine ⟨_, rfl, .ref d, rfl, .inl ⟨d, B, t, rfl, cd, fun x H7 nx wr s7 wn => ?_⟩⟩
      refine ⟨_, rfl, d, _, rfl, .inl (s7 _ _ cd.1), fun d2 nd2 => ⟨.ref d2, rfl, .inl ⟨d2, B, t, rfl, ?_, fun y H8 ny wry s8 wny => ?_⟩⟩⟩
      · exact ⟨upd_same, (cd.2.1.same s7).same (same_put (s := Same.refl H7) nd2), cd.2.2⟩
      have s78 : Same H7 H8 := fun b o e => s8 _ _ (same_put (s := Same.refl H7) (o := .dK (encC B t)) nd2 _ _ e)
      refine ⟨_, _, rfl, _, rfl, d, encC B t, rfl, .inl (s78 _ _ (s7 _ _ cd.1)), fun kp nkp => ?_⟩
      have sk := same_put (s := Same.refl H8) (o := .dK (encC B t)) nkp
      have hd9 := sk _ _ (s78 _ _ (s7 _ _ cd.1))
      have lt' : (encC B t).length < sizeLine := by
        rw [encC_len, sizeLine_eq]
        omega
      refine ⟨_, rfl, d, _, rfl, .inl ⟨_, Sum.inr "a", hd9, rfl, lt', rfl⟩, ?_⟩
      have s9 : ∀ c u, upd H8 kp (.dK (encC B t)) c = some u → c ≠ d → upd (upd H8 kp (.dK (encC B t))) d (.dK (putK (encC B t) (Sum.inr "a") V.non)) c = some u := fun c u e n => by
        rw [upd_ne n]
        exact e
      have kd : kp ≠ d := fun z => by
        have h8 := s78 _ _ (s7 _ _ cd.1)
        rw [← z, nkp] at h8
        cases h8
      have wr9 : WrU CW (upd (upd H8 kp (.dK (encC B t))) d (.dK (putK (encC B t) (Sum.inr "a") V.non))) x B t := by
        obtain ⟨dx, b, nb, h1, h2⟩ := wn
        exact ((wr.same s78).same sk).off hd9 ⟨dx, b, (fun z => by rw [z, cd.1] at nb; cases nb), sk _ _ (s78 _ _ h1), sk _ _ (s78 _ _ h2)⟩ s9
      have wy9 : WrU CW (upd (upd H8 kp (.dK (encC B t))) d (.dK (putK (encC B t) (Sum.inr "a") V.non))) y B t := by
        obtain ⟨dx, b, nb, h1, h2⟩ := wny
        have h7 : upd H7 d2 (.dK (encC B t)) d = some (.dK (encC B t)) := same_put (s := Same.refl H7) (o := .dK (encC B t)) nd2 _ _ (s7 _ _ cd.1)
        exact (wry.same sk).off hd9 ⟨dx, b, (fun z => by rw [z, h7] at nb; cases nb), sk _ _ h1, sk _ _ h2⟩ s9
      have ck9 : CodA (upd (upd H8 kp (.dK (encC B t))) d (.dK (putK (encC B t) (Sum.inr "a") V.non))) kp B t :=
        ⟨by rw [upd_ne kd]; exact upd_same, fun q hq => s9 _ _ (sk _ _ (s78 _ _ (s7 _ _ (cd.2.1 q hq)))) (ne_of (cd.2.1 q hq) cd.1 (fun z => nomatch z)), cd.2.2⟩
      have PA9 : PenAt (upd (upd H8 kp (.dK (encC B t))) d (.dK (putK (encC B t) (Sum.inr "a") V.non))) p l ns (n + 700) := pen_dk (pen_ext (pen_ext (pen_ext PA6 (ExtN.of s7)) (ExtN.of s78)) (ExtN.of sk)) hd9
      have tb9 : Tabs TL (upd (upd H8 kp (.dK (encC B t))) d (.dK (putK (encC B t) (Sum.inr "a") V.non))) := tabs_dk (((tb6.ext s7).ext s78).ext sk) hd9
      have hsl9 := s9 _ _ (sk _ _ (s78 _ _ (s7 _ _ hsl6))) dsl
      show Ends.nx _ _ (upd (upd H8 kp (.dK (encC B t))) d (.dK (putK (encC B t) (Sum.inr "a") V.non)))
      generalize upd (upd H8 kp (.dK (encC B t))) d (.dK (putK (encC B t) (Sum.inr "a") V.non)) = H9 at wr9 wy9 ck9 PA9 tb9 hsl9 ⊢
      clear s9 kd hd9 sk nkp s78 s8 wny wry ny nd2 s7 wn wr nx dsl PA6 tb6 hsl6 lt' ks
      refine ⟨_, rfl, _, rfl, x, B, t, kp, B, t, rfl, wr9, ck9, fun c => rfl, fun Ha sa => ⟨true, rfl, iteF ?_⟩⟩
      replace wr9 := wr9.same sa
      replace wy9 := wy9.same sa
      replace ck9 := CodA.same ck9 sa
      replace PA9 := pen_ext PA9 (ExtN.of sa)
      replace tb9 := tb9.ext sa
      replace hsl9 := sa _ _ hsl9
      obtain ⟨⟨dxb, bb, hxb, _⟩, _⟩ := id wr9
      obtain ⟨⟨dyb, b2, hyb, _⟩, _⟩ := id wy9
      refine ⟨_, rfl, _, rfl, x, dxb, _, .ref CW, rfl, hxb, .base (.ins hyb T.clW T.wA T.tB T.tC T.wD), T.nfW, x, B, t, .ref y, rfl, wr9, .inl ⟨y, B, t, rfl, wy9, fun c => rfl, true, rfl, false, rfl, iteF ?_⟩⟩
      refine ⟨_, rfl, _, rfl, x, dxb, _, .type "dict", rfl, hxb, .base (.dK ck9.1), T.nfd, x, B, t, .ref kp, rfl, wr9, .inr (.inr ⟨_, .base (.dK ck9.1), T.oD, false, rfl, false, rfl, iteF ?_⟩)⟩
      clear hyb hxb wy9 sa
      -- texts
      refine ⟨_, rfl, _, rfl, _, rfl, _, rfl, _, rfl, sl, _, rfl, SqL.of hsl9, fun s2 ns2 => ?_⟩
      rw [show cutV (lets (s0 :: s1 :: cr)) none (some 2) = lets [s0, s1] from cutT _ 2]
      have st := same_put (s := Same.refl Ha) (o := .lst (lets [s0, s1])) ns2
      have h2 : upd Ha s2 (.lst (lets [s0, s1])) s2 = some (.lst (lets [s0, s1])) := upd_same
      have s2p := PA9.nep ns2
      replace wr9 := wr9.same st
      replace ck9 := CodA.same ck9 st
      replace PA9 := pen_ext PA9 (ExtN.of st)
      replace tb9 := tb9.ext st
      replace hsl9 := st _ _ hsl9
      generalize upd Ha s2 (.lst (lets [s0, s1])) = Hb at st h2 wr9 ck9 PA9 tb9 hsl9 ⊢
      clear st ns2
      refine ⟨p, l, ns, n + 600, x, B, kp, B, t, s2, s0, s1, rfl, PA9.less (by omega), tb9, wr9, ck9, h2, s2p, isl _ List.mem_cons_self, isl _ (List.mem_cons_of_mem _ List.mem_cons_self), ls0, fun Hc mc PAc tbc => ⟨true, rfl, iteF ?_⟩⟩
      have wrc := wr9.mv PA9.pl mc
      have ckc := CodA.mv ck9 PA9.pl mc
      have hslc := mc _ _ hsl9 slp (fun _ z => nomatch z)
      clear wr9 ck9 hsl9 PA9 tb9 mc h2 s2p
      -- joined
      refine ⟨_, rfl, _, rfl, _, rfl, p, l, ns, n + 200, x, B, kp, B, t, rfl, PAc.less (by omega), tbc, wrc, ckc, fun Hd md PAd tbd => ⟨true, rfl, iteF ?_⟩⟩
      have hsld := md _ _ hslc slp (fun _ z => nomatch z)
      clear wrc ckc hslc PAc tbc md
      -- refused
      refine ⟨_, rfl, _, rfl, _, rfl, sl, _, rfl, SqL.of hsld, fun s5 ns5 => ?_⟩
      rw [show cutV (lets (s0 :: s1 :: cr)) none (some 5) = lets ((s0 :: s1 :: cr).take 5) from (cutT _ 5).trans (lets_cut _ 5)]
      have st := same_put (s := Same.refl Hd) (o := .lst (lets ((s0 :: s1 :: cr).take 5))) ns5
      have h5 : upd Hd s5 (.lst (lets ((s0 :: s1 :: cr).take 5))) s5 = some (.lst (lets ((s0 :: s1 :: cr).take 5))) := upd_same
      have s5p := PAd.nep ns5
      replace PAd := pen_ext PAd (ExtN.of st)
      replace tbd := tbd.ext st
      generalize upd Hd s5 (.lst (lets ((s0 :: s1 :: cr).take 5))) = He at st h5 PAd tbd ⊢
      refine ⟨p, l, s5, ns, n, (s0 :: s1 :: cr).take 5, rfl, PAd.less (by omega), tbd, h5, s5p, cnd.sublist (List.take_sublist ..), (fun z => nomatch z), List.length_take_le .., fun c hc => isl c (List.mem_of_mem_take hc), fun Hf PAf tbf => ⟨true, rfl, iteF ?_⟩⟩
      exact ⟨⟨_, _, _, _, _, _, _, _, _, _, _, _, rfl⟩, PAf, tbf⟩
    · rintro σ H2 ⟨⟨v2, v3, v4, v5, v6, v7, v8, v9, v10, v11, v12, v13, rfl⟩, PA2, tb2⟩
      -- all letters
      refine ⟨_, rfl, fun D nD => lc_it walk_enumS (fun i H3 => ∃ (A : Ad) (ps : List Addr), Paired (fun pa c => H3 pa = some (.tup [.str (L1 c), .ref (A c)]) ∧ H3 (A c) = some (.tup (nums (wS c)))) ps (abc.take i) ∧ H3 D = some (.lst (ps.map V.ref)) ∧ Same H2 H3) ?_ (fun _ _ _ _ => True.intro) ?_ ?_⟩
      · exact ⟨fun _ => 0, [], .nil, upd_same, same_put (s := Same.refl H2) nD⟩
      · rintro i y H3 H4 hi ⟨A, ps, pr, hD, s3⟩ ⟨Tq, cc, rfl, nT, rfl, hcc⟩
        have hc1 : abc[i]? = some cc := by
          have h : abcS.cps[i]? = some cc := hcc
          rw [← Array.getElem?_toList, abcS_cps] at h
          exact h
        obtain ⟨ec, i26⟩ := abc_idx hc1
        obtain ⟨eT, ncc⟩ := abc_take hc1
        have pl := pair_len pr
        rw [List.length_take, abc_len] at pl
        refine ⟨Tq, _, rfl, .inl (.inl upd_same), rfl, _, _, rfl, _, _, rfl, rfl, ?_⟩
        refine ⟨rfl, _, rfl, _, rfl, _, rfl, _, _, rfl, rfl, by show 2 ≤ sizeLine; decide, fun ta nta => ⟨by show 2 ≤ sizeLine; decide, fun pa npa => ?_⟩⟩
        have sT := same_put (s := Same.refl H3) (o := .tup [.int ((i : Nat) : Int), .str ⟨#[cc]⟩]) nT
        have sA := same_put (s := sT) (o := .tup [.int ((i : Nat) : Int), .int (255 - ((i : Nat) : Int))]) nta
        have hta : upd (upd H3 Tq (.tup [.int ((i : Nat) : Int), .str ⟨#[cc]⟩])) ta (.tup [.int ((i : Nat) : Int), .int (255 - ((i : Nat) : Int))]) ta = some (.tup (nums (wS cc))) := by
          rw [upd_same]
          show _ = some (HO.tup [.int ((cc - 97 : Nat) : Int), .int ((352 - cc : Nat) : Int)])
          rw [show (cc - 97 : Nat) = i by omega, show ((352 - cc : Nat) : Int) = 255 - ((i : Nat) : Int) by omega]
        have sP := same_put (s := sA) (o := .tup [.str (L1 cc), .ref ta]) npa
        have s2P : Same H2 (upd (upd (upd H3 Tq (.tup [.int ((i : Nat) : Int), .str ⟨#[cc]⟩])) ta (.tup [.int ((i : Nat) : Int), .int (255 - ((i : Nat) : Int))])) pa (.tup [.str (L1 cc), .ref ta])) := fun b o e => sP _ _ (s3 _ _ e)
        have hDp := sP _ _ hD
        have htp := (same_put (s := Same.refl _) (o := .tup [.str (L1 cc), .ref ta]) npa) _ _ hta
        have hpp : upd (upd (upd H3 Tq (.tup [.int ((i : Nat) : Int), .str ⟨#[cc]⟩])) ta (.tup [.int ((i : Nat) : Int), .int (255 - ((i : Nat) : Int))])) pa (.tup [.str (L1 cc), .ref ta]) pa = some (.tup [.str (L1 cc), .ref ta]) := upd_same
        refine ⟨_, hDp, by rw [List.length_map, sizeLine_eq]; omega, setA A cc ta, ps ++ [pa], ?_, ?_, ?_⟩
        · rw [eT]
          have off : ∀ {b : Addr} {xs : List V}, upd (upd (upd H3 Tq (.tup [.int ((i : Nat) : Int), .str ⟨#[cc]⟩])) ta (.tup [.int ((i : Nat) : Int), .int (255 - ((i : Nat) : Int))])) pa (.tup [.str (L1 cc), .ref ta]) b = some (.tup xs) → upd (upd (upd (upd H3 Tq (.tup [.int ((i : Nat) : Int), .str ⟨#[cc]⟩])) ta (.tup [.int ((i : Nat) : Int), .int (255 - ((i : Nat) : Int))])) pa (.tup [.str (L1 cc), .ref ta])) D (.lst (ps.map V.ref ++ [.ref pa])) b = some (.tup xs) := fun {b xs} e => by
            rw [upd_ne (ne_of e hDp (fun z => nomatch z))]
            exact e
          refine Paired.snoc (pair_in pr fun x y hy e => ?_) ?_
          · have ne : y ≠ cc := fun z => ncc (z ▸ hy)
            have ea : setA A cc ta y = A y := if_neg ne
            rw [ea]
            exact ⟨off (sP _ _ e.1), off (sP _ _ e.2)⟩
          · have ea : setA A cc ta cc = ta := if_pos rfl
            rw [ea]
            exact ⟨off hpp, off htp⟩
        · rw [upd_same, List.map_append]
          rfl
        · intro b o e
          rw [upd_ne (ne_of_none e nD)]
          exact s2P _ _ e
      rintro H3 ⟨A, ps, pr, hD, s3⟩
      have e26 : abc.take abcS.cps.size = abc := List.take_of_length_le (by
        have : abcS.cps.size = abcS.cps.toList.length := (Array.length_toList ..).symm
        rw [this, abcS_cps]
        exact Nat.le_refl _)
      have pr : Paired (fun pa c => H3 pa = some (.tup [.str (L1 c), .ref (A c)]) ∧ H3 (A c) = some (.tup (nums (wS c)))) ps abc := by
        have pr2 : Paired (fun pa c => H3 pa = some (.tup [.str (L1 c), .ref (A c)]) ∧ H3 (A c) = some (.tup (nums (wS c)))) ps (abc.take abcS.cps.size) := pr
        rw [e26] at pr2
        exact pr2
      have prk : Paired (fun pa kv => SqT K H3 pa [kV kv.1, kv.2]) ps (encC A tW) := by
        unfold encC encG tW
        rw [List.map_map]
        exact pair_map pr fun pa c e => .inl (.inl e.1)
      have tuW : Tups H3 A tW := fun q hq => by
        obtain ⟨c, hc, rfl⟩ := List.mem_map.mp hq
        obtain ⟨pa, _, e⟩ := pair_right pr c hc
        exact e.2
      refine ⟨D, ps, encC A tW, rfl, SqL.of hD, prk, fun wd nwd => ?_⟩
      rw [show mergeK [] (encC A tW) = encC (mrgA A A tW) (mrgT [] tW) from mergeK_C tW [] A]
      have sw := same_put (s := s3) (o := .dK (encC (mrgA A A tW) (mrgT [] tW))) nwd
      have sw3 := same_put (s := Same.refl H3) (o := .dK (encC (mrgA A A tW) (mrgT [] tW))) nwd
      have tuM : Tups H3 (mrgA A A tW) (mrgT [] tW) := tups_mrg (fun q h => (List.not_mem_nil h).elim) tuW GoodC.nil tW_good
      have cdW : CodA (upd H3 wd (.dK (encC (mrgA A A tW) (mrgT [] tW)))) wd (mrgA A A tW) (mrgT [] tW) := ⟨upd_same, tuM.same sw3, good_mrg GoodC.nil tW_good⟩
      have PA3 := pen_ext PA2 (ExtN.of sw)
      have tb3 := tb2.ext sw
      show Ends.nx _ _ (upd H3 wd (.dK (encC (mrgA A A tW) (mrgT [] tW))))
      generalize upd H3 wd (.dK (encC (mrgA A A tW) (mrgT [] tW))) = H4 at cdW PA3 tb3 ⊢
      generalize mrgT [] tW = tw at cdW
      generalize mrgA A A tW = aw at cdW
      clear sw sw3 tuM nwd tuW prk pr hD s3 nD PA2 tb2
      refine ⟨_, rfl, .ref wd, rfl, .inl ⟨wd, aw, tw, rfl, cdW, fun x H5 nx wrx s5 _ => ⟨_, rfl, x, aw, tw, wd, aw, tw, rfl, wrx, CodA.same cdW s5, fun c => rfl, fun H6 s6 => ⟨true, rfl, iteF ?_⟩⟩⟩⟩
      have s46 : Same H4 H6 := fun b o e => s6 _ _ (s5 _ _ e)
      replace PA3 := pen_ext PA3 (ExtN.of s46)
      replace tb3 := tb3.ext s46
      clear s46 s6 wrx s5 nx cdW
      -- an empty table, and what is none
      refine fun d0 nd0 => ⟨.ref d0, rfl, .inl ⟨d0, fun _ => 0, [], rfl, ⟨upd_same, fun q h => (List.not_mem_nil h).elim, GoodC.nil⟩, fun no H7 nn wrn sn _ => ?_⟩⟩
      have s7 : Same H6 H7 := fun b o e => sn _ _ (same_put (s := Same.refl H6) (o := .dK []) nd0 _ _ e)
      replace PA3 := pen_ext PA3 (ExtN.of s7)
      replace tb3 := tb3.ext s7
      clear s7 sn nn nd0
      refine ⟨_, rfl, Nat.zero_le _, fun l0 nl0 => ⟨Nat.zero_le _, fun t0 nt0 => ⟨by show 1 ≤ sizeLine; decide, fun t1 nt1 => ⟨by show 2 ≤ sizeLine; decide, fun t2 nt2 => ⟨by show 1 ≤ sizeLine; decide, fun l1 nl1 => ⟨by show 7 ≤ sizeLine; decide, fun lo nlo => ?_⟩⟩⟩⟩⟩⟩
      have sl0 := same_put (s := Same.refl H7) (o := .lst []) nl0
      have hl0 : upd H7 l0 (.lst []) l0 = some (.lst []) := upd_same
      have l0p := PA3.nep nl0
      have PAa := pen_ext PA3 (ExtN.of sl0)
      generalize upd H7 l0 (.lst []) = Ha at sl0 hl0 PAa nt0 nt1 nt2 nl1 nlo ⊢
      have st0 := same_put (s := Same.refl Ha) (o := .tup []) nt0
      have ht0 : upd Ha t0 (.tup []) t0 = some (.tup []) := upd_same
      have t0p := PAa.nep nt0
      have PAb := pen_ext PAa (ExtN.of st0)
      generalize upd Ha t0 (.tup []) = Hb at st0 ht0 PAb nt1 nt2 nl1 nlo ⊢
      have st1 := same_put (s := Same.refl Hb) (o := .tup [.int 1]) nt1
      have PAc := pen_ext PAb (ExtN.of st1)
      generalize upd Hb t1 (.tup [.int 1]) = Hc at st1 PAc nt2 nl1 nlo ⊢
      have st2 := same_put (s := Same.refl Hc) (o := .tup [.str "a", .ref t1]) nt2
      have PAc2 := pen_ext PAc (ExtN.of st2)
      generalize upd Hc t2 (.tup [.str "a", .ref t1]) = Hc2 at st2 PAc2 nl1 nlo ⊢
      have sl1 := same_put (s := Same.refl Hc2) (o := .lst [.ref t2]) nl1
      have hl1 : upd Hc2 l1 (.lst [.ref t2]) l1 = some (.lst [.ref t2]) := upd_same
      have l1p := PAc2.nep nl1
      have PAd := pen_ext PAc2 (ExtN.of sl1)
      generalize upd Hc2 l1 (.lst [.ref t2]) = Hd at sl1 hl1 PAd nlo ⊢
      have slo := same_put (s := Same.refl Hd) (o := .lst [V.non, .int 0, .ref l0, .ref t0, .str "a", .ref l1, .bl true]) nlo
      have hlo : upd Hd lo (.lst [V.non, .int 0, .ref l0, .ref t0, .str "a", .ref l1, .bl true]) lo = _ := upd_same
      have lop := PAd.nep nlo
      have PA4 := pen_ext PAd (ExtN.of slo)
      show spPick K ([V.ref p, V.ref lo] ++ []) (upd Hd lo (.lst [V.non, .int 0, .ref l0, .ref t0, .str "a", .ref l1, .bl true])) _ E0
      generalize upd Hd lo (.lst [V.non, .int 0, .ref l0, .ref t0, .str "a", .ref l1, .bl true]) = H8 at slo hlo PA4 ⊢
      have s78 : Same H7 H8 := fun b o e => slo _ _ (sl1 _ _ (st2 _ _ (st1 _ _ (st0 _ _ (sl0 _ _ e)))))
      have hl0' := slo _ _ (sl1 _ _ (st2 _ _ (st1 _ _ (st0 _ _ hl0))))
      have ht0' := slo _ _ (sl1 _ _ (st2 _ _ (st1 _ _ ht0)))
      have hl1' := slo _ _ hl1
      have wr8 := wrn.same s78
      have tb8 := tb3.ext s78
      clear slo sl1 st2 st1 st0 sl0 nlo nl1 nt2 nt1 nt0 nl0 hl0 ht0 hl1 PAa PAb PAc PAc2 PAd PA3 tb3 wrn s78
      refine ⟨p, l, lo, ns, 10, _, rfl, PA4.less (by omega), SqL.of hlo, by show 0 < 7; decide, by show 7 < 1000; decide, fun H5 f5 => SqL.of (f5 _ _ hlo lop), fun vo H9 hvo PA5 fr5 => ?_⟩
      have odd9 : OddS p H9 vo := by
        simp only [List.mem_cons, List.not_mem_nil, or_false] at hvo
        rcases hvo with rfl | rfl | rfl | rfl | rfl | rfl | rfl
        · exact .inl rfl
        · exact .inr (.inl rfl)
        · exact .inr (.inr (.inr (.inr (.inr ⟨l0, _, rfl, l0p, fr5 _ _ hl0' l0p⟩))))
        · exact .inr (.inr (.inr (.inr (.inl ⟨t0, rfl, t0p, fr5 _ _ ht0' t0p⟩))))
        · exact .inr (.inr (.inl rfl))
        · exact .inr (.inr (.inr (.inr (.inr ⟨l1, _, rfl, l1p, fr5 _ _ hl1' l1p⟩))))
        · exact .inr (.inr (.inr (.inl rfl)))
      have wr9 := wr8.mv PA4.pl (Mv.ofFr fr5)
      have tb9 := tabs_fr tb8 PA4.pl fr5
      clear hvo hlo hl0' ht0' hl1' fr5 wr8 tb8 PA4 PA5 l0p t0p l1p lop
      -- what is heard of no table
      have ok3 : BadOk (.one 0 (.str "codes")) := ⟨by decide, nice_okZ (by decide +kernel)⟩
      refine heard_end (some (.one 0 (.str "codes"))) (fun _ _ => False) tb9 (fun Hx E2 R ex tbx hE hR => ?_) (fun w1 Hx ex tbx hw1 => ?_)
      · exact ⟨_, rfl, vo, rfl, .inr ((odd9.mv (Mv.ofExt ex)).rs (hE _ ok3 rfl))⟩
      have hw1 : HrB Hx w1 (.one 0 (.str "codes")) := hw1
      have wrx := wr9.ext ex
      clear odd9 wr9 tb9 ex tbx
      -- the empty one
      obtain ⟨⟨dx, b, hx, _⟩, _⟩ := id wrx
      refine ⟨_, rfl, no, rfl, ⟨dx, _, hx⟩, no, _, [], .str "", .str (Sx []), rfl, wrx, ?_, .inr ⟨[], rfl, (fun _ h => absurd h List.not_mem_nil), Nat.zero_le _, .inr ⟨rfl, fun tq Hy sy htq => ?_⟩⟩⟩
      · exact (held_str (by decide +kernel) : Held _ (.str "") (.str ""))
      have hw2 := hrB_ext hw1 (ExtN.of sy)
      have wry := wrx.same sy
      have htq : Hy tq = some (.tup []) := htq
      clear hw1 wrx hx sy
      refine ⟨by show 1 ≤ sizeLine; decide, fun m1 nm1 => ?_⟩
      have q1 := same_put (s := Same.refl Hy) (o := .lst [V.ref tq]) nm1
      have hm1 : upd Hy m1 (.lst [V.ref tq]) m1 = some (.lst [V.ref tq]) := upd_same
      have wrz := wry.same q1
      have hw3 := hrB_ext hw2 (ExtN.of q1)
      have htq2 := q1 _ _ htq
      generalize upd Hy m1 (.lst [V.ref tq]) = Hz at hm1 wrz hw3 htq2 ⊢
      clear q1 wry hw2 htq nm1
      have z0 : (imsL abc []).length = 0 := by decide +kernel
      obtain ⟨⟨dx2, b2, hx2, _⟩, _⟩ := id wrz
      refine ⟨_, rfl, no, dx2, _, rfl, hx2, no, _, [], rfl, wrz, 0, by rw [z0], Nat.zero_le _, by show 1 ≤ sizeLine; decide, fun m2 nm2 => ?_⟩
      have q2 := same_put (s := Same.refl Hz) (o := .lst [V.int ((0 : Nat) : Int)]) nm2
      have hm2 : upd Hz m2 (.lst [V.int ((0 : Nat) : Int)]) m2 = some (.lst [V.int ((0 : Nat) : Int)]) := upd_same
      have wra := wrz.same q2
      have hw4 := hrB_ext hw3 (ExtN.of q2)
      have htq3 := q2 _ _ htq2
      have hm1' := q2 _ _ hm1
      generalize upd Hz m2 (.lst [V.int ((0 : Nat) : Int)]) = HA at hm2 wra hw4 htq3 hm1' ⊢
      clear q2 wrz hw3 nm2 hm1 hx2 htq2
      refine ⟨by show 3 ≤ sizeLine; decide, fun m4 nm4 => ?_⟩
      have q4 := same_put (s := Same.refl HA) (o := .lst [w1, V.ref m1, .ref m2]) nm4
      have hm4 : upd HA m4 (.lst [w1, V.ref m1, .ref m2]) m4 = some (.lst [w1, V.ref m1, .ref m2]) := upd_same
      have hm1c := q4 _ _ hm1'
      have hm2c := q4 _ _ hm2
      have htqc := q4 _ _ htq3
      have hwc := hrB_ext hw4 (ExtN.of q4)
      have wrc := wra.same q4
      show gName 11 (.ref m4) _ (upd HA m4 (.lst [w1, V.ref m1, .ref m2])) _
      generalize upd HA m4 (.lst [w1, V.ref m1, .ref m2]) = HB at hm4 hm1c hm2c htqc hwc wrc ⊢
      clear q4 hm1' hm2 hw4 htq3 wra nm4
      refine ⟨_, rfl, by show 2 ≤ sizeLine; decide, fun n1 nn1 => ⟨Nat.zero_le _, fun n0 nn0 => ⟨by show 1 ≤ sizeLine; decide, fun n2 nn2 => ⟨by show 1 ≤ sizeLine; decide, fun n3 nn3 => ⟨by show 3 ≤ sizeLine; decide, fun n5 nn5 => ?_⟩⟩⟩⟩⟩
      have u1 := same_put (s := Same.refl HB) (o := .tup [.str "table", .str "'codes'"]) nn1
      have u0 := same_put (s := Same.refl _) (o := .tup []) nn0
      have u2 := same_put (s := Same.refl _) (o := .lst [.ref n0]) nn2
      have u3 := same_put (s := Same.refl _) (o := .lst [.int 0]) nn3
      have u5 := same_put (s := Same.refl _) (o := .lst [V.ref n1, .ref n2, .ref n3]) nn5
      have uu : Same HB (upd (upd (upd (upd (upd HB n1 (.tup [.str "table", .str "'codes'"])) n0 (.tup [])) n2 (.lst [.ref n0])) n3 (.lst [.int 0])) n5 (.lst [V.ref n1, .ref n2, .ref n3])) := fun b o e => u5 _ _ (u3 _ _ (u2 _ _ (u0 _ _ (u1 _ _ e))))
      have g1 := u5 _ _ (u3 _ _ (u2 _ _ (u0 _ _ (show upd HB n1 (.tup [.str "table", .str "'codes'"]) n1 = _ from upd_same))))
      have g0 := u5 _ _ (u3 _ _ (u2 _ _ (show upd (upd HB n1 (.tup [.str "table", .str "'codes'"])) n0 (.tup []) n0 = _ from upd_same)))
      have g2 := u5 _ _ (u3 _ _ (show upd (upd (upd HB n1 (.tup [.str "table", .str "'codes'"])) n0 (.tup [])) n2 (.lst [.ref n0]) n2 = _ from upd_same))
      have g3 := u5 _ _ (show upd (upd (upd (upd HB n1 (.tup [.str "table", .str "'codes'"])) n0 (.tup [])) n2 (.lst [.ref n0])) n3 (.lst [.int 0]) n3 = _ from upd_same)
      have g5 : upd (upd (upd (upd (upd HB n1 (.tup [.str "table", .str "'codes'"])) n0 (.tup [])) n2 (.lst [.ref n0])) n3 (.lst [.int 0])) n5 (.lst [V.ref n1, .ref n2, .ref n3]) n5 = _ := upd_same
      show rEqD K (V.ref m4) (V.ref n5) (upd (upd (upd (upd (upd HB n1 (.tup [.str "table", .str "'codes'"])) n0 (.tup [])) n2 (.lst [.ref n0])) n3 (.lst [.int 0])) n5 (.lst [V.ref n1, .ref n2, .ref n3])) _
      generalize upd (upd (upd (upd (upd HB n1 (.tup [.str "table", .str "'codes'"])) n0 (.tup [])) n2 (.lst [.ref n0])) n3 (.lst [.int 0])) n5 (.lst [V.ref n1, .ref n2, .ref n3]) = HC at uu g1 g0 g2 g3 g5 ⊢
      clear u1 u0 u2 u3 u5 nn1 nn0 nn2 nn3 nn5
      have wrd := wrc.same uu
      refine eq_same (d := .list [wdD (.one 0 (.str "codes")), .list [.tuple []], .list [.int 0]]) (.lst (SqL.of (uu _ _ hm4)) (.cons (hrB_dp (hrB_ext hwc (ExtN.of uu))) (.cons (.lst (SqL.of (uu _ _ hm1c)) (.cons (.tup (.inl (.inl (uu _ _ htqc))) .nil) .nil)) (.cons (.lst (SqL.of (uu _ _ hm2c)) (.cons (.int _) .nil)) .nil)))) (.lst (SqL.of g5) (.cons (.tup (.inl (.inl g1)) ?_) (.cons (.lst (SqL.of g2) (.cons (.tup (.inl (.inl g0)) .nil) .nil)) (.cons (.lst (SqL.of g3) (.cons (.int _) .nil)) .nil)))) (by decide +kernel) ⟨true, rfl, iteT ?_⟩
      · show DpAll K _ _ ((wordsB (.one 0 (.str "codes"))).map PyData.str)
        rw [words_cd]
        exact dp_strs ["table", "'codes'"]
      clear wrc hm4 hm1c hm2c htqc hwc g1 g0 g2 g3 g5 uu z0 ok3
      -- as an empty one, as no other
      refine ⟨_, rfl, fun d1 nd1 => ⟨.ref d1, rfl, .inl ⟨d1, fun _ => 0, [], rfl, ⟨upd_same, fun q h => (List.not_mem_nil h).elim, GoodC.nil⟩, fun z HD nz wz sz _ => ?_⟩⟩⟩
      have sD : Same HC HD := fun b o e => sz _ _ (same_put (s := Same.refl HC) (o := .dK []) nd1 _ _ e)
      have wre := wrd.same sD
      obtain ⟨⟨dn, bn, hn, _⟩, _⟩ := id wre
      obtain ⟨⟨dz, bz, hz, _⟩, _⟩ := id wz
      refine ⟨no, dn, _, .ref CW, rfl, hn, .base (.ins hz T.clW T.wA T.tB T.tC T.wD), T.nfW, no, _, [], .ref z, rfl, wre, .inl ⟨z, _, [], rfl, wz, fun c => rfl, true, rfl, true, rfl, iteT ?_⟩⟩
      clear hz wz hn sz nz nd1 sD wrd
      refine ⟨_, rfl, fun d3 nd3 => ⟨by show 1 ≤ sizeLine; decide, fun ta nta => ⟨?_, [(kL 97, .ref ta)], rfl, by show 1 ≤ 15; decide, ?_⟩⟩⟩
      · rw [upd_ne (ne_of_none (show upd HD d3 (.dK []) d3 = _ from upd_same) nta)]
        exact upd_same
      have ne : d3 ≠ ta := ne_of_none (show upd HD d3 (.dK []) d3 = _ from upd_same) nta
      have nta0 : HD ta = none := by
        rw [upd_ne (Ne.symm ne)] at nta
        exact nta
      have sE : Same HD (upd (upd (upd HD d3 (.dK [])) ta (.tup [.int 0])) d3 (.dK (mergeK [] [(kL 97, V.ref ta)]))) := fun b o e => by
        rw [upd_ne (ne_of_none e nd3), upd_ne (ne_of_none e nta0), upd_ne (ne_of_none e nd3)]
        exact e
      have hta : upd (upd (upd HD d3 (.dK [])) ta (.tup [.int 0])) d3 (.dK (mergeK [] [(kL 97, V.ref ta)])) ta = some (.tup (nums [0])) := by
        rw [upd_ne (Ne.symm ne)]
        exact upd_same
      have g1 : GoodC [(97, [0])] := ⟨by decide, fun q h => by rw [List.mem_singleton.mp h]; decide, fun q h => by rw [List.mem_singleton.mp h]; exact ⟨by decide, by decide, by decide⟩⟩
      have cd3 : CodA (upd (upd (upd HD d3 (.dK [])) ta (.tup [.int 0])) d3 (.dK (mergeK [] [(kL 97, V.ref ta)]))) d3 (fun _ => ta) [(97, [0])] := ⟨upd_same, fun q h => by rw [List.mem_singleton.mp h]; exact hta, g1⟩
      have wrf := wre.same sE
      generalize upd (upd (upd HD d3 (.dK [])) ta (.tup [.int 0])) d3 (.dK (mergeK [] [(kL 97, V.ref ta)])) = HE at cd3 wrf ⊢
      refine ⟨.ref d3, rfl, .inl ⟨d3, fun _ => ta, [(97, [0])], rfl, cd3, fun z2 HF nz wz sz _ => ?_⟩⟩
      have wrg := wrf.same sz
      obtain ⟨⟨dn, bn, hn, _⟩, _⟩ := id wrg
      obtain ⟨⟨dz, bz, hz, _⟩, _⟩ := id wz
      exact ⟨no, dn, _, .ref CW, rfl, hn, .base (.ins hz T.clW T.wA T.tB T.tC T.wD), T.nfW, no, _, [], .ref z2, rfl, wrg, .inr (.inl ⟨z2, _, _, rfl, wz, by decide +kernel, false, rfl, q0 _⟩)⟩
end
end V8

set_option Elab.async false
set_option linter.all false
set_option maxRecDepth 100000
set_option maxHeartbeats 4000000
/-! The end of a law, the modules known to stand in the ground. -/
namespace LamX
open PySem PySem.Spec PyProof.Rows L2
theorem law_callS {P : Program} {w : World} {K : PySem.W.Frag} {mg mb mm : Str → Option Value} {C : CXT} {k : Nat} {fa a : Addr} {cs : List (Addr × Addr)} {fd : FuncData} {x : Str} {sp : Sp} {s : Shared} {vs : List Value} {ns : List Int}
    (kin : K.In s.heap) (glob : s.heap.Ns mainGlobals mg) (bns : s.heap.Ns builtinsNs mb) (boot : ∀ y : Str, y ≠ "__name__" → mb y = bootBuiltins y) (lim : s.heap.NoLimit) (gens : s.gens = #[])
    (modules : s.heap.Ns sysModules mm)
    (tabs : ∀ p ∈ cs, s.heap.get? p.2 = some { cls := .none, data := .fields #[] }) (untold : ∀ p ∈ cs, K.lookup p.2 = none) (codes : ∀ p ∈ cs, PySem.W.CodeHd s.heap p.1 p.2)
    (bmod : ∃ (bm : Addr) (ob : Obj), mg "__builtins__" = some (.ref bm) ∧ bm ≠ builtinsNs ∧ s.heap.get? bm = some ob ∧ ob.cls = .type "module" ∧ ob.dict = some builtinsNs ∧ ob.data = .plain)
    (script : s.heap.get? a = some { cls := .type "list", data := .seq vs.toArray }) (whole : IntsAre vs ns) (short : ns.length ≤ sizeLine) (room : Room k callerA)
    (F : ∀ base : Heap, SysIn base → K.In base → base.Ns mainGlobals mg → (∀ p ∈ cs, TabB base mg p.1 p.2) → FnG P w K mg base C k fa fd [x] sp) (binds : ∀ (s : Shared) (u : Value), BindsTo s fd ⟨[u], []⟩ [(x, u)])
    (holds : ∀ H : Hp, (∀ p ∈ cs, H p.2 = some (.tbl #[])) → SqL K H a (ns.map V.int) → sp [.ref a] H (fun v _ => v = .bl true) fun _ _ _ => False)
    (noerr : ∀ H e s', C [] H s (fun _ _ _ => False) e s' → False) :
    codeAny (model P w) callerA (.call (.ref fa) ⟨[.ref a], []⟩) (fun r s' => r = .ok (.ret (.bool true)) ∧ OldK s.heap s'.heap ∧ s'.os = s.os ∧ AllBare s'.gens) s := by
  have rel := vals_ints whole
  have many := whole.length
  generalize hts : cs.map (·.2) = ts
  have inT : ∀ p ∈ cs, p.2 ∈ ts := fun p hp => by
    rw [← hts]
    exact List.mem_map.mpr ⟨p, hp, rfl⟩
  have ofT : ∀ b ∈ ts, ∃ p ∈ cs, p.2 = b := fun b hb => by
    rw [← hts] at hb
    exact List.mem_map.mp hb
  have emp : ∀ b ∈ ts, s.heap.get? b = some { cls := .none, data := .fields #[] } := fun b hb => by
    obtain ⟨p, hp, rfl⟩ := ofT b hb
    exact tabs p hp
  have aT : a ∉ ts := fun z => by
    have e := emp a z
    rw [script] at e
    have e2 := congrArg Obj.data (Option.some.inj e)
    cases e2
  generalize hH : firstH K ts a { cls := .type "list", data := .seq vs.toArray } (ns.map V.int) = H
  have of : ∀ {b u}, H b = some u → (b ∈ ts ∧ u = .tbl #[]) ∨ (b = a ∧ K.lookup a = none ∧ u = .frz { cls := .type "list", data := .seq vs.toArray } (.lst (ns.map V.int))) := fun {b u} z => by
    rw [← hH] at z
    exact firstH_of z
  have atT : ∀ b ∈ ts, H b = some (.tbl #[]) := fun b hb => by
    rw [← hH]
    exact firstH_tab hb
  -- what is neither a list nor an empty table is not tracked
  have off : ∀ {b : Addr} {o : Obj}, s.heap.get? b = some o → (∀ us n, o.data ≠ .seq us n) → o.data ≠ .fields #[] → H b = none := fun {b o} e n1 n2 => by
    cases z : H b with
    | none => rfl
    | some u =>
      rcases of z with ⟨m, _⟩ | ⟨m, _, _⟩
      · rw [emp b m] at e
        cases e
        exact absurd rfl n2
      · rw [m, script] at e
        cases e
        exact absurd rfl (n1 _ _)
  have dict : ∀ {b : Addr} {o : Obj} {es : Array DictEntry} {n : Nat}, s.heap.get? b = some o → o.data = .dict es n → H b = none := fun {b o es n} e d =>
    off e (fun us m z => by rw [d] at z; cases z) fun z => by rw [d] at z; cases z
  have stays : ∀ {b : Addr} {m : Str → Option Value}, s.heap.Ns b m → (hidT s.heap H).Ns b m := fun {b m} z => by
    obtain ⟨o, es, ep, e, d, r⟩ := z
    exact ⟨o, es, ep, hidT_get e (dict e d), d, r⟩
  have kin2 : K.In (hidT s.heap H) := fun b o e => by
    refine hidT_get (kin b o e) ?_
    cases z : H b with
    | none => rfl
    | some u =>
      rcases of z with ⟨m, _⟩ | ⟨m, n, _⟩
      · obtain ⟨p, hp, rfl⟩ := ofT b m
        rw [untold p hp] at e
        cases e
      · rw [m, n] at e
        cases e
  have glob2 := stays glob
  have mod : L2.Mod K mg (hidT s.heap H) := by
    refine ⟨kin2, glob2, ⟨mb, stays bns, boot⟩, ?_⟩
    obtain ⟨mc, l1, l2⟩ := lim
    exact ⟨mc, stays l1, l2⟩
  have tb : ∀ p ∈ cs, TabB (hidT s.heap H) mg p.1 p.2 := fun p hp => by
    have eT := tabs p hp
    refine ⟨?_, ?_, fun z => ?_⟩
    · obtain ⟨o, us, file, tf, flags, tg, inF, text, tt, e1, r1, r2, r3, r⟩ := codes p hp
      refine ⟨o, us, file, tf, flags, tg, inF, text, tt, hidT_get e1 (off e1 (fun ws n z => ?_) fun z => ?_), r1, r2, r3, r⟩
      · rw [r2] at z
        cases z
      · rw [r2] at z
        have z2 : us = #[] := by cases z; rfl
        rw [z2] at r3
        simp at r3
    · obtain ⟨bm, ob, b1, b2, b3, b4, b5, b6⟩ := bmod
      refine ⟨bm, ob, b1, b2, fun z => ?_, fun z => ?_, hidT_get b3 (off b3 (fun ws n z => ?_) fun z => ?_), b4, b5, b6⟩
      · obtain ⟨o, es, ep, e, hd, _⟩ := glob
        rw [z, e] at b3
        cases b3
        rw [hd] at b6
        cases b6
      · rw [z, eT] at b3
        cases b3
        cases b6
      · rw [b6] at z
        cases z
      · rw [b6] at z
        cases z
    · obtain ⟨o, es, ep, e, hd, _⟩ := glob
      rw [z, eT] at e
      cases e
      cases hd
  have held : HOk P w H s.heap := fun b u z => by
    rcases of z with ⟨m, rfl⟩ | ⟨rfl, n, rfl⟩
    · exact emp b m
    · refine ⟨script, ?_, vs, 0, rel, script⟩
      rw [List.length_map]
      exact short
  have seq : SqL K H a (ns.map V.int) := by
    cases hk : K.lookup a with
    | none =>
      refine .inl (.inr ⟨{ cls := .type "list", data := .seq vs.toArray }, ?_⟩)
      rw [← hH]
      exact firstH_at aT hk
    | some o =>
      have e := kin a o hk
      rw [script] at e
      cases e
      refine .inr ⟨_, vs.toArray, _, hk, rfl, rfl, rfl, ?_, by simpa using rel⟩
      rw [List.size_toArray, many]
      exact short
  have start : Env0 P w K mg (hidT s.heap H) callerA [] s H := by
    refine ⟨rfl, mod, fun b o e => of_hidT e, Nat.le_of_eq (hidT_size _ _), trivial, fun b z => ?_, held, .of_eq gens⟩
    exact absurd z (List.not_mem_nil)
  have ran := (F _ (by obtain ⟨o, es, ep, e, d, r⟩ := modules; exact ⟨o, hidT_get e (dict e d)⟩) kin2 glob2 tb).runs callerA [] s H ⟨[.ref a], []⟩ [.ref a] [.ref a] _ _ rfl room start (binds s (.ref a)) (.cons rfl .nil) (holds H (fun p hp => atT _ (inT p hp)) seq)
  refine codeAny_mono ran fun r s2 h => ?_
  match r, h with
  | .error e, h => exact (noerr H e s2 h).elim
  | .ok .next, h => exact h.elim
  | .ok .brk, h => exact h.elim
  | .ok .cont, h => exact h.elim
  | .ok (.ret u), h =>
    obtain ⟨v, H2, os, bare, un, ok2, rv, rfl⟩ := h
    obtain rfl : u = Value.bool true := rv
    have same : ∀ b o, b ∉ ts → s.heap.get? b = some o → s2.heap.get? b = some o := fun b o nb e => by
      cases z : H b with
      | none => exact un.keep b o e z (List.not_mem_nil) (List.not_mem_nil)
      | some u =>
        rcases of z with ⟨m, _⟩ | ⟨rfl, n, rfl⟩
        · exact absurd m nb
        · obtain ⟨e2, _⟩ := ok2 b _ (un.frzs b _ _ z)
          rw [script] at e
          cases e
          exact e2
    have more : ∀ b ∈ ts, ∃ us : Array Value, s2.heap.get? b = some { cls := .none, data := .fields us } := fun b hb => by
      obtain ⟨us, z⟩ := un.tbls b #[] (atT b hb)
      exact ⟨_, ok2 b _ z⟩
    refine ⟨rfl, ⟨fun b o e => ?_, fun b o e => ?_⟩, os, bare⟩
    · by_cases hb : b ∈ ts
      · obtain ⟨us, hu⟩ := more b hb
        obtain ⟨p, hp, rfl⟩ := ofT b hb
        have eT := tabs p hp
        rw [eT] at e
        cases e
        refine .inr (.inl ⟨((codes p hp).tab eT).isCodeTable, rfl, #[], us, rfl, ?_⟩)
        rw [Array.empty_append]
        exact hu
      · exact .inl (same b o hb e)
    · by_cases hb : b ∈ ts
      · obtain ⟨us, hu⟩ := more b hb
        exact ⟨_, hu⟩
      · exact ⟨o, same b o hb e⟩
end LamX

set_option Elab.async false
set_option linter.all false
set_option maxRecDepth 100000
set_option maxHeartbeats 16000000
set_option pp.maxSteps 3000
/-! What the top has left, taken together. -/
namespace V8
open PySem PySem.Spec PyProof.Rows L2 LamX
theorem exm_of {K : PySem.W.Frag} {S R : Addr} (h1 : PySem.W.subIn K (.ref R) (.type "BaseException") = some true) (h2 : PySem.W.isClsIn K R = true) (h3 : PySem.W.typeIn K (.ref R) = some (.type "type")) (h4 : PySem.W.subIn K (.ref S) (.ref R) = some true) : PySem.W.exmOne K (.ref S) (.ref R) = some true := by
  unfold PySem.W.isClsIn at h2
  unfold PySem.W.exmOne
  rw [h1, if_pos (show (some true == some true) = true from rfl)]
  unfold PySem.W.kitCls
  dsimp only
  rw [h2, h3, if_pos (show (true && (some (Value.type "type") == some (Value.type "type"))) = true by decide +kernel), h4]
/-- a class of errors, below CE -/
structure ClsX (K : PySem.W.Frag) (CE C : Addr) : Prop where
  x : ∃ nm q N bs sn sub ab col dd k0 k1 k2 k3 k5, K.lookup C = some (excClassObj nm q C N bs [.ref CE, .type "ValueError", .type "Exception", .type "BaseException", .type "object"] true sn sub ab col dd k0 k1 k2 k3 k5 "ValueError.__new__")
section
variable {K : PySem.W.Frag} {CE C D : Addr}
theorem ClsX.cls (c : ClsX K CE C) : ∃ cd, PySem.W.clsIn K C = some cd ∧ cd.mro = .ref C :: [.ref CE, .type "ValueError", .type "Exception", .type "BaseException", .type "object"] ∧ cd.hasDict = true := by
  obtain ⟨nm, q, N, bs, sn, sub, ab, col, dd, k0, k1, k2, k3, k5, e⟩ := c.x
  unfold PySem.W.clsIn
  rw [e]
  exact ⟨_, rfl, rfl, rfl⟩
theorem ClsX.isC (c : ClsX K CE C) : PySem.W.isClsIn K C = true := by
  obtain ⟨cd, e, _⟩ := c.cls
  unfold PySem.W.isClsIn
  rw [e]
  rfl
theorem ClsX.hd (c : ClsX K CE C) : PySem.W.hasDictIn K C = true := by
  obtain ⟨cd, e, _, h⟩ := c.cls
  unfold PySem.W.hasDictIn
  rw [e]
  exact h
theorem ClsX.ty (c : ClsX K CE C) : PySem.W.typeIn K (.ref C) = some (.type "type") := by
  obtain ⟨nm, q, N, bs, sn, sub, ab, col, dd, k0, k1, k2, k3, k5, e⟩ := c.x
  show (K.lookup C).map _ = _
  rw [e]
  rfl
theorem ClsX.sub (c : ClsX K CE C) (b : Value) : PySem.W.subIn K (.ref C) b = some ((.ref C :: [.ref CE, .type "ValueError", .type "Exception", .type "BaseException", .type "object"] : List Value).contains b) := by
  obtain ⟨cd, e, h, _⟩ := c.cls
  show PySem.W.mroIn K C b = _
  unfold PySem.W.mroIn
  rw [e]
  show (if cd.mro.isEmpty then none else some (cd.mro.contains b)) = _
  rw [h]
  rfl
theorem ClsX.ex (c : ClsX K CE C) : PySem.W.subIn K (.ref C) (.type "BaseException") = some true := by
  rw [c.sub, List.contains_iff_mem.mpr (by simp)]
theorem ClsX.hm (c : ClsX K CE C) : PySem.W.mroIn K C (.type "object") = some true := by
  have e := c.sub (.type "object")
  rw [List.contains_iff_mem.mpr (by simp)] at e
  exact e
theorem ClsX.sE (c : ClsX K CE C) : PySem.W.subIn K (.ref C) (.ref CE) = some true := by
  rw [c.sub, List.contains_iff_mem.mpr (by simp)]
theorem ClsX.kV (c : ClsX K CE C) : PySem.W.kitOne K (.ref C) (.type "ValueError") = some true := by
  unfold PySem.W.kitOne
  rw [if_neg (by intro z; exact nomatch (beq_iff_eq.mp z))]
  show (if PySem.W.kitMeta "ValueError" = true then PySem.W.subIn K (.ref C) (.type "ValueError") else none) = _
  rw [if_pos (by decide +kernel), c.sub, List.contains_iff_mem.mpr (by simp)]
theorem kE_of (c : ClsX K CE C) (ne : C ≠ CE) (h2 : PySem.W.isClsIn K CE = true) (h3 : PySem.W.typeIn K (.ref CE) = some (.type "type")) : PySem.W.kitOne K (.ref C) (.ref CE) = some true := by
  unfold PySem.W.isClsIn at h2
  unfold PySem.W.kitOne
  rw [if_neg (by intro z; cases beq_iff_eq.mp z; exact ne rfl)]
  unfold PySem.W.kitCls
  dsimp only
  rw [h2, h3, if_pos (show (true && (some (Value.type "type") == some (Value.type "type"))) = true by decide +kernel), c.sE]
theorem kk_self {v : Value} : PySem.W.kitOne K v v = some true := by
  unfold PySem.W.kitOne
  rw [if_pos (beq_self_eq_true v)]
theorem kk_of (c : ClsX K CE C) (d : ClsX K CE D) (ne : C ≠ D) (nE : D ≠ CE) : PySem.W.kitOne K (.ref C) (.ref D) = some false := by
  have h2 := d.isC
  have h3 := d.ty
  unfold PySem.W.isClsIn at h2
  unfold PySem.W.kitOne
  rw [if_neg (by intro z; cases beq_iff_eq.mp z; exact ne rfl)]
  unfold PySem.W.kitCls
  dsimp only
  rw [h2, h3, if_pos (show (true && (some (Value.type "type") == some (Value.type "type"))) = true by decide +kernel), c.sub]
  refine congrArg some (Bool.eq_false_iff.mpr fun z => ?_)
  have m := List.contains_iff_mem.mp z
  simp at m
  rcases m with m | m
  · exact ne m.symm
  · exact nE m
end
def CzOf (l : List Addr) (i : Nat) : Addr := l.getD i 0
theorem czof_get {l : List Addr} {i : Nat} (h : i < l.length) : l[i] = CzOf l i := by
  unfold CzOf
  rw [List.getD_eq_getElem?_getD, List.getElem?_eq_getElem h]
  rfl
theorem kit_all {K : PySem.W.Frag} {CE : Addr} {l : List Addr} (nd : (CE :: l).Nodup) (c : ∀ i, i < l.length → ClsX K CE (CzOf l i)) (i j : Nat) (hi : i < l.length) (hj : j < l.length) : PySem.W.kitOne K (.ref (CzOf l i)) (.ref (CzOf l j)) = some (decide (i = j)) := by
  by_cases h : i = j
  · subst h
    rw [kk_self, decide_eq_true rfl]
  · rw [decide_eq_false h]
    have n2 := List.nodup_cons.mp nd
    have pw := List.pairwise_iff_getElem.mp n2.2
    refine kk_of (c i hi) (c j hj) (fun z => ?_) fun z => n2.1 ?_
    · rw [← czof_get hi, ← czof_get hj] at z
      rcases Nat.lt_or_gt_of_ne h with lt | lt
      · exact pw i j hi hj lt z
      · exact pw j i hj hi lt z.symm
    · rw [← z, ← czof_get hj]
      exact List.getElem_mem hj
theorem ne_all {CE : Addr} {l : List Addr} (nd : (CE :: l).Nodup) (i : Nat) (hi : i < l.length) : CzOf l i ≠ CE := fun z => (List.nodup_cons.mp nd).1 (by rw [← z, ← czof_get hi]; exact List.getElem_mem hi)
theorem vals_two {x y : V} {us : List Value} (h : Vals [x, y] us) : Vals [y, x] us.reverse := by
  match us, h with
  | [a, b], .cons r1 (.cons r2 .nil) => exact .cons r2 (.cons r1 .nil)
theorem vals_revW : ∀ {xs : List V} {us : List Value}, Vals xs us → Vals xs.reverse us.reverse
  | [], _, .nil => .nil
  | x :: xs, u :: us, .cons r h => by
    rw [List.reverse_cons, List.reverse_cons]
    exact (vals_revW h).append (.cons r .nil)
/-- what the law promises where the script is laid -/
structure LawG (l : PySem.W.OpenLaw) (w : World) (K : PySem.W.Frag) (k : Nat) (mg : Str → Option Value) (fa : Addr) (h : Heap) (fd : FuncData) (cs : List (Addr × Addr)) (sp : Sp) : Prop where
  tabs : ∀ p ∈ cs, h.get? p.2 = some { cls := .none, data := .fields #[] }
  untold : ∀ p ∈ cs, K.lookup p.2 = none
  codes : ∀ p ∈ cs, PySem.W.CodeHd h p.1 p.2
  binds : ∀ (s : Shared) (u : Value), BindsTo s fd ⟨[u], []⟩ [("_law_script", u)]
  starts : ∀ (H : Hp) (a : Addr) (ns : List Int), ns.length ≤ 63 → (∀ z ∈ ns, Builtin.Int.intBits z ≤ 1048576) → (∀ p ∈ cs, H p.2 = some (.tbl #[])) → SqL K H a (ns.map V.int) → sp [.ref a] H (fun v _ => v = .bl true) fun _ _ _ => False
  runs : ∀ base : Heap, SysIn base → K.In base → base.Ns mainGlobals mg → (∀ p ∈ cs, TabB base mg p.1 p.2) → FnG l.prog w K mg base CX0 k fa fd ["_law_script"] sp
/-- the names of the lambdas, by their tables -/
def TLs (p1 p2 p3 p4 : Addr) : List (Addr × Str) := [(p1, (("_law_texts_right" : Str) ++ ".<locals>.") ++ "<lambda>"), (p2, (("_law_joined_right" : Str) ++ ".<locals>.") ++ "<lambda>"), (p3, (("_law_refused_right" : Str) ++ ".<locals>.") ++ "<lambda>"), (p4, (("law" : Str) ++ ".<locals>.") ++ "<lambda>")]
theorem all_mk {l : PySem.W.OpenLaw} {w : World} {K : PySem.W.Frag} {fa : Addr} {h : Heap} {mg : Str → Option Value} {CW CE q1 p1 q2 p2 q3 p3 q4 p4 C0 N0 C1 N1 C2 N2 C3 N3 C4 N4 C5 N5 f0 f1 f2 f3 f4 f5 f6 f7 f8 f9 f10 f11 f12 f13 f14 f15 f16 f17 f18 f19 f20 f21 f22 f23 f24 f25 f26 f27 f28 f29 f30 f31 f32 f33 f34 f35 : Addr} {od0 an0 od1 an1 od2 an2 od3 an3 od4 an4 od5 an5 od6 an6 od7 an7 od8 an8 od9 an9 od10 an10 od11 an11 od12 an12 od13 an13 od14 an14 od15 an15 od16 an16 od17 an17 od18 an18 od19 an19 od20 an20 od21 an21 od22 an22 od23 an23 od24 an24 od25 an25 od26 an26 od27 an27 od28 an28 od29 an29 od30 an30 od31 an31 od32 an32 od33 an33 od34 an34 od35 an35 qd1 qd2 qd3 qd4 : Option Addr} {sl0 sl1 sl2 sl3 sl4 sl5 sl6 sl7 sl8 sl9 sl10 sl11 sl12 sl13 sl14 sl15 sl16 sl17 sl18 sl19 sl20 sl21 sl22 sl23 sl24 sl25 sl26 sl27 sl28 sl29 sl30 sl31 sl32 sl33 sl34 sl35 qs1 qs2 qs3 qs4 : Array (Option Value)} {oc0 kV0 dc0 pm0 cd0 ct0 oc1 kV1 dc1 pm1 cd1 ct1 oc2 kV2 dc2 pm2 cd2 ct2 oc3 kV3 dc3 pm3 cd3 ct3 oc4 kV4 dc4 pm4 cd4 ct4 oc5 kV5 dc5 pm5 cd5 ct5 oc6 kV6 dc6 pm6 cd6 ct6 oc7 kV7 dc7 pm7 cd7 ct7 oc8 kV8 dc8 pm8 cd8 ct8 oc9 kV9 dc9 pm9 cd9 ct9 oc10 kV10 dc10 pm10 cd10 ct10 oc11 kV11 dc11 pm11 cd11 ct11 oc12 kV12 dc12 pm12 cd12 ct12 oc13 kV13 dc13 pm13 cd13 ct13 oc14 kV14 dc14 pm14 cd14 ct14 oc15 kV15 dc15 pm15 cd15 ct15 oc16 kV16 dc16 pm16 cd16 ct16 oc17 kV17 dc17 pm17 cd17 ct17 oc18 kV18 dc18 pm18 ct18 oc19 kV19 dc19 pm19 ct19 oc20 kV20 dc20 pm20 ct20 oc21 kV21 dc21 pm21 ct21 oc22 kV22 dc22 pm22 cd22 ct22 oc23 kV23 dc23 pm23 cd23 ct23 oc24 kV24 dc24 pm24 cd24 ct24 oc25 kV25 dc25 pm25 cd25 ct25 oc26 kV26 dc26 pm26 cd26 ct26 oc27 kV27 dc27 pm27 cd27 ct27 oc28 kV28 dc28 pm28 cd28 ct28 oc29 kV29 dc29 pm29 cd29 ct29 oc30 kV30 dc30 pm30 cd30 ct30 oc31 kV31 dc31 pm31 cd31 ct31 oc32 kV32 dc32 pm32 cd32 ct32 oc33 kV33 dc33 pm33 cd33 ct33 oc34 kV34 dc34 pm34 cd34 ct34 oc35 kV35 dc35 pm35 cd35 ct35 : Value} {vs1 vs2 vs3 vs4 : Array Value} {bs0 sub0 bs1 sub1 bs2 sub2 bs3 sub3 bs4 sub4 bs5 sub5 : List Value} {tk1 tk2 tk3 tk4 qt1 qm1 qy1 qt2 qm2 qy2 qt3 qm3 qy3 qt4 qm4 qy4 : Tok} {ql1 qx1 ql2 qx2 ql3 qx3 ql4 qx4 : Int} {qi1 qi2 qi3 qi4 : Bool} {qf1 qf2 qf3 qf4 nm0 qq0 nm1 qq1 nm2 qq2 nm3 qq3 nm4 qq4 nm5 qq5 : Str} {sn0 sn1 sn2 sn3 sn4 sn5 : List Str} {ab0 ab1 ab2 ab3 ab4 ab5 : Bool} {col0 col1 col2 col3 col4 col5 : Option Bool} {dd0 dd1 dd2 dd3 dd4 dd5 : Option Addr} {m00 m01 m02 m03 m05 m10 m11 m12 m13 m15 m20 m21 m22 m23 m25 m30 m31 m32 m33 m35 m40 m41 m42 m43 m45 m50 m51 m52 m53 m55 fo_NoneType ro_NoneType fo_dict ro_dict fo_str ro_str fo_int ro_int : Option Value} (X : K.In h) (G : h.Ns mainGlobals mg) (hfa : mg "law" = some (.ref fa)) (own : OwnTab K fa h) (own1 : ∀ fb, mg "_law_texts_right" = some (.ref fb) → OwnTab K fb h) (own2 : ∀ fb, mg "_law_joined_right" = some (.ref fb) → OwnTab K fb h) (own3 : ∀ fb, mg "_law_refused_right" = some (.ref fb) → OwnTab K fb h)
    (aW : PySem.W.nsIn K mainGlobals "WriteTable" = some (some (.ref CW)))
    (aE : PySem.W.nsIn K mainGlobals "RepairError" = some (some (.ref CE)))
    (a_BadTable : PySem.W.nsIn K mainGlobals "BadTable" = some (some (.ref C0)))
    (a_BadLetter : PySem.W.nsIn K mainGlobals "BadLetter" = some (some (.ref C1)))
    (a_BadCode : PySem.W.nsIn K mainGlobals "BadCode" = some (some (.ref C2)))
    (a_NoSign : PySem.W.nsIn K mainGlobals "NoSign" = some (some (.ref C3)))
    (a_BadWord : PySem.W.nsIn K mainGlobals "BadWord" = some (some (.ref C4)))
    (a_Unlike : PySem.W.nsIn K mainGlobals "Unlike" = some (some (.ref C5)))
    (a0 : PySem.W.nsIn K mainGlobals "copied" = some (some (.ref f0)))
    (l0 : K.lookup f0 = some ⟨oc0, od0, .func (PySem.W.fnOf "copied" "copied" (defArgs s_copied) (defBody s_copied) (defScope s_copied) .none kV0 dc0 pm0 an0 cd0 ct0), sl0⟩) (c0 : PySem.W.codeIn K cd0 "copied" = true) (k0 : PySem.W.keepIn K (.ref f0) = true)
    (a1 : PySem.W.nsIn K mainGlobals "is_letter" = some (some (.ref f1)))
    (l1 : K.lookup f1 = some ⟨oc1, od1, .func (PySem.W.fnOf "is_letter" "is_letter" (defArgs s_is_letter) (defBody s_is_letter) (defScope s_is_letter) .none kV1 dc1 pm1 an1 cd1 ct1), sl1⟩) (c1 : PySem.W.codeIn K cd1 "is_letter" = true) (k1 : PySem.W.keepIn K (.ref f1) = true)
    (a2 : PySem.W.nsIn K mainGlobals "is_integer" = some (some (.ref f2)))
    (l2 : K.lookup f2 = some ⟨oc2, od2, .func (PySem.W.fnOf "is_integer" "is_integer" (defArgs s_is_integer) (defBody s_is_integer) (defScope s_is_integer) .none kV2 dc2 pm2 an2 cd2 ct2), sl2⟩) (c2 : PySem.W.codeIn K cd2 "is_integer" = true) (k2 : PySem.W.keepIn K (.ref f2) = true)
    (a3 : PySem.W.nsIn K mainGlobals "is_between" = some (some (.ref f3)))
    (l3 : K.lookup f3 = some ⟨oc3, od3, .func (PySem.W.fnOf "is_between" "is_between" (defArgs s_is_between) (defBody s_is_between) (defScope s_is_between) .none kV3 dc3 pm3 an3 cd3 ct3), sl3⟩) (c3 : PySem.W.codeIn K cd3 "is_between" = true) (k3 : PySem.W.keepIn K (.ref f3) = true)
    (a4 : PySem.W.nsIn K mainGlobals "is_number" = some (some (.ref f4)))
    (l4 : K.lookup f4 = some ⟨oc4, od4, .func (PySem.W.fnOf "is_number" "is_number" (defArgs s_is_number) (defBody s_is_number) (defScope s_is_number) .none kV4 dc4 pm4 an4 cd4 ct4), sl4⟩) (c4 : PySem.W.codeIn K cd4 "is_number" = true) (k4 : PySem.W.keepIn K (.ref f4) = true)
    (a5 : PySem.W.nsIn K mainGlobals "is_code" = some (some (.ref f5)))
    (l5 : K.lookup f5 = some ⟨oc5, od5, .func (PySem.W.fnOf "is_code" "is_code" (defArgs s_is_code) (defBody s_is_code) (defScope s_is_code) .none kV5 dc5 pm5 an5 cd5 ct5), sl5⟩) (c5 : PySem.W.codeIn K cd5 "is_code" = true) (k5 : PySem.W.keepIn K (.ref f5) = true)
    (a6 : PySem.W.nsIn K mainGlobals "all_letters" = some (some (.ref f6)))
    (l6 : K.lookup f6 = some ⟨oc6, od6, .func (PySem.W.fnOf "all_letters" "all_letters" (defArgs s_all_letters) (defBody s_all_letters) (defScope s_all_letters) .none kV6 dc6 pm6 an6 cd6 ct6), sl6⟩) (c6 : PySem.W.codeIn K cd6 "all_letters" = true) (k6 : PySem.W.keepIn K (.ref f6) = true)
    (a7 : PySem.W.nsIn K mainGlobals "is_text" = some (some (.ref f7)))
    (l7 : K.lookup f7 = some ⟨oc7, od7, .func (PySem.W.fnOf "is_text" "is_text" (defArgs s_is_text) (defBody s_is_text) (defScope s_is_text) .none kV7 dc7 pm7 an7 cd7 ct7), sl7⟩) (c7 : PySem.W.codeIn K cd7 "is_text" = true) (k7 : PySem.W.keepIn K (.ref f7) = true)
    (a8 : PySem.W.nsIn K mainGlobals "check_text" = some (some (.ref f8)))
    (l8 : K.lookup f8 = some ⟨oc8, od8, .func (PySem.W.fnOf "check_text" "check_text" (defArgs s_check_text) (defBody s_check_text) (defScope s_check_text) .none kV8 dc8 pm8 an8 cd8 ct8), sl8⟩) (c8 : PySem.W.codeIn K cd8 "check_text" = true) (k8 : PySem.W.keepIn K (.ref f8) = true)
    (a9 : PySem.W.nsIn K mainGlobals "check_codes" = some (some (.ref f9)))
    (l9 : K.lookup f9 = some ⟨oc9, od9, .func (PySem.W.fnOf "check_codes" "check_codes" (defArgs s_check_codes) (defBody s_check_codes) (defScope s_check_codes) .none kV9 dc9 pm9 an9 cd9 ct9), sl9⟩) (c9 : PySem.W.codeIn K cd9 "check_codes" = true) (k9 : PySem.W.keepIn K (.ref f9) = true)
    (a10 : PySem.W.nsIn K mainGlobals "_law_pen" = some (some (.ref f10)))
    (l10 : K.lookup f10 = some ⟨oc10, od10, .func (PySem.W.fnOf "_law_pen" "_law_pen" (defArgs s_pen) (defBody s_pen) (defScope s_pen) .none kV10 dc10 pm10 an10 cd10 ct10), sl10⟩) (c10 : PySem.W.codeIn K cd10 "_law_pen" = true) (k10 : PySem.W.keepIn K (.ref f10) = true)
    (a11 : PySem.W.nsIn K mainGlobals "_law_draw" = some (some (.ref f11)))
    (l11 : K.lookup f11 = some ⟨oc11, od11, .func (PySem.W.fnOf "_law_draw" "_law_draw" (defArgs s_draw) (defBody s_draw) (defScope s_draw) .none kV11 dc11 pm11 an11 cd11 ct11), sl11⟩) (c11 : PySem.W.codeIn K cd11 "_law_draw" = true) (k11 : PySem.W.keepIn K (.ref f11) = true)
    (a12 : PySem.W.nsIn K mainGlobals "_law_pick" = some (some (.ref f12)))
    (l12 : K.lookup f12 = some ⟨oc12, od12, .func (PySem.W.fnOf "_law_pick" "_law_pick" (defArgs s_pick) (defBody s_pick) (defScope s_pick) .none kV12 dc12 pm12 an12 cd12 ct12), sl12⟩) (c12 : PySem.W.codeIn K cd12 "_law_pick" = true) (k12 : PySem.W.keepIn K (.ref f12) = true)
    (a13 : PySem.W.nsIn K mainGlobals "_law_shuffled" = some (some (.ref f13)))
    (l13 : K.lookup f13 = some ⟨oc13, od13, .func (PySem.W.fnOf "_law_shuffled" "_law_shuffled" (defArgs s_shuffled) (defBody s_shuffled) (defScope s_shuffled) .none kV13 dc13 pm13 an13 cd13 ct13), sl13⟩) (c13 : PySem.W.codeIn K cd13 "_law_shuffled" = true) (k13 : PySem.W.keepIn K (.ref f13) = true)
    (a14 : PySem.W.nsIn K mainGlobals "_law_letters" = some (some (.ref f14)))
    (l14 : K.lookup f14 = some ⟨oc14, od14, .func (PySem.W.fnOf "_law_letters" "_law_letters" (defArgs s__law_letters) (defBody s__law_letters) (defScope s__law_letters) .none kV14 dc14 pm14 an14 cd14 ct14), sl14⟩) (c14 : PySem.W.codeIn K cd14 "_law_letters" = true) (k14 : PySem.W.keepIn K (.ref f14) = true)
    (a15 : PySem.W.nsIn K mainGlobals "_law_codes" = some (some (.ref f15)))
    (l15 : K.lookup f15 = some ⟨oc15, od15, .func (PySem.W.fnOf "_law_codes" "_law_codes" (defArgs s_codes) (defBody s_codes) (defScope s_codes) .none kV15 dc15 pm15 an15 cd15 ct15), sl15⟩) (c15 : PySem.W.codeIn K cd15 "_law_codes" = true) (k15 : PySem.W.keepIn K (.ref f15) = true)
    (a16 : PySem.W.nsIn K mainGlobals "_law_heard" = some (some (.ref f16)))
    (l16 : K.lookup f16 = some ⟨oc16, od16, .func (PySem.W.fnOf "_law_heard" "_law_heard" (defArgs s_heard) (defBody s_heard) (defScope s_heard) .none kV16 dc16 pm16 an16 cd16 ct16), sl16⟩) (c16 : PySem.W.codeIn K cd16 "_law_heard" = true) (k16 : PySem.W.keepIn K (.ref f16) = true)
    (a17 : PySem.W.nsIn K mainGlobals "_law_tells" = some (some (.ref f17)))
    (l17 : K.lookup f17 = some ⟨oc17, od17, .func (PySem.W.fnOf "_law_tells" "_law_tells" (defArgs s__law_tells) (defBody s__law_tells) (defScope s__law_tells) .none kV17 dc17 pm17 an17 cd17 ct17), sl17⟩) (c17 : PySem.W.codeIn K cd17 "_law_tells" = true) (k17 : PySem.W.keepIn K (.ref f17) = true)
    (a18 : PySem.W.nsIn K mainGlobals "_law_texts_right" = some (some (.ref f18)))
    (l18 : K.lookup f18 = some ⟨oc18, od18, .func (PySem.W.fnOf "_law_texts_right" "_law_texts_right" (defArgs s__law_texts_right) (defBody s__law_texts_right) (defScope s__law_texts_right) .none kV18 dc18 pm18 an18 (.ref q1) ct18), sl18⟩) (c18 : PySem.W.codeIn K (.ref q1) "_law_texts_right" = true) (k18 : PySem.W.keepIn K (.ref f18) = true)
    (a19 : PySem.W.nsIn K mainGlobals "_law_joined_right" = some (some (.ref f19)))
    (l19 : K.lookup f19 = some ⟨oc19, od19, .func (PySem.W.fnOf "_law_joined_right" "_law_joined_right" (defArgs s__law_joined_right) (defBody s__law_joined_right) (defScope s__law_joined_right) .none kV19 dc19 pm19 an19 (.ref q2) ct19), sl19⟩) (c19 : PySem.W.codeIn K (.ref q2) "_law_joined_right" = true) (k19 : PySem.W.keepIn K (.ref f19) = true)
    (a20 : PySem.W.nsIn K mainGlobals "_law_refused_right" = some (some (.ref f20)))
    (l20 : K.lookup f20 = some ⟨oc20, od20, .func (PySem.W.fnOf "_law_refused_right" "_law_refused_right" (defArgs s__law_refused_right) (defBody s__law_refused_right) (defScope s__law_refused_right) .none kV20 dc20 pm20 an20 (.ref q3) ct20), sl20⟩) (c20 : PySem.W.codeIn K (.ref q3) "_law_refused_right" = true) (k20 : PySem.W.keepIn K (.ref f20) = true)
    (a21 : PySem.W.nsIn K mainGlobals "law" = some (some (.ref f21)))
    (l21 : K.lookup f21 = some ⟨oc21, od21, .func (PySem.W.fnOf "law" "law" (defArgs s_law) (defBody s_law) (defScope s_law) .none kV21 dc21 pm21 an21 (.ref q4) ct21), sl21⟩) (c21 : PySem.W.codeIn K (.ref q4) "law" = true) (k21 : PySem.W.keepIn K (.ref f21) = true)
    (a22 : PySem.W.findIn K (.ref CW) "__init__" = some (some (.ref f22)))
    (i22 : PySem.W.isFn K (.ref f22) = true)
    (l22 : K.lookup f22 = some ⟨oc22, od22, .func (PySem.W.fnOf "__init__" "WriteTable.__init__" (defArgs s_WriteTable_init) (defBody s_WriteTable_init) (defScope s_WriteTable_init) .none kV22 dc22 pm22 an22 cd22 ct22), sl22⟩) (c22 : PySem.W.codeIn K cd22 "WriteTable.__init__" = true) (k22 : PySem.W.keepIn K (.ref f22) = true)
    (n22 : PySem.W.fnIn K f22 = true)
    (a23 : PySem.W.findIn K (.ref CW) "__iter__" = some (some (.ref f23)))
    (i23 : PySem.W.isFn K (.ref f23) = true)
    (l23 : K.lookup f23 = some ⟨oc23, od23, .func (PySem.W.fnOf "__iter__" "WriteTable.__iter__" (defArgs s_WriteTable_iter) (defBody s_WriteTable_iter) (defScope s_WriteTable_iter) .none kV23 dc23 pm23 an23 cd23 ct23), sl23⟩) (c23 : PySem.W.codeIn K cd23 "WriteTable.__iter__" = true) (k23 : PySem.W.keepIn K (.ref f23) = true)
    (n23 : PySem.W.fnIn K f23 = true)
    (a24 : PySem.W.findIn K (.ref CW) "__len__" = some (some (.ref f24)))
    (i24 : PySem.W.isFn K (.ref f24) = true)
    (l24 : K.lookup f24 = some ⟨oc24, od24, .func (PySem.W.fnOf "__len__" "WriteTable.__len__" (defArgs s_WriteTable_len) (defBody s_WriteTable_len) (defScope s_WriteTable_len) .none kV24 dc24 pm24 an24 cd24 ct24), sl24⟩) (c24 : PySem.W.codeIn K cd24 "WriteTable.__len__" = true) (k24 : PySem.W.keepIn K (.ref f24) = true)
    (n24 : PySem.W.fnIn K f24 = true)
    (a25 : PySem.W.findIn K (.ref CW) "__contains__" = some (some (.ref f25)))
    (i25 : PySem.W.isFn K (.ref f25) = true)
    (l25 : K.lookup f25 = some ⟨oc25, od25, .func (PySem.W.fnOf "__contains__" "WriteTable.__contains__" (defArgs s_WriteTable_contains) (defBody s_WriteTable_contains) (defScope s_WriteTable_contains) .none kV25 dc25 pm25 an25 cd25 ct25), sl25⟩) (c25 : PySem.W.codeIn K cd25 "WriteTable.__contains__" = true) (k25 : PySem.W.keepIn K (.ref f25) = true)
    (n25 : PySem.W.fnIn K f25 = true)
    (a26 : PySem.W.findIn K (.ref CW) "__getitem__" = some (some (.ref f26)))
    (i26 : PySem.W.isFn K (.ref f26) = true)
    (l26 : K.lookup f26 = some ⟨oc26, od26, .func (PySem.W.fnOf "__getitem__" "WriteTable.__getitem__" (defArgs s_WriteTable_getitem) (defBody s_WriteTable_getitem) (defScope s_WriteTable_getitem) .none kV26 dc26 pm26 an26 cd26 ct26), sl26⟩) (c26 : PySem.W.codeIn K cd26 "WriteTable.__getitem__" = true) (k26 : PySem.W.keepIn K (.ref f26) = true)
    (n26 : PySem.W.fnIn K f26 = true)
    (a27 : PySem.W.findIn K (.ref CW) "__call__" = some (some (.ref f27)))
    (i27 : PySem.W.isFn K (.ref f27) = true)
    (l27 : K.lookup f27 = some ⟨oc27, od27, .func (PySem.W.fnOf "__call__" "WriteTable.__call__" (defArgs s_WriteTable_call) (defBody s_WriteTable_call) (defScope s_WriteTable_call) .none kV27 dc27 pm27 an27 cd27 ct27), sl27⟩) (c27 : PySem.W.codeIn K cd27 "WriteTable.__call__" = true) (k27 : PySem.W.keepIn K (.ref f27) = true)
    (n27 : PySem.W.fnIn K f27 = true)
    (a28 : PySem.W.findIn K (.ref CW) "__eq__" = some (some (.ref f28)))
    (i28 : PySem.W.isFn K (.ref f28) = true)
    (l28 : K.lookup f28 = some ⟨oc28, od28, .func (PySem.W.fnOf "__eq__" "WriteTable.__eq__" (defArgs s_WriteTable_eq) (defBody s_WriteTable_eq) (defScope s_WriteTable_eq) .none kV28 dc28 pm28 an28 cd28 ct28), sl28⟩) (c28 : PySem.W.codeIn K cd28 "WriteTable.__eq__" = true) (k28 : PySem.W.keepIn K (.ref f28) = true)
    (n28 : PySem.W.fnIn K f28 = true)
    (a29 : PySem.W.findIn K (.ref CW) "__or__" = some (some (.ref f29)))
    (i29 : PySem.W.isFn K (.ref f29) = true)
    (l29 : K.lookup f29 = some ⟨oc29, od29, .func (PySem.W.fnOf "__or__" "WriteTable.__or__" (defArgs s_WriteTable_or) (defBody s_WriteTable_or) (defScope s_WriteTable_or) .none kV29 dc29 pm29 an29 cd29 ct29), sl29⟩) (c29 : PySem.W.codeIn K cd29 "WriteTable.__or__" = true) (k29 : PySem.W.keepIn K (.ref f29) = true)
    (n29 : PySem.W.fnIn K f29 = true)
    (a30 : PySem.W.findIn K (.ref C0) "__init__" = some (some (.ref f30)))
    (y30 : PySem.W.typeIn K (.ref f30) = some (.type "function"))
    (l30 : K.lookup f30 = some ⟨oc30, od30, .func (PySem.W.fnOf "__init__" "BadTable.__init__" (defArgs s_BadTable_init) (defBody s_BadTable_init) (defScope s_BadTable_init) .none kV30 dc30 pm30 an30 cd30 ct30), sl30⟩) (c30 : PySem.W.codeIn K cd30 "BadTable.__init__" = true) (k30 : PySem.W.keepIn K (.ref f30) = true)
    (a31 : PySem.W.findIn K (.ref C1) "__init__" = some (some (.ref f31)))
    (y31 : PySem.W.typeIn K (.ref f31) = some (.type "function"))
    (l31 : K.lookup f31 = some ⟨oc31, od31, .func (PySem.W.fnOf "__init__" "BadLetter.__init__" (defArgs s_BadLetter_init) (defBody s_BadLetter_init) (defScope s_BadLetter_init) .none kV31 dc31 pm31 an31 cd31 ct31), sl31⟩) (c31 : PySem.W.codeIn K cd31 "BadLetter.__init__" = true) (k31 : PySem.W.keepIn K (.ref f31) = true)
    (a32 : PySem.W.findIn K (.ref C2) "__init__" = some (some (.ref f32)))
    (y32 : PySem.W.typeIn K (.ref f32) = some (.type "function"))
    (l32 : K.lookup f32 = some ⟨oc32, od32, .func (PySem.W.fnOf "__init__" "BadCode.__init__" (defArgs s_BadCode_init) (defBody s_BadCode_init) (defScope s_BadCode_init) .none kV32 dc32 pm32 an32 cd32 ct32), sl32⟩) (c32 : PySem.W.codeIn K cd32 "BadCode.__init__" = true) (k32 : PySem.W.keepIn K (.ref f32) = true)
    (a33 : PySem.W.findIn K (.ref C3) "__init__" = some (some (.ref f33)))
    (y33 : PySem.W.typeIn K (.ref f33) = some (.type "function"))
    (l33 : K.lookup f33 = some ⟨oc33, od33, .func (PySem.W.fnOf "__init__" "NoSign.__init__" (defArgs s_NoSign_init) (defBody s_NoSign_init) (defScope s_NoSign_init) .none kV33 dc33 pm33 an33 cd33 ct33), sl33⟩) (c33 : PySem.W.codeIn K cd33 "NoSign.__init__" = true) (k33 : PySem.W.keepIn K (.ref f33) = true)
    (a34 : PySem.W.findIn K (.ref C4) "__init__" = some (some (.ref f34)))
    (y34 : PySem.W.typeIn K (.ref f34) = some (.type "function"))
    (l34 : K.lookup f34 = some ⟨oc34, od34, .func (PySem.W.fnOf "__init__" "BadWord.__init__" (defArgs s_BadWord_init) (defBody s_BadWord_init) (defScope s_BadWord_init) .none kV34 dc34 pm34 an34 cd34 ct34), sl34⟩) (c34 : PySem.W.codeIn K cd34 "BadWord.__init__" = true) (k34 : PySem.W.keepIn K (.ref f34) = true)
    (a35 : PySem.W.findIn K (.ref C5) "__init__" = some (some (.ref f35)))
    (y35 : PySem.W.typeIn K (.ref f35) = some (.type "function"))
    (l35 : K.lookup f35 = some ⟨oc35, od35, .func (PySem.W.fnOf "__init__" "Unlike.__init__" (defArgs s_Unlike_init) (defBody s_Unlike_init) (defScope s_Unlike_init) .none kV35 dc35 pm35 an35 cd35 ct35), sl35⟩) (c35 : PySem.W.codeIn K cd35 "Unlike.__init__" = true) (k35 : PySem.W.keepIn K (.ref f35) = true)
    (x_BadTable : K.lookup C0 = some (excClassObj nm0 qq0 C0 N0 bs0 [.ref CE, .type "ValueError", .type "Exception", .type "BaseException", .type "object"] true sn0 sub0 ab0 col0 dd0 m00 m01 m02 m03 m05 "ValueError.__new__"))
    (s_BadTable : PySem.W.findIn K (.ref C0) "__setattr__" = some (some (.builtin "object.__setattr__")))
    (k_BadTable : PySem.W.keepIn K (.ref C0) = true)
    (hg_BadTable : PySem.W.findIn K (.ref C0) "__getattribute__" = some (some (.builtin "BaseException.__getattribute__")))
    (hk_BadTable : PySem.W.findIn K (.ref C0) "__getattr__" = some none)
    (ha_BadTable : PySem.W.findIn K (.ref C0) "__class__" = some (some (.builtin "object.__class__")))
    (n_BadTable_part : PySem.W.findIn K (.ref C0) "part" = some none)
    (x_BadLetter : K.lookup C1 = some (excClassObj nm1 qq1 C1 N1 bs1 [.ref CE, .type "ValueError", .type "Exception", .type "BaseException", .type "object"] true sn1 sub1 ab1 col1 dd1 m10 m11 m12 m13 m15 "ValueError.__new__"))
    (s_BadLetter : PySem.W.findIn K (.ref C1) "__setattr__" = some (some (.builtin "object.__setattr__")))
    (k_BadLetter : PySem.W.keepIn K (.ref C1) = true)
    (hg_BadLetter : PySem.W.findIn K (.ref C1) "__getattribute__" = some (some (.builtin "BaseException.__getattribute__")))
    (hk_BadLetter : PySem.W.findIn K (.ref C1) "__getattr__" = some none)
    (ha_BadLetter : PySem.W.findIn K (.ref C1) "__class__" = some (some (.builtin "object.__class__")))
    (n_BadLetter_value : PySem.W.findIn K (.ref C1) "value" = some none)
    (x_BadCode : K.lookup C2 = some (excClassObj nm2 qq2 C2 N2 bs2 [.ref CE, .type "ValueError", .type "Exception", .type "BaseException", .type "object"] true sn2 sub2 ab2 col2 dd2 m20 m21 m22 m23 m25 "ValueError.__new__"))
    (s_BadCode : PySem.W.findIn K (.ref C2) "__setattr__" = some (some (.builtin "object.__setattr__")))
    (k_BadCode : PySem.W.keepIn K (.ref C2) = true)
    (hg_BadCode : PySem.W.findIn K (.ref C2) "__getattribute__" = some (some (.builtin "BaseException.__getattribute__")))
    (hk_BadCode : PySem.W.findIn K (.ref C2) "__getattr__" = some none)
    (ha_BadCode : PySem.W.findIn K (.ref C2) "__class__" = some (some (.builtin "object.__class__")))
    (n_BadCode_value : PySem.W.findIn K (.ref C2) "value" = some none)
    (x_NoSign : K.lookup C3 = some (excClassObj nm3 qq3 C3 N3 bs3 [.ref CE, .type "ValueError", .type "Exception", .type "BaseException", .type "object"] true sn3 sub3 ab3 col3 dd3 m30 m31 m32 m33 m35 "ValueError.__new__"))
    (s_NoSign : PySem.W.findIn K (.ref C3) "__setattr__" = some (some (.builtin "object.__setattr__")))
    (k_NoSign : PySem.W.keepIn K (.ref C3) = true)
    (hg_NoSign : PySem.W.findIn K (.ref C3) "__getattribute__" = some (some (.builtin "BaseException.__getattribute__")))
    (hk_NoSign : PySem.W.findIn K (.ref C3) "__getattr__" = some none)
    (ha_NoSign : PySem.W.findIn K (.ref C3) "__class__" = some (some (.builtin "object.__class__")))
    (n_NoSign_letter : PySem.W.findIn K (.ref C3) "letter" = some none)
    (x_BadWord : K.lookup C4 = some (excClassObj nm4 qq4 C4 N4 bs4 [.ref CE, .type "ValueError", .type "Exception", .type "BaseException", .type "object"] true sn4 sub4 ab4 col4 dd4 m40 m41 m42 m43 m45 "ValueError.__new__"))
    (s_BadWord : PySem.W.findIn K (.ref C4) "__setattr__" = some (some (.builtin "object.__setattr__")))
    (k_BadWord : PySem.W.keepIn K (.ref C4) = true)
    (hg_BadWord : PySem.W.findIn K (.ref C4) "__getattribute__" = some (some (.builtin "BaseException.__getattribute__")))
    (hk_BadWord : PySem.W.findIn K (.ref C4) "__getattr__" = some none)
    (ha_BadWord : PySem.W.findIn K (.ref C4) "__class__" = some (some (.builtin "object.__class__")))
    (n_BadWord_value : PySem.W.findIn K (.ref C4) "value" = some none)
    (x_Unlike : K.lookup C5 = some (excClassObj nm5 qq5 C5 N5 bs5 [.ref CE, .type "ValueError", .type "Exception", .type "BaseException", .type "object"] true sn5 sub5 ab5 col5 dd5 m50 m51 m52 m53 m55 "ValueError.__new__"))
    (s_Unlike : PySem.W.findIn K (.ref C5) "__setattr__" = some (some (.builtin "object.__setattr__")))
    (k_Unlike : PySem.W.keepIn K (.ref C5) = true)
    (hg_Unlike : PySem.W.findIn K (.ref C5) "__getattribute__" = some (some (.builtin "BaseException.__getattribute__")))
    (hk_Unlike : PySem.W.findIn K (.ref C5) "__getattr__" = some none)
    (ha_Unlike : PySem.W.findIn K (.ref C5) "__class__" = some (some (.builtin "object.__class__")))
    (n_Unlike_letter : PySem.W.findIn K (.ref C5) "letter" = some none)
    (eR : PySem.W.subIn K (.ref CE) (.type "BaseException") = some true)
    (tyR : PySem.W.typeIn K (.ref CE) = some (.type "type"))
    (iR : PySem.W.isClsIn K CE = true)
    (rdR : PySem.W.readsIn K CE (.type "type") = true)
    (gaR : PySem.W.specialIn K (.ref CE) "__getattribute__" = some (some (.builtin "type.__getattribute__")))
    (vR : PySem.W.findCls K (.ref CE) (.type "type") "__init__" = some (.val (.builtin "ValueError.__init__")))
    (pgW : PySem.W.plainGet K CW Str.empty = true)
    (hdW : PySem.W.hasDictIn K CW = true)
    (poW : PySem.W.plainOver K CW = true)
    (saW : PySem.W.findIn K (.ref CW) "__setattr__" = some (some (.builtin "object.__setattr__")))
    (mkW : PySem.W.makesIn K CW = true)
    (kcW : PySem.W.keepIn K (.ref CW) = true)
    (nnW : PySem.W.findIn K (.ref CW) "_codes" = some none)
    (caW : PySem.W.findIn K (.ref CW) "__class__" = some (some (.builtin "object.__class__")))
    (cdW : PySem.W.mroIn K CW (.type "object") = some true)
    (nfW : PySem.W.notFirst K CW (.ref CW) = true)
    (kkW : PySem.W.kitOne K (.ref CW) (.ref CW) = some true)
    (nfd : PySem.W.notFirst K CW (.type "dict") = true)
    (neW : PySem.W.findIn K (.ref CW) "__ne__" = some (some (.builtin "object.__ne__")))
    (sfW : PySem.W.selfFirst K CW = true)
    (roW : PySem.W.findIn K (.ref CW) "__ror__" = some none)
    (oo_NoneType : PySem.W.findIn K (.type "NoneType") "__or__" = some fo_NoneType)
    (or_NoneType : PySem.W.findIn K (.type "NoneType") "__ror__" = some ro_NoneType)
    (os_NoneType : PySem.W.subIn K (.type "NoneType") (.ref CW) = some false)
    (ok_NoneType : PySem.W.kitOne K (.type "NoneType") (.ref CW) = some false)
    (oo_dict : PySem.W.findIn K (.type "dict") "__or__" = some fo_dict)
    (or_dict : PySem.W.findIn K (.type "dict") "__ror__" = some ro_dict)
    (os_dict : PySem.W.subIn K (.type "dict") (.ref CW) = some false)
    (ok_dict : PySem.W.kitOne K (.type "dict") (.ref CW) = some false)
    (oo_str : PySem.W.findIn K (.type "str") "__or__" = some fo_str)
    (or_str : PySem.W.findIn K (.type "str") "__ror__" = some ro_str)
    (os_str : PySem.W.subIn K (.type "str") (.ref CW) = some false)
    (ok_str : PySem.W.kitOne K (.type "str") (.ref CW) = some false)
    (oo_int : PySem.W.findIn K (.type "int") "__or__" = some fo_int)
    (or_int : PySem.W.findIn K (.type "int") "__ror__" = some ro_int)
    (os_int : PySem.W.subIn K (.type "int") (.ref CW) = some false)
    (ok_int : PySem.W.kitOne K (.type "int") (.ref CW) = some false)
    (tB : PySem.W.specialIn K (.builtin "object.__class__") "__get__" = some (some (.builtin "getset_descriptor.__get__")))
    (tC : PySem.W.takesIn K (.builtin "object.__class__") = some true)
    (vv0 : PySem.W.kitOne K (.ref C0) (.type "ValueError") = some true)
    (vv1 : PySem.W.kitOne K (.ref C1) (.type "ValueError") = some true)
    (vv2 : PySem.W.kitOne K (.ref C2) (.type "ValueError") = some true)
    (vv3 : PySem.W.kitOne K (.ref C3) (.type "ValueError") = some true)
    (vv4 : PySem.W.kitOne K (.ref C4) (.type "ValueError") = some true)
    (vv5 : PySem.W.kitOne K (.ref C5) (.type "ValueError") = some true)
    (g1 : PySem.W.nsIn K mainGlobals "LETTERS" = some (some (.str "abcdefghijklmnopqrstuvwxyz" tk1)))
    (g2 : PySem.W.nsIn K mainGlobals "LONGEST" = some (some (.int 2000 tk2)))
    (g3 : PySem.W.nsIn K mainGlobals "NUMBERS" = some (some (.int 256 tk3)))
    (g4 : PySem.W.nsIn K mainGlobals "LONGEST_CODE" = some (some (.int 4 tk4)))
    (z_list : PySem.W.nsIn K mainGlobals "list" = some none)
    (z_int : PySem.W.nsIn K mainGlobals "int" = some none)
    (z_len : PySem.W.nsIn K mainGlobals "len" = some none)
    (z_abs : PySem.W.nsIn K mainGlobals "abs" = some none)
    (z_range : PySem.W.nsIn K mainGlobals "range" = some none)
    (z_dict : PySem.W.nsIn K mainGlobals "dict" = some none)
    (z_str : PySem.W.nsIn K mainGlobals "str" = some none)
    (z_sorted : PySem.W.nsIn K mainGlobals "sorted" = some none)
    (z_tuple : PySem.W.nsIn K mainGlobals "tuple" = some none)
    (z_isinstance : PySem.W.nsIn K mainGlobals "isinstance" = some none)
    (z_iter : PySem.W.nsIn K mainGlobals "iter" = some none)
    (z_enumerate : PySem.W.nsIn K mainGlobals "enumerate" = some none)
    (z_repr : PySem.W.nsIn K mainGlobals "repr" = some none)
    (z_all : PySem.W.nsIn K mainGlobals "all" = some none)
    (z_bool : PySem.W.nsIn K mainGlobals "bool" = some none)
    (z_ValueError : PySem.W.nsIn K mainGlobals "ValueError" = some none)
    (qc1 : K.lookup q1 = some ⟨.type "code", qd1, .fields vs1, qs1⟩)
    (qv1 : vs1[11]? = some (.ref p1))
    (qa1 : vs1.getD 18 .none = .str qf1 qt1)
    (qb1 : vs1.getD 7 .none = .int ql1 qm1)
    (qe1 : vs1.getD 9 .none = .bool qi1)
    (qg1 : vs1.getD 10 .none = .int qx1 qy1)
    (qn1 : (q1 == p1) = false)
    (qk1 : K.lookup p1 = none)
    (qc2 : K.lookup q2 = some ⟨.type "code", qd2, .fields vs2, qs2⟩)
    (qv2 : vs2[11]? = some (.ref p2))
    (qa2 : vs2.getD 18 .none = .str qf2 qt2)
    (qb2 : vs2.getD 7 .none = .int ql2 qm2)
    (qe2 : vs2.getD 9 .none = .bool qi2)
    (qg2 : vs2.getD 10 .none = .int qx2 qy2)
    (qn2 : (q2 == p2) = false)
    (qk2 : K.lookup p2 = none)
    (qc3 : K.lookup q3 = some ⟨.type "code", qd3, .fields vs3, qs3⟩)
    (qv3 : vs3[11]? = some (.ref p3))
    (qa3 : vs3.getD 18 .none = .str qf3 qt3)
    (qb3 : vs3.getD 7 .none = .int ql3 qm3)
    (qe3 : vs3.getD 9 .none = .bool qi3)
    (qg3 : vs3.getD 10 .none = .int qx3 qy3)
    (qn3 : (q3 == p3) = false)
    (qk3 : K.lookup p3 = none)
    (qc4 : K.lookup q4 = some ⟨.type "code", qd4, .fields vs4, qs4⟩)
    (qv4 : vs4[11]? = some (.ref p4))
    (qa4 : vs4.getD 18 .none = .str qf4 qt4)
    (qb4 : vs4.getD 7 .none = .int ql4 qm4)
    (qe4 : vs4.getD 9 .none = .bool qi4)
    (qg4 : vs4.getD 10 .none = .int qx4 qy4)
    (qn4 : (q4 == p4) = false)
    (qk4 : K.lookup p4 = none)
    (pp12 : (p1 == p2) = false)
    (pp13 : (p1 == p3) = false)
    (pp14 : (p1 == p4) = false)
    (pp23 : (p2 == p3) = false)
    (pp24 : (p2 == p4) = false)
    (pp34 : (p3 == p4) = false)
    (nd : (CE :: ([C0, C1, C2, C3, C4, C5] : List Addr)).Nodup) :
    ∃ fd cs sp, LawG l w K 13 mg fa h fd cs sp := by
  have e := hfa.symm.trans (PySem.W.mg_of X G a21)
  cases e
  have B : Blt mg := ⟨PySem.W.mg_none_of X G z_list, PySem.W.mg_none_of X G z_int, PySem.W.mg_none_of X G z_len, PySem.W.mg_none_of X G z_abs, PySem.W.mg_none_of X G z_range, PySem.W.mg_none_of X G z_dict, PySem.W.mg_none_of X G z_str, PySem.W.mg_none_of X G z_sorted, PySem.W.mg_none_of X G z_tuple⟩
  have TQ : Tq mg := ⟨B, PySem.W.mg_none_of X G z_isinstance, PySem.W.mg_none_of X G z_repr, PySem.W.mg_none_of X G z_enumerate⟩
  have TB : Tb K mg CE := ⟨PySem.W.mg_of X G aE, ⟨rdR, gaR⟩, vR⟩
  have Y0 : ClsX K CE C0 := ⟨⟨nm0, qq0, N0, bs0, sn0, sub0, ab0, col0, dd0, m00, m01, m02, m03, m05, x_BadTable⟩⟩
  have O0 : OexC K C0 := ⟨⟨nm0, qq0, N0, bs0, _, sn0, sub0, ab0, col0, dd0, m00, m01, m02, m03, m05, x_BadTable, show PySem.HandSPX.refsVE [.type "ValueError", .type "Exception", .type "BaseException", .type "object"] = true by decide +kernel⟩, s_BadTable, Y0.ex, Y0.ty, k_BadTable⟩
  have X0 : ExcC K C0 := ⟨hg_BadTable, hk_BadTable, Y0.ex, Y0.hd, ha_BadTable, tB, tC, Y0.hm⟩
  have Y1 : ClsX K CE C1 := ⟨⟨nm1, qq1, N1, bs1, sn1, sub1, ab1, col1, dd1, m10, m11, m12, m13, m15, x_BadLetter⟩⟩
  have O1 : OexC K C1 := ⟨⟨nm1, qq1, N1, bs1, _, sn1, sub1, ab1, col1, dd1, m10, m11, m12, m13, m15, x_BadLetter, show PySem.HandSPX.refsVE [.type "ValueError", .type "Exception", .type "BaseException", .type "object"] = true by decide +kernel⟩, s_BadLetter, Y1.ex, Y1.ty, k_BadLetter⟩
  have X1 : ExcC K C1 := ⟨hg_BadLetter, hk_BadLetter, Y1.ex, Y1.hd, ha_BadLetter, tB, tC, Y1.hm⟩
  have Y2 : ClsX K CE C2 := ⟨⟨nm2, qq2, N2, bs2, sn2, sub2, ab2, col2, dd2, m20, m21, m22, m23, m25, x_BadCode⟩⟩
  have O2 : OexC K C2 := ⟨⟨nm2, qq2, N2, bs2, _, sn2, sub2, ab2, col2, dd2, m20, m21, m22, m23, m25, x_BadCode, show PySem.HandSPX.refsVE [.type "ValueError", .type "Exception", .type "BaseException", .type "object"] = true by decide +kernel⟩, s_BadCode, Y2.ex, Y2.ty, k_BadCode⟩
  have X2 : ExcC K C2 := ⟨hg_BadCode, hk_BadCode, Y2.ex, Y2.hd, ha_BadCode, tB, tC, Y2.hm⟩
  have Y3 : ClsX K CE C3 := ⟨⟨nm3, qq3, N3, bs3, sn3, sub3, ab3, col3, dd3, m30, m31, m32, m33, m35, x_NoSign⟩⟩
  have O3 : OexC K C3 := ⟨⟨nm3, qq3, N3, bs3, _, sn3, sub3, ab3, col3, dd3, m30, m31, m32, m33, m35, x_NoSign, show PySem.HandSPX.refsVE [.type "ValueError", .type "Exception", .type "BaseException", .type "object"] = true by decide +kernel⟩, s_NoSign, Y3.ex, Y3.ty, k_NoSign⟩
  have X3 : ExcC K C3 := ⟨hg_NoSign, hk_NoSign, Y3.ex, Y3.hd, ha_NoSign, tB, tC, Y3.hm⟩
  have Y4 : ClsX K CE C4 := ⟨⟨nm4, qq4, N4, bs4, sn4, sub4, ab4, col4, dd4, m40, m41, m42, m43, m45, x_BadWord⟩⟩
  have O4 : OexC K C4 := ⟨⟨nm4, qq4, N4, bs4, _, sn4, sub4, ab4, col4, dd4, m40, m41, m42, m43, m45, x_BadWord, show PySem.HandSPX.refsVE [.type "ValueError", .type "Exception", .type "BaseException", .type "object"] = true by decide +kernel⟩, s_BadWord, Y4.ex, Y4.ty, k_BadWord⟩
  have X4 : ExcC K C4 := ⟨hg_BadWord, hk_BadWord, Y4.ex, Y4.hd, ha_BadWord, tB, tC, Y4.hm⟩
  have Y5 : ClsX K CE C5 := ⟨⟨nm5, qq5, N5, bs5, sn5, sub5, ab5, col5, dd5, m50, m51, m52, m53, m55, x_Unlike⟩⟩
  have O5 : OexC K C5 := ⟨⟨nm5, qq5, N5, bs5, _, sn5, sub5, ab5, col5, dd5, m50, m51, m52, m53, m55, x_Unlike, show PySem.HandSPX.refsVE [.type "ValueError", .type "Exception", .type "BaseException", .type "object"] = true by decide +kernel⟩, s_Unlike, Y5.ex, Y5.ty, k_Unlike⟩
  have X5 : ExcC K C5 := ⟨hg_Unlike, hk_Unlike, Y5.ex, Y5.hd, ha_Unlike, tB, tC, Y5.hm⟩
  have YY : ∀ i, i < ([C0, C1, C2, C3, C4, C5] : List Addr).length → ClsX K CE (CzOf [C0, C1, C2, C3, C4, C5] i) := fun i hi => by
    match i, hi with
    | 0, _ => exact Y0
    | 1, _ => exact Y1
    | 2, _ => exact Y2
    | 3, _ => exact Y3
    | 4, _ => exact Y4
    | 5, _ => exact Y5
    | k + 6, z => exact absurd (show k + 6 < 6 from z) (by omega)
  have T : Tc K mg CW CE (CzOf [C0, C1, C2, C3, C4, C5]) := ⟨TQ, PySem.W.mg_none_of X G z_iter, PySem.W.mg_none_of X G z_all, PySem.W.mg_none_of X G z_bool, PySem.W.mg_none_of X G z_ValueError, ⟨_, PySem.W.mg_of X G g1, ⟨tk1, rfl⟩⟩, ⟨_, PySem.W.mg_of X G g2, ⟨tk2, rfl⟩⟩, ⟨_, PySem.W.mg_of X G g3, ⟨tk3, rfl⟩⟩, ⟨_, PySem.W.mg_of X G g4, ⟨tk4, rfl⟩⟩, ⟨_, PySem.W.mg_of X G aW, rfl⟩, ⟨_, PySem.W.mg_of X G a_BadTable, rfl⟩, ⟨_, PySem.W.mg_of X G a_BadLetter, rfl⟩, ⟨_, PySem.W.mg_of X G a_BadCode, rfl⟩, ⟨_, PySem.W.mg_of X G a_NoSign, rfl⟩, ⟨_, PySem.W.mg_of X G a_BadWord, rfl⟩, ⟨_, PySem.W.mg_of X G a_Unlike, rfl⟩, PySem.W.mg_of X G aE, ⟨pgW, hdW, poW, saW⟩, nnW, tB, tC, caW, cdW, kkW, nfW, nfd, neW, ok_NoneType, ok_dict, ok_str, ok_int, fun i hi => exm_of eR iR tyR (YY i hi).sE, fun i j hi hj => kit_all nd YY i j hi hj,
    (fun i hi => by
      match i, hi with
      | 0, _ => exact vv0
      | 1, _ => exact vv1
      | 2, _ => exact vv2
      | 3, _ => exact vv3
      | 4, _ => exact vv4
      | 5, _ => exact vv5
      | k + 6, z => exact absurd z (by omega)),
    (fun i hi => by
      match i, hi with
      | 0, _ => exact X0
      | 1, _ => exact X1
      | 2, _ => exact X2
      | 3, _ => exact X3
      | 4, _ => exact X4
      | 5, _ => exact X5
      | k + 6, z => exact absurd z (by omega)),
    (fun i hi => by
      match i, hi with
      | 0, _ => exact n_BadTable_part
      | 1, _ => exact n_BadLetter_value
      | 2, _ => exact n_BadCode_value
      | 3, _ => exact n_NoSign_letter
      | 4, _ => exact n_BadWord_value
      | 5, _ => exact n_Unlike_letter
      | k + 6, z => exact absurd z (by omega))⟩
  have TO : To K CW := ⟨sfW, roW, fun t ht => by
    simp only [List.mem_cons, List.not_mem_nil, or_false] at ht
    rcases ht with rfl | rfl | rfl | rfl
    · exact ⟨"NoneType", _, _, rfl, oo_NoneType, or_NoneType, os_NoneType⟩
    · exact ⟨"dict", _, _, rfl, oo_dict, or_dict, os_dict⟩
    · exact ⟨"str", _, _, rfl, oo_str, or_str, os_str⟩
    · exact ⟨"int", _, _, rfl, oo_int, or_int, os_int⟩⟩
  have F0 := fun_mk (st := s_copied) l0 c0 k0
  have b0 := F0.binds (ps := ["value"]) fun _ _ _ _ _ _ us hl => match us, hl with | [_], _ => rfl
  have F1 := fun_mk (st := s_is_letter) l1 c1 k1
  have b1 := F1.binds (ps := ["value"]) fun _ _ _ _ _ _ us hl => match us, hl with | [_], _ => rfl
  have F2 := fun_mk (st := s_is_integer) l2 c2 k2
  have b2 := F2.binds (ps := ["value"]) fun _ _ _ _ _ _ us hl => match us, hl with | [_], _ => rfl
  have F3 := fun_mk (st := s_is_between) l3 c3 k3
  have b3 := F3.binds (ps := ["value", "least", "most"]) fun _ _ _ _ _ _ us hl => match us, hl with | [_, _, _], _ => rfl
  have F4 := fun_mk (st := s_is_number) l4 c4 k4
  have b4 := F4.binds (ps := ["value"]) fun _ _ _ _ _ _ us hl => match us, hl with | [_], _ => rfl
  have F5 := fun_mk (st := s_is_code) l5 c5 k5
  have b5 := F5.binds (ps := ["value"]) fun _ _ _ _ _ _ us hl => match us, hl with | [_], _ => rfl
  have F6 := fun_mk (st := s_all_letters) l6 c6 k6
  have b6 := F6.binds (ps := ["string"]) fun _ _ _ _ _ _ us hl => match us, hl with | [_], _ => rfl
  have F7 := fun_mk (st := s_is_text) l7 c7 k7
  have b7 := F7.binds (ps := ["value"]) fun _ _ _ _ _ _ us hl => match us, hl with | [_], _ => rfl
  have F8 := fun_mk (st := s_check_text) l8 c8 k8
  have b8 := F8.binds (ps := ["value"]) fun _ _ _ _ _ _ us hl => match us, hl with | [_], _ => rfl
  have F9 := fun_mk (st := s_check_codes) l9 c9 k9
  have b9 := F9.binds (ps := ["codes"]) fun _ _ _ _ _ _ us hl => match us, hl with | [_], _ => rfl
  have F10 := fun_mk (st := s_pen) l10 c10 k10
  have b10 := F10.binds (ps := ["_law_script"]) fun _ _ _ _ _ _ us hl => match us, hl with | [_], _ => rfl
  have F11 := fun_mk (st := s_draw) l11 c11 k11
  have b11 := F11.binds (ps := ["_law_pen_here", "_law_many"]) fun _ _ _ _ _ _ us hl => match us, hl with | [_, _], _ => rfl
  have F12 := fun_mk (st := s_pick) l12 c12 k12
  have b12 := F12.binds (ps := ["_law_pen_here", "_law_some"]) fun _ _ _ _ _ _ us hl => match us, hl with | [_, _], _ => rfl
  have F13 := fun_mk (st := s_shuffled) l13 c13 k13
  have b13 := F13.binds (ps := ["_law_pen_here", "_law_some"]) fun _ _ _ _ _ _ us hl => match us, hl with | [_, _], _ => rfl
  have F14 := fun_mk (st := s__law_letters) l14 c14 k14
  have b14 := F14.binds (ps := ["_law_pen_here", "_law_many"]) fun _ _ _ _ _ _ us hl => match us, hl with | [_, _], _ => rfl
  have F15 := fun_mk (st := s_codes) l15 c15 k15
  have b15 := F15.binds (ps := ["_law_pen_here", "_law_some"]) fun _ _ _ _ _ _ us hl => match us, hl with | [_, _], _ => rfl
  have F16 := fun_mk (st := s_heard) l16 c16 k16
  have b16 := F16.binds (ps := ["_law_ask"]) fun _ _ _ _ _ _ us hl => match us, hl with | [_], _ => rfl
  have F17 := fun_mk (st := s__law_tells) l17 c17 k17
  have b17 := F17.binds (ps := ["_law_table", "_law_codes_so"]) fun _ _ _ _ _ _ us hl => match us, hl with | [_, _], _ => rfl
  have F18 := fun_mk (st := s__law_texts_right) l18 c18 k18
  have b18 := F18.binds (ps := ["_law_pen_here", "_law_table", "_law_codes_so", "_law_strange"]) fun _ _ _ _ _ _ us hl => match us, hl with | [_, _, _, _], _ => rfl
  have F19 := fun_mk (st := s__law_joined_right) l19 c19 k19
  have b19 := F19.binds (ps := ["_law_pen_here", "_law_table", "_law_codes_so"]) fun _ _ _ _ _ _ us hl => match us, hl with | [_, _, _], _ => rfl
  have F20 := fun_mk (st := s__law_refused_right) l20 c20 k20
  have b20 := F20.binds (ps := ["_law_pen_here", "_law_some"]) fun _ _ _ _ _ _ us hl => match us, hl with | [_, _], _ => rfl
  have F21 := fun_mk (st := s_law) l21 c21 k21
  have F22 := fun_mk (st := s_WriteTable_init) l22 c22 k22
  have b22 := F22.binds (ps := ["self", "codes"]) fun _ _ _ _ _ _ us hl => match us, hl with | [_, _], _ => rfl
  have F23 := fun_mk (st := s_WriteTable_iter) l23 c23 k23
  have b23 := F23.binds (ps := ["self"]) fun _ _ _ _ _ _ us hl => match us, hl with | [_], _ => rfl
  have F24 := fun_mk (st := s_WriteTable_len) l24 c24 k24
  have b24 := F24.binds (ps := ["self"]) fun _ _ _ _ _ _ us hl => match us, hl with | [_], _ => rfl
  have F25 := fun_mk (st := s_WriteTable_contains) l25 c25 k25
  have b25 := F25.binds (ps := ["self", "x"]) fun _ _ _ _ _ _ us hl => match us, hl with | [_, _], _ => rfl
  have F26 := fun_mk (st := s_WriteTable_getitem) l26 c26 k26
  have b26 := F26.binds (ps := ["self", "at"]) fun _ _ _ _ _ _ us hl => match us, hl with | [_, _], _ => rfl
  have F27 := fun_mk (st := s_WriteTable_call) l27 c27 k27
  have b27 := F27.binds (ps := ["self", "text"]) fun _ _ _ _ _ _ us hl => match us, hl with | [_, _], _ => rfl
  have F28 := fun_mk (st := s_WriteTable_eq) l28 c28 k28
  have b28 := F28.binds (ps := ["self", "other"]) fun _ _ _ _ _ _ us hl => match us, hl with | [_, _], _ => rfl
  have F29 := fun_mk (st := s_WriteTable_or) l29 c29 k29
  have b29 := F29.binds (ps := ["self", "other"]) fun _ _ _ _ _ _ us hl => match us, hl with | [_, _], _ => rfl
  have kbW : KBn K (PySem.W.fnOf "__init__" "WriteTable.__init__" (defArgs s_WriteTable_init) (defBody s_WriteTable_init) (defScope s_WriteTable_init) .none kV22 dc22 pm22 an22 cd22 ct22) pS 1 ["codes"] (fun us ws => us ++ ws) (fun vs zs => vs ++ zs) := ⟨fun s us ws _ h0 h2 => match us, ws, h0, h2 with
    | [_], [_], _, _ => .of_eq rfl, fun r1 r2 => r1.append r2⟩
  have F30 := fun_mk (st := s_BadTable_init) l30 c30 k30
  have b30 := F30.binds (ps := ["self", "part"]) fun _ _ _ _ _ _ us hl => match us, hl with | [_, _], _ => rfl
  have kb0 : KBn K (PySem.W.fnOf "__init__" "BadTable.__init__" (defArgs s_BadTable_init) (defBody s_BadTable_init) (defScope s_BadTable_init) .none kV30 dc30 pm30 an30 cd30 ct30) ["self", "part"] 1 ["part"] (fun us ws => us ++ ws) (fun vs zs => vs ++ zs) := ⟨fun s us ws _ h0 h2 => match us, ws, h0, h2 with
    | [_], [_], _, _ => .of_eq rfl, fun r1 r2 => r1.append r2⟩
  have F31 := fun_mk (st := s_BadLetter_init) l31 c31 k31
  have b31 := F31.binds (ps := ["self", "value"]) fun _ _ _ _ _ _ us hl => match us, hl with | [_, _], _ => rfl
  have kb1 : KBn K (PySem.W.fnOf "__init__" "BadLetter.__init__" (defArgs s_BadLetter_init) (defBody s_BadLetter_init) (defScope s_BadLetter_init) .none kV31 dc31 pm31 an31 cd31 ct31) ["self", "value"] 1 ["value"] (fun us ws => us ++ ws) (fun vs zs => vs ++ zs) := ⟨fun s us ws _ h0 h2 => match us, ws, h0, h2 with
    | [_], [_], _, _ => .of_eq rfl, fun r1 r2 => r1.append r2⟩
  have F32 := fun_mk (st := s_BadCode_init) l32 c32 k32
  have b32 := F32.binds (ps := ["self", "value"]) fun _ _ _ _ _ _ us hl => match us, hl with | [_, _], _ => rfl
  have kb2 : KBn K (PySem.W.fnOf "__init__" "BadCode.__init__" (defArgs s_BadCode_init) (defBody s_BadCode_init) (defScope s_BadCode_init) .none kV32 dc32 pm32 an32 cd32 ct32) ["self", "value"] 1 ["value"] (fun us ws => us ++ ws) (fun vs zs => vs ++ zs) := ⟨fun s us ws _ h0 h2 => match us, ws, h0, h2 with
    | [_], [_], _, _ => .of_eq rfl, fun r1 r2 => r1.append r2⟩
  have F33 := fun_mk (st := s_NoSign_init) l33 c33 k33
  have b33 := F33.binds (ps := ["self", "letter"]) fun _ _ _ _ _ _ us hl => match us, hl with | [_, _], _ => rfl
  have kb3 : KBn K (PySem.W.fnOf "__init__" "NoSign.__init__" (defArgs s_NoSign_init) (defBody s_NoSign_init) (defScope s_NoSign_init) .none kV33 dc33 pm33 an33 cd33 ct33) ["self", "letter"] 1 ["letter"] (fun us ws => us ++ ws) (fun vs zs => vs ++ zs) := ⟨fun s us ws _ h0 h2 => match us, ws, h0, h2 with
    | [_], [_], _, _ => .of_eq rfl, fun r1 r2 => r1.append r2⟩
  have F34 := fun_mk (st := s_BadWord_init) l34 c34 k34
  have b34 := F34.binds (ps := ["self", "value"]) fun _ _ _ _ _ _ us hl => match us, hl with | [_, _], _ => rfl
  have kb4 : KBn K (PySem.W.fnOf "__init__" "BadWord.__init__" (defArgs s_BadWord_init) (defBody s_BadWord_init) (defScope s_BadWord_init) .none kV34 dc34 pm34 an34 cd34 ct34) ["self", "value"] 1 ["value"] (fun us ws => us ++ ws) (fun vs zs => vs ++ zs) := ⟨fun s us ws _ h0 h2 => match us, ws, h0, h2 with
    | [_], [_], _, _ => .of_eq rfl, fun r1 r2 => r1.append r2⟩
  have F35 := fun_mk (st := s_Unlike_init) l35 c35 k35
  have b35 := F35.binds (ps := ["self", "letter"]) fun _ _ _ _ _ _ us hl => match us, hl with | [_, _], _ => rfl
  have kb5 : KBn K (PySem.W.fnOf "__init__" "Unlike.__init__" (defArgs s_Unlike_init) (defBody s_Unlike_init) (defScope s_Unlike_init) .none kV35 dc35 pm35 an35 cd35 ct35) ["self", "letter"] 1 ["letter"] (fun us ws => us ++ ws) (fun vs zs => vs ++ zs) := ⟨fun s us ws _ h0 h2 => match us, ws, h0, h2 with
    | [_], [_], _, _ => .of_eq rfl, fun r1 r2 => r1.append r2⟩
  have N1 : q1 ≠ p1 := fun z => by rw [z] at qn1; simp at qn1
  have hd11_1 : vs1.getD 11 .none = .ref p1 := by rw [Array.getD_eq_getD_getElem?, qv1]; rfl
  have H1 : PySem.W.CodeHd h q1 p1 := ⟨_, vs1, _, _, _, _, _, _, _, X _ _ qc1, rfl, rfl, qv1, hd11_1, qa1, qb1, qe1, qg1, N1⟩
  have N2 : q2 ≠ p2 := fun z => by rw [z] at qn2; simp at qn2
  have hd11_2 : vs2.getD 11 .none = .ref p2 := by rw [Array.getD_eq_getD_getElem?, qv2]; rfl
  have H2 : PySem.W.CodeHd h q2 p2 := ⟨_, vs2, _, _, _, _, _, _, _, X _ _ qc2, rfl, rfl, qv2, hd11_2, qa2, qb2, qe2, qg2, N2⟩
  have N3 : q3 ≠ p3 := fun z => by rw [z] at qn3; simp at qn3
  have hd11_3 : vs3.getD 11 .none = .ref p3 := by rw [Array.getD_eq_getD_getElem?, qv3]; rfl
  have H3 : PySem.W.CodeHd h q3 p3 := ⟨_, vs3, _, _, _, _, _, _, _, X _ _ qc3, rfl, rfl, qv3, hd11_3, qa3, qb3, qe3, qg3, N3⟩
  have N4 : q4 ≠ p4 := fun z => by rw [z] at qn4; simp at qn4
  have hd11_4 : vs4.getD 11 .none = .ref p4 := by rw [Array.getD_eq_getD_getElem?, qv4]; rfl
  have H4 : PySem.W.CodeHd h q4 p4 := ⟨_, vs4, _, _, _, _, _, _, _, X _ _ qc4, rfl, rfl, qv4, hd11_4, qa4, qb4, qe4, qg4, N4⟩
  have P1 : h.get? p1 = some { cls := .none, data := .fields #[] } := own1 f18 (PySem.W.mg_of X G a18) q1 p1 _ _ _ _ _ _ l18 rfl rfl qc1 qv1
  have P2 : h.get? p2 = some { cls := .none, data := .fields #[] } := own2 f19 (PySem.W.mg_of X G a19) q2 p2 _ _ _ _ _ _ l19 rfl rfl qc2 qv2
  have P3 : h.get? p3 = some { cls := .none, data := .fields #[] } := own3 f20 (PySem.W.mg_of X G a20) q3 p3 _ _ _ _ _ _ l20 rfl rfl qc3 qv3
  have P4 : h.get? p4 = some { cls := .none, data := .fields #[] } := own q4 p4 _ _ _ _ _ _ l21 rfl rfl qc4 qv4
  have pne12 : p1 ≠ p2 := fun z => by rw [z] at pp12; simp at pp12
  have pne13 : p1 ≠ p3 := fun z => by rw [z] at pp13; simp at pp13
  have pne14 : p1 ≠ p4 := fun z => by rw [z] at pp14; simp at pp14
  have pne23 : p2 ≠ p3 := fun z => by rw [z] at pp23; simp at pp23
  have pne24 : p2 ≠ p4 := fun z => by rw [z] at pp24; simp at pp24
  have pne34 : p3 ≠ p4 := fun z => by rw [z] at pp34; simp at pp34
  have each : ∀ {C : Addr × Addr → Prop}, C (q1, p1) → C (q2, p2) → C (q3, p3) → C (q4, p4) → ∀ p ∈ [(q1, p1), (q2, p2), (q3, p3), (q4, p4)], C p := fun aa ab ac ad p hp => by
    rcases List.mem_cons.mp hp with rfl | hp
    · exact aa
    rcases List.mem_cons.mp hp with rfl | hp
    · exact ab
    rcases List.mem_cons.mp hp with rfl | hp
    · exact ac
    rw [List.mem_singleton.mp hp]
    exact ad
  refine ⟨PySem.W.fnOf "law" "law" (defArgs s_law) (defBody s_law) (defScope s_law) .none kV21 dc21 pm21 an21 (.ref q4) ct21, [(q1, p1), (q2, p2), (q3, p3), (q4, p4)], spLaw (TLs p1 p2 p3 p4) K, ⟨each P1 P2 P3 P4, each qk1 qk2 qk3 qk4, each H1 H2 H3 H4, fun s v => .of_eq rfl, fun Hh a ns hl _ ht hS => ⟨a, ns, rfl, hS, hl, fun p hp => ?_, fun _ => rfl⟩, fun base sys _ _ hb => ?_⟩⟩
  · have hp : p ∈ [(p1, (("_law_texts_right" : Str) ++ ".<locals>.") ++ "<lambda>"), (p2, (("_law_joined_right" : Str) ++ ".<locals>.") ++ "<lambda>"), (p3, (("_law_refused_right" : Str) ++ ".<locals>.") ++ "<lambda>"), (p4, (("law" : Str) ++ ".<locals>.") ++ "<lambda>")] := hp
    rcases List.mem_cons.mp hp with rfl | hp
    · exact TabS.nil (ht (q1, p1) (by simp))
    rcases List.mem_cons.mp hp with rfl | hp
    · exact TabS.nil (ht (q2, p2) (by simp))
    rcases List.mem_cons.mp hp with rfl | hp
    · exact TabS.nil (ht (q3, p3) (by simp))
    rw [List.mem_singleton.mp hp]
    exact TabS.nil (ht (q4, p4) (by simp))
  have K1 : TabT base mg (TLs p1 p2 p3 p4) (("_law_texts_right" : Str) ++ ".<locals>.") q1 p1 := ⟨hb (q1, p1) (by simp), by simp [TLs], fun p hp e => by
    have hp : p ∈ [(p1, (("_law_texts_right" : Str) ++ ".<locals>.") ++ "<lambda>"), (p2, (("_law_joined_right" : Str) ++ ".<locals>.") ++ "<lambda>"), (p3, (("_law_refused_right" : Str) ++ ".<locals>.") ++ "<lambda>"), (p4, (("law" : Str) ++ ".<locals>.") ++ "<lambda>")] := hp
    rcases List.mem_cons.mp hp with rfl | hp
    · rfl
    rcases List.mem_cons.mp hp with rfl | hp
    · exact absurd e.symm pne12
    rcases List.mem_cons.mp hp with rfl | hp
    · exact absurd e.symm pne13
    rw [List.mem_singleton.mp hp] at e
    exact absurd e.symm pne14⟩
  have K2 : TabT base mg (TLs p1 p2 p3 p4) (("_law_joined_right" : Str) ++ ".<locals>.") q2 p2 := ⟨hb (q2, p2) (by simp), by simp [TLs], fun p hp e => by
    have hp : p ∈ [(p1, (("_law_texts_right" : Str) ++ ".<locals>.") ++ "<lambda>"), (p2, (("_law_joined_right" : Str) ++ ".<locals>.") ++ "<lambda>"), (p3, (("_law_refused_right" : Str) ++ ".<locals>.") ++ "<lambda>"), (p4, (("law" : Str) ++ ".<locals>.") ++ "<lambda>")] := hp
    rcases List.mem_cons.mp hp with rfl | hp
    · exact absurd e pne12
    rcases List.mem_cons.mp hp with rfl | hp
    · rfl
    rcases List.mem_cons.mp hp with rfl | hp
    · exact absurd e.symm pne23
    rw [List.mem_singleton.mp hp] at e
    exact absurd e.symm pne24⟩
  have K3 : TabT base mg (TLs p1 p2 p3 p4) (("_law_refused_right" : Str) ++ ".<locals>.") q3 p3 := ⟨hb (q3, p3) (by simp), by simp [TLs], fun p hp e => by
    have hp : p ∈ [(p1, (("_law_texts_right" : Str) ++ ".<locals>.") ++ "<lambda>"), (p2, (("_law_joined_right" : Str) ++ ".<locals>.") ++ "<lambda>"), (p3, (("_law_refused_right" : Str) ++ ".<locals>.") ++ "<lambda>"), (p4, (("law" : Str) ++ ".<locals>.") ++ "<lambda>")] := hp
    rcases List.mem_cons.mp hp with rfl | hp
    · exact absurd e pne13
    rcases List.mem_cons.mp hp with rfl | hp
    · exact absurd e pne23
    rcases List.mem_cons.mp hp with rfl | hp
    · rfl
    rw [List.mem_singleton.mp hp] at e
    exact absurd e.symm pne34⟩
  have K4 : TabT base mg (TLs p1 p2 p3 p4) (("law" : Str) ++ ".<locals>.") q4 p4 := ⟨hb (q4, p4) (by simp), by simp [TLs], fun p hp e => by
    have hp : p ∈ [(p1, (("_law_texts_right" : Str) ++ ".<locals>.") ++ "<lambda>"), (p2, (("_law_joined_right" : Str) ++ ".<locals>.") ++ "<lambda>"), (p3, (("_law_refused_right" : Str) ++ ".<locals>.") ++ "<lambda>"), (p4, (("law" : Str) ++ ".<locals>.") ++ "<lambda>")] := hp
    rcases List.mem_cons.mp hp with rfl | hp
    · exact absurd e pne14
    rcases List.mem_cons.mp hp with rfl | hp
    · exact absurd e pne24
    rcases List.mem_cons.mp hp with rfl | hp
    · exact absurd e pne34
    rw [List.mem_singleton.mp hp]
    done⟩
  have FJ1 : FunC K "_law_texts_right" "_law_texts_right" s__law_texts_right f18 q1 _ := ⟨⟨oc18, od18, kV18, dc18, pm18, an18, ct18, sl18, rfl, l18, c18⟩⟩
  have FJ2 : FunC K "_law_joined_right" "_law_joined_right" s__law_joined_right f19 q2 _ := ⟨⟨oc19, od19, kV19, dc19, pm19, an19, ct19, sl19, rfl, l19, c19⟩⟩
  have FJ3 : FunC K "_law_refused_right" "_law_refused_right" s__law_refused_right f20 q3 _ := ⟨⟨oc20, od20, kV20, dc20, pm20, an20, ct20, sl20, rfl, l20, c20⟩⟩
  have FL : FunC K "law" "law" s_law fa q4 (PySem.W.fnOf "law" "law" (defArgs s_law) (defBody s_law) (defScope s_law) .none kV21 dc21 pm21 an21 (.ref q4) ct21) := ⟨⟨oc21, od21, kV21, dc21, pm21, an21, ct21, sl21, rfl, l21, c21⟩⟩
  have D_heard : HearD K mg f16 := ⟨PySem.W.mg_of X G a16, k16, ⟨oc16, od16, kV16, dc16, pm16, an16, cd16, ct16, sl16, l16, c16⟩⟩
  have D_pen : Df l.prog w K mg base 1 "_law_pen" (spPen K) := ⟨⟨f10, _, _, ok_pen F10 B, PySem.W.mg_of X G a10, k10, b10⟩⟩
  have D_draw : Df l.prog w K mg base 1 "_law_draw" spDraw := ⟨⟨f11, _, _, ok_draw (k := 0) F11 B, PySem.W.mg_of X G a11, k11, b11⟩⟩
  have D_pick : Df l.prog w K mg base 2 "_law_pick" (spPick K) := ⟨⟨f12, _, _, ok_pick F12 B D_draw, PySem.W.mg_of X G a12, k12, b12⟩⟩
  have D_letters : Df l.prog w K mg base 2 "_law_letters" spLetters := ⟨⟨f14, _, _, ok_letters F14 B D_draw, PySem.W.mg_of X G a14, k14, b14⟩⟩
  have D_shuffled : Df l.prog w K mg base 2 "_law_shuffled" spShuf := ⟨⟨f13, _, _, ok_shuffled F13 B D_draw, PySem.W.mg_of X G a13, k13, b13⟩⟩
  have D_codes : Df l.prog w K mg base 3 "_law_codes" spCodes := ⟨⟨f15, _, _, ok_codes F15 B D_draw D_pick D_shuffled, PySem.W.mg_of X G a15, k15, b15⟩⟩
  have D_cop0 : Df l.prog w K mg base 0 "copied" (fun _ _ _ _ => False) := ⟨⟨f0, _, _, ⟨fun _ _ _ _ z => z.elim, fun _ _ _ _ _ _ _ _ _ _ _ _ _ z => z.elim⟩, PySem.W.mg_of X G a0, k0, b0⟩⟩
  have D_cop1 : Df l.prog w K mg base 1 "copied" (spCopied K) := ⟨⟨f0, _, _, ok_copied F0 TQ D_cop0, PySem.W.mg_of X G a0, k0, b0⟩⟩
  have D_copied : Df l.prog w K mg base 2 "copied" spCopyW := ⟨⟨f0, _, _, ok_copyW F0 TQ D_cop1, PySem.W.mg_of X G a0, k0, b0⟩⟩
  have E0 : Er1 l.prog w K mg base "BadTable" "part" (CzOf [C0, C1, C2, C3, C4, C5] 0) := ⟨O0, X0, n_BadTable_part, PySem.W.mg_of X G a_BadTable, f30, _, _, a30, y30, ok_BadTable F30 TB sys D_copied, b30, kb0⟩
  have E1 : Er1 l.prog w K mg base "BadLetter" "value" (CzOf [C0, C1, C2, C3, C4, C5] 1) := ⟨O1, X1, n_BadLetter_value, PySem.W.mg_of X G a_BadLetter, f31, _, _, a31, y31, ok_BadLetter F31 TB sys D_copied, b31, kb1⟩
  have E2 : Er1 l.prog w K mg base "BadCode" "value" (CzOf [C0, C1, C2, C3, C4, C5] 2) := ⟨O2, X2, n_BadCode_value, PySem.W.mg_of X G a_BadCode, f32, _, _, a32, y32, ok_BadCode F32 TB sys D_copied, b32, kb2⟩
  have E3 : Er1 l.prog w K mg base "NoSign" "letter" (CzOf [C0, C1, C2, C3, C4, C5] 3) := ⟨O3, X3, n_NoSign_letter, PySem.W.mg_of X G a_NoSign, f33, _, _, a33, y33, ok_NoSign F33 TB sys D_copied, b33, kb3⟩
  have E4 : Er1 l.prog w K mg base "BadWord" "value" (CzOf [C0, C1, C2, C3, C4, C5] 4) := ⟨O4, X4, n_BadWord_value, PySem.W.mg_of X G a_BadWord, f34, _, _, a34, y34, ok_BadWord F34 TB sys D_copied, b34, kb4⟩
  have E5 : Er1 l.prog w K mg base "Unlike" "letter" (CzOf [C0, C1, C2, C3, C4, C5] 5) := ⟨O5, X5, n_Unlike_letter, PySem.W.mg_of X G a_Unlike, f35, _, _, a35, y35, ok_Unlike F35 TB sys D_copied, b35, kb5⟩
  have D_is_letter : Df l.prog w K mg base 1 "is_letter" (spWordD 1 1) := ⟨⟨f1, _, _, isLetter_D (ok_is_letter F1 T), PySem.W.mg_of X G a1, k1, b1⟩⟩
  have D_is_integer : Df l.prog w K mg base 1 "is_integer" spIntD := ⟨⟨f2, _, _, ok_is_integerD F2 T, PySem.W.mg_of X G a2, k2, b2⟩⟩
  have D_is_between : Df l.prog w K mg base 2 "is_between" spBtwD := ⟨⟨f3, _, _, ok_is_betweenD F3 T D_is_integer, PySem.W.mg_of X G a3, k3, b3⟩⟩
  have D_is_number : Df l.prog w K mg base 3 "is_number" spNumD := ⟨⟨f4, _, _, ok_is_numberD F4 T D_is_between, PySem.W.mg_of X G a4, k4, b4⟩⟩
  have D_is_code : Df l.prog w K mg base 4 "is_code" spCodeD := ⟨⟨f5, _, _, ok_is_codeD F5 T D_is_number, PySem.W.mg_of X G a5, k5, b5⟩⟩
  have D_all_letters : Df l.prog w K mg base 1 "all_letters" spAllG := ⟨⟨f6, _, _, ok_all_lettersG F6 T, PySem.W.mg_of X G a6, k6, b6⟩⟩
  have D_is_text : Df l.prog w K mg base 2 "is_text" (spWordD 0 2000) := ⟨⟨f7, _, _, isText_D (ok_is_textA F7 T D_all_letters), PySem.W.mg_of X G a7, k7, b7⟩⟩
  have D_check_text : DfG l.prog w K mg base (L2.CX l.prog w) 5 "check_text" (spChkD (CzOf [C0, C1, C2, C3, C4, C5])) := ⟨⟨f8, _, _, ok_check_textD F8 T D_is_text E4, PySem.W.mg_of X G a8, k8, b8⟩⟩
  have D_check_codes : Df l.prog w K mg base 5 "check_codes" spCkC := ⟨⟨f9, _, _, ok_check_codes F9 T D_is_letter D_is_code, PySem.W.mg_of X G a9, k9, b9⟩⟩
  have D_ckX : DfG l.prog w K mg base (L2.CX l.prog w) 5 "check_codes" (spCkX K w (CzOf [C0, C1, C2, C3, C4, C5])) := ⟨⟨f9, _, _, ok_ckX F9 T D_is_letter D_is_code E0 E1 E2, PySem.W.mg_of X G a9, k9, b9⟩⟩
  have D_mk : MkW l.prog w K mg base CW (CzOf [C0, C1, C2, C3, C4, C5]) := ⟨⟨f22, _, ⟨mkW, a22, i22, kcW⟩, ok_init_all F22 T D_check_codes D_ckX, PySem.W.mg_of X G aW, b22, kbW⟩⟩
  have D_lenW : Mf l.prog w K mg base 1 CW "__len__" (spLenW CW) := ⟨⟨f24, _, _, ok_lenW F24 T, ⟨a24, i24, k24⟩, ⟨a24, i24⟩, n24, b24⟩⟩
  have D_inW : Mf l.prog w K mg base 2 CW "__contains__" (spInW CW) := ⟨⟨f25, _, _, ok_inW F25 T D_is_letter, ⟨a25, i25, k25⟩, ⟨a25, i25⟩, n25, b25⟩⟩
  have D_eqW : Mf l.prog w K mg base 1 CW "__eq__" (spEqW K CW) := ⟨⟨f28, _, _, ok_eqW F28 T, ⟨a28, i28, k28⟩, ⟨a28, i28⟩, n28, b28⟩⟩
  have D_iterW : ItM l.prog w K mg base 1 CW (snIterW CW) := ⟨⟨f23, _, _, ok_iterW F23 T, ⟨a23, i23⟩, b23⟩⟩
  have D_getW : MfG l.prog w K mg base (L2.CX l.prog w) 5 CW "__getitem__" (spGetW CW (CzOf [C0, C1, C2, C3, C4, C5])) := ⟨⟨f26, _, _, ok_getW F26 T D_is_letter E1 E3, ⟨a26, i26, k26⟩, ⟨a26, i26⟩, n26, b26⟩⟩
  have D_callW : MfG l.prog w K mg base (L2.CX l.prog w) 6 CW "__call__" (spCaW CW (CzOf [C0, C1, C2, C3, C4, C5])) := ⟨⟨f27, _, _, ok_callW F27 T D_check_text E3, ⟨a27, i27, k27⟩, ⟨a27, i27⟩, n27, b27⟩⟩
  have D_or : MfG l.prog w K mg base (L2.CX l.prog w) 8 CW "__or__" (spOrW K CW (CzOf [C0, C1, C2, C3, C4, C5])) := ⟨⟨f29, _, _, ok_orW F29 T D_mk E0 E5, ⟨a29, i29, k29⟩, ⟨a29, i29⟩, n29, b29⟩⟩
  have D_tells : DfG l.prog w K mg base CX0 10 "_law_tells" (spTells CW) := ⟨⟨f17, _, _, ok_tells F17 T sys D_inW D_lenW D_iterW D_getW, PySem.W.mg_of X G a17, k17, b17⟩⟩
  have D_texts : DfG l.prog w K mg base CX0 12 "_law_texts_right" (spTexts (TLs p1 p2 p3 p4) CW) := ⟨⟨f18, _, _, ok_texts FJ1 T sys D_draw D_pick D_callW D_getW D_heard K1, PySem.W.mg_of X G a18, k18, b18⟩⟩
  have D_joined : DfG l.prog w K mg base CX0 12 "_law_joined_right" (spJoined (TLs p1 p2 p3 p4) CW) := ⟨⟨f19, _, _, ok_joined FJ2 T TO sys D_draw D_pick D_letters D_codes D_tells D_mk D_or D_eqW D_heard K2, PySem.W.mg_of X G a19, k19, b19⟩⟩
  have D_refused : DfG l.prog w K mg base CX0 12 "_law_refused_right" (spRefused (TLs p1 p2 p3 p4)) := ⟨⟨f20, _, _, ok_refused FJ3 T sys D_draw D_pick D_shuffled D_tells D_mk D_heard K3, PySem.W.mg_of X G a20, k20, b20⟩⟩
  exact ok_law FL T sys D_pen D_draw D_pick D_letters D_codes D_tells D_texts D_joined D_refused D_mk D_eqW D_callW D_lenW D_heard K4
/-- the end, where the tables of two defs are known -/
theorem walk {l : PySem.W.OpenLaw} {q : Program} {loose : List Str} {XP : (Str → Option Value) → Heap → Prop} {YP : World → Heap → Prop} {d : DefRec} {K : Params → PySem.W.Frag} (hn : l.most = some 63) (hdf : d.params.defaults = []) (him : importsNone q = true) (hrec : ((recsOf q).any fun e => e.name == d.name) = true) (hrec1 : ((recsOf q).any fun e => e.name == "_law_texts_right") = true) (hrec2 : ((recsOf q).any fun e => e.name == "_law_joined_right") = true) (hrec3 : ((recsOf q).any fun e => e.name == "_law_refused_right") = true)
    (hY : ∀ (w : World) (h : Heap), YP w h → (K w.params).In h)
    (F : ∀ (w : World) (mg : Str → Option Value) (fa : Addr) (h : Heap), (K w.params).In h → h.Ns mainGlobals mg → mg d.name = some (.ref fa) → OwnTab (K w.params) fa h → (∀ fb, mg "_law_texts_right" = some (.ref fb) → OwnTab (K w.params) fb h) → (∀ fb, mg "_law_joined_right" = some (.ref fb) → OwnTab (K w.params) fb h) → (∀ fb, mg "_law_refused_right" = some (.ref fb) → OwnTab (K w.params) fb h) →  ∃ fd cs sp, LawG l w (K w.params) 13 mg fa h fd cs sp) :
    PySem.W.WalkO q loose XP YP l.row.toRowW d [] (fun f vs => PySem.call f vs) := by
  refine Att.attach_callB hn hdf fun w s₀ s₁ mg mb fa o pm cd doc a vs ns G Y ho hd hcd hmg hobj hints hlen hbits hg => ?_
  have KX := hY w _ Y
  have tab : ∀ (x : Str) (fb : Addr), ((recsOf q).any fun e => e.name == x) = true → mg x = some (.ref fb) → OwnTab (K w.params) fb s₁.heap := fun x fb hr hm0 c P o1 fd1 e dd vs1 sl k1 k2 k3 k4 k5 => by
    obtain ⟨dL, hm, hn1⟩ := List.any_eq_true.mp hr
    have hn2 : dL.name = x := beq_iff_eq.mp hn1
    obtain ⟨a', o', fd', c', P', h1, h2, h3, h4, h5, h6⟩ := G.T.tab dL hm
    rw [hn2, hm0] at h1
    cases h1
    have g1 := KX _ _ k1
    rw [g1] at h2
    cases h2
    rw [k2] at h3
    cases h3
    rw [k3] at h4
    cases h4
    obtain ⟨⟨oc, vc, e1, _, e3, e4⟩, hP⟩ := h6
    have g2 := KX _ _ k4
    rw [g2] at e1
    cases e1
    cases e3
    rw [k5] at e4
    cases e4
    exact hP
  obtain ⟨mm, hmods, _⟩ := (G.T.seer him).mods
  obtain ⟨fd, cs, sp, L⟩ := F w mg fa _ KX G.T.g hmg (tab _ fa hrec hmg) (fun fb hm0 => tab _ fb hrec1 hm0) (fun fb hm0 => tab _ fb hrec2 hm0) (fun fb hm0 => tab _ fb hrec3 hm0)
  exact law_callS KX G.T.g G.T.b G.T.builtins G.T.nolimit hg hmods L.tabs L.untold L.codes G.T.bmain hobj hints (Nat.le_trans hlen (by decide)) ⟨rfl, by decide, by decide⟩ (fun base sys kin g hb => L.runs base sys kin g hb) L.binds (fun H hH hS => L.starts H a ns hlen hbits hH hS) fun _ _ _ z => z
end V8

set_option Elab.async false
set_option linter.all false
set_option maxRecDepth 100000
open PySem PySem.W PyProof.Rows
set_option maxHeartbeats 0 in
theorem PySem.Challenge.cw_blindrepair_k03_tables_to_write_with_holds : PySem.Challenge.rw_blindrepair_k03_tables_to_write_with.Holds := by
  w_on; o_law; k_head; (case hw => w_witness2)
  k_fill
  refine V8.walk (l := PySem.Challenge.rw_blindrepair_k03_tables_to_write_with) rfl rfl (by decide +kernel) (by decide +kernel) (by decide +kernel) (by decide +kernel) (by decide +kernel) (fun w h Y => PySem.W.km_in_of Y) ?F
  case F =>
    intro w mg fa h KX G hmg own own1 own2 own3
    refine' V8.all_mk KX G hmg own own1 own2 own3 ?aW ?aE ?a_BadTable ?a_BadLetter ?a_BadCode ?a_NoSign ?a_BadWord ?a_Unlike ?a0 ?l0 ?c0 ?k0 ?a1 ?l1 ?c1 ?k1 ?a2 ?l2 ?c2 ?k2 ?a3 ?l3 ?c3 ?k3 ?a4 ?l4 ?c4 ?k4 ?a5 ?l5 ?c5 ?k5 ?a6 ?l6 ?c6 ?k6 ?a7 ?l7 ?c7 ?k7 ?a8 ?l8 ?c8 ?k8 ?a9 ?l9 ?c9 ?k9 ?a10 ?l10 ?c10 ?k10 ?a11 ?l11 ?c11 ?k11 ?a12 ?l12 ?c12 ?k12 ?a13 ?l13 ?c13 ?k13 ?a14 ?l14 ?c14 ?k14 ?a15 ?l15 ?c15 ?k15 ?a16 ?l16 ?c16 ?k16 ?a17 ?l17 ?c17 ?k17 ?a18 ?l18 ?c18 ?k18 ?a19 ?l19 ?c19 ?k19 ?a20 ?l20 ?c20 ?k20 ?a21 ?l21 ?c21 ?k21 ?a22 ?i22 ?l22 ?c22 ?k22 ?n22 ?a23 ?i23 ?l23 ?c23 ?k23 ?n23 ?a24 ?i24 ?l24 ?c24 ?k24 ?n24 ?a25 ?i25 ?l25 ?c25 ?k25 ?n25 ?a26 ?i26 ?l26 ?c26 ?k26 ?n26 ?a27 ?i27 ?l27 ?c27 ?k27 ?n27 ?a28 ?i28 ?l28 ?c28 ?k28 ?n28 ?a29 ?i29 ?l29 ?c29 ?k29 ?n29 ?a30 ?y30 ?l30 ?c30 ?k30 ?a31 ?y31 ?l31 ?c31 ?k31 ?a32 ?y32 ?l32 ?c32 ?k32 ?a33 ?y33 ?l33 ?c33 ?k33 ?a34 ?y34 ?l34 ?c34 ?k34 ?a35 ?y35 ?l35 ?c35 ?k35 ?x_BadTable ?s_BadTable ?k_BadTable ?hg_BadTable ?hk_BadTable ?ha_BadTable ?n_BadTable_part ?x_BadLetter ?s_BadLetter ?k_BadLetter ?hg_BadLetter ?hk_BadLetter ?ha_BadLetter ?n_BadLetter_value ?x_BadCode ?s_BadCode ?k_BadCode ?hg_BadCode ?hk_BadCode ?ha_BadCode ?n_BadCode_value ?x_NoSign ?s_NoSign ?k_NoSign ?hg_NoSign ?hk_NoSign ?ha_NoSign ?n_NoSign_letter ?x_BadWord ?s_BadWord ?k_BadWord ?hg_BadWord ?hk_BadWord ?ha_BadWord ?n_BadWord_value ?x_Unlike ?s_Unlike ?k_Unlike ?hg_Unlike ?hk_Unlike ?ha_Unlike ?n_Unlike_letter ?eR ?tyR ?iR ?rdR ?gaR ?vR ?pgW ?hdW ?poW ?saW ?mkW ?kcW ?nnW ?caW ?cdW ?nfW ?kkW ?nfd ?neW ?sfW ?roW ?oo_NoneType ?or_NoneType ?os_NoneType ?ok_NoneType ?oo_dict ?or_dict ?os_dict ?ok_dict ?oo_str ?or_str ?os_str ?ok_str ?oo_int ?or_int ?os_int ?ok_int ?tB ?tC ?vv0 ?vv1 ?vv2 ?vv3 ?vv4 ?vv5 ?g1 ?g2 ?g3 ?g4 ?z_list ?z_int ?z_len ?z_abs ?z_range ?z_dict ?z_str ?z_sorted ?z_tuple ?z_isinstance ?z_iter ?z_enumerate ?z_repr ?z_all ?z_bool ?z_ValueError ?qc1 ?qv1 ?qa1 ?qb1 ?qe1 ?qg1 ?qn1 ?qk1 ?qc2 ?qv2 ?qa2 ?qb2 ?qe2 ?qg2 ?qn2 ?qk2 ?qc3 ?qv3 ?qa3 ?qb3 ?qe3 ?qg3 ?qn3 ?qk3 ?qc4 ?qv4 ?qa4 ?qb4 ?qe4 ?qg4 ?qn4 ?qk4 ?pp12 ?pp13 ?pp14 ?pp23 ?pp24 ?pp34 ?nd
    (case aW => k_is)
    (case aE => k_is)
    (case a_BadTable => k_is)
    (case a_BadLetter => k_is)
    (case a_BadCode => k_is)
    (case a_NoSign => k_is)
    (case a_BadWord => k_is)
    (case a_Unlike => k_is)
    (case a0 => k_is)
    (case l0 => k_is)
    (case c0 => k_is)
    (case k0 => k_is)
    (case a1 => k_is)
    (case l1 => k_is)
    (case c1 => k_is)
    (case k1 => k_is)
    (case a2 => k_is)
    (case l2 => k_is)
    (case c2 => k_is)
    (case k2 => k_is)
    (case a3 => k_is)
    (case l3 => k_is)
    (case c3 => k_is)
    (case k3 => k_is)
    (case a4 => k_is)
    (case l4 => k_is)
    (case c4 => k_is)
    (case k4 => k_is)
    (case a5 => k_is)
    (case l5 => k_is)
    (case c5 => k_is)
    (case k5 => k_is)
    (case a6 => k_is)
    (case l6 => k_is)
    (case c6 => k_is)
    (case k6 => k_is)
    (case a7 => k_is)
    (case l7 => k_is)
    (case c7 => k_is)
    (case k7 => k_is)
    (case a8 => k_is)
    (case l8 => k_is)
    (case c8 => k_is)
    (case k8 => k_is)
    (case a9 => k_is)
    (case l9 => k_is)
    (case c9 => k_is)
    (case k9 => k_is)
    (case a10 => k_is)
    (case l10 => k_is)
    (case c10 => k_is)
    (case k10 => k_is)
    (case a11 => k_is)
    (case l11 => k_is)
    (case c11 => k_is)
    (case k11 => k_is)
    (case a12 => k_is)
    (case l12 => k_is)
    (case c12 => k_is)
    (case k12 => k_is)
    (case a13 => k_is)
    (case l13 => k_is)
    (case c13 => k_is)
    (case k13 => k_is)
    (case a14 => k_is)
    (case l14 => k_is)
    (case c14 => k_is)
    (case k14 => k_is)
    (case a15 => k_is)
    (case l15 => k_is)
    (case c15 => k_is)
    (case k15 => k_is)
    (case a16 => k_is)
    (case l16 => k_is)
    (case c16 => k_is)
    (case k16 => k_is)
    (case a17 => k_is)
    (case l17 => k_is)
    (case c17 => k_is)
    (case k17 => k_is)
    (case a18 => k_is)
    (case l18 => k_is)
    (case c18 => k_is)
    (case k18 => k_is)
    (case a19 => k_is)
    (case l19 => k_is)
    (case c19 => k_is)
    (case k19 => k_is)
    (case a20 => k_is)
    (case l20 => k_is)
    (case c20 => k_is)
    (case k20 => k_is)
    (case a21 => k_is)
    (case l21 => k_is)
    (case c21 => k_is)
    (case k21 => k_is)
    (case a22 => k_is)
    (case i22 => k_is)
    (case l22 => k_is)
    (case c22 => k_is)
    (case k22 => k_is)
    (case n22 => k_is)
    (case a23 => k_is)
    (case i23 => k_is)
    (case l23 => k_is)
    (case c23 => k_is)
    (case k23 => k_is)
    (case n23 => k_is)
    (case a24 => k_is)
    (case i24 => k_is)
    (case l24 => k_is)
    (case c24 => k_is)
    (case k24 => k_is)
    (case n24 => k_is)
    (case a25 => k_is)
    (case i25 => k_is)
    (case l25 => k_is)
    (case c25 => k_is)
    (case k25 => k_is)
    (case n25 => k_is)
    (case a26 => k_is)
    (case i26 => k_is)
    (case l26 => k_is)
    (case c26 => k_is)
    (case k26 => k_is)
    (case n26 => k_is)
    (case a27 => k_is)
    (case i27 => k_is)
    (case l27 => k_is)
    (case c27 => k_is)
    (case k27 => k_is)
    (case n27 => k_is)
    (case a28 => k_is)
    (case i28 => k_is)
    (case l28 => k_is)
    (case c28 => k_is)
    (case k28 => k_is)
    (case n28 => k_is)
    (case a29 => k_is)
    (case i29 => k_is)
    (case l29 => k_is)
    (case c29 => k_is)
    (case k29 => k_is)
    (case n29 => k_is)
    (case a30 => k_is)
    (case y30 => k_is)
    (case l30 => k_is)
    (case c30 => k_is)
    (case k30 => k_is)
    (case a31 => k_is)
    (case y31 => k_is)
    (case l31 => k_is)
    (case c31 => k_is)
    (case k31 => k_is)
    (case a32 => k_is)
    (case y32 => k_is)
    (case l32 => k_is)
    (case c32 => k_is)
    (case k32 => k_is)
    (case a33 => k_is)
    (case y33 => k_is)
    (case l33 => k_is)
    (case c33 => k_is)
    (case k33 => k_is)
    (case a34 => k_is)
    (case y34 => k_is)
    (case l34 => k_is)
    (case c34 => k_is)
    (case k34 => k_is)
    (case a35 => k_is)
    (case y35 => k_is)
    (case l35 => k_is)
    (case c35 => k_is)
    (case k35 => k_is)
    (case x_BadTable => k_is)
    (case s_BadTable => k_is)
    (case k_BadTable => k_is)
    (case hg_BadTable => k_is)
    (case hk_BadTable => k_is)
    (case ha_BadTable => k_is)
    (case n_BadTable_part => k_is)
    (case x_BadLetter => k_is)
    (case s_BadLetter => k_is)
    (case k_BadLetter => k_is)
    (case hg_BadLetter => k_is)
    (case hk_BadLetter => k_is)
    (case ha_BadLetter => k_is)
    (case n_BadLetter_value => k_is)
    (case x_BadCode => k_is)
    (case s_BadCode => k_is)
    (case k_BadCode => k_is)
    (case hg_BadCode => k_is)
    (case hk_BadCode => k_is)
    (case ha_BadCode => k_is)
    (case n_BadCode_value => k_is)
    (case x_NoSign => k_is)
    (case s_NoSign => k_is)
    (case k_NoSign => k_is)
    (case hg_NoSign => k_is)
    (case hk_NoSign => k_is)
    (case ha_NoSign => k_is)
    (case n_NoSign_letter => k_is)
    (case x_BadWord => k_is)
    (case s_BadWord => k_is)
    (case k_BadWord => k_is)
    (case hg_BadWord => k_is)
    (case hk_BadWord => k_is)
    (case ha_BadWord => k_is)
    (case n_BadWord_value => k_is)
    (case x_Unlike => k_is)
    (case s_Unlike => k_is)
    (case k_Unlike => k_is)
    (case hg_Unlike => k_is)
    (case hk_Unlike => k_is)
    (case ha_Unlike => k_is)
    (case n_Unlike_letter => k_is)
    (case eR => k_is)
    (case tyR => k_is)
    (case iR => k_is)
    (case rdR => k_is)
    (case gaR => k_is)
    (case vR => k_is)
    (case pgW => k_is)
    (case hdW => k_is)
    (case poW => k_is)
    (case saW => k_is)
    (case mkW => k_is)
    (case kcW => k_is)
    (case nnW => k_is)
    (case caW => k_is)
    (case cdW => k_is)
    (case nfW => k_is)
    (case kkW => first | kit_is | exact L2.kit_ty (by decide +kernel))
    (case nfd => k_is)
    (case neW => k_is)
    (case sfW => k_is)
    (case roW => k_is)
    (case oo_NoneType => k_is)
    (case or_NoneType => k_is)
    (case os_NoneType => k_is)
    (case ok_NoneType => first | kit_is | exact L2.kit_ty (by decide +kernel))
    (case oo_dict => k_is)
    (case or_dict => k_is)
    (case os_dict => k_is)
    (case ok_dict => first | kit_is | exact L2.kit_ty (by decide +kernel))
    (case oo_str => k_is)
    (case or_str => k_is)
    (case os_str => k_is)
    (case ok_str => first | kit_is | exact L2.kit_ty (by decide +kernel))
    (case oo_int => k_is)
    (case or_int => k_is)
    (case os_int => k_is)
    (case ok_int => first | kit_is | exact L2.kit_ty (by decide +kernel))
    (case tB => k_is)
    (case tC => k_is)
    (case vv0 => first | kit_is | exact L2.kit_ty (by decide +kernel))
    (case vv1 => first | kit_is | exact L2.kit_ty (by decide +kernel))
    (case vv2 => first | kit_is | exact L2.kit_ty (by decide +kernel))
    (case vv3 => first | kit_is | exact L2.kit_ty (by decide +kernel))
    (case vv4 => first | kit_is | exact L2.kit_ty (by decide +kernel))
    (case vv5 => first | kit_is | exact L2.kit_ty (by decide +kernel))
    (case g1 => k_is)
    (case g2 => k_is)
    (case g3 => k_is)
    (case g4 => k_is)
    (case z_list => k_is)
    (case z_int => k_is)
    (case z_len => k_is)
    (case z_abs => k_is)
    (case z_range => k_is)
    (case z_dict => k_is)
    (case z_str => k_is)
    (case z_sorted => k_is)
    (case z_tuple => k_is)
    (case z_isinstance => k_is)
    (case z_iter => k_is)
    (case z_enumerate => k_is)
    (case z_repr => k_is)
    (case z_all => k_is)
    (case z_bool => k_is)
    (case z_ValueError => k_is)
    (case qc1 => k_is)
    (case qv1 => first | rfl | k_is)
    (case qa1 => first | rfl | k_is)
    (case qb1 => first | rfl | k_is)
    (case qe1 => first | rfl | k_is)
    (case qg1 => first | rfl | k_is)
    (case qn1 => first | rfl | k_is)
    (case qk1 => first | rfl | k_is)
    (case qc2 => k_is)
    (case qv2 => first | rfl | k_is)
    (case qa2 => first | rfl | k_is)
    (case qb2 => first | rfl | k_is)
    (case qe2 => first | rfl | k_is)
    (case qg2 => first | rfl | k_is)
    (case qn2 => first | rfl | k_is)
    (case qk2 => first | rfl | k_is)
    (case qc3 => k_is)
    (case qv3 => first | rfl | k_is)
    (case qa3 => first | rfl | k_is)
    (case qb3 => first | rfl | k_is)
    (case qe3 => first | rfl | k_is)
    (case qg3 => first | rfl | k_is)
    (case qn3 => first | rfl | k_is)
    (case qk3 => first | rfl | k_is)
    (case qc4 => k_is)
    (case qv4 => first | rfl | k_is)
    (case qa4 => first | rfl | k_is)
    (case qb4 => first | rfl | k_is)
    (case qe4 => first | rfl | k_is)
    (case qg4 => first | rfl | k_is)
    (case qn4 => first | rfl | k_is)
    (case qk4 => first | rfl | k_is)
    (case pp12 => first | rfl | k_is)
    (case pp13 => first | rfl | k_is)
    (case pp14 => first | rfl | k_is)
    (case pp23 => first | rfl | k_is)
    (case pp24 => first | rfl | k_is)
    (case pp34 => first | rfl | k_is)
    (case nd => decide +kernel)

