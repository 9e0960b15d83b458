import PyProof.Rows.All
import Wide.All
import OpenK.AllK
import Wide.FinOn
import HandS.ForMost
import HandS.OwnEq
import HandS.Wide
import HandS.DictComp
import HandS.IsInst
import HandS.Codes
import HandS.Flow
import PyProof.ListStr
import PyProof.InstNe
import KE.KCallOwn
import KE.KOwnIter
import KE.KFmtOwn
import HandS.Style
import HandS.IterNext
import HandS.StrMore
import HandS.MakeKw
import HandS.IterVal
import HandS.More
import PyProof.DictUpdate
import HandS.RaiseMore
import HandS.Walk
import HandS.FStr
import HandS.ClsMeth
import HandS.MakeKwOnly
import HandS.ExcInit
import KE.GoesMore
import KE.KOpsOwn
import HandS.Star
import HandS.TryOnly
import HandS.ExcValue
import HandS.ExcIs
import HandS.Lambda
import KE.KExcIs
import HandS.Zip
import KE.GoesZip
import PyProof.Rows.StrMul
import KE.KEqDict
import PyProof.P3Eq
import KE.GoesEnum
import PyProof.CallFns
import PyProof.InstEq
import PyProof.ReprRoads
import HandS.WordsExc
import HandS.RaiseFrom
import PySem.Challenge.RW_blindrepair_k04_tables_to_read_with
import KE.KeyNested
import PyProof.DictKind
import PyProof.DictFindH
import PyProof.DictRoadsH
import HandS.Dict
import HandS.Small
import HandS.Iter
import HandS.Strs
import HandS.Defaults
import HandS.EndTab
import PyProof.NeKinds
import PyProof.StrLawsRepr
import HandS.TupMul
import HandS.SortInts
import HandS.EndOwn
import KE.RegKIsAll
set_option Elab.async false
set_option linter.all false
set_option maxRecDepth 100000
set_option maxHeartbeats 4000000
/-! Rules of our own: the methods with two underscores of a text's own class, called by Python's signs; list(text). -/
namespace L2
open PySem PySem.Spec PyProof.Rows
section
variable {X : Cx} {n : Nat} {CX : CXT} {C f : Addr} {fd : FuncData} {ps : List Str} {sp : Sp} {E : XK}
/-- a def that is called from within a built-in -/
theorem run_own {A : Around} {pins : List (Addr × Obj)} {σ : St} {H : Hp} {s : Shared} {Q : VK} {us : List Value} {vs : List V} (sb : Sub X n A) (F : FnOk X.prog X.w X.K X.mg X.base CX n f fd ps sp) (hb : Binds X.K fd ps []) (hx : Passes CX X E)
    (I : Inv X pins σ H s) (r : Vals vs us) (h : sp vs H Q E) : wpAny (model X.prog X.w) A (call (.ref f) us) (EP X pins σ Q) X.xe s := by
  have e0 : Env0 X.prog X.w X.K X.mg X.base A X.stack s H := by
    have e := I.env0
    exact ⟨by rw [sb.fr]; exact e.frames, e.mod, e.bs, e.bsz, e.funs, e.frf, e.hok, e.bare⟩
  have hl := F.len _ _ _ _ h
  have hl2 : us.length = ps.length := by rw [← r.length]; exact hl
  refine wpAny_call (codeAny_mono (F.run A X.stack s H ⟨us, []⟩ us vs Q E sb.room e0 (by
    have := hb s us I.kIn (by simpa using hl2)
    simpa using this) r h) fun r s' hq => ?_)
  cases r with
  | error e => exact hx pins σ H s e s' I hq
  | ok fl =>
    cases fl with
    | ret w => exact I.after hq
    | next => exact False.elim hq
    | brk => exact False.elim hq
    | cont => exact False.elim hq
/-- the instance that H tells, for the library's rules -/
theorem inst_at {pins : List (Addr × Obj)} {σ : St} {H : Hp} {s : Shared} {a dx : Addr} {fs : List (Str × V)} (I : Inv X pins σ H s) (ha : H a = some (.ins C dx fs)) : ∃ od, PySem.W.InstAt s.heap a (PySem.W.instObj C dx) C od := by
  obtain ⟨mA, J, _⟩ := ins_get I.hok ha
  obtain ⟨od, J, _⟩ := J.look
  exact ⟨od, J⟩
/-- where one stands in a built-in, once or twice deeper -/
theorem Sub.here (hr : Room n X.A) : Sub X n X.A := ⟨hr, rfl⟩
/-- the facts of a method that a sign calls -/
structure Own (K : PySem.W.Frag) (C : Addr) (m : Str) (f : Addr) : Prop where
  find : PySem.W.findIn K (.ref C) m = some (some (.ref f))
  fn : PySem.W.isFn K (.ref f) = true
/-- list(text) -/
theorem call_listS (hc : X.calm = true) : CallR X (.type "list") (fun xs H Q => ∃ z, xs = [.str z] ∧ z.length ≤ sizeLine ∧ ∀ l, H l = none → Q (.ref l) (upd H l (.lst (z.cps.toList.map fun c => V.str ⟨#[c]⟩)))) := by
  intro pins s σ H xs us Q I r h
  obtain ⟨z, rfl, hz, q⟩ := h
  obtain ⟨u, rfl, t, rfl⟩ := vals1 r
  refine call_list_str (I.ok.hd hc) z t (fun h' tk acc c' kp e it => ?_) hz
  have rv : ∀ (xs : List Nat) (acc : List Value), acc.length = xs.length → (∀ (j : Nat) (v : Value), acc[j]? = some v → ∃ (c : Nat) (u : Tok), xs[j]? = some c ∧ v = Value.str ⟨#[c]⟩ u) → Vals (xs.map fun c => V.str ⟨#[c]⟩) acc := by
    intro xs
    induction xs with
    | nil =>
      intro acc hl _
      cases acc with
      | nil => exact .nil
      | cons a r => cases hl
    | cons x xs ih =>
      intro acc hl hi
      cases acc with
      | nil => cases hl
      | cons a r =>
        obtain ⟨c, u, e1, e2⟩ := hi 0 a rfl
        have e1' : x = c := by simpa using e1
        subst e1'
        exact .cons ⟨u, e2⟩ (ih r (by simpa using hl) fun j v hj => by
          obtain ⟨c, u, e1, e2⟩ := hi (j + 1) v (by simpa using hj)
          exact ⟨c, u, by simpa using e1, e2⟩)
  have R : Vals (z.cps.toList.map fun c => V.str ⟨#[c]⟩) acc.toList := rv _ _ (by rw [Array.length_toList, it.1, Array.length_toList]) fun j v hj => by
    obtain ⟨c, u, e1, e2⟩ := it.2 j v (by rw [← Array.getElem?_toList]; exact hj)
    exact ⟨c, u, by rw [Array.getElem?_toList]; exact e1, e2⟩
  refine ⟨.ref s.heap.objs.size, _, I.laid (t' := tk) kp (Nat.le_refl _) (show ObjOk X.prog X.w _ h' _ (.lst _) from ⟨?_, acc.toList, c', R, by rw [Array.toArray_toList]; exact e⟩), rfl, q _ (I.hok.fresh (Nat.le_refl _))⟩
  rw [List.length_map, Array.length_toList]
  exact hz
/-- len(o) by an own __len__ -/
theorem call_lenOwn (F : FnOk X.prog X.w X.K X.mg X.base CX n f fd ps sp) (hb : Binds X.K fd ps []) (hx : Passes CX X E) (o : Own X.K C "__len__" f) (hr : Room (n + 1) X.A) :
    CallR X (.builtin "len") (fun xs H Q => ∃ a dx fs, xs = [.ref a] ∧ H a = some (.ins C dx fs) ∧ sp [.ref a] H (fun v H' => ∃ k : Nat, v = .int k ∧ k ≤ sizeLine ∧ Q (.int k) H') E) := by
  intro pins s σ H xs us Q I r h
  obtain ⟨a, dx, fs, rfl, ha, hs⟩ := h
  obtain ⟨u, rfl, rx⟩ := vals1 r
  cases rx
  obtain ⟨od, J⟩ := inst_at I ha
  obtain ⟨m, hF⟩ := I.fr
  refine PySem.W.len_K hF I.ok.mod.kin J o.find o.fn (thn (run_own (Sub.here hr).in1 F hb hx I (show Vals [V.ref a] [Value.ref a] from .cons rfl .nil) hs) fun v s' q => ?_)
  obtain ⟨y, H', I', ry, k, rfl, hk, q⟩ := q
  obtain ⟨t, rfl⟩ := ry
  have h63 := line63
  exact ⟨⟨by omega, by omega⟩, .int k, H', I'.tok _, ⟨_, rfl⟩, q⟩
/-- v in o, v not in o by an own __contains__ that gives True or False -/
theorem op_inOwn (F : FnOk X.prog X.w X.K X.mg X.base CX n f fd ps sp) (hb : Binds X.K fd ps []) (hx : Passes CX X E) (o : Own X.K C "__contains__" f) (hr : Room n X.A) :
    OpR X (compareOp .In) (fun x y H Q => ∃ a dx fs, y = .ref a ∧ H a = some (.ins C dx fs) ∧ sp [.ref a, x] H (fun v H' => ∃ b, v = .bl b ∧ Q (.bl b) H') E) := by
  intro pins s σ H x y v u Q I rx ry h
  obtain ⟨a, dx, fs, rfl, ha, hs⟩ := h
  cases ry
  obtain ⟨od, J⟩ := inst_at I ha
  obtain ⟨m, hF⟩ := I.fr
  refine PySem.W.in_K hF I.ok.mod.kin J o.find o.fn (thn (run_own (Sub.here hr) F hb hx I (show Vals [V.ref a, x] [Value.ref a, v] from .cons rfl (.cons rx .nil)) hs) fun v s' q => ?_)
  obtain ⟨y, H', I', ry, b, rfl, q⟩ := q
  cases ry
  exact wpAny_truthy_bool ⟨.bl b, H', I', rfl, q⟩
theorem op_notInOwn (F : FnOk X.prog X.w X.K X.mg X.base CX n f fd ps sp) (hb : Binds X.K fd ps []) (hx : Passes CX X E) (o : Own X.K C "__contains__" f) (hr : Room n X.A) :
    OpR X (compareOp .NotIn) (fun x y H Q => ∃ a dx fs, y = .ref a ∧ H a = some (.ins C dx fs) ∧ sp [.ref a, x] H (fun v H' => ∃ b, v = .bl b ∧ Q (.bl (!b)) H') E) := by
  intro pins s σ H x y v u Q I rx ry h
  obtain ⟨a, dx, fs, rfl, ha, hs⟩ := h
  cases ry
  obtain ⟨od, J⟩ := inst_at I ha
  obtain ⟨m, hF⟩ := I.fr
  refine PySem.W.notIn_K hF I.ok.mod.kin J o.find o.fn (thn (run_own (Sub.here hr) F hb hx I (show Vals [V.ref a, x] [Value.ref a, v] from .cons rfl (.cons rx .nil)) hs) fun v s' q => ?_)
  obtain ⟨y, H', I', ry, b, rfl, q⟩ := q
  cases ry
  exact wpAny_truthy_bool ⟨.bl (!b), H', I', rfl, q⟩
/-- o[k] by an own __getitem__ -/
theorem pe_ixOwn {a b : Expr} {ta tb : TE} {pos : Pos} (F : FnOk X.prog X.w X.K X.mg X.base CX n f fd ps sp) (hb : Binds X.K fd ps []) (hx : Passes CX X E) (o : Own X.K C "__getitem__" f) (hf : PySem.W.fnIn X.K f = true) (hr : Room (n + 1) X.A) (hA : PE X a ta) (hB : PE X b tb)
    (hsl : ∀ v u, subscripted b true v u = runValue (.builtin "lifetime.subscript" ⟨[v, u], []⟩) := by intro _ _; rfl) :
    PE X (.Subscript a b pos) (tOp (fun x y H Q => ∃ a dx fs, x = .ref a ∧ H a = some (.ins C dx fs) ∧ sp [.ref a, y] H Q E) ta tb) := by
  refine ⟨fun pins s σ H Q I h => ?_⟩
  refine Subscript_ (binT hA hB I h fun v u s2 x y H2 I2 rx ry q => ?_)
  obtain ⟨a, dx, fs, rfl, ha, hs⟩ := q
  cases rx
  obtain ⟨od, J⟩ := inst_at I2 ha
  obtain ⟨m, hF⟩ := I2.fr
  exact PySem.W.sub_K hF I2.ok.mod.kin J o.find hf o.fn (run_own (Sub.here hr).in1 F hb hx I2 (show Vals [V.ref a, y] [Value.ref a, u] from .cons rfl (.cons ry .nil)) hs) (hsl _ _)
/-- str(o) by an own __str__ -/
theorem call_strOwn (F : FnOk X.prog X.w X.K X.mg X.base CX n f fd ps sp) (hb : Binds X.K fd ps []) (hx : Passes CX X E) (o : Own X.K C "__str__" f) (hr : Room (n + 2) X.A) :
    CallR X (.type "str") (fun xs H Q => ∃ a dx fs, xs = [.ref a] ∧ H a = some (.ins C dx fs) ∧ sp [.ref a] H (fun v H' => ∃ z, v = .str z ∧ Q (.str z) H') E) := by
  intro pins s σ H xs us Q I r h
  obtain ⟨a, dx, fs, rfl, ha, hs⟩ := h
  obtain ⟨u, rfl, rx⟩ := vals1 r
  cases rx
  obtain ⟨od, J⟩ := inst_at I ha
  have sb : Sub X n X.A.in1.in1 := (Sub.in1 (Sub.in1 (Sub.here hr)))
  refine PySem.W.kso_call sb.room.units0 I.kIn J o.find o.fn (thn (run_own sb F hb hx I (show Vals [V.ref a] [Value.ref a] from .cons rfl .nil) hs) fun v s' q => ?_)
  obtain ⟨y, H', I', ry, z, rfl, q⟩ := q
  obtain ⟨t, rfl⟩ := ry
  exact ⟨.str z, H', I', ⟨_, rfl⟩, q⟩
end
end L2

set_option Elab.async false
set_option linter.all false
set_option maxRecDepth 100000
set_option maxHeartbeats 4000000
/-! == and != by an own __eq__ that gives True or False. -/
namespace PySem.W
open PySem PySem.Calls PyProof.Rows Builtin
section
variable {prog : Program} {w : World} {A : Around} {E : Value → Shared → Prop} {s : Shared} {K : Frag} {x C L f : Addr} {h₀ : Heap} {m : Str → Option Value} {ox : Obj} {od : Option Obj} {b tb : Value}
theorem ifBoundB_K {M : Model} {name : Str} {id : String} {args : List Value} {Q : Option Value → Shared → Prop} (X : K.In s.heap) (I : InstAt s.heap x ox C od) (hs : findIn K (.ref C) name = some (some (.builtin id)))
    (hb : ∀ self, bindSpecial (.builtin id) self = pure (.builtin id, [self]))
    (h : wpAny M A (call (.builtin id) (.ref x :: args)) (fun v => Q (some v)) E s) : wpAny M A (callSpecialIfBound? (.ref x) name args) Q E s := by
  simp only [callSpecialIfBound?, bindSpecialIfBound?]
  refine wpAny_holding (wpAny_bind (wpAny_bind (wpAny_bind (I.type.here ((looks_findIn X hs).here ?_)))))
  simp only [hb]
  refine wpAny_bind (wpAny_askSetting (wpAny_ite ?_))
  have fin : wpAny M A (call (.builtin id) ([.ref x] ++ args) >>= fun v => pure (some v)) Q E s := wpAny_bind (wpAny_mono h (fun v s' h' => wpAny_pure h') fun _ _ h' => h')
  split
  · exact wpAny_bind (wpAny_pure (wpAny_pure (by exact fin)))
  · exact wpAny_tryCatch (wpAny_bind (wpAny_pure (wpAny_pure (by exact fin))))
theorem neO_K {Q : Value → Shared → Prop} (hu : A.in1.units < cLine) (X : K.In s.heap) (I : InstAt s.heap x ox C od) (hm : mroIn K C (.type "object") = some true) (hs : findIn K (.ref C) "__eq__" = some (some (.ref f))) (hf : isFn K (.ref f) = true)
    (h : wpAny (model prog w) A.in1 (call (.ref f) [.ref x, b]) (fun v s' => ∃ r, v = .bool r ∧ Q (.bool (!r)) s') E s) : wpAny (model prog w) A (call (.builtin "object.__ne__") [.ref x, b]) Q E s := by
  refine wpAny_call (codeAny_call_builtin F.cmp_object.ne.plain F.cmpEntry_ne (check_slot (i := "object.__ne__") (owner := "object") (n := "__ne__") F.cmpKind_ne F.cmpSplit_ne (I.type.andThen (looks_mroIn X hm)) (F.cmpArgs_ne _ _) ?_))
  unfold Builtin.«object.__ne__»
  refine wpAny_bind (m := slotArgs "__ne__" 1 _) (wpAny_pure ?_)
  refine wpAny_bind (m := cRoomFor _ _) (wpAny_cRoomFor hu ?_)
  refine wpAny_bind (m := callSpecialIfBound? (.ref x) (Str.ofString "__eq__") _) (ifBound_K X I hs hf (wpAny_mono h (fun r s' hq => ?_) fun _ _ y => y))
  obtain ⟨r, rfl, hq⟩ := hq
  exact wpAny_bind (wpAny_truthy_bool (wpAny_pure hq))
theorem neq_K {Q : Value → Shared → Prop} (hu : A.in1.units < cLine) (hu0 : A.units < cLine) (F : Fr h₀ L s.heap m) (X₀ : K.In h₀) (I : InstAt s.heap x ox C od) (hb : Looks (model prog w) s.heap (typeOf b) tb) (hn : notFirst K C tb = true)
    (hne : findIn K (.ref C) "__ne__" = some (some (.builtin "object.__ne__"))) (hm : mroIn K C (.type "object") = some true) (hs : findIn K (.ref C) "__eq__" = some (some (.ref f))) (hf : isFn K (.ref f) = true)
    (h : wpAny (model prog w) A.in1 (call (.ref f) [.ref x, b]) (fun v s' => ∃ r, v = .bool r ∧ Q (.bool (!r)) s') E s) : wpAny (model prog w) A (richCompare .NotEq (.ref x) b) Q E s := by
  have X := X₀.keeps F.keep
  have one : wpAny (model prog w) A (tryCompare (.ref x) (cmpInfo .NotEq).2.1 b) (fun r s' => ∃ v, r = some v ∧ Q v s') E s := by
    unfold tryCompare
    refine wpAny_bind (ifBoundB_K X I (by exact hne) PySem.F.cmp_object.ne.bind ?_)
    refine wpAny_mono (neO_K (Q := fun v s' => ∃ r, v = .bool r ∧ Q (.bool r) s') hu X I hm hs hf (wpAny_mono h (fun v s' hv => ?_) fun _ _ e => e)) (fun v s' hv => ?_) fun _ _ e => e
    · obtain ⟨r, rfl, hq⟩ := hv
      exact ⟨r, rfl, !r, rfl, hq⟩
    · obtain ⟨r, rfl, hq⟩ := hv
      exact wpAny_pure ⟨_, rfl, hq⟩
  unfold richCompare
  simp only [oneThing_ref]
  refine wpAny_holding (wpAny_bind (wpAny_cRoomFor hu0 ?_))
  refine wpAny_bind (I.type.here (wpAny_bind (hb.here ?_)))
  split
  · rename_i q
    have e : subIn K tb (.ref C) = some false := by
      rcases Bool.or_eq_true_iff.mp hn with e | e
      · rw [beq_iff_eq.mp e] at q; simp at q
      · exact beq_iff_eq.mp e
    refine wpAny_bind ((looks_subIn X e).here ?_)
    simp only [Bool.false_eq_true, if_false]
    refine wpAny_bind (wpAny_mono one (fun r s' z => ?_) fun _ _ e => e)
    obtain ⟨v, rfl, hq⟩ := z
    exact wpAny_pure hq
  · refine wpAny_bind (wpAny_pure ?_)
    simp only [Bool.false_eq_true, if_false]
    refine wpAny_bind (wpAny_mono one (fun r s' z => ?_) fun _ _ e => e)
    obtain ⟨v, rfl, hq⟩ := z
    exact wpAny_pure hq
end
end PySem.W
namespace L2
open PySem PySem.Spec PyProof.Rows
section
variable {X : Cx} {n : Nat} {CX : CXT} {C f : Addr} {fd : FuncData} {ps : List Str} {sp : Sp} {E : XK}
def rEqOwn (K : PySem.W.Frag) (C : Addr) (sp : Sp) (E : XK) (g : Bool → Bool) : R2 := fun x y H Q => ∃ a dx fs tb, x = .ref a ∧ H a = some (.ins C dx fs) ∧ TyX K H y tb ∧ PySem.W.notFirst K C tb = true ∧ sp [.ref a, y] H (fun v H' => ∃ b, v = .bl b ∧ Q (.bl (g b)) H') E
theorem op_eqOwn (F : FnOk X.prog X.w X.K X.mg X.base CX n f fd ps sp) (hb : Binds X.K fd ps []) (hx : Passes CX X E) (o : Own X.K C "__eq__" f) (hr : Room n X.A) : OpR X (compareOp .Eq) (rEqOwn X.K C sp E id) := by
  intro pins s σ H x y v u Q I rx ry h
  obtain ⟨a, dx, fs, tb, rfl, ha, ty, hn, hs⟩ := h
  cases rx
  obtain ⟨od, J⟩ := inst_at I ha
  obtain ⟨m, hF⟩ := I.fr
  obtain ⟨P, Z, p, _⟩ := kit_of I ry ty
  refine PySem.W.cmp_K (op := .Eq) hr.units0 hF I.ok.mod.kin J (Z.ty _ _ I.kIn p) hn o.find o.fn (thn (run_own (Sub.here hr) F hb hx I (show Vals [V.ref a, y] [Value.ref a, u] from .cons rfl (.cons ry .nil)) hs) fun v s' q => ?_)
  obtain ⟨y, H', I', ry, b, rfl, q⟩ := q
  cases ry
  exact ⟨.bl b, H', I', rfl, q⟩
theorem op_neOwn (F : FnOk X.prog X.w X.K X.mg X.base CX n f fd ps sp) (hb : Binds X.K fd ps []) (hx : Passes CX X E) (o : Own X.K C "__eq__" f) (hne : PySem.W.findIn X.K (.ref C) "__ne__" = some (some (.builtin "object.__ne__")))
    (hm : PySem.W.mroIn X.K C (.type "object") = some true) (hr : Room (n + 1) X.A) : OpR X (compareOp .NotEq) (rEqOwn X.K C sp E not) := by
  intro pins s σ H x y v u Q I rx ry h
  obtain ⟨a, dx, fs, tb, rfl, ha, ty, hn, hs⟩ := h
  cases rx
  obtain ⟨od, J⟩ := inst_at I ha
  obtain ⟨m, hF⟩ := I.fr
  obtain ⟨P, Z, p, _⟩ := kit_of I ry ty
  refine PySem.W.neq_K hr.in1.units0 hr.units0 hF I.ok.mod.kin J (Z.ty _ _ I.kIn p) hn hne hm o.find o.fn (thn (run_own (Sub.here hr).in1 F hb hx I (show Vals [V.ref a, y] [Value.ref a, u] from .cons rfl (.cons ry .nil)) hs) fun v s' q => ?_)
  obtain ⟨y, H', I', ry, b, rfl, q⟩ := q
  cases ry
  exact ⟨b, rfl, .bl (!b), H', I', rfl, q⟩
end
end L2

set_option Elab.async false
set_option linter.all false
set_option maxRecDepth 100000
set_option maxHeartbeats 4000000
/-! for x in o, by an own __iter__ that gives iter(a tuple). -/
namespace L2
open PySem PySem.Spec PyProof.Rows ItX
abbrev itTObj (l : Addr) : Obj := { cls := .type "tuple_iterator", data := .fields #[.ref l, .int 0 0] }
/-- at it a fresh iterator of the tuple at l -/
def ItT (l it : Addr) : HO := .ext fun h => h.get? it = some (itTObj l)
theorem itT_ok {P : Program} {w : World} {H : Hp} {h : Heap} {l it : Addr} (e : h.get? it = some (itTObj l)) : ObjOk P w H h it (ItT l it) := ⟨e, ⟨_, e⟩, fun h1 h2 q k => k _ q⟩
theorem call_iterTup {prog : Program} {w : World} {A : Around} {E : Value → Shared → Prop} {s : Shared} {l : Addr} {items : Array Value} {Q : Value → Shared → Prop} (hl : s.heap.IsTuple l items) (h : Q (.ref s.heap.objs.size) { s with heap := s.heap.push (itTObj l) }) : wpAny (model prog w) A (call (.builtin "iter") [.ref l]) Q E s := by
  refine Calls.call_function_entry (by decide +kernel) (by decide +kernel) PySem.W.kdk_entry_iter (PySem.W.kdk_args_iter _) ?_
  unfold Builtin.«iter»
  refine wpAny_bind (m := someArgs "iter" 1 2 _) (wpAny_of_eq (a := [Value.ref l]) (by first | rfl | kernel_rfl!) ?_)
  show wpAny _ _ (pyIter (.ref l) >>= _) _ _ _
  refine wpAny_bind (wpAny_pyIter_tuple hl ?_)
  exact wpAny_pure ⟨_, rfl, h⟩
section
variable {X : Cx}
theorem call_iterT : CallR X (.builtin "iter") (fun xs H Q => ∃ (l : Addr) (zs : List V), xs = [.ref l] ∧ SqT X.K H l zs ∧ ∀ it, H it = none → X.s_0.heap.objs.size ≤ it → Q (.ref it) (upd H it (ItT l it))) := by
  intro pins s σ H xs us Q I r h
  obtain ⟨l, zs, rfl, hq, q⟩ := h
  obtain rfl := Vals.ref1 r
  obtain ⟨its, rv, pl, hz⟩ := I.tuple hq
  refine call_iterTup (show s.heap.IsTuple l its.toArray from pl) ?_
  exact ⟨.ref s.heap.objs.size, _, I.laid (t' := s.toks) (fun b u e => Heap.get?_push_of_some _ e) (Nat.le_refl _) (itT_ok (Heap.get?_push_size _ rfl)), rfl, q _ (I.hok.fresh (Nat.le_refl _)) I.sz⟩
variable {n : Nat} {CX : CXT} {C f : Addr} {fd : FuncData} {ps : List Str} {sp : Sp} {E : XK}
/-- a def whose promise may speak of how many objects stand at its entry -/
structure FnN (P : Program) (w : World) (K : PySem.W.Frag) (mg : Str → Option Value) (base : Heap) (CX : CXT) (k : Nat) (f : Addr) (fd : FuncData) (ps : List Str) (sn : Nat → Sp) : Prop where
  many : ∀ m vs H Q E, sn m vs H Q E → vs.length = ps.length
  goes : ∀ (A : Around) (outer : List Env) (s : Shared) (H : Hp) (args : Args) (us : List Value) (vs : List V) (Q : VK) (E : XK), Room k A → Env0 P w K mg base A outer s H → BindsTo s fd args (ps.zip us) → Vals vs us →
    sn s.heap.objs.size vs H Q E → codeAny (model P w) A (.call (.ref f) args) (CR CX outer P w H s Q E) s
theorem fnN_mk {CX : CXT} {P : Program} {w : World} {K : PySem.W.Frag} {mg : Str → Option Value} {base : Heap} {k : Nat} {f : Addr} {x qual : Str} {st : Stmt} {fd : FuncData} {N ps : List Str} {sn : Nat → Sp}
    (F : Fun K x qual st f fd) (S : FnScope N ps (defScope st)) (many : ∀ m vs H Q E, sn m vs H Q E → vs.length = ps.length)
    (body : ∀ (cdv : Value) (A : Around) (outer : List Env) (s : Shared) (H : Hp) (vs : List V) (Q : VK) (E : XK), Room k (A.deeper (envOfC qual (defScope st) s.heap.objs.size f cdv)) → sn s.heap.objs.size vs H Q E →
      ∃ t, PSs (cxOf CX P w K mg base N qual (defScope st) f cdv A outer s H E) (defBody st) t ∧ t { nx := fun _ H' => Q .non H', rt := Q } (start N vs) H) : FnN P w K mg base CX (k + 1) f fd ps sn := by
  obtain ⟨oc, od, kV, doc, pm, an, cdv, ct, osl, rfl, lk, hcd⟩ := F.ex
  refine ⟨many, fun A₁ out s₁ H₁ ar us₁ vs₁ Q₁ E₁ room ev bd rel prom => ?_⟩
  have len₁ := many _ _ _ _ _ prom
  have kin₁ : K.In s₁.heap := ev.mod.kin.keeps (fun a o z => (ev.bs a o z).left)
  have kinds : ∀ y ∈ ps.zip us₁, (defScope st).names.lookup y.1 = some .local ∨ ((defScope st).names.lookup y.1 = some .cell ∧ ((cellsFrom (s₁.heap.objs.size + 1) (defScope st).names []).lookup y.1).isSome = true) := by
    rintro ⟨nm, vl⟩ mem
    rcases S.par nm (List.of_mem_zip mem).1 with z | z
    · exact Or.inl z
    · exact Or.inr ⟨z, PySem.W.cellsFrom_some _ _ _ (Or.inl z)⟩
  refine codeAny_call_function room.depth (kin₁ _ _ lk) rfl S.co S.gen rfl (PySem.W.codeRec_of kin₁ hcd) (bd _ _ _ _ ?_)
  refine wpAny_newFunctionEnv_cells S.kind kinds (fun e₁ is₁ s₂ made => ?_)
  subst is₁
  refine ⟨Heap.NoLimit.keeps (ev.mod.nolimit.keeps fun a o z => (ev.bs a o z).left) made.toInCall.keep, codeAny_func ?_⟩
  obtain ⟨t₁, term, reads⟩ := body cdv A₁ out s₁ H₁ vs₁ Q₁ E₁ (room.deeper _) prom
  have inv₁ := inv_start (CX := CX) (P := P) (w := w) (mg := mg) (base := base) (E := E₁) S room.hd ev len₁ rel made
  refine wpAny_mono (term.run [] s₂ (start N vs₁) H₁ _ inv₁ reads) (fun flow s₃ done => ?_) (fun _ _ z => z)
  cases flow with
  | ret u₁ =>
    obtain ⟨v₁, _, H₂, J, rv, q⟩ := done
    exact ⟨v₁, H₂, J.os, J.bare, J.base, J.hok, rv, q⟩
  | next =>
    obtain ⟨_, H₂, J, q⟩ := done
    exact ⟨V.non, H₂, J.os, J.bare, J.base, J.hok, rfl, q⟩
  | brk => exact (done.elim fun _ z => z.elim fun _ z => z.2).elim
  | cont => exact (done.elim fun _ z => z.elim fun _ z => z.2).elim
variable {sn : Nat → Sp}
theorem run_N {A : Around} {pins : List (Addr × Obj)} {σ : St} {H : Hp} {s : Shared} {Q : VK} {us : List Value} {vs : List V} (sb : Sub X n A) (F : FnN X.prog X.w X.K X.mg X.base CX n f fd ps sn) (hb : Binds X.K fd ps []) (hx : Passes CX X E)
    (I : Inv X pins σ H s) (r : Vals vs us) (h : sn s.heap.objs.size vs H Q E) : wpAny (model X.prog X.w) A (call (.ref f) us) (EP X pins σ Q) X.xe s := by
  have e0 : Env0 X.prog X.w X.K X.mg X.base A X.stack s H := by
    have e := I.env0
    exact ⟨by rw [sb.fr]; exact e.frames, e.mod, e.bs, e.bsz, e.funs, e.frf, e.hok, e.bare⟩
  have hl := F.many _ _ _ _ _ h
  have hl2 : us.length = ps.length := by rw [← r.length]; exact hl
  refine wpAny_call (codeAny_mono (F.goes A X.stack s H ⟨us, []⟩ us vs Q E sb.room e0 (by
    have := hb s us I.kIn (by simpa using hl2)
    simpa using this) r h) fun r s' hq => ?_)
  cases r with
  | error e => exact hx pins σ H s e s' I hq
  | ok fl =>
    cases fl with
    | ret w => exact I.after hq
    | next => exact False.elim hq
    | brk => exact False.elim hq
    | cont => exact False.elim hq
def iOwn (K : PySem.W.Frag) (C : Addr) (m : Nat) (sn : Nat → Sp) (E : XK) (tl : TE) : TI := fun σ H R => tl σ H fun x H1 => ∃ a dx fs, x = .ref a ∧ H1 a = some (.ins C dx fs) ∧
  ∀ k, m ≤ k → sn k [.ref a] H1 (fun v H' => ∃ it t, v = .ref it ∧ k ≤ it ∧ H' it = some (ItT t it) ∧ R (Itt K t) (dropH H' it)) E
theorem pi_own {tg l : Expr} {tl : TE} (F : FnN X.prog X.w X.K X.mg X.base CX n f fd ps sn) (hb : Binds X.K fd ps []) (hx : Passes CX X E) (o : Own X.K C "__iter__" f) (hr : Room n X.A) (hl : PE X l tl) : PI X tg l (iOwn X.K C X.s_0.heap.objs.size sn E tl) := by
  refine ⟨fun pins s σ H R I h => ?_⟩
  refine thn (hl.run pins s σ H _ I h) fun v s1 ⟨x, H1, I1, r1, q1⟩ => ?_
  obtain ⟨a, dx, fs, rfl, ha, hs⟩ := q1
  cases r1
  obtain ⟨od, J⟩ := inst_at I1 ha
  obtain ⟨m, hF⟩ := I1.fr
  refine PySem.W.owit_iter hF I1.ok.mod.kin J o.find o.fn (thn (run_N (Sub.here hr) F hb hx I1 (show Vals [V.ref a] [Value.ref a] from .cons rfl .nil) (hs s1.heap.objs.size I1.sz)) fun v s' q => ?_)
  obtain ⟨y, H', I', ry, ⟨it, t, rfl, hn, hi, q⟩⟩ := q
  cases ry
  have hy := Nat.le_trans I1.sz hn
  have hit : s'.heap.get? it = some (itTObj t) := (I'.hok it _ hi).1
  unfold PySem.W.OwitIt
  refine wpAny_specialOf (T := "tuple_iterator") (v := .ref it) ⟨_, hit, rfl⟩ PySem.F.slot_tuple_iterator_next.lookup ?_
  refine ⟨it, [it], _, _, dropH H' it, rfl, inv_drop I' hi, turn_tuple t _, ⟨_, hit, rfl, rfl⟩, fun b hb => ?_, q⟩
  have e : b = it := by simpa using hb
  subst e
  exact inv_fp I' hi hy
end
end L2

set_option Elab.async false
set_option linter.all false
set_option maxRecDepth 100000
set_option maxHeartbeats 4000000
/-! {**a, **b}: two dicts of ints and texts, one behind the other, into a new one. -/
namespace PySem
open PyProof.Rows
section
variable {prog : Program} {w : World} {A : Around} {E : Value → Shared → Prop} {s : Shared} {K : Type} [DecidableEq K] {knd : KeyKind prog w K}
theorem put_pairs {a : Addr} {old : List (K × Value)} {c : K} {u v : Value} {R : Unit → Shared → Prop} (isC : knd.is c u = true) (D : s.heap.DictOf knd a old)
    (next : ∀ hp, hp.DictOf knd a (stored old c v) → Heap.SameBut a s.heap hp → R () { s with heap := hp }) (few : old.length ≤ sizeLine) :
    wpAny (model prog w) A (dictPut a (knd.hash c) u v) R E s := by
  obtain ⟨ob, es, ep, at_, exact_, dat, keyed, prs, uniq⟩ := D
  have szs : es.size ≤ sizeLine := by
    have l1 := prs.length
    have l2 : es.toList.length = es.size := by simp
    omega
  unfold dictPut
  refine wpAny_bind (wpAny_dictFind_of isC at_ dat keyed ?_)
  have same : (es.findIdx? fun e => knd.is c e.key) = old.findIdx? fun kv => decide (kv.1 = c) := by
    have z := prs.findIdx c
    obtain ⟨lst⟩ := es
    simpa using z
  cases found : es.findIdx? fun e => knd.is c e.key with
  | some j =>
    have there : (old.any fun kv => decide (kv.1 = c)) = true := any_of_findIdx_some (same ▸ found)
    refine wpAny_updateDict at_ dat (next _ ⟨_, _, ep, Heap.get?_update_self _ at_ (Obj.isFreed_of_dict (Obj.data_mapDict dat _)), exact_.mapDict _, Obj.data_mapDict dat _, keyed.modify _ _, ?_, ?_⟩ (Heap.SameBut.update ..))
    · have inList : (es.toList.findIdx? fun e => knd.is c e.key) = some j := by
        rw [← found]
        obtain ⟨lst⟩ := es
        simp
      have z := prs.modify uniq inList v
      rw [stored, if_pos there]
      obtain ⟨lst⟩ := es
      simpa using z
    · rw [stored, if_pos there, keys_map_store]
      exact uniq
  | none =>
    have notIn : c ∉ old.map (·.1) := not_mem_of_findIdx_none (same ▸ found)
    have gone : ¬ (old.any fun kv => decide (kv.1 = c)) = true := fun z => by
      obtain ⟨kv, mem, eq⟩ := List.any_eq_true.mp z
      exact notIn (List.mem_map.mpr ⟨kv, mem, of_decide_eq_true eq⟩)
    refine wpAny_updateDictKeys (hz := szs) at_ dat (next _ ⟨_, _, ep + 1, Heap.get?_update_self _ at_ (Obj.isFreed_of_dict (Obj.data_mapDictKeys dat _)), exact_.mapDictKeys _, Obj.data_mapDictKeys dat _, keyed.push isC _, ?_, ?_⟩ (Heap.SameBut.update ..))
    · have z := prs.append isC (knd.hash c) v
      rw [stored, if_neg gone]
      obtain ⟨lst⟩ := es
      simpa using z
    · rw [stored, if_neg gone, List.map_append]
      refine List.nodup_append.mpr ⟨uniq, by simp, fun x hx y hy => ?_⟩
      have ey : y = c := by simpa using hy
      intro exy
      exact notIn (by rw [← ey, ← exy]; exact hx)
end
section
variable {prog : Program} {w : World} {A : Around} {E : Value → Shared → Prop} {s : Shared}
open L2
theorem dict_sub : isSubtype (.type "dict") (.type "dict") = pure true := by rw [isSubtype_type]; kernel_rfl
theorem mergeMapping_mix {d o : Addr} {kvs more : List (Key × Value)} {Q : Unit → Shared → Prop} (hdo : d ≠ o) (hoS : (o == sysModules) = false)
    (hd : s.heap.DictOf (mixKind prog w) d kvs) (ho : s.heap.DictOf (mixKind prog w) o more)
    (hQ : ∀ h', h'.DictOf (mixKind prog w) d (merged kvs more) → Heap.SameBut d s.heap h' → Q () { s with heap := h' }) (hsz : kvs.length + more.length ≤ sizeLine) :
    wpAny (model prog w) A (mergeMapping d (.ref o) false) Q E s := by
  obtain ⟨oo, eso, epo, hoo, hco, hdo', hko, hpo, hno⟩ := id ho
  obtain ⟨od, esd, epd, hod, hcd, hdd, _⟩ := id hd
  have hlen : more.length = eso.size := by
    have z := hpo.length
    simpa using z.symm
  have loop : wpAny (model prog w) A (do
      let l ← dictEntries o
      let epoch ← dictEpoch o
      forIn (List.range l.size) PUnit.unit fun i (_ : PUnit) => (do
        let l' ← dictEntries o
        match l'[i]? with
          | some e => do
            holding [e.key, e.val] (dictPut d e.hash e.key e.val)
            let ep' ← dictEpoch o
            if (ep' != epoch) = true then do
                (unsupported "dict.changed-during-merge" : Sem PUnit)
                pure (ForInStep.yield PUnit.unit)
              else pure (ForInStep.yield PUnit.unit)
          | _ => do
            (unsupported "dict.changed-during-merge" : Sem PUnit)
            pure (ForInStep.yield PUnit.unit) : Sem (ForInStep PUnit))
      pure ()) Q E s := by
    refine wpAny_bind (wpAny_dictEntries hoo hdo' ?_)
    refine wpAny_bind (wpAny_dictEpoch hoo hdo' ?_)
    refine wpAny_bind ?_
    refine wpAny_forIn_list _ (fun left _ t => ∃ hp j, t = { s with heap := hp } ∧ left = (List.range eso.size).drop j ∧ j ≤ eso.size ∧ hp.DictOf (mixKind prog w) d (merged kvs (more.take j)) ∧ hp.get? o = some oo ∧ Heap.SameBut d s.heap hp) _ ?_ ?_ _ _
      ⟨s.heap, 0, rfl, by simp, Nat.zero_le _, by simpa [merged] using hd, hoo, Heap.SameBut.refl _ _⟩
    · rintro y left b t ⟨hp, j, rfl, hr, hj, hdj, hoj, hsb⟩
      have hlt : j < eso.size := by
        rcases Nat.lt_or_ge j eso.size with z | z
        · exact z
        · rw [List.drop_of_length_le (by rw [List.length_range]; exact z)] at hr
          cases hr
      have hd1 : (List.range eso.size).drop j = j :: (List.range eso.size).drop (j + 1) := by
        rw [List.drop_eq_getElem_cons (by rw [List.length_range]; exact hlt), List.getElem_range]
      rw [hd1] at hr
      obtain ⟨rfl, hleft⟩ : y = j ∧ left = (List.range eso.size).drop (j + 1) := by
        injection hr with z1 z2
        exact ⟨z1, z2⟩
      refine wpAny_bind (wpAny_dictEntries hoj hdo' ?_)
      rw [Array.getElem?_eq_getElem hlt]
      have hym : y < more.length := by rw [hlen]; exact hlt
      obtain ⟨isK, isV⟩ := hpo.get? (e := eso[y]) (by simp [hlt]) (List.getElem?_eq_getElem hym)
      obtain ⟨c, isC, isH⟩ := hko eso[y] (Array.getElem_mem hlt)
      have ec : c = more[y].1 := (mixKind prog w).inj _ _ _ isC isK
      show wpAny _ _ (holding [eso[y].key, eso[y].val] (dictPut d eso[y].hash eso[y].key eso[y].val) >>= _) _ _ _
      rw [isH, isV]
      have few : (merged kvs (more.take y)).length ≤ sizeLine := by
        have z1 := merged_length_le kvs (more.take y)
        have z2 : (more.take y).length ≤ more.length := by rw [List.length_take]; omega
        omega
      refine wpAny_bind (wpAny_holding (put_pairs isC hdj (fun hp2 hd2 hs2 => ?_) few))
      have ho2 : hp2.get? o = some oo := (hs2.2 o (Ne.symm hdo)).trans hoj
      refine wpAny_bind (wpAny_dictEpoch ho2 hdo' ?_)
      rw [if_neg (by simp)]
      refine wpAny_pure ⟨hp2, y + 1, rfl, hleft, hlt, ?_, ho2, hsb.trans hs2⟩
      rw [merged_take_succ kvs more y more[y] (List.getElem?_eq_getElem hym), ← ec]
      exact hd2
    · rintro b t ⟨hp, j, rfl, hr, hj, hdj, hoj, hsb⟩
      have hje : j = eso.size := by
        rcases Nat.lt_or_ge j eso.size with z | z
        · have e := congrArg List.length hr
          rw [List.length_drop, List.length_range] at e
          simp at e
          omega
        · exact Nat.le_antisymm hj z
      refine wpAny_pure (hQ hp ?_ hsb)
      rw [hje, ← hlen, List.take_length] at hdj
      exact hdj
  unfold mergeMapping
  refine wpAny_bind (wpAny_isInstance (T := "dict") (b := true) ho.typeIs dict_sub ?_)
  simp only [if_true]
  refine wpAny_bind (wpAny_specialOf (T := "dict") (v := .ref o) ho.typeIs PySem.F.slot_dict_iter.lookup (wpAny_bind (wpAny_pure ?_)))
  rw [show (some (Value.builtin "dict.__iter__") == some (Value.builtin "dict.__iter__")) = true from beq_self_eq_true _]
  dsimp only
  rw [if_neg (by rw [hoS]; exact Bool.false_ne_true)]
  refine wpAny_bind (wpAny_dictEntries hod hdd ?_)
  split
  · refine wpAny_bind (wpAny_dictEntries hoo hdo' ?_)
    refine wpAny_bind ?_
    rw [← Array.forIn_toList]
    refine wpAny_forIn_list _ (fun (left : List DictEntry) _ t => t = s ∧ ∀ e ∈ left, ∃ c : Key, keyIs c e.key = true) _ ?_ ?_ _ _ ⟨rfl, fun e he => ?_⟩
    · rintro e left b t ⟨rfl, all⟩
      obtain ⟨c, hc⟩ := all e List.mem_cons_self
      have more' : ∀ e ∈ left, ∃ c : Key, keyIs c e.key = true := fun e he => all e (List.mem_cons_of_mem _ he)
      rcases keyIs_shape hc with ⟨i, u, _, ek⟩ | ⟨z, u, _, ek⟩
      · rw [ek]
        exact wpAny_pure ⟨rfl, more'⟩
      · rw [ek]
        exact wpAny_pure ⟨rfl, more'⟩
    · rintro b t ⟨rfl, _⟩
      exact loop
    · obtain ⟨c, hc, _⟩ := hko e (by simpa using he)
      exact ⟨c, hc⟩
  · exact loop
end
end PySem

set_option Elab.async false
set_option linter.all false
set_option maxRecDepth 100000
set_option maxHeartbeats 4000000
namespace L2
open PySem PySem.Spec PyProof.Rows
/-- {**a, **b}: a new dict stands empty at p, the first one's pairs come into it, then the second one's -/
def tMerge2 (t1 t2 : TE) : TE := fun σ H Q => ∀ p, H p = none → t1 σ (upd H p (.dK [])) fun x H1 => ∃ a kvs, x = .ref a ∧ a ≠ p ∧ H1 p = some (.dK []) ∧ Rd H1 a (.dK kvs) ∧ kvs.length ≤ 1000 ∧
  t2 σ (upd H1 p (.dK (mergeK [] kvs))) fun y H2 => ∃ b acc more, y = .ref b ∧ b ≠ p ∧ H2 p = some (.dK acc) ∧ acc.length ≤ 1000 ∧ Rd H2 b (.dK more) ∧ more.length ≤ 1000 ∧ Q (.ref p) (upd H2 p (.dK (mergeK acc more)))
section
variable {X : Cx}
theorem merge_in {pins : List (Addr × Obj)} {σ : St} {H : Hp} {s : Shared} {p a : Addr} {acc kvs : List (Key × V)} {R : Unit → Shared → Prop} {E : Value → Shared → Prop} {A : Around} (I : Inv X pins σ H s) (ne : a ≠ p) (hp : H p = some (.dK acc)) (ha : Rd H a (.dK kvs))
    (l1 : acc.length ≤ 1000) (l2 : kvs.length ≤ 1000) (k : ∀ s', Inv X pins σ (upd H p (.dK (mergeK acc kvs))) s' → R () s') : wpAny (model X.prog X.w) A (mergeMapping p (.ref a) false) R E s := by
  obtain ⟨z, hd, vs, r, dd⟩ := dk_of I.hok hp
  obtain ⟨z2, hd2, ws, r2, dd2⟩ := dk_rd I.hok ha
  have e1 : vs.length = acc.length := (Paired.length r).symm
  have e2 : ws.length = kvs.length := (Paired.length r2).symm
  refine mergeMapping_mix (Ne.symm ne) hd2 dd dd2 (fun h' dd' sb => k _ ?_) (by rw [sizeLine_eq]; omega)
  have hz : (mergeK acc kvs).length ≤ sizeLine := by
    have h1 := length_mergeK kvs acc
    rw [sizeLine_eq]; omega
  have he : ∃ q, h'.get? p = some q := let ⟨q, _, _, hq, _⟩ := dd'; ⟨q, hq⟩
  exact d_write I (by rw [hp]; exact True.intro) sb he (dk_new hz hd (r2.merge r) dd')
theorem pe_merge2 {e1 e2 : Expr} {t1 t2 : TE} {pos : Pos} (h1 : PE X e1 t1) (h2 : PE X e2 t2) : PE X (.Dict [none, none] [e1, e2] pos) (tMerge2 t1 t2) := by
  refine ⟨fun pins s σ H Q I q => ?_⟩
  have hn := I.hok.fresh (Nat.le_refl s.heap.objs.size)
  have I1 := I.laid (a := s.heap.objs.size) (o := .dK []) (h' := s.heap.push { cls := .type "dict", data := .dict #[] }) (t' := s.toks) (fun _ _ q => Heap.get?_push_of_some _ q) (Nat.le_refl _) (dk_empty s.heap I.big)
  rw [arm_eval_Dict]
  refine wpAny_bind (wpAny_standAt ?_)
  show wpAny _ _ (dictDisplay [(none, do let x ← eval e1 X.env; standAt pos; pure x), (none, do let x ← eval e2 X.env; standAt pos; pure x)]) _ _ _
  unfold dictDisplay
  simp only [List.forIn_cons, List.forIn_nil, List.isEmpty_nil, if_true]
  refine wpAny_bind (wpAny_bind (wpAny_bind (wpAny_pure ?_)))
  dsimp only
  refine wpAny_bind (wpAny_alloc ?_)
  refine wpAny_bind (wpAny_holding (wpAny_bind (thn (h1.run pins _ σ _ _ I1 (q _ hn)) fun u s1 ⟨x, H1, I2, r1, a, kvs, ex, ne, e0, ra, l1, q1⟩ => ?_)))
  subst ex
  cases r1
  refine wpAny_bind (wpAny_standAt (wpAny_pure ?_))
  refine wpAny_bind (wpAny_onRaise (wpAny_tryCatch (wpAny_onRaise (wpAny_holding (merge_in I2 ne e0 ra (by simp) l1 fun s2 I3 => ?_)))))
  refine wpAny_pure ?_
  dsimp only
  simp only [List.isEmpty_nil, if_true]
  refine wpAny_bind (wpAny_bind (wpAny_pure ?_))
  dsimp only
  refine wpAny_bind (wpAny_pure ?_)
  refine wpAny_bind (wpAny_holding (wpAny_bind (thn (h2.run pins _ σ _ _ I3 q1) fun u s3 ⟨y, H2, I4, r2, b, acc, more, ey, ne2, e1', l2, rb, l3, q2⟩ => ?_)))
  subst ey
  cases r2
  refine wpAny_bind (wpAny_standAt (wpAny_pure ?_))
  refine wpAny_bind (wpAny_onRaise (wpAny_tryCatch (wpAny_onRaise (wpAny_holding (merge_in I4 ne2 e1' rb l2 l3 fun s4 I5 => ?_)))))
  refine wpAny_pure ?_
  dsimp only
  refine wpAny_pure ?_
  simp only [List.isEmpty_nil, if_true]
  refine wpAny_bind (wpAny_pure ?_)
  dsimp only
  exact wpAny_pure ⟨.ref _, _, I5, rfl, q2⟩
end
end L2

set_option Elab.async false
set_option linter.all false
set_option maxRecDepth 100000
set_option maxHeartbeats 4000000
namespace L2
open PySem PySem.Spec PyProof.Rows
/-- a def of the text, by its name, without defaults -/
structure Df (P : Program) (w : World) (K : PySem.W.Frag) (mg : Str → Option Value) (base : Heap) (k : Nat) (x : Str) (sp : Sp) : Prop where
  ex : ∃ (f : Addr) (fd : FuncData) (ps : List Str), FnOk P w K mg base CX0 k f fd ps sp ∧ mg x = some (.ref f) ∧ PySem.W.keepIn K (.ref f) = true ∧ Binds K fd ps []
/-- a method of the text's own, by its address -/
structure Mf (P : Program) (w : World) (K : PySem.W.Frag) (mg : Str → Option Value) (base : Heap) (k : Nat) (C : Addr) (m : Str) (sp : Sp) : Prop where
  ex : ∃ (f : Addr) (fd : FuncData) (ps : List Str), FnOk P w K mg base CX0 k f fd ps sp ∧ Meth K C m f ∧ Own K C m f ∧ PySem.W.fnIn K f = true ∧ Binds K fd ps []
section
variable {X : Cx} {k j : Nat} {C : Addr} {x m : Str} {sp : Sp} {p pos apos : Pos} {e o : Expr} {es : List Expr} {ta tb : TE} {t : TA}
theorem pe_c (c : Df X.prog X.w X.K X.mg X.base k x sp) (hr : Room j X.A) (hk : k ≤ j) (hg : Gl X x) (ha : PA X (e :: es) t)
    (hdb : (x == ("__debug__" : Str)) = false := by decide) (he : starEach (e :: es) X.env = (false, eval e X.env) :: starEach es X.env := by rfl) (hpl : (backTo pos (starEach es X.env)).any (·.1) = false := by rfl) :
    PE X (.Call (.Name x p) (e :: es) [] pos) (tCall sp [] E0 t) := by
  obtain ⟨f, fd, ps, F, hm, kp, b⟩ := c.ex
  exact pe_call F (hr.mono hk) hg hm kp b .nil pass0 ha hdb he hpl
theorem op_inO (c : Mf X.prog X.w X.K X.mg X.base k C "__contains__" sp) (hr : Room j X.A) (hk : k ≤ j) :
    OpR X (compareOp .In) (fun x y H Q => ∃ a dx fs, y = .ref a ∧ H a = some (.ins C dx fs) ∧ sp [.ref a, x] H (fun v H' => ∃ b, v = .bl b ∧ Q (.bl b) H') E0) := by
  obtain ⟨f, fd, ps, F, _, o, _, b⟩ := c.ex
  exact op_inOwn F b pass0 o (hr.mono hk)
theorem op_notInO (c : Mf X.prog X.w X.K X.mg X.base k C "__contains__" sp) (hr : Room j X.A) (hk : k ≤ j) :
    OpR X (compareOp .NotIn) (fun x y H Q => ∃ a dx fs, y = .ref a ∧ H a = some (.ins C dx fs) ∧ sp [.ref a, x] H (fun v H' => ∃ b, v = .bl b ∧ Q (.bl (!b)) H') E0) := by
  obtain ⟨f, fd, ps, F, _, o, _, b⟩ := c.ex
  exact op_notInOwn F b pass0 o (hr.mono hk)
theorem call_lenO (c : Mf X.prog X.w X.K X.mg X.base k C "__len__" sp) (hr : Room j X.A) (hk : k + 1 ≤ j) :
    CallR X (.builtin "len") (fun xs H Q => ∃ a dx fs, xs = [.ref a] ∧ H a = some (.ins C dx fs) ∧ sp [.ref a] H (fun v H' => ∃ k : Nat, v = .int k ∧ k ≤ sizeLine ∧ Q (.int k) H') E0) := by
  obtain ⟨f, fd, ps, F, _, o, _, b⟩ := c.ex
  exact call_lenOwn F b pass0 o (hr.mono hk)
theorem call_strO (c : Mf X.prog X.w X.K X.mg X.base k C "__str__" sp) (hr : Room j X.A) (hk : k + 2 ≤ j) :
    CallR X (.type "str") (fun xs H Q => ∃ a dx fs, xs = [.ref a] ∧ H a = some (.ins C dx fs) ∧ sp [.ref a] H (fun v H' => ∃ z, v = .str z ∧ Q (.str z) H') E0) := by
  obtain ⟨f, fd, ps, F, _, o, _, b⟩ := c.ex
  exact call_strOwn F b pass0 o (hr.mono hk)
theorem pe_ixO {a b : Expr} (c : Mf X.prog X.w X.K X.mg X.base k C "__getitem__" sp) (hr : Room j X.A) (hk : k + 1 ≤ j) (hA : PE X a ta) (hB : PE X b tb)
    (hsl : ∀ v u, subscripted b true v u = runValue (.builtin "lifetime.subscript" ⟨[v, u], []⟩) := by intro _ _; rfl) :
    PE X (.Subscript a b pos) (tOp (fun x y H Q => ∃ a dx fs, x = .ref a ∧ H a = some (.ins C dx fs) ∧ sp [.ref a, y] H Q E0) ta tb) := by
  obtain ⟨f, fd, ps, F, _, o, fi, b⟩ := c.ex
  exact pe_ixOwn F b pass0 o fi (hr.mono hk) hA hB hsl
theorem op_eqO (c : Mf X.prog X.w X.K X.mg X.base k C "__eq__" sp) (hr : Room j X.A) (hk : k ≤ j) : OpR X (compareOp .Eq) (rEqOwn X.K C sp E0 id) := by
  obtain ⟨f, fd, ps, F, _, o, _, b⟩ := c.ex
  exact op_eqOwn F b pass0 o (hr.mono hk)
theorem op_neO (c : Mf X.prog X.w X.K X.mg X.base k C "__eq__" sp) (hne : PySem.W.findIn X.K (.ref C) "__ne__" = some (some (.builtin "object.__ne__"))) (hm : PySem.W.mroIn X.K C (.type "object") = some true) (hr : Room j X.A) (hk : k + 1 ≤ j) :
    OpR X (compareOp .NotEq) (rEqOwn X.K C sp E0 not) := by
  obtain ⟨f, fd, ps, F, _, o, _, b⟩ := c.ex
  exact op_neOwn F b pass0 o hne hm (hr.mono hk)
end
end L2

set_option Elab.async false
set_option linter.all false
set_option maxRecDepth 100000
set_option maxHeartbeats 4000000
/-! The rules whose readings name X.K, with K said: for what stands in a comprehension's block. -/
namespace L2
open PySem PySem.Spec PyProof.Rows
section
variable {X : Cx} {K : PySem.W.Frag} {o e a b : Expr} {es : List Expr} {to ta tb : TE} {t : TA} {name f : Str} {apos cpos pos : Pos} {T id : String} {r : V → List V → Hp → VK → Prop}
theorem pe_bm0K (hK : X.K = K) (pa : PlainAttrs T) (slot : Slot T name id) (hty : typeOf (.builtin id) = pure (.type "method_descriptor")) (hm : MtR X id r) (ho : PE X o to) (hbase : attributeBase o name X.env (eval o X.env) = eval o X.env := by rfl) (hline : (apos.endLine == cpos.line) = true := by rfl) : PE X (.Call (.Attribute o name apos) [] [] cpos) (tBM0 K T r to) := by
  subst hK
  exact pe_bm0 pa slot hty hm ho hbase hline
theorem pe_bmK (hK : X.K = K) (pa : PlainAttrs T) (slot : Slot T name id) (hty : typeOf (.builtin id) = pure (.type "method_descriptor")) (hm : MtR X id r) (ho : PE X o to) (ha : PA X (e :: es) t) (hbase : attributeBase o name X.env (eval o X.env) = eval o X.env := by rfl) (hfew : ((backTo cpos (starEach (e :: es) X.env)).all (fun x => !x.1) && (backToKw cpos (keywordEach [] X.env)).all (fun x => x.1.isSome) && decide ((e :: es).length + ([] : List Keyword).length + (if ([] : List Keyword).isEmpty then 0 else 1) < 30)) = true := by rfl) (hline : (apos.endLine == cpos.line) = true := by rfl) (hs : starEach (e :: es) X.env = (false, eval e X.env) :: starEach es X.env := by rfl) (hplain : (backTo cpos (starEach es X.env)).any (·.1) = false := by rfl) :
    PE X (.Call (.Attribute o name apos) (e :: es) [] cpos) (tBM K T r to t) := by
  subst hK
  exact pe_bm pa slot hty hm ho ha hbase hfew hline hs hplain
theorem pe_fldK (hK : X.K = K) (he : PE X e ta) (hb : attributeBase e f X.env (eval e X.env) = eval e X.env) : PE X (.Attribute e f pos) (tFld K ta f) := by
  subst hK
  exact pe_fld he hb
def rLenSeq (K : PySem.W.Frag) : List V → Hp → VK → Prop := fun xs H Q => ∃ p ys, xs = [.ref p] ∧ (SqL K H p ys ∨ SqT K H p ys) ∧ Q (.int ys.length) H
theorem call_len_seqK (hK : X.K = K) : CallR X (.builtin "len") (rLenSeq K) := by
  subst hK
  exact call_len_seq
theorem ix_listK (hK : X.K = K) : IxR X (rIxL K) := by
  subst hK
  exact ix_list
theorem ix_tupK (hK : X.K = K) : IxR X (rIxT K) := by
  subst hK
  exact ix_tup
theorem sl_listK (hK : X.K = K) : SlR X (rSlL K) := by
  subst hK
  exact sl_list
theorem op_neDK (hK : X.K = K) (hu : X.A.units + 64 < cLine) : OpR X (compareOp .NotEq) (rNeD K) := by
  subst hK
  exact op_neD hu
theorem op_eqDK (hK : X.K = K) (hu : X.A.units + 64 < cLine) : OpR X (compareOp .Eq) (rEqD K) := by
  subst hK
  exact op_eqD hu
def rListOf (K : PySem.W.Frag) : List V → Hp → VK → Prop := fun xs H Q => ∃ p ys, xs = [.ref p] ∧ (SqL K H p ys ∨ SqT K H p ys) ∧ ∀ l, H l = none → Q (.ref l) (upd H l (.lst ys))
theorem call_list_ofK (hK : X.K = K) : CallR X (.type "list") (rListOf K) := by
  subst hK
  exact call_list_of
def rJoin (K : PySem.W.Frag) : V → List V → Hp → VK → Prop := fun x xs H Q => ∃ a p, ∃ ys : List Str, x = .str a ∧ xs = [.ref p] ∧ (SqL K H p (ys.map V.str) ∨ SqT K H p (ys.map V.str)) ∧ (ys.map (·.length)).sum + ys.length * a.length ≤ 16777216 ∧ Q (.str (Txt.join a ys)) H
theorem pe_joinK (hK : X.K = K) (ho : PE X o to) (he : PE X e ta) (hs : starEach [e] X.env = [(false, eval e X.env)] := by rfl) (hbase : attributeBase o "join" X.env (eval o X.env) = eval o X.env := by rfl) (hline : (apos.endLine == pos.line) = true := by rfl) : PE X (.Call (.Attribute o "join" apos) [e] [] pos) (tM1 (rJoin K) to ta) := by
  subst hK
  exact pe_join ho he hs hbase hline
theorem call_strS : CallR X (.type "str") (fun xs H Q => ∃ a, xs = [.str a] ∧ Q (.str a) H) := SkE.call_str_str
def rTupleOf (K : PySem.W.Frag) : List V → Hp → VK → Prop := fun xs H Q => ∃ p ys, xs = [.ref p] ∧ ((SqL K H p ys ∧ ∀ l, H l = none → Q (.ref l) (upd H l (.tup ys))) ∨ (SqT K H p ys ∧ Q (.ref p) H))
theorem call_tuple_ofK (hK : X.K = K) : CallR X (.type "tuple") (rTupleOf K) := by
  subst hK
  exact call_tuple_of
end
end L2

set_option Elab.async false
set_option linter.all false
set_option maxRecDepth 100000
set_option maxHeartbeats 4000000
namespace L2
open PySem PySem.Spec PyProof.Rows
/-- a name of the module holds a value -/
def GV (mg : Str → Option Value) (x : Str) (v : V) : Prop := ∃ u, mg x = some u ∧ RelV v u
theorem pe_gv {X : Cx} {x : Str} {v : V} {pos : Pos} (h : GV X.mg x v) (hg : Gl X x) (hd : (x == ("__debug__" : Str)) = false := by decide) : PE X (.Name x pos) (tC v) := by
  obtain ⟨u, h1, h2⟩ := h
  exact pe_glob hg h1 h2 hd
theorem pj_nil {X : Cx} : PJ X [] [] := .nil
theorem pj_cons {X : Cx} {e : Expr} {t : TE} {es : List Expr} {ts : List TE} (h : PE X e t) (r : PJ X es ts) : PJ X (e :: es) (t :: ts) := .cons h r
/-- a dict comprehension over what a Walk tells -/
theorem dc_it {J : It} {m : Nat} {G : Hp → Prop} {Y : Nat → Hp → V → Hp → Prop} (w : Walk J m G Y) {g : TG} {tt : TT} {tk tv : TE} {own : List Nat} {σ : St} {H1 : Hp} {D : Addr} {Qd : Hp → Prop} (Pv : Nat → Hp → Prop) (start : Pv 0 (upd H1 D (.dK []))) (keeps : ∀ i H, i ≤ m → Pv i H → G H)
    (turn : ∀ i x H H', i < m → Pv i H → Y i H x H' → g x (wipe σ own) H' fun σ2 H2 => wipe σ2 own = wipe σ own ∧ tt σ2 H2 fun b H3 =>
      if b = true then tk σ2 H3 fun y H4 => tv σ2 H4 fun z H5 => ∃ kvs k, y = kV k ∧ H5 D = some (.dK kvs) ∧ kvs.length < sizeLine ∧ Pv (i + 1) (upd H5 D (.dK (putK kvs k z))) else Pv (i + 1) H3) (done : ∀ H, Pv m H → Qd H) :
    ∃ W : Nat → Nat → Hp → Prop, (∃ j, W 0 j (upd H1 D (.dK []))) ∧ ∀ i j H, W i j H →
      (J.stop i H ∧ Qd H) ∨ (J.go i H ∧ ∃ Nx : Hp → Prop, (∀ H', Nx H' → ∃ j', j' < j ∧ W (i + 1) j' H') ∧ ∀ x H', J.yld i H x H' → g x (wipe σ own) H' fun σ2 H2 => wipe σ2 own = wipe σ own ∧ tt σ2 H2 fun b H3 =>
        if b = true then tk σ2 H3 fun y H4 => tv σ2 H4 fun z H5 => ∃ kvs k, y = kV k ∧ H5 D = some (.dK kvs) ∧ kvs.length < sizeLine ∧ Nx (upd H5 D (.dK (putK kvs k z))) else Nx H3) := by
  refine ⟨fun i j H => j = m - i ∧ i ≤ m ∧ Pv i H, ⟨m, by simp, Nat.zero_le _, start⟩, ?_⟩
  rintro i j H ⟨rfl, hi, pv⟩
  have kp := keeps i H hi pv
  rcases Nat.lt_or_ge i m with less | more
  · exact .inr ⟨w.goes i H less kp, Pv (i + 1), fun H' p' => ⟨m - (i + 1), by omega, rfl, less, p'⟩, fun x H' y => turn i x H H' less pv (w.yields i H x H' less kp y)⟩
  · obtain rfl : i = m := Nat.le_antisymm hi more
    exact .inl ⟨w.stops H kp, done H pv⟩
section
variable {X : Cx}
/-- y = {k: v for ..}: the name is stored within the comprehension's frame -/
theorem ps_setDc {j : Nat} {y : Str} {yp : Pos} {kx vx tg iter : Expr} {ifs : List Expr} {scope : Scope} {own : List (Str × Nat)} {cp sp : Pos} {wi : TI} {g : TG} {tt : TT} {tk tv : TE} (calm : X.calm = true) (nodup : X.N.Nodup) (atJ : X.N[j]? = some y) (isLoc : X.env.scope.names.lookup y = some .local)
    (swaps : swapsWith (.DictComp kx vx [⟨tg, iter, ifs, 0⟩] scope cp) (some (.Name y yp)) sp.line X.env = pure true) (walks : PI X tg iter wi) (blk : BlkOk X.N X.env.scope scope own)
    (target : ∀ (s : Shared) (H : Hp) (C : Addr) (cl : List (Str × Addr)) (fp : List Addr), PG (X.blk s H scope (compEnvC scope cl C X.env) fp) tg g) (tests : ∀ (s : Shared) (H : Hp) (C : Addr) (cl : List (Str × Addr)) (fp : List Addr), PTs (X.blk s H scope (compEnvC scope cl C X.env) fp) ifs tt)
    (keys : ∀ (s : Shared) (H : Hp) (C : Addr) (cl : List (Str × Addr)) (fp : List Addr), PE (X.blk s H scope (compEnvC scope cl C X.env) fp) kx tk)
    (vals : ∀ (s : Shared) (H : Hp) (C : Addr) (cl : List (Str × Addr)) (fp : List Addr), PE (X.blk s H scope (compEnvC scope cl C X.env) fp) vx tv) (plain : ∀ x, foldedSetIterable iter X.env x = pure x := by intro _; rfl) :
    PS X (.Assign [.Name y yp] (.DictComp kx vx [⟨tg, iter, ifs, 0⟩] scope cp) sp) (tAsg (tDc wi g tt tk tv (own.map (·.2))) (gName j)) := by
  refine ⟨fun pins s σ H D I want => ?_⟩
  rw [exec_Assign_Name_used _ _ _ _ swaps]
  refine wpAny_bind (wpAny_standAt (wpAny_bind ?_))
  show wpAny _ X.A (do let _ ← comprehension (.DictComp kx vx [⟨tg, iter, ifs, 0⟩] scope cp) scope X.env (firstIterPos [⟨tg, iter, ifs, 0⟩] cp) newDict false (eval iter X.env) (some (assign (.Name y yp) X.env))) _ _ s
  have want' : tDc wi g tt tk tv (own.map (·.2)) σ H (fun x H1 => gName j x σ H1 D.nx) := want
  refine wpAny_bind (thn (dc_core (Qf := fun _ s' => SP X pins D .next s') calm nodup I walks blk target tests keys vals plain want' fun made frame s' m H' J q hn young => ?_) fun _ s' z => wpAny_pure (wpAny_pure z))
  show wpAny _ _ (assign (.Name y yp) X.env (.ref made)) _ _ _
  refine wpAny_assign_Name (store_ok2 (v := V.ref made) J nodup atJ (.inl isLoc) rfl (fun s2 J2 ⟨a, but, isA⟩ => ?_) (.inr isLoc))
  obtain ⟨y0, y1, y2, y3, y4, y5⟩ := young
  have apart : frame ≠ a := by
    rcases isA with z | z
    · rw [z]
      exact y1
    · intro e
      exact y4 y a z e.symm
  refine ⟨m, hn.sameBut but apart, fun h3 but3 => ?_⟩
  exact ⟨_, H', J2.turned (t' := s2.toks) (fun b o hb e => (but3.2 b hb).trans e) y0 y1 y3 y4 y5, q⟩
theorem sw_trueD {kx vx : Expr} {gs : List Comprehension} {scope : Scope} {pos py : Pos} {y : Str} {l : Nat} {env : Env} (isFun : env.scope.kind = .function) (isLoc : env.scope.names.lookup y = some .local) (line : (py.line == pos.line) = true)
    (apart : (scope.names.any fun (n, k) => n == y && (k == .local || k == .cell)) = false) : swapsWith (.DictComp kx vx gs scope pos) (some (.Name y py)) l env = pure true := by
  have k1 : env.kindOf y = some .local := isLoc
  have k2 : env.blockKind = .function := by
    unfold Env.blockKind
    rw [isFun]
    rfl
  unfold swapsWith
  simp only [k2, k1, apart, Expr.pos, line]
  rfl
end
/-- not x, by truth, K said -/
theorem pe_notTK {X : Cx} {K : PySem.W.Frag} {a : Expr} {ta : TE} {pos : Pos} (hK : X.K = K) (ha : PE X a ta) : PE X (.UnaryOp .Not a pos) (tNotT K ta) := by
  subst hK
  exact pe_notT ha
end L2

set_option Elab.async false
set_option linter.all false
set_option maxRecDepth 100000
set_option maxHeartbeats 4000000
/-! Dicts of texts compared both ways; a staticmethod called by the class's name. -/
namespace L2
open PySem PySem.Spec PyProof.Rows
def Strs (ks : List (Key × V)) : Prop := ∀ p ∈ ks, ∃ z, p.2 = .str z
def sameD (ks ls : List (Key × V)) : Bool := ks.length == ls.length && ks.all fun p => decide (valV ls p.1 = some p.2)
theorem valV_mem {ls : List (Key × V)} {k : Key} {y : V} (h : valV ls k = some y) : ∃ p ∈ ls, p.2 = y := by
  unfold valV at h
  cases e : ls.find? (fun kv => decide (kv.1 = k)) with
  | none =>
    rw [e] at h
    cases h
  | some q =>
    rw [e] at h
    exact ⟨q, List.mem_of_find?_eq_some e, Option.some.inj h⟩
theorem eqAt_strs {A : Around} {s : Shared} {x y : Str} {u u' : Value} (r : RelV (.str x) u) (r' : RelV (.str y) u') : SeqAt.EqAt A s u u' (decide (x = y)) := by
  obtain ⟨t, rfl⟩ := (show ∃ t, u = Value.str x t from r)
  obtain ⟨t', rfl⟩ := (show ∃ t, u' = Value.str y t from r')
  have q := SeqAt.EqAt.str_str (A := A) (s := s) x t y t'
  have e : (x == y) = decide (x = y) := by
    rw [Bool.eq_iff_iff]
    simp
  rw [e] at q
  exact q
theorem hits_str {A : Around} {s : Shared} {ls : List (Key × V)} {vb : List (Key × Value)} (rb : KV ls vb) (sl : Strs ls) {ks : List (Key × V)} {va : List (Key × Value)} (ra : KV ks va) :
    Strs ks → PySem.W.KeqHits A s vb va (ks.all fun p => decide (valV ls p.1 = some p.2)) := by
  unfold KV at ra
  induction ra with
  | nil => intro _; exact .nil
  | @cons p q ps qs h t ih =>
    intro hp
    obtain ⟨h1, h2⟩ := h
    obtain ⟨z, ez⟩ := hp p List.mem_cons_self
    have rr : RelO (valV ls p.1) (valueAt vb p.1) := rb.val p.1
    obtain ⟨k, v⟩ := q
    have h1' : p.1 = k := h1
    rw [h1'] at rr
    rw [List.all_cons, h1']
    cases e : valV ls k with
    | none =>
      rw [e] at rr
      have hn : valueAt vb k = none := RelO.none_of rr
      have ef : decide ((none : Option V) = some p.2) = false := rfl
      rw [ef, Bool.false_and]
      exact .miss hn
    | some y =>
      rw [e] at rr
      obtain ⟨y', hy, ry⟩ := rr.some_of
      obtain ⟨q2, hm, e2⟩ := valV_mem e
      obtain ⟨z2, ez2⟩ := sl q2 hm
      have ey : y = .str z2 := e2.symm.trans ez2
      subst ey
      rw [ez] at h2
      have hh := eqAt_strs (A := A) (s := s) h2 ry
      have ed : decide (some (V.str z2) = some p.2) = decide (z = z2) := by
        rw [ez]
        by_cases c : z = z2
        · rw [c]
          simp
        · rw [decide_eq_false c, decide_eq_false]
          intro w
          exact c (V.str.inj (Option.some.inj w)).symm
      rw [ed]
      exact .hit hy hh (ih fun p' hm => hp p' (List.mem_cons_of_mem _ hm))
section
variable {X : Cx}
def rEqDT (g : Bool → Bool) : R2 := fun x y H Q => ∃ a b ks ls, x = .ref a ∧ y = .ref b ∧ Rd H a (.dK ks) ∧ Rd H b (.dK ls) ∧ Strs ks ∧ Strs ls ∧ Q (.bl (g (sameD ks ls))) H
theorem op_eqDT (hu : X.A.units + 1 < cLine) : OpR X (compareOp .Eq) (rEqDT id) := by
  intro pins s σ H x y v u Q I rx ry h
  obtain ⟨a, b, ks, ls, rfl, rfl, ea, eb, sk, sl, q⟩ := h
  obtain rfl : v = Value.ref a := rx
  obtain rfl : u = Value.ref b := ry
  obtain ⟨_, ya, va, ra, da⟩ := dk_rd I.hok ea
  obtain ⟨_, yb, vb, rb, db⟩ := dk_rd I.hok eb
  have h1 : va.length = ks.length := (Paired.length ra).symm
  have h2 : vb.length = ls.length := (Paired.length rb).symm
  exact PySem.W.keq_eq (knd := mixKind X.prog X.w) ya yb da db (Nat.lt_of_succ_lt hu) (fun _ => hits_str rb sl ra sk) (fin_bl I q (by rw [h1, h2]; rfl))
theorem op_neDT (hu : X.A.units + 1 < cLine) : OpR X (compareOp .NotEq) (rEqDT not) := by
  intro pins s σ H x y v u Q I rx ry h
  obtain ⟨a, b, ks, ls, rfl, rfl, ea, eb, sk, sl, q⟩ := h
  obtain rfl : v = Value.ref a := rx
  obtain rfl : u = Value.ref b := ry
  obtain ⟨_, ya, va, ra, da⟩ := dk_rd I.hok ea
  obtain ⟨_, yb, vb, rb, db⟩ := dk_rd I.hok eb
  have h1 : va.length = ks.length := (Paired.length ra).symm
  have h2 : vb.length = ls.length := (Paired.length rb).symm
  exact PySem.W.keq_ne (knd := mixKind X.prog X.w) ya yb da db (Nat.lt_of_succ_lt hu) (fun _ => hits_str rb sl ra sk) (fin_bl I q (by rw [h1, h2]; rfl))
end
/-- C.m is a staticmethod: its record at p, its def at g -/
structure SMet (K : PySem.W.Frag) (C : Addr) (mc : Value) (m : Str) (p g : Addr) : Prop where
  at_ : PySem.W.findCls K (.ref C) mc m = some (.get (.builtin "staticmethod.__get__") (.ref p) .none (.ref C))
  rc : ∃ rest, PySem.W.recIn K p "staticmethod" = some (.ref g :: rest)
  kp : PySem.W.keepIn K (.ref g) = true
section
variable {X : Cx} {CX : CXT} {k : Nat} {C p g : Addr} {mc : Value} {sp : Sp} {E : XK} {o e : Expr} {es : List Expr} {m : Str} {pos apos : Pos} {ta : TE} {t : TA} {pl : Sem Bool} {fd : FuncData} {ps : List Str}
theorem getmethsm_ok {pins : List (Addr × Obj)} {σ : L2.St} {H : Hp} {s : Shared} {A : Around} {E : Value → Shared → Prop} {Q : Value × List Value → Shared → Prop} (I : Inv X pins σ H s) (r : ClX.CRead X.K C mc) (k : SMet X.K C mc m p g)
    (h : ∀ s', Inv X pins σ H s' → Q (.ref g, []) s') : wpAny (model X.prog X.w) A (getMethod (.ref C) m pl) Q E s := by
  obtain ⟨rest, hp⟩ := k.rc
  refine PySem.W.method_cls I.kIn r.ga ?_
  refine PySem.W.cls_bind I.kIn r.rd k.at_ ?_
  refine wpAny_call (PySem.W.sm_get (s := { s with toks := s.toks + 1 }) I.kIn hp (PySem.W.handed_on rfl ?_))
  exact h _ (I.tok _)
/-- e.m(..), e the class at C, m a staticmethod -/
def tSMeth (C : Addr) (sp : Sp) (E : XK) (ta : TE) (t : TA) : TE := fun σ H Q => ta σ H fun x H1 => x = .ref C ∧ t σ H1 fun vs H2 => sp vs H2 Q E
theorem pe_smeth (he : PE X o ta) (r : ClX.CRead X.K C mc) (c : SMet X.K C mc m p g) (F : FnOk X.prog X.w X.K X.mg X.base CX k g fd ps sp) (hr : Room k X.A) (hb : Binds X.K fd ps []) (hx : Passes CX X E) (ha : PA X (e :: es) t)
    (hst : starEach (e :: es) X.env = (false, eval e X.env) :: starEach es X.env := by rfl) (hpl : (backTo pos (starEach es X.env)).any (·.1) = false := by rfl)
    (ht : eval (.Call (.Attribute o m apos) (e :: es) [] pos) X.env = (do
      let ov ← eval o X.env
      standAt apos.atName
      let (f, first) ← holding [ov] (getMethod ov m pl)
      callWith pos f first (backTo pos (starEach (e :: es) X.env)) (backToKw pos (keywordEach [] X.env))) := by rfl) :
    PE X (.Call (.Attribute o m apos) (e :: es) [] pos) (tSMeth C sp E ta t) := by
  refine ⟨fun pins s σ H Q I h => ?_⟩
  refine PySem.W.methodCall_KW (pl := pl) (thn (he.run pins s σ H _ I h) fun u s1 ⟨x, H1, I1, rx, ex, q⟩ => ?_) ht
  subst ex
  obtain rfl : u = Value.ref C := rx
  refine getmethsm_ok I1 r c fun s2 I2 => ?_
  refine PySem.W.callWith_K (h₀ := X.base) I.ok.mod.kin c.kp (thn (ha.run pos pins s2 σ H1 _ I2 q) fun us s3 ⟨vs, H2, I3, rv, q2⟩ => ⟨I3.kIn, ?_⟩) hst hpl
  exact run_fn (us := us) (dvs := []) (ds := []) F hr hb .nil hx I3 rv (by rw [List.append_nil]; exact q2)
/-- e.m(k = v, ..) -/
def tSMethK (C : Addr) (sp : Sp) (gV : List V → List V → List V) (E : XK) (ta : TE) (tk : TA) : TE := fun σ H Q => ta σ H fun x H1 => x = .ref C ∧ tk σ H1 fun zs H2 => sp (gV [] zs) H2 Q E
theorem pe_smethK0 {kws : List Keyword} {tk : TA} {ks : List Str} {gg : List Value → List Value → List Value} {gV : List V → List V → List V} (he : PE X o ta) (r : ClX.CRead X.K C mc) (c : SMet X.K C mc m p g) (F : FnOk X.prog X.w X.K X.mg X.base CX k g fd ps sp) (hr : Room k X.A) (hb : KBinds X.K fd ps ks gg gV) (hx : Passes CX X E) (hkw : PK X kws tk)
    (hall : (backToKw pos (keywordEach kws X.env)).all (·.1.isSome) = true := by rfl) (hks : (backToKw pos (keywordEach kws X.env)).filterMap (·.1) = ks := by rfl)
    (hpl : ((backTo pos (starEach [] X.env)).any (·.1) || (backToKw pos (keywordEach kws X.env)).any (·.1.isNone)) = false := by rfl)
    (ht : eval (.Call (.Attribute o m apos) [] kws pos) X.env = (do
      let ov ← eval o X.env
      standAt apos.atName
      let (f, first) ← holding [ov] (getMethod ov m pl)
      callWith pos f first (backTo pos (starEach [] X.env)) (backToKw pos (keywordEach kws X.env))) := by rfl) :
    PE X (.Call (.Attribute o m apos) [] kws pos) (tSMethK C sp gV E ta tk) := by
  refine ⟨fun pins s σ H Q I h => ?_⟩
  refine PySem.W.methodCall_KW (pl := pl) (thn (he.run pins s σ H _ I h) fun u s1 ⟨x, H1, I1, rx, ex, q⟩ => ?_) ht
  subst ex
  obtain rfl : u = Value.ref C := rx
  refine getmethsm_ok I1 r c fun s2 I2 => ?_
  refine PySem.W.callWith_KW0 (h₀ := X.base) I.ok.mod.kin c.kp hall (thn (hkw.run pos pins s2 σ H1 _ I2 q) fun ws s3 ⟨zs, H2, I3, rz, q2⟩ => ⟨I3.kIn, ?_⟩) hpl
  rw [hks]
  exact run_fnk (us := []) (vs := []) F hr hb hx I3 .nil rz q2
end
/-- f'..' of two parts or more, by a name -/
def tJo (ts : List TE) : TE := fun σ H Q => tJs ts Str.empty σ H fun out H1 => Q (.str out) H1
theorem pe_joinedT {X : Cx} {v1 v2 : Expr} {rest : List Expr} {ts : List TE} {pos : Pos} (h : PJ X (v1 :: v2 :: rest) ts) : PE X (.JoinedStr (v1 :: v2 :: rest) pos) (tJo ts) := pe_joined h
end L2

set_option Elab.async false
set_option linter.all false
set_option maxRecDepth 100000
set_option maxHeartbeats 4000000
/-! An own error's `__init__` that calls the base error's by the base's name, where the base has none of its own. -/
namespace L2
open PySem PySem.Spec PyProof.Rows
section
variable {X : Cx} {e : Expr} {es : List Expr} {ta : TA} {x : Str} {CR : Addr} {mc : Value} {p1 p2 pos : Pos} {pl : Sem Bool}
theorem pe_baseinit (hg : Gl X x) (hm : X.mg x = some (.ref CR)) (r : ClX.CRead X.K CR mc) (vV : PySem.W.findCls X.K (.ref CR) mc "__init__" = some (.val (.builtin "ValueError.__init__"))) (ha : PA X (e :: es) ta)
    (hdb : (x == ("__debug__" : Str)) = false := by decide)
    (hc : eval (.Call (.Attribute (.Name x p1) "__init__" p2) (e :: es) [] pos) X.env = (do
      let ov ← eval (.Name x p1) X.env
      standAt p2.atName
      let (f, first) ← holding [ov] (getMethod ov "__init__" pl)
      callWith pos f first (backTo pos (starEach (e :: es) X.env)) (backToKw pos (keywordEach [] X.env))) := by rfl)
    (he : starEach (e :: es) X.env = (false, eval e X.env) :: starEach es X.env := by rfl) (hpl : (backTo pos (starEach es X.env)).any (·.1) = false := by rfl) :
    PE X (.Call (.Attribute (.Name x p1) "__init__" p2) (e :: es) [] pos) (tVeI X.K ta) := by
  refine ⟨fun pins s σ H Q I h => ?_⟩
  refine PySem.W.methodCall_KW (pl := pl) (ld_glob I hg hm ?_ hdb) hc
  refine PySem.W.method_cls I.kIn r.ga ?_
  refine PySem.W.cls_value I.kIn r.rd vV (by decide +kernel) ?_
  show wpAny _ _ (callWith pos (Value.builtin "ValueError.__init__") [] (backTo pos (starEach (e :: es) X.env)) []) _ _ _
  refine PyProof.Rows.callWith_method1 (thn (ha.run pos pins _ σ H _ (I.tok _) h) fun us s1 ⟨vs, H1, I1, r1, a, C, ws, ev, hl, T, ea, q⟩ => ?_) he hpl
  subst ev
  cases r1 with
  | @cons _ u0 _ ur ra rw' =>
    obtain rfl : u0 = Value.ref a := ra
    have hlen : ur.length ≤ sizeLine := by
      rw [← Paired.length rw', sizeLine_eq]
      omega
    exact oinit_ok T I1 ea hlen fun s' J => ⟨.non, H1, J, rfl, q⟩
end
end L2

set_option Elab.async false
set_option linter.all false
set_option maxRecDepth 100000
set_option maxHeartbeats 4000000
/-! a | b, a >> b .. by an own method, both of the same class; a <= b by an own one (its answer a bool). -/
namespace L2
open PySem PySem.Spec PyProof.Rows
section
variable {X : Cx} {n : Nat} {CX : CXT} {C f : Addr} {fd : FuncData} {ps : List Str} {sp : Sp} {E : XK}
theorem notNI {v : V} {u : Value} (r : RelV v u) {Q : Value → Shared → Prop} {s : Shared} (q : Q u s) : PySem.W.CmpBack Q u s := by
  cases v <;> first
    | (obtain ⟨t, rfl⟩ := r; exact q)
    | (cases r; exact q)
def rBinOwn (K : PySem.W.Frag) (C : Addr) (sp : Sp) (E : XK) : R2 := fun x y H Q => ∃ a dx fs b dy gs, x = .ref a ∧ H a = some (.ins C dx fs) ∧ y = .ref b ∧ H b = some (.ins C dy gs) ∧ sp [.ref a, y] H Q E
theorem op_binOwn {op : Operator} (F : FnOk X.prog X.w X.K X.mg X.base CX n f fd ps sp) (hb : Binds X.K fd ps []) (hx : Passes CX X E) (hs : PySem.W.findIn X.K (.ref C) (PySem.dunder op.info.2) = some (some (.ref f))) (hf : PySem.W.isFn X.K (.ref f) = true) (hc : PySem.W.selfFirst X.K C = true) (hr : Room n X.A) :
    OpR X (binaryOp op) (rBinOwn X.K C sp E) := by
  intro pins s σ H x y v u Q I rx ry h
  obtain ⟨a, dx, fs, b, dy, gs, rfl, ha, rfl, hbb, hsp⟩ := h
  cases rx
  cases ry
  obtain ⟨od, J⟩ := inst_at I ha
  obtain ⟨od2, J2⟩ := inst_at I hbb
  obtain ⟨m, hF⟩ := I.fr
  refine PySem.W.binop_K hF I.ok.mod.kin J J2.type hc hs hf (thn (run_own (Sub.here hr) F hb hx I (show Vals [V.ref a, V.ref b] [Value.ref a, Value.ref b] from .cons rfl (.cons rfl .nil)) hsp) fun r s' q => ?_)
  obtain ⟨z, H', I', rz, q⟩ := q
  exact notNI rz ⟨z, H', I', rz, q⟩
def rLeOwn (K : PySem.W.Frag) (C : Addr) (sp : Sp) (E : XK) : R2 := fun x y H Q => ∃ a dx fs tb, x = .ref a ∧ H a = some (.ins C dx fs) ∧ TyX K H y tb ∧ PySem.W.notFirst K C tb = true ∧ sp [.ref a, y] H Q E
theorem op_leOwn (F : FnOk X.prog X.w X.K X.mg X.base CX n f fd ps sp) (hb : Binds X.K fd ps []) (hx : Passes CX X E) (o : Own X.K C "__le__" f) (hr : Room n X.A) : OpR X (compareOp .LtE) (rLeOwn X.K C sp E) := by
  intro pins s σ H x y v u Q I rx ry h
  obtain ⟨a, dx, fs, tb, rfl, ha, ty, hn, hs⟩ := h
  cases rx
  obtain ⟨od, J⟩ := inst_at I ha
  obtain ⟨m, hF⟩ := I.fr
  obtain ⟨P, Z, p, _⟩ := kit_of I ry ty
  refine PySem.W.cmp_K (op := .LtE) hr.units0 hF I.ok.mod.kin J (Z.ty _ _ I.kIn p) hn o.find o.fn (thn (run_own (Sub.here hr) F hb hx I (show Vals [V.ref a, y] [Value.ref a, u] from .cons rfl (.cons ry .nil)) hs) fun r s' q => ?_)
  obtain ⟨z, H', I', rz, q⟩ := q
  exact notNI rz ⟨z, H', I', rz, q⟩
end
end L2

set_option Elab.async false
set_option linter.all false
set_option maxRecDepth 100000
set_option maxHeartbeats 4000000
/-! enumerate(text). -/
namespace L2
open PySem PySem.Spec PyProof.Rows
/-- the signs of a text, each in a new pair behind its number -/
def ItSe (z : Str) : It :=
  ⟨fun i _ => i < z.cps.size, fun i H v H' => ∃ T c, v = .ref T ∧ H T = none ∧ H' = upd H T (.tup [.int (i : Nat), .str ⟨#[c]⟩]) ∧ z.cps[i]? = some c, fun i _ => i = z.cps.size⟩
theorem turn_enumS {P : Program} {w : World} {K : PySem.W.Frag} {elts : List Expr} {kk : Nat} {tpos : Pos} (z : Str) (t : Tok) (e it : Addr) :
    Turn P w K (.Tuple elts kk tpos) (ItSe z) [e, it] e (fun i h => (∃ old, IsEnum h e it ((i : Nat) : Int) old) ∧ h.IsStrIter it (strIterType z) z t i ∧ e ≠ it) where
  mem := by simp
  obj := fun i h st b hb => by
    obtain ⟨⟨old, he⟩, ⟨o, ho, hc, hd⟩, _⟩ := st
    have e' : b = e ∨ b = it := by simpa using hb
    rcases e' with z | z
    · rw [z]; exact ⟨_, he, fun v q => nomatch q⟩
    · rw [z]; exact ⟨o, ho, fun v q => by rw [hd] at q; cases q⟩
  keep := fun i h h' st k => by
    obtain ⟨⟨old, he⟩, ⟨o, ho, r⟩, hne⟩ := st
    exact ⟨⟨old, k e (by simp) _ he⟩, ⟨o, k it (by simp) o ho, r⟩, hne⟩
  item := by
    intro X hP hw hK hc i pins s σ H E I hf st hg
    subst hP hw hK
    obtain ⟨⟨old, he⟩, hit, hne⟩ := st
    have hel : e < s.heap.objs.size := Heap.lt_size he
    have hil : it < s.heap.objs.size := by obtain ⟨_, q, _⟩ := hit; exact Heap.lt_size q
    refine wpAny_pyNext_enum_itemD (Draws.text (A := X.A.in1) (I.ok.hd hc) it z t) he hit hg hne (by simpa using hne) fun x h' tk hx ho hit' hT hsz hk => ?_
    obtain ⟨c, u, hcx, rfl⟩ := hx
    refine ⟨_, rfl, wpAny_letOwnedTupleGo_enum (s := { s with heap := h', toks := tk + 1 }) ho fun h'' he' sb => ?_⟩
    have hT2 : h''.get? s.heap.objs.size = some { cls := .type "tuple", data := .seq #[.int i tk, .str ⟨#[c]⟩ u] } := (sb.2 _ (Nat.ne_of_gt hel)).trans hT
    have new : ObjOk X.prog X.w (upd H s.heap.objs.size (.tup [.int (i : Nat), .str ⟨#[c]⟩])) h'' s.heap.objs.size (.tup [.int (i : Nat), .str ⟨#[c]⟩]) :=
      ⟨by show 2 ≤ sizeLine; decide, [.int i tk, .str ⟨#[c]⟩ u], .cons ⟨_, rfl⟩ (.cons ⟨_, rfl⟩ .nil), ⟨_, hT2, rfl, _, rfl⟩⟩
    have I1 : Inv X pins σ (upd H s.heap.objs.size (.tup [.int (i : Nat), .str ⟨#[c]⟩])) { s with heap := h'', toks := tk + 1 } :=
      I.turnedNew (ch := [e, it]) (fun b ob hb q => (sb.2 b (fun z => hb (by simp [z]))).trans (hk b ob (fun z => hb (by simp [z])) (fun z => hb (by simp [z])) q)) hf (Nat.le_refl _) new
    refine ⟨.ref s.heap.objs.size, _, I1, rfl, ⟨_, c, rfl, I.hok.fresh (Nat.le_refl _), rfl, hcx⟩, ⟨⟨.str ⟨#[c]⟩ u, ?_⟩, ?_, hne⟩, fun b hb => ?_⟩
    · have e1 : ((i + 1 : Nat) : Int) = (i : Int) + 1 := by omega
      rw [e1]; exact he'
    · obtain ⟨o, q, r⟩ := hit'
      exact ⟨o, (sb.2 it (Ne.symm hne)).trans q, r⟩
    · have hb' : b < s.heap.objs.size := by
        have e' : b = e ∨ b = it := by simpa using hb
        rcases e' with z | z
        · rw [z]; exact hel
        · rw [z]; exact hil
      rw [upd_ne (Nat.ne_of_lt hb')]
      exact (hf b hb).1
  done := by
    intro X hP hw hK hc i pins s σ H E I hf st hg
    subst hP hw hK
    obtain ⟨⟨old, he⟩, hit, hne⟩ := st
    have hi : i = z.cps.size := hg
    obtain ⟨f0, f1, f2, f3, f4, f5⟩ := hf it (by simp)
    subst hi
    exact wpAny_pyNext_enum_endD (Draws.text (A := X.A.in1) (I.ok.hd hc) it z t) he hit fun h' eb => ⟨rfl, I.turned (t' := s.toks) (fun b o hb q => eb b o hb q) f0 f1 f3 f4 f5⟩
  self := fun A i s Q E st h => let ⟨⟨_, he⟩, _⟩ := st; wpAny_pyIter_enum he h
def iEnumS (ta : TA) : TI := fun σ H R => ta σ H fun vs H1 => ∃ z, vs = [.str z] ∧ R (ItSe z) H1
theorem pi_enumS {X : Cx} {e : Expr} {ta : TA} {p pos tpos : Pos} {elts : List Expr} {kk : Nat} (hg : Gl X "enumerate") (hm : X.mg "enumerate" = none) (ha : PA X [e] ta) (hs : starEach [e] X.env = [(false, eval e X.env)] := by rfl) :
    PI X (.Tuple elts kk tpos) (.Call (.Name "enumerate" p) [e] [] pos) (iEnumS ta) := by
  refine ⟨fun pins s σ H R I h => ?_⟩
  refine Call_ (ld_blt I hg hm boot_enumerate (PyProof.Rows.callWith_type1 (thn (ha.run pos pins s σ H _ I h) fun us s1 ⟨vs, H1, I1, r1, q1⟩ => ?_) hs rfl))
  obtain ⟨z, ex, q⟩ := q1
  subst ex
  cases r1 with
  | cons r rr =>
    cases rr
    obtain ⟨t, rfl⟩ := r
    refine call_enumerate_str fun h' he hit hsz hk => wpAny_pyIter_enum he ?_
    have I2 : Inv X pins σ H1 { s1 with heap := h' } := I1.kept (t' := s1.toks) hk
    refine ⟨s1.heap.objs.size + 1, [s1.heap.objs.size + 1, s1.heap.objs.size], _, _, H1, rfl, I2, turn_enumS z t (s1.heap.objs.size + 1) s1.heap.objs.size, ⟨⟨.none, he⟩, hit, Nat.succ_ne_self _⟩, fun b hb => ?_, q⟩
    have e' : b = s1.heap.objs.size + 1 ∨ b = s1.heap.objs.size := by simpa using hb
    have hle : s1.heap.objs.size ≤ b := by
      rcases e' with z | z
      · rw [z]; exact Nat.le_add_right _ _
      · rw [z]; exact Nat.le_refl _
    exact I1.fpOk hle (I1.hok.fresh hle)
theorem walk_enumS {z : Str} : Walk (ItSe z) z.cps.size (fun _ => True) (fun i H v H' => ∃ T c, v = .ref T ∧ H T = none ∧ H' = upd H T (.tup [.int (i : Nat), .str ⟨#[c]⟩]) ∧ z.cps[i]? = some c) :=
  ⟨fun _ _ hi _ => hi, fun _ _ => rfl, fun _ _ _ _ _ _ y => y⟩
end L2

set_option Elab.async false
set_option linter.all false
set_option maxRecDepth 100000
set_option maxHeartbeats 4000000
/-! Signs of an own class by its own methods, by an address; a ** k. -/
namespace L2
open PySem PySem.Spec PyProof.Rows
/-- an own method that a sign of two calls -/
structure Bo (P : Program) (w : World) (K : PySem.W.Frag) (mg : Str → Option Value) (base : Heap) (k : Nat) (C : Addr) (m : Str) (sp : Sp) : Prop where
  ex : ∃ (f : Addr) (fd : FuncData) (ps : List Str), FnOk P w K mg base CX0 k f fd ps sp ∧ Binds K fd ps [] ∧ PySem.W.findIn K (.ref C) m = some (some (.ref f)) ∧ PySem.W.isFn K (.ref f) = true ∧ PySem.W.selfFirst K C = true
/-- what the sign of the power asks of int -/
structure IntP (K : PySem.W.Frag) (C : Addr) : Prop where
  rp : PySem.W.findIn K (.ref C) "__rpow__" = some none
  h1 : ∃ fo, PySem.W.findIn K (.type "int") "__pow__" = some fo
  h2 : ∃ ro, PySem.W.findIn K (.type "int") "__rpow__" = some ro
  sub : PySem.W.subIn K (.type "int") (.ref C) = some false
def rPowOwn (K : PySem.W.Frag) (C : Addr) (sp : Sp) (E : XK) : R2 := fun x y H Q => ∃ a dx fs i, x = .ref a ∧ H a = some (.ins C dx fs) ∧ y = .int i ∧ sp [.ref a, .int i] H Q E
section
variable {X : Cx} {k j : Nat} {C : Addr} {sp : Sp}
theorem op_bin {op : Operator} {m : Str} (c : Bo X.prog X.w X.K X.mg X.base k C m sp) (hr : Room j X.A) (hk : k ≤ j) (hm : PySem.dunder op.info.2 = m := by rfl) : OpR X (binaryOp op) (rBinOwn X.K C sp E0) := by
  obtain ⟨f, fd, ps, F, b, h1, h2, h3⟩ := c.ex
  subst hm
  exact op_binOwn F b pass0 h1 h2 h3 (hr.mono hk)
theorem op_powO {m : Str} (c : Bo X.prog X.w X.K X.mg X.base k C m sp) (ip : IntP X.K C) (hr : Room j X.A) (hk : k ≤ j) (hm : PySem.dunder (Operator.info .Pow).2 = m := by rfl) : OpR X (binaryOp .Pow) (rPowOwn X.K C sp E0) := by
  obtain ⟨f, fd, ps, F, b, h1, h2, h3⟩ := c.ex
  subst hm
  intro pins s σ H x y v u Q I rx ry h
  obtain ⟨a, dx, fs, i, rfl, ha, rfl, hsp⟩ := h
  obtain rfl : v = Value.ref a := rx
  obtain ⟨od, J⟩ := inst_at I ha
  obtain ⟨m, hF⟩ := I.fr
  obtain ⟨fo, e1⟩ := ip.h1
  obtain ⟨ro, e2⟩ := ip.h2
  have hb : typeOf u = pure (.type "int") := by
    obtain ⟨t, rfl⟩ := (show ∃ t, u = Value.int i t from ry)
    rfl
  refine PySem.W.ksp_binT hF I.ok.mod.kin J hb h3 h1 h2 ip.rp (.inl rfl) e1 e2 ip.sub (thn (run_own (Sub.here (hr.mono hk)) F b pass0 I (show Vals [V.ref a, V.int i] [Value.ref a, u] from .cons rfl (.cons ry .nil)) hsp) fun r s' q => ?_)
  obtain ⟨z, H', I', rz, q⟩ := q
  exact notNI rz ⟨z, H', I', rz, q⟩
theorem pe_mt {pl : Sem Bool} {m : Str} {o e : Expr} {es : List Expr} {apos pos : Pos} {ta : TE} {t : TA} (c : Cls X.K C) (D : Mf X.prog X.w X.K X.mg X.base k C m sp) (hr : Room j X.A) (hk : k ≤ j) (he : PE X o ta) (ha : PA X (e :: es) t)
    (hst : starEach (e :: es) X.env = (false, eval e X.env) :: starEach es X.env := by rfl) (hpl : (backTo pos (starEach es X.env)).any (·.1) = false := by rfl)
    (ht : eval (.Call (.Attribute o m apos) (e :: es) [] pos) X.env = (do
      let ov ← eval o X.env
      standAt apos.atName
      let (f, first) ← holding [ov] (getMethod ov m pl)
      callWith pos f first (backTo pos (starEach (e :: es) X.env)) (backToKw pos (keywordEach [] X.env))) := by rfl) :
    PE X (.Call (.Attribute o m apos) (e :: es) [] pos) (tMeth C m sp [] E0 ta t) := by
  obtain ⟨f, fd, ps, F, hm, _, _, b⟩ := D.ex
  exact pe_meth (pl := pl) he c hm F (hr.mono hk) b .nil pass0 ha hst hpl ht
theorem op_leM (c : Bo X.prog X.w X.K X.mg X.base k C "__le__" sp) (hr : Room j X.A) (hk : k ≤ j) : OpR X (compareOp .LtE) (rLeOwn X.K C sp E0) := by
  obtain ⟨f, fd, ps, F, b, h1, h2, h3⟩ := c.ex
  exact op_leOwn F b pass0 ⟨h1, h2⟩ (hr.mono hk)
end
end L2

set_option Elab.async false
set_option linter.all false
set_option maxRecDepth 100000
set_option maxHeartbeats 4000000
/-! try: .. except E as n: k = n, where k is read later: the caught exception becomes a thing of the abstract heap. -/
namespace L2
open PySem PySem.Spec PyProof.Rows
/-- an exception that was caught and is kept: its class, its dict -/
def CaughtO (cls : Value) (d : Option Addr) (a : Addr) : HO := .ext fun h => ∃ (oe : Obj) (vs : Array Value), h.get? a = some oe ∧ Zc cls d oe ∧ oe.data = .fields vs
/-- a caught exception stands on the ground of X, and nothing of X has known it before -/
structure Down (X : Cx) (pins : List (Addr × Obj)) (σ : St) (H : Hp) (cls : Value) (d : Option Addr) (a : Addr) (B : Heap) (s : Shared) : Prop where
  inv : Inv X pins σ H s
  fly : HandSPX.FlyingZ B X.stack a (Zc cls d) s.heap
  unk : H a = none
  notL : a ≠ X.env.locals
  notF : a ∉ X.fs
  notS : ∀ o, X.s_0.heap.get? a = some o → a ∉ X.ex → False
  notP : ∀ p ∈ X.pn ++ pins, p.1 ≠ a
  gnd : ∃ s0 : Shared, Inv X pins σ H s0 ∧ (∀ c o, s0.heap.get? c = some o → c ∉ frs X.stack → B.get? c = some o) ∧ s0.heap.UpToSlots s.heap ∧ s.os = s0.os ∧ AllBare s.gens
section
variable {X : Cx} {pins : List (Addr × Obj)} {σ : St} {H : Hp} {cls : Value} {d : Option Addr} {a : Addr} {B : Heap} {s : Shared}
theorem Down.obj (W : Down X pins σ H cls d a B s) : ∃ (oe : Obj) (vs : Array Value), s.heap.get? a = some oe ∧ Zc cls d oe ∧ oe.data = .fields vs := W.fly.there
/-- from now on it is tracked -/
theorem Down.tracked (W : Down X pins σ H cls d a B s) : Inv X pins σ (upd H a (CaughtO cls d a)) s := by
  obtain ⟨oe, vs, q1, q2, q3⟩ := W.obj
  obtain ⟨i1, i2, i3, i4, i5, i6, i7, i8, i9, i10, i11⟩ := W.inv
  have off : ∀ c, c ≠ a → upd H a (CaughtO cls d a) c = H c := fun c h => upd_ne h
  have off' : ∀ c u, H c = some u → upd H a (CaughtO cls d a) c = some u := fun c u h => (off c (ne_of_none h W.unk)).trans h
  have tell : ObjOk X.prog X.w (upd H a (CaughtO cls d a)) s.heap a (CaughtO cls d a) := by
    refine ⟨⟨oe, vs, q1, q2, q3⟩, ⟨oe, q1⟩, fun g g' hg keep => ?_⟩
    obtain ⟨o, v, r1, r2⟩ := hg
    exact ⟨o, v, keep o r1, r2⟩
  refine ⟨i1, i2, i3, ⟨i4.keep, i4.slot, fun c o e n x => ?_, i4.there, fun c xs e => off' c _ (i4.tups c xs e), fun c o u e => off' c _ (i4.frzs c o u e), fun c ps e => ?_⟩, i5, i6, (off _ (Ne.symm W.notL)).trans i7, fun y c e => ?_, fun p hp => ?_, i10.laidN (fun _ _ z => z) W.unk tell, i11⟩
  · by_cases hc : c = a
    · rw [hc] at e x
      exact (W.notS o e x).elim
    · exact (off c hc).trans (i4.free c o e n x)
  · obtain ⟨more, z⟩ := i4.tbls c ps e
    exact ⟨more, off' c _ z⟩
  · have hc : c ≠ a := fun z => by
      obtain ⟨v, o, r1, r2⟩ := i6 y c e
      rw [z, q1] at r1
      rw [← Option.some.inj r1, q3] at r2
      cases r2
    exact (off c hc).trans (i8 y c e)
  · obtain ⟨p1, p2, p3⟩ := i9 p hp
    exact ⟨p1, (off _ (W.notP p hp)).trans p2, p3⟩
/-- an exception that X lets through lands -/
theorem down_of {M : Model} {x' : Value → Shared → Prop} {pn : List (Addr × Obj)} {W : WX} {u : Value} {E : Value → Shared → Prop} {Q : Shared → Prop} (ok : X.Ok) (hst : X.stack = X.env :: X.outer) (hfl : X.env.frame = some X.env.locals) (xx : XE (X.tr (X.pn ++ pn) x') W u s)
    (hQ : ∀ (a : Addr) (B : Heap) (cls : Value) (d : Option Addr) (σ : St) (H : Hp) (s' : Shared), u = .ref a → W cls d σ H → Down X pn σ H cls d a B s' → Q s') : wpAny M X.A (noteFrame u X.env) (fun _ s1 => wpAny M X.A (setFlight u none) (fun _ s2 => Q s2) E s1) E s := by
  obtain ⟨a, B, sI, more, σ1, H1, cls, d, rfl, IT, gr, ups, sky, none1, eos, bar, wish⟩ := xx
  have I1 : Inv X pn σ1 H1 sI := Inv.ofTry IT ok
  have frameEq : X.A.frames = some (X.env :: X.outer) := ok.frames.trans (by rw [hst])
  have sky1 : Sky B (X.env :: X.outer) a (Zc cls d) X.env.locals s.heap := hst ▸ sky
  refine Sky.land (Q := fun _ => Q) Zc.steady frameEq hfl sky1 fun hL fly up2 => ?_
  obtain ⟨oe, vs, r1, _, r3⟩ := HandSPX.FlyingZ.there fly
  have out : a ∉ frs X.stack := fun hm => by
    rw [hst] at hm
    obtain ⟨_, o, eo, no⟩ := fly.2.2.1.mem hm
    rw [r1] at eo
    exact no vs (by rw [← Option.some.inj eo]; exact r3)
  have never : ∀ o, sI.heap.get? a = some o → False := fun o e => by
    have q := gr a o e out
    rw [fly.2.1] at q
    cases q
  refine hQ a B cls d σ1 H1 { s with heap := hL } rfl wish ⟨I1.landed gr fly.1 (ups.trans up2) eos bar, by rw [hst]; exact fly, none1, fun z => ?_, fun z => ?_, fun o e x => ?_, fun p hp z => ?_, sI, I1, gr, ups.trans up2, eos, bar⟩
  · exact out (by rw [hst]; exact List.mem_filterMap.mpr ⟨X.env, List.mem_cons_self, by rw [hfl, z]⟩)
  · obtain ⟨e, he, q⟩ := List.mem_filterMap.mp z
    exact out (by rw [hst]; exact List.mem_filterMap.mpr ⟨e, List.mem_cons_of_mem _ he, q⟩)
  · obtain ⟨o2, q⟩ := I1.base.there a o e x
    exact never o2 q
  · exact never _ (z ▸ (I1.pin p hp).1)
/-- .. and once more, when the suite begins -/
theorem Down.again {M : Model} {A : Around} {Q : Shared → Prop} {E : Value → Shared → Prop} (W : Down X pins σ H cls d a B s) (h : ∀ s', Down X pins σ H cls d a B s' → Q s') : wpAny M A (setFlight (.ref a) none) (fun _ => Q) E s := by
  obtain ⟨s0, J, gr, ups, eos, bar⟩ := W.gnd
  exact HandSPX.lands_againZ (Q := fun _ => Q) W.fly fun hL fly up2 => h { s with heap := hL } ⟨J.landed gr fly.1 (ups.trans up2) eos bar, fly, W.unk, W.notL, W.notF, W.notS, W.notP, s0, J, gr, ups.trans up2, eos, bar⟩
/-- its class is what the clause names -/
theorem Down.meets {A : Around} {E : Value → Shared → Prop} {c : Value} {Q : Bool → Shared → Prop} (W : Down X pins σ H cls d a B s) (hm : PySem.W.exmOne X.K cls c = some true) (h : Q true s) : wpAny (model X.prog X.w) A (excMatches (.ref a) c) Q E s := by
  obtain ⟨oe, vs, q1, q2, _⟩ := W.obj
  refine (PySem.W.exm_one (M := model X.prog X.w) W.inv.kIn (cls := cls) ?_ hm).here h
  intro A1 Q1 E1 s1 keep q
  exact wpAny_typeOf_ref (keep _ _ q1) (q2.1 ▸ q)
/-- the suite's context, the exception tracked -/
theorem Down.suite (W : Down X pins σ H cls d a B s) (ok : X.Ok) : Inv (X.suite a (X.pn ++ pins)) [] σ (upd H a (CaughtO cls d a)) s := by
  have I := W.tracked
  exact ⟨ok.suite _ _, I.os, I.bare, I.base, I.loc, I.cell, I.free, I.freeC, fun p hp => I.pin p (List.append_nil (X.pn ++ pins) ▸ hp), I.hok, I.len⟩
theorem unsuite_inv {σ' : St} {H' : Hp} {s' : Shared} (ok : X.Ok) (I : Inv (X.suite a (X.pn ++ pins)) [] σ' H' s') : Inv X pins σ' H' s' :=
  ⟨ok, I.os, I.bare, I.base, I.loc, I.cell, I.free, I.freeC, fun p hp => I.pin p ((List.append_nil (X.pn ++ pins)).symm ▸ hp), I.hok, I.len⟩
end
/-- what the clause wishes of an exception of the body, which is one of c: slot i is n's -/
def wKeep (K : PySem.W.Frag) (k : Nat) (c : Value) (i : Nat) (ts : Addr → TS) (D : Ends) : WX := fun cls d σ H =>
  PySem.W.exmOne K cls c = some true ∧ (σ.length = k → ∀ a, H a = none → ts a { nx := fun σ' H' => D.nx (σ'.set i none) H', rt := D.rt, bk := fun _ _ => False, ct := fun _ _ => False } (σ.set i (some (.ref a))) (upd H a (CaughtO cls d a)))
section
variable {X : Cx} {x n : Str} {c : Value} {i : Nat} {body suite : List Stmt} {b₀ : Stmt} {np pos pos' : Pos} {tb : WX → TS} {ts : Addr → TS}
theorem ps_try_keep (hst : X.stack = X.env :: X.outer) (hfl : X.env.frame = some X.env.locals) (nd : X.N.Nodup) (hi : X.N[i]? = some n) (hn : X.env.kindOf n = some .local) (nm : Names X x c)
    (hb : ∀ (W : WX) (pn : List (Addr × Obj)) (xe : Value → Shared → Prop), Takes (X.tr pn xe) W → PassesOwn (model X.prog X.w) X.A X.env xe → PSs (X.tr pn xe) body (tb W)) (hs : ∀ (a : Addr) (pn : List (Addr × Obj)), PSs (X.suite a pn) (b₀ :: suite) (ts a)) :
    PS X (.Try body [.ExceptHandler (some (.Name x np)) (some n) (b₀ :: suite) pos'] [] [] pos) (fun D σ H => tb (wKeep X.K X.N.length c i ts D) D σ H) := by
  constructor
  intro pins s σ H D I0 reading
  have ok := I0.ok
  apply wpAny_Try_except
  -- what a landed exception meets
  have clause : ∀ (a : Addr) (B : Heap) (cls : Value) (d : Option Addr) (σ1 : St) (H1 : Hp) (s1 : Shared), wKeep X.K X.N.length c i ts D cls d σ1 H1 → Down X pins σ1 H1 cls d a B s1 → wpAny (model X.prog X.w) X.A (handleBy (.ref a) X.env [.ExceptHandler (some (.Name x np)) (some n) (b₀ :: suite) pos']) (SP X pins D) X.xe s1 := by
    rintro a B cls d σ1 H1 s1 ⟨hm, go⟩ W
    apply wpAny_handleBy_cons
    · apply codeAny_handlers_test
      have named : ∀ {Q1 : Value → Shared → Prop} {E1 : Value → Shared → Prop}, Q1 c s1 → wpAny (model X.prog X.w) (X.suite a (X.pn ++ pins)).A (eval (.Name x np) X.env) Q1 E1 s1 := fun {Q1 E1} q => by
        have I := W.suite ok
        rcases nm with ⟨g, db, m | ⟨m, v, w⟩⟩
        · exact ld_glob (X := X.suite a (X.pn ++ pins)) I g m q db
        · exact ld_blt (X := X.suite a (X.pn ++ pins)) I g m v q w db
      refine named (W.meets hm ?_)
      apply codeAny_handlers_suite_as
      refine W.again fun s2 W2 => ?_
      refine store_ok (X := X.suite a (X.pn ++ pins)) (v := .ref a) (W2.suite ok) nd hi (.inl hn) rfl (fun s3 I3 => ?_) (.inr hn)
      refine wpAny_mono ((hs a (X.pn ++ pins)).run [] s3 _ _ _ I3 (go W.inv.len a W.unk)) (fun f s4 sp => ?_) fun _ _ z => False.elim z
      -- the clause's name goes
      have away : ∀ {σ5 : St} {H5 : Hp} {Q5 : Shared → Prop}, Inv (X.suite a (X.pn ++ pins)) [] σ5 H5 s4 → (∀ s6, Inv X pins (σ5.set i none) H5 s6 → Q5 s6) → wpAny (model X.prog X.w) X.A (do bindName X.env n .none; unbindBehindTheSuite X.env n pos') (fun _ => Q5) X.xe s4 :=
        fun I5 h5 => gone_ok (unsuite_inv ok I5) nd hi hn h5
      match f, sp with
      | .next, ⟨σ5, H5, I5, q5⟩ => exact away I5 fun s6 I6 => ⟨_, _, I6, q5⟩
      | .ret u, ⟨v, σ5, H5, I5, r5, q5⟩ => exact away I5 fun s6 I6 => ⟨_, _, _, I6, r5, q5⟩
      | .brk, ⟨_, _, _, z⟩ => exact z.elim
      | .cont, ⟨_, _, _, z⟩ => exact z.elim
    · intro z
      cases z
  refine wpAny_mono ((hb (wKeep X.K X.N.length c i ts D) (X.pn ++ pins) _ (fun u s' xx => down_of ok hst hfl xx fun a B cls d σ1 H1 s1 e wish W => e ▸ clause a B cls d σ1 H1 s1 wish W) PassesOwn.looking).run [] s σ H D (I0.toTry _) reading) (fun f s1 sp => ?_) fun _ _ z => z
  match f, sp with
  | .next, ⟨σ1, H1, I1, q1⟩ => exact wpAny_execs_nil ⟨σ1, H1, Inv.ofTry I1 ok, q1⟩
  | .ret u, ⟨v, σ1, H1, I1, r1, q1⟩ => exact ⟨v, σ1, H1, Inv.ofTry I1 ok, r1, q1⟩
  | .brk, ⟨σ1, H1, I1, q1⟩ => exact ⟨σ1, H1, Inv.ofTry I1 ok, q1⟩
  | .cont, ⟨σ1, H1, I1, q1⟩ => exact ⟨σ1, H1, Inv.ofTry I1 ok, q1⟩
end
end L2

set_option Elab.async false
set_option linter.all false
set_option maxRecDepth 100000
set_option maxHeartbeats 4000000
/-! A kept exception: isinstance, its fields. -/
namespace L2
open PySem PySem.Spec PyProof.Rows
/-- at a a kept exception of the own class D, with these fields -/
structure KeptX (K : PySem.W.Frag) (H : Hp) (a D : Addr) (fs : List (Str × V)) : Prop where
  ex : ∃ d, H a = some (CaughtO (.ref D) (some d) a) ∧ H d = some (.xd fs)
  cl : ExcC K D
section
variable {X : Cx} {pins : List (Addr × Obj)} {σ : St} {H : Hp} {s : Shared} {a D : Addr} {fs : List (Str × V)}
theorem kept_inst (I : Inv X pins σ H s) (k : KeptX X.K H a D fs) : ∃ (oe : Obj) (od : Obj), PySem.W.InstAt s.heap a oe D (some od) ∧ ∀ f, ∃ o, PySem.W.lookIn f od = some o ∧ RelO (fs.lookup f) o := by
  obtain ⟨d, h1, h2⟩ := k.ex
  obtain ⟨⟨oe, vs, q1, ⟨q2, q3⟩, q4⟩, _, _⟩ := I.hok a _ h1
  obtain ⟨m, ns, rel⟩ := I.hok d _ h2
  obtain ⟨od, ho, hl⟩ := lookIn_ns ns
  refine ⟨oe, od, ⟨q1, q2, ?_, ?_⟩, fun f => ⟨m f, hl f, rel f⟩⟩
  · unfold PySem.W.notCls
    rw [q4]
  · rw [q3]
    exact ho
/-- isinstance(e, c) -/
def rIsK (K : PySem.W.Frag) : List V → Hp → VK → Prop := fun xs H Q => ∃ (a D : Addr) (fs : List (Str × V)) (c : V) (cv : Value) (b : Bool), xs = [.ref a, c] ∧ KeptX K H a D fs ∧ (∀ u, RelV c u → u = cv) ∧ PySem.W.kitOne K (.ref D) cv = some b ∧ Q (.bl b) H
theorem call_isK : CallR X (.builtin "isinstance") (rIsK X.K) := by
  intro pins s σ H xs us Q I r h
  obtain ⟨a, D, fs, c, cv, b, rfl, k, hc, e, q⟩ := h
  match us, r with
  | [u1, u2], .cons r1 (.cons r2 .nil) =>
    obtain rfl : u1 = Value.ref a := r1
    rw [hc _ r2]
    obtain ⟨oe, od, J, _⟩ := kept_inst I k
    have C := k.cl
    obtain ⟨cd, e1, _⟩ := PySem.W.any_some C.hd
    exact PySem.W.kia_one (PySem.W.kitx_exc (by rw [e1]; rfl) C.hg C.hk C.hs C.ha C.hn C.ht C.hm) I.kIn J e (fun z => nomatch z) fun tk => ⟨.bl b, H, I.tok _, rfl, q⟩
/-- e.f -/
def tKeptF (K : PySem.W.Frag) (f : Str) (te : TE) : TE := fun σ H Q => te σ H fun x H1 => ∃ (a D : Addr) (fs : List (Str × V)) (v : V), x = .ref a ∧ KeptX K H1 a D fs ∧ PySem.W.findIn K (.ref D) f = some none ∧ fs.lookup f = some v ∧ Q v H1
theorem pe_keptF {e : Expr} {f : Str} {te : TE} {pos : Pos} (he : PE X e te) (hb : attributeBase e f X.env (eval e X.env) = eval e X.env := by rfl) : PE X (.Attribute e f pos) (tKeptF X.K f te) := by
  refine ⟨fun pins s σ H Q I h => attr_of hb (thn (he.run pins s σ H _ I h) fun u s1 hh => ?_)⟩
  obtain ⟨x, H1, I1, rx, a, D, fs, v, rfl, k, no, hl, q⟩ := hh
  obtain rfl : u = Value.ref a := rx
  obtain ⟨oe, od, J, look⟩ := kept_inst I1 k
  obtain ⟨o, l1, l2⟩ := look f
  obtain ⟨w', ew, rw'⟩ := RelO.some_of (v := v) (o := o) (hl ▸ l2)
  exact HandSPX.exc_get I1.kIn J k.cl.hg k.cl.hk k.cl.hs (PySem.W.findObj_own k.cl.hd no rfl (by rw [l1, ew])) (handed_of rw') ⟨v, H1, I1.tok _, rw', q⟩
end
end L2

set_option Elab.async false
set_option linter.all false
set_option maxRecDepth 100000
set_option maxHeartbeats 4000000
/-! A classmethod called by the class's name, with keywords. -/
namespace L2
open PySem PySem.Spec PyProof.Rows ClX
section
variable {X : Cx} {CX : CXT} {k : Nat} {C p g f : Addr} {mc : Value} {sp : Sp} {E : XK} {o : Expr} {kws : List Keyword} {m : Str} {pos apos : Pos} {ta : TE} {tk : TA} {pl : Sem Bool} {fd : FuncData} {ps ks : List Str} {gg : List Value → List Value → List Value} {gV : List V → List V → List V}
theorem run_fnkC {pins : List (Addr × Obj)} {σ : L2.St} {H : Hp} {s : Shared} {Q : VK} {us ws : List Value} {vs zs : List V} (F : FnOk X.prog X.w X.K X.mg X.base CX k f fd ps sp) (hr : Room k X.A) (hb : KBinds X.K fd ps ks gg gV) (hx : Passes CX X E)
    (I : Inv X pins σ H s) (r : Vals vs us) (rz : Vals zs ws) (h : sp (gV vs zs) H Q E) : codeAny (model X.prog X.w) X.A (.call (.ref f) ⟨us, ks.zip ws⟩) (fun r s' => match r with | .ok (.ret v) => EP X pins σ Q v s' | .ok _ => False | .error e => X.xe e s') s := by
  have r2 := hb.rel r rz
  have hl : (gg us ws).length = ps.length := by rw [← r2.length]; exact F.len _ _ _ _ h
  refine codeAny_mono (F.run X.A X.stack s H ⟨us, ks.zip ws⟩ (gg us ws) (gV vs zs) Q E hr I.env0 (hb.to s us ws I.kIn hl) r2 h) fun r s' hq => ?_
  cases r with
  | error e => exact hx pins σ H s e s' I hq
  | ok fl =>
    cases fl with
    | ret u => exact I.after hq
    | next => exact False.elim hq
    | brk => exact False.elim hq
    | cont => exact False.elim hq
def tCMethK (C : Addr) (sp : Sp) (gV : List V → List V → List V) (E : XK) (ta : TE) (tk : TA) : TE := fun σ H Q => ta σ H fun x H1 => x = .ref C ∧ tk σ H1 fun zs H2 => sp (gV [.ref C] zs) H2 Q E
theorem pe_cmethK (he : PE X o ta) (r : CRead X.K C mc) (c : CMet X.K C mc m p g) (F : FnOk X.prog X.w X.K X.mg X.base CX k g fd ps sp) (hr : Room k X.A) (hb : KBinds X.K fd ps ks gg gV) (hx : Passes CX X E) (hkw : PK X kws tk)
    (hall : (backToKw pos (keywordEach kws X.env)).all (·.1.isSome) = true := by rfl) (hks : (backToKw pos (keywordEach kws X.env)).filterMap (·.1) = ks := by rfl)
    (hpl : ((backTo pos (starEach [] X.env)).any (·.1) || (backToKw pos (keywordEach kws X.env)).any (·.1.isNone)) = false := by rfl)
    (ht : eval (.Call (.Attribute o m apos) [] kws pos) X.env = (do
      let ov ← eval o X.env
      standAt apos.atName
      let (f, first) ← holding [ov] (getMethod ov m pl)
      callWith pos f first (backTo pos (starEach [] X.env)) (backToKw pos (keywordEach kws X.env))) := by rfl) :
    PE X (.Call (.Attribute o m apos) [] kws pos) (tCMethK C sp gV E ta tk) := by
  refine ⟨fun pins s σ H Q I h => ?_⟩
  refine PySem.W.methodCall_KW (pl := pl) (thn (he.run pins s σ H _ I h) fun u s1 ⟨x, H1, I1, rx, ex, q⟩ => ?_) ht
  subst ex
  obtain rfl : u = Value.ref C := rx
  refine getmethcm_ok I1 r c fun s2 I2 => ?_
  refine PySem.W.callWith_of hpl (PySem.W.keeps_M (K := X.K) (self := .ref C) c.fi) (PyProof.Rows.evalArgs_kw2_nil hall (thn (hkw.run pos _ s2 σ H1 _ I2 q) fun ws s3 ⟨zs, H2, I3, rz, q2⟩ => ⟨⟨pin_at I3, I3.kIn⟩, ?_⟩))
  rw [hks]
  have z : wpAny (model X.prog X.w) X.A (call (.ref s1.heap.objs.size) ([] ++ []) (ks.zip ws)) (EP X ((s1.heap.objs.size, PySem.W.methodObj (.ref g) (.ref C)) :: pins) σ Q) X.xe s3 :=
    wpAny_call (PySem.W.method_call (pin_at I3) (run_fnkC (us := [.ref C]) (vs := [.ref C]) F hr hb hx I3 (.cons rfl .nil) rz q2))
  exact thn z fun _ _ y => unpinE y
end
end L2

set_option Elab.async false
set_option linter.all false
set_option maxRecDepth 100000
set_option maxHeartbeats 4000000
/-! Lambdas as values: made, kept in lists, called later by a def that gets them. -/
namespace LamX
open PySem PySem.Spec PyProof.Rows L2
/-- the object at f is known -/
def FnO (f : Addr) (o : Obj) : HO := .ext fun h => h.get? f = some o
/-- the object that a lambda of X makes -/
abbrev lamObj (X : Cx) (params : Arguments) (body : Expr) (scope : Scope) (pm ctv : Value) (c' : Addr) : Obj :=
  PySem.W.kla_obj "<lambda>" (X.env.qual ++ "<lambda>") params body scope (cloFrom X.env.cells scope.names []) pm c' ctv
/-- at f stands a lambda of X -/
def LamO (X : Cx) (H : Hp) (f : Addr) (params : Arguments) (body : Expr) (scope : Scope) : Prop :=
  ∃ (c' : Addr) (pm ctv : Value), H f = some (FnO f (lamObj X params body scope pm ctv c')) ∧ H c' = some (CodeO c' (X.env.qual ++ "<lambda>"))
theorem fnO_ne {f : Addr} {o : Obj} (ps : Array Value) : FnO f o ≠ .tbl ps := fun z => by
  unfold FnO at z
  cases z
theorem LamO.ext {X : Cx} {H H' : Hp} {f : Addr} {params : Arguments} {body : Expr} {scope : Scope} (l : LamO X H f params body scope) (e : ExtN H H') : LamO X H' f params body scope := by
  obtain ⟨c', pm, ctv, h1, h2⟩ := l
  exact ⟨c', pm, ctv, e _ _ h1 fnO_ne, e _ _ h2 codeO_ne⟩
theorem fnO_ok {P : Program} {w : World} {H : Hp} {h : Heap} {f : Addr} {o : Obj} (e : h.get? f = some o) : ObjOk P w H h f (FnO f o) :=
  ⟨e, ⟨o, e⟩, fun _ _ p k => k _ p⟩
section
variable {X : Cx} {pins : List (Addr × Obj)} {σ : L2.St} {H : Hp} {s : Shared}
/-- a lambda is made, and its object is known from now on -/
theorem lam_made {T : List (Addr × Str)} {c P : Addr} {params : Arguments} {body : Expr} {scope : Scope} {pos : Pos} {E : Value → Shared → Prop} {Q : Value → Shared → Prop} (I : Inv X pins σ H s) (TB : TabB X.base X.mg c P) (hcode : X.env.code = .ref c)
    (hm : (P, X.env.qual ++ "<lambda>") ∈ T) (hu : ∀ p ∈ T, p.1 = P → p.2 = X.env.qual ++ "<lambda>") (hT : Tabs T H) (hdef : defaultsOf params X.env = ([], []))
    (hfree : ∀ y ∈ scope.names, y.2 = .free → ∃ c, X.env.cells.lookup y.1 = some c)
    (k : ∀ (f : Addr) (H1 : Hp) (s' : Shared), Inv X pins σ H1 s' → ExtN H H1 → Tabs T H1 → H f = none → LamO X H1 f params body scope → Q (.ref f) s') :
    wpAny (model X.prog X.w) X.A (eval (.Lambda params body scope pos) X.env) Q E s := by
  have here := hT _ hm
  obtain ⟨ps, hP, trip, among⟩ := here
  have oP : s.heap.get? P = some { cls := .none, data := .fields ps } := I.hok P _ hP
  have gl := I.mod.glob.keeps I.bk
  have cd := TB.code.keeps I.bk
  have bP := TB.bm.keeps I.bk
  refine PySem.W.kla_eval hdef ?_
  cases hc : codeAmong pos ps.toList with
  | some cv =>
    obtain ⟨c1, rfl, known⟩ := among pos cv hc
    refine PySem.W.kla_makeFunctionHit (mg := X.mg) (c := c) (P := P) (ps := ps) (closure_ok hfree) I.ok.glob gl hcode cd oP trip hc bP fun ctv h1 tk hx hsz => ?_
    have J : Inv X pins σ H { s with heap := h1, toks := tk } := I.kept fun b o e => hx b o e
    have new : H h1.objs.size = none := I.hok.fresh hsz
    have J2 := J.laid (a := h1.objs.size) (t' := tk) (h' := h1.push (lamObj X params body scope ((X.mg "__name__").getD .none) ctv c1)) (o := FnO h1.objs.size (lamObj X params body scope ((X.mg "__name__").getD .none) ctv c1))
      (fun b u e => Heap.get?_push_of_some _ e) (Nat.le_refl _) (fnO_ok (Heap.get?_push_size _ rfl))
    have eN : ExtN H (upd H h1.objs.size (FnO h1.objs.size (lamObj X params body scope ((X.mg "__name__").getD .none) ctv c1))) := fun b o e _ => by
      rw [upd_ne (ne_of_none e new)]
      exact e
    exact k _ _ _ J2 eN (hT.ext fun b o e => by rw [upd_ne (ne_of_none e new)]; exact e) new ⟨c1, _, _, upd_same, eN _ _ known codeO_ne⟩
  | none =>
    refine PySem.W.kla_makeFunction (mg := X.mg) (c := c) (P := P) (ps := ps) (closure_ok hfree) I.ok.glob gl hcode cd oP trip hc TB.gP bP fun c1 ctv h1 tk hx hge hlt hrec htb => ?_
    obtain ⟨c2, oc, vs, t, e2, hoc, hd, hv⟩ := hrec
    cases e2
    have nC : H c1 = none := I.hok.fresh hge
    have J := inv_table (t' := tk) (more := #[rawInt pos.line, rawInt pos.col, .ref c1]) (h' := h1) I hP hx htb hge ⟨oc, vs, t, hoc, hd, hv⟩
    have hsz : s.heap.objs.size ≤ h1.objs.size := Nat.le_trans hge (Nat.le_of_lt hlt)
    have new0 : H h1.objs.size = none := I.hok.fresh hsz
    have new : upd (upd H P (.tbl (ps ++ #[rawInt pos.line, rawInt pos.col, .ref c1]))) c1 (CodeO c1 (X.env.qual ++ "<lambda>")) h1.objs.size = none := J.hok.fresh (Nat.le_refl _)
    have J2 := J.laid (a := h1.objs.size) (t' := tk) (h' := h1.push (lamObj X params body scope ((X.mg "__name__").getD .none) ctv c1)) (o := FnO h1.objs.size (lamObj X params body scope ((X.mg "__name__").getD .none) ctv c1))
      (fun b u e => Heap.get?_push_of_some _ e) (Nat.le_refl _) (fnO_ok (Heap.get?_push_size _ rfl))
    have eA : ExtN H (upd (upd H P (.tbl (ps ++ #[rawInt pos.line, rawInt pos.col, .ref c1]))) c1 (CodeO c1 (X.env.qual ++ "<lambda>"))) := fun b o e n => by
      have h1 : b ≠ P := fun z => by
        rw [z, hP] at e
        exact n ps (Option.some.inj e).symm
      rw [upd_ne (ne_of_none e nC), upd_ne h1]
      exact e
    have known : upd (upd H P (.tbl (ps ++ #[rawInt pos.line, rawInt pos.col, .ref c1]))) c1 (CodeO c1 (X.env.qual ++ "<lambda>")) c1 = some (CodeO c1 (X.env.qual ++ "<lambda>")) := upd_same
    have tA : Tabs T (upd (upd H P (.tbl (ps ++ #[rawInt pos.line, rawInt pos.col, .ref c1]))) c1 (CodeO c1 (X.env.qual ++ "<lambda>"))) := fun p hp => by
      by_cases hb : p.1 = P
      · rw [hu p hp hb, hb]
        refine ⟨ps ++ #[rawInt pos.line, rawInt pos.col, .ref c1], by rw [upd_ne (ne_of_none hP nC), upd_same], ?_, fun p2 cv hcv => ?_⟩
        · rw [Array.toList_append]
          exact PySem.TriplesOk_snoc _ _ _ _ trip
        · rw [Array.toList_append] at hcv
          rcases among_app _ trip hcv with z | z
          · obtain ⟨c0, e1, e3⟩ := among p2 cv z
            exact ⟨c0, e1, eA _ _ e3 codeO_ne⟩
          · exact ⟨c1, z, known⟩
      · obtain ⟨qs, a1, a2, a3⟩ := hT p hp
        refine ⟨qs, by rw [upd_ne (ne_of_none a1 nC), upd_ne hb]; exact a1, a2, fun p2 cv hcv => ?_⟩
        obtain ⟨c0, e1, e3⟩ := a3 p2 cv hcv
        exact ⟨c0, e1, eA _ _ e3 codeO_ne⟩
    generalize upd (upd H P (.tbl (ps ++ #[rawInt pos.line, rawInt pos.col, .ref c1]))) c1 (CodeO c1 (X.env.qual ++ "<lambda>")) = HA at J J2 new eA known tA
    have st : ∀ b o, HA b = some o → upd HA h1.objs.size (FnO h1.objs.size (lamObj X params body scope ((X.mg "__name__").getD .none) ctv c1)) b = some o := fun b o e => by
      rw [upd_ne (ne_of_none e new)]
      exact e
    exact k _ _ _ J2 (eA.trans (ExtN.of st)) (tA.ext st) new0 ⟨c1, _, _, upd_same, st _ _ known⟩
/-- a lambda as a value -/
theorem pe_lamV {T : List (Addr × Str)} {c P : Addr} {params : Arguments} {body : Expr} {scope : Scope} {pos : Pos} (TB : TabB X.base X.mg c P) (hcode : X.env.code = .ref c) (hm : (P, X.env.qual ++ "<lambda>") ∈ T)
    (hu : ∀ p ∈ T, p.1 = P → p.2 = X.env.qual ++ "<lambda>") (L : LamS X.env.scope scope) (hdef : defaultsOf params X.env = ([], [])) :
    PE X (.Lambda params body scope pos) (fun _ H Q => Tabs T H ∧ ∀ f H1, ExtN H H1 → Tabs T H1 → H f = none → LamO X H1 f params body scope → Q (.ref f) H1) := by
  refine ⟨fun pins s σ H Q I h => ?_⟩
  obtain ⟨hT, h⟩ := h
  exact lam_made I TB hcode hm hu hT hdef (L.has I.ok) fun f H1 s' J eN tA nf l => ⟨.ref f, H1, J, rfl, h f H1 eN tA nf l⟩
end
end LamX

set_option Elab.async false
set_option linter.all false
set_option maxRecDepth 100000
set_option maxHeartbeats 4000000
/-! A def that calls what it got, where what it got is a lambda kept before. -/
namespace LamX
open PySem PySem.Spec PyProof.Rows L2
/-- what a lambda of X must be -/
structure LamOk (X : Cx) (k : Nat) (params : Arguments) (body : Expr) (scope : Scope) (t : XK → TE) : Prop where
  own : LamS X.env.scope scope
  bind : ∀ (q : Str) (cl : List (Str × Addr)) (pm cv ctv : Value), bindArgs (PySem.W.kla_fn "<lambda>" q params body scope cl pm cv ctv) ⟨[], []⟩ = pure []
  reads : ∀ (A : Around) (outer : List Env) (s : Shared) (H : Hp) (E : XK) (f c' : Addr), Room k (A.deeper (lamEnv X scope s.heap.objs.size f c')) → PE (lamCx X A outer s H E scope f c') body (t E)
/-- a def x(a) that calls a: f stands for what it got, Kn is what is known of f -/
def GivesK (X : Cx) (Ng : List Str) (x : Str) (sg : Scope) (g : Addr) (cdg : Value) (bg : List Stmt) (a : Str) (TT : (XK → Hp → VK → Prop) → Hp → VK → Prop) : Prop :=
  ∀ (f : Addr) (Kn : Hp → Prop) (s : Shared) (H : Hp) (Q : VK) (tl : XK → Hp → VK → Prop), (∀ H H' : Hp, Kn H → (∀ b o, H b = some o → H' b = some o) → Kn H') →
    (∀ (W : WX) (pn : List (Addr × Obj)) (xe : Value → Shared → Prop) (E : XK) (p1 p2 : Pos), Takes ((cxOf C8.CX0 X.prog X.w X.K X.mg X.base Ng x sg g cdg X.A X.stack s H C8.E0).tr pn xe) W → (∀ cls d σ' H', E cls d H' → W cls d σ' H') →
      PE ((cxOf C8.CX0 X.prog X.w X.K X.mg X.base Ng x sg g cdg X.A X.stack s H C8.E0).tr pn xe) (.Call (.Name a p1) [] [] p2) (fun σZ HZ Q => σZ[0]? = some (some (.ref f)) ∧ Kn HZ ∧ tl E HZ Q)) →
    Kn H → TT tl H Q →
    ∃ t, PSs (cxOf C8.CX0 X.prog X.w X.K X.mg X.base Ng x sg g cdg X.A X.stack s H C8.E0).nox bg t ∧ t { nx := fun _ H' => Q .non H', rt := Q } (L2.start Ng [.ref f]) H
theorem GivesK.to {X : Cx} {Ng : List Str} {x a q : Str} {sg : Scope} {g : Addr} {cdg : Value} {bg : List Stmt} {TT : (XK → Hp → VK → Prop) → Hp → VK → Prop} (G : GivesK X Ng x sg g cdg bg a TT) : GivesTo X Ng x sg g cdg bg a q TT :=
  fun f c' s H Q tl act hc h => G f (fun HZ => HZ c' = some (CodeO c' q)) s H Q tl (fun _ _ z e => e _ _ z) act hc h
section
variable {X : Cx} {pins : List (Addr × Obj)} {σ : L2.St} {H : Hp} {s : Shared}
/-- a() in the def that got a kept lambda -/
theorem act_kept {CXg : CXT} {Eg : XK} {Ng : List Str} {qg : Str} {sg : Scope} {g f c1 : Addr} {cdg pm ctv : Value} {params : Arguments} {body : Expr} {scope : Scope} {k i : Nat} {a : Str} {pn : List (Addr × Obj)} {xe : Value → Shared → Prop} {W : WX} {E : XK} {t : XK → TE} {p1 p2 : Pos}
    (I : Inv X pins σ H s) (l : LamOk X k params body scope t) (tk : Takes ((cxOf CXg X.prog X.w X.K X.mg X.base Ng qg sg g cdg X.A X.stack s H Eg).tr pn xe) W) (hW : ∀ cls d σ' H', E cls d H' → W cls d σ' H')
    (room : Room (k + 1) (X.A.deeper (envOfC qg sg s.heap.objs.size g cdg))) (hN : Ng[i]? = some a) (hv : Vis sg a) (hd : (a == ("__debug__" : Str)) = false := by decide) (hcd : (a == ("__classdict__" : Str)) = false := by decide) :
    PE ((cxOf CXg X.prog X.w X.K X.mg X.base Ng qg sg g cdg X.A X.stack s H Eg).tr pn xe) (.Call (.Name a p1) [] [] p2)
      (fun σZ HZ Q => σZ[i]? = some (some (.ref f)) ∧ (HZ f = some (FnO f (lamObj X params body scope pm ctv c1)) ∧ HZ c1 = some (CodeO c1 (X.env.qual ++ "<lambda>"))) ∧ t E σ HZ Q) := by
  have own := l.own
  refine ⟨fun pinsZ sZ σZ HZ Q IZ h => ?_⟩
  obtain ⟨at_, ⟨kf, kc⟩, rest⟩ := h
  have name := (pe_var (pos := p1) (i := i) hN hv hd hcd).run pinsZ sZ σZ HZ (fun v H1 => v = .ref f ∧ H1 = HZ) IZ ⟨.ref f, at_, rfl, rfl⟩
  refine wpAny_Call_Name_kw (thn name fun u s1 z => ?_)
  obtain ⟨v, H1, J, rel, rfl, rfl⟩ := z
  obtain rfl : u = Value.ref f := rel
  have obj : s1.heap.get? f = some (lamObj X params body scope pm ctv c1) := (J.hok f _ kf).1
  have code := (J.hok c1 _ kc).1
  obtain ⟨oc, vs, tt, code1, code2, code3⟩ := code
  refine PySem.W.callWith_F0 ⟨_, _, _, _, obj⟩ ?_
  have ran : codeAny (model X.prog X.w) (X.A.deeper (envOfC qg sg s.heap.objs.size g cdg)) (.call (.ref f) ⟨[], []⟩) (CR (L2.CX X.prog X.w) (envOfC qg sg s.heap.objs.size g cdg :: X.stack) X.prog X.w H1 s1 Q E) s1 := by
    refine PySem.W.kla_callFunE room.depth obj rfl own.co own.gen rfl ⟨c1, oc, vs, tt, rfl, code1, code2, code3⟩ ?_
    rw [l.bind]
    refine wpAny_pure (wpAny_newFunctionEnv (fun y hy => (own.own y hy).2) (fun y hy => absurd hy (by simp)) (fun h₁ hns hsb => ?_) own.kind)
    refine ⟨J.nolimit.fresh _ hsb, ?_⟩
    have stay : ∀ b o, s1.heap.get? b = some o → h₁.get? b = some o := fun b o e => hsb.extBut b o (Nat.ne_of_lt (Heap.lt_size e)) (Heap.get?_push_of_some _ e)
    have start : Inv (lamCx X (X.A.deeper (envOfC qg sg s.heap.objs.size g cdg)) (envOfC qg sg s.heap.objs.size g cdg :: X.stack) s1 H1 E scope f c1) [] σ H1 { s1 with heap := h₁, toks := s1.toks + ([] : List (Str × Value)).length } :=
      lam_start2 I own J.env0 room.hd J.base hns stay
    have go := (l.reads _ _ s1 H1 E f c1 (room.deeper _)).run [] _ _ H1 Q start rest
    refine PySem.W.kla_codeExpr (wpAny_mono go (fun v s' hq => ?_) fun e s' hq => hq)
    obtain ⟨w', H', J', rv, q⟩ := hq
    exact ⟨w', H', J'.os, J'.bare, J'.base, J'.hok, rv, q⟩
  have out : Passes (L2.CX X.prog X.w) ((cxOf CXg X.prog X.w X.K X.mg X.base Ng qg sg g cdg X.A X.stack s H Eg).tr pn xe) E := passes_call tk hW
  refine wpAny_call (codeAny_mono ran fun r s' hq => ?_)
  match r, hq with
  | .error e, hq => exact out pinsZ σZ H1 s1 e s' J hq
  | .ok (.ret u), hq => exact J.after hq
  | .ok .next, hq => exact False.elim hq
  | .ok .brk, hq => exact False.elim hq
  | .ok .cont, hq => exact False.elim hq
/-- a kept lambda, handed on -/
def tLamV (X : Cx) (k : Nat) (TT : (XK → Hp → VK → Prop) → Hp → VK → Prop) (ta : TA) : TE := fun σ H Q => ta σ H fun vs H1 =>
  ∃ (f : Addr) (params : Arguments) (body : Expr) (scope : Scope) (t : XK → TE), vs = [.ref f] ∧ LamOk X k params body scope t ∧ LamO X H1 f params body scope ∧ TT (fun E H' Q' => t E σ H' Q') H1 Q
theorem pe_keptcall {TT : (XK → Hp → VK → Prop) → Hp → VK → Prop} {x a : Str} {g : Addr} {k : Nat} {pg : Arguments} {bg : List Stmt} {sg : Scope} {dV kV doc pm cdv ct oc : Value} {an od : Option Addr} {osl : Array (Option Value)} {Ng : List Str} {e : Expr} {ta : TA} {p pos : Pos}
    (hg : Gl X x) (hm : X.mg x = some (.ref g)) (hk : PySem.W.keepIn X.K (.ref g) = true) (lk : X.K.lookup g = some ⟨oc, od, .func (PySem.W.fnOf x x pg bg sg dV kV doc pm an cdv ct), osl⟩) (hcg : PySem.W.codeIn X.K cdv x = true)
    (hb : L2.Binds X.K (PySem.W.fnOf x x pg bg sg dV kV doc pm an cdv ct) [a] []) (Sg : FnScope Ng [a] sg) (hNg : Ng[0]? = some a) (hva : Vis sg a) (hG : GivesK X Ng x sg g cdv bg a TT) (hr : Room (k + 2) X.A) (ha : PA X [e] ta)
    (he : starEach [e] X.env = (false, eval e X.env) :: starEach [] X.env := by rfl) (hpl : (backTo pos (starEach [] X.env)).any (·.1) = false := by rfl) (hdb : (x == ("__debug__" : Str)) = false := by decide) (hd : (a == ("__debug__" : Str)) = false := by decide) (hcd : (a == ("__classdict__" : Str)) = false := by decide) :
    PE X (.Call (.Name x p) [e] [] pos) (tLamV X k TT ta) := by
  refine ⟨fun pins s σ H Q I h => ?_⟩
  refine wpAny_Call_Name_kw (ld_glob I hg hm ?_ hdb)
  refine PySem.W.callWith_K (h₀ := X.base) I.ok.mod.kin hk (thn (ha.run pos pins s σ H _ I h) fun us s1 z => ?_) he hpl
  obtain ⟨vs, H1, J, rel, f, params, body, scope, t, rfl, ok, ⟨c1, pmf, ctf, kf, kc⟩, q⟩ := z
  obtain ⟨u, rfl, ru⟩ : ∃ u, us = [u] ∧ RelV (.ref f) u := by
    cases rel with
    | cons r rr =>
      cases rr
      exact ⟨_, rfl, r⟩
  obtain rfl : u = Value.ref f := ru
  refine ⟨J.kIn, ?_⟩
  have ran : codeAny (model X.prog X.w) X.A (.call (.ref g) ⟨[.ref f], []⟩) (CR C8.CX0 X.stack X.prog X.w H1 s1 Q C8.E0) s1 := by
    refine run_ofS (N := Ng) (ps := [a]) (us := [.ref f]) (vs := [.ref f]) lk hcg Sg hr J.env0 (hb s1 [.ref f] J.kIn rfl) (.cons rfl .nil) rfl fun room => ?_
    obtain ⟨t1, ht1, hq1⟩ := hG f (fun HZ => HZ f = some (FnO f (lamObj X params body scope pmf ctf c1)) ∧ HZ c1 = some (CodeO c1 (X.env.qual ++ "<lambda>"))) s1 H1 Q (fun E H' Q' => t E σ H' Q')
      (fun _ _ z e => ⟨e _ _ z.1, e _ _ z.2⟩) (fun W pn xe E p1 p2 tk hW => act_kept (i := 0) J ok tk hW room hNg hva hd hcd) ⟨kf, kc⟩ q
    exact ⟨t1, ht1.nox, hq1⟩
  refine wpAny_call (codeAny_mono ran fun r s2 hq => ?_)
  match r, hq with
  | .error e, hq => exact (show False from hq).elim
  | .ok (.ret u), hq => exact J.after hq
  | .ok .next, hq => exact False.elim hq
  | .ok .brk, hq => exact False.elim hq
  | .ok .cont, hq => exact False.elim hq
end
end LamX

set_option Elab.async false
set_option linter.all false
set_option maxRecDepth 100000
set_option maxHeartbeats 4000000
/-! zip(text, text). -/
namespace L2
open PySem PySem.Spec PyProof.Rows
/-- the signs of two texts of one length, in new pairs -/
def ItSz (x y : Str) (n : Nat) : It :=
  ⟨fun i _ => i < n, fun i H v H' => ∃ T c d, v = .ref T ∧ H T = none ∧ H' = upd H T (.tup [.str ⟨#[c]⟩, .str ⟨#[d]⟩]) ∧ x.cps[i]? = some c ∧ y.cps[i]? = some d, fun i _ => i = n⟩
theorem turn_zipS {P : Program} {w : World} {K : PySem.W.Frag} {elts : List Expr} {kk : Nat} {tpos : Pos} {n : Nat} (x y : Str) (t t2 : Tok) {z TI TO i1 i2 : Addr} (S : ZipSep2 z TI TO i1 i2 [i1] [i2]) (ex : x.cps.size = n) (ey : y.cps.size = n) :
    Turn P w K (.Tuple elts kk tpos) (ItSz x y n) [z, TI, TO, i1, i2] z (fun i h => IsZip h z TI TO .none ∧ IsTupOf2 h TI (.ref i1) (.ref i2) ∧ (∃ a b, IsTupOf2 h TO a b) ∧ h.IsStrIter i1 (strIterType x) x t i ∧ h.IsStrIter i2 (strIterType y) y t2 i) where
  mem := by simp
  obj := fun i h st c hc => by
    obtain ⟨hz, hTI, ⟨a, b, hTO⟩, ⟨o1, e1, _, d1⟩, ⟨o2, e2, _, d2⟩⟩ := st
    have e' : c = z ∨ c = TI ∨ c = TO ∨ c = i1 ∨ c = i2 := by simpa using hc
    rcases e' with q | q | q | q | q
    · rw [q]; exact ⟨_, hz, fun v q => nomatch q⟩
    · rw [q]; exact ⟨_, hTI, fun v q => nomatch q⟩
    · rw [q]; exact ⟨_, hTO, fun v q => nomatch q⟩
    · rw [q]; exact ⟨o1, e1, fun v q => by rw [d1] at q; cases q⟩
    · rw [q]; exact ⟨o2, e2, fun v q => by rw [d2] at q; cases q⟩
  keep := fun i h h' st k => by
    obtain ⟨hz, hTI, ⟨a, b, hTO⟩, ⟨o1, q1, r1⟩, ⟨o2, q2, r2⟩⟩ := st
    exact ⟨k z (by simp) _ hz, k TI (by simp) _ hTI, ⟨a, b, k TO (by simp) _ hTO⟩, ⟨o1, k i1 (by simp) _ q1, r1⟩, ⟨o2, k i2 (by simp) _ q2, r2⟩⟩
  item := by
    intro X hP hw hK hc i pins s σ H E I hf st hg
    subst hP hw hK
    obtain ⟨hz, hTI, ⟨a0, b0, hTO⟩, h1, h2⟩ := st
    have hzl : z < s.heap.objs.size := Heap.lt_size hz
    have hl1 : i < x.cps.size := by rw [ex]; exact hg
    have hl2 : i < y.cps.size := by rw [ey]; exact hg
    refine wpAny_pyNext_zipD2_item S (Draws.text (A := X.A.in1) (I.ok.hd hc) i1 x t) (Draws.text (A := X.A.in1) (I.ok.hd hc) i2 y t2) hz hTI hTO h1 h2 hl1 hl2 fun x1 x2 h' tk hx1 hx2 z' TO' h1' h2' hT hsz hk => ?_
    obtain ⟨c, u, hcx, rfl⟩ := hx1
    obtain ⟨d, u2, hdx, rfl⟩ := hx2
    refine ⟨_, rfl, wpAny_letOwnedTupleGo_zip (s := { s with heap := h', toks := tk }) z' fun h'' z'' sb => ?_⟩
    have hT2 : h''.get? s.heap.objs.size = some { cls := .type "tuple", data := .seq #[.str ⟨#[c]⟩ u, .str ⟨#[d]⟩ u2] } := (sb.2 _ (Nat.ne_of_gt hzl)).trans hT
    have new : ObjOk X.prog X.w (upd H s.heap.objs.size (.tup [.str ⟨#[c]⟩, .str ⟨#[d]⟩])) h'' s.heap.objs.size (.tup [.str ⟨#[c]⟩, .str ⟨#[d]⟩]) :=
      ⟨by show 2 ≤ sizeLine; decide, [.str ⟨#[c]⟩ u, .str ⟨#[d]⟩ u2], .cons ⟨_, rfl⟩ (.cons ⟨_, rfl⟩ .nil), ⟨_, hT2, rfl, _, rfl⟩⟩
    have I1 : Inv X pins σ (upd H s.heap.objs.size (.tup [.str ⟨#[c]⟩, .str ⟨#[d]⟩])) { s with heap := h'', toks := tk } :=
      I.turnedNew (t' := tk) (ch := [z, TI, TO, i1, i2]) (fun c o hb q => (sb.2 c (fun q' => hb (by simp [q']))).trans (hk c o (fun q' => hb (by simp [q'])) (fun q' => hb (by simp [q'])) (fun q' => hb (by simp [q'])) (fun q' => hb (by simp [q'])) q)) hf (Nat.le_refl _) new
    refine ⟨.ref s.heap.objs.size, _, I1, rfl, ⟨_, c, d, rfl, I.hok.fresh (Nat.le_refl _), rfl, hcx, hdx⟩, ⟨z'', ?_, ⟨.str ⟨#[c]⟩ u, .str ⟨#[d]⟩ u2, ?_⟩, ?_, ?_⟩, fun c hcm => ?_⟩
    · exact (sb.2 _ S.TIz).trans (hk _ _ S.TIz S.TITO S.TIi1 S.TIi2 hTI)
    · exact (sb.2 _ S.TOz).trans TO'
    · obtain ⟨o, q, r⟩ := h1'
      exact ⟨o, (sb.2 _ (Ne.symm S.zi1)).trans q, r⟩
    · obtain ⟨o, q, r⟩ := h2'
      exact ⟨o, (sb.2 _ (Ne.symm S.zi2)).trans q, r⟩
    · have hlt : c < s.heap.objs.size := by
        have e' : c = z ∨ c = TI ∨ c = TO ∨ c = i1 ∨ c = i2 := by simpa using hcm
        rcases e' with q | q | q | q | q
        · rw [q]; exact hzl
        · rw [q]; exact Heap.lt_size hTI
        · rw [q]; exact Heap.lt_size hTO
        · rw [q]; obtain ⟨_, e1, _⟩ := h1; exact Heap.lt_size e1
        · rw [q]; obtain ⟨_, e2, _⟩ := h2; exact Heap.lt_size e2
      rw [upd_ne (Nat.ne_of_lt hlt)]
      exact (hf c hcm).1
  done := by
    intro X hP hw hK hc i pins s σ H E I hf st hg
    subst hP hw hK
    obtain ⟨hz, hTI, ⟨a0, b0, hTO⟩, h1, h2⟩ := st
    have hi : i = n := hg
    exact wpAny_pyNext_zipD2_end S (Draws.text (A := X.A.in1) (I.ok.hd hc) i1 x t) (Draws.text (A := X.A.in1) (I.ok.hd hc) i2 y t2) hz hTI hTO h1 h2 (by omega) (by omega) (.inl (by omega)) fun h' tk hk => ⟨rfl, I.turnedL (t' := tk) (ch := [z, TI, TO, i1, i2]) (fun c o hb q =>
      hk c o (fun q' => hb (by simp [q'])) (fun q' => hb (by simp [q'])) (fun q' => hb (by simp [q'])) (fun q' => hb (by simp [q'])) q) hf⟩
  self := fun A i s Q E st h => wpAny_pyIter_zip st.1 h
theorem zsep (n : Nat) : ZipSep2 (n + 4) (n + 2) (n + 3) n (n + 1) [n] [n + 1] where
  TIz := by show (n + 2 : Nat) ≠ n + 4; omega
  TOz := by show (n + 3 : Nat) ≠ n + 4; omega
  TITO := by show (n + 2 : Nat) ≠ n + 3; omega
  TIi1 := by show (n + 2 : Nat) ≠ n; omega
  mem1 := List.mem_singleton.mpr rfl
  zf1 := fun h => by have : (n + 4 : Nat) = n := List.mem_singleton.mp h; omega
  Tf1 := fun h => by have : (n + 3 : Nat) = n := List.mem_singleton.mp h; omega
  TIi2 := by show (n + 2 : Nat) ≠ n + 1; omega
  mem2 := List.mem_singleton.mpr rfl
  zf2 := fun h => by have : (n + 4 : Nat) = n + 1 := List.mem_singleton.mp h; omega
  Tf2 := fun h => by have : (n + 3 : Nat) = n + 1 := List.mem_singleton.mp h; omega
  sep1_2 := fun h => by have : (n : Nat) = n + 1 := List.mem_singleton.mp h; omega
  sep2_1 := fun h => by have : (n + 1 : Nat) = n := List.mem_singleton.mp h; omega
def iZipS (ta : TA) : TI := fun σ H R => ta σ H fun vs H1 => ∃ x y n, vs = [.str x, .str y] ∧ x.cps.size = n ∧ y.cps.size = n ∧ R (ItSz x y n) H1
theorem pi_zipS {X : Cx} {e e2 : Expr} {ta : TA} {p pos tpos : Pos} {elts : List Expr} {kk : Nat} (hg : Gl X "zip") (hm : X.mg "zip" = none) (ha : PA X [e, e2] ta)
    (hs : starEach [e, e2] X.env = (false, eval e X.env) :: starEach [e2] X.env := by rfl) (hpl : (backTo pos (starEach [e2] X.env)).any (·.1) = false := by rfl) :
    PI X (.Tuple elts kk tpos) (.Call (.Name "zip" p) [e, e2] [] pos) (iZipS ta) := by
  refine ⟨fun pins s σ H R I h => ?_⟩
  refine Call_ (ld_blt I hg hm PyProof.Rows.boot_zip (PyProof.Rows.callWith_type1 (thn (ha.run pos pins s σ H _ I h) fun us s1 ⟨vs, H1, I1, r1, q1⟩ => ?_) hs hpl))
  obtain ⟨x, y, n, rfl, ex, ey, q⟩ := q1
  cases r1 with
  | cons r rr =>
    cases rr with
    | cons r' rr =>
      cases rr
      obtain ⟨t, rfl⟩ := r
      obtain ⟨t2, rfl⟩ := r'
      have fresh5 : ∀ c, c ∈ [s1.heap.objs.size + 4, s1.heap.objs.size + 2, s1.heap.objs.size + 3, s1.heap.objs.size, s1.heap.objs.size + 1] → FpOk X pins H1 c := fun c hcm => by
        have e' : c = s1.heap.objs.size + 4 ∨ c = s1.heap.objs.size + 2 ∨ c = s1.heap.objs.size + 3 ∨ c = s1.heap.objs.size ∨ c = s1.heap.objs.size + 1 := by simpa using hcm
        have hle : s1.heap.objs.size ≤ c := by
          rcases e' with z | z | z | z | z
          · rw [z]; exact Nat.le_add_right _ _
          · rw [z]; exact Nat.le_add_right _ _
          · rw [z]; exact Nat.le_add_right _ _
          · rw [z]; exact Nat.le_refl _
          · rw [z]; exact Nat.le_add_right _ _
        exact I1.fpOk hle (I1.hok.fresh hle)
      refine zip_begins2 (begins_text x t) (begins_text y t2) trivial trivial fun h' hz hTI hTO h1 h2 hsz hk => wpAny_pyIter_zip hz ?_
      have I2 : Inv X pins σ H1 { s1 with heap := h' } := I1.kept (t' := s1.toks) hk
      refine ⟨s1.heap.objs.size + 4, [s1.heap.objs.size + 4, s1.heap.objs.size + 2, s1.heap.objs.size + 3, s1.heap.objs.size, s1.heap.objs.size + 1], _, _, H1, rfl, I2, turn_zipS x y t t2 (zsep _) ex ey, ⟨hz, hTI, ⟨_, _, hTO⟩, ⟨_, h1, rfl, rfl⟩, ⟨_, h2, rfl, rfl⟩⟩, fresh5, q⟩
theorem walk_zipS {x y : Str} {n : Nat} : Walk (ItSz x y n) n (fun _ => True) (fun i H v H' => ∃ T c d, v = .ref T ∧ H T = none ∧ H' = upd H T (.tup [.str ⟨#[c]⟩, .str ⟨#[d]⟩]) ∧ x.cps[i]? = some c ∧ y.cps[i]? = some d) :=
  ⟨fun _ _ hi _ => hi, fun _ _ => rfl, fun _ _ _ _ _ _ y => y⟩
end L2

set_option Elab.async false
set_option linter.all false
set_option maxRecDepth 100000
set_option maxHeartbeats 4000000
/-! text * k. -/
namespace L2
open PySem PySem.Spec PyProof.Rows
theorem op_repS {X : Cx} : OpR X (binaryOp .Mult) (fun x y H Q => ∃ z k, x = .str z ∧ y = .int k ∧ z.length ≤ 1000 ∧ 0 ≤ k ∧ k ≤ 1000 ∧ Q (.str (Txt.mul z k)) H) := by
  intro pins s σ H x y v u Q I rx ry h
  obtain ⟨z, k, rfl, rfl, hz, k0, k1, q⟩ := h
  obtain ⟨t, rfl⟩ := rx
  obtain ⟨t', rfl⟩ := ry
  exact SB.mul (PyProof.Rows.mulOk_of 1000 1000 hz k1 (by omega) (by decide) (by decide)) fun t' tk => ⟨.str _, H, I.tok _, ⟨_, rfl⟩, q⟩
end L2

set_option Elab.async false
set_option linter.all false
set_option maxRecDepth 100000
set_option maxHeartbeats 4000000
/-! Equal dicts, whose values are data of any depth; iter(a dict) and loops by it. -/
namespace L2
open PySem PySem.Spec PyProof.Rows ItX
section
variable {X : Cx} {pins : List (Addr × Obj)} {σ : L2.St} {H : Hp} {s : Shared}
/-- each of the one has an equal one behind the same key -/
def AlikeD (K : PySem.W.Frag) (H : Hp) (ks ls : List (Key × V)) : Prop := ∀ p ∈ ks, ∃ y d, valV ls p.1 = some y ∧ Dp K H p.2 d ∧ Dp K H y d ∧ SeqAt.shaped d = true
theorem hits_data {A : Around} (I : Inv X pins σ H s) (hA : A.units + 64 < cLine) {ls : List (Key × V)} {vb : List (Key × Value)} (rb : KV ls vb) {ks : List (Key × V)} {va : List (Key × Value)} (ra : KV ks va) : AlikeD X.K H ks ls → PySem.W.KeqHits A s vb va true := by
  unfold KV at ra
  induction ra with
  | nil => intro _; exact .nil
  | @cons p q ps qs h t ih =>
    intro hp
    obtain ⟨y, d, e, d1, d2, sh⟩ := hp p List.mem_cons_self
    obtain ⟨h1, h2⟩ := h
    obtain ⟨k, v⟩ := q
    have h1' : p.1 = k := h1
    have rr : RelO (valV ls p.1) (valueAt vb p.1) := rb.val p.1
    rw [e] at rr
    obtain ⟨y', hy, ry⟩ := rr.some_of
    rw [h1'] at hy
    obtain ⟨as, r1⟩ := Dp.reads I d p.2 v d1 h2
    obtain ⟨bs, r2⟩ := Dp.reads I d y y' d2 ry
    have sh' : (d.canLay0 && decide (d.depth ≤ 64)) = true := sh
    rw [Bool.and_eq_true] at sh'
    have dep := of_decide_eq_true sh'.2
    have hh := SeqAt.eqAt_reads d d A s v y' as bs r1 r2 sh'.1 sh'.1 (by omega)
    rw [SeqAt.eqv_refl d sh'.1] at hh
    exact .hit hy hh (ih fun p' hm => hp p' (List.mem_cons_of_mem _ hm))
def rEqDD (K : PySem.W.Frag) : R2 := fun x y H Q => ∃ a b ks ls, x = .ref a ∧ y = .ref b ∧ Rd H a (.dK ks) ∧ Rd H b (.dK ls) ∧ ks.length = ls.length ∧ AlikeD K H ks ls ∧ Q (.bl true) H
theorem op_eqDD {K : PySem.W.Frag} {j : Nat} (hK : X.K = K) (hr : Room j X.A) : OpR X (compareOp .Eq) (rEqDD K) := by
  subst hK
  intro pins s σ H x y v u Q I rx ry h
  obtain ⟨a, b, ks, ls, rfl, rfl, ea, eb, hl, al, q⟩ := h
  obtain rfl : v = Value.ref a := rx
  obtain rfl : u = Value.ref b := ry
  obtain ⟨_, ya, va, ra, da⟩ := dk_rd I.hok ea
  obtain ⟨_, yb, vb, rb, db⟩ := dk_rd I.hok eb
  have h1 : va.length = ks.length := (Paired.length ra).symm
  have h2 : vb.length = ls.length := (Paired.length rb).symm
  have hu := hr.un
  refine PySem.W.keq_eq (knd := mixKind X.prog X.w) (r := true) ya yb da db (by omega) (fun _ => hits_data I (by show X.A.units + 1 + 64 < cLine; omega) rb ra al) (fin_bl I q ?_)
  rw [h1, h2, hl]
  simp
end
/-- at it a fresh iterator of the keys of the dict at d, whose object is o -/
def ItK (d : Addr) (o : Obj) (n : Nat) (it : Addr) : HO := .ext fun h => ∃ es ep, o.data = .dict es ep ∧ h.IsKeyIter it d 0 n ep
theorem itK_ok {P : Program} {w : World} {H : Hp} {h : Heap} {d it : Addr} {o : Obj} {n : Nat} {es : Array DictEntry} {ep : Nat} (e : o.data = .dict es ep) (k : h.IsKeyIter it d 0 n ep) : ObjOk P w H h it (ItK d o n it) := by
  obtain ⟨oi, e1, e2, e3⟩ := id k
  exact ⟨⟨es, ep, e, k⟩, ⟨oi, e1⟩, fun h1 h2 q st => by
    obtain ⟨es', ep', e', k'⟩ := q
    exact ⟨es', ep', e', k'.at fun oi e => st oi e⟩⟩
section
variable {X : Cx}
theorem call_iterK : CallR X (.builtin "iter") (fun xs H Q => ∃ (d : Addr) (o : Obj) (kvs : List (Key × V)), xs = [.ref d] ∧ H d = some (.frz o (.dK kvs)) ∧ ∀ it, H it = none → X.s_0.heap.objs.size ≤ it → Q (.ref it) (upd H it (ItK d o kvs.length it))) := by
  intro pins s σ H xs us Q I r h
  obtain ⟨d, o, kvs, rfl, hd, q⟩ := h
  obtain rfl := Vals.ref1 r
  obtain ⟨hs, hgd, hx, es, ep, vs, hdt, hsz, kv, hm⟩ := I.frzK hd
  refine Calls.call_function_entry (by decide +kernel) (by decide +kernel) PySem.W.kdk_entry_iter (PySem.W.kdk_args_iter _) ?_
  unfold Builtin.«iter»
  refine wpAny_bind (m := someArgs "iter" 1 2 _) (wpAny_of_eq (a := [Value.ref d]) (by first | rfl | kernel_rfl!) ?_)
  show wpAny _ _ (pyIter (.ref d) >>= _) _ _ _
  refine wpAny_bind (iter_keys hs hgd hx hdt ?_)
  have key : (s.heap.push { cls := .type "dict_keyiterator", data := .fields #[.ref d, .int 0 0, .int es.size 0, .int ep 0] }).IsKeyIter s.heap.objs.size d 0 kvs.length ep := by
    refine ⟨_, Heap.get?_push_size _ rfl, rfl, ?_⟩
    rw [hsz] <;> rfl
  exact wpAny_pure ⟨_, rfl, .ref s.heap.objs.size, _, I.laid (t' := s.toks) (fun b u e => Heap.get?_push_of_some _ e) (Nat.le_refl _) (itK_ok hdt key), rfl, q _ (I.hok.fresh (Nat.le_refl _)) I.sz⟩
variable {n : Nat} {CX : CXT} {C f : Addr} {fd : FuncData} {ps : List Str} {sp : Sp} {E : XK} {sn : Nat → Sp}
/-- a loop by the class's own __iter__, which gives iter(a dict) -/
def iOwnK (K : PySem.W.Frag) (C : Addr) (m : Nat) (sn : Nat → Sp) (E : XK) (tl : TE) : TI := fun σ H R => tl σ H fun x H1 => ∃ a dx fs, x = .ref a ∧ H1 a = some (.ins C dx fs) ∧
  ∀ k, m ≤ k → sn k [.ref a] H1 (fun v H' => ∃ it d o kvs, v = .ref it ∧ k ≤ it ∧ H' it = some (ItK d o kvs.length it) ∧ H' d = some (.frz o (.dK kvs)) ∧ R (Itk d o kvs) (dropH H' it)) E
theorem pi_ownK {tg l : Expr} {tl : TE} (F : FnN X.prog X.w X.K X.mg X.base CX n f fd ps sn) (hb : Binds X.K fd ps []) (hx : Passes CX X E) (o : Own X.K C "__iter__" f) (hr : Room n X.A) (hl : PE X l tl) : PI X tg l (iOwnK X.K C X.s_0.heap.objs.size sn E tl) := by
  refine ⟨fun pins s σ H R I h => ?_⟩
  refine thn (hl.run pins s σ H _ I h) fun v s1 ⟨x, H1, I1, r1, q1⟩ => ?_
  obtain ⟨a, dx, fs, rfl, ha, hs⟩ := q1
  cases r1
  obtain ⟨od, J⟩ := inst_at I1 ha
  obtain ⟨m, hF⟩ := I1.fr
  refine PySem.W.owit_iter hF I1.ok.mod.kin J o.find o.fn (thn (run_N (Sub.here hr) F hb hx I1 (show Vals [V.ref a] [Value.ref a] from .cons rfl .nil) (hs s1.heap.objs.size I1.sz)) fun v s' q => ?_)
  obtain ⟨y, H', I', ry, ⟨it, d, ob, kvs, rfl, hn, hi, hd, q⟩⟩ := q
  cases ry
  have hy := Nat.le_trans I1.sz hn
  obtain ⟨es, ep, e1, k1⟩ := (I'.hok it _ hi).1
  obtain ⟨oi, e2, c2, d2⟩ := id k1
  have nd : d ≠ it := fun z => by
    rw [z, hi] at hd
    cases hd
  unfold PySem.W.OwitIt
  refine wpAny_specialOf (T := "dict_keyiterator") (v := .ref it) ⟨_, e2, c2⟩ PySem.F.slot_dict_keyiterator_next.lookup ?_
  refine ⟨it, [it], _, _, dropH H' it, rfl, inv_drop I' hi, turn_keys it e1, k1, fun b hb => ?_, q⟩
  have e : b = it := by simpa using hb
  subst e
  exact inv_fp I' hi hy
end
end L2

set_option Elab.async false
set_option linter.all false
set_option maxRecDepth 100000
set_option maxHeartbeats 4000000
/-! enumerate(a tuple). -/
namespace PySem
/-- enumerate's cells over what begins as B tells -/
theorem enumNewB {v : Value} {o : Obj} {H : Heap → Prop} (B : Begins v o H) :
    Meets (Builtin.«enumerate.__new__» ⟨[.type "enumerate", v], []⟩) (fun _ R s => H s.heap ∧
      R (.ok (.ret (.ref (s.heap.push o).objs.size))) { s with heap := (s.heap.push o).push { cls := .type "enumerate", data := .fields #[.none, .bool false, .ref s.heap.objs.size, rawInt 0, .none, .none] } }) :=
  .of_wp fun prog w A R s h => by
    obtain ⟨hp, g, d, tk, os⟩ := s
    obtain ⟨h1, h⟩ := h
    have sb := sub_enumerate
    have bg : ∀ {A' : Around} {E : Value → Shared → Prop} {Q : Value → Shared → Prop}, Q (.ref hp.objs.size) ⟨hp.push o, g, d, tk, os⟩ → wpAny (model prog w) A' (pyIter v) Q E ⟨hp, g, d, tk, os⟩ :=
      fun q => B.iter prog w _ _ ⟨hp, g, d, tk, os⟩ _ h1 q
    wp_walk using bg
    refine wpAny_stack_any fun _ => wpAny_pure ?_
    split
    · rename_i c _ _ _ _ _
      by_cases hc : (c == Value.type "enumerate") = true
      all_goals
        simp only [hc]
        wp_walk using bg
        exact ⟨_, rfl, h⟩
    · wp_walk using bg
      exact ⟨_, rfl, h⟩
theorem enumCall {prog : Program} {w : World} {A : Around} {E : Value → Shared → Prop} {s : Shared} {v : Value} {o : Obj} {H : Heap → Prop} {Q : Value → Shared → Prop} (B : Begins v o H) (h1 : H s.heap)
    (h : ∀ h', IsEnum h' (s.heap.objs.size + 1) s.heap.objs.size 0 .none → h'.get? s.heap.objs.size = some o → (∀ b o, s.heap.get? b = some o → h'.get? b = some o) → Q (.ref (s.heap.objs.size + 1)) { s with heap := h' }) :
    wpAny (model prog w) A (call (.type "enumerate") [v]) Q E s := by
  have sz : (s.heap.push o).objs.size = s.heap.objs.size + 1 := Heap.size_push ..
  refine callType_new F.called_enumerate (by decide) (F.typeCall_enumerate_1 _) (F.newCall_enumerate_1 _) (fun obj => F.args_object_init_2 obj _) F.entry_enumerate_new (enumNewB B) ⟨h1, ?_⟩
  show _ ∧ _
  have e1 := Heap.get?_push_size (s.heap.push o) (o := { cls := .type "enumerate", data := .fields #[.none, .bool false, .ref s.heap.objs.size, rawInt 0, .none, .none] }) rfl
  rw [sz] at e1 ⊢
  exact ⟨⟨_, e1, rfl⟩, h _ e1 (Heap.get?_push_of_some _ (Heap.get?_push_size _ B.free)) fun b u e => Heap.get?_push_of_some _ (Heap.get?_push_of_some _ e)⟩
end PySem
namespace L2
open PySem PySem.Spec PyProof.Rows
/-- the items of the tuple at a, each in a new pair behind its number -/
def ItTe (K : PySem.W.Frag) (a : Addr) : It :=
  ⟨fun i H => ∃ (xs : List V) (x : V), SqT K H a xs ∧ xs[i]? = some x, fun i H v H' => ∃ T x, v = .ref T ∧ H T = none ∧ H' = upd H T (.tup [.int (i : Nat), x]) ∧ ∀ xs, SqT K H a xs → xs[i]? = some x, fun i H => ∃ xs : List V, SqT K H a xs ∧ xs.length = i⟩
theorem turn_enumT {P : Program} {w : World} {K : PySem.W.Frag} {elts : List Expr} {kk : Nat} {tpos : Pos} (a e it : Addr) :
    Turn P w K (.Tuple elts kk tpos) (ItTe K a) [e, it] e (fun i h => (∃ old, IsEnum h e it ((i : Nat) : Int) old) ∧ h.IsTupleIter it a i ∧ e ≠ it) where
  mem := by simp
  obj := fun i h st b hb => by
    obtain ⟨⟨old, he⟩, ⟨o, ho, hc, hd⟩, _⟩ := st
    rcases (show b = e ∨ b = it by simpa using hb) with z | z
    · rw [z]; exact ⟨_, he, fun v q => nomatch q⟩
    · rw [z]; exact ⟨o, ho, fun v q => by rw [hd] at q; cases q⟩
  keep := fun i h h' st k => by
    obtain ⟨⟨old, he⟩, ⟨o, ho, r⟩, hne⟩ := st
    exact ⟨⟨old, k e (by simp) _ he⟩, ⟨o, k it (by simp) o ho, r⟩, hne⟩
  item := by
    intro X hP hw hK hc i pins s σ H E I hf st hg
    subst hP hw hK
    obtain ⟨⟨old, he⟩, hit, hne⟩ := st
    obtain ⟨xs, x, hq, hx⟩ := hg
    obtain ⟨its, rv, p, hz⟩ := I.tuple hq
    obtain ⟨u, hu, ru⟩ := rv.get hx
    have hi : i < its.toArray.size := by
      obtain ⟨hh, _⟩ := List.getElem?_eq_some_iff.mp hu
      simpa using hh
    have hel : e < s.heap.objs.size := Heap.lt_size he
    have hil : it < s.heap.objs.size := by obtain ⟨_, q, _⟩ := hit; exact Heap.lt_size q
    have pt : s.heap.IsTuple a its.toArray := p
    have nat : a ≠ it := by
      intro z
      obtain ⟨o1, q1, c1, _⟩ := pt
      obtain ⟨o2, q2, c2, _⟩ := hit
      rw [z, q2] at q1
      cases q1
      rw [c1] at c2
      exact absurd (Value.type.inj c2) (by decide)
    have nae : e ≠ a := by
      intro z
      obtain ⟨o1, q1, c1, _⟩ := pt
      have he' : s.heap.get? e = some _ := he
      rw [z, q1] at he'
      have z2 := Option.some.inj he'
      rw [z2] at c1
      have c3 : Value.type "enumerate" = .type "tuple" := c1
      exact absurd (Value.type.inj c3) (by decide)
    refine wpAny_pyNext_enum_itemD (Draws.tuple (A := X.A.in1) (I.ok.hd hc) it a nat its.toArray) he ⟨hit, pt⟩ hi hne (by simp [hne, nae]) fun y h' tk hy ho hit' hT hsz hk => ?_
    have ey : y = u := by
      have hy' : its[i]? = some y := by simpa using hy
      rw [hu] at hy'
      exact (Option.some.inj hy').symm
    subst ey
    refine ⟨_, rfl, wpAny_letOwnedTupleGo_enum (s := { s with heap := h', toks := tk + 1 }) ho fun h'' he' sb => ?_⟩
    have hT2 : h''.get? s.heap.objs.size = some { cls := .type "tuple", data := .seq #[.int i tk, y] } := (sb.2 _ (Nat.ne_of_gt hel)).trans hT
    have new : ObjOk X.prog X.w (upd H s.heap.objs.size (.tup [.int (i : Nat), x])) h'' s.heap.objs.size (.tup [.int (i : Nat), x]) :=
      ⟨by show 2 ≤ sizeLine; decide, [.int i tk, y], .cons ⟨_, rfl⟩ (.cons ru .nil), ⟨_, hT2, rfl, _, rfl⟩⟩
    have I1 : Inv X pins σ (upd H s.heap.objs.size (.tup [.int (i : Nat), x])) { s with heap := h'', toks := tk + 1 } :=
      I.turnedNew (ch := [e, it]) (fun b ob hb q => (sb.2 b (fun z => hb (by simp [z]))).trans (hk b ob (fun z => hb (by simp [z])) (fun z => hb (by simp [z])) q)) hf (Nat.le_refl _) new
    refine ⟨.ref s.heap.objs.size, _, I1, rfl, ⟨_, x, rfl, I.hok.fresh (Nat.le_refl _), rfl, fun ys hy => by rw [I.tuple_inj hy hq]; exact hx⟩, ⟨⟨y, ?_⟩, ?_, hne⟩, fun b hb => ?_⟩
    · have e1 : ((i + 1 : Nat) : Int) = (i : Int) + 1 := by omega
      rw [e1]; exact he'
    · obtain ⟨o, q, r⟩ := hit'.1
      exact ⟨o, (sb.2 it (Ne.symm hne)).trans q, r⟩
    · have hb' : b < s.heap.objs.size := by
        rcases (show b = e ∨ b = it by simpa using hb) with z | z
        · rw [z]; exact hel
        · rw [z]; exact hil
      rw [upd_ne (Nat.ne_of_lt hb')]
      exact (hf b hb).1
  done := by
    intro X hP hw hK hc i pins s σ H E I hf st hg
    subst hP hw hK
    obtain ⟨⟨old, he⟩, hit, hne⟩ := st
    obtain ⟨xs, hq, hx⟩ := hg
    obtain ⟨its, rv, p, hz⟩ := I.tuple hq
    have hl := rv.length
    have pt : s.heap.IsTuple a its.toArray := p
    have nat : a ≠ it := by
      intro z
      obtain ⟨o1, q1, c1, _⟩ := pt
      obtain ⟨o2, q2, c2, _⟩ := hit
      rw [z, q2] at q1
      cases q1
      rw [c1] at c2
      exact absurd (Value.type.inj c2) (by decide)
    have hi : its.toArray.size = i := by
      rw [List.size_toArray]
      omega
    obtain ⟨f0, f1, f2, f3, f4, f5⟩ := hf it (by simp)
    exact wpAny_pyNext_enum_endD (Draws.tuple (A := X.A.in1) (I.ok.hd hc) it a nat its.toArray) he (by rw [hi]; exact ⟨hit, pt⟩) fun h' eb => ⟨rfl, I.turned (t' := s.toks) (fun b o hb q => eb b o hb q) f0 f1 f3 f4 f5⟩
  self := fun A i s Q E st h => let ⟨⟨_, he⟩, _⟩ := st; wpAny_pyIter_enum he h
def iEnumT (K : PySem.W.Frag) (ta : TA) : TI := fun σ H R => ta σ H fun vs H1 => ∃ a xs, vs = [.ref a] ∧ SqT K H1 a xs ∧ R (ItTe K a) H1
theorem pi_enumT {X : Cx} {e : Expr} {ta : TA} {p pos tpos : Pos} {elts : List Expr} {kk : Nat} (hg : Gl X "enumerate") (hm : X.mg "enumerate" = none) (ha : PA X [e] ta) (hs : starEach [e] X.env = [(false, eval e X.env)] := by rfl) :
    PI X (.Tuple elts kk tpos) (.Call (.Name "enumerate" p) [e] [] pos) (iEnumT X.K ta) := by
  refine ⟨fun pins s σ H R I h => ?_⟩
  refine Call_ (ld_blt I hg hm boot_enumerate (PyProof.Rows.callWith_type1 (thn (ha.run pos pins s σ H _ I h) fun us s1 ⟨vs, H1, I1, r1, q1⟩ => ?_) hs rfl))
  obtain ⟨a, xs, ex, hq, q⟩ := q1
  subst ex
  obtain rfl := Vals.ref1 r1
  obtain ⟨its, rv, p', hz⟩ := I1.tuple hq
  refine enumCall (begins_tuple a its.toArray) (show s1.heap.IsTuple a its.toArray from p') fun h' he hit hk => wpAny_pyIter_enum he ?_
  have I2 : Inv X pins σ H1 { s1 with heap := h' } := I1.kept (t' := s1.toks) hk
  refine ⟨s1.heap.objs.size + 1, [s1.heap.objs.size + 1, s1.heap.objs.size], _, _, H1, rfl, I2, turn_enumT a (s1.heap.objs.size + 1) s1.heap.objs.size, ⟨⟨.none, he⟩, ⟨_, hit, rfl, rfl⟩, Nat.succ_ne_self _⟩, fun b hb => ?_, q⟩
  have hle : s1.heap.objs.size ≤ b := by
    rcases (show b = s1.heap.objs.size + 1 ∨ b = s1.heap.objs.size by simpa using hb) with z | z
    · rw [z]; exact Nat.le_add_right _ _
    · rw [z]; exact Nat.le_refl _
  exact I1.fpOk hle (I1.hok.fresh hle)
theorem walk_enumT {K : PySem.W.Frag} {a : Addr} {xs : List V} : Walk (ItTe K a) xs.length (fun H => SqT K H a xs) (fun i H v H' => ∃ T x, v = .ref T ∧ H T = none ∧ H' = upd H T (.tup [.int (i : Nat), x]) ∧ xs[i]? = some x) :=
  ⟨fun i _ hi q => ⟨xs, xs[i], q, by simp [hi]⟩, fun _ q => ⟨xs, q, rfl⟩, fun _ _ _ _ _ q y => by
    obtain ⟨T, x, e1, e2, e3, e4⟩ := y
    exact ⟨T, x, e1, e2, e3, e4 xs q⟩⟩
end L2

set_option Elab.async false
set_option linter.all false
set_option maxRecDepth 100000
set_option maxHeartbeats 4000000
/-! repr of a text or an integer. -/
namespace L2
open PySem PySem.Spec PyProof.Rows
theorem call_reprV {X : Cx} : CallR X (.builtin "repr") (fun xs H Q => (∃ z, xs = [.str z] ∧ (reprText z).length ≤ sizeLine ∧ Q (.str (reprText z)) H) ∨ ∃ i, xs = [.int i] ∧ i.natAbs.log2 < 1920 ∧ Q (.str (toString i)) H) := by
  intro pins s σ H xs us Q I r h
  rcases h with ⟨z, rfl, hz, q⟩ | ⟨i, rfl, hz, q⟩
  · obtain ⟨u, rfl, t, rfl⟩ := vals1 r
    exact PySem.P.repr_of_str ⟨.str _, H, I.tok _, ⟨_, rfl⟩, q⟩ hz
  · exact SkE.call_repr_int pins s σ H _ us Q I r ⟨i, rfl, hz, q⟩
end L2

set_option Elab.async false
set_option linter.all false
set_option maxRecDepth 100000
set_option maxHeartbeats 4000000
/-! Signs of an own class: with a value of any other kind on the right; x >= y, where y's own <= answers; x |= y, where there is no __ior__. -/
namespace PySem.W
open PySem PySem.Spec PySem.Calls PyProof.Rows
theorem slot_obj_ge : Slot "object" "__ge__" "object.__ge__" := by
  refine .of (owner := "object") (n := "__ge__") ?_ (by decide +kernel) (by decide +kernel) (by decide +kernel) (.inl (by decide +kernel)) ?_
  · rw [typeLookup_type, builtinLookup_eq_fast]
    kernel_rfl
  · rw [isSubtype_type]
    kernel_rfl
theorem entry_obj_ge : entryFor table "object.__ge__" = some Builtin.«object.__ge__» := entryFor_of_tree (by kernel_rfl)
theorem args_obj_ge (u v : Value) : argsOk "object.__ge__" ⟨[u, v], []⟩ := by
  unfold argsOk
  kernel_rfl
section
variable {prog : Program} {w : World} {A : Around} {E : Value → Shared → Prop} {s : Shared} {K : Frag} {m : Str → Option Value} {h₀ : Heap} {L x y C f : Addr} {ox oy : Obj} {od od2 : Option Obj}
/-- object's own >= says that it does not know -/
theorem obj_ge_none {b : Value} {Q : Value → Shared → Prop} (X : K.In s.heap) (I : InstAt s.heap x ox C od) (hm : mroIn K C (.type "object") = some true) (q : Q .notImplemented s) : wpAny (model prog w) A (call (.builtin "object.__ge__") [.ref x, b]) Q E s := by
  refine wpAny_call (codeAny_call_builtin slot_obj_ge.plain entry_obj_ge (check_slot (n := "__ge__") (by decide +kernel) (by decide +kernel) (I.type.andThen (looks_mroIn X hm)) (args_obj_ge _ _) ?_))
  have e : Builtin.«object.__ge__» ⟨[.ref x, b], []⟩ = (do
      let _ ← slotArgs "__ge__" 1 ⟨[.ref x, b], []⟩
      ret .notImplemented) := rfl
  rw [e]
  repeat wp_step
  exact q
theorem try_ge {b : Value} {Q : Option Value → Shared → Prop} (X : K.In s.heap) (I : InstAt s.heap x ox C od) (hm : mroIn K C (.type "object") = some true) (no : findIn K (.ref C) "__ge__" = some (some (.builtin "object.__ge__"))) (q : Q none s) : wpAny (model prog w) A (tryCompare (.ref x) "__ge__" b) Q E s := by
  unfold tryCompare
  have told : wpAny (model prog w) A (callSpecialIfBound? (.ref x) "__ge__" [b]) (fun r s' => r = some .notImplemented ∧ s' = s) E s := by
    simp only [callSpecialIfBound?, bindSpecialIfBound?]
    refine wpAny_holding (wpAny_bind (wpAny_bind (wpAny_bind (I.type.here ((looks_findIn X no).here (wpAny_bind (wpAny_askSetting (wpAny_ite ?_))))))))
    have last : wpAny (model prog w) A (call (.builtin "object.__ge__") ([.ref x] ++ [b]) >>= fun v => pure (some v)) (fun r s' => r = some .notImplemented ∧ s' = s) E s :=
      wpAny_bind (obj_ge_none X I hm (wpAny_pure ⟨rfl, rfl⟩))
    split
    · exact wpAny_bind (wpAny_of_eq (slot_obj_ge.bind _) (wpAny_pure last))
    · exact wpAny_tryCatch (wpAny_bind (wpAny_of_eq (slot_obj_ge.bind _) (wpAny_pure last)))
  refine wpAny_bind (wpAny_mono told (fun r s' z => ?_) fun _ _ e => e)
  obtain ⟨rfl, rfl⟩ := z
  exact wpAny_pure q
/-- x >= y -/
theorem ge_back {Q : Value → Shared → Prop} (hu : A.units < cLine) (F : Fr h₀ L s.heap m) (X₀ : K.In h₀) (I : InstAt s.heap x ox C od) (J : InstAt s.heap y oy C od2) (hm : mroIn K C (.type "object") = some true) (no : findIn K (.ref C) "__ge__" = some (some (.builtin "object.__ge__")))
    (hs : findIn K (.ref C) "__le__" = some (some (.ref f))) (hf : isFn K (.ref f) = true) (h : wpAny (model prog w) A (call (.ref f) [.ref y, .ref x]) (CmpBack Q) E s) : wpAny (model prog w) A (richCompare .GtE (.ref x) (.ref y)) Q E s := by
  have X := X₀.keeps F.keep
  have own : wpAny (model prog w) A (tryCompare (.ref y) "__le__" (.ref x)) (fun r s' => ∃ v, r = some v ∧ Q v s') E s := by
    unfold tryCompare
    refine wpAny_bind (ifBound_K X J hs hf (wpAny_mono h (fun v s' hv => ?_) fun _ _ e => e))
    cases v <;> first
      | exact hv.elim
      | exact wpAny_pure ⟨_, rfl, hv⟩
  unfold richCompare
  simp only [oneThing_ref, cmpInfo]
  refine wpAny_holding (wpAny_bind (wpAny_cRoomFor hu (wpAny_bind (I.type.here (wpAny_bind (J.type.here ?_))))))
  rw [if_neg (by simp)]
  refine wpAny_bind (wpAny_pure ?_)
  simp only [Bool.false_eq_true, if_false, Bool.not_false, if_true]
  refine wpAny_bind (try_ge X I hm no ?_)
  refine wpAny_bind (wpAny_mono own (fun r s' z => ?_) fun _ _ e => e)
  obtain ⟨v, rfl, q⟩ := z
  exact wpAny_pure q
/-- x op b, b of a built-in type T -/
theorem bin_any {op : Operator} {T : String} {b : Value} {fo ro rc : Option Value} {Q : Value → Shared → Prop} (F : Fr h₀ L s.heap m) (X₀ : K.In h₀) (I : InstAt s.heap x ox C od) (hb : Looks (model prog w) s.heap (typeOf b) (.type T)) (hc : selfFirst K C = true)
    (hs : findIn K (.ref C) (PySem.dunder op.info.2) = some (some (.ref f))) (hf : isFn K (.ref f) = true) (hr : findIn K (.ref C) (dunderR op.info.2) = some rc) (hp : rc = none ∨ ∃ g : Addr, rc = some (.ref g))
    (h1 : findIn K (.type T) (PySem.dunder op.info.2) = some fo) (h2 : findIn K (.type T) (dunderR op.info.2) = some ro) (hsub : subIn K (.type T) (.ref C) = some false) (h : wpAny (model prog w) A (call (.ref f) [.ref x, b]) (CmpBack Q) E s) :
    wpAny (model prog w) A (binaryOp op (.ref x) b) Q E s := by
  have X := X₀.keeps F.keep
  obtain ⟨cd, more, e1, e2⟩ := ksp_first hc
  rcases hi : op.info with ⟨sg, nm⟩
  rw [hi] at hs hr h1 h2
  dsimp only at hs hr h1 h2
  have go := ksp_try X I hs hf h
  have tx := I.type (M := model prog w)
  have lf := fills_K (M := model prog w) X e1 e2 hs
  have rf := ksp_fillsT (M := model prog w) X h1 h2
  have su := looks_subIn (M := model prog w) X hsub
  have py := ksp_inPy (M := model prog w) X hs hr hp
  have nopy : Looks (model prog w) s.heap (numberSlotInPython (.type T) nm) false := Looks.of_pure rfl
  have rl := looks_findIn (M := model prog w) X h2
  have ne : (Value.ref C == Value.type T) = false := rfl
  obtain ⟨hh, g, d, tt, os⟩ := s
  simp only [binaryOp, hi]
  refine wpAny_holding (wpAny_bind ?_)
  unfold binaryOp1
  refine wpAny_bind (tx.at (wpAny_bind (hb.at (wpAny_bind (lf.at ?_)))))
  simp only [ne, Bool.false_eq_true, if_false]
  cases hri : ((fo.isSome && !isSeqSlot fo) || (ro.isSome && !isSeqSlot ro)) <;> rw [hri] at rf
  all_goals
    ksp_lk
    refine wpAny_mono go (fun r s' z => ?_) fun _ _ e => e
    obtain ⟨v, rfl, q⟩ := z
    ksp_lk
    exact q
end
end PySem.W

set_option Elab.async false
set_option linter.all false
set_option maxRecDepth 100000
set_option maxHeartbeats 4000000
/-! x op= y of one own class, which has no method for it in place. -/
namespace PySem.W
open PySem PySem.Spec PySem.Calls PyProof.Rows
section
variable {prog : Program} {w : World} {A : Around} {E : Value → Shared → Prop} {s : Shared} {K : Frag} {m : Str → Option Value} {h₀ : Heap} {L x y C f : Addr} {ox oy : Obj} {od od2 : Option Obj}
theorem no_inplace {M : Model} {h : Heap} {nm : String} {add : Bool} {cd : ClassData} (X : K.In h) (hc : clsIn K C = some cd) (hm : cd.mro = [.ref C, .type "object"]) (n1 : findIn K (.ref C) (dunderI nm) = some none) (n2 : typeLookup (.type "object") (dunderI nm) = pure none) : Looks M h (fillsInplaceSlot (.ref C) nm add) false := by
  intro A Q E s k q
  have Lm := ((looks_clsIn (M := M) X hc).andThen (f := fun cd => pure cd.mro) .now).keeps k
  obtain ⟨hh, g, d, tt, os⟩ := s
  have X' : K.In hh := X.keeps k
  have t1 : Looks M hh (typeLookup (.ref C) (dunderI nm)) none := looks_findIn X' n1
  have t2 : Looks M hh (typeLookup (.type "object") (dunderI nm)) none := Looks.of_pure n2
  unfold fillsInplaceSlot
  refine wpAny_bind (Lm.at ?_)
  rw [hm, List.anyM_cons]
  refine wpAny_bind ?_
  repeat lk
  exact q
theorem in_own {op : Operator} {b : Value} {cd : ClassData} {Q : Value → Shared → Prop} (F : Fr h₀ L s.heap m) (X₀ : K.In h₀) (I : InstAt s.heap x ox C od) (hb : Looks (model prog w) s.heap (typeOf b) (.ref C)) (hc : clsIn K C = some cd) (hm : cd.mro = [.ref C, .type "object"])
    (n1 : findIn K (.ref C) (dunderI op.info.2) = some none) (n2 : typeLookup (.type "object") (dunderI op.info.2) = pure none) (hs : findIn K (.ref C) (PySem.dunder op.info.2) = some (some (.ref f))) (hf : isFn K (.ref f) = true)
    (h : wpAny (model prog w) A (call (.ref f) [.ref x, b]) (CmpBack Q) E s) : wpAny (model prog w) A (inplaceOp op (.ref x) b) Q E s := by
  have X := X₀.keeps F.keep
  have go := ksp_try X I hs hf h
  have tx := I.type (M := model prog w)
  have lf := fills_K (M := model prog w) X hc hm hs
  have ni := no_inplace (M := model prog w) (add := op == .Add) X hc hm n1 n2
  obtain ⟨hh, g, d, tt, os⟩ := s
  unfold inplaceOp
  refine wpAny_holding (wpAny_bind (tx.at (wpAny_bind (ni.at ?_))))
  simp only [Bool.false_eq_true, if_false]
  refine wpAny_bind (m := binaryOp1 op.info.2 (.ref x) b) ?_
  unfold binaryOp1
  refine wpAny_bind (tx.at (wpAny_bind (hb.at (wpAny_bind (lf.at ?_)))))
  simp only [beq_self_eq_true, if_true]
  ksp_lk
  refine wpAny_mono go (fun r s' z => ?_) fun _ _ e => e
  obtain ⟨v, rfl, q⟩ := z
  ksp_lk
  exact q
end
end PySem.W

set_option Elab.async false
set_option linter.all false
set_option maxRecDepth 100000
set_option maxHeartbeats 4000000
/-! The rules for these signs. -/
namespace L2
open PySem PySem.Spec PyProof.Rows
section
variable {X : Cx} {n : Nat} {CX : CXT} {C f : Addr} {fd : FuncData} {ps : List Str} {sp : Sp} {E : XK}
/-- what a built-in type says of a sign, beside an own class -/
structure BesideT (K : PySem.W.Frag) (C : Addr) (nm : String) (t : Value) : Prop where
  ex : ∃ (T : String) (fo ro : Option Value), t = .type T ∧ PySem.W.findIn K (.type T) (PySem.dunder nm) = some fo ∧ PySem.W.findIn K (.type T) (PySem.dunderR nm) = some ro ∧ PySem.W.subIn K (.type T) (.ref C) = some false
def rBinAny (K : PySem.W.Frag) (C : Addr) (nm : String) (sp : Sp) (E : XK) : R2 := fun x y H Q => ∃ a dx fs t, x = .ref a ∧ H a = some (.ins C dx fs) ∧ TyX K H y t ∧ BesideT K C nm t ∧ sp [.ref a, y] H Q E
theorem op_binAny {op : Operator} (F : FnOk X.prog X.w X.K X.mg X.base CX n f fd ps sp) (hb : Binds X.K fd ps []) (hx : Passes CX X E) (hs : PySem.W.findIn X.K (.ref C) (PySem.dunder op.info.2) = some (some (.ref f))) (hf : PySem.W.isFn X.K (.ref f) = true) (hc : PySem.W.selfFirst X.K C = true)
    (hr : PySem.W.findIn X.K (.ref C) (PySem.dunderR op.info.2) = some none) (hm : Room n X.A) : OpR X (binaryOp op) (rBinAny X.K C op.info.2 sp E) := by
  intro pins s σ H x y v u Q I rx ry h
  obtain ⟨a, dx, fs, t, rfl, ha, ty, bt, hsp⟩ := h
  cases rx
  obtain ⟨od, J⟩ := inst_at I ha
  obtain ⟨m, hF⟩ := I.fr
  obtain ⟨P, Z, p, _⟩ := kit_of I ry ty
  obtain ⟨T, fo, ro, rfl, h1, h2, h3⟩ := bt.ex
  refine PySem.W.bin_any hF I.ok.mod.kin J (Z.ty _ _ I.kIn p) hc hs hf hr (.inl rfl) h1 h2 h3 (thn (run_own (Sub.here hm) F hb hx I (show Vals [V.ref a, y] [Value.ref a, u] from .cons rfl (.cons ry .nil)) hsp) fun r s' q => ?_)
  obtain ⟨z, H', I', rz, q⟩ := q
  exact notNI rz ⟨z, H', I', rz, q⟩
def rGeOwn (C : Addr) (sp : Sp) (E : XK) : R2 := fun x y H Q => ∃ a dx fs b dy gs, x = .ref a ∧ H a = some (.ins C dx fs) ∧ y = .ref b ∧ H b = some (.ins C dy gs) ∧ sp [.ref b, .ref a] H Q E
theorem op_geOwn (F : FnOk X.prog X.w X.K X.mg X.base CX n f fd ps sp) (hb : Binds X.K fd ps []) (hx : Passes CX X E) (o : Own X.K C "__le__" f) (no : PySem.W.findIn X.K (.ref C) "__ge__" = some (some (.builtin "object.__ge__"))) (hm : PySem.W.mroIn X.K C (.type "object") = some true) (hr : Room n X.A) : OpR X (compareOp .GtE) (rGeOwn C sp E) := by
  intro pins s σ H x y v u Q I rx ry h
  obtain ⟨a, dx, fs, b, dy, gs, rfl, ha, rfl, hb2, hsp⟩ := h
  cases rx
  cases ry
  obtain ⟨od, J⟩ := inst_at I ha
  obtain ⟨od2, J2⟩ := inst_at I hb2
  obtain ⟨m, hF⟩ := I.fr
  refine PySem.W.ge_back hr.units0 hF I.ok.mod.kin J J2 hm no o.find o.fn (thn (run_own (Sub.here hr) F hb hx I (show Vals [V.ref b, V.ref a] [Value.ref b, Value.ref a] from .cons rfl (.cons rfl .nil)) hsp) fun r s' q => ?_)
  obtain ⟨z, H', I', rz, q⟩ := q
  exact notNI rz ⟨z, H', I', rz, q⟩
theorem op_inOwnP {op : Operator} {cd : ClassData} (F : FnOk X.prog X.w X.K X.mg X.base CX n f fd ps sp) (hb : Binds X.K fd ps []) (hx : Passes CX X E) (hs : PySem.W.findIn X.K (.ref C) (PySem.dunder op.info.2) = some (some (.ref f))) (hf : PySem.W.isFn X.K (.ref f) = true) (hc : PySem.W.clsIn X.K C = some cd) (hm : cd.mro = [.ref C, .type "object"])
    (n1 : PySem.W.findIn X.K (.ref C) (PySem.dunderI op.info.2) = some none) (n2 : typeLookup (.type "object") (PySem.dunderI op.info.2) = pure none) (hr : Room n X.A) : OpR X (inplaceOp op) (rBinOwn X.K C sp E) := by
  intro pins s σ H x y v u Q I rx ry h
  obtain ⟨a, dx, fs, b, dy, gs, rfl, ha, rfl, hb2, hsp⟩ := h
  cases rx
  cases ry
  obtain ⟨od, J⟩ := inst_at I ha
  obtain ⟨od2, J2⟩ := inst_at I hb2
  obtain ⟨m, hF⟩ := I.fr
  refine PySem.W.in_own hF I.ok.mod.kin J J2.type hc hm n1 n2 hs hf (thn (run_own (Sub.here hr) F hb hx I (show Vals [V.ref a, V.ref b] [Value.ref a, Value.ref b] from .cons rfl (.cons rfl .nil)) hsp) fun r s' q => ?_)
  obtain ⟨z, H', I', rz, q⟩ := q
  exact notNI rz ⟨z, H', I', rz, q⟩
end
theorem no_ior : typeLookup (.type "object") (PySem.dunderI (Operator.info .BitOr).2) = pure none := by
  rw [typeLookup_type, builtinLookup_eq_fast]
  kernel_rfl
end L2

set_option Elab.async false
set_option linter.all false
set_option maxRecDepth 100000
set_option maxHeartbeats 4000000
/-! repr of a bool. -/
namespace L2
open PySem PySem.Spec PyProof.Rows
theorem call_reprB {X : Cx} : CallR X (.builtin "repr") (fun xs H Q => ∃ b, xs = [.bl b] ∧ Q (.str (if b = true then "True" else "False")) H) := by
  intro pins s σ H xs us Q I r h
  obtain ⟨b, rfl, q⟩ := h
  match us, r with
  | [u], .cons r1 .nil =>
    obtain rfl : u = Value.bool b := r1
    refine PySem.P.repr_of_bool ?_
    exact ⟨.str _, H, I.tok _, ⟨_, by cases b <;> rfl⟩, q⟩
end L2

set_option Elab.async false
set_option linter.all false
set_option maxRecDepth 100000
set_option maxHeartbeats 4000000
/-! Where no repr is under way: what defs promise there; repr of lists and tuples. -/
namespace L2
open PySem PySem.Spec PyProof.Rows
mutual
/-- x is laid in H as the datum d -/
inductive PyV (H : Hp) : V → PyData → Prop
  | non : PyV H .non .none
  | bl (b : Bool) : PyV H (.bl b) (.bool b)
  | int (i : Int) : PyV H (.int i) (.int i)
  | str (z : Str) : PyV H (.str z) (.str z)
  | tup {a : Addr} {xs : List V} {ds : List PyData} : H a = some (.tup xs) → PyVs H xs ds → PyV H (.ref a) (.tuple ds)
  | lst {a : Addr} {xs : List V} {ds : List PyData} : H a = some (.lst xs) → PyVs H xs ds → PyV H (.ref a) (.list ds)
inductive PyVs (H : Hp) : List V → List PyData → Prop
  | nil : PyVs H [] []
  | cons {x : V} {d : PyData} {xs : List V} {ds : List PyData} : PyV H x d → PyVs H xs ds → PyVs H (x :: xs) (d :: ds)
end
mutual
theorem PyV.same {H H2 : Hp} (s : ∀ b o, H b = some o → H2 b = some o) : ∀ {x : V} {d : PyData}, PyV H x d → PyV H2 x d
  | _, _, .non => .non
  | _, _, .bl b => .bl b
  | _, _, .int i => .int i
  | _, _, .str z => .str z
  | _, _, .tup h r => .tup (s _ _ h) (PyVs.same s r)
  | _, _, .lst h r => .lst (s _ _ h) (PyVs.same s r)
theorem PyVs.same {H H2 : Hp} (s : ∀ b o, H b = some o → H2 b = some o) : ∀ {xs : List V} {ds : List PyData}, PyVs H xs ds → PyVs H2 xs ds
  | _, _, .nil => .nil
  | _, _, .cons h r => .cons (PyV.same s h) (PyVs.same s r)
end
mutual
theorem PyV.keep {H H2 : Hp} (s : ∀ b o, H b = some o → ((∃ xs, o = .tup xs) ∨ ∃ xs, o = .lst xs) → H2 b = some o) : ∀ {x : V} {d : PyData}, PyV H x d → PyV H2 x d
  | _, _, .non => .non
  | _, _, .bl b => .bl b
  | _, _, .int i => .int i
  | _, _, .str z => .str z
  | _, _, .tup h r => .tup (s _ _ h (.inl ⟨_, rfl⟩)) (PyVs.keep s r)
  | _, _, .lst h r => .lst (s _ _ h (.inr ⟨_, rfl⟩)) (PyVs.keep s r)
theorem PyVs.keep {H H2 : Hp} (s : ∀ b o, H b = some o → ((∃ xs, o = .tup xs) ∨ ∃ xs, o = .lst xs) → H2 b = some o) : ∀ {xs : List V} {ds : List PyData}, PyVs H xs ds → PyVs H2 xs ds
  | _, _, .nil => .nil
  | _, _, .cons h r => .cons (PyV.keep s h) (PyVs.keep s r)
end
theorem PyV.but {H H2 : Hp} {a : Addr} {x : V} {d : PyData} {f : Heap → Prop} (p : PyV H x d) (s : ∀ b o, H b = some o → b ≠ a → H2 b = some o) (ha : H a = some (.ext f)) : PyV H2 x d :=
  p.keep fun b o e k => s b o e fun z => by
    rw [z, ha] at e
    cases e
    rcases k with ⟨xs, k⟩ | ⟨xs, k⟩ <;> cases k
mutual
theorem PyV.noDict {H : Hp} : ∀ {x : V} {d : PyData}, PyV H x d → d.hasDict = false
  | _, _, .non => by simp only [PyData.hasDict]
  | _, _, .bl b => by simp only [PyData.hasDict]
  | _, _, .int i => by simp only [PyData.hasDict]
  | _, _, .str z => by simp only [PyData.hasDict]
  | _, _, .tup h r => by simp only [PyData.hasDict]; exact PyVs.noDict r
  | _, _, .lst h r => by simp only [PyData.hasDict]; exact PyVs.noDict r
theorem PyVs.noDict {H : Hp} : ∀ {xs : List V} {ds : List PyData}, PyVs H xs ds → PyData.hasDictAll ds = false
  | _, _, .nil => by simp only [PyData.hasDictAll]
  | _, _, .cons h r => by simp only [PyData.hasDictAll, PyV.noDict h, PyVs.noDict r, Bool.or_false]
end
mutual
theorem PyV.reads {P : Program} {w : World} {H : Hp} {h : Heap} (ok : HOk P w H h) : ∀ {x : V} {d : PyData} {u : Value}, PyV H x d → RelV x u → ∃ as, Reads h u d as
  | _, _, u, .non, r => by
    obtain rfl : u = Value.none := r
    exact ⟨_, .none⟩
  | _, _, u, .bl b, r => by
    obtain rfl : u = Value.bool b := r
    exact ⟨_, .bool b⟩
  | _, _, u, .int i, r => by
    obtain ⟨t, rfl⟩ : ∃ t, u = Value.int i t := r
    exact ⟨_, .int i t⟩
  | _, _, u, .str z, r => by
    obtain ⟨t, rfl⟩ : ∃ t, u = Value.str z t := r
    exact ⟨_, .str z t⟩
  | _, _, u, .tup (a := a) h1 h2, r => by
    obtain rfl : u = Value.ref a := r
    obtain ⟨_, its, rel, o, e1, e2, n, e3⟩ := ok a _ h1
    obtain ⟨as, q⟩ := PyVs.reads ok h2 rel
    exact ⟨_, .tuple e1 e2 e3 q⟩
  | _, _, u, .lst (a := a) h1 h2, r => by
    obtain rfl : u = Value.ref a := r
    obtain ⟨_, its, n, rel, e1⟩ := ok a _ h1
    obtain ⟨as, q⟩ := PyVs.reads ok h2 rel
    exact ⟨_, .list e1 rfl rfl q⟩
theorem PyVs.reads {P : Program} {w : World} {H : Hp} {h : Heap} (ok : HOk P w H h) : ∀ {xs : List V} {ds : List PyData} {us : List Value}, PyVs H xs ds → Vals xs us → ∃ as, ReadsAll h us ds as
  | _, _, _, .nil, r => by
    cases r
    exact ⟨_, .nil⟩
  | _, _, _, .cons h1 h2, r => by
    cases r with
    | cons r1 r2 =>
      obtain ⟨a1, q1⟩ := PyV.reads ok h1 r1
      obtain ⟨a2, q2⟩ := PyVs.reads ok h2 r2
      exact ⟨_, .cons q1 q2⟩
end
/-- a datum that can be told: its text is not too long -/
structure Tells (d : PyData) : Prop where
  sh : d.showable = true
  dp : d.depth ≤ 4
  sz : d.shown.length ≤ 8000000
theorem Tells.size {d : PyData} (t : Tells d) : d.shown.length ≤ sizeLine := by
  have := t.sz
  rw [sizeLine_eq]
  omega
theorem shown_str (z : Str) : (PyData.str z).shown = reprText z := by simp only [PyData.shown]
theorem shown_none : PyData.none.shown = "None" := by simp only [PyData.shown]
section
variable {X : Cx} {j : Nat}
/-- repr of a datum, as its text -/
theorem repr_any {pins : List (Addr × Obj)} {σ : St} {H : Hp} {s : Shared} {Q : VK} {x : V} {u : Value} {d : PyData} (quiet : X.A.guards = some []) (room : X.A.units + 64 < cLine) (I : Inv X pins σ H s) (r : RelV x u) (p : PyV H x d) (t : Tells d) (q : Q (.str d.shown) H) :
    wpAny (model X.prog X.w) X.A (pyReprObj u) (EP X pins σ Q) X.xe s := by
  have out : ∀ (h2 : Heap) (k tk : Nat), (∀ b o, s.heap.get? b = some o → h2.get? b = some o) → EP X pins σ Q (.str d.shown k) { s with heap := h2, toks := tk } := fun h2 k tk kp => ⟨.str d.shown, H, I.kept kp, ⟨k, rfl⟩, q⟩
  have dp := t.dp
  have un : X.A.units + d.depth < cLine := by omega
  obtain ⟨as, rd⟩ := p.reads I.hok r
  cases p with
  | non =>
    obtain rfl : u = Value.none := r
    rw [shown_none] at out
    exact pyReprObj_none (out _ _ _ fun _ _ e => e)
  | bl b =>
    obtain rfl : u = Value.bool b := r
    have e : (PyData.bool b).shown = if b = true then "True" else "False" := by cases b <;> simp [PyData.shown]
    rw [e] at out
    refine pyReprObj_bool ?_
    have o2 := out s.heap s.toks (s.toks + 1) fun _ _ e => e
    cases b <;> exact o2
  | int i =>
    obtain ⟨tt, rfl⟩ : ∃ t, u = Value.int i t := r
    have e : (PyData.int i).shown = toString i := by simp only [PyData.shown]
    have hz : i.natAbs.log2 < 1920 := by simpa [PyData.showable] using t.sh
    rw [e] at out
    exact pyReprObj_int hz (out _ _ _ fun _ _ e => e)
  | str z =>
    obtain ⟨tt, rfl⟩ : ∃ t, u = Value.str z t := r
    have sz := t.size
    rw [shown_str] at out sz
    exact pyReprObj_str (out _ _ _ fun _ _ e => e) sz
  | tup h1 h2 =>
    obtain rfl := r
    exact pyReprObj_of_reads rd t.sh (PyData.noDict_hsm (PyV.noDict (.tup h1 h2))) quiet un (fun _ _ e => e) out t.size
  | lst h1 h2 =>
    obtain rfl := r
    exact pyReprObj_of_reads rd t.sh (PyData.noDict_hsm (PyV.noDict (.lst h1 h2))) quiet un (fun _ _ e => e) out t.size
/-- repr(x) -/
theorem call_reprG (quiet : X.A.guards = some []) (room : Room j X.A) : CallR X (.builtin "repr") (fun xs H Q => ∃ x d, xs = [x] ∧ PyV H x d ∧ Tells d ∧ Q (.str d.shown) H) := by
  intro pins s σ H xs us Q I rel h
  obtain ⟨x, d, rfl, p, t, q⟩ := h
  match us, rel with
  | [u], .cons r .nil =>
    have out : ∀ (h2 : Heap) (k tk : Nat), (∀ b o, s.heap.get? b = some o → h2.get? b = some o) → EP X pins σ Q (.str d.shown k) { s with heap := h2, toks := tk } := fun h2 k tk kp => ⟨.str d.shown, H, I.kept kp, ⟨k, rfl⟩, q⟩
    have dp := t.dp
    have ru := room.units
    have un : X.A.units + (d.depth + 1) < cLine := by omega
    obtain ⟨as, rd⟩ := p.reads I.hok r
    cases p with
    | non =>
      obtain rfl : u = Value.none := r
      rw [shown_none] at out
      exact PySem.P.repr_of_none (out _ _ _ fun _ _ e => e)
    | bl b =>
      exact call_reprB pins s σ H _ _ Q I (.cons r .nil) ⟨b, rfl, by
        have e : (PyData.bool b).shown = if b = true then "True" else "False" := by cases b <;> simp [PyData.shown]
        rw [e] at q
        cases b <;> exact q⟩
    | int i =>
      have e : (PyData.int i).shown = toString i := by simp only [PyData.shown]
      have hz : i.natAbs.log2 < 1920 := by simpa [PyData.showable] using t.sh
      rw [e] at q
      exact call_reprV pins s σ H _ _ Q I (.cons r .nil) (.inr ⟨i, rfl, hz, q⟩)
    | str z =>
      have sz := t.size
      rw [shown_str] at q sz
      exact call_reprV pins s σ H _ _ Q I (.cons r .nil) (.inl ⟨z, rfl, sz, q⟩)
    | tup h1 h2 =>
      obtain rfl := r
      exact repr_of_reads' rd t.sh (PyData.noDict_hsm (PyV.noDict (.tup h1 h2))) quiet un (fun _ _ e => e) out t.size
    | lst h1 h2 =>
      obtain rfl := r
      exact repr_of_reads' rd t.sh (PyData.noDict_hsm (PyV.noDict (.lst h1 h2))) quiet un (fun _ _ e => e) out t.size
/-- {x!r} of a datum -/
def tFmtG (te : TE) : TE := fun σ H Q => te σ H fun x H1 => ∃ d, PyV H1 x d ∧ Tells d ∧ Q (.str d.shown) H1
theorem pe_fmtG {e : Expr} {te : TE} {pos : Pos} (quiet : X.A.guards = some []) (room : Room j X.A) (he : PE X e te) : PE X (.FormattedValue e 114 none pos) (tFmtG te) := by
  refine ⟨fun pins s σ H Q I h => wpAny_FormattedValue_repr (thn (he.run pins s σ H _ I h) fun v s1 hv => ?_)⟩
  obtain ⟨x, H1, J, rel, d, p, t, q⟩ := hv
  refine thn (repr_any (Q := fun y H2 => y = .str d.shown ∧ H2 = H1) quiet room.units J rel p t ⟨rfl, rfl⟩) fun u s2 z => ?_
  obtain ⟨y, H2, J2, r2, ey, eH⟩ := z
  subst ey
  subst eH
  obtain ⟨k, rfl⟩ := r2
  exact wpAny_formatField_str ⟨.str d.shown, _, J2, ⟨_, rfl⟩, q⟩ ⟨.str d.shown, _, J2.tok _, ⟨_, rfl⟩, q⟩ t.size
end
end L2

set_option Elab.async false
set_option linter.all false
set_option maxRecDepth 100000
set_option maxHeartbeats 4000000
/-! Where no repr is under way: calls of defs, own errors made, lambdas called. -/
namespace L2
open PySem PySem.Spec PyProof.Rows
/-- no repr is under way -/
abbrev Quiet (A : Around) : Prop := A.guards = some []
/-- what a def promises where no repr is under way -/
structure FnG (P : Program) (w : World) (K : PySem.W.Frag) (mg : Str → Option Value) (base : Heap) (C : CXT) (k : Nat) (f : Addr) (fd : FuncData) (ps : List Str) (sp : Sp) : Prop where
  count : ∀ (xs : List V) (H : Hp) (Q : VK) (E : XK), sp xs H Q E → xs.length = ps.length
  runs : ∀ (A : Around) (outer : List Env) (s : Shared) (H : Hp) (args : Args) (us : List Value) (xs : List V) (Q : VK) (E : XK), Quiet A → Room k A → Env0 P w K mg base A outer s H → BindsTo s fd args (ps.zip us) → Vals xs us → sp xs H Q E →
    codeAny (model P w) A (.call (.ref f) args) (CR C outer P w H s Q E) s
section
variable {P : Program} {w : World} {K : PySem.W.Frag} {mg : Str → Option Value} {base : Heap} {C : CXT} {k j : Nat} {f : Addr} {fd : FuncData} {ps : List Str} {sp : Sp}
theorem FnOk.quiet (F : FnOk P w K mg base C k f fd ps sp) : FnG P w K mg base C k f fd ps sp := ⟨fun xs H Q E h => F.len xs H Q E h, fun A outer s H args us xs Q E _ r e b v h => F.run A outer s H args us xs Q E r e b v h⟩
theorem FnG.more (F : FnG P w K mg base C j f fd ps sp) (h : j ≤ k) : FnG P w K mg base C k f fd ps sp := ⟨F.count, fun A outer s H args us xs Q E g r => F.runs A outer s H args us xs Q E g (r.mono h)⟩
/-- two promises of one def -/
theorem FnG.both {sp2 : Sp} (F1 : FnG P w K mg base C k f fd ps sp) (F2 : FnG P w K mg base C k f fd ps sp2) : FnG P w K mg base C k f fd ps (fun xs H Q E => sp xs H Q E ∨ sp2 xs H Q E) := by
  refine ⟨fun xs H Q E h => h.elim (F1.count _ _ _ _) (F2.count _ _ _ _), fun A outer s H args us xs Q E g r e b v h => ?_⟩
  rcases h with h | h
  · exact F1.runs A outer s H args us xs Q E g r e b v h
  · exact F2.runs A outer s H args us xs Q E g r e b v h
/-- a def by its body -/
theorem Fun.okG {x qual : Str} {st : Stmt} {N : List Str} (F : Fun K x qual st f fd) (S : FnScope N ps (defScope st)) (count : ∀ (xs : List V) (H : Hp) (Q : VK) (E : XK), sp xs H Q E → xs.length = ps.length)
    (body : ∀ (cdv : Value) (A : Around) (outer : List Env) (s : Shared) (H : Hp) (xs : List V) (Q : VK) (E : XK), Quiet A → Room k (A.deeper (envOfC qual (defScope st) s.heap.objs.size f cdv)) → sp xs H Q E →
      ∃ t, PSs (cxOf CX0 P w K mg base N qual (defScope st) f cdv A outer s H E).nox (defBody st) t ∧ t { nx := fun _ H2 => Q .non H2, rt := Q } (start N xs) H) : FnG P w K mg base CX0 (k + 1) f fd ps sp := by
  obtain ⟨oc, od, kV, doc, pm, an, cdv, ct, osl, e, look, ci⟩ := F.ex
  subst e
  refine ⟨count, fun A outer s H args us xs Q E g r e0 b v h => LamX.run_ofS look ci S r e0 b v (count _ _ _ _ h) fun r2 => ?_⟩
  obtain ⟨t, h1, h2⟩ := body cdv A outer s H xs Q E g r2 h
  exact ⟨t, h1.nox, h2⟩
theorem Fun.okXG {x qual : Str} {st : Stmt} {N : List Str} (F : Fun K x qual st f fd) (S : FnScope N ps (defScope st)) (count : ∀ (xs : List V) (H : Hp) (Q : VK) (E : XK), sp xs H Q E → xs.length = ps.length)
    (body : ∀ (cdv : Value) (A : Around) (outer : List Env) (s : Shared) (H : Hp) (xs : List V) (Q : VK) (E : XK), Quiet A → Room k (A.deeper (envOfC qual (defScope st) s.heap.objs.size f cdv)) → sp xs H Q E →
      ∃ t, PSs (cxOf (L2.CX P w) P w K mg base N qual (defScope st) f cdv A outer s H E) (defBody st) t ∧ t { nx := fun _ H2 => Q .non H2, rt := Q } (start N xs) H) : FnG P w K mg base (L2.CX P w) (k + 1) f fd ps sp := by
  obtain ⟨oc, od, kV, doc, pm, an, cdv, ct, osl, e, look, ci⟩ := F.ex
  subst e
  exact ⟨count, fun A outer s H args us xs Q E g r e0 b v h => LamX.run_ofS look ci S r e0 b v (count _ _ _ _ h) fun r2 => body cdv A outer s H xs Q E g r2 h⟩
end
section
variable {X : Cx} {C : CXT} {k j : Nat} {f : Addr} {fd : FuncData} {ps : List Str} {sp : Sp} {dvs : List V} {ds : List Value} {E : XK} {x : Str} {p pos pos2 : Pos} {e : Expr} {es : List Expr} {t ta : TA} {W : WX}
/-- the def runs -/
theorem runG {pins : List (Addr × Obj)} {σ : St} {H : Hp} {s : Shared} {Q : VK} {us : List Value} {xs : List V} (F : FnG X.prog X.w X.K X.mg X.base C k f fd ps sp) (g : Quiet X.A) (r : Room k X.A) (b : Binds X.K fd ps ds) (d : Vals dvs ds) (out : Passes C X E)
    (I : Inv X pins σ H s) (v : Vals xs us) (h : sp (xs ++ dvs) H Q E) : wpAny (model X.prog X.w) X.A (call (.ref f) us) (EP X pins σ Q) X.xe s := by
  have v2 := v.append d
  have n : (us ++ ds).length = ps.length := by
    rw [← v2.length]
    exact F.count _ _ _ _ h
  have ran := F.runs X.A X.stack s H ⟨us, []⟩ (us ++ ds) (xs ++ dvs) Q E g r I.env0 (b s us I.kIn n) v2 h
  refine wpAny_call (codeAny_mono ran fun a s2 z => ?_)
  match a, z with
  | .error er, z => exact out pins σ H s er s2 I z
  | .ok (.ret u), z => exact I.after z
  | .ok .next, z => exact z.elim
  | .ok .brk, z => exact z.elim
  | .ok .cont, z => exact z.elim
/-- a def of the text, by its name, where no repr is under way -/
structure DfG (P : Program) (w : World) (K : PySem.W.Frag) (mg : Str → Option Value) (base : Heap) (C : CXT) (k : Nat) (x : Str) (sp : Sp) : Prop where
  ex : ∃ (f : Addr) (fd : FuncData) (ps : List Str), FnG P w K mg base C k f fd ps sp ∧ mg x = some (.ref f) ∧ PySem.W.keepIn K (.ref f) = true ∧ Binds K fd ps []
theorem pe_cG (c : DfG X.prog X.w X.K X.mg X.base C k x sp) (g : Quiet X.A) (out : Passes C X E) (r : Room j X.A) (hk : k ≤ j) (hg : Gl X x) (ha : PA X (e :: es) t)
    (hdb : (x == ("__debug__" : Str)) = false := by decide) (he : starEach (e :: es) X.env = (false, eval e X.env) :: starEach es X.env := by rfl) (hpl : (backTo pos (starEach es X.env)).any (·.1) = false := by rfl) :
    PE X (.Call (.Name x p) (e :: es) [] pos) (tCall sp [] E t) := by
  obtain ⟨f, fd, ps, F, hm, kp, b⟩ := c.ex
  refine ⟨fun pins s σ H Q I h => ?_⟩
  refine wpAny_Call_Name_kw (ld_glob I hg hm ?_ hdb)
  refine PySem.W.callWith_K (h₀ := X.base) I.ok.mod.kin kp (thn (ha.run pos pins s σ H _ I h) fun us s1 z => ?_) he hpl
  obtain ⟨xs, H1, J, v, q⟩ := z
  exact ⟨J.kIn, runG F g (r.mono hk) b .nil out J v q⟩
/-- an expression that makes an error whose record has its six fields -/
def PMk6 (X : Cx) (e : Expr) (t : St → Hp → XK → Prop) : Prop :=
  ∀ (pins : List (Addr × Obj)) (s : Shared) (σ : St) (H : Hp) (Q : XK), Inv X pins σ H s → t σ H Q → wpAny (model X.prog X.w) X.A (eval e X.env) (fun u s2 => MkP X pins σ Q u s2 ∧ ∀ (a : Addr) (oe : Obj) (vs : Array Value), u = .ref a → s2.heap.get? a = some oe → oe.data = .fields vs → 4 < vs.size) X.xe s
theorem PMk6.pmk {X : Cx} {e : Expr} {t : St → Hp → XK → Prop} (h : PMk6 X e t) : PMk X e t := fun pins s σ H Q I q => thn (h pins s σ H Q I q) fun _ _ z => z.1
theorem under_quiet {A : Around} {Cl : Addr} {us : List Value} {kw : List (Str × Value)} (g : Quiet A) : Quiet (A.under (.builtin "type.__call__" ⟨.ref Cl :: us, kw⟩)) := by
  have e : A.guards = some [] := g
  show (A.under (.builtin "type.__call__" ⟨.ref Cl :: us, kw⟩)).guards = some []
  simp [Around.under, e, Code.guards, Code.isGuard, pushGuards, guardIds]
/-- an own error, made -/
theorem pmk_oexG {Cl fI : Addr} (T : OexC X.K Cl) (iC : PySem.W.findIn X.K (.ref Cl) "__init__" = some (some (.ref fI))) (tI : PySem.W.typeIn X.K (.ref fI) = some (.type "function"))
    (Fn : FnG X.prog X.w X.K X.mg X.base C k fI fd ps sp) (g : Quiet X.A) (r : Room (k + 1) X.A) (b : Binds X.K fd ps []) (none_out : Passes C X (fun _ _ _ => False)) (hg : Gl X x) (hm : X.mg x = some (.ref Cl)) (ha : PA X (e :: es) ta)
    (hdb : (x == ("__debug__" : Str)) = false := by decide) (he : starEach (e :: es) X.env = (false, eval e X.env) :: starEach es X.env := by rfl) (hpl : (backTo pos (starEach es X.env)).any (·.1) = false := by rfl) :
    PMk6 X (.Call (.Name x p) (e :: es) [] pos) (tMkO Cl sp [] ta) := by
  intro pins s σ H Q I h
  obtain ⟨nm, qn, NN, bs, bm, sn, sub, ab, col, dd, k0, k1, k2, k3, k5, isC, isB⟩ := T.cls
  refine wpAny_Call_Name_kw (ld_glob I hg hm ?_ hdb)
  refine PySem.W.callWith_K (h₀ := X.base) I.ok.mod.kin T.kC (thn (ha.run pos pins s σ H _ I h) fun us s1 z => ?_) he hpl
  obtain ⟨xs, H1, J, v, small, q⟩ := z
  refine ⟨J.kIn, ?_⟩
  obtain ⟨hp, gn, dr, tk, os⟩ := s1
  -- the tuple of the arguments, then the error
  have up : hp.objs.size ≤ hp.objs.size + 1 := Nat.le_succ _
  have new : H1 (hp.objs.size + 1) = none := J.hok.fresh up
  have q2 := q _ new
  generalize hG : (hp.push (PySem.W.kdv_tup us)).push (PySem.HandSPX.excO Cl hp.objs.size) = G
  have keep : ∀ c o, hp.get? c = some o → G.get? c = some o := fun c o z => by
    rw [← hG]
    exact Heap.get?_push_of_some _ (Heap.get?_push_of_some _ z)
  have here : G.get? (hp.objs.size + 1) = some (PySem.HandSPX.excO Cl hp.objs.size) := by
    rw [← hG]
    heap_get
  have J2 : Inv X pins σ (upd H1 (hp.objs.size + 1) (exo (hp.objs.size + 1) Cl none)) ⟨G, gn, dr, tk, os⟩ := J.laid (t' := tk) keep up (exo_ok here)
  have v2 : Vals (V.ref (hp.objs.size + 1) :: (xs ++ [])) (Value.ref (hp.objs.size + 1) :: (us ++ [])) := .cons rfl (v.append .nil)
  have n2 : (Value.ref (hp.objs.size + 1) :: us ++ []).length = ps.length := by
    have z := v2.length
    rw [Fn.count _ _ _ _ q2] at z
    exact z.symm
  have short : us.length ≤ sizeLine := by
    have z := v.length
    rw [← z, sizeLine_eq]
    omega
  have bb : BindsTo ⟨G, gn, dr, tk, os⟩ fd ⟨Value.ref (hp.objs.size + 1) :: us, []⟩ (ps.zip (Value.ref (hp.objs.size + 1) :: (us ++ []))) := by
    have z := b ⟨G, gn, dr, tk, os⟩ (Value.ref (hp.objs.size + 1) :: us) J2.kIn n2
    rw [List.cons_append] at z
    exact z
  have ran := Fn.runs _ X.stack _ _ ⟨Value.ref (hp.objs.size + 1) :: us, []⟩ (Value.ref (hp.objs.size + 1) :: (us ++ [])) _ _ (fun _ _ _ => False) (under_quiet g) (r.make Cl us []) (J2.env0.make Cl us []) bb v2 q2
  have isC2 := J.kIn _ _ isC
  subst hG
  refine wpAny_call (PySem.HandSPX.call_own PySem.F.excBase_ValueError (fun Y => PySem.HandSPX.refsVE_contains Y bm isB) isC2 (PySem.W.looks_findIn J.kIn iC) (fun self => PySem.W.bind_fn J.kIn self tI) short (codeAny_mono ran fun a s2 z => ?_))
  match a, z with
  | .error er, z => exact none_out pins σ _ _ er s2 J2 z
  | .ok .next, z => exact z.elim
  | .ok .brk, z => exact z.elim
  | .ok .cont, z => exact z.elim
  | .ok (.ret u), z =>
    obtain ⟨y, H2, os2, bare2, un2, hok2, rv, ey, d, fs, ea, ed, nd, q3⟩ := z
    subst ey
    obtain ⟨h2, g2, d2, t2, os3⟩ := s2
    have six : ∀ (y : Addr) (oe : Obj) (ws : Array Value), Value.ref (hp.objs.size + 1) = .ref y → h2.get? y = some oe → oe.data = .fields ws → 4 < ws.size := fun y oe ws e1 e2 e3 => by
      cases e1
      obtain ⟨t0, e4⟩ := exo_at hok2 ea
      rw [e4] at e2
      cases e2
      cases e3
      show (4 : Nat) < 6
      decide
    exact ⟨rv, mk_end (raises_own T.exC T.tyC) J up keep un2 hok2 os2 bare2 ea ed nd q3, six⟩
end
end L2

set_option Elab.async false
set_option linter.all false
set_option maxRecDepth 100000
set_option maxHeartbeats 4000000
/-! raise X(..) from Y(..), where nothing is being handled. -/
namespace L2
open PySem PySem.Spec PyProof.Rows
/-- the object of an error of which another one is the cause -/
def withCause (b : Addr) (o : Obj) : Obj := (o.mapFields (·.setIfInBounds 3 (.ref b))).mapFields (·.setIfInBounds 4 (.bool true))
/-- the heap in which the error at a has the one at b as its cause -/
def caused (h : Heap) (a b : Addr) : Heap := (h.update a (Obj.mapFields (·.setIfInBounds 3 (.ref b)))).update a (Obj.mapFields (·.setIfInBounds 4 (.bool true)))
theorem set_get {vs : Array Value} {i j : Nat} {x y : Value} (ne : i ≠ j) (h : vs[j]? = some y) : (vs.setIfInBounds i x)[j]? = some y := by
  first
  | (rw [Array.getElem?_setIfInBounds_ne ne]; exact h)
  | (simp [Array.getElem?_setIfInBounds, ne, h])
theorem caused_at {h : Heap} {a b : Addr} {oe : Obj} {vs : Array Value} (e : h.get? a = some oe) (d : oe.data = .fields vs) :
    (caused h a b).get? a = some (withCause b oe) ∧ (withCause b oe).data = .fields ((vs.setIfInBounds 3 (.ref b)).setIfInBounds 4 (.bool true)) := by
  have d3 := Obj.data_mapFields d (·.setIfInBounds 3 (.ref b))
  have e3 := Heap.get?_update_self (Obj.mapFields (·.setIfInBounds 3 (.ref b))) e (Obj.isFreed_of_fields d3)
  have d4 := Obj.data_mapFields d3 (·.setIfInBounds 4 (.bool true))
  exact ⟨Heap.get?_update_self (Obj.mapFields (·.setIfInBounds 4 (.bool true))) e3 (Obj.isFreed_of_fields d4), d4⟩
theorem caused_ne {h : Heap} {a b c : Addr} (ne : a ≠ c) : (caused h a b).get? c = h.get? c := by
  unfold caused
  rw [Heap.get?_update_other _ _ ne, Heap.get?_update_other _ _ ne]
theorem raise_from {P : Program} {w : World} {A : Around} {E : Value → Shared → Prop} {env : Env} {s : Shared} {x c : Sem Value} {Q : Flow → Shared → Prop} (calm : A.handled = none)
    (h : wpAny (model P w) A x (fun v s1 => ∃ a, v = .ref a ∧ wpAny (model P w) A c (fun u s2 => ∃ b oe ob vs ws cls cb, u = .ref b ∧ s2.heap.get? a = some oe ∧ oe.cls = cls ∧ oe.data = .fields vs ∧ vs[1]? = some .none ∧ 4 < vs.size ∧
      s2.heap.get? b = some ob ∧ ob.cls = cb ∧ ob.data = .fields ws ∧ PySem.W.Looks (model P w) s2.heap (isSubtype cls (.type "BaseException")) true ∧ PySem.W.Looks (model P w) s2.heap (isSubtype cb (.type "BaseException")) true ∧
      PySem.W.Looks (model P w) (caused s2.heap a b) (typeOf cls) (.type "type") ∧ E (.ref a) { s2 with heap := caused s2.heap a b }) E s1) E s) :
    wpAny (model P w) A (raiseStmt env (some x) (some c)) Q E s := by
  unfold raiseStmt
  dsimp only
  refine wpAny_bind (wpAny_mono h (fun v s1 z => ?_) fun _ _ y => y)
  obtain ⟨a, rfl, z⟩ := z
  refine wpAny_bind (wpAny_holding (wpAny_mono z (fun u s2 y => ?_) fun _ _ y => y))
  obtain ⟨b, oe, ob, vs, ws, cls, cb, rfl, ea, hcls, da, h1, big, eb, hcb, db, sub, subB, ty, out⟩ := y
  have type_a : PySem.W.Looks (model P w) s2.heap (typeOf (.ref a)) cls := fun A Q E s k q => wpAny_typeOf_ref (k _ _ ea) (by rw [hcls]; exact q)
  have type_b : PySem.W.Looks (model P w) s2.heap (typeOf (.ref b)) cb := fun A Q E s k q => wpAny_typeOf_ref (k _ _ eb) (by rw [hcb]; exact q)
  have inst_a : PySem.W.Looks (model P w) s2.heap (isInstance (.ref a) (.type "BaseException")) true := type_a.andThen sub
  have inst_b : PySem.W.Looks (model P w) s2.heap (isInstance (.ref b) (.type "BaseException")) true := type_b.andThen subB
  have no_type : ∀ {y : Addr} {oy : Obj} {us : Array Value} {s' : Shared} {R : Bool → Shared → Prop}, s'.heap.get? y = some oy → oy.data = .fields us → R false s' → wpAny (model P w) A (isType (.ref y)) R E s' := fun {y oy us s' R} e d q => by
    simp only [isType, loadHead]
    refine wpAny_bind (wpAny_loadPart e ?_)
    rw [d]
    exact wpAny_pure q
  have d3 := Obj.data_mapFields da (·.setIfInBounds 3 (.ref b))
  have e3 := Heap.get?_update_self (Obj.mapFields (·.setIfInBounds 3 (.ref b))) ea (Obj.isFreed_of_fields d3)
  obtain ⟨e4, d4⟩ := caused_at (b := b) ea da
  have n3 : 3 < vs.size := by omega
  have n4 : 4 < (vs.setIfInBounds 3 (Value.ref b)).size := by simpa using big
  have h4 : ((vs.setIfInBounds 3 (Value.ref b)).setIfInBounds 4 (Value.bool true))[1]? = some Value.none := set_get (by decide) (set_get (by decide) h1)
  have type4 : PySem.W.Looks (model P w) (caused s2.heap a b) (typeOf (.ref a)) cls := fun A Q E s k q => wpAny_typeOf_ref (k _ _ e4) (by
    have : (withCause b oe).cls = cls := by
      unfold withCause
      rw [Obj.cls_mapFields, Obj.cls_mapFields]
      exact hcls
    rw [this]
    exact q)
  have rest : wpAny (model P w) A (do
      let y ← isType (.ref a)
      if y = true then do
        let e ← holding [.ref a] (raisedFor (.ref a) (.ref a))
        setFlight e none
        raiseNew e
      else do
        let e ← raisedInstance (.ref a)
        setFlight e none
        raiseNew e : Sem Flow) Q E { s2 with heap := caused s2.heap a b } := by
    refine wpAny_bind (no_type e4 d4 ?_)
    simp only [Bool.false_eq_true, if_false]
    unfold raisedInstance
    refine wpAny_bind (wpAny_bind (type4.here (wpAny_bind (ty.here ?_))))
    rw [if_pos (beq_self_eq_true _)]
    refine wpAny_pure ?_
    unfold setFlight raiseNew
    refine wpAny_bind (wpAny_bind (wpAny_field e4 d4 h4 ?_))
    rw [if_neg (by decide)]
    refine wpAny_pure (wpAny_bind (wpAny_handled ?_))
    rw [calm]
    first
      | exact wpAny_throw out
      | exact wpAny_bind (wpAny_pure (wpAny_throw out))
  refine wpAny_bind (wpAny_pure ?_)
  dsimp only
  have told : ∀ {y : Addr} {oy : Obj} {us : Array Value} {m : String} {R : Value → Shared → Prop}, s2.heap.get? y = some oy → oy.data = .fields us → PySem.W.Looks (model P w) s2.heap (isInstance (.ref y) (.type "BaseException")) true → R (.ref y) s2 →
      wpAny (model P w) A (excFromValue (.ref y) m) R E s2 := fun {y oy us m R} e d i q => by
    unfold excFromValue isExcClass
    refine wpAny_bind (wpAny_bind (no_type e d ?_))
    simp only [Bool.false_eq_true, if_false]
    refine wpAny_pure ?_
    simp only [Bool.false_eq_true, if_false]
    refine wpAny_bind (i.here ?_)
    simp only [if_true]
    exact wpAny_pure q
  refine wpAny_bind (wpAny_holding (told ea da inst_a ?_))
  rw [if_neg (show ¬ (Value.ref b == Value.none) = true from fun z => nomatch z)]
  refine wpAny_bind (wpAny_holding (told eb db inst_b ?_))
  refine wpAny_bind (wpAny_setField ea da n3 (wpAny_bind (wpAny_setField e3 d3 n4 ?_)))
  exact rest
end L2

set_option Elab.async false
set_option linter.all false
set_option maxRecDepth 100000
set_option maxHeartbeats 4000000
/-! raise X(..) from Y(..): the rule. -/
namespace L2
open PySem PySem.Spec PyProof.Rows
section
variable {X : Cx} {pins : List (Addr × Obj)} {σ : St} {H : Hp} {s : Shared}
/-- the same, where only what is not the heap's has changed, and more is there -/
theorem Inv.grown {s2 : Shared} (I : Inv X pins σ H s) (k : ∀ b o, s.heap.get? b = some o → s2.heap.get? b = some o) (os : s2.os = s.os) (bare : AllBare s2.gens) : Inv X pins σ H s2 := by
  obtain ⟨h2, g2, d2, t2, o2⟩ := s2
  have J := I.kept (h' := h2) (t' := t2) k
  exact ⟨J.ok, by show o2 = _; exact Eq.trans os I.os, bare, J.base, J.loc, J.cell, J.free, J.freeC, J.pin, J.hok, J.len⟩
/-- one more object that is held fast -/
theorem Inv.hold {a : Addr} {o : Obj} (I : Inv X pins σ H s) (e : s.heap.get? a = some o) (n : H a = none) (l : a ≠ X.env.locals) (f : a ∉ X.fs) (c : ∀ v, o.data ≠ .cell v) : Inv X ((a, o) :: pins) σ H s := by
  refine ⟨I.ok, I.os, I.bare, I.base, I.loc, I.cell, I.free, I.freeC, fun p hp => ?_, I.hok, I.len⟩
  rcases List.mem_append.mp hp with h | h
  · exact I.pin p (List.mem_append_left _ h)
  · rcases List.mem_cons.mp h with h | h
    · rw [h]
      exact ⟨e, n, l, f, c⟩
    · exact I.pin p (List.mem_append_right _ h)
/-- without an object that is not tracked, nor a frame's nor a cell -/
theorem Inv.less {a : Addr} {o : Obj} {G : Heap} (I : Inv X ((a, o) :: pins) σ H s) (new : X.s_0.heap.get? a = none) (c : ∀ v, o.data ≠ .cell v) (away : ∀ p ∈ X.pn ++ pins, p.1 ≠ a) (gk : ∀ b, b ≠ a → G.get? b = s.heap.get? b) : Inv X pins σ H { s with heap := G } := by
  obtain ⟨ea, na, la, fa, _⟩ := I.pin (a, o) (List.mem_append_right _ (List.mem_cons_self ..))
  have old : ∀ {b : Addr} {u : Obj}, X.s_0.heap.get? b = some u → b ≠ a := fun {b u} e z => by
    rw [z, new] at e
    cases e
  have look : ∀ {b : Addr} {v : Option Value}, s.heap.IsCell b v → G.IsCell b v := fun {b v} ⟨u, hu, hd⟩ => by
    refine ⟨u, ?_, hd⟩
    rw [gk b fun z => ?_]
    · exact hu
    · rw [z, ea] at hu
      cases hu
      exact c _ hd
  refine ⟨I.ok, I.os, I.bare, ?_, ?_, fun x b e => ?_, I.free, I.freeC, fun p hp => ?_, ?_, I.len⟩
  · refine { keep := fun b u e n h1 h2 => ?_, slot := fun b u e n h1 h2 => ?_, free := I.base.free, there := fun b u e h => ?_, tups := I.base.tups, frzs := I.base.frzs, tbls := I.base.tbls }
    · show G.get? b = _
      rw [gk b (old e)]
      exact I.base.keep b u e n h1 h2
    · show ∃ sl, G.get? b = _
      rw [gk b (old e)]
      exact I.base.slot b u e n h1 h2
    · show ∃ q, G.get? b = some q
      rw [gk b (old e)]
      exact I.base.there b u e h
  · obtain ⟨m, ⟨u, es, ep, e, d, r⟩, q⟩ := I.loc
    refine ⟨m, ⟨u, es, ep, ?_, d, r⟩, fun i x v h1 h2 h3 => ?_⟩
    · show G.get? _ = _
      rw [gk _ (Ne.symm la)]
      exact e
    · obtain ⟨w, rv, lk⟩ := q i x v h1 h2 h3
      refine ⟨w, rv, ?_⟩
      rcases lk with lk | ⟨k1, b, k2, k3⟩
      · exact .inl lk
      · exact .inr ⟨k1, b, k2, look k3⟩
  · obtain ⟨v, hv⟩ := I.cell x b e
    exact ⟨v, look hv⟩
  · obtain ⟨e, r⟩ := I.pin p (by
      rcases List.mem_append.mp hp with h | h
      · exact List.mem_append_left _ h
      · exact List.mem_append_right _ (List.mem_cons_of_mem _ h))
    refine ⟨?_, r⟩
    show G.get? _ = _
    rw [gk _ (away p hp)]
    exact e
  · intro b u e
    have nb : b ≠ a := fun z => by
      rw [z, na] at e
      cases e
    refine (I.hok b u e).stay (fun d v hd q => ?_) (fun d q => q) fun d xs q => q
    rw [gk d ?_]
    · exact q
    · rcases hd with z | z
      · rw [z]
        exact nb
      · exact fun y => by
          rw [y, na] at z
          cases z
end
section
variable {X : Cx} {C : Addr} {e c : Expr} {te tc : St → Hp → XK → Prop} {pos : Pos} {W : WX}
theorem ps_from (hex : X.ex = []) (hc : X.calm = true) (tk : Takes X W) (he : PMk6 X e te) (hcs : PMk X c tc) : PS X (.Raise (some e) (some c) pos) (fun _ σ H => te σ H fun cls d H1 => tc σ H1 fun _ _ H2 => W cls d σ H2) := by
  refine ⟨fun pins s σ H D I h => ?_⟩
  show wpAny _ _ (do standAt pos; raiseStmt X.env (some (do let v ← eval e X.env; standAt pos; pure v)) (some (do let v ← eval c X.env; standAt pos; pure v))) _ _ _
  refine wpAny_bind (wpAny_standAt (raise_from (I.ok.hd hc) (wpAny_bind (wpAny_mono (he pins s σ H _ I h) (fun u s1 hu => wpAny_bind (wpAny_standAt (wpAny_pure ?_))) fun _ _ x => x))))
  obtain ⟨⟨a, oe, vs, sI, H1, cls, d, rfl, J, k, gone, ea, za, da, first, na, os, bare, r, q⟩, six⟩ := hu
  have big := six a oe vs rfl ea da
  have nocell : ∀ v, oe.data ≠ .cell v := fun v z => by
    rw [da] at z
    cases z
  have other : ∀ {b : Addr} {o : Obj}, sI.heap.get? b = some o → b ≠ a := fun {b o} e z => by
    rw [z, gone] at e
    cases e
  have new : X.s_0.heap.get? a = none := by
    cases z : X.s_0.heap.get? a with
    | none => rfl
    | some o =>
      obtain ⟨o2, e2⟩ := J.base.there a o z (by rw [hex]; exact List.not_mem_nil)
      exact absurd rfl (other e2)
  have aloc : a ≠ X.env.locals := fun z => by
    obtain ⟨m, ⟨u, es, ep, e1, _⟩, _⟩ := J.loc
    exact other e1 z.symm
  have afs : a ∉ X.fs := fun z => by
    obtain ⟨_, o, ho, _⟩ := J.ok.funs.mem z
    rw [new] at ho
    cases ho
  have J2 := (J.grown k os bare).hold ea na aloc afs nocell
  refine ⟨a, rfl, wpAny_bind (wpAny_mono (hcs _ s1 σ H1 _ J2 q) (fun u s2 hu => wpAny_bind (wpAny_standAt (wpAny_pure ?_))) fun _ _ x => x)⟩
  obtain ⟨b, ob, ws, sI2, H2, cls2, d2, rfl, J3, k2, gone2, eb, zb, db, first2, nb, os2, bare2, r2, q2⟩ := hu
  obtain ⟨ea2, na2, _⟩ := J3.pin (a, oe) (List.mem_append_right _ (List.mem_cons_self ..))
  have ea3 := k2 _ _ ea2
  have kin2 := J3.kIn.keeps k2
  have inK : ∀ {y : Addr} {o : Obj}, X.K.lookup y = some o → y ≠ a := fun {y o} e => other (J.kIn _ _ e)
  obtain ⟨c1, c2⟩ := caused_at (b := b) ea3 da
  have kin3 : X.K.In (caused s2.heap a b) := fun y o e => by
    rw [caused_ne (Ne.symm (inK e))]
    exact kin2 _ _ e
  obtain ⟨l1, _⟩ := r (model X.prog X.w) s2.heap kin2
  obtain ⟨_, l3⟩ := r (model X.prog X.w) (caused s2.heap a b) kin3
  obtain ⟨l2, _⟩ := r2 (model X.prog X.w) s2.heap kin2
  obtain ⟨G, g1, g2⟩ := restrict sI2.heap fun y => decide (y ≠ a)
  have gk : ∀ y, y ≠ a → G.get? y = sI2.heap.get? y := fun y hy => g1 y (decide_eq_true hy)
  have ga : G.get? a = none := g2 a (by simp)
  have J4 := J3.less (G := G) new nocell (fun p hp => other (J.pin p hp).1) gk
  refine ⟨b, oe, ob, vs, ws, cls, cls2, rfl, ea3, za.1, da, first, big, eb, zb.1, db, l1, l2, l3, tk _ _ ?_⟩
  refine XE.new (s' := { s2 with heap := caused s2.heap a b }) J4 (fun y o e => ?_) ga c1 ?_ c2 ?_ na2 os2 bare2 q2
  · have ne : y ≠ a := fun z => by
      rw [z] at e
      rw [show G.get? a = some o from e] at ga
      cases ga
    show (caused s2.heap a b).get? y = _
    rw [caused_ne (Ne.symm ne)]
    exact k2 _ _ ((gk y ne).symm.trans e)
  · unfold withCause
    exact Zc.steady _ _ (Zc.steady _ _ za)
  · exact set_get (by decide) (set_get (by decide) first)
end
end L2

set_option Elab.async false
set_option linter.all false
set_option maxRecDepth 100000
set_option maxHeartbeats 4000000
/-! Values with dicts among them, told by repr. -/
namespace L2
open PySem PySem.Spec PyProof.Rows
/-- a key as a datum -/
def keyD : Key → PyData
  | .inl i => .int i
  | .inr s => .str s
def zipD (ks : List Key) (ds : List PyData) : List (PyData × PyData) := (ks.map keyD).zip ds
mutual
inductive PyW (H : Hp) : V → PyData → Prop
  | non : PyW H .non .none
  | bl (b : Bool) : PyW H (.bl b) (.bool b)
  | int (i : Int) : PyW H (.int i) (.int i)
  | str (z : Str) : PyW H (.str z) (.str z)
  | tup {a : Addr} {xs : List V} {ds : List PyData} : H a = some (.tup xs) → PyWs H xs ds → PyW H (.ref a) (.tuple ds)
  | lst {a : Addr} {xs : List V} {ds : List PyData} : H a = some (.lst xs) → PyWs H xs ds → PyW H (.ref a) (.list ds)
  | dic {a : Addr} {kvs : List (Key × V)} {ds : List PyData} : H a = some (.dK kvs) → PyWs H (kvs.map (·.2)) ds → PyW H (.ref a) (.dict (zipD (kvs.map (·.1)) ds))
inductive PyWs (H : Hp) : List V → List PyData → Prop
  | nil : PyWs H [] []
  | cons {x : V} {d : PyData} {xs : List V} {ds : List PyData} : PyW H x d → PyWs H xs ds → PyWs H (x :: xs) (d :: ds)
end
mutual
theorem PyW.keep {H H2 : Hp} (s : ∀ b o, H b = some o → ((∃ xs, o = .tup xs) ∨ (∃ xs, o = .lst xs) ∨ ∃ xs, o = .dK xs) → H2 b = some o) : ∀ {x : V} {d : PyData}, PyW H x d → PyW H2 x d
  | _, _, .non => .non
  | _, _, .bl b => .bl b
  | _, _, .int i => .int i
  | _, _, .str z => .str z
  | _, _, .tup h r => .tup (s _ _ h (.inl ⟨_, rfl⟩)) (PyWs.keep s r)
  | _, _, .lst h r => .lst (s _ _ h (.inr (.inl ⟨_, rfl⟩))) (PyWs.keep s r)
  | _, _, .dic h r => .dic (s _ _ h (.inr (.inr ⟨_, rfl⟩))) (PyWs.keep s r)
theorem PyWs.keep {H H2 : Hp} (s : ∀ b o, H b = some o → ((∃ xs, o = .tup xs) ∨ (∃ xs, o = .lst xs) ∨ ∃ xs, o = .dK xs) → H2 b = some o) : ∀ {xs : List V} {ds : List PyData}, PyWs H xs ds → PyWs H2 xs ds
  | _, _, .nil => .nil
  | _, _, .cons h r => .cons (PyW.keep s h) (PyWs.keep s r)
end
theorem PyW.same {H H2 : Hp} (s : ∀ b o, H b = some o → H2 b = some o) {x : V} {d : PyData} (p : PyW H x d) : PyW H2 x d := p.keep fun b o e _ => s b o e
theorem PyWs.same {H H2 : Hp} (s : ∀ b o, H b = some o → H2 b = some o) {xs : List V} {ds : List PyData} (p : PyWs H xs ds) : PyWs H2 xs ds := p.keep fun b o e _ => s b o e
theorem PyW.but {H H2 : Hp} {a : Addr} {x : V} {d : PyData} {f : Heap → Prop} (p : PyW H x d) (s : ∀ b o, H b = some o → b ≠ a → H2 b = some o) (ha : H a = some (.ext f)) : PyW H2 x d :=
  p.keep fun b o e k => s b o e fun z => by
    rw [z, ha] at e
    cases e
    rcases k with ⟨xs, k⟩ | ⟨xs, k⟩ | ⟨xs, k⟩ <;> cases k
theorem PyWs.length {H : Hp} : ∀ {xs : List V} {ds : List PyData}, PyWs H xs ds → xs.length = ds.length
  | _, _, .nil => rfl
  | _, _, .cons _ r => by rw [List.length_cons, List.length_cons, PyWs.length r]
theorem PyWs.append {H : Hp} : ∀ {xs ys : List V} {ds es : List PyData}, PyWs H xs ds → PyWs H ys es → PyWs H (xs ++ ys) (ds ++ es)
  | _, _, _, _, .nil, q => q
  | _, _, _, _, .cons h r, q => .cons h (PyWs.append r q)
theorem zipD_fst : ∀ (ks : List Key) (ds : List PyData), ks.length = ds.length → (zipD ks ds).map (·.1) = ks.map keyD
  | [], _, _ => rfl
  | k :: ks, [], h => by cases h
  | k :: ks, d :: ds, h => by
    show keyD k :: (zipD ks ds).map (·.1) = keyD k :: ks.map keyD
    rw [zipD_fst ks ds (by simpa using h)]
theorem zipD_snd : ∀ (ks : List Key) (ds : List PyData), ks.length = ds.length → (zipD ks ds).map (·.2) = ds
  | [], [], _ => rfl
  | [], d :: ds, h => by cases h
  | k :: ks, [], h => by cases h
  | k :: ks, d :: ds, h => by
    show d :: (zipD ks ds).map (·.2) = d :: ds
    rw [zipD_snd ks ds (by simpa using h)]
/-- the keys of a dict read -/
theorem keys_read {P : Program} {w : World} {h : Heap} : ∀ {es : List DictEntry} {kvs : List (Key × V)} {vs : List (Key × Value)}, KV kvs vs → Pairs (mixKind P w) es vs →
    ReadsAll h (es.map (·.key)) ((kvs.map (·.1)).map keyD) [] ∧ Vals (kvs.map (·.2)) (es.map (·.val))
  | _, _, _, .nil, .nil => ⟨.nil, .nil⟩
  | e :: es, kv :: kvs, q :: vs, .cons r1 r2, .cons p1 p2 p3 => by
    obtain ⟨h1, h2⟩ := keys_read r2 p3
    obtain ⟨k, v⟩ := kv
    obtain ⟨k', v'⟩ := q
    obtain ⟨rk, rv⟩ := r1
    obtain rfl : k = k' := rk
    have rv' : RelV v v' := rv
    have e2 : e.val = v' := p2
    refine ⟨?_, ?_⟩
    · have one : Reads h e.key (keyD k) [] := by
        rcases keyIs_shape p1 with ⟨i, t, rfl, ek⟩ | ⟨x, t, rfl, ek⟩
        · rw [ek]
          exact .int i t
        · rw [ek]
          exact .str x t
      exact ReadsAll.cons one h1
    · show Vals (v :: kvs.map (·.2)) (e.val :: es.map (·.val))
      rw [e2]
      exact .cons rv' h2
mutual
theorem PyW.reads {P : Program} {w : World} {H : Hp} {h : Heap} (ok : HOk P w H h) (ns : H sysModules = none) : ∀ {x : V} {d : PyData} {u : Value}, PyW H x d → RelV x u → ∃ as, Reads h u d as ∧ sysModules ∉ as
  | _, _, u, .non, r => by
    obtain rfl : u = Value.none := r
    exact ⟨_, .none, List.not_mem_nil⟩
  | _, _, u, .bl b, r => by
    obtain rfl : u = Value.bool b := r
    exact ⟨_, .bool b, List.not_mem_nil⟩
  | _, _, u, .int i, r => by
    obtain ⟨t, rfl⟩ : ∃ t, u = Value.int i t := r
    exact ⟨_, .int i t, List.not_mem_nil⟩
  | _, _, u, .str z, r => by
    obtain ⟨t, rfl⟩ : ∃ t, u = Value.str z t := r
    exact ⟨_, .str z t, List.not_mem_nil⟩
  | _, _, u, .tup (a := a) h1 h2, r => by
    obtain rfl : u = Value.ref a := r
    obtain ⟨_, its, rel, o, e1, e2, n, e3⟩ := ok a _ h1
    obtain ⟨as, q, m⟩ := PyWs.reads ok ns h2 rel
    exact ⟨_, .tuple e1 e2 e3 q, m⟩
  | _, _, u, .lst (a := a) h1 h2, r => by
    obtain rfl : u = Value.ref a := r
    obtain ⟨_, its, n, rel, e1⟩ := ok a _ h1
    obtain ⟨as, q, m⟩ := PyWs.reads ok ns h2 rel
    exact ⟨_, .list e1 rfl rfl q, fun z => (List.mem_cons.mp z).elim (fun e => ne_of_none h1 ns e.symm) m⟩
  | _, _, u, .dic (a := a) (kvs := kvs) (ds := ds) h1 h2, r => by
    obtain rfl : u = Value.ref a := r
    obtain ⟨_, hs, vs, rel, o, es, ep, e1, ex, e2, _, pr, _⟩ := ok a _ h1
    obtain ⟨rk, rv⟩ := keys_read (h := h) rel pr
    obtain ⟨bs, q, m⟩ := PyWs.reads ok ns h2 rv
    have hl : (kvs.map (·.1)).length = ds.length := by
      have := PyWs.length h2
      rw [List.length_map] at this ⊢
      exact this
    refine ⟨_, .dict e1 ex.1 e2 (as := []) (bs := bs) (by rw [zipD_fst _ _ hl]; exact rk) (by rw [zipD_snd _ _ hl]; exact q), fun z => ?_⟩
    exact (List.mem_cons.mp (show sysModules ∈ a :: bs from z)).elim (fun e => ne_of_none h1 ns e.symm) m
theorem PyWs.reads {P : Program} {w : World} {H : Hp} {h : Heap} (ok : HOk P w H h) (ns : H sysModules = none) : ∀ {xs : List V} {ds : List PyData} {us : List Value}, PyWs H xs ds → Vals xs us → ∃ as, ReadsAll h us ds as ∧ sysModules ∉ as
  | _, _, _, .nil, r => by
    cases r
    exact ⟨_, .nil, List.not_mem_nil⟩
  | _, _, _, .cons h1 h2, r => by
    cases r with
    | cons r1 r2 =>
      obtain ⟨a1, q1, m1⟩ := PyW.reads ok ns h1 r1
      obtain ⟨a2, q2, m2⟩ := PyWs.reads ok ns h2 r2
      exact ⟨_, .cons q1 q2, fun z => (List.mem_append.mp z).elim m1 m2⟩
end
/-- sys.modules stands in the ground -/
def SysIn (base : Heap) : Prop := ∃ o, base.get? sysModules = some o
theorem SysIn.no {X : Cx} {pins : List (Addr × Obj)} {σ : St} {H : Hp} {s : Shared} (b : SysIn X.base) (I : Inv X pins σ H s) : H sysModules = none := by
  obtain ⟨o, e⟩ := b
  exact (I.bs _ _ e).2
/-- it is flat, or an object -/
theorem PyW.flat {H : Hp} {x : V} {d : PyData} (p : PyW H x d) : PyV H x d ∨ ∃ a, x = .ref a := by
  cases p with
  | non => exact .inl .non
  | bl b => exact .inl (.bl b)
  | int i => exact .inl (.int i)
  | str z => exact .inl (.str z)
  | tup h r => exact .inr ⟨_, rfl⟩
  | lst h r => exact .inr ⟨_, rfl⟩
  | dic h r => exact .inr ⟨_, rfl⟩
section
variable {X : Cx} {j : Nat}
theorem repr_anyW {pins : List (Addr × Obj)} {σ : St} {H : Hp} {s : Shared} {Q : VK} {x : V} {u : Value} {d : PyData} (sys : SysIn X.base) (quiet : X.A.guards = some []) (room : X.A.units + 64 < cLine) (I : Inv X pins σ H s) (r : RelV x u) (p : PyW H x d) (t : Tells d) (q : Q (.str d.shown) H) :
    wpAny (model X.prog X.w) X.A (pyReprObj u) (EP X pins σ Q) X.xe s := by
  rcases p.flat with f | ⟨a, rfl⟩
  · exact repr_any quiet room I r f t q
  · obtain rfl : u = Value.ref a := r
    obtain ⟨as, rd, no⟩ := p.reads I.hok (sys.no I) rfl
    have dp := t.dp
    exact pyReprObj_of_reads rd t.sh (fun _ => no) quiet (by omega) (fun _ _ e => e) (fun h2 k tk kp => ⟨.str d.shown, H, I.kept kp, ⟨k, rfl⟩, q⟩) t.size
/-- repr(x) -/
theorem call_reprW (sys : SysIn X.base) (quiet : X.A.guards = some []) (room : Room j X.A) : CallR X (.builtin "repr") (fun xs H Q => ∃ x d, xs = [x] ∧ PyW H x d ∧ Tells d ∧ Q (.str d.shown) H) := by
  intro pins s σ H xs us Q I rel h
  obtain ⟨x, d, rfl, p, t, q⟩ := h
  rcases p.flat with f | ⟨a, rfl⟩
  · exact call_reprG quiet room pins s σ H _ us Q I rel ⟨x, d, rfl, f, t, q⟩
  · match us, rel with
    | [u], .cons r .nil =>
      obtain rfl : u = Value.ref a := r
      obtain ⟨as, rd, no⟩ := p.reads I.hok (sys.no I) rfl
      have dp := t.dp
      have ru := room.units
      exact repr_of_reads' rd t.sh (fun _ => no) quiet (by omega) (fun _ _ e => e) (fun h2 k tk kp => ⟨.str d.shown, H, I.kept kp, ⟨k, rfl⟩, q⟩) t.size
/-- {x!r} of a datum -/
def tFmtW (te : TE) : TE := fun σ H Q => te σ H fun x H1 => ∃ d, PyW H1 x d ∧ Tells d ∧ Q (.str d.shown) H1
theorem pe_fmtW {e : Expr} {te : TE} {pos : Pos} (sys : SysIn X.base) (quiet : X.A.guards = some []) (room : Room j X.A) (he : PE X e te) : PE X (.FormattedValue e 114 none pos) (tFmtW te) := by
  refine ⟨fun pins s σ H Q I h => wpAny_FormattedValue_repr (thn (he.run pins s σ H _ I h) fun v s1 hv => ?_)⟩
  obtain ⟨x, H1, J, rel, d, p, t, q⟩ := hv
  refine thn (repr_anyW (Q := fun y H2 => y = .str d.shown ∧ H2 = H1) sys quiet room.units J rel p t ⟨rfl, rfl⟩) fun u s2 z => ?_
  obtain ⟨y, H2, J2, r2, ey, eH⟩ := z
  subst ey
  subst eH
  obtain ⟨k, rfl⟩ := r2
  exact wpAny_formatField_str ⟨.str d.shown, _, J2, ⟨_, rfl⟩, q⟩ ⟨.str d.shown, _, J2.tok _, ⟨_, rfl⟩, q⟩ t.size
end
end L2

set_option Elab.async false
set_option linter.all false
set_option maxRecDepth 100000
set_option maxHeartbeats 4000000
/-! The drawing of the law: the pen, a draw, a pick. -/
namespace V8
open PySem PySem.Spec PyProof.Rows L2
def topS (i : Nat) : Stmt := PySem.Challenge.pw_blindrepair_k04_tables_to_read_with.main.body.getD i (.Pass ⟨0, 0, 0, 0⟩)
abbrev s_pen : Stmt := topS 34
abbrev n_pen : List Str := ["_law_script"]
theorem sc_pen : FnScope ["_law_script"] ["_law_script"] (defScope s_pen) := ⟨rfl, rfl, rfl, by decide +kernel, rfl, by decide +kernel, by decide +kernel⟩
abbrev s_draw : Stmt := topS 35
abbrev n_draw : List Str := ["_law_pen_here", "_law_many", "_law_digit", "_law_at", "_law_cell", "_law_great", "_law_stirred"]
theorem sc_draw : FnScope ["_law_pen_here", "_law_many", "_law_digit", "_law_at", "_law_cell", "_law_great", "_law_stirred"] ["_law_pen_here", "_law_many"] (defScope s_draw) := ⟨rfl, rfl, rfl, by decide +kernel, rfl, by decide +kernel, by decide +kernel⟩
abbrev s_pick : Stmt := topS 36
abbrev n_pick : List Str := ["_law_pen_here", "_law_some"]
theorem sc_pick : FnScope ["_law_pen_here", "_law_some"] ["_law_pen_here", "_law_some"] (defScope s_pick) := ⟨rfl, rfl, rfl, by decide +kernel, rfl, by decide +kernel, by decide +kernel⟩

/-- all but the object at p stands as it stood -/
def Fr (p : Addr) (H H' : Hp) : Prop := ∀ b o, H b = some o → b ≠ p → H' b = some o
theorem Fr.refl {p : Addr} {H : Hp} : Fr p H H := fun _ _ h _ => h
theorem Fr.trans {p : Addr} {H H1 H2 : Hp} (a : Fr p H H1) (b : Fr p H1 H2) : Fr p H H2 := fun c o h n => b c o (a c o h n) n
theorem Fr.new {p q : Addr} {o : HO} {H : Hp} (h : H q = none) : Fr p H (upd H q o) := fun b u e _ => by
  rw [upd_ne (ne_of_none e h)]; exact e
theorem Fr.at {p : Addr} {o : HO} {H : Hp} : Fr p H (upd H p o) := fun b u e n => by
  rw [upd_ne n]; exact e
theorem Fr.none' {p q : Addr} {H H' : Hp} (a : Fr p H H') (hp : H' p ≠ none) (h : H' q = none) : H q = none := by
  cases e : H q with
  | none => rfl
  | some o =>
    by_cases hq : q = p
    · subst hq; exact absurd h hp
    · rw [a q o e hq] at h; cases h
/-- the pen at p, the script's ints at l, n draws are let -/
structure PenAt (H : Hp) (p l : Addr) (ns : List Int) (n : Nat) : Prop where
  here : ∃ (spot great : Int), H p = some (.lst [.ref l, .int spot, .int great]) ∧ 0 ≤ spot ∧ spot + n ≤ 1000000 ∧ 0 ≤ great
  nums : H l = some (.lst (ns.map V.int))
  ne : l ≠ p
  short : ns.length ≤ 63
theorem PenAt.less {H : Hp} {p l : Addr} {ns : List Int} {n m : Nat} (P : PenAt H p l ns n) (h : m ≤ n) : PenAt H p l ns m := by
  obtain ⟨⟨s, g, h1, h2, h3, h4⟩, i, e, sh⟩ := P
  exact ⟨⟨s, g, h1, h2, by omega, h4⟩, i, e, sh⟩
theorem PenAt.some' {H : Hp} {p l : Addr} {ns : List Int} {n : Nat} (P : PenAt H p l ns n) : H p ≠ none := by
  obtain ⟨⟨s, g, h1, _⟩, _⟩ := P
  rw [h1]; exact fun z => nomatch z
theorem PenAt.new {H : Hp} {p l q : Addr} {o : HO} {ns : List Int} {n : Nat} (P : PenAt H p l ns n) (h : H q = none) : PenAt (upd H q o) p l ns n := by
  obtain ⟨⟨s, g, h1, h2, h3, h4⟩, i, e, sh⟩ := P
  exact ⟨⟨s, g, by rw [upd_ne (ne_of_none h1 h)]; exact h1, h2, h3, h4⟩, by rw [upd_ne (ne_of_none i h)]; exact i, e, sh⟩
/-- another object is written -/
theorem PenAt.other {H : Hp} {p l q : Addr} {o : HO} {ns : List Int} {n : Nat} (P : PenAt H p l ns n) (h : q ≠ p) (h' : q ≠ l) : PenAt (upd H q o) p l ns n := by
  obtain ⟨⟨s, g, h1, h2, h3, h4⟩, i, e, sh⟩ := P
  exact ⟨⟨s, g, by rw [upd_ne (Ne.symm h)]; exact h1, h2, h3, h4⟩, by rw [upd_ne (Ne.symm h')]; exact i, e, sh⟩
def spDraw : Sp := fun vs H Q _ => ∃ (p l : Addr) (ns : List Int) (n : Nat) (many : Int), vs = [.ref p, .int many] ∧ PenAt H p l ns (n + 1) ∧ 0 < many ∧ many < 1000 ∧
  ∀ (v : Int) (H' : Hp), 0 ≤ v → v < many → PenAt H' p l ns n → Fr p H H' → Q (.int v) H'
section
variable {P : Program} {w : World} {K : PySem.W.Frag} {mg : Str → Option Value} {base : Heap}
theorem ints_at {ns : List Int} {i : Int} (h0 : 0 ≤ i) (h : i < ns.length) : ∃ z : Int, atI (ns.map V.int) i = some (.int z) := by
  obtain ⟨j, rfl⟩ : ∃ j : Nat, i = j := ⟨i.toNat, by omega⟩
  have hj : j < ns.length := by omega
  exact ⟨ns[j], atI_nat (by rw [List.getElem?_map, List.getElem?_eq_getElem hj]; rfl)⟩
def dInts (ns : List Int) : List PyData := ns.map PyData.int
theorem dp_ints {H : Hp} : ∀ ns : List Int, DpAll K H (ns.map V.int) (dInts ns)
  | [] => .nil
  | n :: ns => .cons (.int n) (dp_ints ns)
theorem lay_ints : ∀ ns : List Int, PyData.canLayAll0 (dInts ns) = true
  | [] => by simp [dInts, PyData.canLayAll0]
  | n :: ns => by
    have h := lay_ints ns
    simp only [dInts, List.map_cons, PyData.canLayAll0, PyData.canLay0, Bool.true_and]
    exact h
theorem depth_ints : ∀ ns : List Int, PyData.depthAll (dInts ns) = 0
  | [] => by simp [dInts, PyData.depthAll]
  | n :: ns => by
    have h := depth_ints ns
    simp only [dInts, List.map_cons, PyData.depthAll, PyData.depth]
    unfold dInts at h
    omega
theorem shaped_ints (ns : List Int) : SeqAt.shaped (.list (dInts ns)) = true := by
  have h2 : PyData.depth (.list (dInts ns)) ≤ 64 := by
    simp only [PyData.depth, depth_ints]
    omega
  show (PyData.canLay0 (.list (dInts ns)) && decide (PyData.depth (.list (dInts ns)) ≤ 64)) = true
  rw [Bool.and_eq_true]
  exact ⟨by simp only [PyData.canLay0]; exact lay_ints ns, decide_eq_true h2⟩
structure Blt (mg : Str → Option Value) : Prop where
  list : mg "list" = none
  int : mg "int" = none
  len : mg "len" = none
  abs : mg "abs" = none
  range : mg "range" = none
  dict : mg "dict" = none
  str : mg "str" = none
  sorted : mg "sorted" = none
  tuple : mg "tuple" = none
theorem pw2 {st spot : Int} (s0 : 0 ≤ st) (s1 : st < 2147483563) (h0 : 0 ≤ spot) (h1 : spot ≤ 1000000) : (st * (2 * spot + 139) + 43051 * spot * spot + 25).natAbs < 2 ^ 64 := by
  have a1 : st * (2 * spot + 139) ≤ 2147483647 * 2000999 := Int.mul_le_mul (by omega) (by omega) (by omega) (by omega)
  have a0 : 0 ≤ st * (2 * spot + 139) := Int.mul_nonneg s0 (by omega)
  have c1 : 43051 * spot * spot ≤ 99999000000 * 1000000 := Int.mul_le_mul (by omega) h1 h0 (by omega)
  have c0 : 0 ≤ 43051 * spot * spot := Int.mul_nonneg (by omega) h0
  omega
theorem ok_draw {f : Addr} {fd : FuncData} {k : Nat} (F : Fun K "_law_draw" "_law_draw" s_draw f fd) (T : Blt mg) : FnOk P w K mg base CX0 (k + 1) f fd ["_law_pen_here", "_law_many"] spDraw := by
  refine F.ok sc_draw (fun vs H Q E h => ?_) (fun cdv A outer s H vs Q E hr h => ?_)
  · obtain ⟨p, l, ns, n, many, rfl, _⟩ := h
    rfl
  · obtain ⟨p, l, ns, n, many, rfl, PA, m0, m1, q⟩ := h
    obtain ⟨⟨spot, great, hp, hs0, hsn, hg⟩, hl, hne, hsh⟩ := id PA
    refine ⟨_, (pss_cons (ps_if (pt_cmpR op_gt (pe_ix (ix_listK (K := K) rfl) (pv 0) pe_int (fun _ _ => rfl)) pe_int (nomark _))
        (pss_cons (ps_set (i := 2) sc_draw.nd rfl (.inl rfl) (pe_op op_mod (pe_callTy call_int1 (by rfl) T.int (by decide +kernel) (pa_cons (pe_ix (ix_listK (K := K) rfl) (pv 0) pe_int (fun _ _ => rfl)) pa_nil)) (pv 1)))
        (pss_cons (ps_asg (pe_op op_fdiv (pe_callTy call_int1 (by rfl) T.int (by decide +kernel) (pa_cons (pe_ix (ix_listK (K := K) rfl) (pv 0) pe_int (fun _ _ => rfl)) pa_nil)) (pv 1)) (pg_sub (pv 0) pe_int set_list))
        (pss_one (ps_ret (pv 2)))))
        pss_nil)
      (pss_cons (ps_set (i := 3) sc_draw.nd rfl (.inl rfl) (pe_ix (ix_listK (K := K) rfl) (pv 0) pe_int (fun _ _ => rfl)))
      (pss_cons (ps_asg (pe_op op_add (pv 3) pe_int) (pg_sub (pv 0) pe_int set_list))
      (pss_cons (ps_set (i := 4) sc_draw.nd rfl (.inl rfl) (pe_op op_add (pe_op op_mul pe_int (pv 3)) pe_int))
      (pss_cons (ps_if (pt_cmpR (op_neDK (K := K) rfl hr.units) (pe_ix (ix_listK (K := K) rfl) (pv 0) pe_int (fun _ _ => rfl)) (pe_lst pa_nil) (nomark _))
        (pss_one (ps_set (i := 4) sc_draw.nd rfl (.inl rfl) (pe_ix (ix_listK (K := K) rfl) (pe_ix (ix_listK (K := K) rfl) (pv 0) pe_int (fun _ _ => rfl)) (pe_op op_mod (pe_callTy call_int1 (by rfl) T.int (by decide +kernel) (pa_cons (pv 3) pa_nil)) (pe_callB (call_len_seqK (K := K) rfl) (by rfl) T.len (by decide +kernel) (pa_cons (pe_ix (ix_listK (K := K) rfl) (pv 0) pe_int (fun _ _ => rfl)) pa_nil))) (fun _ _ => rfl))))
        pss_nil)
      (pss_cons (ps_if (PW.pt (pw_and (pt_cmpR op_lt (pv 3) (pe_callB (call_len_seqK (K := K) rfl) (by rfl) T.len (by decide +kernel) (pa_cons (pe_ix (ix_listK (K := K) rfl) (pv 0) pe_int (fun _ _ => rfl)) pa_nil)) (nomark _)) (pw_and1 (pt_cmpR op_ge (pe_callB call_abs (by rfl) T.abs (by decide +kernel) (pa_cons (pv 4) pa_nil)) (pe_op op_pow pe_int pe_int) (nomark _)))))
        (pss_cons (ps_set (i := 5) sc_draw.nd rfl (.inl rfl) (pe_op op_add (pe_op op_mul pe_int (pe_op op_sub (pe_callB call_abs (by rfl) T.abs (by decide +kernel) (pa_cons (pv 4) pa_nil)) (pe_op op_pow pe_int pe_int))) (pe_callTy call_int1 (by rfl) T.int (by decide +kernel) (pa_cons (pe_cmpR op_lt (pv 4) pe_int (nomark _)) pa_nil))))
        (pss_cons (ps_asg (pe_op op_fdiv (pe_callTy call_int1 (by rfl) T.int (by decide +kernel) (pa_cons (pv 5) pa_nil)) (pv 1)) (pg_sub (pv 0) pe_int set_list))
        (pss_one (ps_ret (pe_op op_mod (pe_callTy call_int1 (by rfl) T.int (by decide +kernel) (pa_cons (pv 5) pa_nil)) (pv 1))))))
        pss_nil)
      (pss_cons (ps_set (i := 6) sc_draw.nd rfl (.inl rfl) (pe_op op_mod (pe_callTy call_int1 (by rfl) T.int (by decide +kernel) (pa_cons (pe_op op_pow (pe_op op_add (pe_op op_add (pe_op op_mod (pe_callTy call_int1 (by rfl) T.int (by decide +kernel) (pa_cons (pv 4) pa_nil)) pe_int) (pe_op op_mul pe_int (pv 3))) pe_int) pe_int) pa_nil)) pe_int))
      (pss_cons (ps_set (i := 6) sc_draw.nd rfl (.inl rfl) (pe_op op_mod (pe_callTy call_int1 (by rfl) T.int (by decide +kernel) (pa_cons (pe_op op_pow (pe_op op_add (pe_op op_add (pe_op op_mul (pv 6) (pe_op op_add (pe_op op_mul pe_int (pv 3)) pe_int)) (pe_op op_mul (pe_op op_mul pe_int (pv 3)) (pv 3))) pe_int) pe_int) pa_nil)) pe_int))
      (pss_one (ps_ret (pe_op op_mod (pe_callTy call_int1 (by rfl) T.int (by decide +kernel) (pa_cons (pe_op op_fdiv (pv 6) pe_int) pa_nil)) (pv 1)))))))))))), ?_⟩
    -- pen[2] > 0
    refine ⟨_, rfl, p, _, 2, _, rfl, rfl, SqL.of hp, rfl, great, 0, rfl, rfl, _, rfl, ?_⟩
    refine ite2 (fun e => ?_) (fun e => ?_)
    · refine ⟨_, rfl, p, _, 2, _, rfl, rfl, SqL.of hp, rfl, .inl ⟨_, rfl, _, rfl, _, _, rfl, rfl, m0, ?_⟩⟩
      refine ⟨_, rfl, p, _, 2, _, rfl, rfl, SqL.of hp, rfl, .inl ⟨_, rfl, _, rfl, _, _, rfl, rfl, ⟨m0, by omega⟩, _, rfl, p, _, 2, 2, rfl, rfl, hp, rfl, ?_⟩⟩
      refine ⟨_, rfl, q _ _ (Int.emod_nonneg _ (by omega)) (Int.emod_lt_of_pos _ m0) ⟨⟨spot, great / many, upd_same, hs0, by omega, Int.ediv_nonneg hg (by omega)⟩, by rw [upd_ne hne]; exact hl, hne, hsh⟩ Fr.at⟩
    -- spot = pen[1]; pen[1] = spot + 1; cell = ..
    refine ⟨_, rfl, p, _, 1, _, rfl, rfl, SqL.of hp, rfl, ?_⟩
    refine ⟨_, rfl, _, _, rfl, rfl, _, rfl, p, _, 1, 1, rfl, rfl, hp, rfl, ?_⟩
    refine ⟨_, rfl, _, _, rfl, rfl, .inl ⟨by decide, by decide⟩, _, _, rfl, rfl, ?_⟩
    have hp1 : upd H p (.lst [.ref l, .int (spot + 1), .int great]) p = some (.lst [.ref l, .int (spot + 1), .int great]) := upd_same
    have hl1 : upd H p (.lst [.ref l, .int (spot + 1), .int great]) l = some (.lst (ns.map V.int)) := by rw [upd_ne hne]; exact hl
    dsimp only [List.set_cons_succ, List.set_cons_zero]
    -- pen[0] != []
    refine ⟨_, rfl, p, _, 0, _, rfl, rfl, SqL.of hp1, rfl, Nat.zero_le _, fun o no => ?_⟩
    have hpo : p ≠ o := ne_of_none hp1 no
    have hlo : l ≠ o := ne_of_none hl1 no
    have hp2 : upd (upd H p (.lst [.ref l, .int (spot + 1), .int great])) o (.lst []) p = some (.lst [.ref l, .int (spot + 1), .int great]) := by rw [upd_ne hpo]; exact hp1
    have hl2 : upd (upd H p (.lst [.ref l, .int (spot + 1), .int great])) o (.lst []) l = some (.lst (ns.map V.int)) := by rw [upd_ne hlo]; exact hl1
    have fr2 : Fr p H (upd (upd H p (.lst [.ref l, .int (spot + 1), .int great])) o (.lst [])) := Fr.at.trans (Fr.new no)
    refine ⟨_, _, .lst (SqL.of hl2) (dp_ints ns), .lst (SqL.of upd_same) .nil, shaped_ints ns, by decide, _, rfl, ?_⟩
    generalize upd (upd H p (.lst [.ref l, .int (spot + 1), .int great])) o (.lst []) = H2 at hp2 hl2 fr2 ⊢
    refine ite2 (fun e => ?g1) (fun e => ?g2)
    case' g1 =>
      have hns : 0 < ns.length := by
        cases ns with
        | nil => simp [dInts, PyData.eqv, PyData.eqvAll] at e
        | cons a r => simp
      have hpos : (0 : Int) < ((ns.map V.int).length : Int) := by rw [List.length_map]; omega
      obtain ⟨z, hz⟩ := ints_at (ns := ns) (i := spot % ((ns.map V.int).length : Int)) (Int.emod_nonneg _ (by omega)) (by
        have := Int.emod_lt_of_pos spot hpos
        rw [List.length_map] at this ⊢
        exact this)
      refine ⟨_, rfl, p, _, 0, _, rfl, rfl, SqL.of hp2, rfl, _, rfl, .inl ⟨_, rfl, _, rfl, p, _, 0, _, rfl, rfl, SqL.of hp2, rfl, l, _, rfl, .inl (SqL.of hl2), _, _, rfl, rfl, hpos, l, _, _, _, rfl, rfl, SqL.of hl2, hz, ?_⟩⟩
      generalize z = c
      refine ⟨_, rfl, _, rfl, p, _, 0, _, rfl, rfl, SqL.of hp2, rfl, l, _, rfl, .inl (SqL.of hl2), _, _, rfl, rfl, _, rfl, ?_⟩
      refine ite2 (fun e1 => ?a3) (fun e1 => ?a4)
      case' a3 =>
        refine ⟨_, rfl, _, rfl, _, _, rfl, rfl, ⟨by decide, by decide, by decide⟩, _, _, rfl, rfl, _, rfl, ?_⟩
        refine ite2 (fun e2 => ?a5) (fun e2 => ?a6)
        case' a5 =>
          have hge := of_decide_eq_true e2
          refine ⟨_, rfl, _, rfl, _, _, rfl, rfl, ⟨by decide, by decide, by decide⟩, _, _, rfl, rfl, _, _, rfl, rfl, .inl ⟨by decide, by decide⟩, _, rfl, _, _, rfl, rfl, .inr ⟨_, rfl, _, _, rfl, rfl, ?_⟩⟩
          have hG : 0 ≤ 2 * ((if c < 0 then -c else c) - 10 ^ (18 : Int).toNat) + (if decide (c < 0) = true then 1 else 0) := by
            have h1 : (10 : Int) ^ (18 : Int).toNat ≤ (if c < 0 then -c else c) := hge
            have h2 : (0 : Int) ≤ (if decide (c < 0) = true then 1 else 0) := by split <;> decide
            omega
          refine ⟨_, rfl, .inl ⟨_, rfl, _, rfl, _, _, rfl, rfl, ⟨m0, by omega⟩, _, rfl, p, _, 2, 2, rfl, rfl, hp2, rfl, ?_⟩⟩
          refine ⟨_, rfl, .inl ⟨_, rfl, _, rfl, _, _, rfl, rfl, m0, ?_⟩⟩
          exact q _ _ (Int.emod_nonneg _ (by omega)) (Int.emod_lt_of_pos _ m0) ⟨⟨spot + 1, _, upd_same, by omega, by omega, Int.ediv_nonneg hG (by omega)⟩, by rw [upd_ne hne]; exact hl2, hne, hsh⟩ (fr2.trans Fr.at)
      case' a4 => refine iteF ?_
    case' g2 =>
      generalize 90121 * spot + 2035 = c
      refine ⟨_, rfl, _, rfl, p, _, 0, _, rfl, rfl, SqL.of hp2, rfl, l, _, rfl, .inl (SqL.of hl2), _, _, rfl, rfl, _, rfl, ?_⟩
      refine ite2 (fun e1 => ?b3) (fun e1 => ?b4)
      case' b3 =>
        refine ⟨_, rfl, _, rfl, _, _, rfl, rfl, ⟨by decide, by decide, by decide⟩, _, _, rfl, rfl, _, rfl, ?_⟩
        refine ite2 (fun e2 => ?b5) (fun e2 => ?b6)
        case' b5 =>
          have hge := of_decide_eq_true e2
          refine ⟨_, rfl, _, rfl, _, _, rfl, rfl, ⟨by decide, by decide, by decide⟩, _, _, rfl, rfl, _, _, rfl, rfl, .inl ⟨by decide, by decide⟩, _, rfl, _, _, rfl, rfl, .inr ⟨_, rfl, _, _, rfl, rfl, ?_⟩⟩
          have hG : 0 ≤ 2 * ((if c < 0 then -c else c) - 10 ^ (18 : Int).toNat) + (if decide (c < 0) = true then 1 else 0) := by
            have h1 : (10 : Int) ^ (18 : Int).toNat ≤ (if c < 0 then -c else c) := hge
            have h2 : (0 : Int) ≤ (if decide (c < 0) = true then 1 else 0) := by split <;> decide
            omega
          refine ⟨_, rfl, .inl ⟨_, rfl, _, rfl, _, _, rfl, rfl, ⟨m0, by omega⟩, _, rfl, p, _, 2, 2, rfl, rfl, hp2, rfl, ?_⟩⟩
          refine ⟨_, rfl, .inl ⟨_, rfl, _, rfl, _, _, rfl, rfl, m0, ?_⟩⟩
          exact q _ _ (Int.emod_nonneg _ (by omega)) (Int.emod_lt_of_pos _ m0) ⟨⟨spot + 1, _, upd_same, by omega, by omega, Int.ediv_nonneg hG (by omega)⟩, by rw [upd_ne hne]; exact hl2, hne, hsh⟩ (fr2.trans Fr.at)
      case' b4 => refine iteF ?_
    all_goals
      have b0 := Int.emod_nonneg c (show (2147483587 : Int) ≠ 0 by decide)
      have b1 := Int.emod_lt_of_pos c (show (0 : Int) < 2147483587 by decide)
      refine ⟨_, rfl, .inl ⟨_, rfl, _, _, rfl, rfl, (show (0 : Int) < 2147483587 by decide), _, rfl, _, _, rfl, rfl, .inl ⟨by decide, by decide⟩, _, _, rfl, rfl, _, _, rfl, rfl, _, _, rfl, rfl, ⟨by decide, by decide, by omega⟩, .inl ⟨_, rfl, _, _, rfl, rfl, (show (0 : Int) < 2147483563 by decide), ?_⟩⟩⟩
      have s0 : 0 ≤ ((c % 2147483587 + 57113 * spot + 327) ^ (5 : Int).toNat) % 2147483563 := Int.emod_nonneg _ (by decide)
      have s1 : ((c % 2147483587 + 57113 * spot + 327) ^ (5 : Int).toNat) % 2147483563 < 2147483563 := Int.emod_lt_of_pos _ (by decide)
      have hsp : spot ≤ 1000000 := by omega
      refine ⟨_, rfl, _, rfl, _, _, rfl, rfl, .inl ⟨by decide, by decide⟩, _, _, rfl, rfl, _, _, rfl, rfl, .inl ⟨by omega, by omega⟩, _, rfl, _, _, rfl, rfl, .inl ⟨by decide, by decide⟩, _, rfl, _, _, rfl, rfl, .inl ⟨by omega, by omega⟩, _, _, rfl, rfl, _, _, rfl, rfl, _, _, rfl, rfl, ⟨by decide, by decide, pw2 s0 s1 hs0 hsp⟩, .inl ⟨_, rfl, _, _, rfl, rfl, (show (0 : Int) < 2147483549 by decide), ?_⟩⟩
      refine ⟨_, rfl, _, _, rfl, rfl, ⟨by decide, by decide⟩, .inl ⟨_, rfl, _, rfl, _, _, rfl, rfl, m0, ?_⟩⟩
      exact q _ _ (Int.emod_nonneg _ (by omega)) (Int.emod_lt_of_pos _ m0) ⟨⟨spot + 1, great, hp2, by omega, by omega, hg⟩, hl2, hne, hsh⟩ fr2
end
end V8

set_option Elab.async false
set_option linter.all false
set_option maxRecDepth 100000
set_option maxHeartbeats 4000000
/-! What the law draws: a pick, letters, images, tables. -/
namespace V8
open PySem PySem.Spec PyProof.Rows L2
/-- the text of one sign; of several -/
def L1 (c : Nat) : Str := ⟨#[c]⟩
def Sx (cs : List Nat) : Str := ⟨cs.toArray⟩
theorem L1_Sx (c : Nat) : L1 c = Sx [c] := rfl
theorem L1_inj {a b : Nat} (h : L1 a = L1 b) : a = b := by
  have h1 : (#[a] : Array Nat) = #[b] := congrArg Str.cps h
  simpa using h1
theorem Sx_inj {a b : List Nat} (h : Sx a = Sx b) : a = b := by
  have h1 : a.toArray = b.toArray := congrArg Str.cps h
  simpa using h1
def isLt (c : Nat) : Prop := 97 ≤ c ∧ c ≤ 122
instance (c : Nat) : Decidable (isLt c) := inferInstanceAs (Decidable (97 ≤ c ∧ c ≤ 122))
def lets (cs : List Nat) : List V := cs.map fun c => V.str (L1 c)
theorem lets_len (cs : List Nat) : (lets cs).length = cs.length := List.length_map ..
theorem lets_erase (cs : List Nat) (k : Nat) : (lets cs).eraseIdx k = lets (cs.eraseIdx k) := by
  unfold lets
  rw [List.eraseIdx_eq_take_drop_succ, List.eraseIdx_eq_take_drop_succ, List.map_append, List.map_take, List.map_drop]
theorem lets_snoc (cs : List Nat) (c : Nat) : lets (cs ++ [c]) = lets cs ++ [V.str (L1 c)] := by
  unfold lets
  rw [List.map_append]
  rfl
/-- a thing that is new, as seen from the start, is written -/
theorem Fr.put {p a : Addr} {o : HO} {H H1 : Hp} (f : Fr p H H1) (hn : H a = none) : Fr p H (upd H1 a o) := fun b u e n => by
  rw [upd_ne (ne_of_none e hn)]
  exact f b u e n
theorem lets_mem {cs : List Nat} {v : V} (h : v ∈ lets cs) : ∃ c ∈ cs, v = .str (L1 c) := by
  obtain ⟨c, hc, e⟩ := List.mem_map.mp h
  exact ⟨c, hc, e.symm⟩
/-- a to z -/
def abc : List Nat := (List.range 26).map (· + 97)
theorem abc_len : abc.length = 26 := by decide
theorem abc_nd : abc.Nodup := by decide
theorem abc_mem {c : Nat} : c ∈ abc ↔ isLt c := by
  unfold abc isLt
  rw [List.mem_map]
  constructor
  · rintro ⟨a, ha, rfl⟩
    have := List.mem_range.mp ha
    omega
  · rintro ⟨h1, h2⟩
    exact ⟨c - 97, List.mem_range.mpr (by omega), by omega⟩
def abcS : Str := "abcdefghijklmnopqrstuvwxyz"
theorem abcS_cps : abcS.cps.toList = abc := by decide +kernel

def spPick (K : PySem.W.Frag) : Sp := fun vs H Q _ => ∃ (p l a : Addr) (ns : List Int) (n : Nat) (xs : List V), vs = [.ref p, .ref a] ∧ PenAt H p l ns (n + 1) ∧ SqL K H a xs ∧ 0 < xs.length ∧ xs.length < 1000 ∧
  (∀ H', Fr p H H' → SqL K H' a xs) ∧ ∀ (v : V) (H' : Hp), v ∈ xs → PenAt H' p l ns n → Fr p H H' → Q v H'
theorem SqL.fr {K : PySem.W.Frag} {H H' : Hp} {p a : Addr} {xs : List V} (h : SqL K H a xs) (f : Fr p H H') (ne : a ≠ p) : SqL K H' a xs :=
  h.elim (fun h => .inl (h.elim (fun h => .inl (f _ _ h ne)) fun ⟨o, h⟩ => .inr ⟨o, f _ _ h ne⟩)) fun h => .inr h
def spLetters : Sp := fun vs H Q _ => ∃ (p l : Addr) (ns : List Int) (n : Nat) (many : Nat), vs = [.ref p, .int many] ∧ PenAt H p l ns (n + many) ∧ many ≤ 26 ∧
  ∀ (D : Addr) (cs : List Nat) (H' : Hp), cs.length = many → cs.Nodup → (∀ c ∈ cs, isLt c) → PenAt H' p l ns n → Fr p H H' → H D = none → H' D = some (.lst (lets cs)) → Q (.ref D) H'
section
variable {P : Program} {w : World} {K : PySem.W.Frag} {mg : Str → Option Value} {base : Heap}
theorem ok_pick {f : Addr} {fd : FuncData} (F : Fun K "_law_pick" "_law_pick" s_pick f fd) (T : Blt mg) (D_draw : Df P w K mg base 1 "_law_draw" spDraw) : FnOk P w K mg base CX0 2 f fd ["_law_pen_here", "_law_some"] (spPick K) := by
  refine F.ok sc_pick (fun vs H Q E h => ?_) (fun cdv A outer s H vs Q E hr h => ?_)
  · obtain ⟨p, l, a, ns, n, xs, rfl, _⟩ := h
    rfl
  · obtain ⟨p, l, a, ns, n, xs, rfl, PA, hS, h0, h1, st, q⟩ := h
    refine ⟨_, (pss_one (ps_ret (pe_ix (ix_listK (K := K) rfl) (pv 1) (pe_c D_draw hr (by decide) (by rfl) (pa_cons (pv 0) (pa_cons (pe_callB (call_len_seqK (K := K) rfl) (by rfl) T.len (by decide +kernel) (pa_cons (pv 1) pa_nil)) pa_nil))) (fun _ _ => rfl)))), ?_⟩
    refine ⟨.ref a, rfl, .ref p, rfl, .ref a, rfl, a, xs, rfl, .inl hS, p, l, ns, n, _, rfl, PA, by omega, by omega, fun v H' v0 v1 PA' fr => ?_⟩
    obtain ⟨j, rfl⟩ : ∃ j : Nat, v = j := ⟨v.toNat, by omega⟩
    have hj : j < xs.length := by omega
    exact ⟨a, xs, j, xs[j], rfl, rfl, st H' fr, atI_nat (List.getElem?_eq_getElem hj), q _ _ (List.getElem_mem hj) PA' fr⟩
theorem perm_erase {got rest : List Nat} {k : Nat} {y : Nat} (hp : (got ++ rest).Perm abc) (hy : rest[k]? = some y) : ((got ++ [y]) ++ rest.eraseIdx k).Perm abc := by
  refine List.Perm.trans ?_ hp
  rw [List.append_assoc]
  refine List.Perm.append_left got ?_
  show (y :: rest.eraseIdx k).Perm rest
  obtain ⟨hk, e⟩ := List.getElem?_eq_some_iff.mp hy
  rw [List.eraseIdx_eq_take_drop_succ]
  have h2 : rest = rest.take k ++ (y :: rest.drop (k + 1)) := by
    rw [← e, ← List.drop_eq_getElem_cons hk, List.take_append_drop]
  exact (List.perm_middle.symm).trans (List.Perm.of_eq h2.symm)
end
end V8

set_option Elab.async false
set_option linter.all false
set_option maxRecDepth 100000
set_option maxHeartbeats 8000000
/-! The pen made; what is due. -/
namespace V8
open PySem PySem.Spec PyProof.Rows L2
def spPen (K : PySem.W.Frag) : Sp := fun vs H Q _ => ∃ (a : Addr) (ns : List Int), vs = [.ref a] ∧ SqL K H a (ns.map V.int) ∧ ns.length ≤ 63 ∧ ∀ (p l : Addr) (H' : Hp), H p = none → Same H H' → PenAt H' p l ns 1000000 → Q (.ref p) H'
section
variable {P : Program} {w : World} {K : PySem.W.Frag} {mg : Str → Option Value} {base : Heap} {CM CJ : Addr}
theorem ok_pen {f : Addr} {fd : FuncData} (F : Fun K "_law_pen" "_law_pen" s_pen f fd) (T : Blt mg) : FnOk P w K mg base CX0 1 f fd ["_law_script"] (spPen K) := by
  refine F.ok sc_pen (fun vs H Q E h => ?_) (fun cdv A outer s H vs Q E hr h => ?_)
  · obtain ⟨a, ns, rfl, _⟩ := h
    rfl
  · obtain ⟨a, ns, rfl, hS, hn, q⟩ := h
    refine ⟨_, (pss_one (ps_ret (pe_lst (pa_cons (pe_callTy (call_list_ofK (K := K) rfl) (by rfl) T.list (by decide +kernel) (pa_cons (pe_slice (sl_listK (K := K) rfl) (pv 0) po_none (po_some pe_int)) pa_nil)) (pa_cons pe_int (pa_cons pe_int pa_nil)))))), ?_⟩
    refine ⟨_, rfl, 63, rfl, a, ns.map V.int, rfl, hS, fun l1 n1 => ?_⟩
    have hc : cutV (ns.map V.int) none (some 63) = ns.map V.int := by
      have e : HT.sIx (ns.map V.int).length (ns.map V.int).length (some 63) = (ns.map V.int).length := by
        show HT.sIx _ _ (some ((63 : Nat) : Int)) = _
        rw [HT.sIx_nat, List.length_map]
        omega
      unfold cutV
      rw [HT.sIx_none, List.drop_zero, e]
      exact List.take_of_length_le (Nat.le_refl _)
    rw [hc]
    refine ⟨l1, ns.map V.int, rfl, .inl (SqL.of upd_same), fun l n2 => ⟨by show 3 ≤ sizeLine; decide, fun p n3 => ?_⟩⟩
    have h1 : l1 ≠ l := ne_of_none upd_same n2
    have hl : l ≠ p := ne_of_none upd_same n3
    have n2H : upd H l1 (.lst (ns.map V.int)) l = none := n2
    have sm : Same H (upd (upd (upd H l1 (.lst (ns.map V.int))) l (.lst (ns.map V.int))) p (.lst [.ref l, .int 0, .int 0])) := fun b o e => by
      have b1 := ne_of_none e n1
      have e1 : upd H l1 (.lst (ns.map V.int)) b = some o := by rw [upd_ne b1]; exact e
      have b2 := ne_of_none e1 n2
      have e2 : upd (upd H l1 (.lst (ns.map V.int))) l (.lst (ns.map V.int)) b = some o := by rw [upd_ne b2]; exact e1
      rw [upd_ne (ne_of_none e2 n3)]
      exact e2
    refine q p l _ ?_ sm ⟨⟨0, 0, upd_same, by omega, by omega, by omega⟩, by rw [upd_ne hl]; exact upd_same, hl, hn⟩
    cases e : H p with
    | none => rfl
    | some o =>
      have b1 := ne_of_none e n1
      have e1 : upd H l1 (.lst (ns.map V.int)) p = some o := by rw [upd_ne b1]; exact e
      have b2 := ne_of_none e1 n2
      rw [upd_ne b2, e1] at n3
      cases n3
end
end V8

set_option Elab.async false
set_option linter.all false
set_option maxRecDepth 100000
set_option maxHeartbeats 4000000
/-! Tables of letters and images, as the law draws them. -/
namespace V8
open PySem PySem.Spec PyProof.Rows L2
abbrev Tab := List (Nat × List Nat)
def encT (t : Tab) : List (Key × V) := t.map fun q => (Sum.inr (L1 q.1), V.str (Sx q.2))
def lookT (t : Tab) (c : Nat) : Option (List Nat) := (t.find? fun q => decide (q.1 = c)).map (·.2)
def putT (t : Tab) (c : Nat) (s : List Nat) : Tab := if (t.any fun q => decide (q.1 = c)) = true then t.map (fun q => if q.1 = c then (q.1, s) else q) else t ++ [(c, s)]
theorem encT_len (t : Tab) : (encT t).length = t.length := List.length_map ..
theorem key_dec (a c : Nat) : decide ((Sum.inr (L1 a) : Key) = Sum.inr (L1 c)) = decide (a = c) := by
  by_cases h : a = c
  · subst h
    simp
  · rw [decide_eq_false h, decide_eq_false]
    intro e
    exact h (L1_inj (Sum.inr.inj e))
theorem key_iff (a c : Nat) : ((Sum.inr (L1 a) : Key) = Sum.inr (L1 c)) ↔ a = c := by
  have := key_dec a c
  constructor
  · intro e
    exact L1_inj (Sum.inr.inj e)
  · intro e
    rw [e]
theorem valV_enc (c : Nat) : ∀ t : Tab, valV (encT t) (Sum.inr (L1 c)) = (lookT t c).map fun s => V.str (Sx s)
  | [] => rfl
  | q :: t => by
    have ih := valV_enc c t
    by_cases h : q.1 = c
    · subst h
      show valV ((Sum.inr (L1 q.1), V.str (Sx q.2)) :: encT t) _ = _
      rw [valV_pos rfl]
      simp [lookT]
    · show valV ((Sum.inr (L1 q.1), V.str (Sx q.2)) :: encT t) _ = _
      rw [valV_neg (fun e => h ((key_iff _ _).mp e)), ih]
      simp [lookT, List.find?_cons, h]
theorem any_enc (c : Nat) : ∀ t : Tab, ((encT t).any fun kv => decide (kv.1 = (Sum.inr (L1 c) : Key))) = t.any fun q => decide (q.1 = c)
  | [] => rfl
  | q :: t => by
    show (decide ((Sum.inr (L1 q.1) : Key) = Sum.inr (L1 c)) || (encT t).any _) = _
    rw [any_enc c t, key_dec]
    rfl
theorem putK_enc (t : Tab) (c : Nat) (s : List Nat) : putK (encT t) (Sum.inr (L1 c)) (V.str (Sx s)) = encT (putT t c s) := by
  unfold putK putT
  rw [any_enc]
  split
  · unfold encT
    rw [List.map_map, List.map_map]
    refine List.map_congr_left fun q _ => ?_
    show (if (Sum.inr (L1 q.1) : Key) = Sum.inr (L1 c) then _ else _) = _
    by_cases h : q.1 = c
    · rw [if_pos ((key_iff _ _).mpr h)]
      simp [h]
    · rw [if_neg (fun e => h ((key_iff _ _).mp e))]
      simp [h]
  · unfold encT
    rw [List.map_append]
    rfl
theorem keys_put {t : Tab} {c : Nat} {s : List Nat} : ∀ x ∈ putT t c s, (x ∈ t ∨ x = (c, s)) := by
  intro x hx
  unfold putT at hx
  split at hx
  · obtain ⟨q, hq, e⟩ := List.mem_map.mp hx
    by_cases h : q.1 = c
    · rw [if_pos h] at e
      rw [← e, h]
      exact .inr rfl
    · rw [if_neg h] at e
      rw [← e]
      exact .inl hq
  · rcases List.mem_append.mp hx with h | h
    · exact .inl h
    · exact .inr (List.mem_singleton.mp h)
theorem put_nd {t : Tab} {c : Nat} {s : List Nat} (h : (t.map (·.1)).Nodup) : ((putT t c s).map (·.1)).Nodup := by
  unfold putT
  split
  · rw [List.map_map]
    have e : t.map ((·.1) ∘ fun q : Nat × List Nat => if q.1 = c then (q.1, s) else q) = t.map (·.1) := List.map_congr_left fun q _ => by
      show (if q.1 = c then (q.1, s) else q).1 = q.1
      split <;> rfl
    rw [e]
    exact h
  · rename_i hn
    rw [List.map_append]
    refine List.nodup_append.mpr ⟨h, by simp, fun x hx y hy e => ?_⟩
    have ey : y = c := by simpa using hy
    obtain ⟨q, hq, eq⟩ := List.mem_map.mp hx
    refine hn (List.any_eq_true.mpr ⟨q, hq, decide_eq_true ?_⟩)
    rw [eq, e, ey]
theorem put_len (t : Tab) (c : Nat) (s : List Nat) : (putT t c s).length ≤ t.length + 1 := by
  unfold putT
  split
  · rw [List.length_map]
    omega
  · rw [List.length_append]
    exact Nat.le_refl _
/-- an image that may be told -/
def GoodI (cs s : List Nat) : Prop := 1 ≤ s.length ∧ s.length ≤ 4 ∧ ∀ d ∈ s, d ∈ cs
structure GoodT (cs : List Nat) (t : Tab) : Prop where
  nd : (t.map (·.1)).Nodup
  key : ∀ q ∈ t, q.1 ∈ cs
  img : ∀ q ∈ t, GoodI cs q.2
theorem GoodT.nil {cs : List Nat} : GoodT cs [] := by
  refine ⟨List.nodup_nil, fun q h => ?_, fun q h => ?_⟩
  · cases h
  · cases h
theorem GoodT.put {cs : List Nat} {t : Tab} {c : Nat} {s : List Nat} (g : GoodT cs t) (hc : c ∈ cs) (hs : GoodI cs s) : GoodT cs (putT t c s) := by
  refine ⟨put_nd g.nd, fun q hq => ?_, fun q hq => ?_⟩
  · rcases keys_put q hq with h | rfl
    · exact g.key q h
    · exact hc
  · rcases keys_put q hq with h | rfl
    · exact g.img q h
    · exact hs
/-- joined signs -/
theorem join_L1 : ∀ cs : List Nat, Txt.join Str.empty (cs.map L1) = Sx cs := by
  intro cs
  rw [TL.join_eq]
  have h : TL.tl (Str.join Str.empty (cs.map L1)) = cs := by
    rw [TL.tl_join]
    have : ∀ l : List Nat, TL.joinL (TL.tl Str.empty) ((l.map L1).map TL.tl) = l := by
      intro l
      induction l with
      | nil => rfl
      | cons c r ih =>
        cases r with
        | nil => rfl
        | cons d r =>
          show TL.tl (L1 c) ++ (TL.tl Str.empty ++ TL.joinL (TL.tl Str.empty) ((((d :: r).map L1).map TL.tl))) = _
          rw [ih]
          rfl
    exact this cs
  have e2 : (Str.join Str.empty (cs.map L1)).cps.toList = cs := h
  show Str.join Str.empty (cs.map L1) = Sx cs
  unfold Sx
  cases hx : Str.join Str.empty (cs.map L1) with
  | mk a =>
    rw [hx] at e2
    have : a.toList = cs := e2
    rw [← this]
theorem sum_ones : ∀ l : List Nat, (l.map fun _ => 1).sum = l.length
  | [] => rfl
  | a :: r => by
    rw [List.map_cons, List.sum_cons, sum_ones r, List.length_cons]
    omega
theorem Sx_len (cs : List Nat) : (Sx cs).length = cs.length := by
  show cs.toArray.size = cs.length
  simp
def spImage : Sp := fun vs H Q _ => ∃ (p l a : Addr) (ns : List Int) (n : Nat) (cs : List Nat), vs = [.ref p, .ref a] ∧ PenAt H p l ns (n + 5) ∧ H a = some (.lst (lets cs)) ∧ a ≠ p ∧ cs ≠ [] ∧ cs.length ≤ 26 ∧ (∀ c ∈ cs, isLt c) ∧
  ∀ (s : List Nat) (H' : Hp), GoodI cs s → PenAt H' p l ns n → Fr p H H' → Q (.str (Sx s)) H'
def spTab (cost : Nat) : Sp := fun vs H Q _ => ∃ (p l a : Addr) (ns : List Int) (n : Nat) (cs : List Nat), vs = [.ref p, .ref a] ∧ PenAt H p l ns (n + cost) ∧ H a = some (.lst (lets cs)) ∧ a ≠ p ∧ cs ≠ [] ∧ cs.Nodup ∧ cs.length ≤ 26 ∧ (∀ c ∈ cs, isLt c) ∧
  ∀ (d : Addr) (t : Tab) (H' : Hp), GoodT cs t → PenAt H' p l ns n → Fr p H H' → H d = none → H' d = some (.dK (encT t)) → Q (.ref d) H'
theorem Fr.back {p q : Addr} {H H1 : Hp} (f : Fr p H H1) (hn : H1 q = none) (hp : q ≠ p) : H q = none := by
  cases e : H q with
  | none => rfl
  | some o =>
    rw [f _ _ e hp] at hn
    cases hn
theorem PenAt.nep {H : Hp} {p l q : Addr} {ns : List Int} {n : Nat} (P : PenAt H p l ns n) (h : H q = none) : q ≠ p := by
  intro e
  subst e
  exact P.some' h
theorem PenAt.nel {H : Hp} {p l q : Addr} {ns : List Int} {n : Nat} (P : PenAt H p l ns n) (h : H q = none) : q ≠ l := by
  intro e
  subst e
  rw [P.nums] at h
  cases h
section
variable {P : Program} {w : World} {K : PySem.W.Frag} {mg : Str → Option Value} {base : Heap}
end
end V8

set_option Elab.async false
set_option linter.all false
set_option maxRecDepth 100000
set_option maxHeartbeats 4000000
namespace V8
open PySem PySem.Spec PyProof.Rows L2
theorem app_Sx (a : Nat) (s : List Nat) : L1 a ++ Sx s = Sx (a :: s) := by
  show Str.append _ _ = _
  unfold Sx L1
  show (⟨#[a] ++ s.toArray⟩ : Str) = ⟨(a :: s).toArray⟩
  congr 1
  simp
section
variable {P : Program} {w : World} {K : PySem.W.Frag} {mg : Str → Option Value} {base : Heap}
theorem lets_get {cs : List Nat} {i : Nat} {x : V} (h : (lets cs)[i]? = some x) : ∃ hi : i < cs.length, x = .str (L1 cs[i]) := by
  unfold lets at h
  rw [List.getElem?_map] at h
  cases e : cs[i]? with
  | none =>
    rw [e] at h
    cases h
  | some c =>
    obtain ⟨hi, ec⟩ := List.getElem?_eq_some_iff.mp e
    rw [e] at h
    exact ⟨hi, by rw [ec]; exact (Option.some.inj h).symm⟩
theorem lets_at {cs : List Nat} {j : Nat} (hj : j < cs.length) : (lets cs)[j]? = some (.str (L1 cs[j])) := by
  unfold lets
  rw [List.getElem?_map, List.getElem?_eq_getElem hj]
  rfl
theorem seq_ix {j n : Nat} (h : j < n) : seqIndex? (j : Int) n = some j := by
  unfold seqIndex?
  simp
  omega
theorem erase_len {xs : List Nat} {k : Nat} (h : k < xs.length) : (xs.eraseIdx k).length = xs.length - 1 := List.length_eraseIdx_of_lt h
theorem goodI1 {cs : List Nat} {a : Nat} (h : a ∈ cs) : GoodI cs [a] := ⟨Nat.le_refl _, by show 1 ≤ 4; decide, fun x hx => by rw [List.mem_singleton.mp hx]; exact h⟩
theorem goodI2 {cs : List Nat} {a b : Nat} (h : a ∈ cs) (h' : b ∈ cs) : GoodI cs [a, b] := by
  refine ⟨by show 1 ≤ 2; decide, by show 2 ≤ 4; decide, fun x hx => ?_⟩
  rcases List.mem_cons.mp hx with e | hx
  · rw [e]
    exact h
  · rw [List.mem_singleton.mp hx]
    exact h'
end
end V8

set_option Elab.async false
set_option linter.all false
set_option maxRecDepth 100000
set_option maxHeartbeats 8000000
namespace V8
open PySem PySem.Spec PyProof.Rows L2
theorem nd_len : ∀ {a b : List Nat}, a.Nodup → (∀ x ∈ a, x ∈ b) → a.length ≤ b.length
  | [], _, _, _ => Nat.zero_le _
  | x :: a, b, h, hs => by
    have hx : x ∈ b := hs x (List.mem_cons_self ..)
    have h1 := List.nodup_cons.mp h
    have ih := nd_len (a := a) (b := b.erase x) h1.2 fun y hy => by
      have hne : y ≠ x := fun e => h1.1 (e ▸ hy)
      exact (List.mem_erase_of_ne hne).mpr (hs y (List.mem_cons_of_mem _ hy))
    rw [List.length_erase_of_mem hx] at ih
    have : 0 < b.length := List.length_pos_of_mem hx
    rw [List.length_cons]
    omega
theorem GoodT.len {cs : List Nat} {t : Tab} (g : GoodT cs t) : t.length ≤ cs.length := by
  have := nd_len g.nd fun x hx => by
    obtain ⟨q, hq, rfl⟩ := List.mem_map.mp hx
    exact g.key q hq
  rw [List.length_map] at this
  exact this
def mergeT (a b : Tab) : Tab := b.foldl (fun acc q => putT acc q.1 q.2) a
theorem mergeK_enc : ∀ (b a : Tab), mergeK (encT a) (encT b) = encT (mergeT a b)
  | [], _ => rfl
  | q :: b, a => by
    show mergeK (putK (encT a) (Sum.inr (L1 q.1)) (V.str (Sx q.2))) (encT b) = _
    rw [putK_enc, mergeK_enc b]
    rfl
theorem GoodT.merge {cs : List Nat} : ∀ {b a : Tab}, GoodT cs a → (∀ q ∈ b, q.1 ∈ cs ∧ GoodI cs q.2) → GoodT cs (mergeT a b)
  | [], _, g, _ => g
  | q :: b, a, g, h => by
    have h1 := h q (List.mem_cons_self ..)
    exact GoodT.merge (b := b) (a := putT a q.1 q.2) (g.put h1.1 h1.2) fun x hx => h x (List.mem_cons_of_mem _ hx)
/-- tuples of a letter and its image stand at ps -/
def PairsAt (H : Hp) (ps : List Addr) (t : Tab) : Prop := Paired (fun b (q : Nat × List Nat) => H b = some (.tup [V.str (L1 q.1), V.str (Sx q.2)])) ps t
theorem PairsAt.mono {H H' : Hp} {ps : List Addr} {t : Tab} (h : PairsAt H ps t) (k : ∀ b xs, H b = some (.tup xs) → H' b = some (.tup xs)) : PairsAt H' ps t := Paired.mapP h fun _ _ e => k _ _ e
theorem PairsAt.snoc {H : Hp} : ∀ {ps : List Addr} {t : Tab} {b : Addr} {q : Nat × List Nat}, PairsAt H ps t → H b = some (.tup [V.str (L1 q.1), V.str (Sx q.2)]) → PairsAt H (ps ++ [b]) (t ++ [q])
  | _, _, _, _, .nil, e => .cons e .nil
  | _, _, _, _, .cons h r, e => .cons h (PairsAt.snoc r e)
theorem PairsAt.sq {K : PySem.W.Frag} {H : Hp} : ∀ {ps : List Addr} {t : Tab}, PairsAt H ps t → Paired (fun p (kv : Key × V) => SqT K H p [kV kv.1, kv.2]) ps (encT t)
  | _, _, .nil => .nil
  | _, _, .cons h r => .cons (.inl (.inl h)) (PairsAt.sq r)
theorem PairsAt.len {H : Hp} {ps : List Addr} {t : Tab} (h : PairsAt H ps t) : ps.length = t.length := Paired.length h
theorem tup_fr {p : Addr} {xs : List V} {H H' : Hp} (f : Fr p H H') (hp : H p = some (.lst xs)) : ∀ b ys, H b = some (.tup ys) → H' b = some (.tup ys) := fun b ys e => f b _ e (ne_of e hp (fun z => nomatch z))
theorem tup_upd {D : Addr} {xs : List V} {o : HO} {H : Hp} (hp : H D = some (.lst xs)) : ∀ b ys, H b = some (.tup ys) → upd H D o b = some (.tup ys) := fun b ys e => by
  rw [upd_ne (ne_of e hp (fun z => nomatch z))]
  exact e
theorem tup_new {q : Addr} {o : HO} {H : Hp} (hp : H q = none) : ∀ b ys, H b = some (.tup ys) → upd H q o b = some (.tup ys) := fun b ys e => by
  rw [upd_ne (ne_of_none e hp)]
  exact e
theorem PenAt.pen {H : Hp} {p l : Addr} {ns : List Int} {n : Nat} (P : PenAt H p l ns n) : ∃ xs, H p = some (.lst xs) := by
  obtain ⟨⟨s, g, h1, _⟩, _⟩ := P
  exact ⟨_, h1⟩
theorem enc_at {t : Tab} {i : Nat} {k : Key} {v : V} (h : (encT t)[i]? = some (k, v)) : ∃ hi : i < t.length, k = Sum.inr (L1 t[i].1) ∧ v = V.str (Sx t[i].2) := by
  unfold encT at h
  rw [List.getElem?_map] at h
  cases e : t[i]? with
  | none =>
    rw [e] at h
    cases h
  | some c =>
    obtain ⟨hi, ec⟩ := List.getElem?_eq_some_iff.mp e
    rw [e] at h
    have h' := Option.some.inj h
    refine ⟨hi, ?_, ?_⟩
    · rw [ec]
      exact (congrArg Prod.fst h').symm
    · rw [ec]
      exact (congrArg Prod.snd h').symm
theorem look_at : ∀ {t : Tab} {i : Nat}, (t.map (·.1)).Nodup → ∀ hi : i < t.length, lookT t t[i].1 = some t[i].2
  | [], i, _, hi => absurd hi (Nat.not_lt_zero _)
  | q :: t, 0, _, _ => by
    unfold lookT
    simp
  | q :: t, i + 1, h, hi => by
    have hi' : i < t.length := by simpa using hi
    have h1 := List.nodup_cons.mp (by simpa using h : (q.1 :: t.map (·.1)).Nodup)
    have hne : ¬ q.1 = t[i].1 := fun e => h1.1 (e ▸ List.mem_map_of_mem (List.getElem_mem hi'))
    have ih := look_at (t := t) (i := i) h1.2 hi'
    show lookT (q :: t) t[i].1 = some t[i].2
    unfold lookT at ih ⊢
    rw [List.find?_cons_of_neg (by simpa using hne)]
    exact ih
section
variable {P : Program} {w : World} {K : PySem.W.Frag} {mg : Str → Option Value} {base : Heap}
end
end V8

set_option Elab.async false
set_option linter.all false
set_option maxRecDepth 100000
set_option maxHeartbeats 4000000
/-! ~ by an own __invert__. -/
namespace L2
open PySem PySem.Spec PyProof.Rows
theorem un_invO {X : Cx} {k j : Nat} {C : Addr} {sp : Sp} (c : Mf X.prog X.w X.K X.mg X.base k C "__invert__" sp) (hr : Room j X.A) (hk : k ≤ j) : UnR X (unaryOp .Invert) (fun x H Q => ∃ a dx fs, x = .ref a ∧ H a = some (.ins C dx fs) ∧ sp [.ref a] H Q E0) := by
  obtain ⟨f, fd, ps, F, _, o, _, b⟩ := c.ex
  intro pins s σ H x v Q I rx h
  obtain ⟨a, dx, fs, rfl, ha, hs⟩ := h
  cases rx
  obtain ⟨od, J⟩ := inst_at I ha
  obtain ⟨m, hF⟩ := I.fr
  exact PySem.W.ksp_inv hF I.ok.mod.kin J o.find o.fn (run_own (Sub.here (hr.mono hk)) F b pass0 I (show Vals [V.ref a] [Value.ref a] from .cons rfl .nil) hs)
end L2

set_option Elab.async false
set_option linter.all false
set_option maxRecDepth 100000
set_option maxHeartbeats 8000000
/-! What is general, of letters, texts and tables. -/
namespace V8
open PySem PySem.Spec PyProof.Rows L2
def spIsLetter (K : PySem.W.Frag) : Sp := fun vs H Q _ => ∃ x, vs = [x] ∧ ((∃ c, x = .str (L1 c) ∧ Q (.bl (decide (c ∈ abc))) H) ∨ (∃ z, x = .str z ∧ z.length ≤ sizeLine ∧ z.length ≠ 1 ∧ Q (.bl false) H) ∨ (∃ t, TyX K H x t ∧ PySem.W.kitOne K t (.type "str") = some false ∧ Q (.bl false) H))
theorem dec_t {p : Prop} [Decidable p] (h : p) : V.bl (decide p) = V.bl true := by rw [decide_eq_true h]
theorem dec_f {p : Prop} [Decidable p] (h : ¬ p) : V.bl (decide p) = V.bl false := by rw [decide_eq_false h]
theorem ty_str {K : PySem.W.Frag} {H : Hp} (z : Str) : TyX K H (.str z) (.type "str") := .base (.str z)
theorem look_in : ∀ {t : Tab} {c : Nat} {s : List Nat}, lookT t c = some s → (c, s) ∈ t := by
  intro t c s h
  unfold lookT at h
  cases e : t.find? (fun q => decide (q.1 = c)) with
  | none =>
    rw [e] at h
    cases h
  | some q =>
    rw [e] at h
    have h1 := List.find?_some e
    have h2 := List.mem_of_find?_eq_some e
    have h3 : q.1 = c := by simpa using h1
    have h4 : q.2 = s := by simpa using h
    rw [← h3, ← h4]
    exact h2
theorem Same.upd_back {H : Hp} {d : Addr} {o u : HO} (h : H d = some u) : upd (upd H d o) d u = H := by
  rw [upd_upd]
  funext b
  by_cases hb : b = d
  · rw [hb, upd_same, h]
  · rw [upd_ne hb]
theorem lookT_map (f : Nat → List Nat) (c : Nat) : ∀ ks : List Nat, lookT (ks.map fun c => (c, f c)) c = if c ∈ ks then some (f c) else none
  | [] => by rw [if_neg List.not_mem_nil]; rfl
  | k :: ks => by
    have ih := lookT_map f c ks
    unfold lookT at ih ⊢
    rw [List.map_cons, List.find?_cons]
    by_cases h : k = c
    · subst h
      simp
    · simp only [h, decide_false]
      have e : (c ∈ k :: ks) ↔ c ∈ ks := by
        simp [Ne.symm h]
      rw [ih]
      by_cases h2 : c ∈ ks
      · rw [if_pos h2, if_pos (e.mpr h2)]
      · rw [if_neg h2, if_neg (fun z => h2 (e.mp z))]
abbrev Fu := Nat → Option (List Nat)
def imF (f : Fu) : List Nat → Option (List Nat)
  | [] => some []
  | c :: cs => (f c).bind fun a => (imF f cs).map (a ++ ·)
theorem sum_le (f : Str → Nat) (k : Nat) : ∀ l : List Str, (∀ x ∈ l, f x ≤ k) → (l.map f).sum ≤ k * l.length
  | [], _ => Nat.le_refl _
  | a :: r, h => by
    rw [List.map_cons, List.sum_cons, List.length_cons]
    have h1 := h a (List.mem_cons_self ..)
    have h2 := sum_le f k r fun x hx => h x (List.mem_cons_of_mem _ hx)
    rw [Nat.mul_succ]
    omega
theorem ok_sx {cs : List Nat} (h : ∀ c ∈ cs, isLt c) : PyData.strOk (Sx cs) = true := by
  have e : (Sx cs).cps = cs.toArray := rfl
  unfold PyData.strOk
  rw [e, List.all_toArray, List.all_eq_true]
  intro c hc
  have := (h c hc).2
  exact decide_eq_true (show c < 0x110000 by omega)
theorem join_Sx : ∀ ss : List (List Nat), Txt.join Str.empty (ss.map Sx) = Sx ss.flatten := by
  intro ss
  rw [TL.join_eq]
  have h : TL.tl (Str.join Str.empty (ss.map Sx)) = ss.flatten := by
    rw [TL.tl_join]
    have : ∀ l : List (List Nat), TL.joinL (TL.tl Str.empty) ((l.map Sx).map TL.tl) = l.flatten := by
      intro l
      induction l with
      | nil => rfl
      | cons c r ih =>
        cases r with
        | nil =>
          show TL.tl (Sx c) = [c].flatten
          simp
          rfl
        | cons d r =>
          show TL.tl (Sx c) ++ (TL.tl Str.empty ++ TL.joinL (TL.tl Str.empty) ((((d :: r).map Sx).map TL.tl))) = _
          rw [ih]
          rfl
    exact this ss
  have e2 : (Str.join Str.empty (ss.map Sx)).cps.toList = ss.flatten := h
  show Str.join Str.empty (ss.map Sx) = Sx _
  unfold Sx at e2 ⊢
  cases hx : Str.join Str.empty (ss.map fun cs => (⟨cs.toArray⟩ : Str)) with
  | mk a =>
    rw [hx] at e2
    have e3 : a.toList = ss.flatten := e2
    rw [← e3]
end V8

set_option Elab.async false
set_option linter.all false
set_option maxRecDepth 100000
set_option maxHeartbeats 8000000
/-! Values of any kind copied. -/
namespace V8
open PySem PySem.Spec PyProof.Rows L2
abbrev s_copied : Stmt := topS 1
abbrev n_copied : List Str := ["value", "part", "key"]
theorem sc_copied : FnScope ["value", "part", "key"] ["value"] (defScope s_copied) := ⟨rfl, rfl, rfl, by decide +kernel, rfl, by decide +kernel, by decide +kernel⟩
theorem same_put {H H' : Hp} {D : Addr} {o : HO} (s : Same H H') (n : H' D = none) : Same H (upd H' D o) := fun b u e => by
  rw [upd_ne (ne_of_none (s b u e) n)]
  exact s b u e
theorem same_none {H H' : Hp} {D : Addr} (s : Same H H') (n : H' D = none) : H D = none := by
  cases e : H D with
  | none => rfl
  | some o =>
    rw [s _ _ e] at n
    cases n
theorem valV_at : ∀ {kvs : List (Key × V)} {i : Nat} {k : Key} {v : V}, (kvs.map (·.1)).Nodup → kvs[i]? = some (k, v) → valV kvs k = some v
  | [], i, k, v, _, h => by simp at h
  | p :: r, 0, k, v, _, h => by
    obtain rfl : p = (k, v) := by simpa using h
    simp [valV]
  | p :: r, i + 1, k, v, nd, h => by
    have h2 : r[i]? = some (k, v) := by simpa using h
    have nd2 := List.nodup_cons.mp (by simpa using nd : (p.1 :: r.map (·.1)).Nodup)
    have ne : ¬ p.1 = k := fun z => nd2.1 (z ▸ List.mem_map.mpr ⟨(k, v), List.mem_of_getElem? h2, rfl⟩)
    have ih := valV_at nd2.2 h2
    unfold valV at ih ⊢
    rw [List.find?_cons_of_neg (by simpa using ne)]
    exact ih
theorem not_take {kvs : List (Key × V)} {i : Nat} {k : Key} {v : V} (nd : (kvs.map (·.1)).Nodup) (h : kvs[i]? = some (k, v)) : k ∉ (kvs.take i).map (·.1) := by
  obtain ⟨hi, e⟩ := List.getElem?_eq_some_iff.mp h
  intro z
  rw [← List.take_append_drop i kvs, List.map_append, List.drop_eq_getElem_cons hi, e, List.map_cons] at nd
  exact (List.nodup_append.mp nd).2.2 _ z _ List.mem_cons_self rfl
/-- names that the text does not take -/
structure Tq (mg : Str → Option Value) : Prop extends Blt mg where
  isinstance : mg "isinstance" = none
  repr : mg "repr" = none
  enumerate : mg "enumerate" = none
/-- no list, tuple, dict, object -/
def Flat (x : V) : Prop := (∃ z, x = .str z) ∨ (∃ i, x = .int i) ∨ x = .non ∨ ∃ b, x = .bl b
theorem Flat.ty {K : PySem.W.Frag} {x : V} (f : Flat x) : ∃ t, (∀ H : Hp, TyX K H x t) ∧ PySem.W.kitOne K t (.type "list") = some false ∧ PySem.W.kitOne K t (.type "tuple") = some false ∧ PySem.W.kitOne K t (.type "dict") = some false := by
  rcases f with ⟨z, rfl⟩ | ⟨i, rfl⟩ | rfl | ⟨b, rfl⟩
  · exact ⟨_, fun _ => ty_str _, kit_ty (by decide +kernel), kit_ty (by decide +kernel), kit_ty (by decide +kernel)⟩
  · exact ⟨_, fun _ => .base (.int i), kit_ty (by decide +kernel), kit_ty (by decide +kernel), kit_ty (by decide +kernel)⟩
  · exact ⟨_, fun _ => .base .non, kit_ty (by decide +kernel), kit_ty (by decide +kernel), kit_ty (by decide +kernel)⟩
  · exact ⟨_, fun _ => .base (.bl b), kit_ty (by decide +kernel), kit_ty (by decide +kernel), kit_ty (by decide +kernel)⟩
theorem Flat.pyw {H H2 : Hp} {x : V} {d : PyData} (f : Flat x) (p : PyW H x d) : PyW H2 x d := by
  rcases f with ⟨z, rfl⟩ | ⟨i, rfl⟩ | rfl | ⟨b, rfl⟩ <;> cases p <;> constructor
theorem flats_pyw {H H2 : Hp} : ∀ {xs : List V} {ds : List PyData}, (∀ y ∈ xs, Flat y) → PyWs H xs ds → PyWs H2 xs ds
  | _, _, _, .nil => .nil
  | _, _, f, .cons h r => .cons ((f _ (List.mem_cons_self ..)).pyw h) (flats_pyw (fun y hy => f y (List.mem_cons_of_mem _ hy)) r)
/-- a flat value is handed back as it is -/
def spCopied (K : PySem.W.Frag) : Sp := fun vs H Q _ => ∃ (x : V) (t : Value), vs = [x] ∧ TyX K H x t ∧ PySem.W.kitOne K t (.type "list") = some false ∧ PySem.W.kitOne K t (.type "tuple") = some false ∧ PySem.W.kitOne K t (.type "dict") = some false ∧ Q x H
/-- flat, or a tuple, list or dict of such -/
def Told2 (H : Hp) (x : V) : Prop := Flat x ∨ (∃ a xs, x = .ref a ∧ (H a = some (.tup xs) ∨ H a = some (.lst xs)) ∧ xs.length ≤ 100 ∧ ∀ y ∈ xs, Flat y) ∨ ∃ a kvs, x = .ref a ∧ H a = some (.dK kvs) ∧ kvs.length ≤ 15 ∧ (kvs.map (·.1)).Nodup ∧ ∀ y ∈ kvs.map (·.2), Flat y
theorem Told2.same {H H2 : Hp} {x : V} (t : Told2 H x) (s : Same H H2) : Told2 H2 x := by
  rcases t with f | ⟨a, xs, e, h, l, g⟩ | ⟨a, kvs, e, h, l, n, g⟩
  · exact .inl f
  · exact .inr (.inl ⟨a, xs, e, h.imp (s _ _) (s _ _), l, g⟩)
  · exact .inr (.inr ⟨a, kvs, e, s _ _ h, l, n, g⟩)
theorem putK_new {kvs : List (Key × V)} {k : Key} {v : V} (h : k ∉ kvs.map (·.1)) : putK kvs k v = kvs ++ [(k, v)] := by
  unfold putK
  rw [if_neg]
  intro z
  obtain ⟨p, hp, e⟩ := List.any_eq_true.mp z
  have e2 : p.1 = k := by simpa using e
  exact h (e2 ▸ List.mem_map.mpr ⟨p, hp, rfl⟩)
def spCopyW : Sp := fun vs H Q _ => ∃ (x : V) (d : PyData), vs = [x] ∧ Told2 H x ∧ PyW H x d ∧ ∀ y H', Same H H' → PyW H' y d → Q y H'
section
variable {P : Program} {w : World} {K : PySem.W.Frag} {mg : Str → Option Value} {base : Heap}
theorem ok_copied {f : Addr} {fd : FuncData} (F : Fun K "copied" "copied" s_copied f fd) (T : Tq mg) (D_copied : Df P w K mg base 0 "copied" fun _ _ _ _ => False) : FnOk P w K mg base CX0 1 f fd ["value"] (spCopied K) := by
  refine F.ok sc_copied (fun vs H Q E h => ?_) (fun cdv A outer s H vs Q E hr h => ?_)
  · obtain ⟨x, t, rfl, _⟩ := h
    rfl
  · obtain ⟨x, t, rfl, ty, e1, e2, e3, q⟩ := h
    refine ⟨_, (pss_cons (ps_if (pt_val (pe_callB call_isi (by rfl) T.isinstance (by decide +kernel) (pa_cons (pv 0) (pa_cons (pe_bltn (v := .ty "list") (by rfl) T.list (by decide +kernel) rfl) pa_nil))))
        (pss_one (ps_ret (pe_lc (own := [("part", 1)]) (g := gName 1) (by rfl) sc_copied.nd (pi_list (pv 0)) (blkOk_by (own := [("part", 1)]) (N := n_copied) (sc := defScope s_copied) (by decide +kernel)) (fun _ _ _ _ _ => (pg_name (i := 1) sc_copied.nd rfl (.inl rfl))) (fun _ _ _ _ _ => pts_nil) (fun _ _ _ _ _ => (pe_c D_copied hr (by decide) (by rfl) (pa_cons (pv 1) pa_nil))))))
        pss_nil)
      (pss_cons (ps_if (pt_val (pe_callB call_isi (by rfl) T.isinstance (by decide +kernel) (pa_cons (pv 0) (pa_cons (pe_bltn (v := .ty "tuple") (by rfl) T.tuple (by decide +kernel) rfl) pa_nil))))
        (pss_one (ps_ret (pe_callTy (call_tuple_ofK (K := K) rfl) (by rfl) T.tuple (by decide +kernel) (pa_cons (pe_lc (own := [("part", 1)]) (g := gName 1) (by rfl) sc_copied.nd (pi_tup (pv 0)) (blkOk_by (own := [("part", 1)]) (N := n_copied) (sc := defScope s_copied) (by decide +kernel)) (fun _ _ _ _ _ => (pg_name (i := 1) sc_copied.nd rfl (.inl rfl))) (fun _ _ _ _ _ => pts_nil) (fun _ _ _ _ _ => (pe_c D_copied hr (by decide) (by rfl) (pa_cons (pv 1) pa_nil)))) pa_nil))))
        pss_nil)
      (pss_cons (ps_if (pt_val (pe_callB call_isi (by rfl) T.isinstance (by decide +kernel) (pa_cons (pv 0) (pa_cons (pe_bltn (v := .ty "dict") (by rfl) T.dict (by decide +kernel) rfl) pa_nil))))
        (pss_one (ps_ret (pe_lock (pe_dc (own := [("key", 2)]) (g := gName 2) (by rfl) sc_copied.nd (pi_keys (pv 0)) (blkOk_by (own := [("key", 2)]) (N := n_copied) (sc := defScope s_copied) (by decide +kernel)) (fun _ _ _ _ _ => (pg_name (i := 2) sc_copied.nd rfl (.inl rfl))) (fun _ _ _ _ _ => pts_nil) (fun _ _ _ _ _ => (pv 2)) (fun _ _ _ _ _ => (pe_c D_copied hr (by decide) (by rfl) (pa_cons (pe_dget (hu_of hr) (pv 0) (pv 2) (fun _ _ => rfl)) pa_nil)))))))
        pss_nil)
      (pss_one (ps_ret (pv 0)))))), ?_⟩
    refine ⟨_, rfl, _, .ty "list", t, .type "list", false, rfl, .ty _, ty, e1, false, rfl, iteF ?_⟩
    refine ⟨_, rfl, _, .ty "tuple", t, .type "tuple", false, rfl, .ty _, ty, e2, false, rfl, iteF ?_⟩
    refine ⟨_, rfl, _, .ty "dict", t, .type "dict", false, rfl, .ty _, ty, e3, false, rfl, iteF ?_⟩
    exact ⟨_, rfl, q⟩
theorem ok_copyW {f : Addr} {fd : FuncData} (F : Fun K "copied" "copied" s_copied f fd) (T : Tq mg) (D_copied : Df P w K mg base 1 "copied" (spCopied K)) : FnOk P w K mg base CX0 2 f fd ["value"] spCopyW := by
  refine F.ok sc_copied (fun vs H Q E h => ?_) (fun cdv A outer s H vs Q E hr h => ?_)
  · obtain ⟨x, d, rfl, _⟩ := h
    rfl
  · obtain ⟨x, d, rfl, tl, pv0, q⟩ := h
    refine ⟨_, (pss_cons (ps_if (pt_val (pe_callB call_isi (by rfl) T.isinstance (by decide +kernel) (pa_cons (pv 0) (pa_cons (pe_bltn (v := .ty "list") (by rfl) T.list (by decide +kernel) rfl) pa_nil))))
        (pss_one (ps_ret (pe_lc (own := [("part", 1)]) (g := gName 1) (by rfl) sc_copied.nd (pi_list (pv 0)) (blkOk_by (own := [("part", 1)]) (N := n_copied) (sc := defScope s_copied) (by decide +kernel)) (fun _ _ _ _ _ => (pg_name (i := 1) sc_copied.nd rfl (.inl rfl))) (fun _ _ _ _ _ => pts_nil) (fun _ _ _ _ _ => (pe_c D_copied hr (by decide) (by rfl) (pa_cons (pv 1) pa_nil))))))
        pss_nil)
      (pss_cons (ps_if (pt_val (pe_callB call_isi (by rfl) T.isinstance (by decide +kernel) (pa_cons (pv 0) (pa_cons (pe_bltn (v := .ty "tuple") (by rfl) T.tuple (by decide +kernel) rfl) pa_nil))))
        (pss_one (ps_ret (pe_callTy (call_tuple_ofK (K := K) rfl) (by rfl) T.tuple (by decide +kernel) (pa_cons (pe_lc (own := [("part", 1)]) (g := gName 1) (by rfl) sc_copied.nd (pi_tup (pv 0)) (blkOk_by (own := [("part", 1)]) (N := n_copied) (sc := defScope s_copied) (by decide +kernel)) (fun _ _ _ _ _ => (pg_name (i := 1) sc_copied.nd rfl (.inl rfl))) (fun _ _ _ _ _ => pts_nil) (fun _ _ _ _ _ => (pe_c D_copied hr (by decide) (by rfl) (pa_cons (pv 1) pa_nil)))) pa_nil))))
        pss_nil)
      (pss_cons (ps_if (pt_val (pe_callB call_isi (by rfl) T.isinstance (by decide +kernel) (pa_cons (pv 0) (pa_cons (pe_bltn (v := .ty "dict") (by rfl) T.dict (by decide +kernel) rfl) pa_nil))))
        (pss_one (ps_ret (pe_lock (pe_dc (own := [("key", 2)]) (g := gName 2) (by rfl) sc_copied.nd (pi_keys (pv 0)) (blkOk_by (own := [("key", 2)]) (N := n_copied) (sc := defScope s_copied) (by decide +kernel)) (fun _ _ _ _ _ => (pg_name (i := 2) sc_copied.nd rfl (.inl rfl))) (fun _ _ _ _ _ => pts_nil) (fun _ _ _ _ _ => (pv 2)) (fun _ _ _ _ _ => (pe_c D_copied hr (by decide) (by rfl) (pa_cons (pe_dget (hu_of hr) (pv 0) (pv 2) (fun _ _ => rfl)) pa_nil)))))))
        pss_nil)
      (pss_one (ps_ret (pv 0)))))), ?_⟩
    rcases tl with f | ⟨a, xs, rfl, ha | ha, l, fl⟩ | ⟨a, kvs, rfl, ha, l, nd, fl⟩
    · obtain ⟨t, ty, e1, e2, e3⟩ := f.ty (K := K)
      refine ⟨_, rfl, _, .ty "list", t, .type "list", false, rfl, .ty _, ty _, e1, false, rfl, iteF ?_⟩
      refine ⟨_, rfl, _, .ty "tuple", t, .type "tuple", false, rfl, .ty _, ty _, e2, false, rfl, iteF ?_⟩
      refine ⟨_, rfl, _, .ty "dict", t, .type "dict", false, rfl, .ty _, ty _, e3, false, rfl, iteF ?_⟩
      exact ⟨_, rfl, q _ _ (Same.refl H) pv0⟩
    · refine ⟨_, rfl, _, .ty "list", .type "tuple", .type "list", false, rfl, .ty _, .base (.tup ha), kit_ty (by decide +kernel), false, rfl, iteF ?_⟩
      refine ⟨_, rfl, _, .ty "tuple", .type "tuple", .type "tuple", true, rfl, .ty _, .base (.tup ha), kit_ty (by decide +kernel), true, rfl, iteT ?_⟩
      refine ⟨_, rfl, a, rfl, ⟨_, .inl (.inl ha)⟩, fun D nD => lc_it (walk_tup (K := K) (a := a) (xs := xs)) (fun i H2 => H2 = upd H D (.lst (xs.take i))) rfl ?_ ?_ ?_⟩
      · rintro i H2 hi rfl
        exact .inl (.inl (by rw [upd_ne (ne_of_none ha nD)]; exact ha))
      · rintro i y H2 H3 hi rfl ⟨rfl, hy⟩
        obtain ⟨hi', ey⟩ := List.getElem?_eq_some_iff.mp hy
        obtain ⟨t, ty, e1, e2, e3⟩ := (fl y (ey ▸ List.getElem_mem hi')).ty (K := K)
        refine ⟨rfl, _, rfl, y, t, rfl, ty _, e1, e2, e3, _, upd_same, ?_, ?_⟩
        · rw [List.length_take, sizeLine_eq]
          omega
        · rw [upd_upd, List.take_add_one, hy]
          rfl
      · rintro H2 rfl
        rw [List.take_length]
        refine ⟨D, xs, rfl, .inl ⟨SqL.of upd_same, fun b nb => ?_⟩⟩
        cases pv0 with
        | tup h r =>
          rw [ha] at h
          cases h
          exact q _ _ (same_put (s := same_put (s := Same.refl H) nD) nb) (.tup upd_same (flats_pyw fl r))
        | lst h r =>
          rw [ha] at h
          cases h
        | dic h r =>
          rw [ha] at h
          cases h
    · refine ⟨_, rfl, _, .ty "list", .type "list", .type "list", true, rfl, .ty _, .base (.lst ha), kit_ty (by decide +kernel), true, rfl, iteT ?_⟩
      refine ⟨_, rfl, a, rfl, ⟨_, SqL.of ha⟩, fun D nD => lc_it (walk_list (K := K) (a := a) (xs := xs)) (fun i H2 => H2 = upd H D (.lst (xs.take i))) rfl ?_ ?_ ?_⟩
      · rintro i H2 hi rfl
        exact SqL.of (by rw [upd_ne (ne_of_none ha nD)]; exact ha)
      · rintro i y H2 H3 hi rfl ⟨rfl, hy⟩
        obtain ⟨hi', ey⟩ := List.getElem?_eq_some_iff.mp hy
        obtain ⟨t, ty, e1, e2, e3⟩ := (fl y (ey ▸ List.getElem_mem hi')).ty (K := K)
        refine ⟨rfl, _, rfl, y, t, rfl, ty _, e1, e2, e3, _, upd_same, ?_, ?_⟩
        · rw [List.length_take, sizeLine_eq]
          omega
        · rw [upd_upd, List.take_add_one, hy]
          rfl
      · rintro H2 rfl
        rw [List.take_length]
        cases pv0 with
        | tup h r =>
          rw [ha] at h
          cases h
        | lst h r =>
          rw [ha] at h
          cases h
          exact q _ _ (same_put (s := Same.refl H) nD) (.lst upd_same (flats_pyw fl r))
        | dic h r =>
          rw [ha] at h
          cases h
    · refine ⟨_, rfl, _, .ty "list", .type "dict", .type "list", false, rfl, .ty _, .base (.dK ha), kit_ty (by decide +kernel), false, rfl, iteF ?_⟩
      refine ⟨_, rfl, _, .ty "tuple", .type "dict", .type "tuple", false, rfl, .ty _, .base (.dK ha), kit_ty (by decide +kernel), false, rfl, iteF ?_⟩
      refine ⟨_, rfl, _, .ty "dict", .type "dict", .type "dict", true, rfl, .ty _, .base (.dK ha), kit_ty (by decide +kernel), true, rfl, iteT ?_⟩
      refine ⟨a, _, ha, True.intro, fun od => ⟨_, rfl, a, od, rfl, .inl ⟨_, upd_same, fun D nD => dc_it (walk_keys (d := a) (o := od) (kvs := kvs)) (fun i H2 => H2 = upd (upd H a (.frz od (.dK kvs))) D (.dK (kvs.take i))) rfl ?_ ?_ ?_⟩⟩⟩
      · rintro i H2 hi rfl
        rw [upd_ne (ne_of_none upd_same nD)]
        exact upd_same
      · rintro i x H2 H3 hi rfl ⟨rfl, k, v, hk, rfl⟩
        obtain ⟨hi', ek⟩ := List.getElem?_eq_some_iff.mp hk
        obtain ⟨t, ty, e1, e2, e3⟩ := (fl v (List.mem_map.mpr ⟨(k, v), ek ▸ List.getElem_mem hi', rfl⟩)).ty (K := K)
        have ad : a ≠ D := ne_of_none (show upd H a (.frz od (.dK kvs)) a = _ from upd_same) nD
        refine ⟨rfl, _, rfl, _, rfl, _, rfl, a, v, rfl, .inl ⟨kvs, k, .inr ⟨od, by rw [upd_ne ad]; exact upd_same⟩, rfl, (valV_at nd hk).symm⟩, v, t, rfl, ty _, e1, e2, e3, kvs.take i, k, rfl, upd_same, ?_, ?_⟩
        · rw [List.length_take, sizeLine_eq]
          omega
        · rw [upd_upd, putK_new (not_take nd hk), List.take_add_one, hk]
          rfl
      · rintro H2 rfl
        rw [List.take_length]
        have ad : a ≠ D := ne_of_none (show upd H a (.frz od (.dK kvs)) a = _ from upd_same) nD
        have nD2 : H D = none := by
          rw [upd_ne (Ne.symm ad)] at nD
          exact nD
        have eH : upd (upd (upd H a (.frz od (.dK kvs))) D (.dK kvs)) a (.dK kvs) = upd H D (.dK kvs) := by
          funext b
          by_cases h1 : b = a
          · rw [h1, upd_same, upd_ne ad, ha]
          · by_cases h2 : b = D
            · rw [h2, upd_ne (Ne.symm ad), upd_same, upd_same]
            · rw [upd_ne h1, upd_ne h2, upd_ne h1, upd_ne h2]
        refine ⟨by rw [upd_ne ad]; exact upd_same, ?_⟩
        rw [eH]
        cases pv0 with
        | tup h r =>
          rw [ha] at h
          cases h
        | lst h r =>
          rw [ha] at h
          cases h
        | dic h r =>
          rw [ha] at h
          cases h
          exact q _ _ (same_put (s := Same.refl H) nD2) (.dic upd_same (flats_pyw fl r))
end
end V8

set_option Elab.async false
set_option linter.all false
set_option maxRecDepth 100000
set_option maxHeartbeats 4000000
/-! Own errors made and kept as values. -/
namespace L2
open PySem PySem.Spec PyProof.Rows
section
variable {X : Cx} {pins : List (Addr × Obj)} {σ : St} {H : Hp} {s : Shared} {a : Addr} {φ : Heap → Prop} {o : HO}
/-- another word for a thing of one's own -/
theorem Inv.reword (I : Inv X pins σ H s) (e : H a = some (.ext φ)) (ok : ObjOk X.prog X.w (upd H a o) s.heap a o) : Inv X pins σ (upd H a o) s := by
  have off : ∀ {b : Addr} {u : HO}, H b = some u → (∀ ψ, u ≠ .ext ψ) → upd H a o b = some u := fun {b u} h n => by
    rw [upd_ne]
    · exact h
    · intro z
      rw [z, e] at h
      exact n _ (Option.some.inj h).symm
  have none_ : ∀ {b : Addr}, H b = none → upd H a o b = none := fun {b} h => by
    rw [upd_ne]
    · exact h
    · intro z
      rw [z, e] at h
      cases h
  exact {
    ok := I.ok
    os := I.os
    bare := I.bare
    base := {
      keep := I.base.keep
      slot := I.base.slot
      free := fun b u h n x => none_ (I.base.free b u h n x)
      there := I.base.there
      tups := fun b xs h => off (I.base.tups b xs h) fun _ z => nomatch z
      frzs := fun b u v h => off (I.base.frzs b u v h) fun _ z => nomatch z
      tbls := fun b ps h => by
        obtain ⟨more, h2⟩ := I.base.tbls b ps h
        exact ⟨more, off h2 fun _ z => nomatch z⟩ }
    loc := I.loc
    cell := I.cell
    free := none_ I.free
    freeC := fun x c h => none_ (I.freeC x c h)
    pin := fun p hp => ⟨(I.pin p hp).1, none_ (I.pin p hp).2.1, (I.pin p hp).2.2⟩
    hok := fun b u h => by
      by_cases hb : b = a
      · subst hb
        rw [upd_same] at h
        cases h
        exact ok
      · rw [upd_ne hb] at h
        exact (I.hok b u h).stay (fun c v _ y => y) (fun c h2 => off h2 fun _ z => nomatch z) fun c xs h2 => off h2 fun _ z => nomatch z
    len := I.len }
end
/-- an error made: its class, its fields -/
def tEr (C : Addr) (sp : Sp) (ta : TA) : TE := fun σ H Q => ta σ H fun vs H1 => vs.length ≤ 1000 ∧ ∀ a, H1 a = none → sp (.ref a :: (vs ++ [])) (upd H1 a (exo a C none))
  (fun v H2 => v = .non ∧ ((∃ (d : Addr) (fs : List (Str × V)), H2 a = some (exo a C (some d)) ∧ H2 d = some (exd d fs) ∧ Q (.ref a) (upd (upd H2 a (CaughtO (.ref C) (some d) a)) d (.xd fs))) ∨
    (H2 a = some (exo a C none) ∧ Q (.ref a) (upd H2 a (CaughtO (.ref C) none a))))) (fun _ _ _ => False)
theorem caught_ok {P : Program} {w : World} {H : Hp} {h : Heap} {a C t0 : Addr} {d : Option Addr} (e : h.get? a = some ({ cls := .ref C, dict := d, data := .fields #[.ref t0, .none, .none, .none, .bool false, .none] } : Obj)) : ObjOk P w H h a (CaughtO (.ref C) d a) :=
  ⟨⟨_, _, e, ⟨rfl, rfl⟩, rfl⟩, ⟨_, e⟩, fun _ _ ⟨o, v, q, r⟩ k => ⟨o, v, k o q, r⟩⟩
section
variable {X : Cx} {pins : List (Addr × Obj)} {σ : St} {H : Hp} {s : Shared} {a C : Addr} {Q : VK}
/-- what the maker leaves, kept as a value -/
theorem Inv.kept_err {d : Addr} {fs : List (Str × V)} (I : Inv X pins σ H s) (ea : H a = some (exo a C (some d))) (ed : H d = some (exd d fs)) : Inv X pins σ (upd (upd H a (CaughtO (.ref C) (some d) a)) d (.xd fs)) s := by
  obtain ⟨t0, e⟩ := exo_at I.hok ea
  have da : d ≠ a := fun z => by
    obtain ⟨⟨mA, ns, _⟩, _, _⟩ := I.hok d _ ed
    obtain ⟨o, es, ep, h1, h2, _⟩ := ns
    rw [z, e] at h1
    cases h1
    cases h2
  have I2 := I.reword (o := CaughtO (.ref C) (some d) a) ea (caught_ok e)
  have ed2 : upd H a (CaughtO (.ref C) (some d) a) d = some (exd d fs) := by
    rw [upd_ne da]
    exact ed
  obtain ⟨⟨mA, ns, rel⟩, _, _⟩ := I.hok d _ ed
  exact I2.reword (o := .xd fs) ed2 ⟨mA, ns, rel⟩
theorem Inv.kept_err0 (I : Inv X pins σ H s) (ea : H a = some (exo a C none)) : Inv X pins σ (upd H a (CaughtO (.ref C) none a)) s := by
  obtain ⟨t0, e⟩ := exo_at I.hok ea
  exact I.reword ea (caught_ok e)
end
/-- what is asked of the def that fills a new error -/
def EndE (C a : Addr) (Q : VK) : VK := fun v H2 => v = .non ∧ ((∃ (d : Addr) (fs : List (Str × V)), H2 a = some (exo a C (some d)) ∧ H2 d = some (exd d fs) ∧ Q (.ref a) (upd (upd H2 a (CaughtO (.ref C) (some d) a)) d (.xd fs))) ∨
    (H2 a = some (exo a C none) ∧ Q (.ref a) (upd H2 a (CaughtO (.ref C) none a))))
section
variable {X : Cx} {C : CXT} {k j : Nat} {fd : FuncData} {ps : List Str} {sp : Sp} {x : Str} {p pos : Pos} {e : Expr} {es : List Expr} {ta : TA}
/-- the class is called -/
theorem er_core {Cl fI : Addr} {pins : List (Addr × Obj)} {σ : St} {H1 : Hp} {s1 : Shared} {Q : VK} {us : List Value} {xs : List V} (T : OexC X.K Cl) (iC : PySem.W.findIn X.K (.ref Cl) "__init__" = some (some (.ref fI))) (tI : PySem.W.typeIn X.K (.ref fI) = some (.type "function"))
    (Fn : FnG X.prog X.w X.K X.mg X.base C k fI fd ps sp) (g : Quiet X.A) (r : Room (k + 1) X.A) (b : Binds X.K fd ps []) (none_out : Passes C X (fun _ _ _ => False)) (J : Inv X pins σ H1 s1) (v : Vals xs us) (small : xs.length ≤ 1000)
    (q : ∀ a, H1 a = none → sp (.ref a :: (xs ++ [])) (upd H1 a (exo a Cl none)) (EndE Cl a Q) (fun _ _ _ => False)) : wpAny (model X.prog X.w) X.A (call (.ref Cl) us) (EP X pins σ Q) X.xe s1 := by
  obtain ⟨nm, qn, NN, bs, bm, sn, sub, ab, col, dd, k0, k1, k2, k3, k5, isC, isB⟩ := T.cls
  obtain ⟨hp, gn, dr, tk, os⟩ := s1
  have up : hp.objs.size ≤ hp.objs.size + 1 := Nat.le_succ _
  have new : H1 (hp.objs.size + 1) = none := J.hok.fresh up
  have q2 := q _ new
  generalize hG : (hp.push (PySem.W.kdv_tup us)).push (PySem.HandSPX.excO Cl hp.objs.size) = G
  have keep : ∀ c o, hp.get? c = some o → G.get? c = some o := fun c o z => by
    rw [← hG]
    exact Heap.get?_push_of_some _ (Heap.get?_push_of_some _ z)
  have here : G.get? (hp.objs.size + 1) = some (PySem.HandSPX.excO Cl hp.objs.size) := by
    rw [← hG]
    heap_get
  have J2 : Inv X pins σ (upd H1 (hp.objs.size + 1) (exo (hp.objs.size + 1) Cl none)) ⟨G, gn, dr, tk, os⟩ := J.laid (t' := tk) keep up (exo_ok here)
  have v2 : Vals (V.ref (hp.objs.size + 1) :: (xs ++ [])) (Value.ref (hp.objs.size + 1) :: (us ++ [])) := .cons rfl (v.append .nil)
  have n2 : (Value.ref (hp.objs.size + 1) :: us ++ []).length = ps.length := by
    have z := v2.length
    rw [Fn.count _ _ _ _ q2] at z
    exact z.symm
  have short : us.length ≤ sizeLine := by
    have z := v.length
    rw [← z, sizeLine_eq]
    omega
  have bb : BindsTo ⟨G, gn, dr, tk, os⟩ fd ⟨Value.ref (hp.objs.size + 1) :: us, []⟩ (ps.zip (Value.ref (hp.objs.size + 1) :: (us ++ []))) := by
    have z := b ⟨G, gn, dr, tk, os⟩ (Value.ref (hp.objs.size + 1) :: us) J2.kIn n2
    rw [List.cons_append] at z
    exact z
  have ran := Fn.runs _ X.stack _ _ ⟨Value.ref (hp.objs.size + 1) :: us, []⟩ (Value.ref (hp.objs.size + 1) :: (us ++ [])) _ _ (fun _ _ _ => False) (under_quiet g) (r.make Cl us []) (J2.env0.make Cl us []) bb v2 q2
  have isC2 := J.kIn _ _ isC
  subst hG
  refine wpAny_call (PySem.HandSPX.call_own PySem.F.excBase_ValueError (fun Y => PySem.HandSPX.refsVE_contains Y bm isB) isC2 (PySem.W.looks_findIn J.kIn iC) (fun self => PySem.W.bind_fn J.kIn self tI) short (codeAny_mono ran fun a s2 z => ?_))
  match a, z with
  | .error er, z => exact none_out pins σ _ _ er s2 J2 z
  | .ok .next, z => exact z.elim
  | .ok .brk, z => exact z.elim
  | .ok .cont, z => exact z.elim
  | .ok (.ret u), z =>
    obtain ⟨y, H2, J3, rv, ey, z⟩ := J2.after z
    subst ey
    refine ⟨rv, ?_⟩
    rcases z with ⟨d, fs, ea, ed, q3⟩ | ⟨ea, q3⟩
    · exact ⟨.ref _, _, J3.kept_err ea ed, rfl, q3⟩
    · exact ⟨.ref _, _, J3.kept_err0 ea, rfl, q3⟩
theorem pe_er {Cl fI : Addr} (T : OexC X.K Cl) (iC : PySem.W.findIn X.K (.ref Cl) "__init__" = some (some (.ref fI))) (tI : PySem.W.typeIn X.K (.ref fI) = some (.type "function"))
    (Fn : FnG X.prog X.w X.K X.mg X.base C k fI fd ps sp) (g : Quiet X.A) (r : Room (k + 1) X.A) (b : Binds X.K fd ps []) (none_out : Passes C X (fun _ _ _ => False)) (hg : Gl X x) (hm : X.mg x = some (.ref Cl)) (ha : PA X (e :: es) ta)
    (hdb : (x == ("__debug__" : Str)) = false := by decide) (he : starEach (e :: es) X.env = (false, eval e X.env) :: starEach es X.env := by rfl) (hpl : (backTo pos (starEach es X.env)).any (·.1) = false := by rfl) :
    PE X (.Call (.Name x p) (e :: es) [] pos) (fun σ H Q => ta σ H fun vs H1 => vs.length ≤ 1000 ∧ ∀ a, H1 a = none → sp (.ref a :: (vs ++ [])) (upd H1 a (exo a Cl none)) (EndE Cl a Q) (fun _ _ _ => False)) := by
  refine ⟨fun pins s σ H Q I h => ?_⟩
  refine wpAny_Call_Name_kw (ld_glob I hg hm ?_ hdb)
  refine PySem.W.callWith_K (h₀ := X.base) I.ok.mod.kin T.kC (thn (ha.run pos pins s σ H _ I h) fun us s1 z => ?_) he hpl
  obtain ⟨xs, H1, J, v, small, q⟩ := z
  exact ⟨J.kIn, er_core T iC tI Fn g r b none_out J v small q⟩
theorem pe_er0 {Cl fI : Addr} (T : OexC X.K Cl) (iC : PySem.W.findIn X.K (.ref Cl) "__init__" = some (some (.ref fI))) (tI : PySem.W.typeIn X.K (.ref fI) = some (.type "function"))
    (Fn : FnG X.prog X.w X.K X.mg X.base C k fI fd ps sp) (g : Quiet X.A) (r : Room (k + 1) X.A) (b : Binds X.K fd ps []) (none_out : Passes C X (fun _ _ _ => False)) (hg : Gl X x) (hm : X.mg x = some (.ref Cl))
    (hdb : (x == ("__debug__" : Str)) = false := by decide) : PE X (.Call (.Name x p) [] [] pos) (fun σ H Q => ∀ a, H a = none → sp [.ref a] (upd H a (exo a Cl none)) (EndE Cl a Q) (fun _ _ _ => False)) := by
  refine ⟨fun pins s σ H Q I h => ?_⟩
  refine wpAny_Call_Name_kw (ld_glob I hg hm ?_ hdb)
  exact PySem.W.callWith_K0 I.kIn T.kC (er_core (us := []) (xs := []) T iC tI Fn g r b none_out I .nil (by decide) h)
end
end L2

set_option Elab.async false
set_option linter.all false
set_option maxRecDepth 100000
set_option maxHeartbeats 4000000
/-! Own errors made by keywords. -/
namespace PySem
namespace HandSPX
open PySem.W PySem.Calls PyProof.Rows
section
variable {prog : Program} {w : World} {A : Around} {E : Value → Shared → Prop} {R : Result → Shared → Prop} {hp : Heap} {gs : Array GenState} {dr : Drawn} {tk : Nat} {os : OsState}
variable {cn cq : Str} {Cl Nn : Addr} {b1 b2 bB : List Value} {hasD : Bool} {sN : List Str} {sB : List Value} {aB : Bool} {cO : Option Bool} {dD : Option Addr} {z0 z1 z2 z3 z5 : Option Value} {Bs nw ini : String} {kw : List (Str × Value)}
theorem check_newK {M : Model} (Fx : ExcBaseFacts Bs nw ini bB) (same : ∀ Y : String, b2.contains (.type Y) = bB.contains (.type Y)) {us : List Value} {Q : Unit → Shared → Prop}
    (isC : hp.get? Cl = some (excClassObj cn cq Cl Nn b1 b2 hasD sN sB aB cO dD z0 z1 z2 z3 z5 nw)) (q : Q () ⟨hp, gs, dr, tk, os⟩) : wpAny M A (checkBuiltinCall nw ⟨.ref Cl :: us, kw⟩) Q E ⟨hp, gs, dr, tk, os⟩ := by
  have inB : (Value.ref Cl :: b2).contains (.type Bs) = true := by
    rw [List.contains_cons, same, Fx.hasB, Bool.or_true]
  have noS := Fx.noStar
  simp only [checkBuiltinCall, Fx.newKind, Fx.newSplit, Fx.newRow]
  repeat (first | refine wpAny_loadPart_at isC ?_ | (refine wpAny_isSubtype_exc isC ?_; rw [inB]) | refine wpAny_staticBase_exc isC ?_ | refine wpAny_madeBy_exc isC ?_ | simp only [bne_self_eq_false, Bool.false_eq_true, if_false] | wp_step)
  exact q
theorem newK (Fx : ExcBaseFacts Bs nw ini bB) (same : ∀ Y : String, b2.contains (.type Y) = bB.contains (.type Y)) {us : List Value}
    (isC : hp.get? Cl = some (excClassObj cn cq Cl Nn b1 b2 hasD sN sB aB cO dD z0 z1 z2 z3 z5 nw))
    (q : R (.ok (.ret (.ref (hp.objs.size + 1)))) ⟨(hp.push (W.kdv_tup us)).push (excO Cl hp.objs.size), gs, dr, tk, os⟩) (few : us.length ≤ sizeLine) :
    codeAny (model prog w) A (.builtin nw ⟨.ref Cl :: us, kw⟩) R ⟨hp, gs, dr, tk, os⟩ := by
  have en := Fx.ends
  have cB : (Value.ref Cl :: b2).contains (.type Bs) = true := by
    rw [List.contains_cons, same, Fx.hasB, Bool.or_true]
  have cA : (Value.ref Cl :: b2).contains (.type "AttributeError") = false := by
    rw [List.contains_cons, same, Fx.noAttr]
    rfl
  have cN : (Value.ref Cl :: b2).contains (.type "NameError") = false := by
    rw [List.contains_cons, same, Fx.noName]
    rfl
  refine codeAny_builtinAt Fx.entry ?_
  unfold Builtin.«BaseException.__new__»
  refine wpAt_bind ?_
  show wpAt _ _ _ (stack >>= _) _ _ _
  refine wpAt_bind (wpAt_stack fun p below => wpAt_of_wpAny ?_)
  wp_walk
  refine wpAt_of_wpAny ?_
  rw [Fx.owner]
  repeat (first | with_reducible refine wpAny_madeHere_exc Fx.canon isC ?_ | with_reducible refine wpAny_loadPart_at isC ?_ | (with_reducible refine wpAny_isSubtype_exc isC ?_; first | rw [cB] | rw [cA] | rw [cN]) | wp_step)
  show R _ _
  rw [Heap.size_push]
  exact q
theorem type_callK (Fx : ExcBaseFacts Bs nw ini bB) (same : ∀ Y : String, b2.contains (.type Y) = bB.contains (.type Y)) {us : List Value} {fI : Addr} {Q : Fin → Shared → Prop}
    (isC : hp.get? Cl = some (excClassObj cn cq Cl Nn b1 b2 hasD sN sB aB cO dD z0 z1 z2 z3 z5 nw))
    (isI : W.Looks (model prog w) hp (typeLookup (.ref Cl) "__init__") (some (.ref fI))) (bd : ∀ self, W.Looks (model prog w) hp (bindSpecial (.ref fI) self) (.ref fI, [self])) (few : us.length ≤ sizeLine)
    (q : codeAny (model prog w) A (.call (.ref fI) ⟨.ref (hp.objs.size + 1) :: us, kw⟩)
      (fun a s2 => match a with | .ok (.ret v) => v = .none ∧ Q (.done (.ret (.ref (hp.objs.size + 1)))) s2 | .ok _ => False | .error e => E e s2)
      ⟨(hp.push (W.kdv_tup us)).push (excO Cl hp.objs.size), gs, dr, tk, os⟩) :
    wpAny (model prog w) A (Builtin.«type.__call__» ⟨.ref Cl :: us, kw⟩) Q E ⟨hp, gs, dr, tk, os⟩ := by
  repeat (first | with_reducible refine wpAny_loadPart_at isC ?_ | with_reducible refine wpAny_madeBy_exc isC ?_ | wp_step)
  refine codeAny_call_builtin_code (Code.quiet_builtin _ Fx.quiet) (check_newK Fx same isC ?_)
  refine newK Fx same isC ?_ few
  show wpAny _ _ _ _ _ _
  have up : ∀ c o, hp.get? c = some o → ((hp.push (W.kdv_tup us)).push (excO Cl hp.objs.size)).get? c = some o := fun c o z => Heap.get?_push_of_some _ (Heap.get?_push_of_some _ z)
  have isC2 := up _ _ isC
  have here : ((hp.push (W.kdv_tup us)).push (excO Cl hp.objs.size)).get? (hp.objs.size + 1) = some (excO Cl hp.objs.size) := by heap_get
  have own : (Value.ref Cl :: b2).contains (.ref Cl) = true := by simp
  have i2 := isI.keeps up
  have bd2 := (bd (.ref (hp.objs.size + 1))).keeps up
  unfold isInstance
  repeat (first | with_reducible refine wpAny_loadPart_at here ?_ | (with_reducible refine wpAny_isSubtype_exc isC2 ?_; rw [own]) | wp_step)
  show wpAny _ _ (typeLookup (.ref Cl) _) _ _ _
  refine i2.at ?_
  refine wpAny_holding (wpAny_bind (bd2.at ?_))
  refine wpAny_bind (wpAny_call (codeAny_mono q fun a s2 z => ?_))
  rcases a with e | (v | _ | _ | _) <;> first | exact z | exact z.elim | skip
  obtain ⟨rfl, z⟩ := z
  first
    | exact wpAny_pure (wpAny_pure z)
    | (wp_walk; exact z)
theorem call_ownK (Fx : ExcBaseFacts Bs nw ini bB) (same : ∀ Y : String, b2.contains (.type Y) = bB.contains (.type Y)) {us : List Value} {fI : Addr}
    (isC : hp.get? Cl = some (excClassObj cn cq Cl Nn b1 b2 hasD sN sB aB cO dD z0 z1 z2 z3 z5 nw))
    (isI : W.Looks (model prog w) hp (typeLookup (.ref Cl) "__init__") (some (.ref fI))) (bd : ∀ self, W.Looks (model prog w) hp (bindSpecial (.ref fI) self) (.ref fI, [self])) (few : us.length ≤ sizeLine)
    (q : codeAny (model prog w) (A.under (.builtin "type.__call__" ⟨.ref Cl :: us, kw⟩)) (.call (.ref fI) ⟨.ref (hp.objs.size + 1) :: us, kw⟩) (W.InitBack (hp.objs.size + 1) R)
      ⟨(hp.push (W.kdv_tup us)).push (excO Cl hp.objs.size), gs, dr, tk, os⟩) :
    codeAny (model prog w) A (.call (.ref Cl) ⟨us, kw⟩) R ⟨hp, gs, dr, tk, os⟩ := by
  have f1 := tc_lookup
  have f2 := tc_bind (.ref Cl)
  have ty : (⟨hp, gs, dr, tk, os⟩ : Shared).TypeIs (.ref Cl) "type" := ⟨_, isC, rfl⟩
  refine codeAny_of_tree ?_
  show wpAny _ _ (callAny (.ref Cl) _) _ _ _
  repeat (any_goals (first | assumption | with_reducible refine wpAny_loadPart_at isC ?_ | wp_step))
  refine ⟨rfl, ?_⟩
  refine codeAny_call_builtin_at (Code.quiet_builtin _ (by decide +kernel)) entry_typeCall (wpAny_check_type_call_sub isC (type_callK Fx same isC isI bd few ?_))
  refine codeAny_mono q fun a s2 z => ?_
  rcases a with e | (v | _ | _ | _) <;> exact z
end
end HandSPX
end PySem

namespace L2
open PySem PySem.Spec PyProof.Rows
section
variable {X : Cx} {C : CXT} {k j : Nat} {fd : FuncData} {ps : List Str} {sp : Sp} {x : Str} {p pos : Pos} {kws : List Keyword} {tk : TA}
theorem under_quietK {A : Around} {Cl : Addr} {us : List Value} {kw : List (Str × Value)} (g : Quiet A) : Quiet (A.under (.builtin "type.__call__" ⟨.ref Cl :: us, kw⟩)) := under_quiet g
theorem er_coreK {Cl fI : Addr} {pins : List (Addr × Obj)} {σ : St} {H1 : Hp} {s1 : Shared} {Q : VK} {ws : List Value} {zs : List V} {ks : List Str} {gU : List Value → List Value → List Value} {gV : List V → List V → List V} (T : OexC X.K Cl) (iC : PySem.W.findIn X.K (.ref Cl) "__init__" = some (some (.ref fI))) (tI : PySem.W.typeIn X.K (.ref fI) = some (.type "function"))
    (Fn : FnG X.prog X.w X.K X.mg X.base C k fI fd ps sp) (g : Quiet X.A) (r : Room (k + 1) X.A) (b : KBn X.K fd ps 1 ks gU gV) (none_out : Passes C X (fun _ _ _ => False)) (J : Inv X pins σ H1 s1) (v : Vals zs ws) (many : zs.length = ks.length)
    (q : ∀ a, H1 a = none → sp (gV [.ref a] zs) (upd H1 a (exo a Cl none)) (EndE Cl a Q) (fun _ _ _ => False)) : wpAny (model X.prog X.w) X.A (call (.ref Cl) [] (ks.zip ws)) (EP X pins σ Q) X.xe s1 := by
  obtain ⟨nm, qn, NN, bs, bm, sn, sub, ab, col, dd, k0, k1, k2, k3, k5, isC, isB⟩ := T.cls
  obtain ⟨hp, gn, dr, tk, os⟩ := s1
  have up : hp.objs.size ≤ hp.objs.size + 1 := Nat.le_succ _
  have new : H1 (hp.objs.size + 1) = none := J.hok.fresh up
  have q2 := q _ new
  generalize hG : (hp.push (PySem.W.kdv_tup [])).push (PySem.HandSPX.excO Cl hp.objs.size) = G
  have keep : ∀ c o, hp.get? c = some o → G.get? c = some o := fun c o z => by
    rw [← hG]
    exact Heap.get?_push_of_some _ (Heap.get?_push_of_some _ z)
  have here : G.get? (hp.objs.size + 1) = some (PySem.HandSPX.excO Cl hp.objs.size) := by
    rw [← hG]
    heap_get
  have J2 : Inv X pins σ (upd H1 (hp.objs.size + 1) (exo (hp.objs.size + 1) Cl none)) ⟨G, gn, dr, tk, os⟩ := J.laid (t' := tk) keep up (exo_ok here)
  have v2 := b.rel (vs := [V.ref (hp.objs.size + 1)]) (us := [Value.ref (hp.objs.size + 1)]) (.cons rfl .nil) v
  have bb := b.to ⟨G, gn, dr, tk, os⟩ [Value.ref (hp.objs.size + 1)] ws J2.kIn rfl (v.length.symm.trans many)
  have ran := Fn.runs _ X.stack _ _ ⟨[Value.ref (hp.objs.size + 1)], ks.zip ws⟩ (gU [Value.ref (hp.objs.size + 1)] ws) _ _ (fun _ _ _ => False) (under_quiet g) (r.make Cl [] (ks.zip ws)) (J2.env0.make Cl [] (ks.zip ws)) bb v2 q2
  have isC2 := J.kIn _ _ isC
  subst hG
  refine wpAny_call (PySem.HandSPX.call_ownK PySem.F.excBase_ValueError (fun Y => PySem.HandSPX.refsVE_contains Y bm isB) isC2 (PySem.W.looks_findIn J.kIn iC) (fun self => PySem.W.bind_fn J.kIn self tI) (Nat.zero_le _) (codeAny_mono ran fun a s2 z => ?_))
  match a, z with
  | .error er, z => exact none_out pins σ _ _ er s2 J2 z
  | .ok .next, z => exact z.elim
  | .ok .brk, z => exact z.elim
  | .ok .cont, z => exact z.elim
  | .ok (.ret u), z =>
    obtain ⟨y, H2, J3, rv, ey, z⟩ := J2.after z
    subst ey
    refine ⟨rv, ?_⟩
    rcases z with ⟨d, fs, ea, ed, q3⟩ | ⟨ea, q3⟩
    · exact ⟨.ref _, _, J3.kept_err ea ed, rfl, q3⟩
    · exact ⟨.ref _, _, J3.kept_err0 ea, rfl, q3⟩
theorem pe_erK {Cl fI : Addr} {ks : List Str} {gU : List Value → List Value → List Value} {gV : List V → List V → List V} (T : OexC X.K Cl) (iC : PySem.W.findIn X.K (.ref Cl) "__init__" = some (some (.ref fI))) (tI : PySem.W.typeIn X.K (.ref fI) = some (.type "function"))
    (Fn : FnG X.prog X.w X.K X.mg X.base C k fI fd ps sp) (g : Quiet X.A) (r : Room (k + 1) X.A) (b : KBn X.K fd ps 1 ks gU gV) (none_out : Passes C X (fun _ _ _ => False)) (hg : Gl X x) (hm : X.mg x = some (.ref Cl)) (hkw : PK X kws tk)
    (hall : (backToKw pos (keywordEach kws X.env)).all (·.1.isSome) = true := by rfl) (hks : (backToKw pos (keywordEach kws X.env)).filterMap (·.1) = ks := by rfl) (hdb : (x == ("__debug__" : Str)) = false := by decide)
    (hpl : ((backTo pos (starEach [] X.env)).any (·.1) || (backToKw pos (keywordEach kws X.env)).any (·.1.isNone)) = false := by rfl) :
    PE X (.Call (.Name x p) [] kws pos) (fun σ H Q => tk σ H fun zs H1 => zs.length = ks.length ∧ ∀ a, H1 a = none → sp (gV [.ref a] zs) (upd H1 a (exo a Cl none)) (EndE Cl a Q) (fun _ _ _ => False)) := by
  refine ⟨fun pins s σ H Q I h => ?_⟩
  refine wpAny_Call_Name_kw (ld_glob I hg hm ?_ hdb)
  refine PySem.W.callWith_KW0 (h₀ := X.base) I.ok.mod.kin T.kC hall ?_ hpl
  refine thn (hkw.run pos pins s σ H _ I h) fun ws s2 ⟨zs, H2, I2, rz, l2, q2⟩ => ⟨I2.kIn, ?_⟩
  rw [hks]
  exact er_coreK T iC tI Fn g r b none_out I2 rz l2 q2
end
end L2

set_option Elab.async false
set_option linter.all false
set_option maxRecDepth 100000
set_option maxHeartbeats 8000000
/-! The errors filled. -/
namespace V8
open PySem PySem.Spec PyProof.Rows L2
abbrev s_BadLetter_init : Stmt := inClass (topS 4) 0
abbrev n_BadLetter_init : List Str := ["self", "value"]
theorem sc_BadLetter_init : FnScope ["self", "value"] ["self", "value"] (defScope s_BadLetter_init) := ⟨rfl, rfl, rfl, by decide +kernel, rfl, by decide +kernel, by decide +kernel⟩
abbrev s_BadWord_init : Stmt := inClass (topS 5) 0
abbrev n_BadWord_init : List Str := ["self", "value"]
theorem sc_BadWord_init : FnScope ["self", "value"] ["self", "value"] (defScope s_BadWord_init) := ⟨rfl, rfl, rfl, by decide +kernel, rfl, by decide +kernel, by decide +kernel⟩
abbrev s_BadTable_init : Stmt := inClass (topS 6) 0
abbrev n_BadTable_init : List Str := ["self", "part"]
theorem sc_BadTable_init : FnScope ["self", "part"] ["self", "part"] (defScope s_BadTable_init) := ⟨rfl, rfl, rfl, by decide +kernel, rfl, by decide +kernel, by decide +kernel⟩
abbrev s_BadCode_init : Stmt := inClass (topS 7) 0
abbrev n_BadCode_init : List Str := ["self", "value"]
theorem sc_BadCode_init : FnScope ["self", "value"] ["self", "value"] (defScope s_BadCode_init) := ⟨rfl, rfl, rfl, by decide +kernel, rfl, by decide +kernel, by decide +kernel⟩
abbrev s_NoSign_init : Stmt := inClass (topS 8) 0
abbrev n_NoSign_init : List Str := ["self", "letter"]
theorem sc_NoSign_init : FnScope ["self", "letter"] ["self", "letter"] (defScope s_NoSign_init) := ⟨rfl, rfl, rfl, by decide +kernel, rfl, by decide +kernel, by decide +kernel⟩
abbrev s_Unread_init : Stmt := inClass (topS 9) 0
abbrev n_Unread_init : List Str := ["self", "at"]
theorem sc_Unread_init : FnScope ["self", "at"] ["self", "at"] (defScope s_Unread_init) := ⟨rfl, rfl, rfl, by decide +kernel, rfl, by decide +kernel, by decide +kernel⟩
abbrev s_Unlike_init : Stmt := inClass (topS 10) 0
abbrev n_Unlike_init : List Str := ["self", "letter"]
theorem sc_Unlike_init : FnScope ["self", "letter"] ["self", "letter"] (defScope s_Unlike_init) := ⟨rfl, rfl, rfl, by decide +kernel, rfl, by decide +kernel, by decide +kernel⟩
abbrev s_TooMany_init : Stmt := inClass (topS 11) 0
abbrev n_TooMany_init : List Str := ["self", "what", "most"]
theorem sc_TooMany_init : FnScope ["self", "what", "most"] ["self", "what", "most"] (defScope s_TooMany_init) := ⟨rfl, rfl, rfl, by decide +kernel, rfl, by decide +kernel, by decide +kernel⟩
theorem len_app (a b : Str) : (a ++ b).length = a.length + b.length := strLen_append a b
/-- the base of the errors, by its name -/
structure Tb (K : PySem.W.Frag) (mg : Str → Option Value) (CE : Addr) : Prop where
  bE : mg "RepairError" = some (.ref CE)
  bR : ClX.CRead K CE (.type "type")
  bV : PySem.W.findCls K (.ref CE) (.type "type") "__init__" = some (.val (.builtin "ValueError.__init__"))
/-- a thing told to an error -/
structure Th1 (H : Hp) (x : V) (d : PyData) : Prop where
  tl : Told2 H x
  pw : PyW H x d
  te : Tells d
  sz : d.shown.length ≤ 3000
  dp : d.depth ≤ 1
theorem Told2.but {H H2 : Hp} {a : Addr} {x : V} {f : Heap → Prop} (t : Told2 H x) (s : ∀ b o, H b = some o → b ≠ a → H2 b = some o) (ha : H a = some (.ext f)) : Told2 H2 x := by
  have st : ∀ {b : Addr} {o : HO}, H b = some o → (∀ f, o ≠ .ext f) → H2 b = some o := fun {b o} e n => s b o e fun z => by
    rw [z, ha] at e
    exact n _ (Option.some.inj e).symm
  rcases t with f | ⟨b, xs, e, h, l, g⟩ | ⟨b, kvs, e, h, l, n, g⟩
  · exact .inl f
  · exact .inr (.inl ⟨b, xs, e, h.imp (fun h => st h fun _ z => nomatch z) (fun h => st h fun _ z => nomatch z), l, g⟩)
  · exact .inr (.inr ⟨b, kvs, e, st h (fun _ z => nomatch z), l, n, g⟩)
theorem Th1.same {H H2 : Hp} {x : V} {d : PyData} (t : Th1 H x d) (s : Same H H2) : Th1 H2 x d := ⟨t.tl.same s, t.pw.same s, t.te, t.sz, t.dp⟩
theorem Th1.but {H H2 : Hp} {a : Addr} {x : V} {d : PyData} {f : Heap → Prop} (t : Th1 H x d) (s : ∀ b o, H b = some o → b ≠ a → H2 b = some o) (ha : H a = some (.ext f)) : Th1 H2 x d := ⟨t.tl.but s ha, t.pw.but s ha, t.te, t.sz, t.dp⟩
def spErrW (K : PySem.W.Frag) (C : Addr) (fld : Str) : Sp := fun vs H Q _ => ∃ (a : Addr) (x : V) (d : PyData), vs = [.ref a, x] ∧ H a = some (exo a C none) ∧ OexC K C ∧ PySem.W.findIn K (.ref C) fld = some none ∧ Th1 H x d ∧
  ∀ y dx H1, Same H H1 → PyW H1 y d → H1 dx = none → dx ≠ a → Q .non (upd (upd H1 dx (exd dx [(fld, y)])) a (exo a C (some dx)))
def spErrW2 (K : PySem.W.Frag) (C : Addr) (f1 f2 : Str) : Sp := fun vs H Q _ => ∃ (a : Addr) (x1 x2 : V) (d1 d2 : PyData), vs = [.ref a, x1, x2] ∧ H a = some (exo a C none) ∧ OexC K C ∧ PySem.W.findIn K (.ref C) f1 = some none ∧ PySem.W.findIn K (.ref C) f2 = some none ∧ Th1 H x1 d1 ∧ Th1 H x2 d2 ∧
  ∀ y1 y2 dx H2, (∀ b o, H b = some o → b ≠ a → H2 b = some o) → PyW H2 y1 d1 → PyW H2 y2 d2 → H dx = none → dx ≠ a → H2 dx = some (exd dx [(f1, y1)]) → H2 a = some (exo a C (some dx)) → Q .non (upd H2 dx (exd dx [(f2, y2), (f1, y1)]))
def spErrW0 (K : PySem.W.Frag) (C : Addr) : Sp := fun vs H Q _ => ∃ a : Addr, vs = [.ref a] ∧ H a = some (exo a C none) ∧ OexC K C ∧ Q .non H
theorem two_at {H H1 : Hp} {a dx : Addr} {o1 o2 : HO} (s : Same H H1) (n : H1 dx = none) : ∀ b o, H b = some o → b ≠ a → upd (upd H1 dx o1) a o2 b = some o := fun b o e nb => by
  rw [upd_ne nb, upd_ne (ne_of_none (s _ _ e) n)]
  exact s _ _ e
section
variable {P : Program} {w : World} {K : PySem.W.Frag} {mg : Str → Option Value} {base : Heap} {CE C : Addr}
theorem ok_BadLetter {f : Addr} {fd : FuncData} (F : Fun K "__init__" "BadLetter.__init__" s_BadLetter_init f fd) (T : Tb K mg CE) (sys : SysIn base) (D_copied : Df P w K mg base 2 "copied" spCopyW) : FnG P w K mg base CX0 3 f fd ["self", "value"] (spErrW K C "value") := by
  refine F.okG sc_BadLetter_init (fun vs H Q E h => ?_) (fun cdv A outer s H vs Q E quiet hr h => ?_)
  · obtain ⟨a, x, d, rfl, _⟩ := h
    rfl
  · obtain ⟨a, x1, d1, rfl, ha, oc, no, t1, q⟩ := h
    refine ⟨_, (pss_cons (ps_expr (pe_baseinit (by rfl) T.bE T.bR T.bV (pa_cons (pv 0) (pa_cons (pe_joinedT (pj_cons (pe_fmtW sys quiet hr (pv 1)) (pj_cons pe_str pj_nil))) pa_nil))))
      (pss_one (ps_ost (pv 0) (pe_c D_copied hr (by decide) (by rfl) (pa_cons (pv 1) pa_nil)) rfl))), ?_⟩
    have z1 := t1.sz
    have h0 : (" is no letter" : Str).length ≤ 1000 := by decide +kernel
    have he : Str.empty.length ≤ 1000 := by decide +kernel
    refine ⟨_, rfl, _, rfl, d1, t1.pw, t1.te, d1.shown, rfl, ?_, _, rfl, ?_, a, C, _, rfl, (by show 1 ≤ 1000; decide), oc, ha, ?_⟩
    · simp only [len_app, sizeLine_eq]
      try simp only [len_app] at *
      omega
    · simp only [len_app, sizeLine_eq]
      try simp only [len_app] at *
      omega
    · exact ⟨_, rfl, x1, d1, rfl, t1.tl, t1.pw, fun y H1 s1 p1 => ⟨_, rfl, a, C, rfl, oc, no, .inl ⟨s1 _ _ ha, fun dx n ne => q y dx H1 s1 p1 n ne⟩⟩⟩
theorem ok_BadWord {f : Addr} {fd : FuncData} (F : Fun K "__init__" "BadWord.__init__" s_BadWord_init f fd) (T : Tb K mg CE) (sys : SysIn base) (D_copied : Df P w K mg base 2 "copied" spCopyW) : FnG P w K mg base CX0 3 f fd ["self", "value"] (spErrW K C "value") := by
  refine F.okG sc_BadWord_init (fun vs H Q E h => ?_) (fun cdv A outer s H vs Q E quiet hr h => ?_)
  · obtain ⟨a, x, d, rfl, _⟩ := h
    rfl
  · obtain ⟨a, x1, d1, rfl, ha, oc, no, t1, q⟩ := h
    refine ⟨_, (pss_cons (ps_expr (pe_baseinit (by rfl) T.bE T.bR T.bV (pa_cons (pv 0) (pa_cons (pe_joinedT (pj_cons (pe_fmtW sys quiet hr (pv 1)) (pj_cons pe_str pj_nil))) pa_nil))))
      (pss_one (ps_ost (pv 0) (pe_c D_copied hr (by decide) (by rfl) (pa_cons (pv 1) pa_nil)) rfl))), ?_⟩
    have z1 := t1.sz
    have h0 : (" is no text that can stand here" : Str).length ≤ 1000 := by decide +kernel
    have he : Str.empty.length ≤ 1000 := by decide +kernel
    refine ⟨_, rfl, _, rfl, d1, t1.pw, t1.te, d1.shown, rfl, ?_, _, rfl, ?_, a, C, _, rfl, (by show 1 ≤ 1000; decide), oc, ha, ?_⟩
    · simp only [len_app, sizeLine_eq]
      try simp only [len_app] at *
      omega
    · simp only [len_app, sizeLine_eq]
      try simp only [len_app] at *
      omega
    · exact ⟨_, rfl, x1, d1, rfl, t1.tl, t1.pw, fun y H1 s1 p1 => ⟨_, rfl, a, C, rfl, oc, no, .inl ⟨s1 _ _ ha, fun dx n ne => q y dx H1 s1 p1 n ne⟩⟩⟩
theorem ok_BadTable {f : Addr} {fd : FuncData} (F : Fun K "__init__" "BadTable.__init__" s_BadTable_init f fd) (T : Tb K mg CE) (sys : SysIn base) (D_copied : Df P w K mg base 2 "copied" spCopyW) : FnG P w K mg base CX0 3 f fd ["self", "part"] (spErrW K C "part") := by
  refine F.okG sc_BadTable_init (fun vs H Q E h => ?_) (fun cdv A outer s H vs Q E quiet hr h => ?_)
  · obtain ⟨a, x, d, rfl, _⟩ := h
    rfl
  · obtain ⟨a, x1, d1, rfl, ha, oc, no, t1, q⟩ := h
    refine ⟨_, (pss_cons (ps_expr (pe_baseinit (by rfl) T.bE T.bR T.bV (pa_cons (pv 0) (pa_cons (pe_joinedT (pj_cons (pe_fmtW sys quiet hr (pv 1)) (pj_cons pe_str pj_nil))) pa_nil))))
      (pss_one (ps_ost (pv 0) (pe_c D_copied hr (by decide) (by rfl) (pa_cons (pv 1) pa_nil)) rfl))), ?_⟩
    have z1 := t1.sz
    have h0 : (" is not of the kind that it should be" : Str).length ≤ 1000 := by decide +kernel
    have he : Str.empty.length ≤ 1000 := by decide +kernel
    refine ⟨_, rfl, _, rfl, d1, t1.pw, t1.te, d1.shown, rfl, ?_, _, rfl, ?_, a, C, _, rfl, (by show 1 ≤ 1000; decide), oc, ha, ?_⟩
    · simp only [len_app, sizeLine_eq]
      try simp only [len_app] at *
      omega
    · simp only [len_app, sizeLine_eq]
      try simp only [len_app] at *
      omega
    · exact ⟨_, rfl, x1, d1, rfl, t1.tl, t1.pw, fun y H1 s1 p1 => ⟨_, rfl, a, C, rfl, oc, no, .inl ⟨s1 _ _ ha, fun dx n ne => q y dx H1 s1 p1 n ne⟩⟩⟩
theorem ok_BadCode {f : Addr} {fd : FuncData} (F : Fun K "__init__" "BadCode.__init__" s_BadCode_init f fd) (T : Tb K mg CE) (sys : SysIn base) (D_copied : Df P w K mg base 2 "copied" spCopyW) : FnG P w K mg base CX0 3 f fd ["self", "value"] (spErrW K C "value") := by
  refine F.okG sc_BadCode_init (fun vs H Q E h => ?_) (fun cdv A outer s H vs Q E quiet hr h => ?_)
  · obtain ⟨a, x, d, rfl, _⟩ := h
    rfl
  · obtain ⟨a, x1, d1, rfl, ha, oc, no, t1, q⟩ := h
    refine ⟨_, (pss_cons (ps_expr (pe_baseinit (by rfl) T.bE T.bR T.bV (pa_cons (pv 0) (pa_cons (pe_joinedT (pj_cons (pe_fmtW sys quiet hr (pv 1)) (pj_cons pe_str pj_nil))) pa_nil))))
      (pss_one (ps_ost (pv 0) (pe_c D_copied hr (by decide) (by rfl) (pa_cons (pv 1) pa_nil)) rfl))), ?_⟩
    have z1 := t1.sz
    have h0 : (" is no code, or no integer of one" : Str).length ≤ 1000 := by decide +kernel
    have he : Str.empty.length ≤ 1000 := by decide +kernel
    refine ⟨_, rfl, _, rfl, d1, t1.pw, t1.te, d1.shown, rfl, ?_, _, rfl, ?_, a, C, _, rfl, (by show 1 ≤ 1000; decide), oc, ha, ?_⟩
    · simp only [len_app, sizeLine_eq]
      try simp only [len_app] at *
      omega
    · simp only [len_app, sizeLine_eq]
      try simp only [len_app] at *
      omega
    · exact ⟨_, rfl, x1, d1, rfl, t1.tl, t1.pw, fun y H1 s1 p1 => ⟨_, rfl, a, C, rfl, oc, no, .inl ⟨s1 _ _ ha, fun dx n ne => q y dx H1 s1 p1 n ne⟩⟩⟩
theorem ok_NoSign {f : Addr} {fd : FuncData} (F : Fun K "__init__" "NoSign.__init__" s_NoSign_init f fd) (T : Tb K mg CE) (sys : SysIn base) (D_copied : Df P w K mg base 2 "copied" spCopyW) : FnG P w K mg base CX0 3 f fd ["self", "letter"] (spErrW K C "letter") := by
  refine F.okG sc_NoSign_init (fun vs H Q E h => ?_) (fun cdv A outer s H vs Q E quiet hr h => ?_)
  · obtain ⟨a, x, d, rfl, _⟩ := h
    rfl
  · obtain ⟨a, x1, d1, rfl, ha, oc, no, t1, q⟩ := h
    refine ⟨_, (pss_cons (ps_expr (pe_baseinit (by rfl) T.bE T.bR T.bV (pa_cons (pv 0) (pa_cons (pe_joinedT (pj_cons pe_str (pj_cons (pe_fmtW sys quiet hr (pv 1)) pj_nil))) pa_nil))))
      (pss_one (ps_ost (pv 0) (pe_c D_copied hr (by decide) (by rfl) (pa_cons (pv 1) pa_nil)) rfl))), ?_⟩
    have z1 := t1.sz
    have h0 : (Str.empty ++ ("there is no code for " : Str)).length ≤ 1000 := by decide +kernel
    refine ⟨_, rfl, _, rfl, ?_, _, rfl, d1, t1.pw, t1.te, d1.shown, rfl, ?_, a, C, _, rfl, (by show 1 ≤ 1000; decide), oc, ha, ?_⟩
    · simp only [len_app, sizeLine_eq]
      try simp only [len_app] at *
      omega
    · simp only [len_app, sizeLine_eq]
      try simp only [len_app] at *
      omega
    · exact ⟨_, rfl, x1, d1, rfl, t1.tl, t1.pw, fun y H1 s1 p1 => ⟨_, rfl, a, C, rfl, oc, no, .inl ⟨s1 _ _ ha, fun dx n ne => q y dx H1 s1 p1 n ne⟩⟩⟩
theorem ok_Unread {f : Addr} {fd : FuncData} (F : Fun K "__init__" "Unread.__init__" s_Unread_init f fd) (T : Tb K mg CE) (sys : SysIn base) (D_copied : Df P w K mg base 2 "copied" spCopyW) : FnG P w K mg base CX0 3 f fd ["self", "at"] (spErrW K C "at") := by
  refine F.okG sc_Unread_init (fun vs H Q E h => ?_) (fun cdv A outer s H vs Q E quiet hr h => ?_)
  · obtain ⟨a, x, d, rfl, _⟩ := h
    rfl
  · obtain ⟨a, x1, d1, rfl, ha, oc, no, t1, q⟩ := h
    refine ⟨_, (pss_cons (ps_expr (pe_baseinit (by rfl) T.bE T.bR T.bV (pa_cons (pv 0) (pa_cons (pe_joinedT (pj_cons pe_str (pj_cons (pe_fmtW sys quiet hr (pv 1)) (pj_cons pe_str pj_nil)))) pa_nil))))
      (pss_one (ps_ost (pv 0) (pe_c D_copied hr (by decide) (by rfl) (pa_cons (pv 1) pa_nil)) rfl))), ?_⟩
    have z1 := t1.sz
    have h0 : (Str.empty ++ ("the integer at " : Str)).length ≤ 1000 := by decide +kernel
    have h1 : (" cannot be read" : Str).length ≤ 1000 := by decide +kernel
    refine ⟨_, rfl, _, rfl, ?_, _, rfl, d1, t1.pw, t1.te, d1.shown, rfl, ?_, _, rfl, ?_, a, C, _, rfl, (by show 1 ≤ 1000; decide), oc, ha, ?_⟩
    · simp only [len_app, sizeLine_eq]
      try simp only [len_app] at *
      omega
    · simp only [len_app, sizeLine_eq]
      try simp only [len_app] at *
      omega
    · simp only [len_app, sizeLine_eq]
      try simp only [len_app] at *
      omega
    · exact ⟨_, rfl, x1, d1, rfl, t1.tl, t1.pw, fun y H1 s1 p1 => ⟨_, rfl, a, C, rfl, oc, no, .inl ⟨s1 _ _ ha, fun dx n ne => q y dx H1 s1 p1 n ne⟩⟩⟩
theorem ok_Unlike {f : Addr} {fd : FuncData} (F : Fun K "__init__" "Unlike.__init__" s_Unlike_init f fd) (T : Tb K mg CE) (sys : SysIn base) (D_copied : Df P w K mg base 2 "copied" spCopyW) : FnG P w K mg base CX0 3 f fd ["self", "letter"] (spErrW K C "letter") := by
  refine F.okG sc_Unlike_init (fun vs H Q E h => ?_) (fun cdv A outer s H vs Q E quiet hr h => ?_)
  · obtain ⟨a, x, d, rfl, _⟩ := h
    rfl
  · obtain ⟨a, x1, d1, rfl, ha, oc, no, t1, q⟩ := h
    refine ⟨_, (pss_cons (ps_expr (pe_baseinit (by rfl) T.bE T.bR T.bV (pa_cons (pv 0) (pa_cons (pe_joinedT (pj_cons (pe_fmtW sys quiet hr (pv 1)) (pj_cons pe_str pj_nil))) pa_nil))))
      (pss_one (ps_ost (pv 0) (pe_c D_copied hr (by decide) (by rfl) (pa_cons (pv 1) pa_nil)) rfl))), ?_⟩
    have z1 := t1.sz
    have h0 : (" is told in two unlike ways" : Str).length ≤ 1000 := by decide +kernel
    have he : Str.empty.length ≤ 1000 := by decide +kernel
    refine ⟨_, rfl, _, rfl, d1, t1.pw, t1.te, d1.shown, rfl, ?_, _, rfl, ?_, a, C, _, rfl, (by show 1 ≤ 1000; decide), oc, ha, ?_⟩
    · simp only [len_app, sizeLine_eq]
      try simp only [len_app] at *
      omega
    · simp only [len_app, sizeLine_eq]
      try simp only [len_app] at *
      omega
    · exact ⟨_, rfl, x1, d1, rfl, t1.tl, t1.pw, fun y H1 s1 p1 => ⟨_, rfl, a, C, rfl, oc, no, .inl ⟨s1 _ _ ha, fun dx n ne => q y dx H1 s1 p1 n ne⟩⟩⟩
theorem ok_TooMany {f : Addr} {fd : FuncData} (F : Fun K "__init__" "TooMany.__init__" s_TooMany_init f fd) (T : Tb K mg CE) (sys : SysIn base) (D_copied : Df P w K mg base 2 "copied" spCopyW) : FnG P w K mg base CX0 3 f fd ["self", "what", "most"] (spErrW2 K C "what" "most") := by
  refine F.okG sc_TooMany_init (fun vs H Q E h => ?_) (fun cdv A outer s H vs Q E quiet hr h => ?_)
  · obtain ⟨a, x1, x2, d1, d2, rfl, _⟩ := h
    rfl
  · obtain ⟨a, x1, x2, d1, d2, rfl, ha, oc, n1, n2, t1, t2, q⟩ := h
    refine ⟨_, (pss_cons (ps_expr (pe_baseinit (by rfl) T.bE T.bR T.bV (pa_cons (pv 0) (pa_cons (pe_joinedT (pj_cons pe_str (pj_cons (pe_fmtW sys quiet hr (pv 1)) (pj_cons pe_str (pj_cons (pe_fmtW sys quiet hr (pv 2)) pj_nil))))) pa_nil))))
      (pss_cons (ps_ost (pv 0) (pe_c D_copied hr (by decide) (by rfl) (pa_cons (pv 1) pa_nil)) rfl)
      (pss_one (ps_ost (pv 0) (pe_c D_copied hr (by decide) (by rfl) (pa_cons (pv 2) pa_nil)) rfl)))), ?_⟩
    have z1 := t1.sz
    have z2 := t2.sz
    have h0 : (Str.empty ++ ("too many: " : Str)).length ≤ 1000 := by decide +kernel
    have h1 : (", of which there can be " : Str).length ≤ 1000 := by decide +kernel
    refine ⟨_, rfl, _, rfl, ?_, _, rfl, d1, t1.pw, t1.te, d1.shown, rfl, ?_, _, rfl, ?_, _, rfl, d2, t2.pw, t2.te, d2.shown, rfl, ?_, a, C, _, rfl, (by show 1 ≤ 1000; decide), oc, ha, ?_⟩
    · simp only [len_app, sizeLine_eq]
      try simp only [len_app] at *
      omega
    · simp only [len_app, sizeLine_eq]
      try simp only [len_app] at *
      omega
    · simp only [len_app, sizeLine_eq]
      try simp only [len_app] at *
      omega
    · simp only [len_app, sizeLine_eq]
      try simp only [len_app] at *
      omega
    · refine ⟨_, rfl, x1, d1, rfl, t1.tl, t1.pw, fun y1 H1 s1 p1 => ⟨_, rfl, a, C, rfl, oc, n1, .inl ⟨s1 _ _ ha, fun dx n ne => ?_⟩⟩⟩
      have tt := two_at (a := a) (o1 := exd dx [("what", y1)]) (o2 := exo a C (some dx)) s1 n
      have t2' := t2.but tt ha
      have p1' := p1.but (H2 := upd (upd H1 dx (exd dx [("what", y1)])) a (exo a C (some dx))) (two_at (Same.refl H1) n) (s1 _ _ ha)
      refine ⟨_, rfl, x2, d2, rfl, t2'.tl, t2'.pw, fun y2 H2 s2 p2 => ⟨_, rfl, a, C, rfl, oc, n2, .inr ⟨dx, [("what", y1)], s2 _ _ upd_same, s2 _ _ (by rw [upd_ne ne]; exact upd_same), (by show 1 ≤ 900; decide), ?_⟩⟩⟩
      exact q y1 y2 dx H2 (fun b o e nb => s2 _ _ (tt b o e nb)) (p1'.same s2) p2 (same_none s1 n) ne (s2 _ _ (by rw [upd_ne ne]; exact upd_same)) (s2 _ _ upd_same)
end
end V8

set_option Elab.async false
set_option linter.all false
set_option maxRecDepth 100000
set_option maxHeartbeats 8000000
/-! Errors made and kept: their fields. -/
namespace V8
open PySem PySem.Spec PyProof.Rows L2
section
variable (P : Program) (w : World) (K : PySem.W.Frag) (mg : Str → Option Value) (base : Heap)
structure Er1 (x fld : Str) (C : Addr) : Prop where
  oc : OexC K C
  xc : ExcC K C
  no : PySem.W.findIn K (.ref C) fld = some none
  hm : mg x = some (.ref C)
  ex : ∃ (fI : Addr) (fd : FuncData) (ps : List Str), PySem.W.findIn K (.ref C) "__init__" = some (some (.ref fI)) ∧ PySem.W.typeIn K (.ref fI) = some (.type "function") ∧ FnG P w K mg base CX0 3 fI fd ps (spErrW K C fld) ∧ Binds K fd ps [] ∧ KBn K fd ps 1 [fld] (fun us ws => us ++ ws) (fun vs zs => vs ++ zs)
structure Er2 (x f1 f2 : Str) (C : Addr) : Prop where
  oc : OexC K C
  xc : ExcC K C
  n1 : PySem.W.findIn K (.ref C) f1 = some none
  n2 : PySem.W.findIn K (.ref C) f2 = some none
  hm : mg x = some (.ref C)
  ex : ∃ (fI : Addr) (fd : FuncData) (ps : List Str), PySem.W.findIn K (.ref C) "__init__" = some (some (.ref fI)) ∧ PySem.W.typeIn K (.ref fI) = some (.type "function") ∧ FnG P w K mg base CX0 3 fI fd ps (spErrW2 K C f1 f2) ∧ Binds K fd ps [] ∧ KBn K fd ps 1 [f2, f1] (fun us ws => us ++ ws.reverse) (fun vs zs => vs ++ zs.reverse)
structure Er0 (x : Str) (C : Addr) : Prop where
  oc : OexC K C
  xc : ExcC K C
  hm : mg x = some (.ref C)
  ex : ∃ (fI : Addr) (fd : FuncData) (ps : List Str), PySem.W.findIn K (.ref C) "__init__" = some (some (.ref fI)) ∧ PySem.W.typeIn K (.ref fI) = some (.type "function") ∧ FnG P w K mg base CX0 3 fI fd ps (spErrW0 K C) ∧ Binds K fd ps []
end
def End1 (K : PySem.W.Frag) (C : Addr) (fld : Str) (x : V) (H1 : Hp) (Q : VK) : Prop := ∃ d, Th1 H1 x d ∧ ∀ a y H2, H1 a = none → Same H1 H2 → KeptX K H2 a C [(fld, y)] → PyW H2 y d → Q (.ref a) H2
def End2 (K : PySem.W.Frag) (C : Addr) (f1 f2 : Str) (x1 x2 : V) (H1 : Hp) (Q : VK) : Prop := ∃ d1 d2, Th1 H1 x1 d1 ∧ Th1 H1 x2 d2 ∧ ∀ a y1 y2 H2, H1 a = none → Same H1 H2 → KeptX K H2 a C [(f2, y2), (f1, y1)] → PyW H2 y1 d1 → PyW H2 y2 d2 → Q (.ref a) H2
def tE1 (K : PySem.W.Frag) (C : Addr) (fld : Str) (ta : TA) : TE := fun σ H Q => ta σ H fun vs H1 => ∃ x, vs = [x] ∧ End1 K C fld x H1 Q
def tE2 (K : PySem.W.Frag) (C : Addr) (f1 f2 : Str) (ta : TA) : TE := fun σ H Q => ta σ H fun vs H1 => ∃ x1 x2, vs = [x1, x2] ∧ End2 K C f1 f2 x1 x2 H1 Q
def tE2K (K : PySem.W.Frag) (C : Addr) (f1 f2 : Str) (ta : TA) : TE := fun σ H Q => ta σ H fun vs H1 => ∃ x1 x2, vs = [x2, x1] ∧ End2 K C f1 f2 x1 x2 H1 Q
def tE0 (C : Addr) : TE := fun σ H Q => ∀ a H2, H a = none → Same H H2 → H2 a = some (CaughtO (.ref C) none a) → Q (.ref a) H2
theorem end1 {K : PySem.W.Frag} {C : Addr} {fld : Str} {x : V} {H1 : Hp} {Q : VK} {E : XK} (oc : OexC K C) (xc : ExcC K C) (no : PySem.W.findIn K (.ref C) fld = some none) (h : End1 K C fld x H1 Q) (a : Addr) (na : H1 a = none) : spErrW K C fld [.ref a, x] (upd H1 a (exo a C none)) (EndE C a Q) E := by
  obtain ⟨d, t, q⟩ := h
  have s0 : Same H1 (upd H1 a (exo a C none)) := same_put (s := Same.refl H1) na
  refine ⟨a, x, d, rfl, upd_same, oc, no, t.same s0, fun y dx H2 s2 p2 ndx ne => ⟨rfl, .inl ⟨dx, [(fld, y)], upd_same, by rw [upd_ne ne]; exact upd_same, ?_⟩⟩⟩
  have ha2 : H2 a = some (exo a C none) := s2 _ _ upd_same
  refine q a y _ na (fun b o e => ?_) ⟨⟨dx, by rw [upd_ne (Ne.symm ne)]; exact upd_same, upd_same⟩, xc⟩ (p2.keep fun b o e k => ?_)
  · have nb : b ≠ a := ne_of_none e na
    have e2 : H2 b = some o := s2 _ _ (s0 _ _ e)
    have nd : b ≠ dx := ne_of_none e2 ndx
    rw [upd_ne nd, upd_ne nb, upd_ne nb, upd_ne nd]
    exact e2
  · have nd : b ≠ dx := ne_of_none e ndx
    have nb : b ≠ a := fun z => by
      rw [z, ha2] at e
      cases e
      rcases k with ⟨xs, k⟩ | ⟨xs, k⟩ | ⟨xs, k⟩ <;> cases k
    rw [upd_ne nd, upd_ne nb, upd_ne nb, upd_ne nd]
    exact e
theorem end2 {K : PySem.W.Frag} {C : Addr} {f1 f2 : Str} {x1 x2 : V} {H1 : Hp} {Q : VK} {E : XK} (oc : OexC K C) (xc : ExcC K C) (n1 : PySem.W.findIn K (.ref C) f1 = some none) (n2 : PySem.W.findIn K (.ref C) f2 = some none) (h : End2 K C f1 f2 x1 x2 H1 Q) (a : Addr) (na : H1 a = none) : spErrW2 K C f1 f2 [.ref a, x1, x2] (upd H1 a (exo a C none)) (EndE C a Q) E := by
  obtain ⟨d1, d2, t1, t2, q⟩ := h
  have s0 : Same H1 (upd H1 a (exo a C none)) := same_put (s := Same.refl H1) na
  refine ⟨a, x1, x2, d1, d2, rfl, upd_same, oc, n1, n2, t1.same s0, t2.same s0, fun y1 y2 dx H2 s2 p1 p2 ndx ne e1 e2 => ⟨rfl, .inl ⟨dx, [(f2, y2), (f1, y1)], by rw [upd_ne (Ne.symm ne)]; exact e2, upd_same, ?_⟩⟩⟩
  have kp : ∀ b o, H2 b = some o → ((∃ xs, o = .tup xs) ∨ (∃ xs, o = .lst xs) ∨ ∃ xs, o = .dK xs) → upd (upd (upd H2 dx (exd dx [(f2, y2), (f1, y1)])) a (CaughtO (.ref C) (some dx) a)) dx (.xd [(f2, y2), (f1, y1)]) b = some o := fun b o e k => by
    have nd : b ≠ dx := fun z => by
      rw [z, e1] at e
      cases e
      rcases k with ⟨xs, k⟩ | ⟨xs, k⟩ | ⟨xs, k⟩ <;> cases k
    have nb : b ≠ a := fun z => by
      rw [z, e2] at e
      cases e
      rcases k with ⟨xs, k⟩ | ⟨xs, k⟩ | ⟨xs, k⟩ <;> cases k
    rw [upd_ne nd, upd_ne nb, upd_ne nd]
    exact e
  refine q a y1 y2 _ na (fun b o e => ?_) ⟨⟨dx, by rw [upd_ne (Ne.symm ne)]; exact upd_same, upd_same⟩, xc⟩ (p1.keep kp) (p2.keep kp)
  have nb : b ≠ a := ne_of_none e na
  have nd : b ≠ dx := ne_of_none (s0 _ _ e) ndx
  rw [upd_ne nd, upd_ne nb, upd_ne nd]
  exact s2 _ _ (s0 _ _ e) nb
section
variable {X : Cx} {j : Nat} {x fld f1 f2 : Str} {C : Addr} {p pos : Pos} {e e' : Expr} {es : List Expr} {ta tk : TA} {kws : List Keyword}
theorem pe_e1 (c : Er1 X.prog X.w X.K X.mg X.base x fld C) (g : Quiet X.A) (r : Room j X.A) (hj : 4 ≤ j) (hg : Gl X x) (ha : PA X (e :: es) ta)
    (hdb : (x == ("__debug__" : Str)) = false := by decide) (he : starEach (e :: es) X.env = (false, eval e X.env) :: starEach es X.env := by rfl) (hpl : (backTo pos (starEach es X.env)).any (·.1) = false := by rfl) : PE X (.Call (.Name x p) (e :: es) [] pos) (tE1 X.K C fld ta) := by
  obtain ⟨fI, fd, ps, iC, tI, Fn, b, kb⟩ := c.ex
  refine ⟨fun pins s σ H Q I h => wpAny_Call_Name_kw (ld_glob I hg c.hm ?_ hdb)⟩
  refine PySem.W.callWith_K (h₀ := X.base) I.ok.mod.kin c.oc.kC (thn (ha.run pos pins s σ H _ I h) fun us s1 z => ?_) he hpl
  obtain ⟨xs, H1, J, v, xx, rfl, q⟩ := z
  exact ⟨J.kIn, er_core c.oc iC tI Fn g (r.mono hj) b pass0 J v (by show 1 ≤ 1000; decide) fun a na => end1 c.oc c.xc c.no q a na⟩
theorem pe_e1K (c : Er1 X.prog X.w X.K X.mg X.base x fld C) (g : Quiet X.A) (r : Room j X.A) (hj : 4 ≤ j) (hg : Gl X x) (hkw : PK X kws tk) (hall : (backToKw pos (keywordEach kws X.env)).all (·.1.isSome) = true := by rfl) (hks : (backToKw pos (keywordEach kws X.env)).filterMap (·.1) = [fld] := by rfl) (hdb : (x == ("__debug__" : Str)) = false := by decide)
    (hpl : ((backTo pos (starEach [] X.env)).any (·.1) || (backToKw pos (keywordEach kws X.env)).any (·.1.isNone)) = false := by rfl) : PE X (.Call (.Name x p) [] kws pos) (tE1 X.K C fld tk) := by
  obtain ⟨fI, fd, ps, iC, tI, Fn, b, kb⟩ := c.ex
  refine ⟨fun pins s σ H Q I h => wpAny_Call_Name_kw (ld_glob I hg c.hm ?_ hdb)⟩
  refine PySem.W.callWith_KW0 (h₀ := X.base) I.ok.mod.kin c.oc.kC hall ?_ hpl
  refine thn (hkw.run pos pins s σ H _ I h) fun ws s2 ⟨zs, H2, I2, rz, xx, ez, q2⟩ => ⟨I2.kIn, ?_⟩
  subst ez
  rw [hks]
  exact er_coreK c.oc iC tI Fn g (r.mono hj) kb pass0 I2 rz rfl fun a na => end1 c.oc c.xc c.no q2 a na
theorem pe_e2 (c : Er2 X.prog X.w X.K X.mg X.base x f1 f2 C) (g : Quiet X.A) (r : Room j X.A) (hj : 4 ≤ j) (hg : Gl X x) (ha : PA X (e :: es) ta)
    (hdb : (x == ("__debug__" : Str)) = false := by decide) (he : starEach (e :: es) X.env = (false, eval e X.env) :: starEach es X.env := by rfl) (hpl : (backTo pos (starEach es X.env)).any (·.1) = false := by rfl) : PE X (.Call (.Name x p) (e :: es) [] pos) (tE2 X.K C f1 f2 ta) := by
  obtain ⟨fI, fd, ps, iC, tI, Fn, b, kb⟩ := c.ex
  refine ⟨fun pins s σ H Q I h => wpAny_Call_Name_kw (ld_glob I hg c.hm ?_ hdb)⟩
  refine PySem.W.callWith_K (h₀ := X.base) I.ok.mod.kin c.oc.kC (thn (ha.run pos pins s σ H _ I h) fun us s1 z => ?_) he hpl
  obtain ⟨xs, H1, J, v, x1, x2, rfl, q⟩ := z
  exact ⟨J.kIn, er_core c.oc iC tI Fn g (r.mono hj) b pass0 J v (by show 2 ≤ 1000; decide) fun a na => end2 c.oc c.xc c.n1 c.n2 q a na⟩
theorem pe_e2K (c : Er2 X.prog X.w X.K X.mg X.base x f1 f2 C) (g : Quiet X.A) (r : Room j X.A) (hj : 4 ≤ j) (hg : Gl X x) (hkw : PK X kws tk) (hall : (backToKw pos (keywordEach kws X.env)).all (·.1.isSome) = true := by rfl) (hks : (backToKw pos (keywordEach kws X.env)).filterMap (·.1) = [f2, f1] := by rfl) (hdb : (x == ("__debug__" : Str)) = false := by decide)
    (hpl : ((backTo pos (starEach [] X.env)).any (·.1) || (backToKw pos (keywordEach kws X.env)).any (·.1.isNone)) = false := by rfl) : PE X (.Call (.Name x p) [] kws pos) (tE2K X.K C f1 f2 tk) := by
  obtain ⟨fI, fd, ps, iC, tI, Fn, b, kb⟩ := c.ex
  refine ⟨fun pins s σ H Q I h => wpAny_Call_Name_kw (ld_glob I hg c.hm ?_ hdb)⟩
  refine PySem.W.callWith_KW0 (h₀ := X.base) I.ok.mod.kin c.oc.kC hall ?_ hpl
  refine thn (hkw.run pos pins s σ H _ I h) fun ws s2 ⟨zs, H2, I2, rz, x1, x2, ez, q2⟩ => ⟨I2.kIn, ?_⟩
  subst ez
  rw [hks]
  exact er_coreK c.oc iC tI Fn g (r.mono hj) kb pass0 I2 rz rfl fun a na => end2 c.oc c.xc c.n1 c.n2 q2 a na
theorem pe_e0 (c : Er0 X.prog X.w X.K X.mg X.base x C) (g : Quiet X.A) (r : Room j X.A) (hj : 4 ≤ j) (hg : Gl X x) (hdb : (x == ("__debug__" : Str)) = false := by decide) : PE X (.Call (.Name x p) [] [] pos) (tE0 C) := by
  obtain ⟨fI, fd, ps, iC, tI, Fn, b⟩ := c.ex
  refine ⟨fun pins s σ H Q I h => wpAny_Call_Name_kw (ld_glob I hg c.hm ?_ hdb)⟩
  exact PySem.W.callWith_K0 I.kIn c.oc.kC (er_core (us := []) (xs := []) c.oc iC tI Fn g (r.mono hj) b pass0 I .nil (by decide) fun a na => ⟨a, rfl, upd_same, c.oc, rfl, .inr ⟨upd_same, h a _ na (by rw [upd_upd]; exact same_put (s := Same.refl H) na) upd_same⟩⟩)
end
/-! isinstance of such an error -/
structure KeptN (K : PySem.W.Frag) (H : Hp) (a D : Addr) : Prop where
  at_ : H a = some (CaughtO (.ref D) none a)
  cl : ExcC K D
/-- an error of the class D -/
def ErrAt (K : PySem.W.Frag) (H : Hp) (a D : Addr) : Prop := (∃ fs, KeptX K H a D fs) ∨ KeptN K H a D
def rIsE (K : PySem.W.Frag) : List V → Hp → VK → Prop := fun xs H Q => ∃ (a D : Addr) (c : V) (cv : Value) (b : Bool), xs = [.ref a, c] ∧ ErrAt K H a D ∧ (∀ u, RelV c u → u = cv) ∧ PySem.W.kitOne K (.ref D) cv = some b ∧ Q (.bl b) H
theorem call_isE {X : Cx} : CallR X (.builtin "isinstance") (rIsE X.K) := by
  intro pins s σ H xs us Q I r h
  obtain ⟨a, D, c, cv, b, rfl, k, hc, e, q⟩ := h
  rcases k with ⟨fs, k⟩ | k
  · exact call_isK pins s σ H _ us Q I r ⟨a, D, fs, c, cv, b, rfl, k, hc, e, q⟩
  · match us, r with
    | [u1, u2], .cons r1 (.cons r2 .nil) =>
      obtain rfl : u1 = Value.ref a := r1
      rw [hc _ r2]
      obtain ⟨⟨oe, vs, q1, ⟨q2, q3⟩, q4⟩, _, _⟩ := I.hok a _ k.at_
      have J : PySem.W.InstAt s.heap a oe D none := ⟨q1, q2, by unfold PySem.W.notCls; rw [q4], by rw [q3]; trivial⟩
      have C := k.cl
      obtain ⟨cd, e1, _⟩ := PySem.W.any_some C.hd
      exact PySem.W.kia_one (PySem.W.kitx_exc (by rw [e1]; rfl) C.hg C.hk C.hs C.ha C.hn C.ht C.hm) I.kIn J e (fun z => nomatch z) fun tk => ⟨.bl b, H, I.tok _, rfl, q⟩
theorem ErrAt.same {K : PySem.W.Frag} {H H2 : Hp} {a D : Addr} (e : ErrAt K H a D) (s : Same H H2) : ErrAt K H2 a D := by
  rcases e with ⟨fs, ⟨d, h1, h2⟩, c⟩ | ⟨h, c⟩
  · exact .inl ⟨fs, ⟨d, s _ _ h1, s _ _ h2⟩, c⟩
  · exact .inr ⟨s _ _ h, c⟩
/-! Such an error raised. -/
theorem pmk_one {X : Cx} {j : Nat} {x f1 : Str} {C : Addr} {p pos : Pos} {e : Expr} {es : List Expr} {ta : TA} (c : Er1 X.prog X.w X.K X.mg X.base x f1 C) (g : Quiet X.A) (r : Room j X.A) (hj : 4 ≤ j) (hg : Gl X x) (ha : PA X (e :: es) ta)
    (hdb : (x == ("__debug__" : Str)) = false := by decide) (he : starEach (e :: es) X.env = (false, eval e X.env) :: starEach es X.env := by rfl) (hpl : (backTo pos (starEach es X.env)).any (·.1) = false := by rfl) : PMk X (.Call (.Name x p) (e :: es) [] pos) (tMkO C (spErrW X.K C f1) [] ta) := by
  obtain ⟨fI, fd, ps, iC, tI, Fn, b, kb⟩ := c.ex
  exact (pmk_oexG c.oc iC tI Fn g (r.mono hj) b pass0 hg c.hm ha hdb he hpl).pmk
theorem pmk_two {X : Cx} {j : Nat} {x f1 f2 : Str} {C : Addr} {p pos : Pos} {e : Expr} {es : List Expr} {ta : TA} (c : Er2 X.prog X.w X.K X.mg X.base x f1 f2 C) (g : Quiet X.A) (r : Room j X.A) (hj : 4 ≤ j) (hg : Gl X x) (ha : PA X (e :: es) ta)
    (hdb : (x == ("__debug__" : Str)) = false := by decide) (he : starEach (e :: es) X.env = (false, eval e X.env) :: starEach es X.env := by rfl) (hpl : (backTo pos (starEach es X.env)).any (·.1) = false := by rfl) : PMk X (.Call (.Name x p) (e :: es) [] pos) (tMkO C (spErrW2 X.K C f1 f2) [] ta) := by
  obtain ⟨fI, fd, ps, iC, tI, Fn, b, kb⟩ := c.ex
  exact (pmk_oexG c.oc iC tI Fn g (r.mono hj) b pass0 hg c.hm ha hdb he hpl).pmk
/-- what is raised: an error of class C, its field told -/
def Rz1 (C : Addr) (fld : Str) (x : V) (H : Hp) (E : XK) : Prop := ∃ d, Th1 H x d ∧ ∀ dx y H2, Same H H2 → PyW H2 y d → H2 dx = some (.xd [(fld, y)]) → E (.ref C) (some dx) H2
theorem rz1 {K : PySem.W.Frag} {C : Addr} {fld : Str} {x : V} {H : Hp} {E : XK} {E0 : XK} (oc : OexC K C) (no : PySem.W.findIn K (.ref C) fld = some none) (h : Rz1 C fld x H E) (a : Addr) (na : H a = none) :
    spErrW K C fld (.ref a :: ([x] ++ [])) (upd H a (exo a C none)) (fun v H2 => v = .non ∧ ∃ (d : Addr) (fs : List (Str × V)), H2 a = some (exo a C (some d)) ∧ H2 d = some (exd d fs) ∧ H d = none ∧ E (.ref C) (some d) (upd (del H2 a) d (.xd fs))) E0 := by
  obtain ⟨d, t, q⟩ := h
  have s0 : Same H (upd H a (exo a C none)) := same_put (s := Same.refl H) na
  refine ⟨a, x, d, rfl, upd_same, oc, no, t.same s0, fun y dx H2 s2 p2 ndx ne => ⟨rfl, dx, [(fld, y)], upd_same, by rw [upd_ne ne]; exact upd_same, ?_, ?_⟩⟩
  · exact same_none (fun b o e => s2 _ _ (s0 _ _ e)) ndx
  · have keep : ∀ b o, H b = some o → upd (del (upd (upd H2 dx (exd dx [(fld, y)])) a (exo a C (some dx))) a) dx (.xd [(fld, y)]) b = some o := fun b o e => by
      have e2 : H2 b = some o := s2 _ _ (s0 _ _ e)
      rw [upd_ne (ne_of_none e2 ndx), del_ne (ne_of_none e na), upd_ne (ne_of_none e na), upd_ne (ne_of_none e2 ndx)]
      exact e2
    refine q dx y _ keep (p2.keep fun b o e k => ?_) upd_same
    have nd : b ≠ dx := ne_of_none e ndx
    have nb : b ≠ a := fun z => by
      rw [z, s2 _ _ upd_same] at e
      cases e
      rcases k with ⟨xs, k⟩ | ⟨xs, k⟩ | ⟨xs, k⟩ <;> cases k
    rw [upd_ne nd, del_ne nb, upd_ne nb, upd_ne nd]
    exact e
end V8

set_option Elab.async false
set_option linter.all false
set_option maxRecDepth 100000
set_option maxHeartbeats 4000000
/-! A key looked for among entries of any kinds, tuples beside flat ones. -/
namespace MX
open PySem PySem.Spec PySem.SeqAt PyProof.Rows
section
variable {prog : Program} {w : World} {A : Around} {E : Value → Shared → Prop} {s : Shared} {d : Addr} {o : Obj} {es : Array DictEntry} {ep : Nat} {v : Value} {hh : Int} {m : DictEntry → Bool}
/-- what the search of v, whose hash is hh, meets: m says which entry is equal to v -/
structure Look (prog : Program) (w : World) (A : Around) (s : Shared) (es : Array DictEntry) (v : Value) (hh : Int) (m : DictEntry → Bool) : Prop where
  eqv : ∀ e ∈ es, EqAt A s e.key v (m e)
  hash : ∀ e ∈ es, m e = true → e.hash = hh
  same : ∀ e ∈ es, e.key = v → e.hash = hh
  quiet : QuietAt prog w 8 s v
  quiets : ∀ e ∈ es, QuietAt prog w 8 s e.key
  txts : ∀ x t, v = .str x t → ∀ e ∈ es, isExactStrKey e.key = true → e.key.isStr x = m e
  one : ∀ i j (hi : i < es.size) (hj : j < es.size), m es[i] = true → m es[j] = true → i = j
theorem Look.find (M : Look prog w A s es v hh m) {i : Nat} (hi : i < es.size) (h : m es[i] = true) : es.findIdx? m = some i :=
  Array.findIdx?_eq_some_iff_getElem.mpr ⟨hi, h, fun j hj => by
    intro z
    have := M.one j i (by omega) hi z h
    omega⟩
/-- the places of one hash -/
theorem in_places {i : Nat} (hi : i < es.size) (h : es[i].hash = hh) : i ∈ placesWithHash es.size (fun i => es[i]?.map (·.hash)) hh := by
  unfold placesWithHash
  rw [List.mem_filter]
  refine ⟨List.mem_range.mpr hi, ?_⟩
  show (es[i]?.map (·.hash) == some hh) = true
  rw [Array.getElem?_eq_getElem hi, Option.map_some, h]
  exact beq_self_eq_true _
theorem of_places {i : Nat} (h : i ∈ placesWithHash es.size (fun i => es[i]?.map (·.hash)) hh) : ∃ hi : i < es.size, es[i].hash = hh := by
  unfold placesWithHash at h
  rw [List.mem_filter] at h
  have hi := List.mem_range.mp h.1
  refine ⟨hi, ?_⟩
  have z : (es[i]?.map (·.hash) == some hh) = true := h.2
  rw [Array.getElem?_eq_getElem hi, Option.map_some] at z
  exact Option.some.inj (beq_iff_eq.mp z)
theorem places_nodup : (placesWithHash es.size (fun i => es[i]?.map (·.hash)) hh).Nodup := by
  unfold placesWithHash
  exact List.Nodup.sublist List.filter_sublist List.nodup_range
theorem Look.none (M : Look prog w A s es v hh m) (h : ∀ i ∈ placesWithHash es.size (fun i => es[i]?.map (·.hash)) hh, ∀ hi : i < es.size, m es[i] = false) : es.findIdx? m = none :=
  Array.findIdx?_eq_none_iff.mpr fun e he => by
    obtain ⟨i, hi, rfl⟩ := Array.mem_iff_getElem.mp he
    cases z : m es[i] with
    | false => rfl
    | true =>
      have := h i (in_places hi (M.hash _ (Array.getElem_mem hi) z)) hi
      rw [z] at this
      cases this
theorem plain_any {Q : Option Nat → Shared → Prop} (ho : s.heap.get? d = some o) (hd : o.data = .dict es ep) (M : Look prog w A s es v hh m) (h : Q (es.findIdx? m) s) :
    wpAny (model prog w) A (dictWalkPlain d v hh es (placesWithHash es.size (fun i => es[i]?.map (·.hash)) hh)) Q E s := by
  unfold dictWalkPlain
  refine wpAny_bind ?_
  refine wpAny_forIn_list _ (fun rest b s' => s' = s ∧ b = (none, ()) ∧ ∃ done, placesWithHash es.size (fun i => es[i]?.map (·.hash)) hh = done ++ rest ∧ ∀ i ∈ done, ∀ hi : i < es.size, m es[i] = false) _ ?_ ?_ _ _ ⟨rfl, rfl, [], rfl, fun i z => nomatch z⟩
  · rintro x rest b s' ⟨rfl, rfl, done, hp, hno⟩
    obtain ⟨hx, hxh⟩ := of_places (es := es) (hh := hh) (i := x) (by rw [hp]; simp)
    simp only [Array.getElem?_eq_getElem hx]
    rw [if_pos (by rw [hxh]; exact beq_self_eq_true _)]
    refine wpAny_bind (wpAny_dictEpoch ho hd (wpAny_bind (M.eqv _ (Array.getElem_mem hx) _ _ _ _ (wpAny_bind (wpAny_dictEpoch ho hd ?_)))))
    show wpAny _ _ (if (ep != ep) = true then _ else _) _ E _
    rw [if_neg (by simp)]
    cases hm : m es[x] with
    | true =>
      rw [M.find hx hm] at h
      exact wpAny_bind (wpAny_rule (wpAny_pure (wpAny_pure h)))
    | false =>
      refine wpAny_bind (wpAny_rule (wpAny_pure ⟨rfl, rfl, done ++ [x], by rw [hp, List.append_assoc]; rfl, fun i hi hl => ?_⟩))
      rcases List.mem_append.mp hi with z | z
      · exact hno i z hl
      · obtain rfl := List.mem_singleton.mp z
        exact hm
  · rintro b s' ⟨rfl, rfl, done, hp, hno⟩
    rw [List.append_nil] at hp
    rw [M.none (by rw [hp]; exact hno)] at h
    exact wpAny_pure h
theorem may_quiet {stored : List Value} {Q : Bool → Shared → Prop} (qv : QuietAt prog w 8 s v) (qs : ∀ u ∈ stored, QuietAt prog w 8 s u) (h : Q false s) : wpAny (model prog w) A (tableMayTell v stored) Q E s := by
  unfold tableMayTell
  split
  · exact wpAny_pure h
  · refine wpAny_bind (qv _ _ _ ?_)
    simp only [Bool.not_true, Bool.false_eq_true, if_false]
    refine wpAny_bind ?_
    refine wpAny_forIn_list _ (fun rest r s' => s' = s ∧ r = (none, ()) ∧ ∀ u ∈ rest, QuietAt prog w 8 s u) _ ?_ ?_ _ _ ⟨rfl, rfl, qs⟩
    · rintro x rest r s' ⟨rfl, rfl, hr⟩
      refine wpAny_bind (hr x List.mem_cons_self _ _ _ ?_)
      simp only [Bool.not_true, Bool.false_eq_true, if_false]
      exact wpAny_pure ⟨rfl, rfl, fun u hu => hr u (List.mem_cons_of_mem _ hu)⟩
    · rintro r s' ⟨rfl, rfl, _⟩
      exact wpAny_pure h
theorem findIdx_eq {f g : DictEntry → Bool} (h : ∀ e ∈ es, f e = g e) : es.findIdx? f = es.findIdx? g := by
  cases z : es.findIdx? g with
  | none =>
    rw [Array.findIdx?_eq_none_iff] at z ⊢
    intro e he
    rw [h e he]
    exact z e he
  | some i =>
    obtain ⟨hi, h1, h2⟩ := Array.findIdx?_eq_some_iff_getElem.mp z
    exact Array.findIdx?_eq_some_iff_getElem.mpr ⟨hi, by rw [h _ (Array.getElem_mem hi)]; exact h1, fun j hj => by rw [h _ (Array.getElem_mem _)]; exact h2 j hj⟩
theorem not_any (M : Look prog w A s es v hh m) : ¬ (es.any fun e => e.key == v && e.hash != hh) = true := by
  rw [← Array.any_toList, List.any_eq_true]
  rintro ⟨e, hin, hc⟩
  rw [Bool.and_eq_true, beq_iff_eq, bne_iff_ne] at hc
  exact hc.2 (M.same e (Array.mem_toList_iff.mp hin) hc.1)
theorem stored_quiet (M : Look prog w A s es v hh m) : ∀ u ∈ (placesWithHash es.size (fun i => es[i]?.map (·.hash)) hh).filterMap (fun i => es[i]?.map (·.key)), QuietAt prog w 8 s u := by
  intro u hu
  obtain ⟨i, hi, z⟩ := List.mem_filterMap.mp hu
  obtain ⟨hl, _⟩ := of_places hi
  rw [Array.getElem?_eq_getElem hl, Option.map_some] at z
  rw [← Option.some.inj z]
  exact M.quiets _ (Array.getElem_mem hl)
theorem find_any {Q : Option Nat → Shared → Prop} (ho : s.heap.get? d = some o) (hd : o.data = .dict es ep) (M : Look prog w A s es v hh m) (h : Q (es.findIdx? m) s) : wpAny (model prog w) A (dictFind d v hh) Q E s := by
  have hany := not_any M
  have hst := stored_quiet M
  unfold dictFind
  try with_reducible refine wpAny_holding ?_
  refine wpAny_bind (wpAny_dictEntries ho hd ?_)
  have strOne : ∀ x t, v = .str x t → (es.all fun e => isExactStrKey e.key) = true → wpAny (model prog w) A (foundByValue d v es x) Q E s := by
    intro x t ev hs
    have hf : es.findIdx? (fun e => e.key.isStr x) = es.findIdx? m := by
      have all : ∀ e ∈ es, e.key.isStr x = m e := fun e he => M.txts x t ev e he (by
        rw [← Array.all_toList, List.all_eq_true] at hs
        exact hs e (Array.mem_toList_iff.mpr he))
      exact findIdx_eq all
    unfold foundByValue
    rw [hf]
    cases hc : es.findIdx? m with
    | none =>
      rw [hc] at h
      exact wpAny_pure h
    | some i =>
      rw [hc] at h
      obtain ⟨hlt, hi, _⟩ := Array.findIdx?_eq_some_iff_getElem.mp hc
      simp only [Array.getElem?_eq_getElem hlt]
      refine wpAny_bind (wpAny_dictEpoch ho hd (wpAny_bind (M.eqv _ (Array.getElem_mem hlt) _ _ _ _ (wpAny_bind (wpAny_dictEpoch ho hd ?_)))))
      show wpAny _ _ (if (ep != ep) = true then _ else _) _ E _
      rw [if_neg (by simp), hi]
      exact wpAny_bind (wpAny_rule (wpAny_pure h))
  dsimp only
  by_cases hall : ((v :: (placesWithHash es.size (fun i => es[i]?.map (·.hash)) hh).filterMap (fun i => es[i]?.map (·.key))).all carriedByValue) = true
  · rw [if_pos hall]
    split
    · split
      · rename_i hs
        exact strOne _ _ rfl hs
      · exact plain_any ho hd M h
    · exact plain_any ho hd M h
  · rw [if_neg hall]
    rw [if_neg hany]
    have nd := places_nodup (es := es) (hh := hh)
    by_cases hone : ((placesWithHash es.size (fun i => es[i]?.map (·.hash)) hh).filterMap (fun i => es[i]?.map (·.key)) == [v]) = true
    all_goals
      first | rw [if_pos hone] | rw [if_neg hone]
      cases v
      all_goals
        dsimp only
        try (split; (rename_i hs; exact strOne _ _ rfl hs))
        first
          | refine wpAny_bind (wpAny_pure ?_)
          | refine wpAny_bind (may_quiet M.quiet hst ?_)
        rw [if_neg (by simp)]
        refine wpAny_bind ?_
        refine wpAny_forIn_list _ (fun rest b s' => s' = s ∧ ∃ done hit, placesWithHash es.size (fun i => es[i]?.map (·.hash)) hh = done ++ rest ∧ b = (none, hit) ∧ ((hit = none ∧ ∀ i ∈ done, ∀ hi : i < es.size, m es[i] = false) ∨ ∃ i, ∃ hi : i < es.size, hit = some i ∧ i ∈ done ∧ m es[i] = true)) _ ?_ ?_ _ _
          ⟨rfl, [], none, rfl, rfl, .inl ⟨rfl, fun i z => nomatch z⟩⟩
        · rintro x rest b s' ⟨rfl, done, hit, hp, rfl, hH⟩
          obtain ⟨hx, hxh⟩ := of_places (es := es) (hh := hh) (i := x) (by rw [hp]; simp)
          simp only [Array.getElem?_eq_getElem hx]
          rw [if_pos (by rw [hxh]; exact beq_self_eq_true _)]
          refine wpAny_bind (wpAny_dictEpoch ho hd (wpAny_bind (M.eqv _ (Array.getElem_mem hx) _ _ _ _ (wpAny_bind (wpAny_dictEpoch ho hd ?_)))))
          show wpAny _ _ (if (ep != ep) = true then _ else _) _ E _
          rw [if_neg (by simp)]
          cases hm : m es[x] with
          | true =>
            rcases hH with ⟨rfl, hno⟩ | ⟨i, hi, rfl, hd1, hm1⟩
            · simp only [Option.isSome_none, Bool.false_eq_true, if_false, if_true]
              refine wpAny_bind (wpAny_rule ?_)
              split
              · rw [M.find hx hm] at h
                exact wpAny_pure (wpAny_pure h)
              · exact wpAny_pure ⟨rfl, done ++ [x], some x, by rw [hp, List.append_assoc]; rfl, rfl, .inr ⟨x, hx, rfl, by simp, hm⟩⟩
            · have e := M.one i x hi hx hm1 hm
              subst e
              rw [hp] at nd
              exact absurd rfl ((List.nodup_append.mp nd).2.2 i hd1 i (by simp))
          | false =>
            simp only [Bool.false_eq_true, if_false]
            refine wpAny_bind (wpAny_rule ?_)
            try rw [if_neg (by simp)]
            refine wpAny_pure ⟨rfl, done ++ [x], hit, by rw [hp, List.append_assoc]; rfl, rfl, ?_⟩
            rcases hH with ⟨h0, hno⟩ | ⟨i, hi, h1, hd1, hm1⟩
            · refine .inl ⟨h0, fun i hi hl => ?_⟩
              rcases List.mem_append.mp hi with z | z
              · exact hno i z hl
              · obtain rfl := List.mem_singleton.mp z
                exact hm
            · exact .inr ⟨i, hi, h1, List.mem_append.mpr (.inl hd1), hm1⟩
        · rintro b s' ⟨rfl, done, hit, hp, rfl, hH⟩
          rw [List.append_nil] at hp
          rcases hH with ⟨rfl, hno⟩ | ⟨i, hi, rfl, hd1, hm1⟩
          · rw [M.none (by rw [hp]; exact hno)] at h
            exact wpAny_pure h
          · rw [M.find hi hm1] at h
            exact wpAny_pure h
end
end MX

set_option Elab.async false
set_option linter.all false
set_option maxRecDepth 100000
set_option maxHeartbeats 4000000
/-! The same, told by keys: flat ones and tuples of such. -/
namespace MX
open PySem PySem.Spec PySem.SeqAt PyProof.Rows
section
variable {prog : Program} {w : World} {A : Around} {E : Value → Shared → Prop} {s : Shared} {d : Addr} {o : Obj} {es : Array DictEntry} {ep : Nat} {v : Value}
/-- an entry -/
def entN (w : World) (x : NestedKey × Value × Value) : DictEntry := ⟨x.1.hash w, x.2.1, x.2.2⟩
/-- the keys stand there -/
def KeysN (h : Heap) (xs : List (NestedKey × Value × Value)) : Prop := ∀ x ∈ xs, NestedIs h x.1 x.2.1 ∧ x.1.depth ≤ 8
noncomputable def isN (h : Heap) (k : NestedKey) (e : DictEntry) : Bool := @decide (NestedIs h k e.key) (Classical.propDecidable _)
theorem isN_iff {h : Heap} {k : NestedKey} {e : DictEntry} : isN h k e = true ↔ NestedIs h k e.key := by
  unfold isN
  exact @decide_eq_true_iff _ (Classical.propDecidable _)
theorem isN_ent {h : Heap} {k : NestedKey} {x : NestedKey × Value × Value} (hx : NestedIs h x.1 x.2.1) : isN h k (entN w x) = decide (x.1 = k) := by
  cases z : isN h k (entN w x) with
  | true => exact (decide_eq_true (NestedIs.inj _ _ _ hx (isN_iff.mp z))).symm
  | false =>
    refine (decide_eq_false fun e => ?_).symm
    subst e
    have := isN_iff (k := x.1) (e := entN w x) |>.mpr hx
    rw [z] at this
    cases this
theorem ent_of {xs : List (NestedKey × Value × Value)} (he : es.toList = xs.map (entN w)) {e : DictEntry} (h : e ∈ es) : ∃ x ∈ xs, e = entN w x := by
  have z : e ∈ xs.map (entN w) := he ▸ Array.mem_toList_iff.mpr h
  obtain ⟨x, hx, rfl⟩ := List.mem_map.mp z
  exact ⟨x, hx, rfl⟩
theorem ent_size {xs : List (NestedKey × Value × Value)} (he : es.toList = xs.map (entN w)) : es.size = xs.length := by
  rw [← Array.length_toList, he, List.length_map]
theorem ent_at {xs : List (NestedKey × Value × Value)} (he : es.toList = xs.map (entN w)) {i : Nat} (hi : i < es.size) : es[i] = entN w (xs[i]'(by rw [← ent_size he]; exact hi)) := by
  have z : es.toList[i]'(by rw [Array.length_toList]; exact hi) = (xs.map (entN w))[i]'(by rw [List.length_map, ← ent_size he]; exact hi) := by simp only [he]
  rw [List.getElem_map] at z
  rw [← z]
  exact (Array.getElem_toList hi).symm
theorem look_nest {xs : List (NestedKey × Value × Value)} {k : NestedKey} (he : es.toList = xs.map (entN w)) (his : KeysN s.heap xs) (nd : (xs.map (·.1)).Nodup) (hk : NestedIs s.heap k v) (kd : k.depth ≤ 8) (hu : A.units + 8 < cLine) :
    Look prog w A s es v (k.hash w) (isN s.heap k) where
  eqv := fun e h => by
    obtain ⟨x, hx, rfl⟩ := ent_of he h
    have z := eqAt_key x.1 k A s x.2.1 v (his x hx).1 hk (by have := (his x hx).2; omega)
    rw [isN_ent (his x hx).1, NestedKey.decide_eq]
    exact z
  hash := fun e h z => by
    obtain ⟨x, hx, rfl⟩ := ent_of he h
    rw [isN_ent (his x hx).1, decide_eq_true_iff] at z
    show x.1.hash w = _
    rw [z]
  same := fun e h z => by
    obtain ⟨x, hx, rfl⟩ := ent_of he h
    have q := (his x hx).1
    have z2 : x.2.1 = v := z
    rw [z2] at q
    show x.1.hash w = _
    rw [NestedIs.inj _ _ _ q hk]
  quiet := quiet_key k v 8 s hk kd
  quiets := fun e h => by
    obtain ⟨x, hx, rfl⟩ := ent_of he h
    exact quiet_key x.1 _ 8 s (his x hx).1 (his x hx).2
  txts := fun x t ev e h z => by
    subst ev
    cases hk
    cases hek : e.key with
    | str y u =>
      rw [Bool.eq_iff_iff, isN_iff, hek]
      constructor
      · intro q
        have : y = x := by simpa [Value.isStr] using q
        rw [this]
        exact .text _ _
      · intro q
        cases q
        simp [Value.isStr]
    | _ =>
      rw [hek] at z
      cases z
  one := fun i j hi hj h1 h2 => by
    rw [ent_at he hi, isN_ent (his _ (List.getElem_mem _)).1, decide_eq_true_iff] at h1
    rw [ent_at he hj, isN_ent (his _ (List.getElem_mem _)).1, decide_eq_true_iff] at h2
    have pw := List.pairwise_iff_getElem.mp nd
    have li : i < (xs.map (·.1)).length := by rw [List.length_map, ← ent_size he]; exact hi
    have lj : j < (xs.map (·.1)).length := by rw [List.length_map, ← ent_size he]; exact hj
    rcases Nat.lt_trichotomy i j with z | z | z
    · exact absurd (by rw [List.getElem_map, List.getElem_map, h1, h2]) (pw i j li lj z)
    · exact z
    · exact absurd (by rw [List.getElem_map, List.getElem_map, h1, h2]) (pw j i lj li z)
end
end MX

set_option Elab.async false
set_option linter.all false
set_option maxRecDepth 100000
set_option maxHeartbeats 4000000
/-! A dict of flat keys and tuples: what stands under a key, a key stored. -/
namespace MX
open PySem PySem.Spec PySem.SeqAt PyProof.Rows
/-- the dict at d: its keys as keys and as values, and what stands under them, in their order -/
def DictN (w : World) (h : Heap) (d : Addr) (xs : List (NestedKey × Value × Value)) : Prop :=
  ∃ o es ep, h.get? d = some o ∧ o.ExactDict ∧ o.data = .dict es ep ∧ es.toList = xs.map (entN w) ∧ KeysN h xs ∧ (xs.map (·.1)).Nodup
def putN (k : NestedKey) (u : Value) (x : NestedKey × Value × Value) : NestedKey × Value × Value := if x.1 = k then (x.1, x.2.1, u) else x
/-- u stored under k, the key v -/
def storeN (xs : List (NestedKey × Value × Value)) (k : NestedKey) (v u : Value) : List (NestedKey × Value × Value) := if k ∈ xs.map (·.1) then xs.map (putN k u) else xs ++ [(k, v, u)]
def atN (xs : List (NestedKey × Value × Value)) (k : NestedKey) : Option Value := (xs.find? fun x => decide (x.1 = k)).map (·.2.2)
theorem putN_key {k : NestedKey} {u : Value} (xs : List (NestedKey × Value × Value)) : (xs.map (putN k u)).map (·.1) = xs.map (·.1) := by
  rw [List.map_map]
  refine List.map_congr_left fun x _ => ?_
  show (putN k u x).1 = x.1
  unfold putN
  split <;> rfl
theorem atN_none {xs : List (NestedKey × Value × Value)} {k : NestedKey} (h : k ∉ xs.map (·.1)) : atN xs k = none := by
  unfold atN
  rw [List.find?_eq_none.mpr fun x hx => by
    rw [decide_eq_true_iff]
    intro e
    exact h (List.mem_map.mpr ⟨x, hx, e⟩)]
  rfl
theorem atN_some {xs : List (NestedKey × Value × Value)} {k : NestedKey} {x : NestedKey × Value × Value} (nd : (xs.map (·.1)).Nodup) (hx : x ∈ xs) (e : x.1 = k) : atN xs k = some x.2.2 := by
  unfold atN
  induction xs with
  | nil => cases hx
  | cons y ys ih =>
    rw [List.find?_cons]
    rw [List.map_cons, List.nodup_cons] at nd
    rcases List.mem_cons.mp hx with rfl | z
    · rw [decide_eq_true e]
      rfl
    · have ne : y.1 ≠ k := fun q => nd.1 (List.mem_map.mpr ⟨x, z, e.trans q.symm⟩)
      rw [decide_eq_false ne]
      exact ih nd.2 z
section
variable {prog : Program} {w : World} {A : Around} {E : Value → Shared → Prop} {s : Shared} {d : Addr} {o : Obj} {es : Array DictEntry} {ep : Nat} {v u : Value} {k : NestedKey} {xs : List (NestedKey × Value × Value)}
theorem KeysN.keeps {h h' : Heap} (ks : KeysN h xs) (ho : h.get? d = some o) (hd : o.data = .dict es ep) (hs : Heap.SameBut d h h') : KeysN h' xs := fun x hx =>
  ⟨NestedIs.at (fun b ob vs n hb hc => (hs.2 b fun e => by
    subst e
    rw [ho] at hb
    cases hb
    rw [hd] at hc
    cases hc).trans hb) x.1 _ (ks x hx).1, (ks x hx).2⟩
/-- where k stands -/
theorem find_pos (he : es.toList = xs.map (entN w)) {h : Heap} (his : KeysN h xs) : (k ∉ xs.map (·.1) ∧ es.findIdx? (isN h k) = none) ∨ ∃ i, ∃ hi : i < xs.length, xs[i].1 = k ∧ es.findIdx? (isN h k) = some i := by
  cases z : es.findIdx? (isN h k) with
  | none =>
    refine .inl ⟨fun hm => ?_, rfl⟩
    obtain ⟨x, hx, e⟩ := List.mem_map.mp hm
    have q : entN w x ∈ es := Array.mem_toList_iff.mp (he ▸ List.mem_map.mpr ⟨x, hx, rfl⟩)
    have r := Array.findIdx?_eq_none_iff.mp z _ q
    rw [isN_ent (his x hx).1, decide_eq_true e] at r
    cases r
  | some i =>
    obtain ⟨hi, h1, _⟩ := Array.findIdx?_eq_some_iff_getElem.mp z
    have hl : i < xs.length := by rw [← ent_size he]; exact hi
    rw [ent_at he hi, isN_ent (his _ (List.getElem_mem _)).1, decide_eq_true_iff] at h1
    exact .inr ⟨i, hl, h1, rfl⟩
theorem get_nest {Q : Option Value → Shared → Prop} (hm : DictN w s.heap d xs) (hk : NestedIs s.heap k v) (kd : k.depth ≤ 8) (hu : A.units + 8 < cLine) (h : Q (atN xs k) { s with toks := s.toks + k.draws }) : wpAny (model prog w) A (dictGet d v) Q E s := by
  obtain ⟨o, es, ep, ho, hc, hd, he, his, nd⟩ := hm
  unfold dictGet
  try with_reducible refine wpAny_holding ?_
  refine wpAny_bind (pyHash_key k v A s _ hk (by omega) ?_)
  refine wpAny_bind (find_any (s := { s with toks := s.toks + k.draws }) ho hd (look_nest (s := { s with toks := s.toks + k.draws }) he his nd hk kd hu) ?_)
  rcases find_pos (k := k) he his with ⟨hno, e⟩ | ⟨i, hi, hx, e⟩
  · show (fun r s' => wpAny _ _ _ Q E s') (es.findIdx? (isN s.heap k)) _
    rw [e]
    rw [atN_none hno] at h
    exact wpAny_pure h
  · show (fun r s' => wpAny _ _ _ Q E s') (es.findIdx? (isN s.heap k)) _
    rw [e]
    rw [atN_some nd (List.getElem_mem hi) hx] at h
    refine wpAny_bind (wpAny_dictEntries (s := { s with toks := s.toks + k.draws }) ho hd ?_)
    have hi2 : i < es.size := by rw [ent_size he]; exact hi
    rw [Array.getElem?_eq_getElem hi2, ent_at he hi2]
    exact wpAny_pure h
theorem modify_put {i : Nat} (nd : (xs.map (·.1)).Nodup) (hi : i < xs.length) (hx : xs[i].1 = k) : (xs.map (entN w)).modify i (fun e => { e with val := u }) = (xs.map (putN k u)).map (entN w) := by
  refine List.ext_getElem (by simp) fun j h1 h2 => ?_
  have hj : j < xs.length := by simpa using h2
  rw [List.getElem_modify, List.getElem_map, List.getElem_map, List.getElem_map]
  by_cases e : i = j
  · subst e
    rw [if_pos rfl]
    unfold putN
    rw [if_pos hx]
    rfl
  · rw [if_neg e]
    unfold putN
    rw [if_neg fun z => ?_]
    have pw := List.pairwise_iff_getElem.mp nd
    rcases Nat.lt_or_gt_of_ne e with lt | lt
    · exact pw i j (by simpa using hi) (by simpa using hj) lt (by rw [List.getElem_map, List.getElem_map, hx, z])
    · exact pw j i (by simpa using hj) (by simpa using hi) lt (by rw [List.getElem_map, List.getElem_map, hx, z])
theorem set_nest {Q : Unit → Shared → Prop} (hm : DictN w s.heap d xs) (hk : NestedIs s.heap k v) (kd : k.depth ≤ 8) (hu : A.units + 8 < cLine) (few : xs.length ≤ sizeLine)
    (hQ : ∀ h', DictN w h' d (storeN xs k v u) → Heap.SameBut d s.heap h' → Q () { s with heap := h', toks := s.toks + k.draws }) : wpAny (model prog w) A (dictSet d v u) Q E s := by
  obtain ⟨o, es, ep, ho, hc, hd, he, his, nd⟩ := hm
  unfold dictSet
  try with_reducible refine wpAny_holding ?_
  refine wpAny_bind (pyHash_key k v A s _ hk (by omega) ?_)
  unfold dictSetHashed
  try with_reducible refine wpAny_holding ?_
  refine wpAny_bind (find_any (s := { s with toks := s.toks + k.draws }) ho hd (look_nest (s := { s with toks := s.toks + k.draws }) he his nd hk kd hu) ?_)
  rcases find_pos (k := k) he his with ⟨hno, e⟩ | ⟨i, hi, hx, e⟩
  · show (fun r s' => wpAny _ _ _ Q E s') (es.findIdx? (isN s.heap k)) _
    rw [e]
    refine wpAny_bind (wpAny_rule (wpAny_updateDictKeys (hz := by have e := ent_size he; omega) (s := { s with toks := s.toks + k.draws }) ho hd (hQ _ ⟨_, _, ep + 1, Heap.get?_update_self _ ho (Obj.isFreed_of_dict (Obj.data_mapDictKeys hd _)),
      hc.mapDictKeys _, Obj.data_mapDictKeys hd _, ?_, ?_, ?_⟩ (Heap.SameBut.update ..))))
    · unfold storeN
      rw [if_neg hno]
      simp [he, entN]
    · unfold storeN
      rw [if_neg hno]
      have all : KeysN s.heap (xs ++ [(k, v, u)]) := fun x hx => by
        rcases List.mem_append.mp hx with z | z
        · exact his x z
        · obtain rfl := List.mem_singleton.mp z
          exact ⟨hk, kd⟩
      exact KeysN.keeps all ho hd (Heap.SameBut.update ..)
    · unfold storeN
      rw [if_neg hno, List.map_append, List.nodup_append]
      refine ⟨nd, by simp, ?_⟩
      intro x hx y hy
      simp only [List.map_cons, List.map_nil, List.mem_singleton] at hy
      subst hy
      exact fun e => hno (e ▸ hx)
  · show (fun r s' => wpAny _ _ _ Q E s') (es.findIdx? (isN s.heap k)) _
    rw [e]
    have hin : k ∈ xs.map (·.1) := List.mem_map.mpr ⟨xs[i], List.getElem_mem hi, hx⟩
    refine wpAny_bind (wpAny_rule (wpAny_bind (wpAny_updateDict (s := { s with toks := s.toks + k.draws }) ho hd (wpAny_point (hQ _ ⟨_, _, ep, Heap.get?_update_self _ ho (Obj.isFreed_of_dict (Obj.data_mapDict hd _)),
      hc.mapDict _, Obj.data_mapDict hd _, ?_, ?_, ?_⟩ (Heap.SameBut.update ..))))))
    · unfold storeN
      rw [if_pos hin, Array.toList_modify, he]
      exact modify_put nd hi hx
    · unfold storeN
      rw [if_pos hin]
      have all : KeysN s.heap (xs.map (putN k u)) := fun x hx => by
        obtain ⟨y, hy, rfl⟩ := List.mem_map.mp hx
        unfold putN
        split <;> exact his y hy
      exact KeysN.keeps all ho hd (Heap.SameBut.update ..)
    · unfold storeN
      rw [if_pos hin, putN_key]
      exact nd
end
end MX

set_option Elab.async false
set_option linter.all false
set_option maxRecDepth 100000
set_option maxHeartbeats 4000000
/-! k in d, d[k], d[k] = u for such a dict. -/
namespace MX
open PySem PySem.Spec PySem.SeqAt PyProof.Rows
section
variable {prog : Program} {w : World} {A : Around} {E : Value → Shared → Prop} {s : Shared} {d : Addr} {v u : Value} {k : NestedKey} {xs : List (NestedKey × Value × Value)}
theorem DictN.typeIs (hm : DictN w s.heap d xs) : s.TypeIs (.ref d) "dict" := let ⟨o, _, _, ho, hc, _⟩ := hm; ⟨o, ho, hc.1⟩
theorem contains_nest {Q : Bool → Shared → Prop} (hm : DictN w s.heap d xs) (hd : (d == sysModules) = false) (hk : NestedIs s.heap k v) (kd : k.depth ≤ 8) (hu : A.in1.units + 8 < cLine)
    (h : Q (atN xs k).isSome { s with toks := s.toks + k.draws }) : wpAny (model prog w) A (contains (.ref d) v) Q E s := by
  unfold contains
  try with_reducible refine wpAny_holding ?_
  refine wpAny_bind (wpAny_specialOf (hm.typeIs) slot_dict_contains.lookup ?_)
  show wpAny _ _ (if (some (Value.builtin "dict.__contains__") == some Value.none) = true then _ else _) _ E s
  rw [if_neg (by rw [beq_builtin_none]; exact Bool.false_ne_true)]
  refine wpAny_bind (wpAny_callSpecialUnlessNone?_slot (name := Str.ofString "__contains__") (hm.typeIs) slot_dict_contains
    (wpAny_call_entry slot_dict_contains (hm.typeIs) entry_dict_contains ?_ (args_dict_contains _ _)))
  show wpAny _ _ (dictGet d v >>= _) _ _ s
  refine wpAny_bind (get_nest hm hk kd hu ?_)
  cases hf : atN xs k with
  | some p =>
    rw [hf] at h
    show wpAny _ _ (ret (.bool true)) _ _ _
    exact wpAny_pure ⟨_, rfl, wpAny_truthy_bool h⟩
  | none =>
    rw [hf] at h
    show wpAny _ _ (Builtin.Dict.pendingKey? d v >>= _) _ _ _
    exact wpAny_bind (wpAny_pendingKey_other hd (wpAny_pure ⟨_, rfl, wpAny_truthy_bool h⟩))
theorem getItem_nest {p : Value} {Q : Value → Shared → Prop} (hm : DictN w s.heap d xs) (hk : NestedIs s.heap k v) (kd : k.depth ≤ 8) (hu : A.in1.units + 8 < cLine) (hp : atN xs k = some p)
    (h : Q p { s with toks := s.toks + k.draws }) : wpAny (model prog w) A (getItem (.ref d) v) Q E s := by
  unfold getItem
  try with_reducible refine wpAny_holding ?_
  refine wpAny_bind (wpAny_sequenceKey (hm.typeIs) (by decide) ?_)
  refine wpAny_bind (wpAny_callSpecial?_slot (name := Str.ofString "__getitem__") (hm.typeIs) slot_dict_getitem
    (wpAny_call_entry slot_dict_getitem (hm.typeIs) entry_dict_getitem ?_ (args_dict_getitem _ _)))
  show wpAny _ _ (dictGet d v >>= _) _ _ s
  refine wpAny_bind (get_nest hm hk kd hu ?_)
  rw [hp]
  exact wpAny_pure ⟨p, rfl, wpAny_pure h⟩
theorem setItem_nest {Q : Unit → Shared → Prop} (hm : DictN w s.heap d xs) (hk : NestedIs s.heap k v) (kd : k.depth ≤ 8) (hu : A.in1.units + 8 < cLine) (few : xs.length ≤ sizeLine)
    (hQ : ∀ h', DictN w h' d (storeN xs k v u) → Heap.SameBut d s.heap h' → Q () { s with heap := h', toks := s.toks + k.draws }) : wpAny (model prog w) A (setItem (.ref d) v u) Q E s := by
  unfold setItem
  try with_reducible refine wpAny_holding ?_
  refine wpAny_bind (wpAny_sequenceKey (hm.typeIs) (by decide) ?_)
  refine wpAny_bind (wpAny_callSpecial?_slot (name := Str.ofString "__setitem__") (hm.typeIs) slot_dict_setitem
    (wpAny_call_entry slot_dict_setitem (hm.typeIs) entry_dict_setitem ?_ (args_dict_setitem _ _ _)))
  show wpAny _ _ (Builtin.Dict.notOrdered "__setitem__" ⟨[.ref d, v, u], []⟩ >>= _) _ _ s
  refine wpAny_bind (wpAny_notOrdered_dict (hm.typeIs) ?_)
  show wpAny _ _ (dictSet d v u >>= _) _ _ s
  exact wpAny_bind (set_nest hm hk kd hu few fun h' hm' hs' => wpAny_pure ⟨.none, rfl, wpAny_pure (hQ h' hm' hs')⟩)
end
end MX

set_option Elab.async false
set_option linter.all false
set_option maxRecDepth 100000
set_option maxHeartbeats 4000000
/-! Dicts of flat keys and tuples, tracked. -/
namespace L2
open PySem PySem.Spec PyProof.Rows MX
/-- the dict at a: each key, what it is as a value, what stands under it -/
def MixO (w : World) (a : Addr) (kvs : List (NestedKey × V × V)) : HO := .ext fun h => kvs.length ≤ sizeLine ∧ (a == sysModules) = false ∧ ∃ xs : List (NestedKey × Value × Value),
  Paired (fun p q => p.1 = q.1 ∧ RelV p.2.1 q.2.1 ∧ RelV p.2.2 q.2.2) kvs xs ∧ ∃ o es ep, h.get? a = some o ∧ o.ExactDict ∧ o.data = .dict es ep ∧ es.toList = xs.map (entN w) ∧ (xs.map (·.1)).Nodup
/-- the key k is the value x: a flat one -/
inductive KeyF : NestedKey → V → Prop
  | none : KeyF .none .non
  | int (i : Int) : KeyF (.num i) (.int i)
  | text (z : Str) : KeyF (.text z) (.str z)
  | bool (b : Bool) : KeyF (.num (if b = true then 1 else 0)) (.bl b)
inductive KeyFs : List NestedKey → List V → Prop
  | nil : KeyFs [] []
  | cons {k : NestedKey} {x : V} {ks : List NestedKey} {xs : List V} : KeyF k x → KeyFs ks xs → KeyFs (k :: ks) (x :: xs)
/-- .. or a tuple of such -/
inductive KeyV (H : Hp) : NestedKey → V → Prop
  | flat {k : NestedKey} {x : V} : KeyF k x → KeyV H k x
  | tup {t : Addr} {ks : List NestedKey} {xs : List V} : H t = some (.tup xs) → KeyFs ks xs → KeyV H (.tup ks) (.ref t)
theorem KeyF.is {h : Heap} {k : NestedKey} {x : V} {u : Value} (f : KeyF k x) (r : RelV x u) : NestedIs h k u ∧ k.depth = 0 := by
  cases f with
  | none => cases r; exact ⟨.none, rfl⟩
  | int i => obtain ⟨t, rfl⟩ := r; exact ⟨.int _ _, rfl⟩
  | text z => obtain ⟨t, rfl⟩ := r; exact ⟨.text _ _, rfl⟩
  | bool b => cases r; exact ⟨.bool rfl, rfl⟩
theorem KeyFs.all {h : Heap} {ks : List NestedKey} {xs : List V} {us : List Value} (f : KeyFs ks xs) (r : Vals xs us) : NestedAll h ks us ∧ NestedKey.depthAll ks = 0 := by
  induction f generalizing us with
  | nil => cases r; exact ⟨.nil, rfl⟩
  | cons g _ ih =>
    cases r with
    | cons r1 r2 =>
      have a := ih r2
      have b := g.is (h := h) r1
      refine ⟨.cons b.1 a.1, ?_⟩
      simp only [NestedKey.depthAll]
      omega
section
variable {X : Cx} {pins : List (Addr × Obj)} {σ : St} {H : Hp} {s : Shared} {k : NestedKey} {x : V} {u : Value}
theorem KeyV.is (I : Inv X pins σ H s) (f : KeyV H k x) (r : RelV x u) : NestedIs s.heap k u ∧ k.depth ≤ 8 := by
  cases f with
  | flat g =>
    have z := g.is (h := s.heap) r
    exact ⟨z.1, by omega⟩
  | tup ht g =>
    obtain rfl : u = Value.ref _ := r
    obtain ⟨_, its, rv, ob⟩ := I.hok _ _ ht
    have z := g.all (h := s.heap) rv
    obtain ⟨o, e1, e2, n, e3⟩ := ob
    exact ⟨.tup e1 e2 e3 (show NestedAll _ _ its.toArray.toList from z.1), by show NestedKey.depthAll _ + 1 ≤ 8; omega⟩
end
/-- one key stored -/
def putM (kvs : List (NestedKey × V × V)) (k : NestedKey) (x v : V) : List (NestedKey × V × V) := if k ∈ kvs.map (·.1) then kvs.map (fun p => if p.1 = k then (p.1, p.2.1, v) else p) else kvs ++ [(k, x, v)]
/-- what stands under a key -/
def atM (kvs : List (NestedKey × V × V)) (k : NestedKey) : Option V := (kvs.find? fun p => decide (p.1 = k)).map (·.2.2)
abbrev PairM (kvs : List (NestedKey × V × V)) (xs : List (NestedKey × Value × Value)) : Prop := Paired (fun p q => p.1 = q.1 ∧ RelV p.2.1 q.2.1 ∧ RelV p.2.2 q.2.2) kvs xs
theorem PairM.keys {kvs : List (NestedKey × V × V)} {xs : List (NestedKey × Value × Value)} (h : PairM kvs xs) : kvs.map (·.1) = xs.map (·.1) := by
  induction h with
  | nil => rfl
  | cons e _ ih => rw [List.map_cons, List.map_cons, e.1, ih]
theorem PairM.len {kvs : List (NestedKey × V × V)} {xs : List (NestedKey × Value × Value)} (h : PairM kvs xs) : kvs.length = xs.length := by
  induction h with
  | nil => rfl
  | cons e _ ih => rw [List.length_cons, List.length_cons, ih]
theorem PairM.at {kvs : List (NestedKey × V × V)} {xs : List (NestedKey × Value × Value)} (h : PairM kvs xs) (k : NestedKey) : RelO (atM kvs k) (atN xs k) := by
  unfold atM atN
  induction h with
  | nil => first | exact True.intro | exact .none | exact ⟨⟩
  | @cons a b l1 l2 e _ ih =>
    rw [List.find?_cons, List.find?_cons, e.1]
    cases decide (b.1 = k) with
    | true => exact e.2.2
    | false => exact ih
theorem PairM.put {kvs : List (NestedKey × V × V)} {xs : List (NestedKey × Value × Value)} (h : PairM kvs xs) {k : NestedKey} {x v : V} {u r : Value} (rx : RelV x u) (rv : RelV v r) : PairM (putM kvs k x v) (storeN xs k u r) := by
  unfold putM storeN
  rw [h.keys]
  split
  · rename_i hin
    clear rx hin
    induction h with
    | nil => exact .nil
    | @cons a b l1 l2 e _ ih =>
      rw [List.map_cons, List.map_cons]
      refine .cons ?_ ih
      unfold putN
      rw [e.1]
      split
      · exact ⟨rfl, e.2.1, rv⟩
      · exact e
  · exact h.snoc ⟨rfl, rx, rv⟩
theorem putM_len (kvs : List (NestedKey × V × V)) (k : NestedKey) (x v : V) : (putM kvs k x v).length ≤ kvs.length + 1 := by
  unfold putM
  split
  · rw [List.length_map]
    exact Nat.le_succ _
  · rw [List.length_append]
    exact Nat.le_refl _
/-- it is there, and so are its keys -/
structure MixD (w : World) (H : Hp) (a : Addr) (kvs : List (NestedKey × V × V)) : Prop where
  at_ : H a = some (MixO w a kvs)
  keys : ∀ p ∈ kvs, KeyV H p.1 p.2.1
theorem mix_ok {P : Program} {w : World} {H : Hp} {h : Heap} {a : Addr} {kvs : List (NestedKey × V × V)} {xs : List (NestedKey × Value × Value)} (few : kvs.length ≤ sizeLine) (hd : (a == sysModules) = false) (r : PairM kvs xs)
    (x : ∃ o es ep, h.get? a = some o ∧ o.ExactDict ∧ o.data = .dict es ep ∧ es.toList = xs.map (entN w) ∧ (xs.map (·.1)).Nodup) : ObjOk P w H h a (MixO w a kvs) := by
  refine ⟨⟨few, hd, xs, r, x⟩, ?_, fun h1 h2 z k => ?_⟩
  · obtain ⟨o, es, ep, e, _⟩ := x
    exact ⟨o, e⟩
  · obtain ⟨few2, hd2, xs2, r2, o, es, ep, e, q⟩ := z
    exact ⟨few2, hd2, xs2, r2, o, es, ep, k _ e, q⟩
section
variable {X : Cx} {pins : List (Addr × Obj)} {σ : St} {H : Hp} {s : Shared} {a : Addr} {kvs : List (NestedKey × V × V)} {k : NestedKey} {x v : V} {u r : Value} {A : Around} {E : Value → Shared → Prop}
theorem PairM.keysN {xs : List (NestedKey × Value × Value)} (p : PairM kvs xs) (I : Inv X pins σ H s) (hk : ∀ p ∈ kvs, KeyV H p.1 p.2.1) : KeysN s.heap xs := by
  induction p with
  | nil => exact fun y hy => nomatch hy
  | @cons c d l1 l2 e _ ih =>
    intro y hy
    rcases List.mem_cons.mp hy with rfl | z
    · have q := (hk c List.mem_cons_self).is I e.2.1
      rw [e.1] at q
      exact q
    · exact ih (fun p hp => hk p (List.mem_cons_of_mem _ hp)) y z
theorem MixD.dict (I : Inv X pins σ H s) (m : MixD X.w H a kvs) : kvs.length ≤ sizeLine ∧ (a == sysModules) = false ∧ ∃ xs, PairM kvs xs ∧ DictN X.w s.heap a xs := by
  obtain ⟨⟨few, hd, xs, p, o, es, ep, h1, h2, h3, h4, h5⟩, _, _⟩ := I.hok a _ m.at_
  refine ⟨few, hd, xs, p, o, es, ep, h1, h2, h3, h4, PairM.keysN p I m.keys, h5⟩
/-- d[y], there -/
theorem m_getItem {Q : Value → Shared → Prop} (hu : A.in1.units + 8 < cLine) (I : Inv X pins σ H s) (m : MixD X.w H a kvs) (hk : KeyV H k x) (rx : RelV x u) (l : atM kvs k = some v) (h : ∀ w' s', Inv X pins σ H s' → RelV v w' → Q w' s') :
    wpAny (model X.prog X.w) A (getItem (.ref a) u) Q E s := by
  obtain ⟨few, hd, xs, p, D⟩ := m.dict I
  have z := hk.is I rx
  obtain ⟨w', hw, rw'⟩ := RelO.some_of (v := v) (o := atN xs k) (by rw [← l]; exact PairM.at p k)
  exact getItem_nest D z.1 z.2 hu hw (h w' _ (I.tok _) rw')
/-- y in d -/
theorem m_contains {Q : Bool → Shared → Prop} (hu : A.in1.units + 8 < cLine) (I : Inv X pins σ H s) (m : MixD X.w H a kvs) (hk : KeyV H k x) (rx : RelV x u) (h : ∀ s', Inv X pins σ H s' → Q (atM kvs k).isSome s') :
    wpAny (model X.prog X.w) A (contains (.ref a) u) Q E s := by
  obtain ⟨few, hd, xs, p, D⟩ := m.dict I
  have z := hk.is I rx
  refine contains_nest D hd z.1 z.2 hu ?_
  rw [← (PairM.at p k).isSome_eq]
  exact h _ (I.tok _)
/-- d[y] = v -/
theorem m_setItem {Q : Unit → Shared → Prop} (hu : A.in1.units + 8 < cLine) (I : Inv X pins σ H s) (m : MixD X.w H a kvs) (hl : kvs.length < sizeLine) (hk : KeyV H k x) (rx : RelV x u) (rv : RelV v r)
    (h : ∀ s', Inv X pins σ (upd H a (MixO X.w a (putM kvs k x v))) s' → Q () s') : wpAny (model X.prog X.w) A (setItem (.ref a) u r) Q E s := by
  obtain ⟨few, hd, xs, p, D⟩ := m.dict I
  have z := hk.is I rx
  refine setItem_nest D z.1 z.2 hu (by rw [← PairM.len p]; exact few) fun h' D' hs => h _ ?_
  obtain ⟨o, es, ep, e1, e2, e3, e4, _, e5⟩ := D'
  exact d_write I (by rw [m.at_]; exact True.intro) hs ⟨o, e1⟩ (mix_ok (by have := putM_len kvs k x v; omega) hd (PairM.put p rx rv) ⟨o, es, ep, e1, e2, e3, e4, e5⟩)
/-- {} -/
theorem pe_dnewM {pos : Pos} : PE X (.Dict [] [] pos) (fun _ H Q => ∀ p, H p = none → Q (.ref p) (upd H p (MixO X.w p []))) := ⟨fun pins s σ H Q I h =>
  wpAny_Dict_empty ⟨.ref s.heap.objs.size, _, I.laid (a := s.heap.objs.size) (o := MixO X.w s.heap.objs.size []) (t' := s.toks) (fun _ _ q => Heap.get?_push_of_some _ q) (Nat.le_refl _)
    (mix_ok (xs := []) (Nat.zero_le _) (beq_eq_false_iff_ne.mpr (Ne.symm (Nat.ne_of_lt I.big))) .nil ⟨_, #[], 0, Heap.get?_push_size _ rfl, ⟨rfl, rfl, rfl⟩, rfl, rfl, List.nodup_nil⟩), rfl, h _ (I.hok.fresh (Nat.le_refl _))⟩⟩
end
end L2

set_option Elab.async false
set_option linter.all false
set_option maxRecDepth 100000
set_option maxHeartbeats 4000000
/-! d[k] = v, d[k], k in d in terms, for dicts of flat keys and tuples. -/
namespace L2
open PySem PySem.Spec PyProof.Rows MX
section
variable {X : Cx}
def rSetM (w : World) : TSet := fun o i v H Q => ∃ (a : Addr) (kvs : List (NestedKey × V × V)) (k : NestedKey), o = .ref a ∧ MixD w H a kvs ∧ kvs.length < sizeLine ∧ KeyV H k i ∧ Q (upd H a (MixO w a (putM kvs k i v)))
theorem set_mix (hu : X.A.units + 9 < cLine) : PSet X (rSetM X.w) := by
  intro pins s σ H o i v ov iv u Q I ro ri rv h
  obtain ⟨a, kvs, k, rfl, m, hl, hk, q⟩ := h
  obtain rfl : ov = Value.ref a := ro
  exact m_setItem (by show X.A.units + 1 + 8 < cLine; omega) I m hl hk ri rv fun s' I' => ⟨_, I', q⟩
def rGetM (w : World) : V → V → Hp → VK → Prop := fun o i H Q => ∃ (a : Addr) (kvs : List (NestedKey × V × V)) (k : NestedKey) (v : V), o = .ref a ∧ MixD w H a kvs ∧ KeyV H k i ∧ atM kvs k = some v ∧ Q v H
theorem get_mix (hu : X.A.units + 9 < cLine) : PGet X (rGetM X.w) := by
  intro pins s σ H o i ov iv Q I ro ri h
  obtain ⟨a, kvs, k, v, rfl, m, hk, l, q⟩ := h
  obtain rfl : ov = Value.ref a := ro
  exact m_getItem (by show X.A.units + 1 + 8 < cLine; omega) I m hk ri l fun w' s' I' rw' => ⟨v, H, I', rw', q⟩
def rInM (w : World) : R2 := fun x y H Q => ∃ (a : Addr) (kvs : List (NestedKey × V × V)) (k : NestedKey), y = .ref a ∧ MixD w H a kvs ∧ KeyV H k x ∧ Q (.bl (atM kvs k).isSome) H
theorem op_in_mix (hu : X.A.units + 9 < cLine) : OpR X (compareOp .In) (rInM X.w) := by
  intro pins s σ H x y v u Q I rx ry h
  obtain ⟨a, kvs, k, rfl, m, hk, q⟩ := h
  obtain rfl : u = Value.ref a := ry
  show wpAny _ _ (do return Value.bool (← contains (Value.ref a) v)) _ _ s
  exact wpAny_bind (m_contains (by show X.A.units + 1 + 8 < cLine; omega) I m hk rx fun s' I' => wpAny_pure ⟨.bl (atM kvs k).isSome, H, I', rfl, q⟩)
end
/-- the keys stay where the heap only grows -/
theorem KeyV.same {H H2 : Hp} {k : NestedKey} {x : V} (f : KeyV H k x) (s : Same H H2) : KeyV H2 k x := by
  cases f with
  | flat g => exact .flat g
  | tup h g => exact .tup (s _ _ h) g
theorem MixD.same {w : World} {H H2 : Hp} {a : Addr} {kvs : List (NestedKey × V × V)} (m : MixD w H a kvs) (s : Same H H2) : MixD w H2 a kvs := ⟨s _ _ m.at_, fun p hp => (m.keys p hp).same s⟩
/-- stored -/
theorem MixD.put {w : World} {H : Hp} {a : Addr} {kvs : List (NestedKey × V × V)} {k : NestedKey} {x v : V} (m : MixD w H a kvs) (hk : KeyV H k x) : MixD w (upd H a (MixO w a (putM kvs k x v))) a (putM kvs k x v) := by
  have up : ∀ {j : NestedKey} {y : V}, KeyV H j y → KeyV (upd H a (MixO w a (putM kvs k x v))) j y := fun f => by
    cases f with
    | flat g => exact .flat g
    | tup h g =>
      refine .tup ?_ g
      rw [upd_ne fun z => ?_]
      · exact h
      · rw [z, m.at_] at h
        cases h
  refine ⟨upd_same, fun p hp => ?_⟩
  unfold putM at hp
  split at hp
  · obtain ⟨q, hq, rfl⟩ := List.mem_map.mp hp
    have z := up (m.keys q hq)
    split
    · exact z
    · exact z
  · rcases List.mem_append.mp hp with z | z
    · exact up (m.keys p z)
    · obtain rfl := List.mem_singleton.mp z
      exact up hk
theorem MixD.new {w : World} {H : Hp} {a : Addr} : MixD w (upd H a (MixO w a [])) a [] := ⟨upd_same, fun p hp => nomatch hp⟩
end L2

set_option Elab.async false
set_option linter.all false
set_option maxRecDepth 100000
set_option maxHeartbeats 4000000
/-! for k in d, d a dict of flat keys and tuples. -/
namespace L2
open PySem PySem.Spec PyProof.Rows MX
/-- the keys of the locked dict at d, in their order -/
def Itm (w : World) (d : Addr) (o : Obj) (kvs : List (NestedKey × V × V)) : It :=
  ⟨fun i H => H d = some (.frz o (MixO w d kvs)) ∧ i < kvs.length, fun i H x H' => H' = H ∧ ∃ k v, kvs[i]? = some (k, x, v), fun i H => H d = some (.frz o (MixO w d kvs)) ∧ kvs.length ≤ i⟩
theorem PairM.get {kvs : List (NestedKey × V × V)} {xs : List (NestedKey × Value × Value)} (h : PairM kvs xs) {i : Nat} {p : NestedKey × V × V} (e : kvs[i]? = some p) : ∃ q, xs[i]? = some q ∧ RelV p.2.1 q.2.1 ∧ RelV p.2.2 q.2.2 := by
  induction h generalizing i with
  | nil => simp at e
  | @cons a b l1 l2 r _ ih =>
    cases i with
    | zero =>
      rw [List.getElem?_cons_zero] at e
      cases e
      exact ⟨b, rfl, r.2⟩
    | succ j =>
      rw [List.getElem?_cons_succ] at e ⊢
      exact ih e
section
variable {X : Cx} {pins : List (Addr × Obj)} {σ : St} {H : Hp} {s : Shared} {d : Addr} {o : Obj} {kvs : List (NestedKey × V × V)}
theorem Inv.frzM (I : Inv X pins σ H s) (h : H d = some (.frz o (MixO X.w d kvs))) : (d == sysModules) = false ∧ s.heap.get? d = some o ∧ o.ExactDict ∧ ∃ (es : Array DictEntry) (ep : Nat), o.data = .dict es ep ∧ es.size = kvs.length ∧
    ∀ (i : Nat) (k : NestedKey) (x v : V), kvs[i]? = some (k, x, v) → ∃ en : DictEntry, es[i]? = some en ∧ RelV x en.key := by
  obtain ⟨ho, ⟨few, hs, xs, p, o', es, ep, ho', hx, hdt, he, _⟩, _, _⟩ := I.hok d _ h
  rw [ho] at ho'
  cases ho'
  refine ⟨hs, ho, hx, es, ep, hdt, by rw [ent_size he, PairM.len p], fun i k x v e => ?_⟩
  obtain ⟨q, hq, r, _⟩ := PairM.get p e
  have hi : i < xs.length := (List.getElem?_eq_some_iff.mp hq).1
  have hi2 : i < es.size := by rw [ent_size he]; exact hi
  refine ⟨entN X.w q, ?_, r⟩
  rw [Array.getElem?_eq_getElem hi2, ent_at he hi2]
  rw [List.getElem?_eq_getElem hi] at hq
  rw [Option.some.inj hq]
end
section
variable {P : Program} {w : World} {K : PySem.W.Frag} {tg : Expr} {d : Addr} {o : Obj} {es : Array DictEntry} {ep : Nat}
theorem turn_keysM {kvs : List (NestedKey × V × V)} (it : Addr) (hod : o.data = .dict es ep) : Turn P w K tg (Itm w d o kvs) [it] it (fun i h => h.IsKeyIter it d i kvs.length ep) where
  mem := by simp
  obj := fun i h st b hb => by
    obtain rfl : b = it := by simpa using hb
    obtain ⟨oi, e, c, dd⟩ := st
    exact ⟨oi, e, fun v z => by rw [dd] at z; cases z⟩
  keep := fun i h h' st k => st.at fun oi e => k it (by simp) oi e
  item := by
    intro X hP hw hK hc i pins s σ H E I hf st hg
    subst hP hw hK
    obtain ⟨hd, hi⟩ := hg
    obtain ⟨f0, f1, f2, f3, f4, f5⟩ := hf it (by simp)
    obtain ⟨hs, hgd, hx, es', ep', hdt, hsz, ent⟩ := I.frzM hd
    obtain ⟨rfl, rfl⟩ := dict_ep hod hdt
    obtain ⟨⟨k, x, v⟩, hkv⟩ : ∃ p, kvs[i]? = some p := ⟨kvs[i], List.getElem?_eq_getElem hi⟩
    obtain ⟨en, hen, hr⟩ := ent i k x v hkv
    refine next_key_item st hgd hdt hsz hen fun h' st' sb => ?_
    have I1 : Inv X pins σ H { s with heap := h' } := I.turned (t' := s.toks) (fun b ob hb e => (sb.2 b hb).trans e) f0 f1 f3 f4 f5
    obtain ⟨oi, e, c, dd⟩ := id st'
    exact ⟨en.key, rfl, go_of (s := { s with heap := h' }) e c dd (by decide) ⟨x, H, I1, hr, ⟨rfl, k, v, hkv⟩, st', fun b hb => (hf b hb).1⟩⟩
  done := by
    intro X hP hw hK hc i pins s σ H E I hf st hg
    subst hP hw hK
    obtain ⟨hd, hi⟩ := hg
    obtain ⟨f0, f1, f2, f3, f4, f5⟩ := hf it (by simp)
    obtain ⟨hs, hgd, hx, es', ep', hdt, hsz, ent⟩ := I.frzM hd
    obtain ⟨rfl, rfl⟩ := dict_ep hod hdt
    exact next_key_end (I.ok.hd hc) st hgd hdt hsz hi fun h' eb => ⟨rfl, I.turned (t' := s.toks) (fun b ob hb e => eb b ob hb e) f0 f1 f3 f4 f5⟩
  self := fun A i s Q E st h => wpAny_pyIter_keyiter st h
def iKeysX (w : World) (td : TE) : TI := fun σ H R => td σ H fun x H1 => ∃ d o kvs, x = .ref d ∧ H1 d = some (.frz o (MixO w d kvs)) ∧ R (Itm w d o kvs) H1
end
section
variable {X : Cx} {tg e : Expr} {td : TE}
/-- for k in d, d locked -/
theorem pi_keysX (he : PE X e td) : PI X tg e (iKeysX X.w td) := by
  refine ⟨fun pins s σ H R I h => ?_⟩
  refine thn (he.run pins s σ H _ I h) fun u s1 ⟨x, H1, I1, rx, d, o, kvs, ex, hd, q⟩ => ?_
  subst ex
  obtain rfl : u = Value.ref d := rx
  obtain ⟨hs, hgd, hx, es, ep, hdt, hsz, ent⟩ := I1.frzM hd
  refine iter_keys hs hgd hx hdt (pi_one (tk := s1.toks) I1 _ (turn_keysM _ hdt) ⟨_, Heap.get?_push_size _ rfl, rfl, ?_⟩ q)
  rw [hsz] <;> rfl
end
end L2

set_option Elab.async false
set_option linter.all false
set_option maxRecDepth 100000
set_option maxHeartbeats 4000000
/-! Such a dict whose keys are all texts is a dict of texts. -/
namespace L2
open PySem PySem.Spec PyProof.Rows MX
def txM (ts : List (Str × V)) : List (NestedKey × V × V) := ts.map fun p => (.text p.1, .str p.1, p.2)
def txK (ts : List (Str × V)) : List (Key × V) := ts.map fun p => (Sum.inr p.1, p.2)
theorem pair_texts {P : Program} {w : World} {ts : List (Str × V)} {xs : List (NestedKey × Value × Value)} (h : PairM (txM ts) xs) : ∃ vs : List (Key × Value), KV (txK ts) vs ∧ (∀ e ∈ xs.map (entN w), ∃ k, (mixKind P w).is k e.key = true ∧ e.hash = (mixKind P w).hash k) ∧ Pairs (mixKind P w) (xs.map (entN w)) vs ∧
    vs.map (·.1) = ts.map (fun p => (Sum.inr p.1 : Key)) ∧ xs.map (·.1) = ts.map (fun p => NestedKey.text p.1) := by
  induction ts generalizing xs with
  | nil =>
    cases h
    exact ⟨[], .nil, fun e he => (nomatch he), .nil, rfl, rfl⟩
  | cons t ts ih =>
    cases h with
    | @cons a b l1 l2 e r =>
      obtain ⟨vs, h1, h2, h3, h4, h5⟩ := ih r
      obtain ⟨z1, z2, z3⟩ := e
      obtain ⟨tk, z4⟩ := z2
      have k1 : (mixKind P w).is (Sum.inr t.1) (entN w b).key = true := by
        show keyIs (.inr t.1) b.2.1 = true
        rw [z4]
        exact keyIs_str _ _
      refine ⟨(Sum.inr t.1, b.2.2) :: vs, .cons ⟨rfl, z3⟩ h1, fun en he => ?_, ?_, by rw [List.map_cons, List.map_cons, h4], by rw [List.map_cons, List.map_cons, h5, ← z1]⟩
      · rcases List.mem_cons.mp he with rfl | m
        · refine ⟨Sum.inr t.1, k1, ?_⟩
          show b.1.hash w = _
          rw [← z1]
          rfl
        · exact h2 en m
      · exact .cons k1 rfl h3
section
variable {X : Cx} {pins : List (Addr × Obj)} {σ : St} {H : Hp} {s : Shared} {a : Addr} {ts : List (Str × V)}
/-- .. from now on tracked as one -/
theorem Inv.texts (I : Inv X pins σ H s) (e : H a = some (MixO X.w a (txM ts))) : Inv X pins σ (upd H a (.dK (txK ts))) s := by
  obtain ⟨⟨few, hd, xs, p, o, es, ep, h1, h2, h3, h4, h5⟩, _, _⟩ := I.hok a _ e
  refine I.reword e ?_
  obtain ⟨vs, q1, q2, q3, q4, q5⟩ := pair_texts (P := X.prog) (w := X.w) p
  refine ⟨by show (ts.map _).length ≤ _; rw [List.length_map]; rw [show (txM ts).length = ts.length from List.length_map _] at few; exact few, hd, vs, q1, o, es, ep, h1, h2, h3, fun en he => q2 en (by rw [← h4]; exact Array.mem_toList_iff.mpr he), by rw [h4]; exact q3, ?_⟩
  rw [q4]
  rw [q5] at h5
  rw [List.nodup_iff_pairwise_ne] at h5 ⊢
  rw [List.pairwise_map] at h5 ⊢
  exact h5.imp fun ne z => ne (by rw [Sum.inr.inj z])
end
end L2

set_option Elab.async false
set_option linter.all false
set_option maxRecDepth 100000
set_option maxHeartbeats 4000000
/-! len(set(xs)), xs a list of any texts. -/
namespace SetT
open PySem PySem.Spec PyProof.Rows
/-- one more, unless it is there -/
def add1 (acc : List Str) (y : Str) : List Str := if y ∈ acc then acc else acc ++ [y]
/-- each once, as first met -/
def uqs (ys : List Str) : List Str := ys.foldl add1 []
theorem uqs_snoc (ys : List Str) (y : Str) : uqs (ys ++ [y]) = add1 (uqs ys) y := by
  unfold uqs
  rw [List.foldl_append]
  rfl
theorem mem_add1 {acc : List Str} {x y : Str} : x ∈ add1 acc y ↔ x ∈ acc ∨ x = y := by
  unfold add1
  split
  · rename_i h
    exact ⟨.inl, fun z => z.elim id fun e => e ▸ h⟩
  · rw [List.mem_append, List.mem_singleton]
theorem uqs_mem {x : Str} : ∀ {ys acc : List Str}, x ∈ ys.foldl add1 acc ↔ x ∈ acc ∨ x ∈ ys
  | [], acc => by simp
  | y :: ys, acc => by
    rw [List.foldl_cons, uqs_mem (ys := ys), mem_add1, List.mem_cons, or_assoc]
theorem mem_uqs {x : Str} {ys : List Str} : x ∈ uqs ys ↔ x ∈ ys := by
  unfold uqs
  rw [uqs_mem]
  simp
theorem nd_add1 {acc : List Str} {y : Str} (h : acc.Nodup) : (add1 acc y).Nodup := by
  unfold add1
  split
  · exact h
  · rename_i hn
    refine List.nodup_append.mpr ⟨h, by simp, fun a ha b hb e => hn ?_⟩
    rw [List.mem_singleton.mp hb] at e
    exact e ▸ ha
theorem nd_fold : ∀ {ys acc : List Str}, acc.Nodup → (ys.foldl add1 acc).Nodup
  | [], _, h => h
  | _ :: ys, _, h => nd_fold (ys := ys) (nd_add1 h)
theorem uqs_nd (ys : List Str) : (uqs ys).Nodup := nd_fold List.nodup_nil
theorem len_add1 (acc : List Str) (y : Str) : (add1 acc y).length = if y ∈ acc then acc.length else acc.length + 1 := by
  unfold add1
  split
  · rfl
  · rw [List.length_append]
    rfl
theorem len_fold : ∀ (ys acc : List Str), (ys.foldl add1 acc).length ≤ acc.length + ys.length
  | [], _ => Nat.le_refl _
  | y :: ys, acc => by
    have h1 := len_fold ys (add1 acc y)
    have h2 : (add1 acc y).length ≤ acc.length + 1 := by
      rw [len_add1]
      split <;> omega
    rw [List.foldl_cons, List.length_cons]
    omega
theorem uqs_len (ys : List Str) : (uqs ys).length ≤ ys.length := by
  have h := len_fold ys []
  show (ys.foldl add1 []).length ≤ ys.length
  simpa using h
/-- two lists without doubles and with the same members are of one length -/
theorem nd_sub {α : Type} [DecidableEq α] : ∀ {a b : List α}, a.Nodup → (∀ x ∈ a, x ∈ b) → a.length ≤ b.length
  | [], _, _, _ => Nat.zero_le _
  | x :: a, b, h, hs => by
    have hx : x ∈ b := hs x List.mem_cons_self
    have h1 := List.nodup_cons.mp h
    have ih := nd_sub (a := a) (b := b.erase x) h1.2 fun y hy => (List.mem_erase_of_ne (fun e : y = x => h1.1 (e ▸ hy))).mpr (hs y (List.mem_cons_of_mem _ hy))
    rw [List.length_erase_of_mem hx] at ih
    have : 0 < b.length := List.length_pos_of_mem hx
    rw [List.length_cons]
    omega
theorem nd_same {α : Type} [DecidableEq α] {a b : List α} (ha : a.Nodup) (hb : b.Nodup) (h : ∀ x, x ∈ a ↔ x ∈ b) : a.length = b.length :=
  Nat.le_antisymm (nd_sub ha fun x hx => (h x).mp hx) (nd_sub hb fun x hx => (h x).mpr hx)
section
variable {P : Program} {w : World} {A : Around} {R : Result → Shared → Prop} {J : Addr} {fr ws : List Addr} {G : Array GenState → Array GenState → Prop} {n : Nat} {Pv : Nat → Value → Prop} {St : Nat → Shared → Prop}
theorem setOf_moved {h g : Heap} {D : Addr} {S : Str → Bool} {m : Nat} (x : h.SetOf (strKind P w) D S m) (e : ∀ o, h.get? D = some o → g.get? D = some o) : g.SetOf (strKind P w) D S m := by
  obtain ⟨o, es, ep, t, ho, r⟩ := x
  exact ⟨o, es, ep, t, e o ho, r⟩
theorem fill_texts (W : WalksS P w A.in1 J fr ws G n Pv St) (D : Addr) (off : D ∉ fr) (ys : List Str) (many : ys.length = n) (few : n ≤ 4000) (val : ∀ j v, Pv j v → ∃ tk, v = .str (ys.getD j Str.empty) tk) :
    ∀ (left j : Nat) (z : Shared), n - j = left → j ≤ n → St j z → z.heap.SetOf (strKind P w) D (fun y => decide (y ∈ uqs (ys.take j))) (uqs (ys.take j)).length →
      (∀ z2, Moved (D :: ws) G z z2 → z2.heap.SetOf (strKind P w) D (fun y => decide (y ∈ uqs ys)) (uqs ys).length → R (.ok (.ret .none)) z2) →
      codeAny (model P w) A (.builtin "set.update.loop" ⟨[.ref D, .ref J], []⟩) R z := by
  have away : D ∉ ws := fun q => off (W.sub _ q)
  have more : ∀ b ∈ ws, b ∈ D :: ws := fun b q => List.mem_cons_of_mem _ q
  intro left
  induction left with
  | zero =>
    intro j z hl hj st set out
    obtain rfl : j = n := by omega
    rw [List.take_of_length_le (by omega)] at set
    refine codeAny_builtin PyProof.Rows.F.entry_set_update_loop ?_
    rw [Around.under_plainId PyProof.Rows.F.plain_set_update_loop _]
    show wpAny _ A.in1 (pyNext (.ref J) >>= _) _ _ z
    refine wpAny_bind (W.done z _ _ st fun z2 mv => ?_)
    show wpAny _ A.in1 (ret Value.none) _ _ z2
    exact wpAny_pure (out z2 (mv.mono more) (setOf_moved set fun o e => mv.heap D _ away e))
  | succ left ih =>
    intro j z hl hj st set out
    have lt : j < n := by omega
    refine codeAny_builtin PyProof.Rows.F.entry_set_update_loop ?_
    rw [Around.under_plainId PyProof.Rows.F.plain_set_update_loop _]
    show wpAny _ A.in1 (pyNext (.ref J) >>= _) _ _ z
    refine wpAny_bind (W.item j z _ _ lt st fun v z2 pv st2 mv => ?_)
    obtain ⟨tk, rfl⟩ := val j v pv
    have set2 := setOf_moved set fun o e => mv.heap D _ away e
    have at_ : ys[j]? = some (ys.getD j Str.empty) := by
      rw [List.getD_eq_getElem?_getD, List.getElem?_eq_getElem (by omega)]
      rfl
    show wpAny _ A.in1 (holding [Value.str (ys.getD j Str.empty) tk] (setAdd D (.str (ys.getD j Str.empty) tk)) >>= _) _ _ z2
    refine wpAny_bind (wpAny_holding ?_)
    unfold setAdd
    refine wpAny_holding ?_
    refine wpAny_bind ((PySem.strKind P w).pyHash (k := ys.getD j Str.empty) (strKind_is _ _ _ _) ?_)
    have l1 := uqs_len (ys.take j)
    have l2 : (ys.take j).length ≤ j := by
      rw [List.length_take]
      omega
    refine wpAny_setAddHashed_of (knd := PySem.strKind P w) (s := { z2 with toks := z2.toks + 1 }) (strKind_is _ _ _ _) rfl set2 (by unfold scanBound; omega) fun g sb set3 => ?_
    have set4 : g.SetOf (PySem.strKind P w) D (fun y => decide (y ∈ uqs (ys.take (j + 1)))) (uqs (ys.take (j + 1))).length := by
      have e : ys.take (j + 1) = ys.take j ++ [ys.getD j Str.empty] := by rw [List.take_add_one, at_]; rfl
      rw [e, uqs_snoc]
      refine SetOf_congr set3 (fun y => ?_) ?_
      · rw [Bool.eq_iff_iff, Bool.or_eq_true, decide_eq_true_iff, decide_eq_true_iff, decide_eq_true_iff, mem_add1]
      · rw [len_add1]
        by_cases q : ys.getD j Str.empty ∈ uqs (ys.take j)
        · rw [if_pos q, if_pos (decide_eq_true q)]
        · rw [if_neg q, if_neg (by rw [decide_eq_false q]; exact Bool.false_ne_true)]
    refine wpAny_pure ⟨plainId_quiet PyProof.Rows.F.plain_set_update_loop _, ih (j + 1) _ (by omega) lt (W.frame _ z2 _ _ st2 (Nat.le_succ _) fun b q o e => ?_) set4 fun z3 mv3 set5 => ?_⟩
    · rw [sb.2 b (fun u : b = D => off (by rw [← u]; exact q))]
      exact e
    · refine out z3 (Moved.trans W.gtrans ((mv.mono more).then_heap (Nat.le_succ _) fun b o q e => ?_) mv3) set5
      rw [sb.2 b (fun u : b = D => q (by rw [u]; exact List.mem_cons_self))]
      exact e
end
section
variable {P : Program} {w : World} {A : Around} {E : Value → Shared → Prop} {z : Shared}
set_option maxHeartbeats 3200000 in
theorem set_texts {l : Addr} {its : Array Value} {ys : List Str} {Q : Value → Shared → Prop} (calm : A.handled = none) (at_ : z.heap.IsList l its) (txt : PyProof.Rows.StrsAre its.toList ys) (few : ys.length ≤ 4000)
    (go : ∀ (g : Heap) (tk : Nat), g.SetOf (PySem.strKind P w) z.heap.objs.size (fun y => decide (y ∈ uqs ys)) (uqs ys).length → (∀ b o, b < z.heap.objs.size → z.heap.get? b = some o → g.get? b = some o) → Q (.ref z.heap.objs.size) { z with heap := g, toks := tk }) :
    wpAny (model P w) A (call (.type "set") [.ref l]) Q E z := by
  obtain ⟨cc, tll, hmro2⟩ := PySem.F.called_set.mro
  have made2 := PySem.F.called_set.made
  have sub2 := PySem.F.called_set.sub
  refine wpAny_call (codeAny_of_tree ?_)
  show wpAny _ _ (callAny (.type "set") _) _ _ _
  refine wpAny_pure ⟨Code.quiet_builtin _ (by decide +kernel), codeAny_builtin PySem.F.entry_type_call ?_⟩
  rw [Around.under_plain (weight_type_call_type "set" [.ref l] []) rfl]
  have nt2 := PySem.F.called_set.notType
  have cr2 := PySem.F.called_set.canCreate
  have tc2 := PySem.F.typeCall_set_1 (.ref l)
  repeat (any_goals (first | assumption | wp_step))
  refine codeAny_mono (code_set_new_1 (.ref l) (E := E) (Q₁ := fun ob z1 => ∃ led : Bool, ob = .ref z.heap.objs.size ∧ z1 = { z with heap := z.heap.push { cls := .type "set", dict := none, data := .set #[] 0 (.fresh 0 0 led) } }) fun led => ⟨led, rfl, rfl⟩) fun r z1 hr => ?_
  match r, hr with
  | .error e, hr => exact hr
  | .ok .next, hr => exact hr.elim
  | .ok .brk, hr => exact hr.elim
  | .ok .cont, hr => exact hr.elim
  | .ok (.ret ob), hr =>
    obtain ⟨led, rfl, rfl⟩ := hr
    have new2 : (z.heap.push { cls := .type "set", dict := none, data := .set #[] 0 (.fresh 0 0 led) }).get? z.heap.objs.size = some { cls := .type "set", dict := none, data := .set #[] 0 (.fresh 0 0 led) } := Heap.get?_push_size _ rfl
    have ty2 : Shared.TypeIs { z with heap := z.heap.push { cls := .type "set", dict := none, data := .set #[] 0 (.fresh 0 0 led) } } (.ref z.heap.objs.size) "set" := ⟨_, new2, rfl⟩
    have li2 := PySem.F.called_set.init.lookup
    have bi2 := PySem.F.called_set.init.bind (.ref z.heap.objs.size)
    repeat (any_goals (first | assumption | wp_step))
    refine codeAny_mono (codeAny_call_builtin (R := wants (fun r z2 => r = .none ∧ ∃ g tk, z2 = { z with heap := g, toks := tk } ∧ g.SetOf (PySem.strKind P w) z.heap.objs.size (fun y => decide (y ∈ uqs ys)) (uqs ys).length ∧
        (∀ b o, b < z.heap.objs.size → z.heap.get? b = some o → g.get? b = some o)) E) PySem.F.called_set.init.plain PySem.F.entry_set_init (check_set_init_1 ty2 ?_)) fun r2 z2 hr2 => ?_
    · obtain ⟨⟨c0, d0, t0, s0⟩, o1, o2, n2, o3⟩ := at_
      simp only at o2 o3
      subst o2
      subst o3
      have at2 : (z.heap.push { cls := .type "set", dict := none, data := .set #[] 0 (.fresh 0 0 led) }).get? l = some { cls := .type "list", dict := d0, data := .seq its n2, slots := s0 } := Heap.get?_push_of_some _ o1
      have sl1 := PySem.F.sub_list_set
      have sl2 := PySem.F.sub_list_frozenset
      have ned : (Value.type "list" == Value.type "dict") = false := by decide
      have at3 : (z.heap.push { cls := .type "set", dict := none, data := .set #[] 0 (.fresh 0 0 led) }).IsList l its := ⟨_, at2, rfl, n2, rfl⟩
      unfold Builtin.«set.__init__» noKeywords Builtin.Frozenset.updateFrom
      generalize hIT : pyIter = IT
      wp_walk
      subst hIT
      refine wpAny_pyIter_list at3 ?_
      refine wpAny_bind (wpAny_runValue ?_)
      have ll : l < z.heap.objs.size := Heap.lt_size o1
      have calm3 : A.in1.in1.in1.handled = none := by simp [calm]
      have ne3 : l ≠ (z.heap.push { cls := .type "set", dict := none, data := .set #[] 0 (.fresh 0 0 led) }).objs.size := by
        rw [Heap.size_push]
        exact Nat.ne_of_lt (Nat.lt_succ_of_lt ll)
      have off3 : z.heap.objs.size ∉ [(z.heap.push { cls := .type "set", dict := none, data := .set #[] 0 (.fresh 0 0 led) }).objs.size, l] := by
        rw [Heap.size_push]
        simp only [List.mem_cons, List.mem_singleton, List.not_mem_nil, or_false, not_or]
        exact ⟨Nat.ne_of_lt (Nat.lt_succ_self _), Nat.ne_of_gt ll⟩
      have many : ys.length = its.size := by rw [← StrsAre.len_eq txt, Array.length_toList]
      have val3 : ∀ (i : Nat) (v : Value), its[i]? = some v → ∃ tk, v = .str (ys.getD i Str.empty) tk := fun i v hv => SS.strs_at txt i v (by rw [Array.getElem?_toList]; exact hv)
      refine fill_texts ((Walks.list calm3 _ l ne3 its).toS) z.heap.objs.size off3 ys many (by rw [← many]; exact few) val3 (its.size - 0) 0 _ (by omega) (Nat.zero_le _) ⟨⟨_, Heap.get?_push_size _ rfl, rfl, rfl⟩, (at3.push _)⟩ ?first ?last
      case first =>
        have get3 : ((z.heap.push { cls := .type "set", dict := none, data := .set #[] 0 (.fresh 0 0 led) }).push { cls := .type "list_iterator", data := .fields #[.ref l, .int 0 0] }).get? z.heap.objs.size = some { cls := .type "set", dict := none, data := .set #[] 0 (.fresh 0 0 led) } := Heap.get?_push_of_some _ new2
        exact PyProof.Rows.SetOf_congr ((PyProof.Rows.setObjOf_fresh (knd := PySem.strKind P w) led).setOf get3 (by unfold scanBound; omega)) (fun _ => rfl) rfl
      case last =>
        intro z3 mv set3
        obtain ⟨g, ge, dr, tk, os⟩ := z3
        obtain rfl : ge = z.gens := mv.gens
        obtain rfl : dr = z.drawn := mv.drawn
        obtain rfl : os = z.os := mv.os
        show wpAny _ _ _ _ _ _
        refine wpAny_pure ?_
        show wpAny _ _ (ret Value.none) _ _ _
        refine wpAny_pure ⟨rfl, g, tk, rfl, set3, fun b o q e => ?_⟩
        refine mv.heap b o ?_ (Heap.get?_push_of_some _ (Heap.get?_push_of_some _ e))
        rw [Heap.size_push]
        simp only [List.mem_cons, List.mem_singleton, List.not_mem_nil, or_false, not_or]
        exact ⟨Nat.ne_of_lt q, Nat.ne_of_lt (Nat.lt_succ_of_lt q)⟩
    · match r2, hr2 with
      | .error e, hr2 => exact hr2
      | .ok .next, hr2 => exact hr2.elim
      | .ok .brk, hr2 => exact hr2.elim
      | .ok .cont, hr2 => exact hr2.elim
      | .ok (.ret u), hr2 =>
        obtain ⟨rfl, g, tk, rfl, set3, keep3⟩ := hr2
        repeat (any_goals (first | assumption | wp_step))
        exact go _ _ set3 keep3
end
end SetT
namespace L2
open PySem PySem.Spec PyProof.Rows SetT
/-- len(set(xs)), xs a list of texts -/
def tLenSetS (K : PySem.W.Frag) (ta : TE) : TE := fun σ H Q => ta σ H fun x H1 => ∃ (l : Addr) (ys : List Str), x = .ref l ∧ SqL K H1 l (ys.map V.str) ∧ ys.length ≤ 4000 ∧ Q (.int ((uqs ys).length : Nat)) H1
theorem pe_lenSetS {X : Cx} {a : Expr} {ta : TE} {p p2 q pos : Pos} (calm : X.calm = true) (hg : Gl X "len") (hm : X.mg "len" = none) (hg2 : Gl X "set") (hm2 : X.mg "set" = none) (ha : PE X a ta)
    (na : starEach [a] X.env = (false, eval a X.env) :: starEach [] X.env := by rfl) : PE X (.Call (.Name "len" p) [.Call (.Name "set" p2) [a] [] q] [] pos) (tLenSetS X.K ta) := by
  refine ⟨fun pins s σ H Q I h => ?_⟩
  refine Call_ (ld_blt I hg hm boot_len ?_)
  refine PyProof.Rows.callWith_builtin1 (PyProof.Rows.args_cons ?_ rfl) rfl rfl
  refine Call_ (ld_blt I hg2 hm2 boot_set ?_)
  refine PyProof.Rows.callWith_type1 (PyProof.Rows.args_cons (thn (ha.run pins s σ H _ I h) fun v s1 ⟨x, H1, I1, r1, q1⟩ => PyProof.Rows.args_nil ?_) na) na rfl
  obtain ⟨l, ys, rfl, sq, few, q1⟩ := q1
  obtain rfl : v = Value.ref l := r1
  obtain ⟨its, rv, pl, hz⟩ := I1.list sq
  refine set_texts (I1.ok.hd calm) pl.isList (ys := ys) (by simpa using strsAre_of rv) few fun g tk set3 keep3 => PyProof.Rows.args_nil ?_
  obtain ⟨o, es, ep, t, ho, hex, hd, _, _, _, hf, hn⟩ := set3
  have I2 : Inv X pins σ H1 { s1 with heap := g, toks := tk } := I1.kept fun b o e => keep3 b o (Heap.lt_size e) e
  have l3 := uqs_len ys
  exact call_len_set ho hex hd hf (by rw [hn] <;> omega) ⟨.int ((uqs ys).length : Nat), H1, I2.tok _, ⟨_, by rw [hn]⟩, q1⟩
end L2

set_option Elab.async false
set_option linter.all false
set_option maxRecDepth 100000
set_option maxHeartbeats 4000000
/-! Two readings of one call; a dict whose keys are texts taken as one. -/
namespace L2
open PySem PySem.Spec PyProof.Rows MX
section
variable {X : Cx} {f : Value} {r1 r2 : List V → Hp → VK → Prop} {q1 q2 : R2} {o : Value → Value → Sem Value} {e : Expr} {t : TE}
def tTexts (w : World) (t : TE) : TE := fun σ H Q => t σ H fun v H1 => Q v H1 ∨ ∃ (a : Addr) (ts : List (Str × V)), H1 a = some (MixO w a (txM ts)) ∧ Q v (upd H1 a (.dK (txK ts)))
theorem pe_texts (h : PE X e t) : PE X e (tTexts X.w t) := by
  refine ⟨fun pins s σ H Q I q => thn (h.run pins s σ H _ I q) fun v s1 z => ?_⟩
  obtain ⟨x, H1, I1, r, q1⟩ := z
  rcases q1 with q1 | ⟨a, ts, e, q1⟩
  · exact ⟨x, H1, I1, r, q1⟩
  · exact ⟨x, _, I1.texts e, r, q1⟩
/-- either of two expressions' readings -/
theorem PE.or {t2 : TE} (h1 : PE X e t) (h2 : PE X e t2) : PE X e (fun σ H Q => t σ H Q ∨ t2 σ H Q) := by
  refine ⟨fun pins s σ H Q I q => ?_⟩
  rcases q with q | q
  · exact h1.run pins s σ H Q I q
  · exact h2.run pins s σ H Q I q
end
theorem txM_keys (ts : List (Str × V)) : (txM ts).map (·.1) = ts.map fun p => NestedKey.text p.1 := by
  unfold txM
  rw [List.map_map]
  rfl
/-- all keys are texts: then it is one of these -/
theorem txM_of : ∀ {kvs : List (NestedKey × V × V)}, (∀ p ∈ kvs, ∃ z, p.1 = .text z ∧ p.2.1 = .str z) → ∃ ts, kvs = txM ts
  | [], _ => ⟨[], rfl⟩
  | p :: r, h => by
    obtain ⟨z, e1, e2⟩ := h p List.mem_cons_self
    obtain ⟨ts, e⟩ := txM_of fun q hq => h q (List.mem_cons_of_mem _ hq)
    refine ⟨(z, p.2.2) :: ts, ?_⟩
    obtain ⟨k, x, v⟩ := p
    dsimp only at e1 e2
    rw [e1, e2, e]
    rfl
theorem txK_nd {ts : List (Str × V)} (h : ((txM ts).map (·.1)).Nodup) : ((txK ts).map (·.1)).Nodup := by
  rw [txM_keys] at h
  unfold txK
  rw [List.map_map]
  rw [List.nodup_iff_pairwise_ne, List.pairwise_map] at h ⊢
  exact h.imp fun ne z => ne (by rw [Sum.inr.inj (show (Sum.inr _ : Key) = Sum.inr _ from z)])
theorem putM_nd {kvs : List (NestedKey × V × V)} {k : NestedKey} {x v : V} (h : (kvs.map (·.1)).Nodup) : ((putM kvs k x v).map (·.1)).Nodup := by
  unfold putM
  split
  · rw [List.map_map]
    have e : kvs.map ((·.1) ∘ fun p : NestedKey × V × V => if p.1 = k then (p.1, p.2.1, v) else p) = kvs.map (·.1) := List.map_congr_left fun p _ => by
      show (if p.1 = k then (p.1, p.2.1, v) else p).1 = p.1
      split <;> rfl
    rw [e]
    exact h
  · rename_i hn
    rw [List.map_append]
    refine List.nodup_append.mpr ⟨h, by simp, fun a ha b hb e => hn ?_⟩
    have eb : b = k := by simpa using hb
    rw [← eb, ← e]
    exact ha
theorem putM_mem {kvs : List (NestedKey × V × V)} {k : NestedKey} {x v : V} {p : NestedKey × V × V} (h : p ∈ putM kvs k x v) : p ∈ kvs ∨ p = (k, x, v) ∨ ∃ q ∈ kvs, p = (q.1, q.2.1, v) := by
  unfold putM at h
  split at h
  · obtain ⟨q, hq, rfl⟩ := List.mem_map.mp h
    split
    · exact .inr (.inr ⟨q, hq, rfl⟩)
    · exact .inl hq
  · rcases List.mem_append.mp h with z | z
    · exact .inl z
    · exact .inr (.inl (List.mem_singleton.mp z))
end L2

set_option Elab.async false
set_option linter.all false
set_option maxRecDepth 100000
set_option maxHeartbeats 8000000
/-! Values that may be no letters and no numbers; what is raised. -/
namespace V8
open PySem PySem.Spec PyProof.Rows L2
def okL (s : List Nat) : Bool := s.all fun c => decide (isLt c)
theorem okL_iff {s : List Nat} : okL s = true ↔ ∀ c ∈ s, isLt c := by
  unfold okL
  rw [List.all_eq_true]
  exact ⟨fun h c hc => of_decide_eq_true (h c hc), fun h c hc => decide_eq_true (h c hc)⟩
/-- a text of letters, of a length from lo to hi -/
def wordD (lo hi : Nat) : PyData → Bool
  | .str z => decide (lo ≤ z.length) && decide (z.length ≤ hi) && okL z.cps.toList
  | _ => false
theorem Sx_self (z : Str) : Sx z.cps.toList = z := by
  unfold Sx
  cases z
  simp
theorem len_self (z : Str) : z.cps.toList.length = z.length := by
  rw [← Sx_len, Sx_self]
/-- what a drawn datum is like -/
structure NiceD (d : PyData) : Prop where
  te : Tells d
  sz : d.shown.length ≤ 3000
  dp : d.depth ≤ 1
  sh : PyData.strOk d.shown = true
  tx : ∀ z, d = .str z → z.length ≤ 2500 ∧ ∀ c ∈ z.cps.toList, c < 128
structure Held (H : Hp) (x : V) (d : PyData) : Prop where
  tl : Told2 H x
  pw : PyW H x d
  ni : NiceD d
theorem Held.th {H : Hp} {x : V} {d : PyData} (h : Held H x d) : Th1 H x d := ⟨h.tl, h.pw, h.ni.te, h.ni.sz, h.ni.dp⟩
theorem Held.same {H H2 : Hp} {x : V} {d : PyData} (h : Held H x d) (s : Same H H2) : Held H2 x d := ⟨h.tl.same s, h.pw.same s, h.ni⟩
/-- an integer of a code -/
def numD : PyData → Bool
  | .int i => decide (0 ≤ i) && decide (i ≤ 255)
  | _ => false
theorem pw_kind {K : PySem.W.Frag} {H : Hp} {x : V} {d : PyData} (p : PyW H x d) : (∃ z, x = .str z ∧ d = .str z) ∨ ((∀ lo hi, wordD lo hi d = false) ∧ ∃ t, TyX K H x t ∧ PySem.W.kitOne K t (.type "str") = some false) := by
  cases p with
  | non => exact .inr ⟨fun _ _ => rfl, _, .base .non, kit_ty (by decide +kernel)⟩
  | bl b => exact .inr ⟨fun _ _ => rfl, _, .base (.bl b), kit_ty (by decide +kernel)⟩
  | int i => exact .inr ⟨fun _ _ => rfl, _, .base (.int i), kit_ty (by decide +kernel)⟩
  | str z => exact .inl ⟨z, rfl, rfl⟩
  | tup h r => exact .inr ⟨fun _ _ => rfl, _, .base (.tup h), kit_ty (by decide +kernel)⟩
  | lst h r => exact .inr ⟨fun _ _ => rfl, _, .base (.lst h), kit_ty (by decide +kernel)⟩
  | dic h r => exact .inr ⟨fun _ _ => rfl, _, .base (.dK h), kit_ty (by decide +kernel)⟩
/-- an integer, a truth, or neither -/
theorem pw_num {K : PySem.W.Frag} {H : Hp} {x : V} {d : PyData} (p : PyW H x d) : (∃ i, x = .int i ∧ d = .int i) ∨ (∃ b, x = .bl b ∧ d = .bool b) ∨ ((∀ i, d ≠ .int i) ∧ numD d = false ∧ ∃ t, TyX K H x t ∧ PySem.W.kitOne K t (.type "int") = some false) := by
  cases p with
  | non => exact .inr (.inr ⟨(fun _ z => nomatch z), rfl, _, .base .non, kit_ty (by decide +kernel)⟩)
  | bl b => exact .inr (.inl ⟨b, rfl, rfl⟩)
  | int i => exact .inl ⟨i, rfl, rfl⟩
  | str z => exact .inr (.inr ⟨(fun _ z => nomatch z), rfl, _, .base (.str z), kit_ty (by decide +kernel)⟩)
  | tup h r => exact .inr (.inr ⟨(fun _ z => nomatch z), rfl, _, .base (.tup h), kit_ty (by decide +kernel)⟩)
  | lst h r => exact .inr (.inr ⟨(fun _ z => nomatch z), rfl, _, .base (.lst h), kit_ty (by decide +kernel)⟩)
  | dic h r => exact .inr (.inr ⟨(fun _ z => nomatch z), rfl, _, .base (.dK h), kit_ty (by decide +kernel)⟩)
/-! ### what is raised -/
inductive Bad where
  | one (i : Nat) (d : PyData)
  | many (wh : Str) (m : Int)
def fldOf : Nat → Str
  | 0 => "part"
  | 3 => "at"
  | _ => "value"
def OutB (Cz : Nat → Addr) (H : Hp) (b : Bad) (E : XK) : Prop := match b with
  | .one i d => ∀ dd y H2, Same H H2 → PyW H2 y d → H2 dd = some (.xd [(fldOf i, y)]) → E (.ref (Cz i)) (some dd) H2
  | .many wh m => ∀ dd H2, Same H H2 → H2 dd = some (.xd [("most", .int m), ("what", .str wh)]) → E (.ref (Cz 4)) (some dd) H2
theorem OutB.same {Cz : Nat → Addr} {H H1 : Hp} {b : Bad} {E : XK} (o : OutB Cz H b E) (s : Same H H1) : OutB Cz H1 b E := by
  cases b with
  | one i d => exact fun dd y H2 s2 p e => o dd y H2 (fun b u h => s2 _ _ (s _ _ h)) p e
  | many wh m => exact fun dd H2 s2 e => o dd H2 (fun b u h => s2 _ _ (s _ _ h)) e
theorem OutB.rz {Cz : Nat → Addr} {H H1 : Hp} {i : Nat} {x : V} {d : PyData} {E : XK} (o : OutB Cz H (.one i d) E) (s : Same H H1) (t : Th1 H1 x d) : Rz1 (Cz i) (fldOf i) x H1 E := ⟨d, t, fun dx y H2 s2 p e => o dx y H2 (fun b u h => s2 _ _ (s _ _ h)) p e⟩
theorem th_str {H : Hp} {z : Str} (n : NiceD (.str z)) : Th1 H (.str z) (.str z) := ⟨.inl (.inl ⟨_, rfl⟩), .str _, n.te, n.sz, n.dp⟩
theorem th_int {H : Hp} {i : Int} (n : NiceD (.int i)) : Th1 H (.int i) (.int i) := ⟨.inl (.inr (.inl ⟨_, rfl⟩)), .int _, n.te, n.sz, n.dp⟩
/-- TooMany raised -/
theorem rz2 {K : PySem.W.Frag} {C : Addr} {wh : Str} {m : Int} {H : Hp} {E : XK} {E0 : XK} (oc : OexC K C) (n1 : PySem.W.findIn K (.ref C) "what" = some none) (n2 : PySem.W.findIn K (.ref C) "most" = some none) (nw : NiceD (.str wh)) (nm : NiceD (.int m))
    (h : ∀ dd H2, Same H H2 → H2 dd = some (.xd [("most", .int m), ("what", .str wh)]) → E (.ref C) (some dd) H2) (a : Addr) (na : H a = none) :
    spErrW2 K C "what" "most" (.ref a :: ([.str wh, .int m] ++ [])) (upd H a (exo a C none)) (fun v H2 => v = .non ∧ ∃ (d : Addr) (fs : List (Str × V)), H2 a = some (exo a C (some d)) ∧ H2 d = some (exd d fs) ∧ H d = none ∧ E (.ref C) (some d) (upd (del H2 a) d (.xd fs))) E0 := by
  refine ⟨a, .str wh, .int m, .str wh, .int m, rfl, upd_same, oc, n1, n2, th_str nw, th_int nm, fun y1 y2 dx H2 s2 p1 p2 ndx ne e1 e2 => ?_⟩
  cases p1
  cases p2
  have nx : H dx = none := by
    rw [upd_ne ne] at ndx
    exact ndx
  refine ⟨rfl, dx, _, by rw [upd_ne (Ne.symm ne)]; exact e2, upd_same, nx, h dx _ (fun b o e => ?_) upd_same⟩
  rw [upd_ne (ne_of_none e nx), del_ne (ne_of_none e na), upd_ne (ne_of_none e nx)]
  exact s2 _ _ (by rw [upd_ne (ne_of_none e na)]; exact e) (ne_of_none e na)
theorem weakF {P : Program} {w : World} {K : PySem.W.Frag} {mg : Str → Option Value} {base : Heap} {C : CXT} {k : Nat} {f : Addr} {fd : FuncData} {ps : List Str} {sp sp2 : Sp} (F : FnOk P w K mg base C k f fd ps sp) (i : ∀ vs H Q E, sp2 vs H Q E → sp vs H Q E) : FnOk P w K mg base C k f fd ps sp2 :=
  ⟨fun vs H Q E h => F.len vs H Q E (i vs H Q E h), fun A outer s H args us vs Q E hr e0 b r h => F.run A outer s H args us vs Q E hr e0 b r (i vs H Q E h)⟩
def spWordD (lo hi : Nat) : Sp := fun vs H Q _ => ∃ x d, vs = [x] ∧ PyW H x d ∧ (∀ z, d = .str z → z.length ≤ 2500) ∧ Q (.bl (wordD lo hi d)) H
theorem okL_one (c : Nat) : okL [c] = decide (c ∈ abc) := by
  unfold okL
  rw [List.all_cons, List.all_nil, Bool.and_true]
  exact decide_eq_decide.mpr abc_mem.symm
theorem word_let {z : Str} : wordD 1 1 (.str z) = true ↔ ∃ c ∈ abc, z = L1 c := by
  show (decide (1 ≤ z.length) && decide (z.length ≤ 1) && okL z.cps.toList) = true ↔ _
  constructor
  · intro h
    rw [Bool.and_eq_true, Bool.and_eq_true, decide_eq_true_iff, decide_eq_true_iff] at h
    obtain ⟨⟨h1, h2⟩, h3⟩ := h
    rw [← len_self] at h1 h2
    match e : z.cps.toList, h1, h2, h3 with
    | [c], _, _, h3 =>
      refine ⟨c, abc_mem.mpr (okL_iff.mp h3 c List.mem_cons_self), ?_⟩
      rw [← Sx_self z, e]
      rfl
    | _ :: _ :: _, _, h2, _ => simp at h2
  · rintro ⟨c, hc, rfl⟩
    rw [Bool.and_eq_true, Bool.and_eq_true, decide_eq_true_iff, decide_eq_true_iff]
    exact ⟨⟨Nat.le_refl _, Nat.le_refl _⟩, okL_iff.mpr fun d hd => by
      obtain rfl : d = c := by simpa [L1] using hd
      exact abc_mem.mp hc⟩
section
variable {P : Program} {w : World} {K : PySem.W.Frag} {mg : Str → Option Value} {base : Heap} {Cz : Nat → Addr}
theorem isLetter_D {f : Addr} {fd : FuncData} (F : FnOk P w K mg base CX0 1 f fd ["value"] (spIsLetter K)) : FnOk P w K mg base CX0 1 f fd ["value"] (spWordD 1 1) := weakF F fun vs H Q E h => by
  obtain ⟨x, d, rfl, p, l, q⟩ := h
  rcases pw_kind (K := K) p with ⟨z, rfl, rfl⟩ | ⟨n, t, ty, k⟩
  · refine ⟨_, rfl, ?_⟩
    by_cases h1 : z.length = 1
    · have h2 := h1
      rw [← len_self] at h2
      match e : z.cps.toList, h2 with
      | [c], _ =>
        have ez : z = L1 c := by
          rw [← Sx_self z, e]
          rfl
        subst ez
        refine .inl ⟨c, rfl, ?_⟩
        have e2 : wordD 1 1 (.str (L1 c)) = decide (c ∈ abc) := by
          rw [Bool.eq_iff_iff, word_let, decide_eq_true_iff]
          exact ⟨fun ⟨d, hd, e⟩ => (L1_inj e) ▸ hd, fun h => ⟨c, h, rfl⟩⟩
        rw [← e2]
        exact q
    · refine .inr (.inl ⟨z, rfl, by have := l z rfl; rw [sizeLine_eq]; omega, h1, ?_⟩)
      have e2 : wordD 1 1 (.str z) = false := by
        cases e : wordD 1 1 (.str z) with
        | false => rfl
        | true =>
          obtain ⟨c, _, rfl⟩ := word_let.mp e
          exact absurd rfl h1
      rw [← e2]
      exact q
  · rw [n] at q
    exact ⟨_, rfl, .inr (.inr ⟨t, ty, k, q⟩)⟩
end
end V8

set_option Elab.async false
set_option linter.all false
set_option maxRecDepth 100000
set_option maxHeartbeats 8000000
/-! Tables of codes and of signs, as dicts; what the top has left. -/
namespace V8
open PySem PySem.Spec PyProof.Rows L2
/-- a table as a dict: keys told by kf, values by vf -/
def encG (kf : Nat → Key) (vf : Nat × List Nat → V) (t : Tab) : List (Key × V) := t.map fun q => (kf q.1, vf q)
def kL : Nat → Key := fun c => Sum.inr (L1 c)
def kN : Nat → Key := fun n => Sum.inl ((n : Nat) : Int)
theorem kL_inj : ∀ a b, kL a = kL b → a = b := fun a b e => L1_inj (Sum.inr.inj e)
theorem kN_inj : ∀ a b, kN a = kN b → a = b := fun a b e => Int.ofNat.inj (Sum.inl.inj e)
theorem encG_len {kf : Nat → Key} {vf : Nat × List Nat → V} (t : Tab) : (encG kf vf t).length = t.length := List.length_map ..
theorem find_look {t : Tab} {c : Nat} {s : List Nat} (h : lookT t c = some s) : t.find? (fun q => decide (q.1 = c)) = some (c, s) := by
  unfold lookT at h
  cases e : t.find? (fun q => decide (q.1 = c)) with
  | none =>
    rw [e] at h
    cases h
  | some q =>
    rw [e] at h
    have h3 : q.1 = c := by simpa using List.find?_some e
    have h4 : q.2 = s := Option.some.inj h
    rw [← h3, ← h4]
section
variable {kf : Nat → Key} {vf : Nat × List Nat → V} (inj : ∀ a b, kf a = kf b → a = b)
include inj
theorem valG (c : Nat) : ∀ t : Tab, valV (encG kf vf t) (kf c) = (t.find? fun q => decide (q.1 = c)).map vf
  | [] => rfl
  | q :: t => by
    have ih := valG c t
    show valV ((kf q.1, vf q) :: encG kf vf t) _ = _
    by_cases h : q.1 = c
    · rw [valV_pos (by rw [h]), List.find?_cons_of_pos (by simpa using h)]
      rfl
    · rw [valV_neg (fun e => h (inj _ _ e)), ih, List.find?_cons_of_neg (by simpa using h)]
theorem valG_some {t : Tab} {c : Nat} {s : List Nat} (h : lookT t c = some s) : valV (encG kf vf t) (kf c) = some (vf (c, s)) := by
  rw [valG inj, find_look h]
  rfl
theorem valG_is {t : Tab} {c : Nat} : (valV (encG kf vf t) (kf c)).isSome = (lookT t c).isSome := by
  rw [valG inj, Option.isSome_map]
  unfold lookT
  rw [Option.isSome_map]
theorem putG {t : Tab} {c : Nat} {s : List Nat} (h : c ∉ t.map (·.1)) : putK (encG kf vf t) (kf c) (vf (c, s)) = encG kf vf (t ++ [(c, s)]) := by
  unfold putK
  rw [if_neg]
  · unfold encG
    rw [List.map_append]
    rfl
  · intro z
    obtain ⟨p, hp, e⟩ := List.any_eq_true.mp z
    obtain ⟨q, hq, rfl⟩ := List.mem_map.mp hp
    have e' : kf q.1 = kf c := by simpa using e
    exact h (List.mem_map.mpr ⟨q, hq, inj _ _ e'⟩)
end
theorem encG_at {kf : Nat → Key} {vf : Nat × List Nat → V} {t : Tab} {i : Nat} {k : Key} {v : V} (h : (encG kf vf t)[i]? = some (k, v)) : ∃ hi : i < t.length, k = kf t[i].1 ∧ v = vf t[i] := by
  unfold encG at h
  rw [List.getElem?_map] at h
  cases e : t[i]? with
  | none =>
    rw [e] at h
    cases h
  | some c =>
    obtain ⟨hi, ec⟩ := List.getElem?_eq_some_iff.mp e
    rw [e] at h
    have h' := Option.some.inj h
    refine ⟨hi, ?_, ?_⟩
    · rw [ec]
      exact (congrArg Prod.fst h').symm
    · rw [ec]
      exact (congrArg Prod.snd h').symm
abbrev Ad := Nat → Addr
def nums (s : List Nat) : List V := s.map fun n => V.int ((n : Nat) : Int)
theorem nums_len (s : List Nat) : (nums s).length = s.length := List.length_map ..
theorem nums_at {s : List Nat} {i : Nat} {x : V} (h : (nums s)[i]? = some x) : ∃ hi : i < s.length, x = .int ((s[i] : Nat) : Int) := by
  unfold nums at h
  rw [List.getElem?_map] at h
  cases e : s[i]? with
  | none =>
    rw [e] at h
    cases h
  | some c =>
    obtain ⟨hi, ec⟩ := List.getElem?_eq_some_iff.mp e
    rw [e] at h
    exact ⟨hi, by rw [ec]; exact (Option.some.inj h).symm⟩
def encC (A : Ad) : Tab → List (Key × V) := encG kL fun q => V.ref (A q.1)
def encS : Tab → List (Key × V) := encG kN fun q => V.str (Sx q.2)
def Tups (H : Hp) (A : Ad) (t : Tab) : Prop := ∀ q ∈ t, H (A q.1) = some (.tup (nums q.2))
def GoodI4 (s : List Nat) : Prop := 1 ≤ s.length ∧ s.length ≤ 4 ∧ ∀ n ∈ s, n < 256
structure GoodC (t : Tab) : Prop where
  nd : (t.map (·.1)).Nodup
  lt : ∀ q ∈ t, isLt q.1
  cod : ∀ q ∈ t, GoodI4 q.2
structure GoodS (t : Tab) : Prop where
  nd : (t.map (·.1)).Nodup
  lt : ∀ q ∈ t, q.1 < 256
  sg : ∀ q ∈ t, ∃ c, q.2 = [c] ∧ isLt c
theorem GoodC.key {t : Tab} (g : GoodC t) : (t.length ≤ 26) := by
  have h := nd_len (a := t.map (·.1)) (b := abc) g.nd fun x hx => by
    obtain ⟨q, hq, rfl⟩ := List.mem_map.mp hx
    exact abc_mem.mpr (g.lt q hq)
  rw [List.length_map, abc_len] at h
  exact h
theorem GoodS.key {t : Tab} (g : GoodS t) : (t.length ≤ 256) := by
  have h := nd_len (a := t.map (·.1)) (b := List.range 256) g.nd fun x hx => by
    obtain ⟨q, hq, rfl⟩ := List.mem_map.mp hx
    exact List.mem_range.mpr (g.lt q hq)
  rw [List.length_map, List.length_range] at h
  exact h
theorem GoodC.nil : GoodC [] := ⟨List.nodup_nil, fun q h => (List.not_mem_nil h).elim, fun q h => (List.not_mem_nil h).elim⟩
theorem GoodS.nil : GoodS [] := ⟨List.nodup_nil, fun q h => (List.not_mem_nil h).elim, fun q h => (List.not_mem_nil h).elim⟩
theorem GoodC.look {t : Tab} (g : GoodC t) {c : Nat} {s : List Nat} (h : lookT t c = some s) : isLt c ∧ GoodI4 s := ⟨g.lt _ (look_in h), g.cod _ (look_in h)⟩
theorem GoodS.look {t : Tab} (g : GoodS t) {n : Nat} {s : List Nat} (h : lookT t n = some s) : n < 256 ∧ ∃ c, s = [c] ∧ isLt c := ⟨g.lt _ (look_in h), g.sg _ (look_in h)⟩
/-- the kept part of a table, in the order of L -/
def keysL (L : List Nat) (u : Tab) : List Nat := L.filter fun c => (lookT u c).isSome
def imsL (L : List Nat) (u : Tab) : Tab := (keysL L u).map fun c => (c, (lookT u c).getD [])
theorem look_imsL (L : List Nat) (u : Tab) (c : Nat) : lookT (imsL L u) c = if c ∈ keysL L u then some ((lookT u c).getD []) else none := lookT_map _ c _
theorem look_imsL_in {L : List Nat} {u : Tab} (h : ∀ q ∈ u, q.1 ∈ L) (c : Nat) : lookT (imsL L u) c = lookT u c := by
  rw [look_imsL]
  cases e : lookT u c with
  | none =>
    rw [if_neg]
    intro z
    have := (List.mem_filter.mp z).2
    rw [e] at this
    cases this
  | some s =>
    rw [if_pos]
    · rfl
    · exact List.mem_filter.mpr ⟨h _ (look_in e), by rw [e]; rfl⟩
theorem imsL_len (L : List Nat) (u : Tab) : (imsL L u).length ≤ L.length := by
  unfold imsL
  rw [List.length_map]
  exact List.length_filter_le _ _
theorem imsL_key {L : List Nat} {u : Tab} {c : Nat} (h : c ∈ (imsL L u).map (·.1)) : c ∈ L := by
  obtain ⟨q, hq, rfl⟩ := List.mem_map.mp h
  obtain ⟨c, hc, rfl⟩ := List.mem_map.mp hq
  exact (List.mem_filter.mp hc).1
theorem imsL_no {L : List Nat} {u : Tab} {c : Nat} (h : lookT u c = none) : imsL (L ++ [c]) u = imsL L u := by
  unfold imsL keysL
  rw [List.filter_append, List.filter_cons_of_neg (by rw [h]; simp), List.filter_nil, List.append_nil]
theorem imsL_yes {L : List Nat} {u : Tab} {c : Nat} {s : List Nat} (h : lookT u c = some s) : imsL (L ++ [c]) u = imsL L u ++ [(c, s)] := by
  unfold imsL keysL
  rw [List.filter_append, List.filter_cons_of_pos (by rw [h]; rfl), List.filter_nil, List.map_append, List.map_singleton, h]
  rfl
theorem GoodC.inL {t : Tab} (g : GoodC t) : ∀ q ∈ t, q.1 ∈ abc := fun q h => abc_mem.mpr (g.lt q h)
theorem GoodS.inL {t : Tab} (g : GoodS t) : ∀ q ∈ t, q.1 ∈ List.range 256 := fun q h => List.mem_range.mpr (g.lt q h)
theorem imsL_mem {L : List Nat} {u : Tab} {q : Nat × List Nat} (h : q ∈ imsL L u) : lookT u q.1 = some q.2 ∧ q.1 ∈ L := by
  obtain ⟨c, hc, rfl⟩ := List.mem_map.mp h
  have m := List.mem_filter.mp hc
  obtain ⟨s, e⟩ := Option.isSome_iff_exists.mp m.2
  refine ⟨?_, m.1⟩
  show lookT u c = some ((lookT u c).getD [])
  rw [e]
  rfl
theorem Tups.look {H : Hp} {A : Ad} {t : Tab} (h : Tups H A t) {c : Nat} {s : List Nat} (e : lookT t c = some s) : H (A c) = some (.tup (nums s)) := h _ (look_in e)
theorem Tups.same {H H' : Hp} {A : Ad} {t : Tab} (h : Tups H A t) (s : Same H H') : Tups H' A t := fun q hq => s _ _ (h q hq)
theorem Tups.upd {H : Hp} {A : Ad} {t : Tab} {d : Addr} {o : HO} (h : Tups H A t) (hd : ∀ xs, H d ≠ some (.tup xs)) : Tups (upd H d o) A t := fun q hq => by
  rw [upd_ne]
  · exact h q hq
  · intro z
    have e := h q hq
    rw [z] at e
    exact hd _ e
def fW (b : Addr) : List (Str × V) := putF "_codes" (.ref b) []
def fR (b : Addr) : List (Str × V) := putF "_signs" (.ref b) []
theorem fW_i (b : Addr) : (fW b).lookup ("_codes" : Str) = some (.ref b) := by
  unfold fW
  rw [lookup_putF, if_pos rfl]
theorem fR_i (b : Addr) : (fR b).lookup ("_signs" : Str) = some (.ref b) := by
  unfold fR
  rw [lookup_putF, if_pos rfl]
structure WrAt (C : Addr) (H : Hp) (x : Addr) (A : Ad) (t : Tab) : Prop where
  at_ : ∃ dx b, H x = some (.ins C dx (fW b)) ∧ Rd H b (.dK (encC A (imsL abc t)))
  tu : Tups H A t
  g : GoodC t
structure RdAt (C : Addr) (H : Hp) (x : Addr) (t : Tab) : Prop where
  at_ : ∃ dx b, H x = some (.ins C dx (fR b)) ∧ Rd H b (.dK (encS (imsL (List.range 256) t)))
  g : GoodS t
theorem Rd.same {H H' : Hp} {b : Addr} {o : HO} (h : Rd H b o) (s : Same H H') : Rd H' b o := by
  rcases h with h | ⟨od, h⟩
  · exact .inl (s _ _ h)
  · exact .inr ⟨od, s _ _ h⟩
theorem WrAt.same {C : Addr} {H H' : Hp} {x : Addr} {A : Ad} {t : Tab} (m : WrAt C H x A t) (s : Same H H') : WrAt C H' x A t := by
  obtain ⟨⟨dx, b, h1, h2⟩, tu, g⟩ := m
  exact ⟨⟨dx, b, s _ _ h1, Rd.same h2 s⟩, tu.same s, g⟩
theorem RdAt.same {C : Addr} {H H' : Hp} {x : Addr} {t : Tab} (m : RdAt C H x t) (s : Same H H') : RdAt C H' x t := by
  obtain ⟨⟨dx, b, h1, h2⟩, g⟩ := m
  exact ⟨⟨dx, b, s _ _ h1, Rd.same h2 s⟩, g⟩
structure WrU (C : Addr) (H : Hp) (x : Addr) (A : Ad) (t : Tab) : Prop where
  at_ : ∃ dx b, H x = some (.ins C dx (fW b)) ∧ H b = some (.dK (encC A (imsL abc t)))
  tu : Tups H A t
  g : GoodC t
theorem WrU.wr {C : Addr} {H : Hp} {x : Addr} {A : Ad} {t : Tab} (m : WrU C H x A t) : WrAt C H x A t := by
  obtain ⟨⟨dx, b, h1, h2⟩, tu, g⟩ := m
  exact ⟨⟨dx, b, h1, .inl h2⟩, tu, g⟩
theorem WrU.same {C : Addr} {H H' : Hp} {x : Addr} {A : Ad} {t : Tab} (m : WrU C H x A t) (s : Same H H') : WrU C H' x A t := by
  obtain ⟨⟨dx, b, h1, h2⟩, tu, g⟩ := m
  exact ⟨⟨dx, b, s _ _ h1, s _ _ h2⟩, tu.same s, g⟩
structure RdU (C : Addr) (H : Hp) (x : Addr) (t : Tab) : Prop where
  at_ : ∃ dx b, H x = some (.ins C dx (fR b)) ∧ H b = some (.dK (encS (imsL (List.range 256) t)))
  g : GoodS t
theorem RdU.rd {C : Addr} {H : Hp} {x : Addr} {t : Tab} (m : RdU C H x t) : RdAt C H x t := by
  obtain ⟨⟨dx, b, h1, h2⟩, g⟩ := m
  exact ⟨⟨dx, b, h1, .inl h2⟩, g⟩
theorem RdU.same {C : Addr} {H H' : Hp} {x : Addr} {t : Tab} (m : RdU C H x t) (s : Same H H') : RdU C H' x t := by
  obtain ⟨⟨dx, b, h1, h2⟩, g⟩ := m
  exact ⟨⟨dx, b, s _ _ h1, s _ _ h2⟩, g⟩
/-- one dict of keys and codes -/
def CodA (H : Hp) (d : Addr) (A : Ad) (t : Tab) : Prop := H d = some (.dK (encC A t)) ∧ Tups H A t ∧ GoodC t
def SigA (H : Hp) (d : Addr) (t : Tab) : Prop := H d = some (.dK (encS t)) ∧ GoodS t
structure Tc (K : PySem.W.Frag) (mg : Str → Option Value) (CW CR CE : Addr) (Cz : Nat → Addr) : Prop extends Tq mg where
  iter : mg "iter" = none
  all : mg "all" = none
  bool : mg "bool" = none
  ValueError : mg "ValueError" = none
  gLETTERS : GV mg "LETTERS" (.str abcS)
  gLONGEST : GV mg "LONGEST" (.int 2000)
  gNUMBERS : GV mg "NUMBERS" (.int 256)
  gLONGEST_CODE : GV mg "LONGEST_CODE" (.int 4)
  gWriteTable : GV mg "WriteTable" (.ref CW)
  gReadTable : GV mg "ReadTable" (.ref CR)
  gBadTable : GV mg "BadTable" (.ref (Cz 0))
  gBadLetter : GV mg "BadLetter" (.ref (Cz 1))
  gBadCode : GV mg "BadCode" (.ref (Cz 2))
  gUnread : GV mg "Unread" (.ref (Cz 3))
  gTooMany : GV mg "TooMany" (.ref (Cz 4))
  gE : mg "RepairError" = some (.ref CE)
  clW : Cls K CW
  clR : Cls K CR
  nW : NoAttr K CW "_codes"
  nR : NoAttr K CR "_signs"
  tB : PySem.W.specialIn K (.builtin "object.__class__") "__get__" = some (some (.builtin "getset_descriptor.__get__"))
  tC : PySem.W.takesIn K (.builtin "object.__class__") = some true
  wA : PySem.W.findIn K (.ref CW) "__class__" = some (some (.builtin "object.__class__"))
  wD : PySem.W.mroIn K CW (.type "object") = some true
  rA : PySem.W.findIn K (.ref CR) "__class__" = some (some (.builtin "object.__class__"))
  rD : PySem.W.mroIn K CR (.type "object") = some true
  WW : PySem.W.kitOne K (.ref CW) (.ref CW) = some true
  RR : PySem.W.kitOne K (.ref CR) (.ref CR) = some true
  nfW : PySem.W.notFirst K CW (.ref CW) = true
  nfR : PySem.W.notFirst K CR (.ref CR) = true
  nfd : PySem.W.notFirst K CR (.type "dict") = true
  neR : PySem.W.findIn K (.ref CR) "__ne__" = some (some (.builtin "object.__ne__"))
  ddR : PySem.W.kitOne K (.type "dict") (.ref CR) = some false
  eX : ∀ i, i < 5 → PySem.W.exmOne K (.ref (Cz i)) (.ref CE) = some true
  kit : ∀ i j, i < 5 → j < 5 → PySem.W.kitOne K (.ref (Cz i)) (.ref (Cz j)) = some (decide (i = j))
  kV : ∀ i, i < 5 → PySem.W.kitOne K (.ref (Cz i)) (.type "ValueError") = some true
  xc : ∀ i, i < 5 → ExcC K (Cz i)
  no : ∀ i, i < 4 → PySem.W.findIn K (.ref (Cz i)) (fldOf i) = some none
  n1 : PySem.W.findIn K (.ref (Cz 4)) "what" = some none
  n2 : PySem.W.findIn K (.ref (Cz 4)) "most" = some none
end V8

set_option Elab.async false
set_option linter.all false
set_option maxRecDepth 100000
set_option maxHeartbeats 8000000
/-! The program's own tests, of any value. -/
namespace V8
open PySem PySem.Spec PyProof.Rows L2
abbrev s_is_letter : Stmt := topS 15
abbrev n_is_letter : List Str := ["value"]
theorem sc_is_letter : FnScope ["value"] ["value"] (defScope s_is_letter) := ⟨rfl, rfl, rfl, by decide +kernel, rfl, by decide +kernel, by decide +kernel⟩
abbrev s_is_integer : Stmt := topS 18
abbrev n_is_integer : List Str := ["value"]
theorem sc_is_integer : FnScope ["value"] ["value"] (defScope s_is_integer) := ⟨rfl, rfl, rfl, by decide +kernel, rfl, by decide +kernel, by decide +kernel⟩
abbrev s_is_between : Stmt := topS 19
abbrev n_is_between : List Str := ["value", "least", "most"]
theorem sc_is_between : FnScope ["value", "least", "most"] ["value", "least", "most"] (defScope s_is_between) := ⟨rfl, rfl, rfl, by decide +kernel, rfl, by decide +kernel, by decide +kernel⟩
abbrev s_is_number : Stmt := topS 28
abbrev n_is_number : List Str := ["value"]
theorem sc_is_number : FnScope ["value"] ["value"] (defScope s_is_number) := ⟨rfl, rfl, rfl, by decide +kernel, rfl, by decide +kernel, by decide +kernel⟩
abbrev s_is_code : Stmt := topS 29
abbrev n_is_code : List Str := ["value", "number"]
theorem sc_is_code : FnScope ["value", "number"] ["value"] (defScope s_is_code) := ⟨rfl, rfl, rfl, by decide +kernel, rfl, by decide +kernel, by decide +kernel⟩
abbrev s_bounded : Stmt := topS 21
abbrev n_bounded : List Str := ["string"]
theorem sc_bounded : FnScope ["string"] ["string"] (defScope s_bounded) := ⟨rfl, rfl, rfl, by decide +kernel, rfl, by decide +kernel, by decide +kernel⟩
def intD : PyData → Bool
  | .int _ => true
  | _ => false
def spIntD : Sp := fun vs H Q _ => ∃ x d, vs = [x] ∧ PyW H x d ∧ Q (.bl (intD d)) H
def spBtwD : Sp := fun vs H Q _ => ∃ x d, vs = [x, .int 0, .int 255] ∧ PyW H x d ∧ Q (.bl (numD d)) H
def spNumD : Sp := fun vs H Q _ => ∃ x d, vs = [x] ∧ PyW H x d ∧ Q (.bl (numD d)) H
def spCode (K : PySem.W.Frag) : Sp := fun vs H Q _ => ∃ (a : Addr) (s : List Nat), vs = [.ref a] ∧ H a = some (.tup (nums s)) ∧ GoodI4 s ∧ ∀ H', Same H H' → Q (.bl true) H'
theorem i4_num {s : List Nat} (h : GoodI4 s) {i : Nat} (hi : i < s.length) : (0 : Int) ≤ (s[i] : Nat) ∧ ((s[i] : Nat) : Int) < 256 := by
  have := h.2.2 _ (List.getElem_mem hi)
  omega
theorem num_nat {n : Nat} (h : n < 256) : numD (.int ((n : Nat) : Int)) = true := by
  show (decide ((0 : Int) ≤ (n : Int)) && decide ((n : Int) ≤ 255)) = true
  rw [decide_eq_true (by omega), decide_eq_true (by omega)]
  rfl
theorem num_some {d : PyData} (h : numD d = true) : ∃ n : Nat, n < 256 ∧ d = .int ((n : Nat) : Int) := by
  cases d with
  | int i =>
    have h2 : (decide (0 ≤ i) && decide (i ≤ 255)) = true := h
    rw [Bool.and_eq_true, decide_eq_true_iff, decide_eq_true_iff] at h2
    exact ⟨i.toNat, by omega, by rw [Int.toNat_of_nonneg h2.1]⟩
  | none => cases h
  | bool b => cases h
  | str s => cases h
  | list l => cases h
  | tuple l => cases h
  | dict l => cases h
section
variable {P : Program} {w : World} {K : PySem.W.Frag} {mg : Str → Option Value} {base : Heap} {CW CR CE : Addr} {Cz : Nat → Addr}
theorem ok_is_letter {f : Addr} {fd : FuncData} (F : Fun K "is_letter" "is_letter" s_is_letter f fd) (T : Tc K mg CW CR CE Cz) : FnOk P w K mg base CX0 1 f fd ["value"] (spIsLetter K) := by
  refine F.ok sc_is_letter (fun vs H Q E h => ?_) (fun cdv A outer s H vs Q E hr h => ?_)
  · obtain ⟨x, rfl, _⟩ := h
    rfl
  · obtain ⟨x, rfl, h⟩ := h
    refine ⟨_, (pss_one (ps_ret (pe_and (pe_callB call_isi (by rfl) T.isinstance (by decide +kernel) (pa_cons (pv 0) (pa_cons (pe_bltn (v := .ty "str") (by rfl) T.str (by decide +kernel) rfl) pa_nil))) (pe_and (pe_cmpR op_eq (pe_callB call_len_str (by rfl) T.len (by decide +kernel) (pa_cons (pv 0) pa_nil)) pe_int (nomark _)) (pe_one (pe_cmpR op_in_sign (pv 0) (pe_gv T.gLETTERS (by rfl)) rfl)))))), ?_⟩
    rcases h with ⟨c, rfl, q⟩ | ⟨z, rfl, hz, h1, q⟩ | ⟨t, ty, e, q⟩
    · refine ⟨_, rfl, _, .ty "str", .type "str", .type "str", true, rfl, .ty _, ty_str _, kit_ty (by decide +kernel), true, rfl, ?_⟩
      refine ⟨_, rfl, _, rfl, by show 1 ≤ sizeLine; decide, rfl, true, rfl, ?_⟩
      refine ⟨_, rfl, c, abcS, rfl, rfl, ?_⟩
      rw [abcS_cps]
      exact q
    · refine ⟨_, rfl, _, .ty "str", .type "str", .type "str", true, rfl, .ty _, ty_str _, kit_ty (by decide +kernel), true, rfl, ?_⟩
      refine ⟨_, rfl, _, rfl, hz, rfl, false, ?_, ?_⟩
      · rw [decide_eq_false]
        intro e
        have e' := V.int.inj e
        omega
      · exact q
    · exact ⟨_, rfl, _, .ty "str", t, .type "str", false, rfl, .ty _, ty, e, false, rfl, q⟩
theorem ok_is_integerD {f : Addr} {fd : FuncData} (F : Fun K "is_integer" "is_integer" s_is_integer f fd) (T : Tc K mg CW CR CE Cz) : FnOk P w K mg base CX0 1 f fd ["value"] spIntD := by
  refine F.ok sc_is_integer (fun vs H Q E h => ?_) (fun cdv A outer s H vs Q E hr h => ?_)
  · obtain ⟨x, d, rfl, _⟩ := h
    rfl
  · obtain ⟨x, d, rfl, p, q⟩ := h
    refine ⟨_, (pss_one (ps_ret (pe_and (pe_callB call_isi (by rfl) T.isinstance (by decide +kernel) (pa_cons (pv 0) (pa_cons (pe_bltn (v := .ty "int") (by rfl) T.int (by decide +kernel) rfl) pa_nil))) (pe_one (pe_not (pe_callB call_isi (by rfl) T.isinstance (by decide +kernel) (pa_cons (pv 0) (pa_cons (pe_bltn (v := .ty "bool") (by rfl) T.bool (by decide +kernel) rfl) pa_nil)))))))), ?_⟩
    rcases pw_num (K := K) p with ⟨i, rfl, rfl⟩ | ⟨b, rfl, rfl⟩ | ⟨ni, _, t, ty, e⟩
    · refine ⟨_, rfl, _, .ty "int", .type "int", .type "int", true, rfl, .ty _, .base (.int i), kit_ty (by decide +kernel), true, rfl, ?_⟩
      refine ⟨_, rfl, _, .ty "bool", .type "int", .type "bool", false, rfl, .ty _, .base (.int i), kit_ty (by decide +kernel), ?_⟩
      exact ⟨_, rfl, q⟩
    · refine ⟨_, rfl, _, .ty "int", .type "bool", .type "int", true, rfl, .ty _, .base (.bl b), kit_ty (by decide +kernel), true, rfl, ?_⟩
      refine ⟨_, rfl, _, .ty "bool", .type "bool", .type "bool", true, rfl, .ty _, .base (.bl b), kit_ty (by decide +kernel), ?_⟩
      exact ⟨_, rfl, q⟩
    · have e2 : intD d = false := by
        cases d with
        | int i => exact absurd rfl (ni i)
        | _ => rfl
      rw [e2] at q
      exact ⟨_, rfl, _, .ty "int", t, .type "int", false, rfl, .ty _, ty, e, false, rfl, q⟩
theorem ok_is_betweenD {f : Addr} {fd : FuncData} (F : Fun K "is_between" "is_between" s_is_between f fd) (T : Tc K mg CW CR CE Cz) (D_is_integer : Df P w K mg base 1 "is_integer" spIntD) : FnOk P w K mg base CX0 2 f fd ["value", "least", "most"] spBtwD := by
  refine F.ok sc_is_between (fun vs H Q E h => ?_) (fun cdv A outer s H vs Q E hr h => ?_)
  · obtain ⟨x, d, rfl, _⟩ := h
    rfl
  · obtain ⟨x, d, rfl, p, q⟩ := h
    refine ⟨_, (pss_one (ps_ret (pe_and (pe_c D_is_integer hr (by decide) (by rfl) (pa_cons (pv 0) pa_nil)) (pe_one (pe_chain op_le op_le (pv 1) (pv 0) (pv 2)))))), ?_⟩
    refine ⟨_, rfl, x, d, rfl, p, ?_⟩
    rcases pw_num (K := K) p with ⟨i, rfl, rfl⟩ | ⟨b, rfl, rfl⟩ | ⟨ni, e, _⟩
    · refine ⟨true, rfl, iteT ⟨_, rfl, _, rfl, _, _, rfl, rfl, decide (0 ≤ i), rfl, ?_⟩⟩
      have q1 : Q (.bl (decide (0 ≤ i) && decide (i ≤ 255))) H := q
      by_cases h : 0 ≤ i
      · rw [decide_eq_true h] at q1 ⊢
        refine ⟨_, rfl, _, _, rfl, rfl, ?_⟩
        rw [Bool.true_and] at q1
        exact q1
      · rw [decide_eq_false h] at q1 ⊢
        rw [Bool.false_and] at q1
        exact q1
    · exact ⟨false, rfl, iteF q⟩
    · have e2 : intD d = false := by
        cases d with
        | int i => exact absurd rfl (ni i)
        | _ => rfl
      rw [e2]
      rw [e] at q
      exact ⟨false, rfl, iteF q⟩
theorem ok_is_numberD {f : Addr} {fd : FuncData} (F : Fun K "is_number" "is_number" s_is_number f fd) (T : Tc K mg CW CR CE Cz) (D_is_between : Df P w K mg base 2 "is_between" spBtwD) : FnOk P w K mg base CX0 3 f fd ["value"] spNumD := by
  refine F.ok sc_is_number (fun vs H Q E h => ?_) (fun cdv A outer s H vs Q E hr h => ?_)
  · obtain ⟨x, d, rfl, _⟩ := h
    rfl
  · obtain ⟨x, d, rfl, p, q⟩ := h
    refine ⟨_, (pss_one (ps_ret (pe_c D_is_between hr (by decide) (by rfl) (pa_cons (pv 0) (pa_cons pe_int (pa_cons (pe_op op_sub (pe_gv T.gNUMBERS (by rfl)) pe_int) pa_nil)))))), ?_⟩
    exact ⟨_, rfl, _, _, rfl, rfl, x, d, rfl, p, q⟩
theorem ok_is_code {f : Addr} {fd : FuncData} (F : Fun K "is_code" "is_code" s_is_code f fd) (T : Tc K mg CW CR CE Cz) (D_is_number : Df P w K mg base 3 "is_number" spNumD) : FnOk P w K mg base CX0 4 f fd ["value"] (spCode K) := by
  refine F.ok sc_is_code (fun vs H Q E h => ?_) (fun cdv A outer s H vs Q E hr h => ?_)
  · obtain ⟨a, s, rfl, _⟩ := h
    rfl
  · obtain ⟨a, z, rfl, ha, g, q⟩ := h
    refine ⟨_, (pss_one (ps_ret (pe_and (pe_callB call_isi (by rfl) T.isinstance (by decide +kernel) (pa_cons (pv 0) (pa_cons (pe_bltn (v := .ty "tuple") (by rfl) T.tuple (by decide +kernel) rfl) pa_nil))) (pe_and (pe_chain op_le op_le pe_int (pe_callB (call_len_seqK (K := K) rfl) (by rfl) T.len (by decide +kernel) (pa_cons (pv 0) pa_nil)) (pe_gv T.gLONGEST_CODE (by rfl))) (pe_one (pe_callB (cr_all rfl) (by rfl) T.all (by decide +kernel) (pa_cons (pe_lc (own := [("number", 1)]) (g := gName 1) (by rfl) sc_is_code.nd (pi_tup (pv 0)) (blkOk_by (own := [("number", 1)]) (N := n_is_code) (sc := defScope s_is_code) (by decide +kernel)) (fun _ _ _ _ _ => (pg_name (i := 1) sc_is_code.nd rfl (.inl rfl))) (fun _ _ _ _ _ => pts_nil) (fun _ _ _ _ _ => (pe_c D_is_number hr (by decide) (by rfl) (pa_cons (pv 1) pa_nil)))) pa_nil))))))), ?_⟩
    obtain ⟨g1, g4, g5⟩ := id g
    refine ⟨_, rfl, _, .ty "tuple", .type "tuple", .type "tuple", true, rfl, .ty _, .base (.tup ha), kit_ty (by decide +kernel), true, rfl, iteT ?_⟩
    refine ⟨_, rfl, a, _, rfl, .inr (.inl (.inl ha)), ?_⟩
    rw [nums_len]
    refine ⟨_, _, rfl, rfl, true, ?_, iteT ?_⟩
    · exact dec_t (show (1 : Int) ≤ (z.length : Int) by omega)
    · refine ⟨_, _, rfl, rfl, true, ?_, iteT ?_⟩
      · exact dec_t (show (z.length : Int) ≤ 4 by omega)
      · refine ⟨_, rfl, a, rfl, ⟨_, .inl (.inl ha)⟩, fun D nD => lc_it (walk_tup (K := K) (a := a) (xs := nums z)) (fun i H2 => H2 = upd H D (.lst ((z.take i).map fun _ => V.bl true))) rfl ?_ ?_ ?_⟩
        · rintro i H2 hi rfl
          exact .inl (.inl (by rw [upd_ne (ne_of_none ha nD)]; exact ha))
        · rintro i x H2 H2' hi rfl ⟨rfl, hx⟩
          obtain ⟨hi', rfl⟩ := nums_at hx
          have en := num_nat (g5 _ (List.getElem_mem hi'))
          refine ⟨rfl, _, rfl, _, _, rfl, .int _, ?_⟩
          rw [en]
          refine ⟨_, upd_same, ?_, ?_⟩
          · rw [List.length_map, List.length_take, sizeLine_eq]
            omega
          · rw [upd_upd, List.take_add_one, List.getElem?_eq_getElem hi', List.map_append]
            rfl
        · rintro H2 rfl
          rw [nums_len, List.take_length]
          refine ⟨D, z.map fun _ => true, rfl, .inl (.inl ?_), ?_⟩
          · rw [upd_same, List.map_map]
            rfl
          · have e : (z.map fun _ => true).all id = true := by
              rw [List.all_eq_true]
              intro b hb
              obtain ⟨_, _, rfl⟩ := List.mem_map.mp hb
              rfl
            rw [e]
            exact q _ (same_put (s := Same.refl H) nD)
end
end V8

set_option Elab.async false
set_option linter.all false
set_option maxRecDepth 100000
set_option maxHeartbeats 4000000
/-! An error raised while a dict is gone over: the dict is unlocked on the way out. -/
namespace L2
open PySem PySem.Spec PyProof.Rows MX
def wUnl (H0 : Hp) (W : WX) : WX := fun cls d σ H => ∃ (dd : Addr) (od : Obj) (u : HO), H dd = some (.frz od u) ∧ (∀ o' u', H0 dd ≠ some (.frz o' u')) ∧ W cls d σ (upd H dd u)
theorem takes_unl {X : Cx} {W : WX} {H0 : Hp} (h0 : X.H_0 = H0) (t : Takes X W) : Takes X (wUnl H0 W) := by
  subst h0
  rintro u s2 ⟨a, B, sI, pins, σ, H, cls, d, e, I, nb, up, sky, na, os, ag, dd, od, o, hf, hn, w⟩
  exact t u s2 ⟨a, B, sI, pins, σ, upd H dd o, cls, d, e, I.unlock hf hn, nb, up, sky, by rw [upd_ne (Ne.symm (ne_of_none hf na))]; exact na, os, ag, w⟩
end L2
namespace L2
open PySem PySem.Spec PyProof.Rows MX
/-- isinstance(d, c), d a dict of flat keys and tuples -/
def rIsiM (w : World) (K : PySem.W.Frag) : List V → Hp → VK → Prop := fun xs H Q => ∃ (a : Addr) (kvs : List (NestedKey × V × V)) (c : V) (u : Value) (b : Bool), xs = [.ref a, c] ∧ MixD w H a kvs ∧ ClsV c u ∧ PySem.W.kitOne K (.type "dict") u = some b ∧ Q (.bl b) H
theorem call_isiM {X : Cx} : CallR X (.builtin "isinstance") (rIsiM X.w X.K) := by
  intro pins s σ H xs us Q I r h
  obtain ⟨a, kvs, c, u, b, rfl, m, k, e, q⟩ := h
  obtain ⟨u1, u2, rfl, r1, r2⟩ := vals2 r
  obtain rfl := k.eq r2
  obtain rfl : u1 = Value.ref a := r1
  obtain ⟨few, hd, xs, p, o, es, ep, h1, h2, _⟩ := m.dict I
  exact PySem.W.kia_one PySem.W.kitx_dict I.kIn ⟨o, h1, h2.1⟩ e (fun z => nomatch z) fun tk => ⟨.bl b, H, I.tok tk, rfl, q⟩
end L2
namespace L2
open PySem PySem.Spec PyProof.Rows MX
theorem walk_keysM {w : World} {d : Addr} {o : Obj} {kvs : List (NestedKey × V × V)} : Walk (Itm w d o kvs) kvs.length (fun H => H d = some (.frz o (MixO w d kvs))) (fun i H x H2 => H2 = H ∧ ∃ k v, kvs[i]? = some (k, x, v)) :=
  ⟨fun _ _ lt q => And.intro q lt, fun _ q => And.intro q (Nat.le_refl _), fun _ _ _ _ _ _ y => y⟩
end L2

set_option Elab.async false
set_option linter.all false
set_option maxRecDepth 100000
set_option maxHeartbeats 8000000
/-! Tables of signs told, or refused. -/
namespace V8
open PySem PySem.Spec PyProof.Rows L2 MX
abbrev s_check_signs : Stmt := topS 31
abbrev n_check_signs : List Str := ["signs", "key", "number"]
theorem sc_check_signs : FnScope ["signs", "key", "number"] ["signs"] (defScope s_check_signs) := ⟨rfl, rfl, rfl, by decide +kernel, rfl, by decide +kernel, by decide +kernel⟩
abbrev Dt := List (Key × PyData)
structure TabA (H : Hp) (a : Addr) (dt : Dt) : Prop where
  at_ : ∃ kvs, H a = some (.dK kvs) ∧ Paired (fun (p : Key × V) (q : Key × PyData) => p.1 = q.1 ∧ Held H p.2 q.2) kvs dt
  nd : (dt.map (·.1)).Nodup
  few : dt.length ≤ 30
  txt : ∀ q ∈ dt, NiceD (keyD q.1)
/-- a table with a key that is no text -/
structure TabM (w : World) (H : Hp) (a : Addr) (ks : List PyData) : Prop where
  at_ : ∃ kvs, MixD w H a kvs ∧ Paired (fun (p : NestedKey × V × V) (d : PyData) => Held H p.2.1 d) kvs ks
  few : ks.length ≤ 30
  lay : ∀ d ∈ ks, d.canLay0 = true
theorem pair_get {α β : Type} {R : α → β → Prop} {xs : List α} {ys : List β} (h : Paired R xs ys) {i : Nat} {x : α} (e : xs[i]? = some x) : ∃ y, ys[i]? = some y ∧ R x y := by
  induction h generalizing i with
  | nil => simp at e
  | cons r _ ih =>
    cases i with
    | zero =>
      rw [List.getElem?_cons_zero] at e
      cases e
      exact ⟨_, rfl, r⟩
    | succ j =>
      rw [List.getElem?_cons_succ] at e ⊢
      exact ih e
theorem pair_len {α β : Type} {R : α → β → Prop} {xs : List α} {ys : List β} (h : Paired R xs ys) : xs.length = ys.length := by
  induction h with
  | nil => rfl
  | cons _ _ ih => rw [List.length_cons, List.length_cons, ih]
theorem pair_imp {α β : Type} {R S : α → β → Prop} {xs : List α} {ys : List β} (h : Paired R xs ys) (i : ∀ x y, R x y → S x y) : Paired S xs ys := by
  induction h with
  | nil => exact .nil
  | cons r _ ih => exact .cons (i _ _ r) ih
theorem TabA.same {H H2 : Hp} {a : Addr} {dt : Dt} (t : TabA H a dt) (s : Same H H2) : TabA H2 a dt := by
  obtain ⟨⟨kvs, h, p⟩, nd, few, tx⟩ := t
  exact ⟨⟨kvs, s _ _ h, pair_imp p fun _ _ z => ⟨z.1, z.2.same s⟩⟩, nd, few, tx⟩
theorem TabM.same {w : World} {H H2 : Hp} {a : Addr} {ks : List PyData} (t : TabM w H a ks) (s : Same H H2) : TabM w H2 a ks := by
  obtain ⟨⟨kvs, h, p⟩, few, lay⟩ := t
  exact ⟨⟨kvs, h.same s, pair_imp p fun _ _ z => z.same s⟩, few, lay⟩
def atD (dt : Dt) (k : Key) : Option PyData := (dt.find? fun q => decide (q.1 = k)).map (·.2)
theorem at_pair {H : Hp} {kvs : List (Key × V)} {dt : Dt} (h : Paired (fun (p : Key × V) (q : Key × PyData) => p.1 = q.1 ∧ Held H p.2 q.2) kvs dt) (k : Key) : (valV kvs k = none ∧ atD dt k = none) ∨ ∃ v d, valV kvs k = some v ∧ atD dt k = some d ∧ Held H v d := by
  unfold valV atD
  induction h with
  | nil => exact .inl ⟨rfl, rfl⟩
  | @cons p q l1 l2 r _ ih =>
    rw [List.find?_cons, List.find?_cons, r.1]
    cases decide (q.1 = k) with
    | true => exact .inr ⟨_, _, rfl, rfl, r.2⟩
    | false => exact ih
theorem find_take {α : Type} {p : α → Bool} : ∀ {l : List α} {i : Nat} {x : α}, l[i]? = some x → (∀ y ∈ l.take i, p y = false) → p x = true → l.find? p = some x
  | [], i, x, e, _, _ => by simp at e
  | a :: l, 0, x, e, _, h => by
    obtain rfl : a = x := by simpa using e
    rw [List.find?_cons, h]
  | a :: l, i + 1, x, e, k, h => by
    have ka := k a (by rw [List.take_succ_cons]; exact List.mem_cons_self)
    rw [List.find?_cons, ka]
    exact find_take (i := i) (by simpa using e) (fun y hy => k y (by rw [List.take_succ_cons]; exact List.mem_cons_of_mem _ hy)) h
theorem find_no {α : Type} {p : α → Bool} {l : List α} (h : ∀ y ∈ l, p y = false) : l.find? p = none := by
  rw [List.find?_eq_none]
  intro x hx
  rw [h x hx]
  exact Bool.false_ne_true
theorem key_py {H : Hp} (k : Key) : PyW H (kV k) (keyD k) := by
  cases k with
  | inl i => exact .int i
  | inr z => exact .str z
theorem key_told {H : Hp} (k : Key) : Told2 H (kV k) := by
  cases k with
  | inl i => exact .inl (.inr (.inl ⟨i, rfl⟩))
  | inr z => exact .inl (.inl ⟨z, rfl⟩)
theorem key_held {H : Hp} {k : Key} (n : NiceD (keyD k)) : Held H (kV k) (keyD k) := ⟨key_told k, key_py k, n⟩
theorem nice_let : ∀ c ∈ abc, NiceD (.str (L1 c)) := fun c hc => by
  have h : ∀ c ∈ abc, (PyData.str (L1 c)).shown.length ≤ 10 ∧ PyData.strOk (PyData.str (L1 c)).shown = true := by decide +kernel
  obtain ⟨h1, h2⟩ := h c hc
  refine ⟨⟨by simp [PyData.showable], by simp [PyData.depth], by omega⟩, by omega, by simp [PyData.depth], h2, fun z e => ?_⟩
  cases e
  refine ⟨by show 1 ≤ 2500; decide, fun d hd => ?_⟩
  obtain rfl : d = c := by simpa [L1] using hd
  have := (abc_mem.mp hc).2
  omega
theorem th_flat {H : Hp} {z : Str} (n : NiceD (.str z)) : Held H (.str z) (.str z) := ⟨.inl (.inl ⟨_, rfl⟩), .str _, n⟩
/-- only where it stands itself matters -/
theorem held_move {H H2 : Hp} {x : V} {d : PyData} (h : Held H x d) (k : ∀ b o, x = .ref b → H b = some o → H2 b = some o) : Held H2 x d := by
  refine ⟨?_, ?_, h.ni⟩
  · rcases h.tl with f | ⟨b, xs, e, hb, l, g⟩ | ⟨b, kvs, e, hb, l, n, g⟩
    · exact .inl f
    · exact .inr (.inl ⟨b, xs, e, hb.imp (k b _ e) (k b _ e), l, g⟩)
    · exact .inr (.inr ⟨b, kvs, e, k b _ e hb, l, n, g⟩)
  · have fl := h.tl
    cases h.pw with
    | non => exact .non
    | bl b => exact .bl b
    | int i => exact .int i
    | str z => exact .str z
    | tup hb r =>
      rcases fl with f | ⟨b, xs, e, hb2, l, g⟩ | ⟨b, kvs, e, hb2, l, n, g⟩
      · rcases f with ⟨z, e⟩ | ⟨i, e⟩ | e | ⟨b, e⟩ <;> cases e
      · cases e
        rcases hb2 with z | z
        · rw [hb] at z
          cases z
          exact .tup (k _ _ rfl hb) (flats_pyw g r)
        · rw [hb] at z
          cases z
      · cases e
        rw [hb] at hb2
        cases hb2
    | lst hb r =>
      rcases fl with f | ⟨b, xs, e, hb2, l, g⟩ | ⟨b, kvs, e, hb2, l, n, g⟩
      · rcases f with ⟨z, e⟩ | ⟨i, e⟩ | e | ⟨b, e⟩ <;> cases e
      · cases e
        rcases hb2 with z | z
        · rw [hb] at z
          cases z
        · rw [hb] at z
          cases z
          exact .lst (k _ _ rfl hb) (flats_pyw g r)
      · cases e
        rw [hb] at hb2
        cases hb2
    | dic hb r =>
      rcases fl with f | ⟨b, xs, e, hb2, l, g⟩ | ⟨b, kvs, e, hb2, l, n, g⟩
      · rcases f with ⟨z, e⟩ | ⟨i, e⟩ | e | ⟨b, e⟩ <;> cases e
      · cases e
        rcases hb2 with z | z <;> rw [hb] at z <;> cases z
      · cases e
        rw [hb] at hb2
        cases hb2
        exact .dic (k _ _ rfl hb) (flats_pyw g r)
/-- raised while the dict at a is gone over -/
theorem out_unl {Cz : Nat → Addr} {H : Hp} {a : Addr} {od : Obj} {u : HO} {i : Nat} {x : V} {d : PyData} {E : XK} {σ : L2.St} (o : OutB Cz H (.one i d) E) (ha : H a = some u) (nf : ∀ o' u', u ≠ .frz o' u') (t : Th1 (upd H a (.frz od u)) x d) :
    Rz1 (Cz i) (fldOf i) x (upd H a (.frz od u)) (fun cls dd H2 => wUnl H (fun cls dd _ H2 => E cls dd H2) cls dd σ H2) := by
  refine ⟨d, t, fun dx y H2 s p e => ?_⟩
  have fa : H2 a = some (.frz od u) := s _ _ upd_same
  refine ⟨a, od, u, fa, fun o' u' z => ?_, o dx y _ (fun b v h => ?_) (p.keep fun b v h k => ?_) ?_⟩
  · rw [ha] at z
    exact nf o' u' (Option.some.inj z)
  · by_cases hb : b = a
    · rw [hb, upd_same]
      rw [hb, ha] at h
      exact h
    · rw [upd_ne hb]
      exact s _ _ (by rw [upd_ne hb]; exact h)
  · have hb : b ≠ a := fun z => by
      rw [z, fa] at h
      cases h
      rcases k with ⟨xs, k⟩ | ⟨xs, k⟩ | ⟨xs, k⟩ <;> cases k
    rw [upd_ne hb]
    exact h
  · have hb : dx ≠ a := fun z => by
      rw [z, fa] at e
      cases e
    rw [upd_ne hb]
    exact e
def badS (dt : Dt) (n : Nat) : Option PyData := match atD dt (kN n) with
  | some d => if wordD 1 1 d = true then none else some d
  | none => none
/-- what is refused of a table of signs -/
def toldS (dt : Dt) : Option Bad := match dt.find? fun q => !numD (keyD q.1) with
  | some q => some (.one 2 (keyD q.1))
  | none => match (List.range 256).find? fun n => (badS dt n).isSome with
    | some n => (badS dt n).map (.one 1)
    | none => none
theorem nice_signs : NiceD (.str "signs") := ⟨⟨by simp [PyData.showable], by simp [PyData.depth], by decide +kernel⟩, by decide +kernel, by simp [PyData.depth], by decide +kernel, fun z e => by
  cases e
  exact ⟨by decide +kernel, by decide +kernel⟩⟩
theorem nice_numbers : NiceD (.str "numbers") := ⟨⟨by simp [PyData.showable], by simp [PyData.depth], by decide +kernel⟩, by decide +kernel, by simp [PyData.depth], by decide +kernel, fun z e => by
  cases e
  exact ⟨by decide +kernel, by decide +kernel⟩⟩
theorem rgv {x : V} {i : Nat} (h : x = (fun i : Nat => V.int (0 + ((i : Nat) : Int))) i) : x = .int ((i : Nat) : Int) := by
  rw [h]
  show V.int (0 + ((i : Nat) : Int)) = _
  rw [Int.zero_add]
theorem range_at {i : Nat} (h : i < 256) : (List.range 256)[i]? = some i := List.getElem?_range h
def spSgnR : Sp := fun vs H Q _ => ∃ (d : Addr) (t : Tab), vs = [.ref d] ∧ SigA H d t ∧ Q .non H
def spSgnN (K : PySem.W.Frag) (Cz : Nat → Addr) : Sp := fun vs H Q E => ∃ x t, vs = [x] ∧ TyX K H x t ∧ PySem.W.kitOne K t (.type "dict") = some false ∧ OutB Cz H (.one 0 (.str "signs")) E
def spSgnM (w : World) (Cz : Nat → Addr) : Sp := fun vs H Q E => ∃ a ks d, vs = [.ref a] ∧ TabM w H a ks ∧ ks.find? (fun d => !numD d) = some d ∧ OutB Cz H (.one 2 d) E
def spSgnK (Cz : Nat → Addr) : Sp := fun vs H Q E => ∃ a dt b, vs = [.ref a] ∧ TabA H a dt ∧ toldS dt = some b ∧ OutB Cz H b E
theorem encS_len {t : Tab} : (encS t).length = t.length := encG_len t
theorem dgS {H : Hp} {d : Addr} {t : Tab} (h : Rd H d (.dK (encS t))) (n : Nat) : DGet H d (.int ((n : Nat) : Int)) (valV (encS t) (kN n)) := .inl ⟨_, kN n, h, rfl, rfl⟩
theorem sSome {t : Tab} {c : Nat} {s : List Nat} (h : lookT t c = some s) : valV (encS t) (kN c) = some (.str (Sx s)) := valG_some kN_inj h
theorem sIs {t : Tab} {c : Nat} : (valV (encS t) (kN c)).isSome = (lookT t c).isSome := valG_is kN_inj
section
variable {P : Program} {w : World} {K : PySem.W.Frag} {mg : Str → Option Value} {base : Heap} {CW CR CE : Addr} {Cz : Nat → Addr}
theorem ok_sgnR {f : Addr} {fd : FuncData} (F : Fun K "check_signs" "check_signs" s_check_signs f fd) (T : Tc K mg CW CR CE Cz) (D_is_letter : Df P w K mg base 1 "is_letter" (spWordD 1 1)) (D_is_number : Df P w K mg base 3 "is_number" spNumD) : FnOk P w K mg base CX0 5 f fd ["signs"] spSgnR := by
  refine F.ok sc_check_signs (fun vs H Q E h => ?_) (fun cdv A outer s H vs Q E hr h => ?_)
  · obtain ⟨d, t, rfl, _⟩ := h
    rfl
  · obtain ⟨d, t, rfl, ⟨hd, g⟩, q⟩ := h
    refine ⟨_, (pss_cons (ps_if (pt_not (pt_val (pe_callB call_isi (by rfl) T.isinstance (by decide +kernel) (pa_cons (pv 0) (pa_cons (pe_bltn (v := .ty "dict") (by rfl) T.dict (by decide +kernel) rfl) pa_nil)))))
        (pss_one ps_never)
        pss_nil)
      (pss_cons (ps_lock (ps_for PassesOwn.never rfl (pi_keys (pv 0)) (pg_name (i := 1) sc_check_signs.nd rfl (.inl rfl))
        (pss_one (ps_if (pt_not (pt_val (pe_c D_is_number hr (by decide) (by rfl) (pa_cons (pv 1) pa_nil))))
          (pss_one ps_never)
          pss_nil))))
      (pss_one (ps_for PassesOwn.never rfl (pi_range1 (by rfl) T.range (pa_cons (pe_gv T.gNUMBERS (by rfl)) pa_nil)) (pg_name (i := 2) sc_check_signs.nd rfl (.inl rfl))
        (pss_one (ps_if (PW.pt (pw_and (pt_cmp (pc_din (hu_of hr) (pv 2) (pv 0))) (pw_and1 (pt_not (pt_val (pe_c D_is_letter hr (by decide) (by rfl) (pa_cons (pe_dget (hu_of hr) (pv 0) (pv 2) (fun _ _ => rfl)) pa_nil)))))))
          (pss_one ps_never)
          pss_nil)))))), ?_⟩
    refine ⟨_, rfl, _, .ty "dict", .type "dict", .type "dict", true, rfl, .ty _, .base (.dK hd), kit_ty (by decide +kernel), true, rfl, iteF ?_⟩
    refine ⟨d, _, hd, True.intro, fun od => ⟨_, rfl, d, od, rfl, .inl ⟨_, upd_same, for_it walk_keys (fun i σ H2 => ∃ v1, σ = [some (.ref d), v1, none] ∧ H2 = upd H d (.frz od (.dK (encS t)))) ⟨none, rfl, rfl⟩ ?_ ?_ ?_⟩⟩⟩
    · rintro i σ H2 hi ⟨v1, rfl, rfl⟩
      exact upd_same
    · rintro i x σ H2 H2' hi ⟨v1, rfl, rfl⟩ ⟨rfl, k, v, hk, rfl⟩
      obtain ⟨hit, rfl, rfl⟩ := encG_at hk
      have hc := g.lt _ (List.getElem_mem hit)
      refine ⟨_, rfl, _, _, rfl, .int _, ?_⟩
      rw [num_nat hc]
      exact ⟨true, rfl, iteF ⟨_, rfl, rfl⟩⟩
    · rintro σ H2 ⟨v1, rfl, rfl⟩
      refine ⟨upd_same, ?_⟩
      rw [Same.upd_back hd]
      refine ⟨_, rfl, by decide, by decide, for_it (walk_range (lo := 0) (n := 256)) (fun i σ H2 => ∃ v2, σ = [some (.ref d), v1, v2] ∧ H = H2) ⟨none, rfl, rfl⟩ ?_ ?_ ?_⟩
      · rintro i σ H2 hi _
        trivial
      · rintro i x σ H2 H2' hi ⟨v2, rfl, rfl⟩ ⟨rfl, ex⟩
        obtain rfl := rgv ex
        refine ⟨_, rfl, _, rfl, d, _, rfl, dgS (.inl hd) i, _, rfl, ?_⟩
        rw [sIs]
        cases e : lookT t i with
        | none => exact iteF ⟨_, rfl, rfl⟩
        | some z =>
          obtain ⟨_, c, rfl, hc⟩ := g.look e
          refine iteT ⟨_, rfl, _, rfl, d, V.str (Sx [c]), rfl, .inl ⟨_, kN i, .inl hd, rfl, by rw [sSome e]⟩, _, _, rfl, .str _, fun z e => ?_, ?_⟩
          · cases e
            show 1 ≤ 2500
            decide
          rw [show wordD 1 1 (.str (Sx [c])) = true from word_let.mpr ⟨c, abc_mem.mpr hc, rfl⟩]
          exact ⟨true, rfl, ⟨_, rfl, rfl⟩⟩
      · rintro σ H2 ⟨v2, rfl, rfl⟩
        exact q
theorem ok_sgnN {f : Addr} {fd : FuncData} (F : Fun K "check_signs" "check_signs" s_check_signs f fd) (T : Tc K mg CW CR CE Cz) (D_is_letter : Df P w K mg base 1 "is_letter" (spWordD 1 1)) (D_is_number : Df P w K mg base 3 "is_number" spNumD)
    (E_BadTable : Er1 P w K mg base "BadTable" "part" (Cz 0)) (E_BadLetter : Er1 P w K mg base "BadLetter" "value" (Cz 1)) (E_BadCode : Er1 P w K mg base "BadCode" "value" (Cz 2)) : FnG P w K mg base (L2.CX P w) 5 f fd ["signs"] (spSgnN K Cz) := by
  refine F.okXG sc_check_signs (fun vs H Q E h => ?_) (fun cdv A outer s H vs Q E quiet hr h => ?_)
  · obtain ⟨x, t, rfl, _⟩ := h
    rfl
  · obtain ⟨x, t, rfl, ty, k, o⟩ := h
    refine ⟨_, (pss_cons (ps_if (pt_not (pt_val (pe_callB call_isi (by rfl) T.isinstance (by decide +kernel) (pa_cons (pv 0) (pa_cons (pe_bltn (v := .ty "dict") (by rfl) T.dict (by decide +kernel) rfl) pa_nil)))))
        (pss_one (ps_raise rfl (takes_of rfl rfl rfl rfl) (pmk_one E_BadTable quiet hr (by decide) (by rfl) (pa_cons pe_str pa_nil))))
        pss_nil)
      (pss_cons (ps_lock (ps_for (passes_of rfl) rfl (pi_keys (pv 0)) (pg_name (i := 1) sc_check_signs.nd rfl (.inl rfl))
        (pss_one (ps_if (pt_not (pt_val (pe_c D_is_number hr (by decide) (by rfl) (pa_cons (pv 1) pa_nil))))
          (pss_one (ps_raise rfl (takes_unl (H0 := H) rfl (takes_of rfl rfl rfl rfl)) (pmk_one E_BadCode quiet hr (by decide) (by rfl) (pa_cons (pv 1) pa_nil))))
          pss_nil))))
      (pss_one (ps_for (passes_of rfl) rfl (pi_range1 (by rfl) T.range (pa_cons (pe_gv T.gNUMBERS (by rfl)) pa_nil)) (pg_name (i := 2) sc_check_signs.nd rfl (.inl rfl))
        (pss_one (ps_if (PW.pt (pw_and (pt_cmp (pc_din (hu_of hr) (pv 2) (pv 0))) (pw_and1 (pt_not (pt_val (pe_c D_is_letter hr (by decide) (by rfl) (pa_cons (pe_dget (hu_of hr) (pv 0) (pv 2) (fun _ _ => rfl)) pa_nil)))))))
          (pss_one (ps_raise rfl (takes_of rfl rfl rfl rfl) (pmk_one E_BadLetter quiet hr (by decide) (by rfl) (pa_cons (pe_dget (hu_of hr) (pv 0) (pv 2) (fun _ _ => rfl)) pa_nil))))
          pss_nil)))))), ?_⟩
    refine ⟨_, rfl, _, .ty "dict", t, .type "dict", false, rfl, .ty _, ty, k, false, rfl, iteT ?_⟩
    exact ⟨by show 1 ≤ 1000; decide, fun a na => rz1 E_BadTable.oc E_BadTable.no (o.rz (Same.refl H) (th_flat nice_signs).th) a na⟩
theorem ok_sgnM {f : Addr} {fd : FuncData} (F : Fun K "check_signs" "check_signs" s_check_signs f fd) (T : Tc K mg CW CR CE Cz) (D_is_letter : Df P w K mg base 1 "is_letter" (spWordD 1 1)) (D_is_number : Df P w K mg base 3 "is_number" spNumD)
    (E_BadTable : Er1 P w K mg base "BadTable" "part" (Cz 0)) (E_BadLetter : Er1 P w K mg base "BadLetter" "value" (Cz 1)) (E_BadCode : Er1 P w K mg base "BadCode" "value" (Cz 2)) : FnG P w K mg base (L2.CX P w) 5 f fd ["signs"] (spSgnM w Cz) := by
  refine F.okXG sc_check_signs (fun vs H Q E h => ?_) (fun cdv A outer s H vs Q E quiet hr h => ?_)
  · obtain ⟨a, ks, d, rfl, _⟩ := h
    rfl
  · obtain ⟨a, ks, d, rfl, ⟨⟨kvs, m, pr⟩, few, lay⟩, fd, o⟩ := h
    refine ⟨_, (pss_cons (ps_if (pt_not (pt_val (pe_callB call_isiM (by rfl) T.isinstance (by decide +kernel) (pa_cons (pv 0) (pa_cons (pe_bltn (v := .ty "dict") (by rfl) T.dict (by decide +kernel) rfl) pa_nil)))))
        (pss_one (ps_raise rfl (takes_of rfl rfl rfl rfl) (pmk_one E_BadTable quiet hr (by decide) (by rfl) (pa_cons pe_str pa_nil))))
        pss_nil)
      (pss_cons (ps_lock (ps_for (passes_of rfl) rfl (pi_keysX (pv 0)) (pg_name (i := 1) sc_check_signs.nd rfl (.inl rfl))
        (pss_one (ps_if (pt_not (pt_val (pe_c D_is_number hr (by decide) (by rfl) (pa_cons (pv 1) pa_nil))))
          (pss_one (ps_raise rfl (takes_unl (H0 := H) rfl (takes_of rfl rfl rfl rfl)) (pmk_one E_BadCode quiet hr (by decide) (by rfl) (pa_cons (pv 1) pa_nil))))
          pss_nil))))
      (pss_one (ps_for (passes_of rfl) rfl (pi_range1 (by rfl) T.range (pa_cons (pe_gv T.gNUMBERS (by rfl)) pa_nil)) (pg_name (i := 2) sc_check_signs.nd rfl (.inl rfl))
        (pss_one (ps_if (PW.pt (pw_and (pt_cmp (pc_din (hu_of hr) (pv 2) (pv 0))) (pw_and1 (pt_not (pt_val (pe_c D_is_letter hr (by decide) (by rfl) (pa_cons (pe_dget (hu_of hr) (pv 0) (pv 2) (fun _ _ => rfl)) pa_nil)))))))
          (pss_one (ps_raise rfl (takes_of rfl rfl rfl rfl) (pmk_one E_BadLetter quiet hr (by decide) (by rfl) (pa_cons (pe_dget (hu_of hr) (pv 0) (pv 2) (fun _ _ => rfl)) pa_nil))))
          pss_nil)))))), ?_⟩
    have hn : ∀ (o' : Obj) (u' : HO), MixO w a kvs ≠ .frz o' u' := fun _ _ z => nomatch z
    refine ⟨_, rfl, a, kvs, .ty "dict", .type "dict", true, rfl, m, .ty _, kit_ty (by decide +kernel), true, rfl, iteF ?_⟩
    refine ⟨a, _, m.at_, True.intro, fun od => ⟨_, rfl, a, od, kvs, rfl, upd_same, for_it (walk_keysM (w := w) (d := a) (o := od) (kvs := kvs)) (fun i σ H2 => (∃ v2, σ = [some (.ref a), v2, none]) ∧ H2 = upd H a (.frz od (MixO w a kvs)) ∧ ∀ d ∈ ks.take i, (!numD d) = false) ⟨⟨none, rfl⟩, rfl, fun d h => by simp at h⟩ ?_ ?_ ?_⟩⟩
    · rintro i σ H2 hi ⟨_, rfl, _⟩
      exact upd_same
    · rintro i x σ H2 H3 hi ⟨⟨v2, rfl⟩, rfl, kn⟩ ⟨rfl, k, v, hk⟩
      obtain ⟨d2, hd2, hh⟩ := pair_get pr hk
      have ne : ∀ b, x = .ref b → b ≠ a := fun b e z => by
        have kv := m.keys _ (List.mem_of_getElem? hk)
        dsimp only at kv
        rw [e] at kv
        cases kv with
        | flat g => cases g
        | tup ht _ =>
          rw [z, m.at_] at ht
          cases ht
      have hh2 : Held (upd H a (.frz od (MixO w a kvs))) x d2 := held_move hh fun b o e h => by rw [upd_ne (ne b e)]; exact h
      refine ⟨_, rfl, x, d2, rfl, hh2.pw, ?_⟩
      cases e : numD d2 with
      | true =>
        refine ⟨true, rfl, iteF ⟨⟨_, rfl⟩, rfl, fun d3 h3 => ?_⟩⟩
        rw [List.take_add_one, hd2] at h3
        rcases List.mem_append.mp h3 with h | h
        · exact kn d3 h
        · rw [List.mem_singleton.mp h, e]
          rfl
      | false =>
        have f2 := find_take hd2 kn (by rw [e]; rfl)
        rw [f2] at fd
        cases fd
        exact ⟨false, rfl, iteT ⟨_, rfl, by show 1 ≤ 1000; decide, fun b nb => rz1 E_BadCode.oc E_BadCode.no (out_unl o m.at_ hn hh2.th) b nb⟩⟩
    · rintro σ H2 ⟨_, _, kn⟩
      exfalso
      have e := pair_len pr
      rw [List.take_of_length_le (by omega)] at kn
      rw [find_no kn] at fd
      cases fd
theorem ok_sgnK {f : Addr} {fd : FuncData} (F : Fun K "check_signs" "check_signs" s_check_signs f fd) (T : Tc K mg CW CR CE Cz) (D_is_letter : Df P w K mg base 1 "is_letter" (spWordD 1 1)) (D_is_number : Df P w K mg base 3 "is_number" spNumD)
    (E_BadTable : Er1 P w K mg base "BadTable" "part" (Cz 0)) (E_BadLetter : Er1 P w K mg base "BadLetter" "value" (Cz 1)) (E_BadCode : Er1 P w K mg base "BadCode" "value" (Cz 2)) : FnG P w K mg base (L2.CX P w) 5 f fd ["signs"] (spSgnK Cz) := by
  refine F.okXG sc_check_signs (fun vs H Q E h => ?_) (fun cdv A outer s H vs Q E quiet hr h => ?_)
  · obtain ⟨a, dt, b, rfl, _⟩ := h
    rfl
  · obtain ⟨a, dt, b, rfl, ⟨⟨kvs, hd, pr⟩, nd, few, tx⟩, tb, o⟩ := h
    refine ⟨_, (pss_cons (ps_if (pt_not (pt_val (pe_callB call_isi (by rfl) T.isinstance (by decide +kernel) (pa_cons (pv 0) (pa_cons (pe_bltn (v := .ty "dict") (by rfl) T.dict (by decide +kernel) rfl) pa_nil)))))
        (pss_one (ps_raise rfl (takes_of rfl rfl rfl rfl) (pmk_one E_BadTable quiet hr (by decide) (by rfl) (pa_cons pe_str pa_nil))))
        pss_nil)
      (pss_cons (ps_lock (ps_for (passes_of rfl) rfl (pi_keys (pv 0)) (pg_name (i := 1) sc_check_signs.nd rfl (.inl rfl))
        (pss_one (ps_if (pt_not (pt_val (pe_c D_is_number hr (by decide) (by rfl) (pa_cons (pv 1) pa_nil))))
          (pss_one (ps_raise rfl (takes_unl (H0 := H) rfl (takes_of rfl rfl rfl rfl)) (pmk_one E_BadCode quiet hr (by decide) (by rfl) (pa_cons (pv 1) pa_nil))))
          pss_nil))))
      (pss_one (ps_for (passes_of rfl) rfl (pi_range1 (by rfl) T.range (pa_cons (pe_gv T.gNUMBERS (by rfl)) pa_nil)) (pg_name (i := 2) sc_check_signs.nd rfl (.inl rfl))
        (pss_one (ps_if (PW.pt (pw_and (pt_cmp (pc_din (hu_of hr) (pv 2) (pv 0))) (pw_and1 (pt_not (pt_val (pe_c D_is_letter hr (by decide) (by rfl) (pa_cons (pe_dget (hu_of hr) (pv 0) (pv 2) (fun _ _ => rfl)) pa_nil)))))))
          (pss_one (ps_raise rfl (takes_of rfl rfl rfl rfl) (pmk_one E_BadLetter quiet hr (by decide) (by rfl) (pa_cons (pe_dget (hu_of hr) (pv 0) (pv 2) (fun _ _ => rfl)) pa_nil))))
          pss_nil)))))), ?_⟩
    have hn : ∀ (o' : Obj) (u' : HO), HO.dK kvs ≠ .frz o' u' := fun _ _ z => nomatch z
    refine ⟨_, rfl, _, .ty "dict", .type "dict", .type "dict", true, rfl, .ty _, .base (.dK hd), kit_ty (by decide +kernel), true, rfl, iteF ?_⟩
    refine ⟨a, _, hd, True.intro, fun od => ⟨_, rfl, a, od, rfl, .inl ⟨_, upd_same, for_it walk_keys (fun i σ H2 => (∃ v2, σ = [some (.ref a), v2, none]) ∧ H2 = upd H a (.frz od (.dK kvs)) ∧ ∀ q ∈ dt.take i, (!numD (keyD q.1)) = false) ⟨⟨none, rfl⟩, rfl, fun d h => by simp at h⟩ ?_ ?_ ?_⟩⟩⟩
    · rintro i σ H2 hi ⟨_, rfl, _⟩
      exact upd_same
    · rintro i x σ H2 H3 hi ⟨⟨v2, rfl⟩, rfl, kn⟩ ⟨rfl, k, v, hk, rfl⟩
      obtain ⟨⟨k2, d2⟩, hd2, ek, hh⟩ := pair_get pr hk
      dsimp only at ek
      subst ek
      have nk := tx _ (List.mem_of_getElem? hd2)
      dsimp only at nk
      have hh2 : Held (upd H a (.frz od (.dK kvs))) (kV k) (keyD k) := key_held nk
      refine ⟨_, rfl, _, keyD k, rfl, hh2.pw, ?_⟩
      cases e : numD (keyD k) with
      | true =>
        refine ⟨true, rfl, iteF ⟨⟨_, rfl⟩, rfl, fun d3 h3 => ?_⟩⟩
        rw [List.take_add_one, hd2] at h3
        rcases List.mem_append.mp h3 with h | h
        · exact kn d3 h
        · rw [List.mem_singleton.mp h]
          show (!numD (keyD k)) = false
          rw [e]
          rfl
      | false =>
        have f2 := find_take hd2 kn (by show (!numD (keyD k)) = true; rw [e]; rfl)
        unfold toldS at tb
        rw [f2] at tb
        cases tb
        exact ⟨false, rfl, iteT ⟨_, rfl, by show 1 ≤ 1000; decide, fun b nb => rz1 E_BadCode.oc E_BadCode.no (out_unl o hd hn hh2.th) b nb⟩⟩
    · rintro σ H2 ⟨⟨v2, rfl⟩, rfl, kn⟩
      refine ⟨upd_same, ?_⟩
      rw [Same.upd_back hd]
      have e := pair_len pr
      rw [List.take_of_length_le (by omega)] at kn
      unfold toldS at tb
      rw [find_no kn] at tb
      dsimp only at tb
      refine ⟨_, rfl, by decide, by decide, for_it (walk_range (lo := 0) (n := 256)) (fun i σ H2 => (∃ v3, σ = [some (.ref a), v2, v3]) ∧ H = H2 ∧ ∀ c ∈ (List.range 256).take i, (badS dt c).isSome = false) ⟨⟨none, rfl⟩, rfl, fun d h => by simp at h⟩ ?_ ?_ ?_⟩
      · rintro i σ H2 hi _
        trivial
      · rintro i x σ H2 H2' hi ⟨⟨v3, rfl⟩, rfl, kc⟩ ⟨eH, ex⟩
        obtain rfl := rgv ex
        rw [eH]
        have hc' := range_at hi
        have step : badS dt i = none → ∀ c2 ∈ (List.range 256).take (i + 1), (badS dt c2).isSome = false := fun e2 c2 h2 => by
          rw [List.take_add_one, hc'] at h2
          rcases List.mem_append.mp h2 with h | h
          · exact kc c2 h
          · rw [List.mem_singleton.mp h, e2]
            rfl
        refine ⟨_, rfl, _, rfl, a, _, rfl, DGet.k (k := kN i) hd, _, rfl, ?_⟩
        rcases at_pair pr (kN i) with ⟨e1, e2⟩ | ⟨v, d2, e1, e2, hv⟩
        · rw [e1]
          refine iteF ⟨⟨_, rfl⟩, rfl, step ?_⟩
          unfold badS
          rw [e2]
        · rw [e1]
          refine iteT ?_
          refine ⟨_, rfl, _, rfl, a, v, rfl, .inl ⟨_, kN i, .inl hd, rfl, e1.symm⟩, v, d2, rfl, hv.pw, fun z e => (hv.ni.tx z e).1, ?_⟩
          cases e3 : wordD 1 1 d2 with
          | true =>
            refine ⟨true, rfl, ⟨⟨_, rfl⟩, rfl, step ?_⟩⟩
            unfold badS
            rw [e2]
            show (if wordD 1 1 d2 = true then none else some d2) = none
            rw [e3]
            rfl
          | false =>
            have b1 : badS dt i = some d2 := by
              unfold badS
              rw [e2]
              show (if wordD 1 1 d2 = true then none else some d2) = some d2
              rw [e3]
              rfl
            rw [find_take hc' kc (by rw [b1]; rfl)] at tb
            dsimp only at tb
            rw [b1] at tb
            cases tb
            exact ⟨false, rfl, ⟨_, rfl, _, rfl, a, v, rfl, .inl ⟨_, kN i, .inl hd, rfl, e1.symm⟩, by show 1 ≤ 1000; decide, fun b nb => rz1 E_BadLetter.oc E_BadLetter.no (o.rz (Same.refl H) hv.th) b nb⟩⟩
      · rintro σ H2 ⟨⟨v3, rfl⟩, rfl, kc⟩
        rw [List.take_of_length_le (by rw [List.length_range]; exact Nat.le_refl _)] at kc
        rw [find_no kc] at tb
        cases tb
end
end V8

set_option Elab.async false
set_option linter.all false
set_option maxRecDepth 100000
set_option maxHeartbeats 4000000
/-! Where no repr is under way: own classes made, methods, [ ], staticmethods, by defs that may raise. -/
namespace L2
open PySem PySem.Spec PyProof.Rows
/-- two promises, of which the one raises nothing -/
theorem FnG.either0 {P : Program} {w : World} {K : PySem.W.Frag} {mg : Str → Option Value} {base : Heap} {C : CXT} {k : Nat} {f : Addr} {fd : FuncData} {ps : List Str} {sp1 sp2 : Sp} (F1 : FnG P w K mg base CX0 k f fd ps sp1) (F2 : FnG P w K mg base C k f fd ps sp2) :
    FnG P w K mg base C k f fd ps (fun vs H Q E => sp1 vs H Q E0 ∨ sp2 vs H Q E) := by
  refine ⟨fun vs H Q E h => h.elim (F1.count _ _ _ _) (F2.count _ _ _ _), fun A outer s H args us vs Q E g r e b v h => ?_⟩
  rcases h with h | h
  · refine codeAny_mono (F1.runs A outer s H args us vs Q E0 g r e b v h) fun x s2 q => ?_
    match x, q with
    | .error er, q => exact (show False from q).elim
    | .ok (.ret u), q => exact q
    | .ok .next, q => exact q
    | .ok .brk, q => exact q
    | .ok .cont, q => exact q
  · exact F2.runs A outer s H args us vs Q E g r e b v h
section
variable {X : Cx} {C : CXT} {k j n : Nat} {f Cl p0 : Addr} {fd : FuncData} {ps ks : List Str} {sp : Sp} {E : XK} {m : Str} {o e : Expr} {es : List Expr} {kws : List Keyword} {pos apos : Pos} {ta tb : TE} {t tk : TA} {mc : Value}
/-- the def runs, wherever it is quiet -/
theorem runQ {A : Around} {pins : List (Addr × Obj)} {σ : St} {H : Hp} {s : Shared} {Q : VK} {us : List Value} {xs : List V} (F : FnG X.prog X.w X.K X.mg X.base C k f fd ps sp) (g : Quiet A) (sb : Sub X k A) (b : Binds X.K fd ps []) (out : Passes C X E)
    (I : Inv X pins σ H s) (v : Vals xs us) (h : sp xs H Q E) : wpAny (model X.prog X.w) A (call (.ref f) us) (EP X pins σ Q) X.xe s := by
  have en : Env0 X.prog X.w X.K X.mg X.base A X.stack s H := by
    have z := I.env0
    exact ⟨by rw [sb.fr]; exact z.frames, z.mod, z.bs, z.bsz, z.funs, z.frf, z.hok, z.bare⟩
  have many : us.length = ps.length := by
    rw [← v.length]
    exact F.count _ _ _ _ h
  have bd := b s us I.kIn (by rw [List.append_nil]; exact many)
  rw [List.append_nil] at bd
  refine wpAny_call (codeAny_mono (F.runs A X.stack s H ⟨us, []⟩ us xs Q E g sb.room en bd v h) fun x s2 q => ?_)
  match x, q with
  | .error er, q => exact out pins σ H s er s2 I q
  | .ok (.ret u), q => exact I.after q
  | .ok .next, q => exact q.elim
  | .ok .brk, q => exact q.elim
  | .ok .cont, q => exact q.elim
/-- a method of the text's own -/
structure MfG (P : Program) (w : World) (K : PySem.W.Frag) (mg : Str → Option Value) (base : Heap) (CX : CXT) (k : Nat) (C : Addr) (m : Str) (sp : Sp) : Prop where
  ex : ∃ (f : Addr) (fd : FuncData) (ps : List Str), FnG P w K mg base CX k f fd ps sp ∧ Meth K C m f ∧ Own K C m f ∧ PySem.W.fnIn K f = true ∧ Binds K fd ps []
theorem pe_mtG {pl : Sem Bool} (he : PE X o ta) (c : Cls X.K Cl) (M : MfG X.prog X.w X.K X.mg X.base C k Cl m sp) (g : Quiet X.A) (out : Passes C X E) (hr : Room j X.A) (hk : k ≤ j) (ha : PA X (e :: es) t)
    (hst : starEach (e :: es) X.env = (false, eval e X.env) :: starEach es X.env := by rfl) (hpl : (backTo pos (starEach es X.env)).any (·.1) = false := by rfl)
    (ht : eval (.Call (.Attribute o m apos) (e :: es) [] pos) X.env = (do
      let x ← eval o X.env
      standAt apos.atName
      let (u, first) ← holding [x] (getMethod x m pl)
      callWith pos u first (backTo pos (starEach (e :: es) X.env)) (backToKw pos (keywordEach [] X.env))) := by rfl) :
    PE X (.Call (.Attribute o m apos) (e :: es) [] pos) (tMeth Cl m sp [] E ta t) := by
  obtain ⟨f, fd, ps, F, hm, own, fi, b⟩ := M.ex
  refine ⟨fun pins s σ H Q I h => ?_⟩
  refine PySem.W.methodCall_KW (pl := pl) (thn (he.run pins s σ H _ I h) fun u s1 z => ?_) ht
  obtain ⟨x, H1, I1, rx, a, dx, fs, ex, ea, l, q⟩ := z
  subst ex
  obtain rfl : u = Value.ref a := rx
  refine getmeth_ok I1 ea c hm l ?_
  refine PySem.W.callWith_K (first := [.ref a]) (h₀ := X.base) I.ok.mod.kin hm.kp (thn (ha.run pos pins s1 σ H1 _ I1 q) fun us s2 z => ?_) hst hpl
  obtain ⟨vs, H2, I2, r, q2⟩ := z
  rw [List.append_nil] at q2
  exact ⟨I2.kIn, runQ F g (Sub.here (hr.mono hk)) b out I2 (show Vals (V.ref a :: vs) (Value.ref a :: us) from .cons rfl r) q2⟩
theorem pe_ixG {a b : Expr} (M : MfG X.prog X.w X.K X.mg X.base C k Cl "__getitem__" sp) (g : Quiet X.A) (out : Passes C X E) (hr : Room j X.A) (hk : k + 1 ≤ j) (hA : PE X a ta) (hB : PE X b tb)
    (hsl : ∀ v u, subscripted b true v u = runValue (.builtin "lifetime.subscript" ⟨[v, u], []⟩) := by intro _ _; rfl) :
    PE X (.Subscript a b pos) (tOp (fun x y H Q => ∃ a dx fs, x = .ref a ∧ H a = some (.ins Cl dx fs) ∧ sp [.ref a, y] H Q E) ta tb) := by
  obtain ⟨f, fd, ps, F, hm, own, fi, b⟩ := M.ex
  refine ⟨fun pins s σ H Q I h => ?_⟩
  refine Subscript_ (binT hA hB I h fun v u s2 x y H2 I2 rx ry q => ?_)
  obtain ⟨a, dx, fs, rfl, ha, hs⟩ := q
  obtain rfl : v = Value.ref a := rx
  obtain ⟨od, J⟩ := inst_at I2 ha
  obtain ⟨m, hF⟩ := I2.fr
  exact PySem.W.sub_K hF I2.ok.mod.kin J own.find fi own.fn (runQ F (show Quiet X.A.in1 from g) (Sub.here (hr.mono hk)).in1 b out I2 (show Vals [V.ref a, y] [Value.ref a, u] from .cons rfl (.cons ry .nil)) hs) (hsl _ _)
/-- a staticmethod of the text's own -/
structure SmG (P : Program) (w : World) (K : PySem.W.Frag) (mg : Str → Option Value) (base : Heap) (CX : CXT) (k : Nat) (C : Addr) (m : Str) (sp : Sp) : Prop where
  ex : ∃ (p g : Addr) (fd : FuncData) (mc : Value) (ps : List Str), ClX.CRead K C mc ∧ SMet K C mc m p g ∧ FnG P w K mg base CX k g fd ps sp ∧ Binds K fd ps []
theorem pe_smG {pl : Sem Bool} (he : PE X o ta) (M : SmG X.prog X.w X.K X.mg X.base C k Cl m sp) (g : Quiet X.A) (out : Passes C X E) (hr : Room j X.A) (hk : k ≤ j) (ha : PA X (e :: es) t)
    (hst : starEach (e :: es) X.env = (false, eval e X.env) :: starEach es X.env := by rfl) (hpl : (backTo pos (starEach es X.env)).any (·.1) = false := by rfl)
    (ht : eval (.Call (.Attribute o m apos) (e :: es) [] pos) X.env = (do
      let x ← eval o X.env
      standAt apos.atName
      let (u, first) ← holding [x] (getMethod x m pl)
      callWith pos u first (backTo pos (starEach (e :: es) X.env)) (backToKw pos (keywordEach [] X.env))) := by rfl) :
    PE X (.Call (.Attribute o m apos) (e :: es) [] pos) (tSMeth Cl sp E ta t) := by
  obtain ⟨p, f, fd, mc, ps, rd, sm, F, b⟩ := M.ex
  refine ⟨fun pins s σ H Q I h => ?_⟩
  refine PySem.W.methodCall_KW (pl := pl) (thn (he.run pins s σ H _ I h) fun u s1 z => ?_) ht
  obtain ⟨x, H1, I1, rx, ex, q⟩ := z
  subst ex
  obtain rfl : u = Value.ref Cl := rx
  refine getmethsm_ok I1 rd sm fun s2 I2 => ?_
  refine PySem.W.callWith_K (h₀ := X.base) I.ok.mod.kin sm.kp (thn (ha.run pos pins s2 σ H1 _ I2 q) fun us s3 z => ?_) hst hpl
  obtain ⟨vs, H2, I3, r, q2⟩ := z
  exact ⟨I3.kIn, runQ F g (Sub.here (hr.mono hk)) b out I3 r q2⟩
/-- a class made, by places and by names -/
theorem makeQ {pins : List (Addr × Obj)} {σ : St} {H : Hp} {s : Shared} {Q : VK} {us ws : List Value} {xs zs : List V} {gU : List Value → List Value → List Value} {gV : List V → List V → List V} (M : Mk X.K Cl f) (F : FnG X.prog X.w X.K X.mg X.base C k f fd ps sp) (g : Quiet X.A) (hr : Room (k + 1) X.A)
    (bd : ∀ (s : Shared) (us2 : List Value), X.K.In s.heap → us2.length = us.length + 1 → BindsTo s fd ⟨us2, ks.zip ws⟩ (ps.zip (gU us2 ws))) (rel : ∀ {vs : List V} {us2 : List Value}, Vals vs us2 → Vals (gV vs zs) (gU us2 ws)) (out : Passes C X E)
    (I : Inv X pins σ H s) (r : Vals xs us) (h : ∀ x dx, H x = none → H dx = none → dx ≠ x → sp (gV (.ref x :: xs) zs) (upd (upd H dx (.own x)) x (.ins Cl dx [])) (fun v H2 => v = .non ∧ Q (.ref x) H2) E) :
    wpAny (model X.prog X.w) X.A (call (.ref Cl) us (ks.zip ws)) (EP X pins σ Q) X.xe s := by
  have wish := h (s.heap.objs.size + 1) s.heap.objs.size (I.hok.fresh (Nat.le_succ _)) (I.hok.fresh (Nat.le_refl _)) (Nat.ne_of_lt (Nat.lt_succ_self _))
  have J := Inv.made (C := Cl) I
  have rv : Vals (gV (.ref (s.heap.objs.size + 1) :: xs) zs) (gU (Value.ref (s.heap.objs.size + 1) :: us) ws) := rel (.cons rfl r)
  have ran := F.runs _ X.stack _ _ ⟨Value.ref (s.heap.objs.size + 1) :: us, ks.zip ws⟩ _ _ _ E (under_quiet g) (hr.make Cl us (ks.zip ws)) (J.env0.make Cl us (ks.zip ws)) (bd _ (Value.ref (s.heap.objs.size + 1) :: us) J.kIn (List.length_cons ..)) rv wish
  refine wpAny_call (make_map (f := f) I.kIn M.makes M.init (beq_iff_eq.mp M.fn) (codeAny_mono ran fun x s2 q => ?_))
  match x, q with
  | .error er, q => exact out pins σ _ _ er s2 J q
  | .ok .next, q => exact q.elim
  | .ok .brk, q => exact q.elim
  | .ok .cont, q => exact q.elim
  | .ok (.ret u), q =>
    obtain ⟨v, H2, J2, rw2, ev, q3⟩ := J.after q
    subst ev
    exact ⟨rw2, ⟨V.ref (s.heap.objs.size + 1), H2, J2, rfl, q3⟩⟩
end
/-- a def with defaults, where no repr is under way -/
theorem okXGd {P : Program} {w : World} {K : PySem.W.Frag} {mg : Str → Option Value} {base : Heap} {x qual : Str} {params : Arguments} {body : List Stmt} {scope : Scope} {dvs : List V} {kws : List (Str × V)} {f : Addr} {fd : FuncData} {N ps : List Str} {k : Nat} {sp : Sp} (F : FunD K x qual params body scope dvs kws f fd) (S : FnScope N ps scope) (count : ∀ (xs : List V) (H : Hp) (Q : VK) (E : XK), sp xs H Q E → xs.length = ps.length)
    (go : ∀ (cdv : Value) (A : Around) (outer : List Env) (s : Shared) (H : Hp) (xs : List V) (Q : VK) (E : XK), Quiet A → Room k (A.deeper (envOfC qual scope s.heap.objs.size f cdv)) → sp xs H Q E →
      ∃ t, PSs (cxOf (L2.CX P w) P w K mg base N qual scope f cdv A outer s H E) body t ∧ t { nx := fun _ H2 => Q .non H2, rt := Q } (start N xs) H) : FnG P w K mg base (L2.CX P w) (k + 1) f fd ps sp := by
  obtain ⟨oc, od, dV, kV, doc, pm, an, cdv, ct, osl, e, look, ci, _, _⟩ := F.ex
  subst e
  exact ⟨count, fun A outer s H args us xs Q E g r e0 b v h => LamX.run_ofS look ci S r e0 b v (count _ _ _ _ h) fun r2 => go cdv A outer s H xs Q E g r2 h⟩
end L2

set_option Elab.async false
set_option linter.all false
set_option maxRecDepth 100000
set_option maxHeartbeats 4000000
/-! A list or a tuple, whichever it is, gone over. -/
namespace L2
open PySem PySem.Spec PyProof.Rows
/-- a list, or a tuple -/
def SqB (K : PySem.W.Frag) : Bool → Hp → Addr → List V → Prop
  | true, H, a, xs => SqL K H a xs
  | false, H, a, xs => SqT K H a xs
def ItB (K : PySem.W.Frag) : Bool → Addr → It
  | true, a => Itl K a
  | false, a => Itt K a
def ItEB (K : PySem.W.Frag) : Bool → Addr → It
  | true, a => Ite K a
  | false, a => ItTe K a
theorem walk_seq {K : PySem.W.Frag} {b : Bool} {a : Addr} {xs : List V} : Walk (ItB K b a) xs.length (fun H => SqB K b H a xs) (YAt xs) := by
  cases b with
  | true => exact walk_list
  | false => exact walk_tup
theorem walk_enumQ {K : PySem.W.Frag} {b : Bool} {a : Addr} {xs : List V} : Walk (ItEB K b a) xs.length (fun H => SqB K b H a xs) (fun i H v H' => ∃ T x, v = .ref T ∧ H T = none ∧ H' = upd H T (.tup [.int (i : Nat), x]) ∧ xs[i]? = some x) := by
  cases b with
  | false => exact walk_enumT
  | true => exact ⟨fun i _ hi q => ⟨xs, xs[i], q, by simp [hi]⟩, fun _ q => ⟨xs, q, Nat.le_refl _⟩, fun _ _ _ _ _ q y => by
      obtain ⟨T, x, e1, e2, e3, e4⟩ := y
      exact ⟨T, x, e1, e2, e3, e4 xs q⟩⟩
def iSeq (K : PySem.W.Frag) (i : Nat) : TI := fun σ H R => ∃ a b, σ[i]? = some (some (.ref a)) ∧ (∃ xs, SqB K b H a xs) ∧ R (ItB K b a) H
def iEnumQ (K : PySem.W.Frag) (i : Nat) : TI := fun σ H R => ∃ a b, σ[i]? = some (some (.ref a)) ∧ (∃ xs, SqB K b H a xs) ∧ R (ItEB K b a) H
section
variable {X : Cx} {tg l : Expr} {i : Nat}
theorem pi_seq (hl : PE X l (tVar i)) : PI X tg l (iSeq X.K i) := by
  refine ⟨fun pins s σ H R I h => ?_⟩
  obtain ⟨a, b, e, ⟨xs, hs⟩, r⟩ := h
  cases b with
  | true => exact (pi_list hl).run pins s σ H R I ⟨_, e, a, rfl, ⟨xs, hs⟩, r⟩
  | false => exact (pi_tup hl).run pins s σ H R I ⟨_, e, a, rfl, ⟨xs, hs⟩, r⟩
theorem pi_enumQ {e : Expr} {p pos tpos : Pos} {elts : List Expr} {kk : Nat} (hg : Gl X "enumerate") (hm : X.mg "enumerate" = none) (ha : PA X [e] (tCons (tVar i) tNil)) (hs : starEach [e] X.env = [(false, eval e X.env)] := by rfl) :
    PI X (.Tuple elts kk tpos) (.Call (.Name "enumerate" p) [e] [] pos) (iEnumQ X.K i) := by
  refine ⟨fun pins s σ H R I h => ?_⟩
  obtain ⟨a, b, ee, ⟨xs, hs2⟩, r⟩ := h
  cases b with
  | true => exact (pi_enum hg hm ha hs).run pins s σ H R I ⟨_, ee, a, xs, rfl, hs2, r⟩
  | false => exact (pi_enumT hg hm ha hs).run pins s σ H R I ⟨_, ee, a, xs, rfl, hs2, r⟩
end
theorem SqB.same {K : PySem.W.Frag} {b : Bool} {H H2 : Hp} {a : Addr} {xs : List V} (h : SqB K b H a xs) (s : Same H H2) : SqB K b H2 a xs := by
  cases b with
  | true => exact h.elim (fun h => .inl (h.elim (fun h => .inl (s _ _ h)) fun ⟨o, h⟩ => .inr ⟨o, s _ _ h⟩)) .inr
  | false => exact h.elim (fun h => .inl (h.elim (fun h => .inl (s _ _ h)) fun ⟨o, h⟩ => .inr ⟨o, s _ _ h⟩)) .inr
end L2

set_option Elab.async false
set_option linter.all false
set_option maxRecDepth 100000
set_option maxHeartbeats 8000000
/-! Rows of integers told, or refused. -/
namespace V8
open PySem PySem.Spec PyProof.Rows L2 MX
abbrev s_check_numbers : Stmt := topS 32
abbrev n_check_numbers : List Str := ["numbers", "number"]
theorem sc_check_numbers : FnScope ["numbers", "number"] ["numbers"] (defScope s_check_numbers) := ⟨rfl, rfl, rfl, by decide +kernel, rfl, by decide +kernel, by decide +kernel⟩
/-- a row: a list or a tuple of things held -/
structure Row (H : Hp) (a : Addr) (ds : List PyData) : Prop where
  at_ : ∃ xs, (H a = some (.lst xs) ∨ H a = some (.tup xs)) ∧ Paired (Held H) xs ds
  few : ds.length ≤ 2100
theorem Row.same {H H2 : Hp} {a : Addr} {ds : List PyData} (r : Row H a ds) (s : Same H H2) : Row H2 a ds := by
  obtain ⟨⟨xs, h, p⟩, few⟩ := r
  exact ⟨⟨xs, h.imp (s _ _) (s _ _), pair_imp p fun _ _ z => z.same s⟩, few⟩
theorem row_sq {K : PySem.W.Frag} {H : Hp} {a : Addr} {xs : List V} (h : H a = some (.lst xs) ∨ H a = some (.tup xs)) : ∃ b, SqB K b H a xs := by
  rcases h with h | h
  · exact ⟨true, SqL.of h⟩
  · exact ⟨false, .inl (.inl h)⟩
theorem row_ty {K : PySem.W.Frag} {H : Hp} {a : Addr} {xs : List V} (h : H a = some (.lst xs) ∨ H a = some (.tup xs)) : ∃ t, TyX K H (.ref a) t ∧ PySem.W.kitAny K t [.type "list", .type "tuple"] = some true := by
  rcases h with h | h
  · exact ⟨_, .base (.lst h), by rfl⟩
  · exact ⟨_, .base (.tup h), by rfl⟩
/-- neither a list nor a tuple -/
def noSeq : PyData → Bool
  | .list _ => false
  | .tuple _ => false
  | _ => true
theorem noseq_ty {K : PySem.W.Frag} {H : Hp} {x : V} {d : PyData} (p : PyW H x d) (n : noSeq d = true) : ∃ t, TyX K H x t ∧ PySem.W.kitAny K t [.type "list", .type "tuple"] = some false := by
  cases p with
  | non => exact ⟨_, .base .non, by rfl⟩
  | bl b => exact ⟨_, .base (.bl b), by rfl⟩
  | int i => exact ⟨_, .base (.int i), by rfl⟩
  | str z => exact ⟨_, .base (.str z), by rfl⟩
  | tup h r => cases n
  | lst h r => cases n
  | dic h r => exact ⟨_, .base (.dK h), by rfl⟩
def spCkN (Cz : Nat → Addr) : Sp := fun vs H Q E => (∃ x d, vs = [x] ∧ Held H x d ∧ noSeq d = true ∧ OutB Cz H (.one 0 (.str "numbers")) E) ∨
  ∃ a ds, vs = [.ref a] ∧ Row H a ds ∧ ((∃ d, ds.find? (fun d => !numD d) = some d ∧ OutB Cz H (.one 2 d) E) ∨ (ds.find? (fun d => !numD d) = none ∧ ∀ H2, Same H H2 → Q .non H2))
section
variable {P : Program} {w : World} {K : PySem.W.Frag} {mg : Str → Option Value} {base : Heap} {CW CR CE : Addr} {Cz : Nat → Addr}
theorem ok_check_numbersD {f : Addr} {fd : FuncData} (F : Fun K "check_numbers" "check_numbers" s_check_numbers f fd) (T : Tc K mg CW CR CE Cz) (D_is_number : Df P w K mg base 3 "is_number" spNumD)
    (E_BadTable : Er1 P w K mg base "BadTable" "part" (Cz 0)) (E_BadCode : Er1 P w K mg base "BadCode" "value" (Cz 2)) : FnG P w K mg base (L2.CX P w) 5 f fd ["numbers"] (spCkN Cz) := by
  refine F.okXG sc_check_numbers (fun vs H Q E h => ?_) (fun cdv A outer s H vs Q E quiet hr h => ?_)
  · rcases h with ⟨x, d, rfl, _⟩ | ⟨a, ds, rfl, _⟩ <;> rfl
  · have hr2 := hr
    refine ⟨_, (pss_cons (ps_if (pt_not (pt_val (pe_callB call_isiT (by rfl) T.isinstance (by decide +kernel) (pa_cons (pv 0) (pa_cons (pe_tup (pa_cons (pe_bltn (v := .ty "list") (by rfl) T.list (by decide +kernel) rfl) (pa_cons (pe_bltn (v := .ty "tuple") (by rfl) T.tuple (by decide +kernel) rfl) pa_nil))) pa_nil)))))
        (pss_one (ps_raise rfl (takes_of rfl rfl rfl rfl) (pmk_one E_BadTable quiet hr (by decide) (by rfl) (pa_cons pe_str pa_nil))))
        pss_nil)
      (pss_one (ps_for (passes_of rfl) rfl (pi_seq (pv 0)) (pg_name (i := 1) sc_check_numbers.nd rfl (.inl rfl))
        (pss_one (ps_if (pt_not (pt_val (pe_c D_is_number hr (by decide) (by rfl) (pa_cons (pv 1) pa_nil))))
          (pss_one (ps_raise rfl (takes_of rfl rfl rfl rfl) (pmk_one E_BadCode quiet hr (by decide) (by rfl) (pa_cons (pv 1) pa_nil))))
          pss_nil))))), ?_⟩
    rcases h with ⟨x, d, rfl, hx, n, o⟩ | ⟨a, ds, rfl, rw0, h⟩
    · refine ⟨_, rfl, by show 2 ≤ sizeLine; decide, fun tq nt => ?_⟩
      have s1 := same_put (s := Same.refl H) (o := .tup [.ty "list", .ty "tuple"]) nt
      obtain ⟨t, ty, k⟩ := noseq_ty (K := K) (hx.same s1).pw n
      refine ⟨_, tq, [.ty "list", .ty "tuple"], t, [.type "list", .type "tuple"], false, rfl, upd_same, .cons (.ty _) (.cons (.ty _) .nil), ty, k, false, rfl, iteT ?_⟩
      exact ⟨by show 1 ≤ 1000; decide, fun a na => rz1 E_BadTable.oc E_BadTable.no ((o.same s1).rz (Same.refl _) (th_flat nice_numbers).th) a na⟩
    · obtain ⟨⟨xs, ha, pr⟩, few⟩ := rw0
      refine ⟨_, rfl, by show 2 ≤ sizeLine; decide, fun tq nt => ?_⟩
      have s1 := same_put (s := Same.refl H) (o := .tup [.ty "list", .ty "tuple"]) nt
      obtain ⟨t, ty, k⟩ := row_ty (K := K) (ha.imp (s1 _ _) (s1 _ _))
      refine ⟨_, tq, [.ty "list", .ty "tuple"], t, [.type "list", .type "tuple"], true, rfl, upd_same, .cons (.ty _) (.cons (.ty _) .nil), ty, k, true, rfl, iteF ?_⟩
      obtain ⟨b, sq⟩ := row_sq (K := K) (ha.imp (s1 _ _) (s1 _ _))
      refine ⟨a, b, rfl, ⟨xs, sq⟩, for_it (walk_seq (K := K) (b := b) (a := a) (xs := xs)) (fun i σ H2 => (∃ v1, σ = [some (.ref a), v1]) ∧ Same H H2 ∧ SqB K b H2 a xs ∧ ∀ d ∈ ds.take i, (!numD d) = false) ⟨⟨none, rfl⟩, s1, sq, fun d h => by simp at h⟩ ?_ ?_ ?_⟩
      · rintro i σ H2 hi ⟨_, _, sq2, _⟩
        exact sq2
      · rintro i x σ H2 H2' hi ⟨⟨v1, rfl⟩, s2, sq2, kn⟩ ⟨eH, hx⟩
        rw [eH]
        obtain ⟨d2, hd2, hh⟩ := pair_get pr hx
        have hh2 := hh.same s2
        refine ⟨_, rfl, x, d2, rfl, hh2.pw, ?_⟩
        cases e : numD d2 with
        | true =>
          refine ⟨true, rfl, iteF ⟨⟨_, rfl⟩, s2, sq2, fun d3 h3 => ?_⟩⟩
          rw [List.take_add_one, hd2] at h3
          rcases List.mem_append.mp h3 with h | h
          · exact kn d3 h
          · rw [List.mem_singleton.mp h, e]
            rfl
        | false =>
          have f2 := find_take hd2 kn (by rw [e]; rfl)
          rcases h with ⟨d, fd, o⟩ | ⟨fd, _⟩
          · rw [f2] at fd
            cases fd
            exact ⟨false, rfl, iteT ⟨_, rfl, by show 1 ≤ 1000; decide, fun b nb => rz1 E_BadCode.oc E_BadCode.no ((o.same s2).rz (Same.refl _) hh2.th) b nb⟩⟩
          · rw [f2] at fd
            cases fd
      · rintro σ H2 ⟨⟨v1, rfl⟩, s2, _, kn⟩
        have e := pair_len pr
        rw [List.take_of_length_le (by omega)] at kn
        rcases h with ⟨d, fd, o⟩ | ⟨_, q⟩
        · rw [find_no kn] at fd
          cases fd
        · exact q _ s2
end
end V8

set_option Elab.async false
set_option linter.all false
set_option maxRecDepth 100000
set_option maxHeartbeats 8000000
/-! The tables made; a table of codes equal to another one; a table of signs turned. -/
namespace V8
open PySem PySem.Spec PyProof.Rows L2 ItX MX
abbrev s_check_codes : Stmt := topS 30
abbrev n_check_codes : List Str := ["codes", "key", "letter"]
theorem sc_check_codes : FnScope ["codes", "key", "letter"] ["codes"] (defScope s_check_codes) := ⟨rfl, rfl, rfl, by decide +kernel, rfl, by decide +kernel, by decide +kernel⟩
abbrev s_WriteTable_init : Stmt := inClass (topS 25) 0
abbrev n_WriteTable_init : List Str := ["self", "codes", "letter"]
theorem sc_WriteTable_init : FnScope ["self", "codes", "letter"] ["self", "codes"] (defScope s_WriteTable_init) := ⟨rfl, rfl, rfl, by decide +kernel, rfl, by decide +kernel, by decide +kernel⟩
abbrev s_ReadTable_init : Stmt := inClass (topS 26) 0
abbrev n_ReadTable_init : List Str := ["self", "signs", "number"]
theorem sc_ReadTable_init : FnScope ["self", "signs", "number"] ["self", "signs"] (defScope s_ReadTable_init) := ⟨rfl, rfl, rfl, by decide +kernel, rfl, by decide +kernel, by decide +kernel⟩
abbrev s_WriteTable_eq : Stmt := inClass (topS 25) 7
abbrev n_WriteTable_eq : List Str := ["self", "other"]
theorem sc_WriteTable_eq : FnScope ["self", "other"] ["self", "other"] (defScope s_WriteTable_eq) := ⟨rfl, rfl, rfl, by decide +kernel, rfl, by decide +kernel, by decide +kernel⟩
abbrev s_ReadTable_invert : Stmt := inClass (topS 26) 6
abbrev n_ReadTable_invert : List Str := ["self", "codes", "number", "letter"]
theorem sc_ReadTable_invert : FnScope ["self", "codes", "number", "letter"] ["self"] (defScope s_ReadTable_invert) := ⟨rfl, rfl, rfl, by decide +kernel, rfl, by decide +kernel, by decide +kernel⟩
def spCkC : Sp := fun vs H Q _ => ∃ (d : Addr) (A : Ad) (t : Tab), vs = [.ref d] ∧ CodA H d A t ∧ ∀ H', Same H H' → Q .non H'
def spIniW (CW : Addr) : Sp := fun vs H Q _ => ∃ (x dx d : Addr) (A : Ad) (t : Tab), vs = [.ref x, .ref d] ∧ H x = some (.ins CW dx []) ∧ CodA H d A t ∧
  ∀ H' b, H b = none → H' x = some (.ins CW dx (fW b)) → H' b = some (.dK (encC A (imsL abc t))) → (∀ c o, H c = some o → c ≠ x → H' c = some o) → Q .non H'
def spIniR (CR : Addr) : Sp := fun vs H Q _ => ∃ (x dx d : Addr) (t : Tab), vs = [.ref x, .ref d] ∧ H x = some (.ins CR dx []) ∧ SigA H d t ∧
  ∀ H' b, H b = none → H' x = some (.ins CR dx (fR b)) → H' b = some (.dK (encS (imsL (List.range 256) t))) → (∀ c o, H c = some o → c ≠ x → H' c = some o) → Q .non H'
theorem encC_len {A : Ad} {t : Tab} : (encC A t).length = t.length := encG_len t
theorem dgC {H : Hp} {d : Addr} {A : Ad} {t : Tab} (h : Rd H d (.dK (encC A t))) (c : Nat) : DGet H d (.str (L1 c)) (valV (encC A t) (kL c)) := .inl ⟨_, kL c, h, rfl, rfl⟩
theorem cSome {A : Ad} {t : Tab} {c : Nat} {s : List Nat} (h : lookT t c = some s) : valV (encC A t) (kL c) = some (.ref (A c)) := valG_some kL_inj h
theorem cIs {A : Ad} {t : Tab} {c : Nat} : (valV (encC A t) (kL c)).isSome = (lookT t c).isSome := valG_is kL_inj
theorem abc_take {i c : Nat} (h : abc[i]? = some c) : abc.take (i + 1) = abc.take i ++ [c] ∧ c ∉ abc.take i := by
  refine ⟨by rw [List.take_add_one, h]; rfl, fun z => ?_⟩
  have nd := abc_nd
  have e : abc.take (i + 1) = abc.take i ++ [c] := by rw [List.take_add_one, h]; rfl
  rw [← List.take_append_drop (i + 1) abc, e] at nd
  exact (List.nodup_append.mp (List.nodup_append.mp nd).1).2.2 _ z c (by simp) rfl
theorem range_take {i : Nat} (h : i < 256) : (List.range 256).take (i + 1) = (List.range 256).take i ++ [i] ∧ i ∉ (List.range 256).take i := by
  refine ⟨by rw [List.take_add_one, List.getElem?_range h]; rfl, fun z => ?_⟩
  rw [List.take_range] at z
  have := List.mem_range.mp z
  omega
section
variable {P : Program} {w : World} {K : PySem.W.Frag} {mg : Str → Option Value} {base : Heap} {CW CR CE : Addr} {Cz : Nat → Addr}
theorem ok_check_codes {f : Addr} {fd : FuncData} (F : Fun K "check_codes" "check_codes" s_check_codes f fd) (T : Tc K mg CW CR CE Cz) (D_is_letter : Df P w K mg base 1 "is_letter" (spWordD 1 1)) (D_is_code : Df P w K mg base 4 "is_code" (spCode K)) : FnOk P w K mg base CX0 5 f fd ["codes"] spCkC := by
  refine F.ok sc_check_codes (fun vs H Q E h => ?_) (fun cdv A outer s H vs Q E hr h => ?_)
  · obtain ⟨d, A, t, rfl, _⟩ := h
    rfl
  · obtain ⟨d, B, t, rfl, ⟨hd, tu, g⟩, q⟩ := h
    refine ⟨_, (pss_cons (ps_if (pt_not (pt_val (pe_callB call_isi (by rfl) T.isinstance (by decide +kernel) (pa_cons (pv 0) (pa_cons (pe_bltn (v := .ty "dict") (by rfl) T.dict (by decide +kernel) rfl) pa_nil)))))
        (pss_one ps_never)
        pss_nil)
      (pss_cons (ps_lock (ps_for PassesOwn.never rfl (pi_keys (pv 0)) (pg_name (i := 1) sc_check_codes.nd rfl (.inl rfl))
        (pss_one (ps_if (pt_not (pt_val (pe_c D_is_letter hr (by decide) (by rfl) (pa_cons (pv 1) pa_nil))))
          (pss_one ps_never)
          pss_nil))))
      (pss_one (ps_for PassesOwn.never rfl (pi_str (pe_gv T.gLETTERS (by rfl))) (pg_name (i := 2) sc_check_codes.nd rfl (.inl rfl))
        (pss_one (ps_if (PW.pt (pw_and (pt_cmp (pc_din (hu_of hr) (pv 2) (pv 0))) (pw_and1 (pt_not (pt_val (pe_c D_is_code hr (by decide) (by rfl) (pa_cons (pe_dget (hu_of hr) (pv 0) (pv 2) (fun _ _ => rfl)) pa_nil)))))))
          (pss_one ps_never)
          pss_nil)))))), ?_⟩
    refine ⟨_, rfl, _, .ty "dict", .type "dict", .type "dict", true, rfl, .ty _, .base (.dK hd), kit_ty (by decide +kernel), true, rfl, iteF ?_⟩
    refine ⟨d, _, hd, True.intro, fun od => ⟨_, rfl, d, od, rfl, .inl ⟨_, upd_same, for_it walk_keys (fun i σ H2 => ∃ v1, σ = [some (.ref d), v1, none] ∧ H2 = upd H d (.frz od (.dK (encC B t)))) ⟨none, rfl, rfl⟩ ?_ ?_ ?_⟩⟩⟩
    · rintro i σ H2 hi ⟨v1, rfl, rfl⟩
      exact upd_same
    · rintro i x σ H2 H2' hi ⟨v1, rfl, rfl⟩ ⟨rfl, k, v, hk, rfl⟩
      obtain ⟨hit, rfl, rfl⟩ := encG_at hk
      have hc : t[i].1 ∈ abc := abc_mem.mpr (g.lt _ (List.getElem_mem hit))
      refine ⟨_, rfl, _, _, rfl, .str _, fun z e => ?_, ?_⟩
      · cases e
        show 1 ≤ 2500
        decide
      rw [show wordD 1 1 (.str (L1 t[i].1)) = true from word_let.mpr ⟨_, hc, rfl⟩]
      exact ⟨true, rfl, iteF ⟨_, rfl, rfl⟩⟩
    · rintro σ H2 ⟨v1, rfl, rfl⟩
      refine ⟨upd_same, ?_⟩
      rw [Same.upd_back hd]
      refine ⟨abcS, rfl, for_it walk_str (fun i σ H2 => ∃ v2, σ = [some (.ref d), v1, v2] ∧ Same H H2) ⟨none, rfl, Same.refl H⟩ ?_ ?_ ?_⟩
      · rintro i σ H2 hi _
        trivial
      · rintro i x σ H2 H2' hi ⟨v2, rfl, s2⟩ ⟨rfl, c, hc, rfl⟩
        refine ⟨_, rfl, _, rfl, d, _, rfl, dgC (.inl (s2 _ _ hd)) c, _, rfl, ?_⟩
        rw [cIs]
        cases e : lookT t c with
        | none => exact iteF ⟨_, rfl, s2⟩
        | some z =>
          refine iteT ⟨_, rfl, _, rfl, d, V.ref (B c), rfl, .inl ⟨_, kL c, .inl (s2 _ _ hd), rfl, by rw [cSome e]⟩, B c, z, rfl, s2 _ _ (tu.look e), (g.look e).2, fun H3 s3 => ⟨true, rfl, ⟨_, rfl, fun b o x => s3 _ _ (s2 _ _ x)⟩⟩⟩
      · rintro σ H2 ⟨v2, rfl, s2⟩
        exact q _ s2
theorem ok_initW {f : Addr} {fd : FuncData} (F : Fun K "__init__" "WriteTable.__init__" s_WriteTable_init f fd) (T : Tc K mg CW CR CE Cz) (D_check_codes : Df P w K mg base 5 "check_codes" spCkC) : FnOk P w K mg base CX0 6 f fd ["self", "codes"] (spIniW CW) := by
  refine F.ok sc_WriteTable_init (fun vs H Q E h => ?_) (fun cdv A outer s H vs Q E hr h => ?_)
  · obtain ⟨x, dx, d, A, t, rfl, _⟩ := h
    rfl
  · obtain ⟨x, dx, d, B, t, rfl, hx, ⟨hd, tu, g⟩, q⟩ := h
    refine ⟨_, (pss_cons (ps_expr (pe_c D_check_codes hr (by decide) (by rfl) (pa_cons (pv 1) pa_nil)))
      (pss_one (ps_fld (pv 0) (pe_dc (own := [("letter", 2)]) (g := gName 2) (by rfl) sc_WriteTable_init.nd (pi_str (pe_gv T.gLETTERS (by rfl))) (blkOk_by (own := [("letter", 2)]) (N := n_WriteTable_init) (sc := defScope s_WriteTable_init) (by decide +kernel)) (fun _ _ _ _ _ => (pg_name (i := 2) sc_WriteTable_init.nd rfl (.inl rfl))) (fun _ _ _ _ _ => (pts_one (pt_cmp (pc_din (hu_of hr) (pv 2) (pv 1))))) (fun _ _ _ _ _ => (pv 2)) (fun _ _ _ _ _ => (pe_dget (hu_of hr) (pv 1) (pv 2) (fun _ _ => rfl)))) rfl))), ?_⟩
    refine ⟨_, rfl, d, B, t, rfl, ⟨hd, tu, g⟩, fun H1 s1 => ?_⟩
    refine ⟨abcS, rfl, fun D nD => dc_it walk_str (fun i H3 => H3 = upd H1 D (.dK (encC B (imsL (abc.take i) t)))) rfl (fun _ _ _ _ => trivial) ?_ ?_⟩
    · rintro i x H3 H3' hi rfl ⟨rfl, c, hc, rfl⟩
      have hc1 : abc[i]? = some c := by
        rw [← abcS_cps]
        simpa using hc
      obtain ⟨e1, e2⟩ := abc_take hc1
      have hdD : d ≠ D := ne_of_none (s1 _ _ hd) nD
      have hd3 : upd H1 D (.dK (encC B (imsL (abc.take i) t))) d = some (.dK (encC B t)) := by rw [upd_ne hdD]; exact s1 _ _ hd
      refine ⟨rfl, _, rfl, _, rfl, d, _, rfl, dgC (.inl hd3) c, _, rfl, ?_⟩
      rw [cIs]
      cases e : lookT t c with
      | none =>
        refine iteF ?_
        show _ = _
        rw [e1, imsL_no e]
      | some z =>
        refine iteT ⟨_, rfl, _, rfl, _, rfl, d, V.ref (B c), rfl, .inl ⟨_, kL c, .inl hd3, rfl, by rw [cSome e]⟩, _, kL c, rfl, upd_same, ?_, ?_⟩
        · rw [encC_len]
          have := imsL_len (abc.take i) t
          rw [List.length_take, abc_len] at this
          exact small1000 (by omega)
        · have nk : c ∉ (imsL (abc.take i) t).map (·.1) := fun z => e2 (imsL_key z)
          rw [upd_upd, e1, imsL_yes e]
          congr 2
          exact putG (vf := fun q => V.ref (B q.1)) kL_inj (s := z) nk
    · rintro H3 rfl
      have e3 : abc.take abcS.cps.size = abc := by
        have : abcS.cps.size = 26 := by rw [← Array.length_toList, abcS_cps, abc_len]
        rw [this]
        exact List.take_of_length_le (by rw [abc_len]; exact Nat.le_refl _)
      rw [e3]
      have hxD : x ≠ D := ne_of_none (s1 _ _ hx) nD
      refine ⟨_, rfl, x, CW, dx, [], rfl, by rw [upd_ne hxD]; exact s1 _ _ hx, T.clW, T.nW, by decide, ?_⟩
      refine q _ D (same_none s1 nD) upd_same (by rw [upd_ne hxD.symm]; exact upd_same) fun c o e hc => ?_
      rw [upd_ne hc, upd_ne (ne_of_none (s1 _ _ e) nD)]
      exact s1 _ _ e
theorem ok_initR {f : Addr} {fd : FuncData} (F : Fun K "__init__" "ReadTable.__init__" s_ReadTable_init f fd) (T : Tc K mg CW CR CE Cz) (D_check_signs : Df P w K mg base 5 "check_signs" spSgnR) : FnOk P w K mg base CX0 6 f fd ["self", "signs"] (spIniR CR) := by
  refine F.ok sc_ReadTable_init (fun vs H Q E h => ?_) (fun cdv A outer s H vs Q E hr h => ?_)
  · obtain ⟨x, dx, d, t, rfl, _⟩ := h
    rfl
  · obtain ⟨x, dx, d, t, rfl, hx, ⟨hd, g⟩, q⟩ := h
    refine ⟨_, (pss_cons (ps_expr (pe_c D_check_signs hr (by decide) (by rfl) (pa_cons (pv 1) pa_nil)))
      (pss_one (ps_fld (pv 0) (pe_dc (own := [("number", 2)]) (g := gName 2) (by rfl) sc_ReadTable_init.nd (pi_range1 (by rfl) T.range (pa_cons (pe_gv T.gNUMBERS (by rfl)) pa_nil)) (blkOk_by (own := [("number", 2)]) (N := n_ReadTable_init) (sc := defScope s_ReadTable_init) (by decide +kernel)) (fun _ _ _ _ _ => (pg_name (i := 2) sc_ReadTable_init.nd rfl (.inl rfl))) (fun _ _ _ _ _ => (pts_one (pt_cmp (pc_din (hu_of hr) (pv 2) (pv 1))))) (fun _ _ _ _ _ => (pv 2)) (fun _ _ _ _ _ => (pe_dget (hu_of hr) (pv 1) (pv 2) (fun _ _ => rfl)))) rfl))), ?_⟩
    refine ⟨_, rfl, d, t, rfl, ⟨hd, g⟩, ?_⟩
    refine ⟨_, rfl, by decide, by decide, fun D nD => dc_it (walk_range (lo := 0) (n := 256)) (fun i H3 => H3 = upd H D (.dK (encS (imsL ((List.range 256).take i) t)))) rfl (fun _ _ _ _ => trivial) ?_ ?_⟩
    · rintro i y H3 H3' hi rfl ⟨rfl, ex⟩
      obtain rfl := rgv ex
      obtain ⟨e1, e2⟩ := range_take hi
      have hdD : d ≠ D := ne_of_none hd nD
      have hd3 : upd H D (.dK (encS (imsL ((List.range 256).take i) t))) d = some (.dK (encS t)) := by rw [upd_ne hdD]; exact hd
      refine ⟨rfl, _, rfl, _, rfl, d, _, rfl, dgS (.inl hd3) i, _, rfl, ?_⟩
      rw [sIs]
      cases e : lookT t i with
      | none =>
        refine iteF ?_
        show _ = _
        rw [e1, imsL_no e]
      | some z =>
        refine iteT ⟨_, rfl, _, rfl, _, rfl, d, V.str (Sx z), rfl, .inl ⟨_, kN i, .inl hd3, rfl, by rw [sSome e]⟩, _, kN i, rfl, upd_same, ?_, ?_⟩
        · rw [encS_len]
          have := imsL_len ((List.range 256).take i) t
          rw [List.length_take, List.length_range] at this
          exact small1000 (by omega)
        · have nk : i ∉ (imsL ((List.range 256).take i) t).map (·.1) := fun z => e2 (imsL_key z)
          rw [upd_upd, e1, imsL_yes e]
          congr 2
          exact putG (vf := fun q => V.str (Sx q.2)) kN_inj (s := z) nk
    · rintro H3 rfl
      have e3 : (List.range 256).take 256 = List.range 256 := List.take_of_length_le (by rw [List.length_range]; exact Nat.le_refl _)
      rw [e3]
      have hxD : x ≠ D := ne_of_none hx nD
      refine ⟨_, rfl, x, CR, dx, [], rfl, by rw [upd_ne hxD]; exact hx, T.clR, T.nR, by decide, ?_⟩
      refine q _ D nD upd_same (by rw [upd_ne hxD.symm]; exact upd_same) fun c o e hc => ?_
      rw [upd_ne hc, upd_ne (ne_of_none e nD)]
      exact e
end
theorem dp_map {K : PySem.W.Frag} {H : Hp} {α : Type} (f : α → V) (g : α → PyData) (h : ∀ a, Dp K H (f a) (g a)) : ∀ l : List α, DpAll K H (l.map f) (l.map g)
  | [] => .nil
  | a :: r => .cons (h a) (dp_map f g h r)
theorem lay_map {α : Type} (g : α → PyData) : ∀ l : List α, (∀ a ∈ l, (g a).canLay0 = true) → PyData.canLayAll0 (l.map g) = true
  | [], _ => by simp [PyData.canLayAll0]
  | a :: r, h => by
    have ih := lay_map g r fun x hx => h x (List.mem_cons_of_mem _ hx)
    simp only [List.map_cons, PyData.canLayAll0, h a (List.mem_cons_self ..), Bool.true_and]
    exact ih
theorem depth_map {α : Type} (g : α → PyData) (h : ∀ a, (g a).depth = 0) : ∀ l : List α, PyData.depthAll (l.map g) = 0
  | [] => by simp [PyData.depthAll]
  | a :: r => by
    have ih := depth_map g h r
    simp only [List.map_cons, PyData.depthAll, h a]
    omega
theorem shaped_map {α : Type} (g : α → PyData) (l : List α) (h1 : ∀ a ∈ l, (g a).canLay0 = true) (h2 : ∀ a, (g a).depth = 0) : SeqAt.shaped (.list (l.map g)) = true := by
  have h3 : PyData.depth (.list (l.map g)) ≤ 64 := by
    simp only [PyData.depth, depth_map g h2]
    omega
  show (PyData.canLay0 (.list (l.map g)) && decide (PyData.depth (.list (l.map g)) ≤ 64)) = true
  rw [Bool.and_eq_true]
  exact ⟨by simp only [PyData.canLay0]; exact lay_map g l h1, decide_eq_true h3⟩
theorem shaped_mapT {α : Type} (g : α → PyData) (l : List α) (h1 : ∀ a ∈ l, (g a).canLay0 = true) (h2 : ∀ a, (g a).depth = 0) : SeqAt.shaped (.tuple (l.map g)) = true := by
  have h3 : PyData.depth (.tuple (l.map g)) ≤ 64 := by
    simp only [PyData.depth, depth_map g h2]
    omega
  show (PyData.canLay0 (.tuple (l.map g)) && decide (PyData.depth (.tuple (l.map g)) ≤ 64)) = true
  rw [Bool.and_eq_true]
  exact ⟨by simp only [PyData.canLay0]; exact lay_map g l h1, decide_eq_true h3⟩
/-- iteration of the class's own -/
structure ItM (P : Program) (w : World) (K : PySem.W.Frag) (mg : Str → Option Value) (base : Heap) (k : Nat) (C : Addr) (sn : Nat → Sp) : Prop where
  ex : ∃ (f : Addr) (fd : FuncData) (ps : List Str), FnN P w K mg base CX0 k f fd ps sn ∧ Own K C "__iter__" f ∧ Binds K fd ps []
theorem putT_new {t : Tab} {c : Nat} {s : List Nat} (h : c ∉ t.map (·.1)) : putT t c s = t ++ [(c, s)] := by
  unfold putT
  rw [if_neg]
  intro z
  obtain ⟨q, hq, e⟩ := List.any_eq_true.mp z
  have e' : q.1 = c := by simpa using e
  exact h (List.mem_map.mpr ⟨q, hq, e'⟩)
theorem look_app {t : Tab} {c : Nat} {s : List Nat} (h : c ∉ t.map (·.1)) (c' : Nat) : lookT (t ++ [(c, s)]) c' = if c' = c then some s else lookT t c' := by
  unfold lookT
  rw [List.find?_append]
  by_cases e : c' = c
  · subst e
    rw [if_pos rfl]
    have n : t.find? (fun q => decide (q.1 = c')) = none := List.find?_eq_none.mpr fun q hq => by
      simpa using fun z => h (List.mem_map.mpr ⟨q, hq, z⟩)
    rw [n]
    simp
  · rw [if_neg e]
    cases t.find? (fun q => decide (q.1 = c')) with
    | none => simp [Ne.symm e]
    | some q => rfl
theorem DPut.l {H : Hp} {a : Addr} {kvs : List (Key × V)} {c : Nat} {v : V} (e : H a = some (.dK kvs)) (hl : kvs.length < sizeLine) : DPut H a (.str (L1 c)) v (upd H a (.dK (putK kvs (kL c) v))) := .inl ⟨kvs, kL c, e, rfl, hl, rfl⟩
/-- a table and a letter more -/
def setA (A : Ad) (c : Nat) (a : Addr) : Ad := fun x => if x = c then a else A x
theorem encC_set {A : Ad} {t : Tab} {c : Nat} {a : Addr} (h : c ∉ t.map (·.1)) : encC (setA A c a) t = encC A t := List.map_congr_left fun q hq => by
  have hne : q.1 ≠ c := fun e => h (e ▸ List.mem_map_of_mem hq)
  show (kL q.1, V.ref (if q.1 = c then a else A q.1)) = _
  rw [if_neg hne]
theorem GoodC.snoc {t : Tab} (g : GoodC t) {c : Nat} {s : List Nat} (hc : isLt c) (hs : GoodI4 s) (h : c ∉ t.map (·.1)) : GoodC (t ++ [(c, s)]) := by
  refine ⟨?_, fun q hq => ?_, fun q hq => ?_⟩
  · rw [← putT_new (s := s) h]
    exact put_nd g.nd
  · rcases List.mem_append.mp hq with h | h
    · exact g.lt q h
    · rw [List.mem_singleton.mp h]
      exact hc
  · rcases List.mem_append.mp hq with h | h
    · exact g.cod q h
    · rw [List.mem_singleton.mp h]
      exact hs
theorem Tups.snoc {H : Hp} {A : Ad} {t : Tab} {c : Nat} {s : List Nat} {a : Addr} (h : Tups H A t) (hc : c ∉ t.map (·.1)) (ha : H a = some (.tup (nums s))) : Tups H (setA A c a) (t ++ [(c, s)]) := fun q hq => by
  rcases List.mem_append.mp hq with h2 | h2
  · have hne : q.1 ≠ c := fun e => hc (e ▸ List.mem_map_of_mem h2)
    show H (if q.1 = c then a else A q.1) = _
    rw [if_neg hne]
    exact h q h2
  · rw [List.mem_singleton.mp h2]
    show H (if c = c then a else A c) = _
    rw [if_pos rfl]
    exact ha
theorem same_over {H H' : Hp} {D : Addr} {o : HO} (s : Same H H') (n : H D = none) : Same H (upd H' D o) := fun b u e => by
  rw [upd_ne (ne_of_none e n)]
  exact s b u e
theorem CodA.same {H H' : Hp} {d : Addr} {A : Ad} {t : Tab} (m : CodA H d A t) (s : Same H H') : CodA H' d A t := ⟨s _ _ m.1, m.2.1.same s, m.2.2⟩
theorem SigA.same {H H' : Hp} {d : Addr} {t : Tab} (m : SigA H d t) (s : Same H H') : SigA H' d t := ⟨s _ _ m.1, m.2⟩
/-- a class by its name, of one argument -/
structure Mkr1 (P : Program) (w : World) (K : PySem.W.Frag) (mg : Str → Option Value) (base : Heap) (x : Str) (C : Addr) (sp : Sp) : Prop where
  ex : ∃ (f : Addr) (fd : FuncData) (ps : List Str), Mk K C f ∧ FnOk P w K mg base CX0 6 f fd ps sp ∧ mg x = some (.ref C) ∧ Binds K fd ps []
def tMkW (CW : Addr) (t : TA) : TE := fun σ H Q => t σ H fun vs H1 => ∃ d A tb, vs = [.ref d] ∧ CodA H1 d A tb ∧ ∀ x H', H1 x = none → WrU CW H' x A tb → Same H1 H' → Q (.ref x) H'
section
variable {X : Cx} {j : Nat} {CW CR : Addr} {p pos : Pos} {e : Expr} {es : List Expr} {t : TA}
theorem pe_mkW (M : Mkr1 X.prog X.w X.K X.mg X.base "WriteTable" CW (spIniW CW)) (hr : Room j X.A) (hj : 7 ≤ j) (hg : Gl X "WriteTable") (ha : PA X (e :: es) t) (he : starEach (e :: es) X.env = (false, eval e X.env) :: starEach es X.env := by rfl) (hpl : (backTo pos (starEach es X.env)).any (·.1) = false := by rfl) :
    PE X (.Call (.Name "WriteTable" p) (e :: es) [] pos) (tMkW CW t) := by
  obtain ⟨f, fd, ps, M, F, hm, b0⟩ := M.ex
  refine ⟨fun pins s σ H Q I h => ?_⟩
  refine wpAny_Call_Name_kw (ld_glob I hg hm ?_ (by decide))
  refine PySem.W.callWith_K (h₀ := X.base) I.ok.mod.kin M.kp (thn (ha.run pos pins s σ H _ I h) fun us s1 ⟨vs, H1, I1, r, q⟩ => ⟨I1.kIn, ?_⟩) he hpl
  obtain ⟨d, A, tb, rfl, cd, q⟩ := q
  refine run_make (dvs := []) (ds := []) M F (hr.mono hj) b0 .nil pass0 I1 r fun x dx hx hdx ne => ?_
  rw [List.append_nil]
  have up : Same H1 (upd (upd H1 dx (.own x)) x (.ins CW dx [])) := fun b o eo => by
    rw [upd_ne (ne_of_none eo hx), upd_ne (ne_of_none eo hdx)]
    exact eo
  refine ⟨x, dx, d, A, tb, rfl, upd_same, cd.same up, fun H' b nb h1 h2 h3 => ⟨rfl, q x H' hx ?_ ?_⟩⟩
  · refine ⟨⟨dx, b, h1, h2⟩, fun z hz => ?_, cd.2.2⟩
    have e0 := cd.2.1 z hz
    exact h3 _ _ (up _ _ e0) (ne_of_none e0 hx)
  · exact fun b o eo => h3 _ _ (up _ _ eo) (ne_of_none eo hx)
theorem pi_ownKI {k : Nat} {C : Addr} {sn : Nat → Sp} {tg l : Expr} {tl : TE} (c : ItM X.prog X.w X.K X.mg X.base k C sn) (hr : Room j X.A) (hk : k ≤ j) (hl : PE X l tl) : PI X tg l (iOwnK X.K C X.s_0.heap.objs.size sn E0 tl) := by
  obtain ⟨f, fd, ps, F, o, b⟩ := c.ex
  exact pi_ownK F b pass0 o (hr.mono hk) hl
end
def spEqW (CW : Addr) : Sp := fun vs H Q _ => ∃ x y A B t, vs = [.ref x, .ref y] ∧ WrAt CW H x A t ∧ WrAt CW H y B t ∧ Q (.bl true) H
theorem look_ims26 {t : Tab} (g : GoodC t) (c : Nat) : lookT (imsL abc t) c = lookT t c := look_imsL_in g.inL c
theorem look_ims256 {t : Tab} (g : GoodS t) (c : Nat) : lookT (imsL (List.range 256) t) c = lookT t c := look_imsL_in g.inL c
theorem dp_nums {K : PySem.W.Frag} {H : Hp} (s : List Nat) : DpAll K H (nums s) (s.map fun n => PyData.int ((n : Nat) : Int)) := dp_map _ _ (fun n => .int _) s
theorem sh_nums (s : List Nat) : SeqAt.shaped (.tuple (s.map fun n => PyData.int ((n : Nat) : Int))) = true := shaped_mapT _ s (fun _ _ => by simp [PyData.canLay0]) (fun _ => by simp [PyData.depth])
section
variable {P : Program} {w : World} {K : PySem.W.Frag} {mg : Str → Option Value} {base : Heap} {CW CR CE : Addr} {Cz : Nat → Addr}
theorem ok_eqW {f : Addr} {fd : FuncData} (F : Fun K "__eq__" "WriteTable.__eq__" s_WriteTable_eq f fd) (T : Tc K mg CW CR CE Cz) : FnOk P w K mg base CX0 1 f fd ["self", "other"] (spEqW CW) := by
  refine F.ok sc_WriteTable_eq (fun vs H Q E h => ?_) (fun cdv A outer s H vs Q E hr h => ?_)
  · obtain ⟨x, y, B, C, t, rfl, _⟩ := h
    rfl
  · obtain ⟨x, y, B, C, t, rfl, ⟨⟨dx, b, hx, hb⟩, tu, g⟩, ⟨⟨dy, c, hy, hc⟩, tu2, _⟩, q⟩ := h
    refine ⟨_, (pss_one (ps_ret (pe_and (pe_callB call_isi (by rfl) T.isinstance (by decide +kernel) (pa_cons (pv 1) (pa_cons (pe_gv T.gWriteTable (by rfl)) pa_nil))) (pe_one (pe_cmpR (op_eqDD (K := K) rfl hr) (pe_fldK (K := K) rfl (pv 0) rfl) (pe_fldK (K := K) rfl (pv 1) rfl) (nomark _)))))), ?_⟩
    refine ⟨_, rfl, _, .ref CW, .ref CW, .ref CW, true, rfl, .own _, .base (.ins hy T.clW T.wA T.tB T.tC T.wD), T.WW, true, rfl, iteT ?_⟩
    refine ⟨_, rfl, x, CW, dx, _, _, rfl, hx, T.clW, T.nW, fW_i b, _, rfl, y, CW, dy, _, _, rfl, hy, T.clW, T.nW, fW_i c, b, c, _, _, rfl, rfl, hb, hc, ?_, ?_, q⟩
    · rw [encC_len, encC_len]
    · rintro p hp
      obtain ⟨z, hz, rfl⟩ := List.mem_map.mp hp
      have m := (imsL_mem hz).1
      have e2 : lookT (imsL abc t) z.1 = some z.2 := by rw [look_ims26 g, m]
      exact ⟨_, _, cSome e2, .tup (.inl (.inl (tu.look m))) (dp_nums _), .tup (.inl (.inl (tu2.look m))) (dp_nums _), sh_nums _⟩
end
/-- walks, whatever their bodies -/
theorem gen_it {J : It} {n : Nat} {G : Hp → Prop} {Y : Nat → Hp → V → Hp → Prop} (w : Walk J n G Y) {B : (Hp → Prop) → V → Hp → Prop} {Qd : Hp → Prop} {H0 : Hp} (Pv : Nat → Hp → Prop) (h0 : Pv 0 H0) (hG : ∀ i H, i ≤ n → Pv i H → G H) (hs : ∀ i x H H', i < n → Pv i H → Y i H x H' → B (Pv (i + 1)) x H') (hd : ∀ H, Pv n H → Qd H) :
    ∃ W : Nat → Nat → Hp → Prop, (∃ m, W 0 m H0) ∧ ∀ i m H, W i m H → (J.stop i H ∧ Qd H) ∨ (J.go i H ∧ ∃ Nx : Hp → Prop, (∀ H', Nx H' → ∃ m', m' < m ∧ W (i + 1) m' H') ∧ ∀ x H', J.yld i H x H' → B Nx x H') := by
  refine ⟨fun i m H => i + m = n ∧ Pv i H, ⟨n, by omega, h0⟩, fun i m H h => ?_⟩
  obtain ⟨e, p⟩ := h
  have q := hG i H (by omega) p
  by_cases h : m = 0
  · subst h
    have e2 : i = n := by omega
    subst e2
    exact .inl ⟨w.stops H q, hd H p⟩
  · exact .inr ⟨w.goes i H (by omega) q, Pv (i + 1), fun H' p' => ⟨m - 1, by omega, by omega, p'⟩, fun x H' y => hs i x H H' (by omega) p (w.yields i H x H' (by omega) q y)⟩
/-- the least integers of letters -/
def addI (acc : Tab) (q : Nat × List Nat) : Tab := match q.2 with
  | [c] => if (lookT acc c).isSome then acc else acc ++ [(c, [q.1])]
  | _ => acc
def invL (l : Tab) : Tab := l.foldl addI []
theorem invL_snoc (l : Tab) (q : Nat × List Nat) : invL (l ++ [q]) = addI (invL l) q := by
  unfold invL
  rw [List.foldl_append]
  rfl
theorem look_iff0 {t : Tab} {c : Nat} : (lookT t c).isSome = true ↔ c ∈ t.map (·.1) := by
  constructor
  · intro h
    obtain ⟨s, e⟩ := Option.isSome_iff_exists.mp h
    exact List.mem_map.mpr ⟨_, look_in e, rfl⟩
  · intro h
    obtain ⟨q, hq, rfl⟩ := List.mem_map.mp h
    unfold lookT
    rw [Option.isSome_map, List.find?_isSome]
    exact ⟨q, hq, by simp⟩
theorem put_set {B : Ad} {t : Tab} {c : Nat} {s : List Nat} {tq : Addr} (nk : c ∉ t.map (·.1)) : putK (encC B t) (kL c) (.ref tq) = encC (setA B c tq) (t ++ [(c, s)]) := by
  have h1 := putG (kf := kL) (vf := fun q => V.ref (setA B c tq q.1)) kL_inj (t := t) (c := c) (s := s) nk
  have h2 : V.ref (setA B c tq c) = V.ref tq := by
    show V.ref (if c = c then tq else B c) = _
    rw [if_pos rfl]
  have h3 : encG kL (fun q => V.ref (setA B c tq q.1)) t = encC B t := encC_set nk
  rw [h3] at h1
  refine Eq.trans ?_ h1
  show _ = putK (encC B t) (kL c) (V.ref (setA B c tq c))
  rw [h2]
theorem looks_app {t : Tab} {c : Nat} {s : List Nat} (h : lookT t c = none) (c' : Nat) : lookT (t ++ [(c, s)]) c' = if c' = c then some s else lookT t c' := by
  refine look_app (fun z => ?_) c'
  obtain ⟨q, hq, e⟩ := List.mem_map.mp z
  have : (t.find? fun q => decide (q.1 = c)) = none := by
    unfold lookT at h
    rwa [Option.map_eq_none_iff] at h
  have := List.find?_eq_none.mp this q hq
  simp [e] at this
def spInv (CW CR : Addr) : Sp := fun vs H Q _ => ∃ x u, vs = [.ref x] ∧ RdU CR H x u ∧ ∀ z B H', H z = none → WrU CW H' z B (invL (imsL (List.range 256) u)) → Same H H' → Q (.ref z) H'
section
variable {P : Program} {w : World} {K : PySem.W.Frag} {mg : Str → Option Value} {base : Heap} {CW CR CE : Addr} {Cz : Nat → Addr}
theorem ok_invert {f : Addr} {fd : FuncData} (F : Fun K "__invert__" "ReadTable.__invert__" s_ReadTable_invert f fd) (T : Tc K mg CW CR CE Cz) (D_mkW : Mkr1 P w K mg base "WriteTable" CW (spIniW CW)) : FnOk P w K mg base CX0 8 f fd ["self"] (spInv CW CR) := by
  refine F.ok sc_ReadTable_invert (fun vs H Q E h => ?_) (fun cdv A outer s H vs Q E hr h => ?_)
  · obtain ⟨x, u, rfl, _⟩ := h
    rfl
  · obtain ⟨x, u, rfl, ⟨⟨dx, b, hx, hb⟩, g⟩, q⟩ := h
    refine ⟨_, (pss_cons (ps_set (i := 1) sc_ReadTable_invert.nd rfl (.inl rfl) pe_dnewK)
      (pss_cons (ps_lock (ps_for PassesOwn.never rfl (pi_items (pe_fldK (K := K) rfl (pv 0) rfl)) (pg_tup (by rfl) (pgs_cons (pg_name (i := 2) sc_ReadTable_invert.nd rfl (.inl rfl)) (pgs_cons (pg_name (i := 3) sc_ReadTable_invert.nd rfl (.inl rfl)) pgs_nil)))
        (pss_one (ps_if (pt_cmp (pc_dnotin (hu_of hr) (pv 3) (pv 1)))
          (pss_one (ps_dput (hu_of hr) (pv 1) (pv 3) (pe_tup (pa_cons (pv 2) pa_nil)) rfl))
          pss_nil))))
      (pss_one (ps_ret (pe_mkW D_mkW hr (by decide) (by rfl) (pa_cons (pv 1) pa_nil)))))), ?_⟩
    refine fun D nD => ?_
    have hbD : b ≠ D := ne_of_none hb nD
    have hxD : x ≠ D := ne_of_none hx nD
    have hbx : b ≠ x := ne_of hb hx (fun z => nomatch z)
    have hb1 : upd H D (.dK []) b = some (.dK (encS (imsL (List.range 256) u))) := by rw [upd_ne hbD]; exact hb
    have hx1 : upd H D (.dK []) x = some (.ins CR dx (fR b)) := by rw [upd_ne hxD]; exact hx
    obtain ⟨lL, eL⟩ : ∃ lL, lL = imsL (List.range 256) u := ⟨_, rfl⟩
    rw [← eL] at hb hb1
    have gL : ∀ q ∈ lL, ∃ c, q.2 = [c] ∧ isLt c ∧ q.1 < 256 := fun q hq => by
      rw [eL] at hq
      obtain ⟨h1, h2⟩ := imsL_mem hq
      obtain ⟨_, c, e, hc⟩ := g.look h1
      exact ⟨c, e, hc, List.mem_range.mp h2⟩
    refine ⟨b, _, hb1, True.intro, fun od => ⟨_, rfl, x, CR, dx, _, _, rfl, by rw [upd_ne (Ne.symm hbx)]; exact hx1, T.clR, T.nR, fR_i b, b, od, _, rfl, upd_same, for_it walk_items (fun i σ H2 => (∃ (v2 v3 : Option V) (B : Ad), σ = [some (.ref x), some (.ref D), v2, v3] ∧ H2 D = some (.dK (encC B (invL (lL.take i)))) ∧ Tups H2 B (invL (lL.take i))) ∧ GoodC (invL (lL.take i)) ∧ Same (upd H b (.frz od (.dK (encS lL)))) H2) ⟨⟨none, none, fun _ => 0, rfl, ?_, fun q h => (List.not_mem_nil h).elim⟩, GoodC.nil, ?_⟩ ?_ ?_ ?_⟩⟩
    · rw [upd_ne (Ne.symm hbD)]
      exact upd_same
    · intro c o e
      by_cases hc : c = b
      · rw [hc, upd_same] at e ⊢
        exact e
      · rw [upd_ne hc] at e ⊢
        rw [upd_ne (ne_of_none e nD)]
        exact e
    · rintro i σ H2 hi ⟨_, _, s2⟩
      exact s2 _ _ upd_same
    · rintro i y σ H2 H3 hi ⟨⟨v2, v3, B, rfl, hD, tu⟩, ga, s2⟩ ⟨tq, kx, vx, rfl, nt, rfl, hk1, hk2⟩
      rw [encS_len] at hi
      have ek : (encS lL)[i]? = some (kN lL[i].1, V.str (Sx lL[i].2)) := by
        unfold encS encG
        rw [List.getElem?_map, List.getElem?_eq_getElem hi]
        rfl
      dsimp only at hk1 hk2
      rw [ek] at hk1 hk2
      obtain rfl : V.int ((lL[i].1 : Nat) : Int) = kx := Option.some.inj hk1
      obtain rfl : V.str (Sx lL[i].2) = vx := Option.some.inj hk2
      obtain ⟨c, ec, hc, h256⟩ := gL _ (List.getElem_mem hi)
      have eT : invL (lL.take (i + 1)) = addI (invL (lL.take i)) lL[i] := by
        rw [List.take_add_one, List.getElem?_eq_getElem hi]
        exact invL_snoc _ _
      have eA : addI (invL (lL.take i)) lL[i] = if (lookT (invL (lL.take i)) c).isSome then invL (lL.take i) else invL (lL.take i) ++ [(c, [lL[i].1])] := by
        unfold addI
        rw [ec]
      rw [ec]
      rw [eA] at eT
      generalize lL[i].1 = n at h256 eT ⊢
      generalize invL (lL.take i) = acc at hD tu ga eT
      rw [eT]
      clear hk1 hk2 ek eA eT ec
      refine ⟨tq, _, rfl, .inl (.inl upd_same), rfl, _, _, rfl, _, _, rfl, rfl, ?_⟩
      have s3 := same_put (s := s2) (o := .tup [.int ((n : Nat) : Int), .str (Sx [c])]) nt
      have s4 := same_put (s := Same.refl H2) (o := .tup [.int ((n : Nat) : Int), .str (Sx [c])]) nt
      have hD3 := s4 _ _ hD
      have tu3 := tu.same s4
      have nDB : upd H b (.frz od (.dK (encS lL))) D = none := by rw [upd_ne (Ne.symm hbD)]; exact nD
      generalize upd H2 tq (.tup [.int ((n : Nat) : Int), .str (Sx [c])]) = H3 at s3 hD3 tu3 ⊢
      refine ⟨_, rfl, _, rfl, D, _, rfl, dgC (.inl hD3) c, _, rfl, ?_⟩
      rw [cIs]
      cases el : lookT acc c with
      | some z => exact iteF ⟨⟨_, _, B, rfl, hD3, tu3⟩, ga, s3⟩
      | none =>
        have nk : c ∉ acc.map (·.1) := fun z => by
          have := look_iff0.mpr z
          rw [el] at this
          cases this
        refine iteT ⟨_, rfl, by show 1 ≤ sizeLine; decide, fun t2 n2 => ?_⟩
        have s5 := same_put (s := Same.refl H3) (o := .tup (nums [n])) n2
        have hD5 := s5 _ _ hD3
        have gk := ga.key
        refine ⟨_, rfl, _, rfl, D, _, rfl, DPut.l hD5 (by rw [encC_len]; exact small1000 (by omega)), ?_⟩
        have hDt : D ≠ t2 := ne_of_none hD3 n2
        have ep : putK (encC B acc) (kL c) (.ref t2) = encC (setA B c t2) (acc ++ [(c, [n])]) := put_set nk
        refine ⟨⟨_, _, setA B c t2, rfl, by rw [upd_same, ep]; rfl, ?_⟩, ga.snoc hc ⟨by show 1 ≤ 1; decide, by show 1 ≤ 4; decide, fun k hk => by rw [List.mem_singleton.mp hk]; exact h256⟩ nk, same_over (s := same_put (s := s3) n2) nDB⟩
        refine Tups.snoc (fun q hq => ?_) nk (by rw [upd_ne (Ne.symm hDt)]; exact upd_same)
        rw [upd_ne (ne_of (tu3 q hq) hD3 (fun z => nomatch z))]
        exact s5 _ _ (tu3 q hq)
    · rintro σ H2 ⟨⟨v2, v3, B, rfl, hD, tu⟩, ga, s2⟩
      rw [encS_len, List.take_length] at hD tu ga
      refine ⟨s2 _ _ upd_same, ?_⟩
      have sf : Same H (upd H2 b (.dK (encS lL))) := fun c o e => by
        by_cases hc : c = b
        · rw [hc, upd_same, ← hb, ← hc, e]
        · rw [upd_ne hc]
          exact s2 _ _ (by rw [upd_ne hc]; exact e)
      have hbl := s2 _ _ (show upd H b (.frz od (.dK (encS lL))) b = some (.frz od (.dK (encS lL))) from upd_same)
      refine ⟨_, rfl, D, B, invL lL, rfl, ⟨by rw [upd_ne (Ne.symm hbD)]; exact hD, fun q hq => ?_, ga⟩, fun z H4 nz mw s4 => ?_⟩
      · rw [upd_ne (ne_of (tu q hq) hbl (fun z => nomatch z))]
        exact tu q hq
      · rw [eL] at mw
        exact q z B H4 (same_none sf nz) mw fun c o e => s4 _ _ (sf _ _ e)
end
end V8

set_option Elab.async false
set_option linter.all false
set_option maxRecDepth 100000
set_option maxHeartbeats 8000000
/-! A table of signs asked. -/
namespace V8
open PySem PySem.Spec PyProof.Rows L2 ItX MX
abbrev s_ReadTable_contains : Stmt := inClass (topS 26) 1
abbrev n_ReadTable_contains : List Str := ["self", "x"]
theorem sc_ReadTable_contains : FnScope ["self", "x"] ["self", "x"] (defScope s_ReadTable_contains) := ⟨rfl, rfl, rfl, by decide +kernel, rfl, by decide +kernel, by decide +kernel⟩
abbrev s_ReadTable_len : Stmt := inClass (topS 26) 2
abbrev n_ReadTable_len : List Str := ["self"]
theorem sc_ReadTable_len : FnScope ["self"] ["self"] (defScope s_ReadTable_len) := ⟨rfl, rfl, rfl, by decide +kernel, rfl, by decide +kernel, by decide +kernel⟩
abbrev s_ReadTable_iter : Stmt := inClass (topS 26) 3
abbrev n_ReadTable_iter : List Str := ["self"]
theorem sc_ReadTable_iter : FnScope ["self"] ["self"] (defScope s_ReadTable_iter) := ⟨rfl, rfl, rfl, by decide +kernel, rfl, by decide +kernel, by decide +kernel⟩
abbrev s_ReadTable_getitem : Stmt := inClass (topS 26) 4
abbrev n_ReadTable_getitem : List Str := ["self", "at"]
theorem sc_ReadTable_getitem : FnScope ["self", "at"] ["self", "at"] (defScope s_ReadTable_getitem) := ⟨rfl, rfl, rfl, by decide +kernel, rfl, by decide +kernel, by decide +kernel⟩
abbrev s_ReadTable_eq : Stmt := inClass (topS 26) 7
abbrev n_ReadTable_eq : List Str := ["self", "other"]
theorem sc_ReadTable_eq : FnScope ["self", "other"] ["self", "other"] (defScope s_ReadTable_eq) := ⟨rfl, rfl, rfl, by decide +kernel, rfl, by decide +kernel, by decide +kernel⟩
abbrev s_WriteTable_len : Stmt := inClass (topS 25) 2
abbrev n_WriteTable_len : List Str := ["self"]
theorem sc_WriteTable_len : FnScope ["self"] ["self"] (defScope s_WriteTable_len) := ⟨rfl, rfl, rfl, by decide +kernel, rfl, by decide +kernel, by decide +kernel⟩
abbrev s_first_unread : Stmt := topS 27
abbrev n_first_unread : List Str := ["numbers", "read", "at", "number"]
theorem sc_first_unread : FnScope ["numbers", "read", "at", "number"] ["numbers", "read"] (defScope s_first_unread) := ⟨rfl, rfl, rfl, by decide +kernel, rfl, by decide +kernel, by decide +kernel⟩
abbrev s_ReadTable_call : Stmt := inClass (topS 26) 5
abbrev n_ReadTable_call : List Str := ["self", "numbers", "at", "number"]
theorem sc_ReadTable_call : FnScope ["self", "numbers", "at", "number"] ["self", "numbers"] (defScope s_ReadTable_call) := ⟨rfl, rfl, rfl, by decide +kernel, rfl, by decide +kernel, by decide +kernel⟩
theorem passTk {X : Cx} {E : XK} (tk : Takes X fun cls d _ H => E cls d H) : Passes (L2.CX X.prog X.w) X E := passes_call tk fun _ _ _ _ h => h
theorem passL {X : Cx} : Passes (L2.CX X.prog X.w) X E0 := fun _ _ _ _ _ _ _ ⟨_, _, _, _, _, _, _, _, _, _, _, _, h⟩ => h.elim
def lookD (t : Tab) : PyData → Option (List Nat)
  | .int i => if 0 ≤ i then lookT t i.toNat else none
  | _ => none
theorem lookD_nat (t : Tab) (n : Nat) : lookD t (.int ((n : Nat) : Int)) = lookT t n := by
  show (if 0 ≤ ((n : Nat) : Int) then lookT t ((n : Nat) : Int).toNat else none) = _
  rw [if_pos (by omega), Int.toNat_natCast]
theorem valN_neg {i : Int} (h : ¬ 0 ≤ i) : ∀ t : Tab, valV (encS t) (Sum.inl i) = none
  | [] => rfl
  | q :: t => by
    show valV ((kN q.1, V.str (Sx q.2)) :: encS t) _ = _
    rw [valV_neg (fun e => h (by
      have e2 : ((q.1 : Nat) : Int) = i := Sum.inl.inj e
      omega)), valN_neg h t]
theorem valS_D (t : Tab) (i : Int) : valV (encS t) (Sum.inl i) = (lookD t (.int i)).map fun s => V.str (Sx s) := by
  show _ = (if 0 ≤ i then lookT t i.toNat else none).map _
  by_cases h : 0 ≤ i
  · rw [if_pos h]
    obtain ⟨n, rfl⟩ : ∃ n : Nat, i = n := ⟨i.toNat, by omega⟩
    rw [Int.toNat_natCast]
    show valV (encG kN _ t) (kN n) = _
    rw [valG kN_inj]
    unfold lookT
    rw [Option.map_map]
    rfl
  · rw [if_neg h, valN_neg h]
    rfl
theorem look_D256 {t : Tab} (g : GoodS t) (d : PyData) : lookD (imsL (List.range 256) t) d = lookD t d := by
  cases d with
  | int i =>
    show (if 0 ≤ i then lookT _ i.toNat else none) = (if 0 ≤ i then lookT _ i.toNat else none)
    rw [look_ims256 g]
  | _ => rfl
theorem look_intD {t : Tab} {d : PyData} (h : intD d = false) : lookD t d = none := by
  cases d with
  | int i => cases h
  | _ => rfl
theorem dgD {H : Hp} {b : Addr} {t : Tab} (g : GoodS t) (hb : H b = some (.dK (encS (imsL (List.range 256) t)))) (i : Int) : DGet H b (.int i) ((lookD t (.int i)).map fun s => V.str (Sx s)) := .inl ⟨_, Sum.inl i, .inl hb, rfl, by rw [valS_D, look_D256 g]⟩
theorem int_of {H : Hp} {x : V} {d : PyData} (p : PyW H x d) (h : intD d = true) : ∃ i, x = .int i ∧ d = .int i := by
  cases p with
  | int i => exact ⟨i, rfl, rfl⟩
  | _ => cases h
def unread (t : Tab) (ds : List PyData) : Option Nat := ds.findIdx? fun d => (lookD t d).isNone
def imgsD (t : Tab) (ds : List PyData) : List Nat := (ds.map fun d => (lookD t d).getD []).flatten
/-- what comes of a row that is read -/
def dueR (t : Tab) (ds : List PyData) : Bad ⊕ List Nat := match ds.find? fun d => !numD d with
  | some d => .inl (.one 2 d)
  | none => match unread t ds with
    | some i => .inl (.one 3 (.int ((i : Nat) : Int)))
    | none => if 2000 < ds.length then .inl (.many "signs" 2000) else .inr (imgsD t ds)
def spInD (CR : Addr) : Sp := fun vs H Q _ => ∃ x t y d, vs = [.ref x, y] ∧ RdU CR H x t ∧ PyW H y d ∧ Q (.bl (lookD t d).isSome) H
def spLenR (CR : Addr) : Sp := fun vs H Q _ => ∃ x t, vs = [.ref x] ∧ RdU CR H x t ∧ Q (.int (((imsL (List.range 256) t).length : Nat) : Int)) H
def spLenW (CW : Addr) : Sp := fun vs H Q _ => ∃ x A t, vs = [.ref x] ∧ WrU CW H x A t ∧ Q (.int (((imsL abc t).length : Nat) : Int)) H
def snIterR (CR : Addr) : Nat → Sp := fun n vs H Q _ => ∃ x dx b od kvs, vs = [.ref x] ∧ H x = some (.ins CR dx (fR b)) ∧ H b = some (.frz od (.dK kvs)) ∧ ∀ it, H it = none → n ≤ it → Q (.ref it) (upd H it (ItK b od kvs.length it))
def spGetD (CR : Addr) (Cz : Nat → Addr) : Sp := fun vs H Q E => ∃ x t y d, vs = [.ref x, y] ∧ RdU CR H x t ∧ Held H y d ∧ ((lookD t d = none ∧ OutB Cz H (.one 2 d) E) ∨ ∃ s, lookD t d = some s ∧ Q (.str (Sx s)) H)
def spEqD (K : PySem.W.Frag) (CR : Addr) : Sp := fun vs H Q _ => ∃ x t y, vs = [.ref x, y] ∧ RdU CR H x t ∧ ((∃ z, y = .ref z ∧ RdU CR H z t ∧ Q (.bl true) H) ∨ (∃ ty, TyX K H y ty ∧ PySem.W.kitOne K ty (.ref CR) = some false ∧ Q (.bl false) H))
def spFUD (CR : Addr) : Sp := fun vs H Q _ => ∃ a x t ds, vs = [.ref a, .ref x] ∧ Row H a ds ∧ RdU CR H x t ∧ (∀ i : Nat, unread t ds = some i → ∀ H2, Same H H2 → Q (.int i) H2) ∧ (unread t ds = none → ∀ H2, Same H H2 → Q .non H2)
def spBndX (Cz : Nat → Addr) : Sp := fun vs H Q E => ∃ cs : List Nat, vs = [.str (Sx cs)] ∧ cs.length ≤ 10000 ∧ ((cs.length ≤ 2000 ∧ Q (.str (Sx cs)) H) ∨ (2000 < cs.length ∧ OutB Cz H (.many "signs" 2000) E))
def spCaD (CR : Addr) (Cz : Nat → Addr) : Sp := fun vs H Q E => ∃ x t y, vs = [.ref x, y] ∧ RdU CR H x t ∧ ((∃ d, Held H y d ∧ noSeq d = true ∧ OutB Cz H (.one 0 (.str "numbers")) E) ∨
  (∃ a ds, y = .ref a ∧ Row H a ds ∧ (∀ b, dueR t ds = .inl b → OutB Cz H b E) ∧ ∀ s, dueR t ds = .inr s → ∀ H2, Same H H2 → Q (.str (Sx s)) H2))
theorem nice_int {i : Int} (h : (PyData.int i).shown.length ≤ 3000) (h2 : PyData.strOk (PyData.int i).shown = true) (h3 : (PyData.int i).showable = true) : NiceD (.int i) := ⟨⟨h3, by simp [PyData.depth], by omega⟩, h, by simp [PyData.depth], h2, fun z e => nomatch e⟩
theorem nice_2000 : NiceD (.int 2000) := nice_int (by decide +kernel) (by decide +kernel) (by decide +kernel)
theorem find_idx {α : Type} {p : α → Bool} : ∀ {l : List α} {i : Nat} {x : α}, l[i]? = some x → (∀ y ∈ l.take i, p y = false) → p x = true → l.findIdx? p = some i
  | [], i, x, e, _, _ => by simp at e
  | a :: l, 0, x, e, _, h => by
    obtain rfl : a = x := by simpa using e
    rw [List.findIdx?_cons, if_pos h]
  | a :: l, i + 1, x, e, k, h => by
    have ka := k a (by rw [List.take_succ_cons]; exact List.mem_cons_self)
    rw [List.findIdx?_cons, if_neg (by rw [ka]; exact Bool.false_ne_true), find_idx (i := i) (by simpa using e) (fun y hy => k y (by rw [List.take_succ_cons]; exact List.mem_cons_of_mem _ hy)) h]
    rfl
section
variable {P : Program} {w : World} {K : PySem.W.Frag} {mg : Str → Option Value} {base : Heap} {CW CR CE : Addr} {Cz : Nat → Addr}
theorem ok_bounded {f : Addr} {fd : FuncData} (F : Fun K "bounded" "bounded" s_bounded f fd) (T : Tc K mg CW CR CE Cz) (E_TooMany : Er2 P w K mg base "TooMany" "what" "most" (Cz 4)) : FnG P w K mg base (L2.CX P w) 5 f fd ["string"] (spBndX Cz) := by
  refine F.okXG sc_bounded (fun vs H Q E h => ?_) (fun cdv A outer s H vs Q E quiet hr h => ?_)
  · obtain ⟨cs, rfl, _⟩ := h
    rfl
  · obtain ⟨cs, rfl, hn, h⟩ := h
    refine ⟨_, (pss_cons (ps_if (pt_cmpR op_gt (pe_callB call_len_str (by rfl) T.len (by decide +kernel) (pa_cons (pv 0) pa_nil)) (pe_gv T.gLONGEST (by rfl)) (nomark _))
        (pss_one (ps_raise rfl (takes_of rfl rfl rfl rfl) (pmk_two E_TooMany quiet hr (by decide) (by rfl) (pa_cons pe_str (pa_cons (pe_gv T.gLONGEST (by rfl)) pa_nil)))))
        pss_nil)
      (pss_one (ps_ret (pv 0)))), ?_⟩
    have hz : (Sx cs).length ≤ sizeLine := by rw [Sx_len, sizeLine_eq]; omega
    refine ⟨_, rfl, _, rfl, hz, _, _, rfl, rfl, _, rfl, ?_⟩
    rw [Sx_len]
    rcases h with ⟨l, q⟩ | ⟨l, o⟩
    · rw [decide_eq_false (by show ¬ ((2000 : Int) < (cs.length : Int)); omega)]
      exact iteF ⟨_, rfl, q⟩
    · rw [decide_eq_true (by show (2000 : Int) < (cs.length : Int); omega)]
      exact iteT ⟨by show 2 ≤ 1000; decide, fun a na => rz2 E_TooMany.oc E_TooMany.n1 E_TooMany.n2 nice_signs nice_2000 (fun dd H2 s2 e => o dd H2 s2 e) a na⟩
theorem ok_inD {f : Addr} {fd : FuncData} (F : Fun K "__contains__" "ReadTable.__contains__" s_ReadTable_contains f fd) (T : Tc K mg CW CR CE Cz) (D_is_integer : Df P w K mg base 1 "is_integer" spIntD) : FnOk P w K mg base CX0 2 f fd ["self", "x"] (spInD CR) := by
  refine F.ok sc_ReadTable_contains (fun vs H Q E h => ?_) (fun cdv A outer s H vs Q E hr h => ?_)
  · obtain ⟨x, t, y, d, rfl, _⟩ := h
    rfl
  · obtain ⟨x, t, y, d, rfl, ⟨⟨dx, b, hx, hb⟩, g⟩, p, q⟩ := h
    refine ⟨_, (pss_one (ps_ret (pe_and (pe_c D_is_integer hr (by decide) (by rfl) (pa_cons (pv 1) pa_nil)) (pe_one (pe_cmp (pc_din (hu_of hr) (pv 1) (pe_fldK (K := K) rfl (pv 0) rfl)) rfl))))), ?_⟩
    refine ⟨_, rfl, y, d, rfl, p, ?_⟩
    cases e : intD d with
    | false =>
      rw [look_intD e] at q
      exact ⟨false, rfl, iteF q⟩
    | true =>
      obtain ⟨i, rfl, rfl⟩ := int_of p e
      refine ⟨true, rfl, iteT ?_⟩
      refine ⟨_, rfl, _, rfl, x, CR, dx, _, _, rfl, hx, T.clR, T.nR, fR_i b, b, _, rfl, dgD g hb i, ?_⟩
      rw [Option.isSome_map]
      exact q
theorem ok_lenR {f : Addr} {fd : FuncData} (F : Fun K "__len__" "ReadTable.__len__" s_ReadTable_len f fd) (T : Tc K mg CW CR CE Cz) : FnOk P w K mg base CX0 1 f fd ["self"] (spLenR CR) := by
  refine F.ok sc_ReadTable_len (fun vs H Q E h => ?_) (fun cdv A outer s H vs Q E hr h => ?_)
  · obtain ⟨x, t, rfl, _⟩ := h
    rfl
  · obtain ⟨x, t, rfl, ⟨⟨dx, b, hx, hb⟩, g⟩, q⟩ := h
    refine ⟨_, (pss_one (ps_ret (pe_callB call_lenD (by rfl) T.len (by decide +kernel) (pa_cons (pe_fldK (K := K) rfl (pv 0) rfl) pa_nil)))), ?_⟩
    refine ⟨_, rfl, x, CR, dx, _, _, rfl, hx, T.clR, T.nR, fR_i b, b, _, rfl, hb, ?_⟩
    rw [encS_len]
    exact q
theorem ok_lenW {f : Addr} {fd : FuncData} (F : Fun K "__len__" "WriteTable.__len__" s_WriteTable_len f fd) (T : Tc K mg CW CR CE Cz) : FnOk P w K mg base CX0 1 f fd ["self"] (spLenW CW) := by
  refine F.ok sc_WriteTable_len (fun vs H Q E h => ?_) (fun cdv A outer s H vs Q E hr h => ?_)
  · obtain ⟨x, B, t, rfl, _⟩ := h
    rfl
  · obtain ⟨x, B, t, rfl, ⟨⟨dx, b, hx, hb⟩, _, g⟩, q⟩ := h
    refine ⟨_, (pss_one (ps_ret (pe_callB call_lenD (by rfl) T.len (by decide +kernel) (pa_cons (pe_fldK (K := K) rfl (pv 0) rfl) pa_nil)))), ?_⟩
    refine ⟨_, rfl, x, CW, dx, _, _, rfl, hx, T.clW, T.nW, fW_i b, b, _, rfl, hb, ?_⟩
    rw [encC_len]
    exact q
theorem ok_iterR {f : Addr} {fd : FuncData} (F : Fun K "__iter__" "ReadTable.__iter__" s_ReadTable_iter f fd) (T : Tc K mg CW CR CE Cz) : FnN P w K mg base CX0 1 f fd ["self"] (snIterR CR) := by
  refine fnN_mk F sc_ReadTable_iter (fun n vs H Q E h => ?_) (fun cdv A outer s H vs Q E hr h => ?_)
  · obtain ⟨x, dx, b, od, kvs, rfl, _⟩ := h
    rfl
  · obtain ⟨x, dx, b, od, kvs, rfl, hx, hb, q⟩ := h
    refine ⟨_, (pss_one (ps_ret (pe_callB call_iterK (by rfl) T.iter (by decide +kernel) (pa_cons (pe_fldK (K := K) rfl (pv 0) rfl) pa_nil)))), ?_⟩
    exact ⟨_, rfl, x, CR, dx, _, _, rfl, hx, T.clR, T.nR, fR_i b, b, od, kvs, rfl, hb, fun it ni hi => q it ni hi⟩
theorem ok_getD {f : Addr} {fd : FuncData} (F : Fun K "__getitem__" "ReadTable.__getitem__" s_ReadTable_getitem f fd) (T : Tc K mg CW CR CE Cz) (D_is_integer : Df P w K mg base 1 "is_integer" spIntD) (E_BadCode : Er1 P w K mg base "BadCode" "value" (Cz 2)) : FnG P w K mg base (L2.CX P w) 5 f fd ["self", "at"] (spGetD CR Cz) := by
  refine F.okXG sc_ReadTable_getitem (fun vs H Q E h => ?_) (fun cdv A outer s H vs Q E quiet hr h => ?_)
  · obtain ⟨x, t, y, d, rfl, _⟩ := h
    rfl
  · obtain ⟨x, t, y, d, rfl, ⟨⟨dx, b, hx, hb⟩, g⟩, hd, h⟩ := h
    refine ⟨_, (pss_cons (ps_if (PW.pt (pw_or (pt_not (pt_val (pe_c D_is_integer hr (by decide) (by rfl) (pa_cons (pv 1) pa_nil)))) (pw_or1 (pt_cmp (pc_dnotin (hu_of hr) (pv 1) (pe_fldK (K := K) rfl (pv 0) rfl))))))
        (pss_one (ps_raise rfl (takes_of rfl rfl rfl rfl) (pmk_one E_BadCode quiet hr (by decide) (by rfl) (pa_cons (pv 1) pa_nil))))
        pss_nil)
      (pss_one (ps_ret (pe_dget (hu_of hr) (pe_fldK (K := K) rfl (pv 0) rfl) (pv 1) (fun _ _ => rfl))))), ?_⟩
    refine ⟨_, rfl, y, d, rfl, hd.pw, ?_⟩
    cases e : intD d with
    | false =>
      rcases h with ⟨_, o⟩ | ⟨s, e2, _⟩
      · exact ⟨false, rfl, iteT ⟨_, rfl, by show 1 ≤ 1000; decide, fun a na => rz1 E_BadCode.oc E_BadCode.no (o.rz (Same.refl H) hd.th) a na⟩⟩
      · rw [look_intD e] at e2
        cases e2
    | true =>
      obtain ⟨i, rfl, rfl⟩ := int_of hd.pw e
      refine ⟨true, rfl, iteF ?_⟩
      refine ⟨_, rfl, _, rfl, x, CR, dx, _, _, rfl, hx, T.clR, T.nR, fR_i b, b, _, rfl, dgD g hb i, _, rfl, ?_⟩
      rw [Option.isSome_map]
      rcases h with ⟨e2, o⟩ | ⟨s, e2, q⟩
      · rw [e2]
        exact iteT ⟨_, rfl, by show 1 ≤ 1000; decide, fun a na => rz1 E_BadCode.oc E_BadCode.no (o.rz (Same.refl H) hd.th) a na⟩
      · rw [e2]
        refine iteF ⟨_, rfl, x, CR, dx, _, _, rfl, hx, T.clR, T.nR, fR_i b, _, rfl, b, V.str (Sx s), rfl, ?_, q⟩
        have dg := dgD g hb i
        rw [e2] at dg
        exact dg
theorem ok_eqD {f : Addr} {fd : FuncData} (F : Fun K "__eq__" "ReadTable.__eq__" s_ReadTable_eq f fd) (T : Tc K mg CW CR CE Cz) : FnOk P w K mg base CX0 1 f fd ["self", "other"] (spEqD K CR) := by
  refine F.ok sc_ReadTable_eq (fun vs H Q E h => ?_) (fun cdv A outer s H vs Q E hr h => ?_)
  · obtain ⟨x, t, y, rfl, _⟩ := h
    rfl
  · obtain ⟨x, t, y, rfl, ⟨⟨dx, b, hx, hb⟩, g⟩, h⟩ := h
    refine ⟨_, (pss_one (ps_ret (pe_and (pe_callB call_isi (by rfl) T.isinstance (by decide +kernel) (pa_cons (pv 1) (pa_cons (pe_gv T.gReadTable (by rfl)) pa_nil))) (pe_one (pe_cmpR (op_eqDD (K := K) rfl hr) (pe_fldK (K := K) rfl (pv 0) rfl) (pe_fldK (K := K) rfl (pv 1) rfl) (nomark _)))))), ?_⟩
    rcases h with ⟨z, rfl, ⟨⟨dy, c, hy, hc⟩, _⟩, q⟩ | ⟨ty, tx, e, q⟩
    · refine ⟨_, rfl, _, .ref CR, .ref CR, .ref CR, true, rfl, .own _, .base (.ins hy T.clR T.rA T.tB T.tC T.rD), T.RR, true, rfl, iteT ?_⟩
      refine ⟨_, rfl, x, CR, dx, _, _, rfl, hx, T.clR, T.nR, fR_i b, _, rfl, z, CR, dy, _, _, rfl, hy, T.clR, T.nR, fR_i c, b, c, _, _, rfl, rfl, .inl hb, .inl hc, ?_, ?_, q⟩
      · rfl
      · rintro p hp
        obtain ⟨z, hz, rfl⟩ := List.mem_map.mp hp
        have m := (imsL_mem hz).1
        obtain ⟨_, d, e, hd⟩ := g.look m
        have e2 : lookT (imsL (List.range 256) t) z.1 = some z.2 := by rw [look_ims256 g, m]
        refine ⟨_, _, sSome e2, .str _, .str _, ?_⟩
        have ok : PyData.strOk (Sx z.2) = true := ok_sx fun c hc => by
          rw [e] at hc
          rw [List.mem_singleton.mp hc]
          exact hd
        show (PyData.canLay0 (.str (Sx z.2)) && decide (PyData.depth (.str (Sx z.2)) ≤ 64)) = true
        simp only [PyData.canLay0, ok, PyData.depth, Bool.true_and]
        exact decide_eq_true (by omega)
    · exact ⟨_, rfl, _, .ref CR, ty, .ref CR, false, rfl, .own _, tx, e, false, rfl, iteF q⟩
theorem ok_first_unreadD {f : Addr} {fd : FuncData} (F : Fun K "first_unread" "first_unread" s_first_unread f fd) (T : Tc K mg CW CR CE Cz) (D_inR : Mf P w K mg base 2 CR "__contains__" (spInD CR)) : FnOk P w K mg base CX0 3 f fd ["numbers", "read"] (spFUD CR) := by
  refine F.ok sc_first_unread (fun vs H Q E h => ?_) (fun cdv A outer s H vs Q E hr h => ?_)
  · obtain ⟨a, x, t, ds, rfl, _⟩ := h
    rfl
  · obtain ⟨a, x, t, ds, rfl, ⟨⟨xs, ha, pr⟩, few⟩, m, q1, q2⟩ := h
    refine ⟨_, (pss_cons (ps_for PassesOwn.never rfl (pi_enumQ (by rfl) T.enumerate (pa_cons (pv 0) pa_nil)) (pg_tup (by rfl) (pgs_cons (pg_name (i := 2) sc_first_unread.nd rfl (.inl rfl)) (pgs_cons (pg_name (i := 3) sc_first_unread.nd rfl (.inl rfl)) pgs_nil)))
        (pss_one (ps_if (pt_cmpR (op_notInO D_inR hr (by decide)) (pv 3) (pv 1) rfl)
          (pss_one (ps_ret (pv 2)))
          pss_nil)))
      (pss_one (ps_ret pe_non))), ?_⟩
    obtain ⟨b, sq⟩ := row_sq (K := K) ha
    refine ⟨a, b, rfl, ⟨xs, sq⟩, for_it (walk_enumQ (K := K) (b := b) (a := a) (xs := xs)) (fun i σ H2 => (∃ v2 v3 : Option V, σ = [some (.ref a), some (.ref x), v2, v3]) ∧ Same H H2 ∧ ∀ d ∈ ds.take i, (lookD t d).isNone = false) ⟨⟨none, none, rfl⟩, Same.refl H, fun c h => by simp at h⟩ ?_ ?_ ?_⟩
    · rintro i σ H2 hi ⟨_, s2, _⟩
      exact sq.same s2
    · rintro i y σ H2 H2' hi ⟨⟨v2, v3, rfl⟩, s2, hk⟩ ⟨tq, y, rfl, ntq, rfl, hy⟩
      obtain ⟨d2, hd2, hh⟩ := pair_get pr hy
      refine ⟨tq, _, rfl, .inl (.inl upd_same), rfl, _, _, rfl, _, _, rfl, rfl, ?_⟩
      have s3 := same_put (s := s2) (o := .tup [.int (i : Nat), y]) ntq
      have m3 := m.same s3
      obtain ⟨dx, c, hx, hc⟩ := m3.at_
      refine ⟨_, rfl, _, rfl, x, dx, _, rfl, hx, x, t, y, d2, rfl, m3, (hh.same s3).pw, _, rfl, _, rfl, ?_⟩
      cases e : lookD t d2 with
      | some s =>
        refine iteF ⟨⟨_, _, rfl⟩, s3, fun d hd => ?_⟩
        rw [List.take_add_one, hd2] at hd
        rcases List.mem_append.mp hd with h | h
        · exact hk d h
        · rw [List.mem_singleton.mp h, e]
          rfl
      | none => exact iteT ⟨_, rfl, q1 i (find_idx hd2 hk (by rw [e]; rfl)) _ s3⟩
    · rintro σ H2 ⟨⟨v2, v3, rfl⟩, s2, hk⟩
      have e := pair_len pr
      rw [List.take_of_length_le (by omega)] at hk
      exact q2 (List.findIdx?_eq_none_iff.mpr hk) H2 s2
end
theorem unread_no {t : Tab} {ds : List PyData} (h : unread t ds = none) : ∀ d ∈ ds, ∃ s, lookD t d = some s := fun d hd => by
  have h2 := List.findIdx?_eq_none_iff.mp h d hd
  cases e : lookD t d with
  | none =>
    rw [e] at h2
    cases h2
  | some s => exact ⟨s, rfl⟩
theorem nice_nat : ∀ n : Nat, n ≤ 2100 → NiceD (.int ((n : Nat) : Int)) := fun n hn => by
  have h : ∀ n ∈ List.range 2101, (PyData.int ((n : Nat) : Int)).shown.length ≤ 3000 ∧ PyData.strOk (PyData.int ((n : Nat) : Int)).shown = true ∧ (PyData.int ((n : Nat) : Int)).showable = true := by decide +kernel
  obtain ⟨h1, h2, h3⟩ := h n (List.mem_range.mpr (by omega))
  exact nice_int h1 h2 h3
theorem lookD_one {t : Tab} (g : GoodS t) {d : PyData} {s : List Nat} (h : lookD t d = some s) : ∃ c, s = [c] ∧ isLt c := by
  cases d with
  | int i =>
    have h2 : (if 0 ≤ i then lookT t i.toNat else none) = some s := h
    by_cases e : 0 ≤ i
    · rw [if_pos e] at h2
      exact (g.look h2).2
    · rw [if_neg e] at h2
      cases h2
  | _ => cases h
theorem imgs_len {t : Tab} (g : GoodS t) : ∀ {ds : List PyData}, (∀ d ∈ ds, ∃ s, lookD t d = some s) → (imgsD t ds).length = ds.length
  | [], _ => rfl
  | d :: ds, h => by
    obtain ⟨s, e⟩ := h d List.mem_cons_self
    obtain ⟨c, rfl, _⟩ := lookD_one g e
    have ih := imgs_len g (ds := ds) fun d hd => h d (List.mem_cons_of_mem _ hd)
    unfold imgsD at ih ⊢
    rw [List.map_cons, List.flatten_cons, List.length_append, ih, e, List.length_cons]
    show 1 + ds.length = ds.length + 1
    omega
section
variable {P : Program} {w : World} {K : PySem.W.Frag} {mg : Str → Option Value} {base : Heap} {CW CR CE : Addr} {Cz : Nat → Addr}
theorem ok_callD {f : Addr} {fd : FuncData} (F : Fun K "__call__" "ReadTable.__call__" s_ReadTable_call f fd) (T : Tc K mg CW CR CE Cz) (D_check_numbers : DfG P w K mg base (L2.CX P w) 5 "check_numbers" (spCkN Cz)) (D_first_unread : Df P w K mg base 3 "first_unread" (spFUD CR)) (D_bounded : DfG P w K mg base (L2.CX P w) 5 "bounded" (spBndX Cz))
    (E_Unread : Er1 P w K mg base "Unread" "at" (Cz 3)) : FnG P w K mg base (L2.CX P w) 6 f fd ["self", "numbers"] (spCaD CR Cz) := by
  refine F.okXG sc_ReadTable_call (fun vs H Q E h => ?_) (fun cdv A outer s H vs Q E quiet hr h => ?_)
  · obtain ⟨x, t, y, rfl, _⟩ := h
    rfl
  · obtain ⟨x, t, y, rfl, m, h⟩ := h
    refine ⟨_, (pss_cons (ps_expr (pe_cG D_check_numbers quiet (passTk (takes_of rfl rfl rfl rfl)) hr (by decide) (by rfl) (pa_cons (pv 1) pa_nil)))
      (pss_cons (ps_set (i := 2) sc_ReadTable_call.nd rfl (.inl rfl) (pe_c D_first_unread hr (by decide) (by rfl) (pa_cons (pv 1) (pa_cons (pv 0) pa_nil))))
      (pss_cons (ps_if (pt_cmpR op_notN (pv 2) pe_non (nomark _))
        (pss_one (ps_raise rfl (takes_of rfl rfl rfl rfl) (pmk_one E_Unread quiet hr (by decide) (by rfl) (pa_cons (pv 2) pa_nil))))
        pss_nil)
      (pss_one (ps_ret (pe_cG D_bounded quiet (passTk (takes_of rfl rfl rfl rfl)) hr (by decide) (by rfl) (pa_cons (pe_joinK (K := K) rfl pe_str (pe_lc (own := [("number", 3)]) (g := gName 3) (by rfl) sc_ReadTable_call.nd (pi_seq (pv 1)) (blkOk_by (own := [("number", 3)]) (N := n_ReadTable_call) (sc := defScope s_ReadTable_call) (by decide +kernel)) (fun _ _ _ _ _ => (pg_name (i := 3) sc_ReadTable_call.nd rfl (.inl rfl))) (fun _ _ _ _ _ => pts_nil) (fun _ _ _ _ _ => (pe_dget (hu_of hr) (pe_fldK (K := K) rfl (pv 0) rfl) (pv 3) (fun _ _ => rfl))))) pa_nil))))))), ?_⟩
    rcases h with ⟨d, hd, n, o⟩ | ⟨a, ds, rfl, rw0, hb, hs⟩
    · exact ⟨_, rfl, .inl ⟨y, d, rfl, hd, n, o⟩⟩
    refine ⟨_, rfl, .inr ⟨a, ds, rfl, rw0, ?_⟩⟩
    unfold dueR at hb hs
    cases e : ds.find? (fun d => !numD d) with
    | some d =>
      rw [e] at hb
      exact .inl ⟨d, rfl, hb _ rfl⟩
    | none =>
      rw [e] at hb hs
      dsimp only at hb hs
      refine .inr ⟨rfl, fun H1 s1 => ?_⟩
      refine ⟨_, rfl, _, rfl, a, x, t, ds, rfl, rw0.same s1, m.same s1, fun i ei H2 s2 => ?_, fun en H2 s2 => ?_⟩
      · rw [ei] at hb
        have s3 : Same H H2 := fun b o e => s2 _ _ (s1 _ _ e)
        have hi : i < ds.length := (List.findIdx?_eq_some_iff_getElem.mp ei).1
        have few := rw0.few
        exact ⟨_, rfl, rfl, true, rfl, iteT ⟨_, rfl, by show 1 ≤ 1000; decide, fun a na => rz1 E_Unread.oc E_Unread.no (((hb _ rfl).same s3).rz (Same.refl _) (th_int (nice_nat i (by omega)))) a na⟩⟩
      · rw [en] at hb hs
        dsimp only at hb hs
        have s3 : Same H H2 := fun b o e => s2 _ _ (s1 _ _ e)
        have hin := unread_no en
        have il := imgs_len m.g hin
        have few := rw0.few
        obtain ⟨⟨xs, ha, pr⟩, _⟩ := rw0.same s3
        obtain ⟨⟨dx, b, hx, hb2⟩, g⟩ := m.same s3
        obtain ⟨k, sq⟩ := row_sq (K := K) ha
        obtain ⟨ss, ess⟩ : ∃ ss, ss = ds.map fun d => (lookD t d).getD [] := ⟨_, rfl⟩
        have hl : ((ss.map Sx).map V.str).length = ds.length := by rw [ess, List.length_map, List.length_map, List.length_map]
        refine ⟨_, rfl, rfl, false, rfl, iteF ?_⟩
        refine ⟨⟨_, rfl⟩, a, k, rfl, ⟨xs, sq⟩, fun D nD => lc_it (walk_seq (K := K) (b := k) (a := a) (xs := xs)) (fun i H4 => H4 = upd H2 D (.lst (((ss.map Sx).map V.str).take i))) rfl ?_ ?_ ?_⟩
        · rintro i H4 hi rfl
          exact sq.same (same_put (s := Same.refl H2) nD)
        · rintro i y H4 H4' hi rfl ⟨eH, hy⟩
          obtain ⟨d2, hd2, hh⟩ := pair_get pr hy
          have s4 : Same H2 (upd H2 D (.lst (((ss.map Sx).map V.str).take i))) := same_put (s := Same.refl H2) nD
          obtain ⟨s5, e5⟩ := hin d2 (List.mem_of_getElem? hd2)
          have iD : intD d2 = true := by
            cases z : intD d2 with
            | true => rfl
            | false =>
              rw [look_intD z] at e5
              cases e5
          obtain ⟨n, rfl, rfl⟩ := int_of hh.pw iD
          have hzi : ((ss.map Sx).map V.str)[i]? = some (V.str (Sx s5)) := by
            rw [ess, List.getElem?_map, List.getElem?_map, List.getElem?_map, hd2]
            show some (V.str (Sx ((lookD t (.int n)).getD []))) = _
            rw [e5]
            rfl
          have dg := dgD g (s4 _ _ hb2) n
          rw [e5] at dg
          rw [eH]
          refine ⟨rfl, _, rfl, x, CR, dx, _, _, rfl, s4 _ _ hx, T.clR, T.nR, fR_i b, _, rfl, b, V.str (Sx s5), rfl, dg, _, upd_same, ?_, ?_⟩
          · rw [List.length_take, sizeLine_eq]
            omega
          · rw [upd_upd, List.take_add_one, hzi]
            rfl
        · rintro H4 rfl
          have e0 := pair_len pr
          rw [List.take_of_length_le (by rw [hl]; omega)]
          refine ⟨Str.empty, D, ss.map Sx, rfl, rfl, .inl (SqL.of upd_same), ?_, ?_⟩
          · have h1 : ((ss.map Sx).map fun x => x.length).sum ≤ _ := sum_le (fun x => x.length) 1 _ fun y hy => by
              obtain ⟨s3, hs3, rfl⟩ := List.mem_map.mp hy
              rw [ess] at hs3
              obtain ⟨c, hc, rfl⟩ := List.mem_map.mp hs3
              obtain ⟨s2, e2⟩ := hin c hc
              rw [Sx_len, e2]
              obtain ⟨d, rfl, _⟩ := lookD_one g e2
              exact Nat.le_refl _
            have h3 : (ss.map Sx).length = ds.length := by rw [ess, List.length_map, List.length_map]
            rw [h3] at h1 ⊢
            show _ + _ * 0 ≤ _
            omega
          · rw [join_Sx]
            have ei : ss.flatten = imgsD t ds := by
              rw [ess]
              rfl
            have s6 : Same H (upd H2 D (.lst ((ss.map Sx).map V.str))) := same_put (s := s3) nD
            rw [ei]
            refine ⟨imgsD t ds, rfl, by omega, ?_⟩
            by_cases l : 2000 < ds.length
            · rw [if_pos l] at hb
              exact .inr ⟨by omega, (hb _ rfl).same s6⟩
            · rw [if_neg l] at hs
              exact .inl ⟨by omega, hs _ rfl _ s6⟩
end
end V8

set_option Elab.async false
set_option linter.all false
set_option maxRecDepth 100000
set_option maxHeartbeats 8000000
/-! A table of signs made, or refused; its signs by what they do. -/
namespace V8
open PySem PySem.Spec PyProof.Rows L2 ItX MX
def notDict : PyData → Bool
  | .dict _ => false
  | _ => true
theorem nodict_ty {K : PySem.W.Frag} {H : Hp} {x : V} {d : PyData} (p : PyW H x d) (n : notDict d = true) : ∃ t, TyX K H x t ∧ PySem.W.kitOne K t (.type "dict") = some false := by
  cases p with
  | non => exact ⟨_, .base .non, kit_ty (by decide +kernel)⟩
  | bl b => exact ⟨_, .base (.bl b), kit_ty (by decide +kernel)⟩
  | int i => exact ⟨_, .base (.int i), kit_ty (by decide +kernel)⟩
  | str z => exact ⟨_, .base (.str z), kit_ty (by decide +kernel)⟩
  | tup h r => exact ⟨_, .base (.tup h), kit_ty (by decide +kernel)⟩
  | lst h r => exact ⟨_, .base (.lst h), kit_ty (by decide +kernel)⟩
  | dic h r => cases n
/-- what is refused -/
def rsS (w : World) (Cz : Nat → Addr) (y : V) (H : Hp) (E : XK) : Prop := (∃ d, Held H y d ∧ notDict d = true ∧ OutB Cz H (.one 0 (.str "signs")) E) ∨
  (∃ a ks d, y = .ref a ∧ TabM w H a ks ∧ ks.find? (fun d => !numD d) = some d ∧ OutB Cz H (.one 2 d) E) ∨ (∃ a dt b, y = .ref a ∧ TabA H a dt ∧ toldS dt = some b ∧ OutB Cz H b E) ∨ (∃ a xs, y = .ref a ∧ H a = some (.lst xs) ∧ OutB Cz H (.one 0 (.str "signs")) E)
theorem rsS.same {w : World} {Cz : Nat → Addr} {y : V} {H H2 : Hp} {E : XK} (r : rsS w Cz y H E) (s : Same H H2) : rsS w Cz y H2 E := by
  rcases r with ⟨d, h, n, o⟩ | ⟨a, ks, d, e, m, f, o⟩ | ⟨a, dt, b, e, m, f, o⟩ | ⟨a, xs, e, h, o⟩
  · exact .inl ⟨d, h.same s, n, o.same s⟩
  · exact .inr (.inl ⟨a, ks, d, e, m.same s, f, o.same s⟩)
  · exact .inr (.inr (.inl ⟨a, dt, b, e, m.same s, f, o.same s⟩))
  · exact .inr (.inr (.inr ⟨a, xs, e, s _ _ h, o.same s⟩))
def spSgnX (K : PySem.W.Frag) (w : World) (Cz : Nat → Addr) : Sp := fun vs H Q E => spSgnN K Cz vs H Q E ∨ spSgnM w Cz vs H Q E ∨ spSgnK Cz vs H Q E
def spIniX (w : World) (Cz : Nat → Addr) : Sp := fun vs H _ E => ∃ x y, vs = [x, y] ∧ rsS w Cz y H E
def pS : List Str := ["self", "signs"]
section
variable {P : Program} {w : World} {K : PySem.W.Frag} {mg : Str → Option Value} {base : Heap} {CW CR CE : Addr} {Cz : Nat → Addr}
theorem ok_sgnX {f : Addr} {fd : FuncData} (F : Fun K "check_signs" "check_signs" s_check_signs f fd) (T : Tc K mg CW CR CE Cz) (D_is_letter : Df P w K mg base 1 "is_letter" (spWordD 1 1)) (D_is_number : Df P w K mg base 3 "is_number" spNumD)
    (E_BadTable : Er1 P w K mg base "BadTable" "part" (Cz 0)) (E_BadLetter : Er1 P w K mg base "BadLetter" "value" (Cz 1)) (E_BadCode : Er1 P w K mg base "BadCode" "value" (Cz 2)) : FnG P w K mg base (L2.CX P w) 5 f fd ["signs"] (spSgnX K w Cz) :=
  (ok_sgnN F T D_is_letter D_is_number E_BadTable E_BadLetter E_BadCode).both ((ok_sgnM F T D_is_letter D_is_number E_BadTable E_BadLetter E_BadCode).both (ok_sgnK F T D_is_letter D_is_number E_BadTable E_BadLetter E_BadCode))
theorem ok_initX {f : Addr} {fd : FuncData} (F : Fun K "__init__" "ReadTable.__init__" s_ReadTable_init f fd) (T : Tc K mg CW CR CE Cz) (D_check_signs : DfG P w K mg base (L2.CX P w) 5 "check_signs" (spSgnX K w Cz)) : FnG P w K mg base (L2.CX P w) 6 f fd ["self", "signs"] (spIniX w Cz) := by
  refine F.okXG sc_ReadTable_init (fun vs H Q E h => ?_) (fun cdv A outer s H vs Q E quiet hr h => ?_)
  · obtain ⟨x, y, rfl, _⟩ := h
    rfl
  · obtain ⟨x, y, rfl, h⟩ := h
    refine ⟨_, (pss_cons (ps_expr (pe_cG D_check_signs quiet (passTk (takes_of rfl rfl rfl rfl)) hr (by decide) (by rfl) (pa_cons (pv 1) pa_nil)))
      (pss_one (ps_fld (pv 0) (pe_dc (own := [("number", 2)]) (g := gName 2) (by rfl) sc_ReadTable_init.nd (pi_range1 (by rfl) T.range (pa_cons (pe_gv T.gNUMBERS (by rfl)) pa_nil)) (blkOk_by (own := [("number", 2)]) (N := n_ReadTable_init) (sc := defScope s_ReadTable_init) (by decide +kernel)) (fun _ _ _ _ _ => (pg_name (i := 2) sc_ReadTable_init.nd rfl (.inl rfl))) (fun _ _ _ _ _ => (pts_one (pt_cmp (pc_din (hu_of hr) (pv 2) (pv 1))))) (fun _ _ _ _ _ => (pv 2)) (fun _ _ _ _ _ => (pe_dget (hu_of hr) (pv 1) (pv 2) (fun _ _ => rfl)))) rfl))), ?_⟩
    rcases h with ⟨d, hd, n, o⟩ | ⟨a, ks, d, rfl, m, f, o⟩ | ⟨a, dt, b, rfl, m, f, o⟩ | ⟨a, xs, rfl, hx, o⟩
    · obtain ⟨t, ty, k⟩ := nodict_ty (K := K) hd.pw n
      exact ⟨_, rfl, .inl ⟨y, t, rfl, ty, k, o⟩⟩
    · exact ⟨_, rfl, .inr (.inl ⟨a, ks, d, rfl, m, f, o⟩)⟩
    · exact ⟨_, rfl, .inr (.inr ⟨a, dt, b, rfl, m, f, o⟩)⟩
    · exact ⟨_, rfl, .inl ⟨_, _, rfl, .base (.lst hx), kit_ty (by decide +kernel), o⟩⟩
theorem ok_init_all {f : Addr} {fd : FuncData} (F : Fun K "__init__" "ReadTable.__init__" s_ReadTable_init f fd) (T : Tc K mg CW CR CE Cz) (D0 : Df P w K mg base 5 "check_signs" spSgnR) (D_check_signs : DfG P w K mg base (L2.CX P w) 5 "check_signs" (spSgnX K w Cz)) :
    FnG P w K mg base (L2.CX P w) 6 f fd pS (fun vs H Q E => spIniR CR vs H Q E0 ∨ spIniX w Cz vs H Q E) := FnG.either0 (ok_initR F T D0).quiet (ok_initX F T D_check_signs)
end
/-- the class by its name -/
structure MkS (P : Program) (w : World) (K : PySem.W.Frag) (mg : Str → Option Value) (base : Heap) (CR : Addr) (Cz : Nat → Addr) : Prop where
  ex : ∃ (f : Addr) (fd : FuncData), Mk K CR f ∧ FnG P w K mg base (L2.CX P w) 6 f fd pS (fun vs H Q E => spIniR CR vs H Q E0 ∨ spIniX w Cz vs H Q E) ∧ mg "ReadTable" = some (.ref CR) ∧ Binds K fd pS [] ∧ KBn K fd pS 1 ["signs"] (fun us ws => us ++ ws) (fun vs zs => vs ++ zs)
/-- the table at x, its own dict a new one -/
def RdN (CR : Addr) (H H' : Hp) (x : Addr) (t : Tab) : Prop := ∃ dx b, H b = none ∧ H' x = some (.ins CR dx (fR b)) ∧ H' b = some (.dK (encS (imsL (List.range 256) t)))
/-- made, or refused -/
def mkS (w : World) (CR : Addr) (Cz : Nat → Addr) (vs : List V) (H : Hp) (Q : VK) (E : XK) : Prop := ∃ y, vs = [y] ∧ ((∃ d t, y = .ref d ∧ SigA H d t ∧ ∀ x H', H x = none → RdU CR H' x t → Same H H' → RdN CR H H' x t → Q (.ref x) H') ∨ rsS w Cz y H E)
theorem mkS.init {w : World} {CR : Addr} {Cz : Nat → Addr} {vs : List V} {H : Hp} {Q : VK} {E : XK} (h : mkS w CR Cz vs H Q E) (x dx : Addr) (hx : H x = none) (hdx : H dx = none) (ne : dx ≠ x) :
    spIniR CR (.ref x :: vs) (upd (upd H dx (.own x)) x (.ins CR dx [])) (fun v H2 => v = .non ∧ Q (.ref x) H2) E0 ∨ spIniX w Cz (.ref x :: vs) (upd (upd H dx (.own x)) x (.ins CR dx [])) (fun v H2 => v = .non ∧ Q (.ref x) H2) E := by
  obtain ⟨y, rfl, h⟩ := h
  have up : Same H (upd (upd H dx (.own x)) x (.ins CR dx [])) := fun b o eo => by
    rw [upd_ne (ne_of_none eo hx), upd_ne (ne_of_none eo hdx)]
    exact eo
  rcases h with ⟨d, t, rfl, cd, q⟩ | r
  · refine .inl ⟨x, dx, d, t, rfl, upd_same, cd.same up, fun H' b nb h1 h2 h3 => ⟨rfl, q x H' hx ⟨⟨dx, b, h1, h2⟩, cd.2⟩ ?_ ⟨dx, b, ?_, h1, h2⟩⟩⟩
    · exact fun b o eo => h3 _ _ (up _ _ eo) (ne_of_none eo hx)
    · cases e : H b with
      | none => rfl
      | some o =>
        rw [up _ _ e] at nb
        cases nb
  · exact .inr ⟨_, y, rfl, r.same up⟩
theorem mkS.len {w : World} {CR : Addr} {Cz : Nat → Addr} {vs : List V} {H : Hp} {Q : VK} {E : XK} (h : mkS w CR Cz vs H Q E) : vs.length = 1 := by
  obtain ⟨y, rfl, _⟩ := h
  rfl
def tMkS (w : World) (CR : Addr) (Cz : Nat → Addr) (E : XK) (t : TA) : TE := fun σ H Q => t σ H fun vs H1 => mkS w CR Cz vs H1 Q E
section
variable {X : Cx} {j : Nat} {CR : Addr} {Cz : Nat → Addr} {p pos : Pos} {e : Expr} {es : List Expr} {kws : List Keyword} {t tk : TA} {E : XK} {w : World}
theorem pe_mkS (hw : X.w = w) (M : MkS X.prog X.w X.K X.mg X.base CR Cz) (g : Quiet X.A) (out : Passes (L2.CX X.prog X.w) X E) (hr : Room j X.A) (hj : 7 ≤ j) (hg : Gl X "ReadTable") (ha : PA X (e :: es) t) (he : starEach (e :: es) X.env = (false, eval e X.env) :: starEach es X.env := by rfl) (hpl : (backTo pos (starEach es X.env)).any (·.1) = false := by rfl) :
    PE X (.Call (.Name "ReadTable" p) (e :: es) [] pos) (tMkS w CR Cz E t) := by
  subst hw
  obtain ⟨f, fd, M, F, hm, b0, k2⟩ := M.ex
  refine ⟨fun pins s σ H Q I h => ?_⟩
  refine wpAny_Call_Name_kw (ld_glob I hg hm ?_ (by decide))
  refine PySem.W.callWith_K (h₀ := X.base) I.ok.mod.kin M.kp (thn (ha.run pos pins s σ H _ I h) fun us s1 z => ?_) he hpl
  obtain ⟨vs, H1, I1, r, q⟩ := z
  refine ⟨I1.kIn, ?_⟩
  have l := q.len
  have l2 := r.length
  exact makeQ (ks := []) (ws := []) (zs := []) (gU := fun us _ => us ++ []) (gV := fun vs _ => vs ++ []) M F g (hr.mono hj) (fun s us2 kin n => b0 s us2 kin (by show (us2 ++ []).length = 2; rw [List.append_nil, n, List.nil_append, ← l2, l])) (fun r => r.append .nil) out I1 r (fun x dx a b c => by rw [List.append_nil]; exact q.init x dx a b c)
theorem pe_mkSK (hw : X.w = w) (M : MkS X.prog X.w X.K X.mg X.base CR Cz) (g : Quiet X.A) (out : Passes (L2.CX X.prog X.w) X E) (hr : Room j X.A) (hj : 7 ≤ j) (hg : Gl X "ReadTable") (hkw : PK X kws tk) (hall : (backToKw pos (keywordEach kws X.env)).all (·.1.isSome) = true := by rfl) (hks : (backToKw pos (keywordEach kws X.env)).filterMap (·.1) = (["signs"] : List Str) := by rfl)
    (hpl : ((backTo pos (starEach [] X.env)).any (·.1) || (backToKw pos (keywordEach kws X.env)).any (·.1.isNone)) = false := by rfl) : PE X (.Call (.Name "ReadTable" p) [] kws pos) (tMkS w CR Cz E tk) := by
  subst hw
  obtain ⟨f, fd, M, F, hm, b0, k2⟩ := M.ex
  refine ⟨fun pins s σ H Q I h => ?_⟩
  refine wpAny_Call_Name_kw (ld_glob I hg hm ?_ (by decide))
  refine PySem.W.callWith_KW0 (h₀ := X.base) I.ok.mod.kin M.kp hall ?_ hpl
  refine thn (hkw.run pos pins s σ H _ I h) fun ws s2 z => ?_
  obtain ⟨zs, H2, I2, rz, q2⟩ := z
  refine ⟨I2.kIn, ?_⟩
  rw [hks]
  have l := q2.len
  rw [rz.length] at l
  exact makeQ (us := []) (xs := []) (zs := zs) (gU := fun us ws => us ++ ws) (gV := fun vs zs => vs ++ zs) M F g (hr.mono hj) (fun s us2 kin n => k2.to s us2 ws kin n (by rw [l]; rfl)) (fun r => k2.rel r rz) out I2 .nil q2.init
end
end V8

set_option Elab.async false
set_option linter.all false
set_option maxRecDepth 100000
set_option maxHeartbeats 4000000
/-! Where no repr is under way: lambdas, kept or written on the spot, called by the def that gets them. -/
namespace LamX
open PySem PySem.Spec PyProof.Rows L2
/-- what a lambda of X must be there -/
structure LamG (X : Cx) (k : Nat) (params : Arguments) (body : Expr) (scope : Scope) (t : XK → TE) : Prop where
  own : LamS X.env.scope scope
  bind : ∀ (q : Str) (cl : List (Str × Addr)) (pm cv ctv : Value), bindArgs (PySem.W.kla_fn "<lambda>" q params body scope cl pm cv ctv) ⟨[], []⟩ = pure []
  reads : ∀ (A : Around) (outer : List Env) (s : Shared) (H : Hp) (E : XK) (f c' : Addr), Quiet A → Room k (A.deeper (lamEnv X scope s.heap.objs.size f c')) → PE (lamCx X A outer s H E scope f c') body (t E)
section
variable {X : Cx} {pins : List (Addr × Obj)} {σ : L2.St} {H : Hp} {s : Shared}
/-- a() in the def that got the lambda -/
theorem act_quiet {CXg : CXT} {Eg : XK} {Ng : List Str} {qg : Str} {sg : Scope} {g f c1 : Addr} {cdg pm ctv : Value} {params : Arguments} {body : Expr} {scope : Scope} {k i : Nat} {a : Str} {pn : List (Addr × Obj)} {xe : Value → Shared → Prop} {W : WX} {E : XK} {t : XK → TE} {p1 p2 : Pos}
    (I : Inv X pins σ H s) (qu : Quiet X.A) (l : LamG X k params body scope t) (tk : Takes ((cxOf CXg X.prog X.w X.K X.mg X.base Ng qg sg g cdg X.A X.stack s H Eg).tr pn xe) W) (hW : ∀ cls d σ' H', E cls d H' → W cls d σ' H')
    (room : Room (k + 1) (X.A.deeper (envOfC qg sg s.heap.objs.size g cdg))) (hN : Ng[i]? = some a) (hv : Vis sg a) (hd : (a == ("__debug__" : Str)) = false := by decide) (hcd : (a == ("__classdict__" : Str)) = false := by decide) :
    PE ((cxOf CXg X.prog X.w X.K X.mg X.base Ng qg sg g cdg X.A X.stack s H Eg).tr pn xe) (.Call (.Name a p1) [] [] p2)
      (fun σZ HZ Q => σZ[i]? = some (some (.ref f)) ∧ (HZ f = some (FnO f (lamObj X params body scope pm ctv c1)) ∧ HZ c1 = some (CodeO c1 (X.env.qual ++ "<lambda>"))) ∧ t E σ HZ Q) := by
  have own := l.own
  refine ⟨fun pinsZ sZ σZ HZ Q IZ h => ?_⟩
  obtain ⟨at_, ⟨kf, kc⟩, rest⟩ := h
  have name := (pe_var (pos := p1) (i := i) hN hv hd hcd).run pinsZ sZ σZ HZ (fun v H1 => v = .ref f ∧ H1 = HZ) IZ ⟨.ref f, at_, rfl, rfl⟩
  refine wpAny_Call_Name_kw (thn name fun u s1 z => ?_)
  obtain ⟨v, H1, J, rel, rfl, rfl⟩ := z
  obtain rfl : u = Value.ref f := rel
  have obj : s1.heap.get? f = some (lamObj X params body scope pm ctv c1) := (J.hok f _ kf).1
  have code := (J.hok c1 _ kc).1
  obtain ⟨oc, vs, tt, code1, code2, code3⟩ := code
  refine PySem.W.callWith_F0 ⟨_, _, _, _, obj⟩ ?_
  have ran : codeAny (model X.prog X.w) (X.A.deeper (envOfC qg sg s.heap.objs.size g cdg)) (.call (.ref f) ⟨[], []⟩) (CR (L2.CX X.prog X.w) (envOfC qg sg s.heap.objs.size g cdg :: X.stack) X.prog X.w H1 s1 Q E) s1 := by
    refine PySem.W.kla_callFunE room.depth obj rfl own.co own.gen rfl ⟨c1, oc, vs, tt, rfl, code1, code2, code3⟩ ?_
    rw [l.bind]
    refine wpAny_pure (wpAny_newFunctionEnv (fun y hy => (own.own y hy).2) (fun y hy => absurd hy (by simp)) (fun h₁ hns hsb => ?_) own.kind)
    refine ⟨J.nolimit.fresh _ hsb, ?_⟩
    have stay : ∀ b o, s1.heap.get? b = some o → h₁.get? b = some o := fun b o e => hsb.extBut b o (Nat.ne_of_lt (Heap.lt_size e)) (Heap.get?_push_of_some _ e)
    have start : Inv (lamCx X (X.A.deeper (envOfC qg sg s.heap.objs.size g cdg)) (envOfC qg sg s.heap.objs.size g cdg :: X.stack) s1 H1 E scope f c1) [] σ H1 { s1 with heap := h₁, toks := s1.toks + ([] : List (Str × Value)).length } :=
      lam_start2 I own J.env0 room.hd J.base hns stay
    have go := (l.reads (X.A.deeper (envOfC qg sg s.heap.objs.size g cdg)) (envOfC qg sg s.heap.objs.size g cdg :: X.stack) s1 H1 E f c1 (show Quiet (X.A.deeper _) from qu) (room.deeper _)).run [] _ _ H1 Q start rest
    refine PySem.W.kla_codeExpr (wpAny_mono go (fun v s' hq => ?_) fun e s' hq => hq)
    obtain ⟨w', H', J', rv, q⟩ := hq
    exact ⟨w', H', J'.os, J'.bare, J'.base, J'.hok, rv, q⟩
  have out : Passes (L2.CX X.prog X.w) ((cxOf CXg X.prog X.w X.K X.mg X.base Ng qg sg g cdg X.A X.stack s H Eg).tr pn xe) E := passes_call tk hW
  refine wpAny_call (codeAny_mono ran fun r s' hq => ?_)
  match r, hq with
  | .error e, hq => exact out pinsZ σZ H1 s1 e s' J hq
  | .ok (.ret u), hq => exact J.after hq
  | .ok .next, hq => exact False.elim hq
  | .ok .brk, hq => exact False.elim hq
  | .ok .cont, hq => exact False.elim hq
/-- a lambda written where it is handed on -/
def tLamG (T : List (Addr × Str)) (TT : (XK → Hp → VK → Prop) → Hp → VK → Prop) (t : XK → TE) : TE := fun σ H Q => Tabs T H ∧ ∀ H1, ExtN H H1 → Tabs T H1 → TT (fun E H' Q' => t E σ H' Q') H1 Q
theorem pe_lamcallG {T : List (Addr × Str)} {TT : (XK → Hp → VK → Prop) → Hp → VK → Prop} {x a : Str} {g c P : Addr} {k : Nat} {pg : Arguments} {bg : List Stmt} {sg : Scope} {dV kV doc pm cdv ct oc : Value} {an od : Option Addr} {osl : Array (Option Value)} {Ng : List Str}
    {params : Arguments} {body : Expr} {scope : Scope} {t : XK → TE} {p lpos pos : Pos} (qu : Quiet X.A) (hg : Gl X x) (hm : X.mg x = some (.ref g)) (hk : PySem.W.keepIn X.K (.ref g) = true) (lk : X.K.lookup g = some ⟨oc, od, .func (PySem.W.fnOf x x pg bg sg dV kV doc pm an cdv ct), osl⟩) (hcg : PySem.W.codeIn X.K cdv x = true)
    (hb : L2.Binds X.K (PySem.W.fnOf x x pg bg sg dV kV doc pm an cdv ct) [a] []) (Sg : FnScope Ng [a] sg) (hNg : Ng[0]? = some a) (hva : Vis sg a) (hG : GivesK X Ng x sg g cdv bg a TT) (TB : TabB X.base X.mg c P) (hcode : X.env.code = .ref c) (hmT : (P, X.env.qual ++ "<lambda>") ∈ T)
    (hu : ∀ q ∈ T, q.1 = P → q.2 = X.env.qual ++ "<lambda>") (hr : Room (k + 2) X.A) (hdef : defaultsOf params X.env = ([], [])) (l : LamG X k params body scope t)
    (hdb : (x == ("__debug__" : Str)) = false := by decide) (hd : (a == ("__debug__" : Str)) = false := by decide) (hcd : (a == ("__classdict__" : Str)) = false := by decide) :
    PE X (.Call (.Name x p) [.Lambda params body scope lpos] [] pos) (tLamG T TT t) := by
  refine ⟨fun pins s σ H Q I h => wpAny_Call_Name_kw (ld_glob I hg hm ?_ hdb)⟩
  obtain ⟨hT, h⟩ := h
  refine PySem.W.callWith_K (h₀ := X.base) I.ok.mod.kin hk ?_ (by rfl) (by rfl)
  show wpAny _ _ (spliced ((false, eval (.Lambda params body scope lpos) X.env) :: backTo pos (starEach [] X.env))) _ _ s
  refine Calls.spliced_cons (lam_made I TB hcode hmT hu hT hdef (l.own.has I.ok) fun f H1 s1 J eN tA nf lo => ?_)
  refine Calls.spliced_nil ⟨J.kIn, ?_⟩
  obtain ⟨c1, pmf, ctf, kf, kc⟩ := lo
  have ran : codeAny (model X.prog X.w) X.A (.call (.ref g) ⟨[.ref f], []⟩) (CR C8.CX0 X.stack X.prog X.w H1 s1 Q C8.E0) s1 := by
    refine run_ofS (N := Ng) (ps := [a]) (us := [.ref f]) (vs := [.ref f]) lk hcg Sg hr J.env0 (hb s1 [.ref f] J.kIn rfl) (.cons rfl .nil) rfl fun room => ?_
    have gave := hG f (fun HZ => HZ f = some (FnO f (lamObj X params body scope pmf ctf c1)) ∧ HZ c1 = some (CodeO c1 (X.env.qual ++ "<lambda>"))) s1 H1 Q (fun E H' Q' => t E σ H' Q')
      (fun _ _ z e => ⟨e _ _ z.1, e _ _ z.2⟩) (fun W pn xe E p1 p2 tk hW => act_quiet (i := 0) J qu l tk hW room hNg hva hd hcd) ⟨kf, kc⟩ (h H1 eN tA)
    obtain ⟨t1, ht1, hq1⟩ := gave
    exact ⟨t1, ht1.nox, hq1⟩
  refine wpAny_call (codeAny_mono ran fun r s2 hq => ?_)
  match r, hq with
  | .error e, hq => exact (show False from hq).elim
  | .ok (.ret u), hq => exact J.after hq
  | .ok .next, hq => exact False.elim hq
  | .ok .brk, hq => exact False.elim hq
  | .ok .cont, hq => exact False.elim hq
end
end LamX

set_option Elab.async false
set_option linter.all false
set_option maxRecDepth 100000
set_option maxHeartbeats 4000000
/-! The end of a law whose promise wants that no repr is under way. -/
namespace LamX
open PySem PySem.Spec PyProof.Rows L2
/-- tables are tracked from the beginning, and so is the script unless it stands in the text -/
def firstH (K : PySem.W.Frag) (ts : List Addr) (a : Addr) (o : Obj) (xs : List V) : Hp := fun b =>
  if b ∈ ts then some (.tbl #[]) else if b = a ∧ K.lookup a = none then some (.frz o (.lst xs)) else none
theorem firstH_tab {K : PySem.W.Frag} {ts : List Addr} {a b : Addr} {o : Obj} {xs : List V} (h : b ∈ ts) : firstH K ts a o xs b = some (.tbl #[]) := by
  unfold firstH
  rw [if_pos h]
theorem firstH_at {K : PySem.W.Frag} {ts : List Addr} {a : Addr} {o : Obj} {xs : List V} (h : a ∉ ts) (n : K.lookup a = none) : firstH K ts a o xs a = some (.frz o (.lst xs)) := by
  unfold firstH
  rw [if_neg h, if_pos ⟨rfl, n⟩]
theorem firstH_of {K : PySem.W.Frag} {ts : List Addr} {a b : Addr} {o : Obj} {xs : List V} {u : HO} (h : firstH K ts a o xs b = some u) : (b ∈ ts ∧ u = .tbl #[]) ∨ (b = a ∧ K.lookup a = none ∧ u = .frz o (.lst xs)) := by
  unfold firstH at h
  by_cases h1 : b ∈ ts
  · rw [if_pos h1] at h
    exact .inl ⟨h1, (Option.some.inj h).symm⟩
  · rw [if_neg h1] at h
    by_cases h2 : b = a ∧ K.lookup a = none
    · rw [if_pos h2] at h
      exact .inr ⟨h2.1, h2.2, (Option.some.inj h).symm⟩
    · rw [if_neg h2] at h
      cases h
theorem law_callG {P : Program} {w : World} {K : PySem.W.Frag} {mg mb : Str → Option Value} {C : CXT} {k : Nat} {fa a : Addr} {cs : List (Addr × Addr)} {fd : FuncData} {x : Str} {sp : Sp} {s : Shared} {vs : List Value} {ns : List Int}
    (kin : K.In s.heap) (glob : s.heap.Ns mainGlobals mg) (bns : s.heap.Ns builtinsNs mb) (boot : ∀ y : Str, y ≠ "__name__" → mb y = bootBuiltins y) (lim : s.heap.NoLimit) (gens : s.gens = #[])
    (tabs : ∀ p ∈ cs, s.heap.get? p.2 = some { cls := .none, data := .fields #[] }) (untold : ∀ p ∈ cs, K.lookup p.2 = none) (codes : ∀ p ∈ cs, PySem.W.CodeHd s.heap p.1 p.2)
    (bmod : ∃ (bm : Addr) (ob : Obj), mg "__builtins__" = some (.ref bm) ∧ bm ≠ builtinsNs ∧ s.heap.get? bm = some ob ∧ ob.cls = .type "module" ∧ ob.dict = some builtinsNs ∧ ob.data = .plain)
    (script : s.heap.get? a = some { cls := .type "list", data := .seq vs.toArray }) (whole : IntsAre vs ns) (short : ns.length ≤ sizeLine) (room : Room k callerA)
    (F : ∀ base : Heap, K.In base → base.Ns mainGlobals mg → (∀ p ∈ cs, TabB base mg p.1 p.2) → FnG P w K mg base C k fa fd [x] sp) (binds : ∀ (s : Shared) (u : Value), BindsTo s fd ⟨[u], []⟩ [(x, u)])
    (holds : ∀ H : Hp, (∀ p ∈ cs, H p.2 = some (.tbl #[])) → SqL K H a (ns.map V.int) → sp [.ref a] H (fun v _ => v = .bl true) fun _ _ _ => False)
    (noerr : ∀ H e s', C [] H s (fun _ _ _ => False) e s' → False) :
    codeAny (model P w) callerA (.call (.ref fa) ⟨[.ref a], []⟩) (fun r s' => r = .ok (.ret (.bool true)) ∧ OldK s.heap s'.heap ∧ s'.os = s.os ∧ AllBare s'.gens) s := by
  have rel := vals_ints whole
  have many := whole.length
  generalize hts : cs.map (·.2) = ts
  have inT : ∀ p ∈ cs, p.2 ∈ ts := fun p hp => by
    rw [← hts]
    exact List.mem_map.mpr ⟨p, hp, rfl⟩
  have ofT : ∀ b ∈ ts, ∃ p ∈ cs, p.2 = b := fun b hb => by
    rw [← hts] at hb
    exact List.mem_map.mp hb
  have emp : ∀ b ∈ ts, s.heap.get? b = some { cls := .none, data := .fields #[] } := fun b hb => by
    obtain ⟨p, hp, rfl⟩ := ofT b hb
    exact tabs p hp
  have aT : a ∉ ts := fun z => by
    have e := emp a z
    rw [script] at e
    have e2 := congrArg Obj.data (Option.some.inj e)
    cases e2
  generalize hH : firstH K ts a { cls := .type "list", data := .seq vs.toArray } (ns.map V.int) = H
  have of : ∀ {b u}, H b = some u → (b ∈ ts ∧ u = .tbl #[]) ∨ (b = a ∧ K.lookup a = none ∧ u = .frz { cls := .type "list", data := .seq vs.toArray } (.lst (ns.map V.int))) := fun {b u} z => by
    rw [← hH] at z
    exact firstH_of z
  have atT : ∀ b ∈ ts, H b = some (.tbl #[]) := fun b hb => by
    rw [← hH]
    exact firstH_tab hb
  -- what is neither a list nor an empty table is not tracked
  have off : ∀ {b : Addr} {o : Obj}, s.heap.get? b = some o → (∀ us n, o.data ≠ .seq us n) → o.data ≠ .fields #[] → H b = none := fun {b o} e n1 n2 => by
    cases z : H b with
    | none => rfl
    | some u =>
      rcases of z with ⟨m, _⟩ | ⟨m, _, _⟩
      · rw [emp b m] at e
        cases e
        exact absurd rfl n2
      · rw [m, script] at e
        cases e
        exact absurd rfl (n1 _ _)
  have dict : ∀ {b : Addr} {o : Obj} {es : Array DictEntry} {n : Nat}, s.heap.get? b = some o → o.data = .dict es n → H b = none := fun {b o es n} e d =>
    off e (fun us m z => by rw [d] at z; cases z) fun z => by rw [d] at z; cases z
  have stays : ∀ {b : Addr} {m : Str → Option Value}, s.heap.Ns b m → (hidT s.heap H).Ns b m := fun {b m} z => by
    obtain ⟨o, es, ep, e, d, r⟩ := z
    exact ⟨o, es, ep, hidT_get e (dict e d), d, r⟩
  have kin2 : K.In (hidT s.heap H) := fun b o e => by
    refine hidT_get (kin b o e) ?_
    cases z : H b with
    | none => rfl
    | some u =>
      rcases of z with ⟨m, _⟩ | ⟨m, n, _⟩
      · obtain ⟨p, hp, rfl⟩ := ofT b m
        rw [untold p hp] at e
        cases e
      · rw [m, n] at e
        cases e
  have glob2 := stays glob
  have mod : L2.Mod K mg (hidT s.heap H) := by
    refine ⟨kin2, glob2, ⟨mb, stays bns, boot⟩, ?_⟩
    obtain ⟨mc, l1, l2⟩ := lim
    exact ⟨mc, stays l1, l2⟩
  have tb : ∀ p ∈ cs, TabB (hidT s.heap H) mg p.1 p.2 := fun p hp => by
    have eT := tabs p hp
    refine ⟨?_, ?_, fun z => ?_⟩
    · obtain ⟨o, us, file, tf, flags, tg, inF, text, tt, e1, r1, r2, r3, r⟩ := codes p hp
      refine ⟨o, us, file, tf, flags, tg, inF, text, tt, hidT_get e1 (off e1 (fun ws n z => ?_) fun z => ?_), r1, r2, r3, r⟩
      · rw [r2] at z
        cases z
      · rw [r2] at z
        have z2 : us = #[] := by cases z; rfl
        rw [z2] at r3
        simp at r3
    · obtain ⟨bm, ob, b1, b2, b3, b4, b5, b6⟩ := bmod
      refine ⟨bm, ob, b1, b2, fun z => ?_, fun z => ?_, hidT_get b3 (off b3 (fun ws n z => ?_) fun z => ?_), b4, b5, b6⟩
      · obtain ⟨o, es, ep, e, hd, _⟩ := glob
        rw [z, e] at b3
        cases b3
        rw [hd] at b6
        cases b6
      · rw [z, eT] at b3
        cases b3
        cases b6
      · rw [b6] at z
        cases z
      · rw [b6] at z
        cases z
    · obtain ⟨o, es, ep, e, hd, _⟩ := glob
      rw [z, eT] at e
      cases e
      cases hd
  have held : HOk P w H s.heap := fun b u z => by
    rcases of z with ⟨m, rfl⟩ | ⟨rfl, n, rfl⟩
    · exact emp b m
    · refine ⟨script, ?_, vs, 0, rel, script⟩
      rw [List.length_map]
      exact short
  have seq : SqL K H a (ns.map V.int) := by
    cases hk : K.lookup a with
    | none =>
      refine .inl (.inr ⟨{ cls := .type "list", data := .seq vs.toArray }, ?_⟩)
      rw [← hH]
      exact firstH_at aT hk
    | some o =>
      have e := kin a o hk
      rw [script] at e
      cases e
      refine .inr ⟨_, vs.toArray, _, hk, rfl, rfl, rfl, ?_, by simpa using rel⟩
      rw [List.size_toArray, many]
      exact short
  have start : Env0 P w K mg (hidT s.heap H) callerA [] s H := by
    refine ⟨rfl, mod, fun b o e => of_hidT e, Nat.le_of_eq (hidT_size _ _), trivial, fun b z => ?_, held, .of_eq gens⟩
    exact absurd z (List.not_mem_nil)
  have ran := (F _ kin2 glob2 tb).runs callerA [] s H ⟨[.ref a], []⟩ [.ref a] [.ref a] _ _ rfl room start (binds s (.ref a)) (.cons rfl .nil) (holds H (fun p hp => atT _ (inT p hp)) seq)
  refine codeAny_mono ran fun r s2 h => ?_
  match r, h with
  | .error e, h => exact (noerr H e s2 h).elim
  | .ok .next, h => exact h.elim
  | .ok .brk, h => exact h.elim
  | .ok .cont, h => exact h.elim
  | .ok (.ret u), h =>
    obtain ⟨v, H2, os, bare, un, ok2, rv, rfl⟩ := h
    obtain rfl : u = Value.bool true := rv
    have same : ∀ b o, b ∉ ts → s.heap.get? b = some o → s2.heap.get? b = some o := fun b o nb e => by
      cases z : H b with
      | none => exact un.keep b o e z (List.not_mem_nil) (List.not_mem_nil)
      | some u =>
        rcases of z with ⟨m, _⟩ | ⟨rfl, n, rfl⟩
        · exact absurd m nb
        · obtain ⟨e2, _⟩ := ok2 b _ (un.frzs b _ _ z)
          rw [script] at e
          cases e
          exact e2
    have more : ∀ b ∈ ts, ∃ us : Array Value, s2.heap.get? b = some { cls := .none, data := .fields us } := fun b hb => by
      obtain ⟨us, z⟩ := un.tbls b #[] (atT b hb)
      exact ⟨_, ok2 b _ z⟩
    refine ⟨rfl, ⟨fun b o e => ?_, fun b o e => ?_⟩, os, bare⟩
    · by_cases hb : b ∈ ts
      · obtain ⟨us, hu⟩ := more b hb
        obtain ⟨p, hp, rfl⟩ := ofT b hb
        have eT := tabs p hp
        rw [eT] at e
        cases e
        refine .inr (.inl ⟨((codes p hp).tab eT).isCodeTable, rfl, #[], us, rfl, ?_⟩)
        rw [Array.empty_append]
        exact hu
      · exact .inl (same b o hb e)
    · by_cases hb : b ∈ ts
      · obtain ⟨us, hu⟩ := more b hb
        exact ⟨_, hu⟩
      · exact ⟨o, same b o hb e⟩
end LamX

set_option Elab.async false
set_option linter.all false
set_option maxRecDepth 100000
set_option maxHeartbeats 16000000
set_option pp.maxSteps 2000
/-! What is heard of a call: what it returns, or one of five errors. -/
namespace V8
open PySem PySem.Spec PyProof.Rows L2 LamX MX
abbrev s_heard : Stmt := topS 40
abbrev n_heard : List Str := ["_law_ask", "_law_caught", "_law_found", "error", "_law_some"]
theorem sc_heard : FnScope ["_law_ask", "_law_caught", "_law_found", "error", "_law_some"] ["_law_ask"] (defScope s_heard) := ⟨rfl, rfl, rfl, by decide +kernel, rfl, by decide +kernel, by decide +kernel⟩
def wordOf : Nat → Str
  | 0 => "table"
  | 1 => "letter"
  | 2 => "code"
  | _ => "unread"
/-- the words that are heard -/
def wordsB : Bad → List Str
  | .one i d => [wordOf i, d.shown]
  | .many wh m => ["many", (PyData.str wh).shown, (PyData.int m).shown]
/-- heard: a tuple of words -/
def HrB (H : Hp) (v : V) (b : Bad) : Prop := ∃ t, v = .ref t ∧ H t = some (.tup ((wordsB b).map V.str))
/-- heard: what is returned of an error -/
def HearE (Cz : Nat → Addr) (Q : VK) : XK := fun cls d H => ∃ dd, d = some dd ∧
  ((∃ i y p, i < 4 ∧ cls = .ref (Cz i) ∧ PyW H y p ∧ Tells p ∧ H dd = some (.xd [(fldOf i, y)]) ∧ ∀ v H2, Same H H2 → HrB H2 v (.one i p) → Q v H2) ∨
   (∃ wh m, cls = .ref (Cz 4) ∧ Tells (.str wh) ∧ Tells (.int m) ∧ H dd = some (.xd [("most", .int m), ("what", .str wh)]) ∧ ∀ v H2, Same H H2 → HrB H2 v (.many wh m) → Q v H2))
/-- .. of a value -/
def HearV (Q : VK) : VK := fun v H => ∀ l H2, Same H H2 → H l = none → H2 l = some (.lst [v]) → Q (.ref l) H2
def TTheard (Cz : Nat → Addr) : (XK → Hp → VK → Prop) → Hp → VK → Prop := fun tl H Q => ∀ (R : VK) (H1 : Hp), (∀ v H2, HearV Q v H2 → R v H2) → Same H H1 → tl (HearE Cz Q) H1 R
theorem five_of {l : L2.St} (h : l.length = 5) : ∃ a b c d e, l = [a, b, c, d, e] := by
  match l, h with
  | [a, b, c, d, e], _ => exact ⟨a, b, c, d, e, rfl⟩
theorem keptX_same {K : PySem.W.Frag} {H H2 : Hp} {a D : Addr} {fs : List (Str × V)} (k : KeptX K H a D fs) (s : ∀ b o, H b = some o → (∀ xs, o ≠ .lst xs) → H2 b = some o) : KeptX K H2 a D fs := by
  obtain ⟨⟨d, h1, h2⟩, c⟩ := k
  exact ⟨⟨d, s _ _ h1 (fun _ z => nomatch z), s _ _ h2 (fun _ z => nomatch z)⟩, c⟩
theorem heard_givesG {X : Cx} {CW CR CE g : Addr} {Cz : Nat → Addr} {cdg : Value} (T : Tc X.K X.mg CW CR CE Cz) (sys : SysIn X.base) (quiet : Quiet X.A) (hr3 : ∀ (s : Shared), Room 1 (X.A.deeper (envOfC "_law_heard" (defScope s_heard) s.heap.objs.size g cdg))) : GivesK X n_heard "_law_heard" (defScope s_heard) g cdg (defBody s_heard) "_law_ask" (TTheard Cz) := by
  intro f Kn s H Q tl stay act hc h
  have hr := hr3 s
  refine ⟨_, (pss_cons (ps_asg (pe_tup (pa_cons pe_non (pa_cons pe_non pa_nil))) (pg_tup (by rfl) (pgs_cons (pg_name (i := 1) sc_heard.nd rfl (.inl rfl)) (pgs_cons (pg_name (i := 2) sc_heard.nd rfl (.inl rfl)) pgs_nil))))
      (pss_cons (ps_try_keep (X := (cxOf C8.CX0 X.prog X.w X.K X.mg X.base n_heard "_law_heard" (defScope s_heard) g cdg X.A X.stack s H C8.E0).nox) (c := .ref CE) (i := 3) (tb := fun W D σ H => ∃ Ech : XK, (∀ cls d σ' H', Ech cls d H' → W cls d σ' H') ∧ σ[0]? = some (some (.ref f)) ∧ Kn H ∧ tl Ech H (fun v H' => D.nx (σ.set 2 (some v)) H')) rfl rfl sc_heard.nd rfl rfl ⟨by rfl, by decide, .inl T.gE⟩ (fun W pn xe tk _ => ?_) (fun a pn => pss_one (ps_set (i := 1) sc_heard.nd rfl (.inl rfl) (pv 3))))
      (pss_cons (ps_if (pt_cmpR op_isN (pv 1) pe_non (nomark _))
        (pss_one (ps_ret (pe_lst (pa_cons (pv 2) pa_nil))))
        pss_nil)
      (pss_cons (ps_set (i := 4) sc_heard.nd rfl (.inl rfl) (pe_lst pa_nil))
      (pss_cons (ps_if (pt_val (pe_callB call_isK (by rfl) T.isinstance (by decide +kernel) (pa_cons (pv 1) (pa_cons (pe_gv T.gBadTable (by rfl)) pa_nil))))
        (pss_one (ps_expr (pe_bmK (K := X.K) rfl PySem.F.plainAttrs_list PySem.F.slot_list_append PySem.F.type_list_append mt_append (pv 4) (pa_cons (pe_tup (pa_cons pe_str (pa_cons (pe_callB (call_reprW sys quiet hr) (by rfl) T.repr (by decide +kernel) (pa_cons (pe_keptF (pv 1)) pa_nil)) pa_nil))) pa_nil))))
        pss_nil)
      (pss_cons (ps_if (pt_val (pe_callB call_isK (by rfl) T.isinstance (by decide +kernel) (pa_cons (pv 1) (pa_cons (pe_gv T.gBadLetter (by rfl)) pa_nil))))
        (pss_one (ps_expr (pe_bmK (K := X.K) rfl PySem.F.plainAttrs_list PySem.F.slot_list_append PySem.F.type_list_append mt_append (pv 4) (pa_cons (pe_tup (pa_cons pe_str (pa_cons (pe_callB (call_reprW sys quiet hr) (by rfl) T.repr (by decide +kernel) (pa_cons (pe_keptF (pv 1)) pa_nil)) pa_nil))) pa_nil))))
        pss_nil)
      (pss_cons (ps_if (pt_val (pe_callB call_isK (by rfl) T.isinstance (by decide +kernel) (pa_cons (pv 1) (pa_cons (pe_gv T.gBadCode (by rfl)) pa_nil))))
        (pss_one (ps_expr (pe_bmK (K := X.K) rfl PySem.F.plainAttrs_list PySem.F.slot_list_append PySem.F.type_list_append mt_append (pv 4) (pa_cons (pe_tup (pa_cons pe_str (pa_cons (pe_callB (call_reprW sys quiet hr) (by rfl) T.repr (by decide +kernel) (pa_cons (pe_keptF (pv 1)) pa_nil)) pa_nil))) pa_nil))))
        pss_nil)
      (pss_cons (ps_if (pt_val (pe_callB call_isK (by rfl) T.isinstance (by decide +kernel) (pa_cons (pv 1) (pa_cons (pe_gv T.gUnread (by rfl)) pa_nil))))
        (pss_one (ps_expr (pe_bmK (K := X.K) rfl PySem.F.plainAttrs_list PySem.F.slot_list_append PySem.F.type_list_append mt_append (pv 4) (pa_cons (pe_tup (pa_cons pe_str (pa_cons (pe_callB (call_reprW sys quiet hr) (by rfl) T.repr (by decide +kernel) (pa_cons (pe_keptF (pv 1)) pa_nil)) pa_nil))) pa_nil))))
        pss_nil)
      (pss_cons (ps_if (pt_val (pe_callB call_isK (by rfl) T.isinstance (by decide +kernel) (pa_cons (pv 1) (pa_cons (pe_gv T.gTooMany (by rfl)) pa_nil))))
        (pss_one (ps_expr (pe_bmK (K := X.K) rfl PySem.F.plainAttrs_list PySem.F.slot_list_append PySem.F.type_list_append mt_append (pv 4) (pa_cons (pe_tup (pa_cons pe_str (pa_cons (pe_callB (call_reprW sys quiet hr) (by rfl) T.repr (by decide +kernel) (pa_cons (pe_keptF (pv 1)) pa_nil)) (pa_cons (pe_callB (call_reprW sys quiet hr) (by rfl) T.repr (by decide +kernel) (pa_cons (pe_keptF (pv 1)) pa_nil)) pa_nil)))) pa_nil))))
        pss_nil)
      (pss_one (ps_ret (pe_ifExp (PW.pt (pw_and (pt_cmpR op_eq (pe_callB (call_len_seqK (K := X.K) rfl) (by rfl) T.len (by decide +kernel) (pa_cons (pv 4) pa_nil)) pe_int (nomark _)) (pw_and1 (pt_val (pe_callB call_isK (by rfl) T.isinstance (by decide +kernel) (pa_cons (pv 1) (pa_cons (pe_bltn (v := .ty "ValueError") (by rfl) T.ValueError (by decide +kernel) rfl) pa_nil))))))) (pe_ix (ix_listK (K := X.K) rfl) (pv 4) pe_int (fun _ _ => rfl)) (pe_tup (pa_cons pe_str pa_nil)))))))))))))), ?_⟩
  · refine ⟨fun pins s' σ H' D I h' => ?_⟩
    obtain ⟨Ech, hW, h1, h2, h3⟩ := h'
    exact PSs.run (pss_one (ps_set (i := 2) sc_heard.nd rfl (.inl rfl) (act W pn xe Ech _ _ tk hW))) pins s' σ H' D I ⟨h1, h2, h3⟩
  · refine ⟨by show 2 ≤ sizeLine; decide, fun t0 n0 => ⟨t0, _, rfl, .inl (.inl upd_same), rfl, _, _, rfl, _, _, rfl, rfl, ?_⟩⟩
    have s0 : Same H (upd H t0 (.tup [.non, .non])) := same_put (s := Same.refl H) n0
    have hc1 := stay _ _ hc s0
    refine ⟨HearE Cz Q, ?_, rfl, hc1, h _ _ (fun v H' hv => ?_) s0⟩
    · rintro cls d σ' H' ⟨dd, rfl, hh⟩
      have kept : ∀ {C : Addr} {fs : List (Str × V)} {a : Addr}, H' a = none → H' dd = some (.xd fs) → ExcC X.K C → KeptX X.K (upd H' a (CaughtO (.ref C) (some dd) a)) a C fs := fun na hx cl =>
        ⟨⟨dd, upd_same, by rw [upd_ne (ne_of_none hx na)]; exact hx⟩, cl⟩
      rcases hh with ⟨i, y, p, i4, rfl, py, tp, hx, hq⟩ | ⟨wh, m, rfl, tw, tp, hx, hq⟩
      · refine ⟨T.eX i (by omega), fun len a na => ?_⟩
        obtain ⟨s0, s1, s2, s3, s4, rfl⟩ := five_of len
        have k := kept na hx (T.xc i (by omega))
        have sa := same_put (s := Same.refl H') (o := CaughtO (.ref (Cz i)) (some dd) a) na
        refine ⟨_, rfl, _, rfl, rfl, false, rfl, iteF ?_⟩
        refine ⟨Nat.zero_le _, fun l nl => ?_⟩
        have sl := same_put (s := sa) (o := .lst []) nl
        have kl := keptX_same k fun b o e _ => same_put (s := Same.refl _) (o := .lst []) nl b o e
        have pl := py.same sl
        have hl : upd (upd H' a (CaughtO (.ref (Cz i)) (some dd) a)) l (.lst []) l = some (.lst []) := upd_same
        have nl2 : H' l = none := same_none sa nl
        clear k
        generalize upd (upd H' a (CaughtO (.ref (Cz i)) (some dd) a)) l (.lst []) = H1 at sl kl pl hl ⊢
        rcases (by omega : i = 0 ∨ i = 1 ∨ i = 2 ∨ i = 3) with rfl | rfl | rfl | rfl
        · refine ⟨_, rfl, a, Cz 0, _, .ref (Cz 0), .ref (Cz 0), true, rfl, kl, fun u r => r, T.kit 0 0 (by decide) (by decide), true, rfl, iteT ?_⟩
          refine ⟨_, rfl, .inl ⟨rfl, _, SqL.of hl⟩, _, rfl, a, Cz 0, _, y, rfl, kl, T.no 0 (by decide), by simp [List.lookup, fldOf], y, p, rfl, pl, tp, by show 2 ≤ sizeLine; decide, fun l1 nl1 => ?_⟩
          have n1 : l ≠ l1 := ne_of_none hl nl1
          refine ⟨l, [], _, rfl, rfl, by rw [upd_ne n1]; exact hl, by show 0 < sizeLine; decide, ?_⟩
          have h2 : upd (upd H1 l1 (.tup [.str (wordOf 0), .str p.shown])) l (.lst [.ref l1]) l = some (.lst [.ref l1]) := upd_same
          have h3 : upd (upd H1 l1 (.tup [.str (wordOf 0), .str p.shown])) l (.lst [.ref l1]) l1 = some (.tup [.str (wordOf 0), .str p.shown]) := by
            rw [upd_ne (Ne.symm n1)]
            exact upd_same
          have k2 := keptX_same (H2 := upd (upd H1 l1 (.tup [.str (wordOf 0), .str p.shown])) l (.lst [.ref l1])) kl fun b o e nb => by
            rw [upd_ne (fun z => by rw [z, hl] at e; exact nb _ (Option.some.inj e).symm), upd_ne (ne_of_none e nl1)]
            exact e
          have sm2 : Same H' (upd (upd H1 l1 (.tup [.str (wordOf 0), .str p.shown])) l (.lst [.ref l1])) := fun b o e => by
            rw [upd_ne (ne_of_none e nl2), upd_ne (ne_of_none (sl _ _ e) nl1)]
            exact sl _ _ e
          show Ends.nx _ _ (upd (upd H1 l1 (.tup [.str (wordOf 0), .str p.shown])) l (.lst [.ref l1]))
          generalize upd (upd H1 l1 (.tup [.str (wordOf 0), .str p.shown])) l (.lst [.ref l1]) = H2 at h2 h3 k2 sm2 ⊢
          refine ⟨_, rfl, a, Cz 0, _, .ref (Cz 1), .ref (Cz 1), false, rfl, k2, fun u r => r, T.kit 0 1 (by decide) (by decide), false, rfl, iteF ?_⟩
          refine ⟨_, rfl, a, Cz 0, _, .ref (Cz 2), .ref (Cz 2), false, rfl, k2, fun u r => r, T.kit 0 2 (by decide) (by decide), false, rfl, iteF ?_⟩
          refine ⟨_, rfl, a, Cz 0, _, .ref (Cz 3), .ref (Cz 3), false, rfl, k2, fun u r => r, T.kit 0 3 (by decide) (by decide), false, rfl, iteF ?_⟩
          refine ⟨_, rfl, a, Cz 0, _, .ref (Cz 4), .ref (Cz 4), false, rfl, k2, fun u r => r, T.kit 0 4 (by decide) (by decide), false, rfl, iteF ?_⟩
          refine ⟨_, rfl, l, _, rfl, .inl (SqL.of h2), rfl, true, rfl, iteT ?_⟩
          refine ⟨_, rfl, a, Cz 0, _, .ty "ValueError", .type "ValueError", true, rfl, k2, fun u r => r, T.kV 0 (by decide), true, rfl, iteT ?_⟩
          exact ⟨_, rfl, l, _, 0, _, rfl, rfl, SqL.of h2, rfl, hq (.ref l1) H2 sm2 ⟨l1, rfl, h3⟩⟩
        · refine ⟨_, rfl, a, Cz 1, _, .ref (Cz 0), .ref (Cz 0), false, rfl, kl, fun u r => r, T.kit 1 0 (by decide) (by decide), false, rfl, iteF ?_⟩
          refine ⟨_, rfl, a, Cz 1, _, .ref (Cz 1), .ref (Cz 1), true, rfl, kl, fun u r => r, T.kit 1 1 (by decide) (by decide), true, rfl, iteT ?_⟩
          refine ⟨_, rfl, .inl ⟨rfl, _, SqL.of hl⟩, _, rfl, a, Cz 1, _, y, rfl, kl, T.no 1 (by decide), by simp [List.lookup, fldOf], y, p, rfl, pl, tp, by show 2 ≤ sizeLine; decide, fun l1 nl1 => ?_⟩
          have n1 : l ≠ l1 := ne_of_none hl nl1
          refine ⟨l, [], _, rfl, rfl, by rw [upd_ne n1]; exact hl, by show 0 < sizeLine; decide, ?_⟩
          have h2 : upd (upd H1 l1 (.tup [.str (wordOf 1), .str p.shown])) l (.lst [.ref l1]) l = some (.lst [.ref l1]) := upd_same
          have h3 : upd (upd H1 l1 (.tup [.str (wordOf 1), .str p.shown])) l (.lst [.ref l1]) l1 = some (.tup [.str (wordOf 1), .str p.shown]) := by
            rw [upd_ne (Ne.symm n1)]
            exact upd_same
          have k2 := keptX_same (H2 := upd (upd H1 l1 (.tup [.str (wordOf 1), .str p.shown])) l (.lst [.ref l1])) kl fun b o e nb => by
            rw [upd_ne (fun z => by rw [z, hl] at e; exact nb _ (Option.some.inj e).symm), upd_ne (ne_of_none e nl1)]
            exact e
          have sm2 : Same H' (upd (upd H1 l1 (.tup [.str (wordOf 1), .str p.shown])) l (.lst [.ref l1])) := fun b o e => by
            rw [upd_ne (ne_of_none e nl2), upd_ne (ne_of_none (sl _ _ e) nl1)]
            exact sl _ _ e
          show Ends.nx _ _ (upd (upd H1 l1 (.tup [.str (wordOf 1), .str p.shown])) l (.lst [.ref l1]))
          generalize upd (upd H1 l1 (.tup [.str (wordOf 1), .str p.shown])) l (.lst [.ref l1]) = H2 at h2 h3 k2 sm2 ⊢
          refine ⟨_, rfl, a, Cz 1, _, .ref (Cz 2), .ref (Cz 2), false, rfl, k2, fun u r => r, T.kit 1 2 (by decide) (by decide), false, rfl, iteF ?_⟩
          refine ⟨_, rfl, a, Cz 1, _, .ref (Cz 3), .ref (Cz 3), false, rfl, k2, fun u r => r, T.kit 1 3 (by decide) (by decide), false, rfl, iteF ?_⟩
          refine ⟨_, rfl, a, Cz 1, _, .ref (Cz 4), .ref (Cz 4), false, rfl, k2, fun u r => r, T.kit 1 4 (by decide) (by decide), false, rfl, iteF ?_⟩
          refine ⟨_, rfl, l, _, rfl, .inl (SqL.of h2), rfl, true, rfl, iteT ?_⟩
          refine ⟨_, rfl, a, Cz 1, _, .ty "ValueError", .type "ValueError", true, rfl, k2, fun u r => r, T.kV 1 (by decide), true, rfl, iteT ?_⟩
          exact ⟨_, rfl, l, _, 0, _, rfl, rfl, SqL.of h2, rfl, hq (.ref l1) H2 sm2 ⟨l1, rfl, h3⟩⟩
        · refine ⟨_, rfl, a, Cz 2, _, .ref (Cz 0), .ref (Cz 0), false, rfl, kl, fun u r => r, T.kit 2 0 (by decide) (by decide), false, rfl, iteF ?_⟩
          refine ⟨_, rfl, a, Cz 2, _, .ref (Cz 1), .ref (Cz 1), false, rfl, kl, fun u r => r, T.kit 2 1 (by decide) (by decide), false, rfl, iteF ?_⟩
          refine ⟨_, rfl, a, Cz 2, _, .ref (Cz 2), .ref (Cz 2), true, rfl, kl, fun u r => r, T.kit 2 2 (by decide) (by decide), true, rfl, iteT ?_⟩
          refine ⟨_, rfl, .inl ⟨rfl, _, SqL.of hl⟩, _, rfl, a, Cz 2, _, y, rfl, kl, T.no 2 (by decide), by simp [List.lookup, fldOf], y, p, rfl, pl, tp, by show 2 ≤ sizeLine; decide, fun l1 nl1 => ?_⟩
          have n1 : l ≠ l1 := ne_of_none hl nl1
          refine ⟨l, [], _, rfl, rfl, by rw [upd_ne n1]; exact hl, by show 0 < sizeLine; decide, ?_⟩
          have h2 : upd (upd H1 l1 (.tup [.str (wordOf 2), .str p.shown])) l (.lst [.ref l1]) l = some (.lst [.ref l1]) := upd_same
          have h3 : upd (upd H1 l1 (.tup [.str (wordOf 2), .str p.shown])) l (.lst [.ref l1]) l1 = some (.tup [.str (wordOf 2), .str p.shown]) := by
            rw [upd_ne (Ne.symm n1)]
            exact upd_same
          have k2 := keptX_same (H2 := upd (upd H1 l1 (.tup [.str (wordOf 2), .str p.shown])) l (.lst [.ref l1])) kl fun b o e nb => by
            rw [upd_ne (fun z => by rw [z, hl] at e; exact nb _ (Option.some.inj e).symm), upd_ne (ne_of_none e nl1)]
            exact e
          have sm2 : Same H' (upd (upd H1 l1 (.tup [.str (wordOf 2), .str p.shown])) l (.lst [.ref l1])) := fun b o e => by
            rw [upd_ne (ne_of_none e nl2), upd_ne (ne_of_none (sl _ _ e) nl1)]
            exact sl _ _ e
          show Ends.nx _ _ (upd (upd H1 l1 (.tup [.str (wordOf 2), .str p.shown])) l (.lst [.ref l1]))
          generalize upd (upd H1 l1 (.tup [.str (wordOf 2), .str p.shown])) l (.lst [.ref l1]) = H2 at h2 h3 k2 sm2 ⊢
          refine ⟨_, rfl, a, Cz 2, _, .ref (Cz 3), .ref (Cz 3), false, rfl, k2, fun u r => r, T.kit 2 3 (by decide) (by decide), false, rfl, iteF ?_⟩
          refine ⟨_, rfl, a, Cz 2, _, .ref (Cz 4), .ref (Cz 4), false, rfl, k2, fun u r => r, T.kit 2 4 (by decide) (by decide), false, rfl, iteF ?_⟩
          refine ⟨_, rfl, l, _, rfl, .inl (SqL.of h2), rfl, true, rfl, iteT ?_⟩
          refine ⟨_, rfl, a, Cz 2, _, .ty "ValueError", .type "ValueError", true, rfl, k2, fun u r => r, T.kV 2 (by decide), true, rfl, iteT ?_⟩
          exact ⟨_, rfl, l, _, 0, _, rfl, rfl, SqL.of h2, rfl, hq (.ref l1) H2 sm2 ⟨l1, rfl, h3⟩⟩
        · refine ⟨_, rfl, a, Cz 3, _, .ref (Cz 0), .ref (Cz 0), false, rfl, kl, fun u r => r, T.kit 3 0 (by decide) (by decide), false, rfl, iteF ?_⟩
          refine ⟨_, rfl, a, Cz 3, _, .ref (Cz 1), .ref (Cz 1), false, rfl, kl, fun u r => r, T.kit 3 1 (by decide) (by decide), false, rfl, iteF ?_⟩
          refine ⟨_, rfl, a, Cz 3, _, .ref (Cz 2), .ref (Cz 2), false, rfl, kl, fun u r => r, T.kit 3 2 (by decide) (by decide), false, rfl, iteF ?_⟩
          refine ⟨_, rfl, a, Cz 3, _, .ref (Cz 3), .ref (Cz 3), true, rfl, kl, fun u r => r, T.kit 3 3 (by decide) (by decide), true, rfl, iteT ?_⟩
          refine ⟨_, rfl, .inl ⟨rfl, _, SqL.of hl⟩, _, rfl, a, Cz 3, _, y, rfl, kl, T.no 3 (by decide), by simp [List.lookup, fldOf], y, p, rfl, pl, tp, by show 2 ≤ sizeLine; decide, fun l1 nl1 => ?_⟩
          have n1 : l ≠ l1 := ne_of_none hl nl1
          refine ⟨l, [], _, rfl, rfl, by rw [upd_ne n1]; exact hl, by show 0 < sizeLine; decide, ?_⟩
          have h2 : upd (upd H1 l1 (.tup [.str (wordOf 3), .str p.shown])) l (.lst [.ref l1]) l = some (.lst [.ref l1]) := upd_same
          have h3 : upd (upd H1 l1 (.tup [.str (wordOf 3), .str p.shown])) l (.lst [.ref l1]) l1 = some (.tup [.str (wordOf 3), .str p.shown]) := by
            rw [upd_ne (Ne.symm n1)]
            exact upd_same
          have k2 := keptX_same (H2 := upd (upd H1 l1 (.tup [.str (wordOf 3), .str p.shown])) l (.lst [.ref l1])) kl fun b o e nb => by
            rw [upd_ne (fun z => by rw [z, hl] at e; exact nb _ (Option.some.inj e).symm), upd_ne (ne_of_none e nl1)]
            exact e
          have sm2 : Same H' (upd (upd H1 l1 (.tup [.str (wordOf 3), .str p.shown])) l (.lst [.ref l1])) := fun b o e => by
            rw [upd_ne (ne_of_none e nl2), upd_ne (ne_of_none (sl _ _ e) nl1)]
            exact sl _ _ e
          show Ends.nx _ _ (upd (upd H1 l1 (.tup [.str (wordOf 3), .str p.shown])) l (.lst [.ref l1]))
          generalize upd (upd H1 l1 (.tup [.str (wordOf 3), .str p.shown])) l (.lst [.ref l1]) = H2 at h2 h3 k2 sm2 ⊢
          refine ⟨_, rfl, a, Cz 3, _, .ref (Cz 4), .ref (Cz 4), false, rfl, k2, fun u r => r, T.kit 3 4 (by decide) (by decide), false, rfl, iteF ?_⟩
          refine ⟨_, rfl, l, _, rfl, .inl (SqL.of h2), rfl, true, rfl, iteT ?_⟩
          refine ⟨_, rfl, a, Cz 3, _, .ty "ValueError", .type "ValueError", true, rfl, k2, fun u r => r, T.kV 3 (by decide), true, rfl, iteT ?_⟩
          exact ⟨_, rfl, l, _, 0, _, rfl, rfl, SqL.of h2, rfl, hq (.ref l1) H2 sm2 ⟨l1, rfl, h3⟩⟩
      · refine ⟨T.eX 4 (by decide), fun len a na => ?_⟩
        obtain ⟨s0, s1, s2, s3, s4, rfl⟩ := five_of len
        have k := kept na hx (T.xc 4 (by decide))
        have sa := same_put (s := Same.refl H') (o := CaughtO (.ref (Cz 4)) (some dd) a) na
        refine ⟨_, rfl, _, rfl, rfl, false, rfl, iteF ?_⟩
        refine ⟨Nat.zero_le _, fun l nl => ?_⟩
        have sl := same_put (s := sa) (o := .lst []) nl
        have kl := keptX_same k fun b o e _ => same_put (s := Same.refl _) (o := .lst []) nl b o e
        have hl : upd (upd H' a (CaughtO (.ref (Cz 4)) (some dd) a)) l (.lst []) l = some (.lst []) := upd_same
        have nl2 : H' l = none := same_none sa nl
        clear k
        generalize upd (upd H' a (CaughtO (.ref (Cz 4)) (some dd) a)) l (.lst []) = H1 at sl kl hl ⊢
        refine ⟨_, rfl, a, Cz 4, _, .ref (Cz 0), .ref (Cz 0), false, rfl, kl, fun u r => r, T.kit 4 0 (by decide) (by decide), false, rfl, iteF ?_⟩
        refine ⟨_, rfl, a, Cz 4, _, .ref (Cz 1), .ref (Cz 1), false, rfl, kl, fun u r => r, T.kit 4 1 (by decide) (by decide), false, rfl, iteF ?_⟩
        refine ⟨_, rfl, a, Cz 4, _, .ref (Cz 2), .ref (Cz 2), false, rfl, kl, fun u r => r, T.kit 4 2 (by decide) (by decide), false, rfl, iteF ?_⟩
        refine ⟨_, rfl, a, Cz 4, _, .ref (Cz 3), .ref (Cz 3), false, rfl, kl, fun u r => r, T.kit 4 3 (by decide) (by decide), false, rfl, iteF ?_⟩
        refine ⟨_, rfl, a, Cz 4, _, .ref (Cz 4), .ref (Cz 4), true, rfl, kl, fun u r => r, T.kit 4 4 (by decide) (by decide), true, rfl, iteT ?_⟩
        refine ⟨_, rfl, .inl ⟨rfl, _, SqL.of hl⟩, _, rfl, a, Cz 4, _, .str wh, rfl, kl, T.n1, by simp only [List.lookup, show (("what" : Str) == "most") = false from by decide +kernel, show (("what" : Str) == "what") = true from by decide +kernel], _, _, rfl, .str wh, tw, _, rfl, a, Cz 4, _, .int m, rfl, kl, T.n2, by simp [List.lookup], _, _, rfl, .int m, tp, by show 3 ≤ sizeLine; decide, fun l1 nl1 => ?_⟩
        have n1 : l ≠ l1 := ne_of_none hl nl1
        refine ⟨l, [], _, rfl, rfl, by rw [upd_ne n1]; exact hl, by show 0 < sizeLine; decide, ?_⟩
        have h2 : upd (upd H1 l1 (.tup [.str "many", .str (PyData.str wh).shown, .str (PyData.int m).shown])) l (.lst [.ref l1]) l = some (.lst [.ref l1]) := upd_same
        have h3 : upd (upd H1 l1 (.tup [.str "many", .str (PyData.str wh).shown, .str (PyData.int m).shown])) l (.lst [.ref l1]) l1 = some (.tup [.str "many", .str (PyData.str wh).shown, .str (PyData.int m).shown]) := by
          rw [upd_ne (Ne.symm n1)]
          exact upd_same
        have k2 := keptX_same (H2 := upd (upd H1 l1 (.tup [.str "many", .str (PyData.str wh).shown, .str (PyData.int m).shown])) l (.lst [.ref l1])) kl fun b o e nb => by
          rw [upd_ne (fun z => by rw [z, hl] at e; exact nb _ (Option.some.inj e).symm), upd_ne (ne_of_none e nl1)]
          exact e
        have sm2 : Same H' (upd (upd H1 l1 (.tup [.str "many", .str (PyData.str wh).shown, .str (PyData.int m).shown])) l (.lst [.ref l1])) := fun b o e => by
          rw [upd_ne (ne_of_none e nl2), upd_ne (ne_of_none (sl _ _ e) nl1)]
          exact sl _ _ e
        show Ends.nx _ _ (upd (upd H1 l1 (.tup [.str "many", .str (PyData.str wh).shown, .str (PyData.int m).shown])) l (.lst [.ref l1]))
        generalize upd (upd H1 l1 (.tup [.str "many", .str (PyData.str wh).shown, .str (PyData.int m).shown])) l (.lst [.ref l1]) = H2 at h2 h3 k2 sm2 ⊢
        refine ⟨_, rfl, l, _, rfl, .inl (SqL.of h2), rfl, true, rfl, iteT ?_⟩
        refine ⟨_, rfl, a, Cz 4, _, .ty "ValueError", .type "ValueError", true, rfl, k2, fun u r => r, T.kV 4 (by decide), true, rfl, iteT ?_⟩
        exact ⟨_, rfl, l, _, 0, _, rfl, rfl, SqL.of h2, rfl, hq (.ref l1) H2 sm2 ⟨l1, rfl, h3⟩⟩
    · refine ⟨_, rfl, rfl, true, rfl, iteT ?_⟩
      exact ⟨_, rfl, by show 1 ≤ sizeLine; decide, fun l nl => hv l _ (same_put (s := Same.refl H') nl) nl upd_same⟩
/-- a def whose code object is known -/
structure FunC (K : PySem.W.Frag) (x qual : Str) (st : Stmt) (f c : Addr) (fd : FuncData) : Prop where
  ex : ∃ (oc : Value) (od : Option Addr) (kV doc pm : Value) (an : Option Addr) (ct : Value) (osl : Array (Option Value)), fd = PySem.W.fnOf x qual (defArgs st) (defBody st) (defScope st) .none kV doc pm an (.ref c) ct ∧ K.lookup f = some ⟨oc, od, .func fd, osl⟩ ∧ PySem.W.codeIn K (.ref c) qual = true
section
variable {P : Program} {w : World} {K : PySem.W.Frag} {mg : Str → Option Value} {base : Heap}
theorem FunC.ok {x qual : Str} {st : Stmt} {f c : Addr} {fd : FuncData} {N ps : List Str} {k : Nat} {sp : Sp} (F : FunC K x qual st f c fd) (S : FnScope N ps (defScope st)) (len : ∀ vs H Q E, sp vs H Q E → vs.length = ps.length)
    (body : ∀ (A : Around) (outer : List Env) (s : Shared) (H : Hp) (vs : List V) (Q : VK) (E : XK), Room k (A.deeper (envOfC qual (defScope st) s.heap.objs.size f (.ref c))) → sp vs H Q E →
      ∃ t, PSs (cxOf CX0 P w K mg base N qual (defScope st) f (.ref c) A outer s H E).nox (defBody st) t ∧ t { nx := fun _ H' => Q .non H', rt := Q } (L2.start N vs) H) : FnOk P w K mg base CX0 (k + 1) f fd ps sp := by
  obtain ⟨oc, od, kV, doc, pm, an, ct, osl, e, look, ci⟩ := F.ex
  subst e
  exact fn_of look ci S len fun A outer s H vs Q E room h => (body A outer s H vs Q E room h).imp fun t z => ⟨z.1.nox, z.2⟩
end
/-- what hears, by its name -/
structure HearD (K : PySem.W.Frag) (mg : Str → Option Value) (g : Addr) : Prop where
  hm : mg "_law_heard" = some (.ref g)
  kp : PySem.W.keepIn K (.ref g) = true
  lk : ∃ (oc : Value) (od : Option Addr) (kV doc pm : Value) (an : Option Addr) (cdv ct : Value) (osl : Array (Option Value)), K.lookup g = some ⟨oc, od, .func (PySem.W.fnOf "_law_heard" "_law_heard" (defArgs s_heard) (defBody s_heard) (defScope s_heard) .none kV doc pm an cdv ct), osl⟩ ∧ PySem.W.codeIn K cdv "_law_heard" = true
/-- the tables of code objects of those that make lambdas -/
structure TabT (base : Heap) (mg : Str → Option Value) (T : List (Addr × Str)) (q : Str) (c P : Addr) : Prop where
  tb : TabB base mg c P
  mem : (P, q ++ "<lambda>") ∈ T
  one : ∀ p ∈ T, p.1 = P → p.2 = q ++ "<lambda>"
section
variable {X : Cx} {CW CR CE g c P : Addr} {Cz : Nat → Addr} {T : List (Addr × Str)} {j k : Nat} {params : Arguments} {body : Expr} {scope : Scope} {t : XK → TE} {p lpos pos : Pos} {qn : Str}
/-- what is heard of a lambda written where it is handed on -/
theorem pe_heardG (th : Tc X.K X.mg CW CR CE Cz) (D : HearD X.K X.mg g) (TB : TabT X.base X.mg T qn c P) (sys : SysIn X.base) (quiet : Quiet X.A) (hr : Room j X.A) (hj : k + 3 ≤ j) (hcode : X.env.code = .ref c) (hq : X.env.qual = qn) (hg : Gl X "_law_heard") (L : LamS X.env.scope scope) (hdef : defaultsOf params X.env = ([], []))
    (hbind : ∀ (q : Str) (cl : List (Str × Addr)) (pm cv ctv : Value), bindArgs (PySem.W.kla_fn "<lambda>" q params body scope cl pm cv ctv) ⟨[], []⟩ = pure [])
    (hbody : ∀ (A : Around) (outer : List Env) (s : Shared) (H : Hp) (E : XK) (f c' : Addr), Quiet A → Room k (A.deeper (lamEnv X scope s.heap.objs.size f c')) → PE (lamCx X A outer s H E scope f c') body (t E)) :
    PE X (.Call (.Name "_law_heard" p) [.Lambda params body scope lpos] [] pos) (tLamG T (TTheard Cz) t) := by
  obtain ⟨oc, od, kV, doc, pm, an, cdv, ct, osl, look, ci⟩ := D.lk
  refine pe_lamcallG (k := k) (Ng := n_heard) (a := "_law_ask") quiet hg D.hm D.kp look ci ?_ sc_heard rfl (.inl rfl) (heard_givesG th sys quiet fun s => ?_) TB.tb hcode (by rw [hq]; exact TB.mem) (by rw [hq]; exact TB.one) (hr.mono (by omega)) hdef ⟨L, hbind, hbody⟩
  · exact .all fun us hl => match us, hl with | [_], _ => rfl
  · exact (hr.mono (show 2 ≤ j by omega)).deeper _
end
end V8

set_option Elab.async false
set_option linter.all false
set_option maxRecDepth 100000
set_option maxHeartbeats 4000000
/-! A list of anything and the empty list. -/
namespace L2
open PySem PySem.Spec PyProof.Rows
def rNeNil (K : PySem.W.Frag) : R2 := fun x y H Q => ∃ (a b : Addr) (xs : List V), x = .ref a ∧ y = .ref b ∧ SqL K H a xs ∧ SqL K H b [] ∧ Q (.bl (!xs.isEmpty)) H
theorem op_neNil {X : Cx} (hu : X.A.units < cLine) : OpR X (compareOp .NotEq) (rNeNil X.K) := by
  intro pins s σ H x y v u Q I rx ry h
  obtain ⟨a, b, xs, rfl, rfl, ha, hb, q⟩ := h
  obtain rfl : v = Value.ref a := rx
  obtain rfl : u = Value.ref b := ry
  obtain ⟨its, r1, p1, _⟩ := I.list ha
  obtain ⟨jts, r2, p2, _⟩ := I.list hb
  cases r2
  have l1 : s.heap.IsList a its.toArray := by
    obtain ⟨o, n, e, c, d, f⟩ := p1
    exact ⟨o, e, c, n, by first | exact d | exact f⟩
  have l2 : s.heap.IsList b ([] : List Value).toArray := by
    obtain ⟨o, n, e, c, d, f⟩ := p2
    exact ⟨o, e, c, n, by first | exact d | exact f⟩
  cases its with
  | nil =>
    cases r1
    exact SeqAt.RcNeAt.lists (e := fun _ => true) l1 l2 rfl hu (fun j h1 _ => absurd h1 (by simp)) _ _ _ _ ⟨.bl false, H, I, rfl, q⟩
  | cons t ts =>
    cases r1
    exact SeqAt.RcNeAt.lists_lengths l1 l2 (by simp) hu _ _ _ _ ⟨.bl true, H, I, rfl, q⟩
theorem op_neNilK {X : Cx} {K : PySem.W.Frag} (hK : X.K = K) (hu : X.A.units < cLine) : OpR X (compareOp .NotEq) (rNeNil K) := by
  subst hK
  exact op_neNil hu
section
variable {X : Cx} {C : CXT} {k j : Nat} {Cl f : Addr} {fd : FuncData} {ps : List Str} {sp : Sp} {E : XK} {fe e : Expr} {es : List Expr} {tf : TE} {t : TA} {pos : Pos}
/-- an instance called, its text raising or not -/
def tCallG (Cl : Addr) (sp : Sp) (E : XK) (tf : TE) (t : TA) : TE := fun σ H Q => tf σ H fun y H1 => ∃ a, y = V.ref a ∧ t σ H1 fun vs H2 => (∃ dx fs, H2 a = some (.ins Cl dx fs)) ∧ sp (V.ref a :: vs) H2 Q E
theorem runCallQ {A : Around} {pins : List (Addr × Obj)} {σ : St} {H : Hp} {s : Shared} {Q : VK} {a : Addr} {us : List Value} {xs : List V} (o : Own X.K Cl "__call__" f) (fi : PySem.W.fnIn X.K f = true) (F : FnG X.prog X.w X.K X.mg X.base C k f fd ps sp) (g : Quiet A) (sb : Sub X k A) (b : Binds X.K fd ps []) (out : Passes C X E)
    (I : Inv X pins σ H s) (hi : StX.InsC X H a Cl) (v : Vals xs us) (h : sp (.ref a :: xs) H Q E) : wpAny (model X.prog X.w) A (call (.ref a) us) (EP X pins σ Q) X.xe s := by
  have en : Env0 X.prog X.w X.K X.mg X.base A X.stack s H := by
    have z := I.env0
    exact ⟨by rw [sb.fr]; exact z.frames, z.mod, z.bs, z.bsz, z.funs, z.frf, z.hok, z.bare⟩
  have v2 : Vals (V.ref a :: xs) (Value.ref a :: us) := .cons rfl v
  have many : (Value.ref a :: us).length = ps.length := by
    rw [← v2.length]
    exact F.count _ _ _ _ h
  have bd := b s (Value.ref a :: us) I.kIn (by rw [List.append_nil]; exact many)
  rw [List.append_nil] at bd
  obtain ⟨ox, od, J, hd⟩ := StX.insC_at I hi
  refine wpAny_call (PySem.W.kco_code I.kIn J hd o.find o.fn fi (codeAny_mono (F.runs A X.stack s H ⟨Value.ref a :: us, []⟩ (Value.ref a :: us) (V.ref a :: xs) Q E g sb.room en bd v2 h) fun x s2 q => ?_))
  match x, q with
  | .error er, q => exact out pins σ H s er s2 I q
  | .ok (.ret u), q => exact I.after q
  | .ok .next, q => exact q.elim
  | .ok .brk, q => exact q.elim
  | .ok .cont, q => exact q.elim
theorem pe_callG (hf : PE X fe tf) (M : MfG X.prog X.w X.K X.mg X.base C k Cl "__call__" sp) (g : Quiet X.A) (out : Passes C X E) (hr : Room j X.A) (hk : k ≤ j) (ha : PA X (e :: es) t)
    (ht : eval (.Call fe (e :: es) [] pos) X.env = (do callWith pos (← eval fe X.env) [] (backTo pos (starEach (e :: es) X.env)) (backToKw pos (keywordEach [] X.env))) := by rfl)
    (he : starEach (e :: es) X.env = (false, eval e X.env) :: starEach es X.env := by rfl) (hpl : (backTo pos (starEach es X.env)).any (·.1) = false := by rfl) : PE X (.Call fe (e :: es) [] pos) (tCallG Cl sp E tf t) := by
  obtain ⟨f, fd, ps, F, hm, own, fi, b⟩ := M.ex
  refine ⟨fun pins s σ H Q I h => Call_ (thn (hf.run pins s σ H _ I h) fun u s1 z => ?_) ht⟩
  obtain ⟨y, H1, I1, ry, a, ey, q⟩ := z
  subst ey
  obtain rfl : u = Value.ref a := ry
  refine StX.callO_with (thn (ha.run pos pins s1 σ H1 _ I1 q) fun us s2 z => ?_) he hpl
  obtain ⟨vs, H2, I2, r, ⟨dx, fs, hi⟩, q2⟩ := z
  have hi2 : StX.InsC X H2 a Cl := .inr ⟨dx, fs, hi⟩
  obtain ⟨ox, od, J, hd⟩ := StX.insC_at I2 hi2
  exact ⟨⟨Cl, ox, od, J, hd⟩, runCallQ own fi F g (Sub.here (hr.mono hk)) b out I2 hi2 r q2⟩
end
end L2

set_option Elab.async false
set_option linter.all false
set_option maxRecDepth 100000
set_option maxHeartbeats 8000000
set_option pp.maxSteps 2000
/-! What is heard, as the law hears it; what stays of a heap; things held. -/
namespace V8
open PySem PySem.Spec PyProof.Rows L2 MX SetT LamX PySem.Builtin.Str
theorem nice_text {z : Str} (h : (PyData.str z).shown.length ≤ 3000) (h2 : PyData.strOk (PyData.str z).shown = true) (h3 : z.length ≤ 2500) (h4 : ∀ c ∈ z.cps.toList, c < 128) : NiceD (.str z) := ⟨⟨by simp [PyData.showable], by simp [PyData.depth], by omega⟩, h, by simp [PyData.depth], h2, fun z e => by
  cases e
  exact ⟨h3, h4⟩⟩
theorem strOk_lt {z : Str} (h : ∀ c ∈ z.cps.toList, c < 128) : PyData.strOk z = true := by
  unfold PyData.strOk
  rw [← Array.all_toList, List.all_eq_true]
  intro c hc
  have := h c hc
  exact decide_eq_true (by omega)
theorem shaped_of {d : PyData} (h : d.canLay0 = true) (h2 : d.depth ≤ 64) : SeqAt.shaped d = true := by
  show (d.canLay0 && decide (d.depth ≤ 64)) = true
  rw [h, decide_eq_true h2]
  rfl
def okZ (z : Str) : Bool := decide ((PyData.str z).shown.length ≤ 3000) && PyData.strOk (PyData.str z).shown && decide (z.length ≤ 2500) && z.cps.toList.all fun c => decide (c < 128)
theorem nice_okZ {z : Str} (h : okZ z = true) : NiceD (.str z) := by
  unfold okZ at h
  rw [Bool.and_eq_true, Bool.and_eq_true, Bool.and_eq_true, decide_eq_true_iff, decide_eq_true_iff] at h
  exact nice_text h.1.1.1 h.1.1.2 h.1.2 fun c hc => of_decide_eq_true (List.all_eq_true.mp h.2 c hc)
theorem nice_non : NiceD .none := ⟨⟨by simp [PyData.showable], by simp [PyData.depth], by decide +kernel⟩, by decide +kernel, by simp [PyData.depth], by decide +kernel, fun z e => nomatch e⟩
theorem fold_app (a : Array Nat) : ∀ (k : Nat) (acc : Array Nat), (List.replicate k a).foldl (fun x y => x ++ y) acc = acc ++ ((List.replicate k a.toList).flatten).toArray
  | 0, acc => by simp
  | k + 1, acc => by
    rw [List.replicate_succ, List.foldl_cons, fold_app a k]
    apply Array.toList_inj.mp
    simp [List.replicate_succ, List.append_assoc]
theorem mul_Sx (s : List Nat) (k : Nat) (h : 2 ≤ k) (hs : s ≠ []) : Txt.mul (Sx s) ((k : Nat) : Int) = Sx (List.replicate k s).flatten := by
  have hl : (Sx s).length ≠ 0 := by
    rw [Sx_len]
    exact fun z => hs (List.length_eq_zero_iff.mp z)
  unfold Txt.mul
  rw [if_neg (by omega), if_neg (by
    rw [Bool.or_eq_true, beq_iff_eq, beq_iff_eq]
    rintro (z | z)
    · omega
    · exact hl z)]
  have e : ((k : Nat) : Int).toNat = k := Int.toNat_natCast k
  rw [e, fold_app]
  show (⟨#[] ++ ((List.replicate k s.toArray.toList).flatten).toArray⟩ : Str) = ⟨_⟩
  congr 1
  simp
theorem flat_one (k c : Nat) : (List.replicate k [c]).flatten = List.replicate k c := by
  induction k with
  | zero => rfl
  | succ k ih => rw [List.replicate_succ, List.flatten_cons, ih, List.replicate_succ]; rfl
/-- all but the pen and the tables stays -/
def Mv (p : Addr) (H H' : Hp) : Prop := ∀ b o, H b = some o → b ≠ p → (∀ ps, o ≠ .tbl ps) → H' b = some o
theorem Mv.refl {p : Addr} {H : Hp} : Mv p H H := fun _ _ e _ _ => e
theorem Mv.trans {p : Addr} {H H1 H2 : Hp} (a : Mv p H H1) (b : Mv p H1 H2) : Mv p H H2 := fun c o e n t => b c o (a c o e n t) n t
theorem Mv.ofFr {p : Addr} {H H' : Hp} (f : Fr p H H') : Mv p H H' := fun b o e n _ => f b o e n
theorem Mv.ofExt {p : Addr} {H H' : Hp} (f : ExtN H H') : Mv p H H' := fun b o e _ t => f b o e t
theorem Mv.ofSame {p : Addr} {H H' : Hp} (f : Same H H') : Mv p H H' := fun b o e _ _ => f b o e
/-- where the pen is -/
def PenL (H : Hp) (p : Addr) : Prop := ∃ xs, H p = some (.lst xs)
theorem Mv.at {p b : Addr} {H H' : Hp} {o : HO} (m : Mv p H H') (P : PenL H p) (e : H b = some o) (l : ∀ xs, o ≠ .lst xs) (t : ∀ ps, o ≠ .tbl ps) : H' b = some o := m _ _ e (fun z => by
  obtain ⟨xs, h⟩ := P
  rw [z, h] at e
  exact l xs (Option.some.inj e).symm) t
theorem PenAt.pl {H : Hp} {p l : Addr} {ns : List Int} {n : Nat} (P : PenAt H p l ns n) : PenL H p := P.pen
theorem tabs_fr {T : List (Addr × Str)} {p : Addr} {H H' : Hp} (t : Tabs T H) (P : PenL H p) (e : Fr p H H') : Tabs T H' := fun q hq => by
  obtain ⟨ps, h1, h2, h3⟩ := t q hq
  obtain ⟨xs, hp⟩ := P
  have off : ∀ {b : Addr} {o : HO}, H b = some o → (∀ ys, o ≠ .lst ys) → H' b = some o := fun {b o} e1 n => e b o e1 fun z => by
    rw [z, hp] at e1
    exact n _ (Option.some.inj e1).symm
  refine ⟨ps, off h1 (fun _ z => nomatch z), h2, fun pos cv hc => ?_⟩
  obtain ⟨c, e1, e2⟩ := h3 pos cv hc
  exact ⟨c, e1, off e2 (fun _ z => nomatch z)⟩
theorem pen_ext {H H' : Hp} {p l : Addr} {ns : List Int} {n : Nat} (P : PenAt H p l ns n) (s : ExtN H H') : PenAt H' p l ns n := by
  obtain ⟨⟨a, g, h1, h2, h3, h4⟩, i, e, sh⟩ := P
  exact ⟨⟨a, g, s _ _ h1 (fun _ z => nomatch z), h2, h3, h4⟩, s _ _ i (fun _ z => nomatch z), e, sh⟩
section
variable {P : Program} {w : World} {K : PySem.W.Frag} {mg : Str → Option Value} {base : Heap}
theorem FunC.okG {x qual : Str} {st : Stmt} {f c : Addr} {fd : FuncData} {N ps : List Str} {k : Nat} {sp : Sp} (F : FunC K x qual st f c fd) (S : FnScope N ps (defScope st)) (count : ∀ (xs : List V) (H : Hp) (Q : VK) (E : XK), sp xs H Q E → xs.length = ps.length)
    (body : ∀ (A : Around) (outer : List Env) (s : Shared) (H : Hp) (xs : List V) (Q : VK) (E : XK), Quiet A → Room k (A.deeper (envOfC qual (defScope st) s.heap.objs.size f (.ref c))) → sp xs H Q E →
      ∃ t, PSs (cxOf CX0 P w K mg base N qual (defScope st) f (.ref c) A outer s H E).nox (defBody st) t ∧ t { nx := fun _ H2 => Q .non H2, rt := Q } (L2.start N xs) H) : FnG P w K mg base CX0 (k + 1) f fd ps sp := by
  obtain ⟨oc, od, kV, doc, pm, an, ct, osl, e, look, ci⟩ := F.ex
  subst e
  refine ⟨count, fun A outer s H args us xs Q E g r e0 b v h => LamX.run_ofS look ci S r e0 b v (count _ _ _ _ h) fun r2 => ?_⟩
  obtain ⟨t, h1, h2⟩ := body A outer s H xs Q E g r2 h
  exact ⟨t, h1.nox, h2⟩
end
theorem eq_same {K : PySem.W.Frag} {H : Hp} {Q : VK} {x y : V} {d : PyData} (hx : Dp K H x d) (hy : Dp K H y d) (sh : SeqAt.shaped d = true) (q : Q (.bl true) H) : rEqD K x y H Q := by
  refine ⟨d, d, hx, hy, sh, sh, ?_⟩
  rw [SeqAt.eqv_refl d (SeqAt.canLay_of_shaped sh)]
  exact q
theorem neD_same {K : PySem.W.Frag} {H : Hp} {Q : VK} {x y : V} {d : PyData} (hx : Dp K H x d) (hy : Dp K H y d) (sh : SeqAt.shaped d = true) (q : Q (.bl false) H) : rNeD K x y H Q := by
  refine ⟨d, d, hx, hy, sh, sh, ?_⟩
  rw [SeqAt.eqv_refl d (SeqAt.canLay_of_shaped sh)]
  exact q
theorem held_shape {H : Hp} {a : Addr} {d : PyData} (h : Held H (.ref a) d) : ∃ o, H a = some o ∧ (∀ ps, o ≠ .tbl ps) := by
  rcases h.tl with f | ⟨b, xs, e, hb, l, g⟩ | ⟨b, kvs, e, hb, l, n, g⟩
  · rcases f with ⟨z, e⟩ | ⟨i, e⟩ | e | ⟨b, e⟩ <;> cases e
  · cases e
    rcases hb with hb | hb
    · exact ⟨_, hb, fun _ z => nomatch z⟩
    · exact ⟨_, hb, fun _ z => nomatch z⟩
  · cases e
    exact ⟨_, hb, fun _ z => nomatch z⟩
theorem held_mv {p : Addr} {H H2 : Hp} {x : V} {d : PyData} (h : Held H x d) (np : ∀ a, x = .ref a → a ≠ p) (m : Mv p H H2) : Held H2 x d := held_move h fun b o e hb => by
  subst e
  obtain ⟨o2, e2, n2⟩ := held_shape h
  rw [hb] at e2
  cases e2
  exact m _ _ hb (np b rfl) n2
theorem grow_mv {H : Hp} {b : Addr} {o : HO} : Mv b H (upd H b o) := fun c u e nc _ => by
  rw [upd_ne nc]
  exact e
theorem nice_bool (b : Bool) : NiceD (.bool b) := by
  cases b
  · exact ⟨⟨by simp [PyData.showable], by simp [PyData.depth], by decide +kernel⟩, by decide +kernel, by simp [PyData.depth], by decide +kernel, fun z e => nomatch e⟩
  · exact ⟨⟨by simp [PyData.showable], by simp [PyData.depth], by decide +kernel⟩, by decide +kernel, by simp [PyData.depth], by decide +kernel, fun z e => nomatch e⟩
theorem nice_dict : NiceD (.dict []) := ⟨⟨by decide +kernel, by decide +kernel, by decide +kernel⟩, by decide +kernel, by decide +kernel, by decide +kernel, fun z e => nomatch e⟩
theorem held_non {H : Hp} : Held H .non .none := ⟨.inl (.inr (.inr (.inl rfl))), .non, nice_non⟩
theorem held_int {H : Hp} {i : Int} (n : NiceD (.int i)) : Held H (.int i) (.int i) := ⟨.inl (.inr (.inl ⟨i, rfl⟩)), .int i, n⟩
theorem held_bl {H : Hp} (b : Bool) : Held H (.bl b) (.bool b) := ⟨.inl (.inr (.inr (.inr ⟨b, rfl⟩))), .bl b, nice_bool b⟩
theorem held_dict {H : Hp} {t : Addr} (h : H t = some (.dK [])) : Held H (.ref t) (.dict []) := ⟨.inr (.inr ⟨t, [], rfl, h, by decide, List.nodup_nil, fun y hy => absurd hy List.not_mem_nil⟩), .dic (ds := []) h .nil, nice_dict⟩
theorem np_flat {p : Addr} {v : V} (h : ∀ a, v ≠ .ref a) : ∀ a, v = .ref a → a ≠ p := fun a e => absurd e (h a)
theorem np_ref {p t : Addr} (h : t ≠ p) : ∀ a, V.ref t = .ref a → a ≠ p := fun a e => by
  cases e
  exact h
def BadOk : Bad → Prop
  | .one i d => i < 4 ∧ NiceD d
  | .many wh m => NiceD (.str wh) ∧ NiceD (.int m)
theorem out_hear {Cz : Nat → Addr} {H : Hp} {b : Bad} {Q : VK} (nb : BadOk b) (k : ∀ v H2, Same H H2 → HrB H2 v b → Q v H2) : OutB Cz H b (HearE Cz Q) := by
  cases b with
  | one i d => exact fun dd y H2 s p e => ⟨dd, rfl, .inl ⟨i, y, d, nb.1, rfl, p, nb.2.te, e, fun v H3 s3 hv => k v H3 (fun b o z => s3 _ _ (s _ _ z)) hv⟩⟩
  | many wh m => exact fun dd H2 s e => ⟨dd, rfl, .inr ⟨wh, m, rfl, nb.1.te, nb.2.te, e, fun v H3 s3 hv => k v H3 (fun b o z => s3 _ _ (s _ _ z)) hv⟩⟩
/-- what is heard: words of an error, or a list of what is returned -/
def HrO (P : V → Hp → Prop) (H : Hp) (v : V) : Option Bad → Prop
  | some b => HrB H v b
  | none => ∃ l x, v = .ref l ∧ H l = some (.lst [x]) ∧ P x H
/-- what is heard of a lambda, by what it does -/
theorem heard_end {TL : List (Addr × Str)} {Cz : Nat → Addr} {t : XK → TE} {σ : L2.St} {H : Hp} {Q : VK} (o : Option Bad) (P : V → Hp → Prop) (tb : Tabs TL H)
    (body : ∀ (H1 : Hp) (E : XK) (R : VK), ExtN H H1 → Tabs TL H1 → (∀ b, BadOk b → o = some b → OutB Cz H1 b E) → (o = none → ∀ x H2, Same H1 H2 → (∀ H3, Same H2 H3 → P x H3) → R x H2) → t E σ H1 R) (q : ∀ v H2, ExtN H H2 → Tabs TL H2 → HrO P H2 v o → Q v H2) : tLamG TL (TTheard Cz) t σ H Q := by
  refine ⟨tb, fun H1 e1 tb1 R H2 hR s2 => body H2 _ R (e1.trans (ExtN.of s2)) (tb1.ext s2) (fun b nb eo => ?_) (fun eo v H3 s3 hP => hR v H3 fun l H4 s4 nl hl => ?_)⟩
  · exact out_hear nb fun v H3 s3 hv => q v H3 ((e1.trans (ExtN.of s2)).trans (ExtN.of s3)) ((tb1.ext s2).ext s3) (eo ▸ hv)
  · refine q (.ref l) H4 (((e1.trans (ExtN.of s2)).trans (ExtN.of s3)).trans (ExtN.of s4)) (((tb1.ext s2).ext s3).ext s4) ?_
    rw [eo]
    exact ⟨l, v, rfl, hl, hP H4 s4⟩
end V8

set_option Elab.async false
set_option linter.all false
set_option maxRecDepth 100000
set_option maxHeartbeats 16000000
set_option pp.maxSteps 1500
/-! What is due of a row. -/
namespace V8
open PySem PySem.Spec PyProof.Rows L2 MX SetT LamX
abbrev s__law_is_number : Stmt := topS 42
abbrev n__law_is_number : List Str := ["_law_value"]
theorem sc__law_is_number : FnScope ["_law_value"] ["_law_value"] (defScope s__law_is_number) := ⟨rfl, rfl, rfl, by decide +kernel, rfl, by decide +kernel, by decide +kernel⟩
abbrev s__law_due : Stmt := topS 43
abbrev n__law_due : List Str := ["_law_numbers_so", "_law_signs_so", "_law_bad", "_law_lacking", "_law_one", "_law_at"]
theorem sc__law_due : FnScope ["_law_numbers_so", "_law_signs_so", "_law_bad", "_law_lacking", "_law_one", "_law_at"] ["_law_numbers_so", "_law_signs_so"] (defScope s__law_due) := ⟨rfl, rfl, rfl, by decide +kernel, rfl, by decide +kernel, by decide +kernel⟩
/-- what is heard of a row that is read: words, or a list of one text -/
def HrU (H : Hp) (v : V) : Bad ⊕ List Nat → Prop
  | .inl b => HrB H v b
  | .inr s => ∃ l, v = .ref l ∧ H l = some (.lst [.str (Sx s)])
def badX (p : PyData → Bool) : List V → List PyData → List V
  | x :: xs, d :: ds => if p d = true then x :: badX p xs ds else badX p xs ds
  | _, _ => []
theorem badX_len (p : PyData → Bool) : ∀ (xs : List V) (ds : List PyData), (badX p xs ds).length ≤ ds.length
  | [], ds => by
    show 0 ≤ _
    omega
  | x :: xs, [] => Nat.le_refl _
  | x :: xs, d :: ds => by
    have ih := badX_len p xs ds
    show (if p d = true then x :: badX p xs ds else badX p xs ds).length ≤ ds.length + 1
    by_cases h : p d = true
    · rw [if_pos h, List.length_cons]
      omega
    · rw [if_neg h]
      omega
theorem badX_snoc (p : PyData → Bool) : ∀ {xs : List V} {ds : List PyData} {i : Nat} {x : V} {d : PyData}, xs[i]? = some x → ds[i]? = some d → badX p (xs.take (i + 1)) (ds.take (i + 1)) = badX p (xs.take i) (ds.take i) ++ (if p d = true then [x] else [])
  | [], ds, i, x, d, h, _ => by simp at h
  | _ :: _, [], i, x, d, _, h => by simp at h
  | a :: xs, b :: ds, 0, x, d, h1, h2 => by
    obtain rfl : a = x := by simpa using h1
    obtain rfl : b = d := by simpa using h2
    show (if p b = true then a :: badX p [] [] else badX p [] []) = [] ++ _
    rw [List.nil_append]
    rfl
  | a :: xs, b :: ds, i + 1, x, d, h1, h2 => by
    have ih := badX_snoc p (xs := xs) (ds := ds) (i := i) (x := x) (d := d) (by simpa using h1) (by simpa using h2)
    rw [List.take_succ_cons, List.take_succ_cons, List.take_succ_cons, List.take_succ_cons]
    show (if p b = true then a :: badX p (xs.take (i + 1)) (ds.take (i + 1)) else badX p (xs.take (i + 1)) (ds.take (i + 1))) = (if p b = true then a :: badX p (xs.take i) (ds.take i) else badX p (xs.take i) (ds.take i)) ++ _
    rw [ih]
    by_cases h : p b = true
    · rw [if_pos h, if_pos h]
      rfl
    · rw [if_neg h, if_neg h]
theorem badX_of {R : V → PyData → Prop} {p : PyData → Bool} {xs : List V} {ds : List PyData} (h : Paired R xs ds) : (badX p xs ds = [] ∧ ds.find? p = none) ∨ ∃ x r d, badX p xs ds = x :: r ∧ ds.find? p = some d ∧ R x d := by
  induction h with
  | nil => exact .inl ⟨rfl, rfl⟩
  | @cons x d xs ds r _ ih =>
    rw [List.find?_cons]
    show ((if p d = true then x :: badX p xs ds else badX p xs ds) = [] ∧ _) ∨ ∃ x' r' d', (if p d = true then x :: badX p xs ds else badX p xs ds) = _ ∧ _ ∧ _
    cases e : p d with
    | true => exact .inr ⟨x, _, d, if_pos rfl, rfl, r⟩
    | false =>
      rw [if_neg Bool.false_ne_true]
      exact ih
/-- the places that cannot be read -/
def lack (t : Tab) (ds : List PyData) (n : Nat) : List Nat := (List.range n).filter fun j => match ds[j]? with
  | some d => (lookD t d).isNone
  | none => false
theorem lack_len (t : Tab) (ds : List PyData) (n : Nat) : (lack t ds n).length ≤ n := by
  have := List.length_filter_le (fun j => match ds[j]? with | some d => (lookD t d).isNone | none => false) (List.range n)
  rw [List.length_range] at this
  exact this
theorem lack_snoc {t : Tab} {ds : List PyData} {i : Nat} {d : PyData} (h : ds[i]? = some d) : lack t ds (i + 1) = lack t ds i ++ (if (lookD t d).isNone = true then [i] else []) := by
  unfold lack
  rw [List.range_succ, List.filter_append]
  congr 1
  rw [List.filter_cons, h]
  rfl
theorem lack_of (t : Tab) (ds : List PyData) : (lack t ds ds.length = [] ∧ unread t ds = none) ∨ ∃ i r, lack t ds ds.length = i :: r ∧ unread t ds = some i := by
  cases e : unread t ds with
  | none =>
    refine .inl ⟨List.filter_eq_nil_iff.mpr fun j hj => ?_, rfl⟩
    have lt := List.mem_range.mp hj
    obtain ⟨s, es⟩ := unread_no e _ (List.getElem_mem lt)
    rw [List.getElem?_eq_getElem lt]
    show ¬ (lookD t ds[j]).isNone = true
    rw [es]
    exact Bool.false_ne_true
  | some i =>
    obtain ⟨hi, h1, h2⟩ := List.findIdx?_eq_some_iff_getElem.mp e
    have hd : (lack t ds ds.length).head? = some i := by
      unfold lack
      rw [List.head?_filter]
      refine find_take (i := i) (List.getElem?_range hi) (fun j hj => ?_) ?_
      · rw [List.take_range] at hj
        have lt := List.mem_range.mp hj
        have lt2 : j < i := by omega
        have h3 := h2 j lt2
        rw [List.getElem?_eq_getElem (by omega)]
        show (lookD t ds[j]).isNone = false
        cases z : lookD t ds[j] with
        | none =>
          rw [z] at h3
          exact absurd rfl h3
        | some _ => rfl
      · rw [List.getElem?_eq_getElem hi]
        exact h1
    refine .inr ⟨i, (lack t ds ds.length).tail, ?_, rfl⟩
    cases z : lack t ds ds.length with
    | nil =>
      rw [z] at hd
      cases hd
    | cons a r =>
      rw [z] at hd
      cases hd
      rfl
theorem pw_int {H : Hp} {x : V} {i : Int} (p : PyW H x (.int i)) : x = .int i := by
  cases p with
  | int _ => rfl
theorem at0 {α : Type} {x : α} {r : List α} : atI (x :: r) 0 = some x := atI_nat (xs := x :: r) (j := 0) rfl
def idxs (l : List Nat) : List V := l.map fun n => V.int ((n : Nat) : Int)
def spLawNum : Sp := fun vs H Q _ => ∃ x d, vs = [x] ∧ PyW H x d ∧ Q (.bl (numD d)) H
def spDue : Sp := fun vs H Q _ => ∃ a b xs ds t, vs = [.ref a, .ref b] ∧ H a = some (.lst xs) ∧ Paired (Held H) xs ds ∧ ds.length ≤ 20 ∧ SigA H b t ∧ ∀ v H2, Same H H2 → HrU H2 v (dueR t ds) → Q v H2
section
variable {P : Program} {w : World} {K : PySem.W.Frag} {mg : Str → Option Value} {base : Heap} {CW CR CE : Addr} {Cz : Nat → Addr}
theorem ok_law_number {f : Addr} {fd : FuncData} (F : Fun K "_law_is_number" "_law_is_number" s__law_is_number f fd) (T : Tc K mg CW CR CE Cz) : FnOk P w K mg base CX0 1 f fd ["_law_value"] spLawNum := by
  refine F.ok sc__law_is_number (fun vs H Q E h => ?_) (fun cdv A outer s H vs Q E hr h => ?_)
  · obtain ⟨x, d, rfl, _⟩ := h
    rfl
  · obtain ⟨x, d, rfl, p, q⟩ := h
    refine ⟨_, (pss_one (ps_ret (pe_and (pe_callB call_isi (by rfl) T.isinstance (by decide +kernel) (pa_cons (pv 0) (pa_cons (pe_bltn (v := .ty "int") (by rfl) T.int (by decide +kernel) rfl) pa_nil))) (pe_and (pe_not (pe_callB call_isi (by rfl) T.isinstance (by decide +kernel) (pa_cons (pv 0) (pa_cons (pe_bltn (v := .ty "bool") (by rfl) T.bool (by decide +kernel) rfl) pa_nil)))) (pe_one (pe_chain op_le op_le pe_int (pv 0) pe_int)))))), ?_⟩
    rcases pw_num (K := K) p with ⟨i, rfl, rfl⟩ | ⟨b, rfl, rfl⟩ | ⟨ni, e, t, ty, k⟩
    · refine ⟨_, rfl, _, .ty "int", .type "int", .type "int", true, rfl, .ty _, .base (.int i), kit_ty (by decide +kernel), true, rfl, iteT ?_⟩
      refine ⟨_, rfl, _, .ty "bool", .type "int", .type "bool", false, rfl, .ty _, .base (.int i), kit_ty (by decide +kernel), _, rfl, true, rfl, iteT ?_⟩
      refine ⟨_, rfl, _, _, rfl, rfl, decide (0 ≤ i), rfl, ?_⟩
      have q1 : Q (.bl (decide (0 ≤ i) && decide (i ≤ 255))) H := q
      by_cases h : 0 ≤ i
      · rw [decide_eq_true h] at q1 ⊢
        rw [Bool.true_and] at q1
        exact ⟨_, _, rfl, rfl, q1⟩
      · rw [decide_eq_false h] at q1 ⊢
        rw [Bool.false_and] at q1
        exact q1
    · refine ⟨_, rfl, _, .ty "int", .type "bool", .type "int", true, rfl, .ty _, .base (.bl b), kit_ty (by decide +kernel), true, rfl, iteT ?_⟩
      exact ⟨_, rfl, _, .ty "bool", .type "bool", .type "bool", true, rfl, .ty _, .base (.bl b), kit_ty (by decide +kernel), _, rfl, false, rfl, iteF q⟩
    · rw [e] at q
      exact ⟨_, rfl, _, .ty "int", t, .type "int", false, rfl, .ty _, ty, k, false, rfl, iteF q⟩
theorem ok_due {f : Addr} {fd : FuncData} (F : Fun K "_law_due" "_law_due" s__law_due f fd) (T : Tc K mg CW CR CE Cz) (sys : SysIn base) (D_is_number : Df P w K mg base 1 "_law_is_number" spLawNum) : FnG P w K mg base CX0 3 f fd ["_law_numbers_so", "_law_signs_so"] spDue := by
  refine F.okG sc__law_due (fun vs H Q E h => ?_) (fun cdv A outer s H vs Q E quiet hr h => ?_)
  · obtain ⟨a, b, xs, ds, t, rfl, _⟩ := h
    rfl
  · obtain ⟨a, b, xs, ds, t, rfl, ha, pr, few, sg, q⟩ := h
    refine ⟨_, (pss_cons (ps_setLc (i := 2) (own := [("_law_one", 4)]) (g := gName 4) (by rfl) sc__law_due.nd rfl rfl (sw_true rfl rfl rfl (by decide +kernel)) (pi_list (pv 0)) (blkOk_by (own := [("_law_one", 4)]) (N := n__law_due) (sc := defScope s__law_due) (by decide +kernel)) (fun _ _ _ _ _ => (pg_name (i := 4) sc__law_due.nd rfl (.inl rfl))) (fun _ _ _ _ _ => (pts_one (pt_not (pt_val (pe_c D_is_number hr (by decide) (by rfl) (pa_cons (pv 4) pa_nil)))))) (fun _ _ _ _ _ => (pv 4)))
      (pss_cons (ps_if (pt_cmpR (op_neNilK (K := K) rfl hr.units0) (pv 2) (pe_lst pa_nil) (nomark _))
        (pss_one (ps_ret (pe_tup (pa_cons pe_str (pa_cons (pe_callB (call_reprW sys quiet hr) (by rfl) T.repr (by decide +kernel) (pa_cons (pe_ix (ix_listK (K := K) rfl) (pv 2) pe_int (fun _ _ => rfl)) pa_nil)) pa_nil)))))
        pss_nil)
      (pss_cons (ps_setLc (i := 3) (own := [("_law_at", 5)]) (g := gName 5) (by rfl) sc__law_due.nd rfl rfl (sw_true rfl rfl rfl (by decide +kernel)) (pi_range1 (by rfl) T.range (pa_cons (pe_callB (call_len_seqK (K := K) rfl) (by rfl) T.len (by decide +kernel) (pa_cons (pv 0) pa_nil)) pa_nil)) (blkOk_by (own := [("_law_at", 5)]) (N := n__law_due) (sc := defScope s__law_due) (by decide +kernel)) (fun _ _ _ _ _ => (pg_name (i := 5) sc__law_due.nd rfl (.inl rfl))) (fun _ _ _ _ _ => (pts_one (pt_cmp (pc_dnotin (hu_of hr) (pe_ix (ix_listK (K := K) rfl) (pv 0) (pv 5) (fun _ _ => rfl)) (pv 1))))) (fun _ _ _ _ _ => (pv 5)))
      (pss_cons (ps_if (pt_cmpR (op_neNilK (K := K) rfl hr.units0) (pv 3) (pe_lst pa_nil) (nomark _))
        (pss_one (ps_ret (pe_tup (pa_cons pe_str (pa_cons (pe_callB (call_reprW sys quiet hr) (by rfl) T.repr (by decide +kernel) (pa_cons (pe_ix (ix_listK (K := K) rfl) (pv 3) pe_int (fun _ _ => rfl)) pa_nil)) pa_nil)))))
        pss_nil)
      (pss_one (ps_ret (pe_lst (pa_cons (pe_joinK (K := K) rfl pe_str (pe_lc (own := [("_law_one", 4)]) (g := gName 4) (by rfl) sc__law_due.nd (pi_list (pv 0)) (blkOk_by (own := [("_law_one", 4)]) (N := n__law_due) (sc := defScope s__law_due) (by decide +kernel)) (fun _ _ _ _ _ => (pg_name (i := 4) sc__law_due.nd rfl (.inl rfl))) (fun _ _ _ _ _ => pts_nil) (fun _ _ _ _ _ => (pe_dget (hu_of hr) (pv 1) (pv 4) (fun _ _ => rfl))))) pa_nil)))))))), ?_⟩
    have el := pair_len pr
    refine ⟨_, rfl, a, rfl, ⟨xs, SqL.of ha⟩, fun D nD => lc_it (walk_list (K := K) (a := a) (xs := xs)) (fun i H2 => H2 = upd H D (.lst (badX (fun d => !numD d) (xs.take i) (ds.take i)))) rfl ?_ ?_ ?_⟩
    · rintro i H2 hi rfl
      exact SqL.of (by rw [upd_ne (ne_of_none ha nD)]; exact ha)
    · rintro i x H2 H3 hi rfl ⟨eH, hx⟩
      rw [eH]
      obtain ⟨d2, hd2, hh⟩ := pair_get pr hx
      have st := badX_snoc (fun d => !numD d) hx hd2
      have s2 : Same H (upd H D (.lst (badX (fun d => !numD d) (xs.take i) (ds.take i)))) := same_put (s := Same.refl H) nD
      refine ⟨rfl, _, rfl, x, d2, rfl, (hh.same s2).pw, ?_⟩
      cases e : numD d2 with
      | true =>
        rw [e] at st
        refine ⟨true, rfl, iteF ?_⟩
        rw [st]
        show _ = upd H D (.lst (_ ++ []))
        rw [List.append_nil]
      | false =>
        rw [e] at st
        refine ⟨false, rfl, iteT ⟨_, rfl, _, upd_same, ?_, ?_⟩⟩
        · have l1 := badX_len (fun d => !numD d) (xs.take i) (ds.take i)
          rw [List.length_take] at l1
          rw [sizeLine_eq]
          omega
        · rw [upd_upd, st]
          rfl
    · rintro H2 rfl
      rw [List.take_of_length_le (by omega), List.take_of_length_le (by omega)]
      have s2 : Same H (upd H D (.lst (badX (fun d => !numD d) xs ds))) := same_put (s := Same.refl H) nD
      have hD : upd H D (.lst (badX (fun d => !numD d) xs ds)) D = some (.lst (badX (fun d => !numD d) xs ds)) := upd_same
      generalize upd H D (.lst (badX (fun d => !numD d) xs ds)) = H2 at s2 hD ⊢
      refine ⟨_, rfl, Nat.zero_le _, fun o no => ?_⟩
      have s3 := same_put (s := s2) (o := .lst []) no
      have hD3 : upd H2 o (.lst []) D = some (.lst (badX (fun d => !numD d) xs ds)) := by rw [upd_ne (ne_of_none hD no)]; exact hD
      have ho : upd H2 o (.lst []) o = some (.lst []) := upd_same
      generalize upd H2 o (.lst []) = H3 at s3 hD3 ho ⊢
      refine ⟨D, o, _, rfl, rfl, SqL.of hD3, SqL.of ho, ?_⟩
      unfold dueR at q
      rcases badX_of (p := fun d => !numD d) pr with ⟨eb, fn⟩ | ⟨x, r, d, eb, fn, hx⟩
      · rw [fn] at q
        dsimp only at q
        rw [eb]
        refine ⟨false, rfl, iteF ?_⟩
        clear hD3 ho hD no
        refine ⟨_, rfl, a, _, rfl, .inl (SqL.of (s3 _ _ ha)), _, rfl, by omega, by rw [el]; omega, fun D2 nD2 => lc_it (walk_range (lo := 0) (n := xs.length)) (fun i H4 => H4 = upd H3 D2 (.lst (idxs (lack t ds i)))) rfl (fun _ _ _ _ => trivial) ?_ ?_⟩
        · rintro i x H4 H5 hi rfl ⟨eH, ex⟩
          rw [eH]
          obtain rfl := rgv ex
          have s4 := same_put (s := s3) (o := .lst (idxs (lack t ds i))) nD2
          obtain ⟨x0, hx0⟩ : ∃ x, xs[i]? = some x := ⟨_, List.getElem?_eq_getElem hi⟩
          obtain ⟨d2, hd2, hh⟩ := pair_get pr hx0
          have st := lack_snoc (t := t) hd2
          have nu : numD d2 = true := by
            have z := List.find?_eq_none.mp fn d2 (List.mem_of_getElem? hd2)
            cases e : numD d2 with
            | true => rfl
            | false =>
              rw [e] at z
              exact absurd rfl z
          obtain ⟨m, m256, rfl⟩ := num_some nu
          obtain rfl := pw_int hh.pw
          rw [lookD_nat] at st
          refine ⟨rfl, _, rfl, _, rfl, a, xs, _, _, rfl, rfl, SqL.of (s4 _ _ ha), atI_nat hx0, _, rfl, b, _, rfl, dgS (.inl (s4 _ _ sg.1)) m, _, rfl, ?_⟩
          rw [sIs]
          cases e : lookT t m with
          | some z =>
            rw [e] at st
            refine iteF ?_
            rw [st]
            show _ = upd H3 D2 (.lst (idxs (lack t ds i ++ [])))
            rw [List.append_nil]
          | none =>
            rw [e] at st
            refine iteT ⟨_, rfl, _, upd_same, ?_, ?_⟩
            · have := lack_len t ds i
              show (List.map _ _).length < _
              rw [List.length_map, sizeLine_eq]
              omega
            · rw [upd_upd, st]
              unfold idxs
              rw [List.map_append]
              rfl
        · rintro H4 rfl
          rw [el]
          have s4 := same_put (s := s3) (o := .lst (idxs (lack t ds ds.length))) nD2
          have hD4 : upd H3 D2 (.lst (idxs (lack t ds ds.length))) D2 = some (.lst (idxs (lack t ds ds.length))) := upd_same
          generalize upd H3 D2 (.lst (idxs (lack t ds ds.length))) = H4 at s4 hD4 ⊢
          refine ⟨_, rfl, Nat.zero_le _, fun o no => ?_⟩
          have s5 := same_put (s := s4) (o := .lst []) no
          have hD5 : upd H4 o (.lst []) D2 = some (.lst (idxs (lack t ds ds.length))) := by rw [upd_ne (ne_of_none hD4 no)]; exact hD4
          have ho : upd H4 o (.lst []) o = some (.lst []) := upd_same
          generalize upd H4 o (.lst []) = H5 at s5 hD5 ho ⊢
          refine ⟨D2, o, _, rfl, rfl, SqL.of hD5, SqL.of ho, ?_⟩
          rcases lack_of t ds with ⟨eb, un⟩ | ⟨i, r, eb, un⟩
          · rw [un] at q
            dsimp only at q
            rw [if_neg (by omega)] at q
            rw [eb]
            refine ⟨false, rfl, iteF ?_⟩
            clear hD5 ho no hD4 nD2
            have hin := unread_no un
            have il := imgs_len sg.2 hin
            have prs := pair_imp pr fun _ _ z => z.same s5
            obtain ⟨ss, ess⟩ : ∃ ss, ss = ds.map fun d => (lookD t d).getD [] := ⟨_, rfl⟩
            have hl : ((ss.map Sx).map V.str).length = ds.length := by rw [ess, List.length_map, List.length_map, List.length_map]
            refine ⟨⟨_, rfl⟩, _, rfl, a, rfl, ⟨xs, SqL.of (s5 _ _ ha)⟩, fun D nD => lc_it (walk_list (K := K) (a := a) (xs := xs)) (fun i H6 => H6 = upd H5 D (.lst (((ss.map Sx).map V.str).take i))) rfl ?_ ?_ ?_⟩
            · rintro i H6 hi rfl
              exact SqL.of (by rw [upd_ne (ne_of_none (s5 _ _ ha) nD)]; exact s5 _ _ ha)
            · rintro i y H6 H7 hi rfl ⟨eH, hy⟩
              obtain ⟨d2, hd2, hh⟩ := pair_get prs hy
              have s6 : Same H5 (upd H5 D (.lst (((ss.map Sx).map V.str).take i))) := same_put (s := Same.refl H5) nD
              obtain ⟨z, ez⟩ := hin d2 (List.mem_of_getElem? hd2)
              have iD : intD d2 = true := by
                cases e : intD d2 with
                | true => rfl
                | false =>
                  rw [look_intD e] at ez
                  cases ez
              obtain ⟨n, rfl, rfl⟩ := int_of hh.pw iD
              have hzi : ((ss.map Sx).map V.str)[i]? = some (V.str (Sx z)) := by
                rw [ess, List.getElem?_map, List.getElem?_map, List.getElem?_map, hd2]
                show some (V.str (Sx ((lookD t (.int n)).getD []))) = _
                rw [ez]
                rfl
              rw [eH]
              refine ⟨rfl, _, rfl, _, rfl, b, V.str (Sx z), rfl, .inl ⟨_, Sum.inl n, .inl (s6 _ _ (s5 _ _ sg.1)), rfl, by rw [valS_D, ez]; rfl⟩, _, upd_same, ?_, ?_⟩
              · rw [List.length_take, sizeLine_eq]
                omega
              · rw [upd_upd, List.take_add_one, hzi]
                rfl
            · rintro H6 rfl
              rw [List.take_of_length_le (by rw [hl]; omega)]
              refine ⟨Str.empty, D, ss.map Sx, rfl, rfl, .inl (SqL.of upd_same), ?_, ?_⟩
              · have h1 : ((ss.map Sx).map fun x => x.length).sum ≤ _ := sum_le (fun x => x.length) 1 _ fun y hy => by
                  obtain ⟨s3, hs3, rfl⟩ := List.mem_map.mp hy
                  rw [ess] at hs3
                  obtain ⟨c, hc, rfl⟩ := List.mem_map.mp hs3
                  obtain ⟨s2, e2⟩ := hin c hc
                  rw [Sx_len, e2]
                  obtain ⟨d, rfl, _⟩ := lookD_one sg.2 e2
                  exact Nat.le_refl _
                have h3 : (ss.map Sx).length = ds.length := by rw [ess, List.length_map, List.length_map]
                rw [h3] at h1 ⊢
                show _ + _ * 0 ≤ _
                omega
              · rw [join_Sx]
                have ei : ss.flatten = imgsD t ds := by
                  rw [ess]
                  rfl
                rw [ei]
                exact ⟨by show 1 ≤ sizeLine; decide, fun l nl => q _ _ (same_put (s := same_put (s := s5) nD) nl) ⟨l, rfl, upd_same⟩⟩
          · rw [un] at q
            rw [eb] at hD5 ⊢
            refine ⟨true, rfl, iteT ?_⟩
            have hi : i < ds.length := (List.findIdx?_eq_some_iff_getElem.mp un).1
            exact ⟨_, rfl, D2, _, 0, .int ((i : Nat) : Int), rfl, rfl, SqL.of hD5, at0, _, _, rfl, .int _, (nice_nat i (by omega)).te, by show 2 ≤ sizeLine; decide, fun l nl => q _ _ (same_put (s := s5) nl) ⟨l, rfl, upd_same⟩⟩
      · rw [fn] at q
        rw [eb] at hD3 ⊢
        refine ⟨true, rfl, iteT ?_⟩
        have hx3 := hx.same s3
        refine ⟨_, rfl, D, _, 0, x, rfl, rfl, SqL.of hD3, at0, x, d, rfl, hx3.pw, hx3.ni.te, by show 2 ≤ sizeLine; decide, fun l nl => q _ _ (same_put (s := s3) nl) ⟨l, rfl, upd_same⟩⟩
end
end V8

set_option Elab.async false
set_option linter.all false
set_option maxRecDepth 100000
set_option maxHeartbeats 8000000
/-! Lists that are short when told. -/
namespace V8
open PySem PySem.Spec PyProof.Rows L2 MX SetT LamX
theorem from_le (B : Nat) : ∀ (ts : List Str) (k : Nat) (acc : Str), (∀ t ∈ ts, t.length ≤ B) → (textFrom k acc ts).length ≤ acc.length + ts.length * (B + 2)
  | [], k, acc, _ => by
    show acc.length ≤ acc.length + 0 * _
    omega
  | t :: r, k, acc, h => by
    have ih := from_le B r (k + 1) (acc ++ (if k > 0 then ", " else "" : String) ++ t) fun x hx => h x (List.mem_cons_of_mem _ hx)
    have ht := h t List.mem_cons_self
    have hc : ((if k > 0 then ", " else "" : String) : Str).length ≤ 2 := by
      by_cases z : k > 0
      · rw [if_pos z]
        decide +kernel
      · rw [if_neg z]
        decide +kernel
    rw [strLen_append, strLen_append] at ih
    show (textFrom (k + 1) _ r).length ≤ _
    rw [List.length_cons, Nat.succ_mul]
    omega
theorem shown_all (ds : List PyData) : PyData.shownAll ds = ds.map PyData.shown := by
  induction ds with
  | nil => simp [PyData.shownAll]
  | cons d r ih => simp [PyData.shownAll, ih]
theorem show_all {ds : List PyData} (h : ∀ d ∈ ds, d.showable = true) : PyData.showableAll ds = true := by
  induction ds with
  | nil => simp [PyData.showableAll]
  | cons d r ih => simp [PyData.showableAll, h d List.mem_cons_self, ih fun x hx => h x (List.mem_cons_of_mem _ hx)]
theorem dep_all {ds : List PyData} {n : Nat} (h : ∀ d ∈ ds, d.depth ≤ n) : PyData.depthAll ds ≤ n + 1 := by
  induction ds with
  | nil => simp [PyData.depthAll]
  | cons d r ih =>
    have h1 := h d List.mem_cons_self
    have h2 := ih fun x hx => h x (List.mem_cons_of_mem _ hx)
    simp only [PyData.depthAll]
    omega
theorem tells_list {ds : List PyData} (B : Nat) (h : ∀ d ∈ ds, d.showable = true ∧ d.depth ≤ 2 ∧ d.shown.length ≤ B) (h2 : ds.length * (B + 2) + 2 ≤ 8000000) : Tells (.list ds) := by
  refine ⟨?_, ?_, ?_⟩
  · simp only [PyData.showable]
    exact show_all fun d hd => (h d hd).1
  · simp only [PyData.depth]
    have := dep_all fun d hd => (h d hd).2.1
    omega
  · simp only [PyData.shown]
    unfold listText
    rw [strLen_append, shown_all]
    have := from_le B (ds.map PyData.shown) 0 "[" fun t ht => by
      obtain ⟨d, hd, rfl⟩ := List.mem_map.mp ht
      exact (h d hd).2.2
    rw [List.length_map] at this
    have e1 : ("[" : Str).length = 1 := by decide +kernel
    have e2 : ("]" : Str).length = 1 := by decide +kernel
    omega
end V8

set_option Elab.async false
set_option linter.all false
set_option maxRecDepth 100000
set_option maxHeartbeats 8000000
/-! A table turned by hand. -/
namespace V8
open PySem PySem.Spec PyProof.Rows L2 MX SetT LamX ItX
theorem look_rep (c : Nat) (s : List Nat) (c' : Nat) : ∀ t : Tab, lookT (t.map fun q => if q.1 = c then (q.1, s) else q) c' = if c' = c then (lookT t c).map (fun _ => s) else lookT t c'
  | [] => by
    by_cases h : c' = c
    · rw [if_pos h]; rfl
    · rw [if_neg h]; rfl
  | q :: t => by
    have ih := look_rep c s c' t
    unfold lookT at ih ⊢
    rw [List.map_cons, List.find?_cons]
    by_cases hq : q.1 = c
    · rw [if_pos hq]
      by_cases h : c' = c
      · subst h
        rw [if_pos rfl, List.find?_cons, decide_eq_true hq]
        rfl
      · rw [if_neg h]
        rw [if_neg h] at ih
        rw [List.find?_cons, decide_eq_false (show ¬ q.1 = c' by rw [hq]; exact Ne.symm h)]
        exact ih
    · rw [if_neg hq]
      by_cases h : c' = c
      · subst h
        rw [if_pos rfl] at ih ⊢
        rw [List.find?_cons, decide_eq_false hq]
        exact ih
      · rw [if_neg h] at ih ⊢
        rw [List.find?_cons]
        cases decide (q.1 = c') with
        | true => rfl
        | false => exact ih
theorem any_look (t : Tab) (c : Nat) : (t.any fun q => decide (q.1 = c)) = (lookT t c).isSome := by
  rw [Bool.eq_iff_iff, look_iff0, List.any_eq_true]
  constructor
  · rintro ⟨q, hq, e⟩
    exact List.mem_map.mpr ⟨q, hq, of_decide_eq_true e⟩
  · intro h
    obtain ⟨q, hq, e⟩ := List.mem_map.mp h
    exact ⟨q, hq, decide_eq_true e⟩
theorem look_putT (t : Tab) (c : Nat) (s : List Nat) (c' : Nat) : lookT (putT t c s) c' = if c' = c then some s else lookT t c' := by
  unfold putT
  rw [any_look]
  cases e : lookT t c with
  | some z =>
    rw [if_pos (show (some z).isSome = true from rfl), look_rep, e]
    rfl
  | none =>
    rw [if_neg (by simp)]
    exact looks_app e c'
theorem putK_C {B : Ad} {t : Tab} {c : Nat} {s : List Nat} {tq : Addr} : putK (encC B t) (kL c) (.ref tq) = encC (setA B c tq) (putT t c s) := by
  by_cases h : c ∈ t.map (·.1)
  · have a1 : (t.any fun q => decide (q.1 = c)) = true := by
      obtain ⟨q, hq, e⟩ := List.mem_map.mp h
      exact List.any_eq_true.mpr ⟨q, hq, decide_eq_true e⟩
    have a2 : ((encC B t).any fun kv => decide (kv.1 = kL c)) = true := by
      obtain ⟨q, hq, e⟩ := List.mem_map.mp h
      exact List.any_eq_true.mpr ⟨_, List.mem_map.mpr ⟨q, hq, rfl⟩, decide_eq_true (by rw [e])⟩
    unfold putK putT
    rw [if_pos a1, if_pos a2]
    unfold encC encG
    rw [List.map_map, List.map_map]
    refine List.map_congr_left fun q _ => ?_
    show (if kL q.1 = kL c then (kL q.1, V.ref tq) else (kL q.1, V.ref (B q.1))) = _
    by_cases e : q.1 = c
    · rw [if_pos (by rw [e])]
      show _ = (kL (if q.1 = c then (q.1, s) else q).1, V.ref (setA B c tq (if q.1 = c then (q.1, s) else q).1))
      rw [if_pos e]
      show _ = (kL q.1, V.ref (if q.1 = c then tq else B q.1))
      rw [if_pos e]
    · rw [if_neg (fun z => e (kL_inj _ _ z))]
      show _ = (kL (if q.1 = c then (q.1, s) else q).1, V.ref (setA B c tq (if q.1 = c then (q.1, s) else q).1))
      rw [if_neg e]
      show _ = (kL q.1, V.ref (if q.1 = c then tq else B q.1))
      rw [if_neg e]
  · rw [putT_new h]
    exact put_set h
theorem look_nd {t : Tab} (nd : (t.map (·.1)).Nodup) {q : Nat × List Nat} (h : q ∈ t) : lookT t q.1 = some q.2 := by
  obtain ⟨i, hi, rfl⟩ := List.getElem_of_mem h
  exact look_at nd hi
theorem GoodC.putT {t : Tab} (g : GoodC t) {c : Nat} {s : List Nat} (hc : isLt c) (hs : GoodI4 s) : GoodC (putT t c s) := by
  refine ⟨put_nd g.nd, fun q hq => ?_, fun q hq => ?_⟩
  · rcases keys_put q hq with h | rfl
    · exact g.lt q h
    · exact hc
  · rcases keys_put q hq with h | rfl
    · exact g.cod q h
    · exact hs
theorem Tups.putT {H : Hp} {A : Ad} {t : Tab} {c : Nat} {s : List Nat} {a : Addr} (h : Tups H A t) (g : GoodC t) (ha : H a = some (.tup (nums s))) : Tups H (setA A c a) (putT t c s) := fun q hq => by
  have e := look_nd (put_nd (c := c) (s := s) g.nd) hq
  rw [look_putT] at e
  show H (if q.1 = c then a else A q.1) = _
  by_cases hqc : q.1 = c
  · rw [if_pos hqc] at e ⊢
    rw [ha, Option.some.inj e]
  · rw [if_neg hqc] at e ⊢
    exact h.look e
def addB (t : Tab) (acc : Tab) (n : Nat) : Tab := match (lookT t n).getD [] with
  | [c] => putT acc c [n]
  | _ => acc
def backT (t : Tab) (ns : List Nat) : Tab := ns.foldl (addB t) []
theorem look_addI (c : Nat) : ∀ (l acc : Tab), lookT (l.foldl addI acc) c = (lookT acc c).or ((l.find? fun q => decide (q.2 = [c])).map fun q => [q.1])
  | [], acc => by
    show lookT acc c = (lookT acc c).or none
    cases lookT acc c <;> rfl
  | q :: l, acc => by
    rw [List.foldl_cons, look_addI c l, List.find?_cons]
    unfold addI
    match e : q.2 with
    | [] => rw [decide_eq_false (by simp)]
    | a :: b :: r => rw [decide_eq_false (by simp)]
    | [c'] =>
      dsimp only
      by_cases h : c' = c
      · subst h
        rw [decide_eq_true rfl]
        cases e2 : lookT acc c' with
        | some z =>
          rw [if_pos (show (some z).isSome = true from rfl), e2]
          rfl
        | none =>
          rw [if_neg (by simp), looks_app e2, if_pos rfl]
          rfl
      · rw [decide_eq_false (by simpa using h)]
        cases e2 : lookT acc c' with
        | some z => rw [if_pos (show (some z).isSome = true from rfl)]
        | none => rw [if_neg (by simp), looks_app e2, if_neg (Ne.symm h)]
theorem look_addB (t : Tab) (c : Nat) : ∀ ks : List Nat, lookT (ks.foldr (fun n acc => addB t acc n) []) c = (ks.find? fun n => decide ((lookT t n).getD [] = [c])).map fun n => [n]
  | [] => rfl
  | n :: ks => by
    have ih := look_addB t c ks
    rw [List.foldr_cons, List.find?_cons]
    generalize ks.foldr (fun n acc => addB t acc n) [] = R at ih ⊢
    unfold addB
    match e : (lookT t n).getD [] with
    | [] =>
      rw [decide_eq_false (by simp)]
      exact ih
    | a :: b :: r =>
      rw [decide_eq_false (by simp)]
      exact ih
    | [c'] =>
      dsimp only
      rw [look_putT]
      by_cases h : c' = c
      · subst h
        rw [decide_eq_true rfl, if_pos rfl]
        rfl
      · rw [decide_eq_false (by simpa using h), if_neg (Ne.symm h)]
        exact ih
theorem back_inv (t : Tab) (c : Nat) : lookT (backT t (keysL (List.range 256) t).reverse) c = lookT (invL (imsL (List.range 256) t)) c := by
  unfold backT invL
  rw [List.foldl_reverse, look_addB, look_addI]
  unfold imsL
  rw [List.find?_map, Option.map_map]
  rfl
theorem imsL_congr {t u : Tab} (h : ∀ c, lookT t c = lookT u c) : imsL abc t = imsL abc u := by
  have e : lookT t = lookT u := funext h
  unfold imsL keysL
  rw [e]
theorem WrAt.congr {C : Addr} {H : Hp} {x : Addr} {A : Ad} {t u : Tab} (m : WrAt C H x A t) (g : GoodC u) (h : ∀ c, lookT u c = lookT t c) : WrAt C H x A u := by
  obtain ⟨⟨dx, b, h1, h2⟩, tu, _⟩ := m
  refine ⟨⟨dx, b, h1, by rw [imsL_congr h]; exact h2⟩, fun q hq => ?_, g⟩
  have e := look_nd g.nd hq
  rw [h] at e
  exact tu.look e
end V8

set_option Elab.async false
set_option linter.all false
set_option maxRecDepth 100000
set_option maxHeartbeats 16000000
set_option pp.maxSteps 2500
/-! Whether a table tells its signs. -/
namespace V8
open PySem PySem.Spec PyProof.Rows L2 MX SetT LamX ItX
abbrev s__law_tells : Stmt := topS 41
abbrev n__law_tells : List Str := ["_law_table", "_law_signs_so", "_law_due_here", "_law_back", "_law_one", "_law_odd", "_law_key"]
theorem sc__law_tells : FnScope ["_law_table", "_law_signs_so", "_law_due_here", "_law_back", "_law_one", "_law_odd", "_law_key"] ["_law_table", "_law_signs_so"] (defScope s__law_tells) := ⟨rfl, rfl, rfl, by decide +kernel, rfl, by decide +kernel, by decide +kernel⟩
theorem frz_back {H : Hp} {d D : Addr} {u o : HO} {od : Obj} (hd : H d = some u) (ne : d ≠ D) : upd (upd (upd H d (.frz od u)) D o) d u = upd H D o := by
  funext b
  by_cases h1 : b = d
  · rw [h1, upd_same, upd_ne ne, hd]
  · rw [upd_ne h1]
    by_cases h2 : b = D
    · rw [h2, upd_same, upd_same]
    · rw [upd_ne h2, upd_ne h1, upd_ne h2]
theorem dropH_upd {H : Hp} {it : Addr} {o : HO} (n : H it = none) : ItX.dropH (upd H it o) it = H := by
  funext b
  unfold ItX.dropH
  by_cases h : b = it
  · rw [if_pos h, h, n]
  · rw [if_neg h, upd_ne h]
def ksT (t : Tab) : List Nat := keysL (List.range 256) t
theorem ks_mem {t : Tab} {n : Nat} : n ∈ ksT t ↔ n < 256 ∧ (lookT t n).isSome = true := by
  unfold ksT keysL
  rw [List.mem_filter, List.mem_range]
theorem ks_pw (t : Tab) : (ksT t).Pairwise (· < ·) := List.pairwise_lt_range.filter _
theorem ks_perm {t : Tab} (g : GoodS t) : (t.map (·.1)).Perm (ksT t) := by
  refine (List.perm_ext_iff_of_nodup g.nd ((ks_pw t).imp fun h => Nat.ne_of_lt h)).mpr fun c => ?_
  rw [ks_mem, look_iff0]
  constructor
  · intro h
    obtain ⟨q, hq, rfl⟩ := List.mem_map.mp h
    exact ⟨g.lt q hq, h⟩
  · exact fun h => h.2
theorem ks_len {t : Tab} (g : GoodS t) : (ksT t).length = t.length := by
  rw [← (ks_perm g).length_eq, List.length_map]
theorem ims_ks (t : Tab) : (imsL (List.range 256) t).map (·.1) = ksT t := by
  unfold imsL ksT
  rw [List.map_map]
  exact List.map_id _
theorem sorted_ks {t : Tab} (g : GoodS t) {ns : List Int} (hp : ns.Perm ((t.map (·.1)).map fun n => ((n : Nat) : Int))) (hs : ns.Pairwise (· ≤ ·)) : ns = (ksT t).map fun n => ((n : Nat) : Int) := by
  refine List.Perm.eq_of_pairwise (le := (· ≤ ·)) (fun a b _ _ x y => Int.le_antisymm x y) hs ?_ (hp.trans ((ks_perm g).map _))
  exact List.pairwise_map.mpr ((ks_pw t).imp fun h => by omega)
theorem nat_ok : ∀ n : Nat, n < 256 → (PyData.int ((n : Nat) : Int)).showable = true ∧ (PyData.int ((n : Nat) : Int)).depth ≤ 2 ∧ (PyData.int ((n : Nat) : Int)).shown.length ≤ 3000 := fun n hn => by
  have h := nice_nat n (by omega)
  exact ⟨h.te.sh, Nat.le_trans h.dp (by decide), h.sz⟩
theorem py_idxs {H : Hp} : ∀ l : List Nat, PyWs H (idxs l) (l.map fun n => .int ((n : Nat) : Int))
  | [] => .nil
  | _ :: r => .cons (.int _) (py_idxs r)
theorem tells_idxs {l : List Nat} (h : ∀ n ∈ l, n < 256) (hl : l.length ≤ 100) : Tells (.list (l.map fun n => .int ((n : Nat) : Int))) := by
  refine tells_list 3000 (fun d hd => ?_) ?_
  · obtain ⟨n, hn, rfl⟩ := List.mem_map.mp hd
    exact nat_ok n (h n hn)
  · rw [List.length_map]
    omega
def sgV (t : Tab) (n : Nat) : V := .str (Sx ((lookT t n).getD []))
def sgD (t : Tab) (n : Nat) : PyData := .str (Sx ((lookT t n).getD []))
theorem sg_shaped {t : Tab} (g : GoodS t) {l : List Nat} (h : ∀ n ∈ l, (lookT t n).isSome = true) : SeqAt.shaped (.list (l.map (sgD t))) = true := by
  refine shaped_map (sgD t) l (fun n hn => ?_) (fun n => by simp [sgD, PyData.depth])
  obtain ⟨z, e⟩ := Option.isSome_iff_exists.mp (h n hn)
  obtain ⟨_, c, rfl, hc⟩ := g.look e
  have ok : PyData.strOk (Sx [c]) = true := ok_sx fun a ha => by
    rw [List.mem_singleton.mp ha]
    exact hc
  show PyData.canLay0 (.str (Sx ((lookT t n).getD []))) = true
  rw [e]
  simp only [PyData.canLay0]
  exact ok
theorem sg_at {t : Tab} {l : List Nat} {i : Nat} {n : Nat} {z : List Nat} (h : l[i]? = some n) (e : lookT t n = some z) : (l.map (sgV t))[i]? = some (.str (Sx z)) := by
  rw [List.getElem?_map, h]
  show some (V.str (Sx ((lookT t n).getD []))) = _
  rw [e]
  rfl
theorem odd_no {H : Hp} {t7 dd le : Addr} {t : Tab} {y : V} (g : GoodS t) (h7 : H t7 = some (.tup [.int 7])) (hd : H dd = some (.dK [])) (hl : H le = some (.lst []))
    (h : y ∈ [V.non, .bl true, .bl false, .str "7", .ref t7, .int 256, .int (-1), .ref dd, .ref le, .int (10 ^ 30)]) : ∃ d, PyW H y d ∧ lookD t d = none := by
  have big : ∀ n : Nat, 256 ≤ n → lookT t n = none := fun n hn => by
    cases e : lookT t n with
    | none => rfl
    | some z =>
      have := (g.look e).1
      omega
  simp only [List.mem_cons, List.not_mem_nil, or_false] at h
  rcases h with rfl | rfl | rfl | rfl | rfl | rfl | rfl | rfl | rfl | rfl
  · exact ⟨_, .non, rfl⟩
  · exact ⟨_, .bl true, rfl⟩
  · exact ⟨_, .bl false, rfl⟩
  · exact ⟨_, .str _, rfl⟩
  · exact ⟨_, .tup h7 (.cons (.int 7) .nil), rfl⟩
  · exact ⟨_, .int _, (lookD_nat t 256).trans (big 256 (by decide))⟩
  · exact ⟨_, .int _, by show (if (0 : Int) ≤ -1 then lookT t (-1 : Int).toNat else none) = none; rw [if_neg (by decide)]⟩
  · exact ⟨_, .dic (ds := []) hd .nil, rfl⟩
  · exact ⟨_, .lst hl .nil, rfl⟩
  · exact ⟨_, .int _, by show (if (0 : Int) ≤ 10 ^ 30 then lookT t ((10 : Int) ^ 30).toNat else none) = none; rw [if_pos (by decide +kernel)]; exact big _ (by decide +kernel)⟩
def spTells (CR : Addr) : Sp := fun vs H Q _ => ∃ x d t, vs = [.ref x, .ref d] ∧ RdU CR H x t ∧ SigA H d t ∧ t.length ≤ 30 ∧ ∀ H2, Same H H2 → Q (.bl true) H2
section
variable {P : Program} {w : World} {K : PySem.W.Frag} {mg : Str → Option Value} {base : Heap} {CW CR CE : Addr} {Cz : Nat → Addr}
theorem ok_tells {f : Addr} {fd : FuncData} (F : Fun K "_law_tells" "_law_tells" s__law_tells f fd) (T : Tc K mg CW CR CE Cz) (sys : SysIn base) (D_in : Mf P w K mg base 2 CR "__contains__" (spInD CR)) (D_len : Mf P w K mg base 1 CR "__len__" (spLenR CR)) (D_iter : ItM P w K mg base 1 CR (snIterR CR))
    (D_get : MfG P w K mg base (L2.CX P w) 5 CR "__getitem__" (spGetD CR Cz)) (D_inv : Mf P w K mg base 8 CR "__invert__" (spInv CW CR)) (D_mkW : Mkr1 P w K mg base "WriteTable" CW (spIniW CW)) (D_eqW : Mf P w K mg base 1 CW "__eq__" (spEqW CW)) : FnG P w K mg base CX0 10 f fd ["_law_table", "_law_signs_so"] (spTells CR) := by
  refine F.okG sc__law_tells (fun vs H Q E h => ?_) (fun cdv A outer s H vs Q E quiet hr h => ?_)
  · obtain ⟨x, d, t, rfl, _⟩ := h
    rfl
  · obtain ⟨x, d, t, rfl, rd, sg, few, q⟩ := h
    obtain ⟨hd, g⟩ := id sg
    refine ⟨_, (pss_cons (ps_set (i := 2) sc__law_tells.nd rfl (.inl rfl) (pe_callB cr_sorted (by rfl) T.sorted (by decide +kernel) (pa_cons (pe_lock (pe_lc (own := [("_law_key", 6)]) (g := gName 6) (by rfl) sc__law_tells.nd (pi_keys (pv 1)) (blkOk_by (own := [("_law_key", 6)]) (N := n__law_tells) (sc := defScope s__law_tells) (by decide +kernel)) (fun _ _ _ _ _ => (pg_name (i := 6) sc__law_tells.nd rfl (.inl rfl))) (fun _ _ _ _ _ => pts_nil) (fun _ _ _ _ _ => (pe_callTy call_int1 (by rfl) T.int (by decide +kernel) (pa_cons (pv 6) pa_nil))))) pa_nil)))
      (pss_cons (ps_if (PW.pt (pw_or (pt_not (pt_val (pe_callB call_isi (by rfl) T.isinstance (by decide +kernel) (pa_cons (pv 0) (pa_cons (pe_gv T.gReadTable (by rfl)) pa_nil))))) (pw_or (pt_cmpR op_ne (pe_callB (call_reprW sys quiet hr) (by rfl) T.repr (by decide +kernel) (pa_cons (pe_lock (pe_lc (own := [("_law_one", 4)]) (g := gName 4) (by rfl) sc__law_tells.nd (pi_ownKI D_iter hr (by decide) (pv 0)) (blkOk_by (own := [("_law_one", 4)]) (N := n__law_tells) (sc := defScope s__law_tells) (by decide +kernel)) (fun _ _ _ _ _ => (pg_name (i := 4) sc__law_tells.nd rfl (.inl rfl))) (fun _ _ _ _ _ => pts_nil) (fun _ _ _ _ _ => (pv 4)))) pa_nil)) (pe_callB (call_reprW sys quiet hr) (by rfl) T.repr (by decide +kernel) (pa_cons (pv 2) pa_nil)) (nomark _)) (pw_or1 (pt_cmpR op_ne (pe_callB (call_lenO D_len hr (by decide)) (by rfl) T.len (by decide +kernel) (pa_cons (pv 0) pa_nil)) (pe_callB (call_len_seqK (K := K) rfl) (by rfl) T.len (by decide +kernel) (pa_cons (pv 2) pa_nil)) (nomark _))))))
        (pss_one (ps_ret pe_bl))
        pss_nil)
      (pss_cons (ps_if (pt_cmpR (op_neDK (K := K) rfl hr.units) (pe_lc (own := [("_law_one", 4)]) (g := gName 4) (by rfl) sc__law_tells.nd (pi_list (pv 2)) (blkOk_by (own := [("_law_one", 4)]) (N := n__law_tells) (sc := defScope s__law_tells) (by decide +kernel)) (fun _ _ _ _ _ => (pg_name (i := 4) sc__law_tells.nd rfl (.inl rfl))) (fun _ _ _ _ _ => pts_nil) (fun _ _ _ _ _ => (pe_ixG D_get quiet passL hr (by decide) (pv 0) (pv 4) (fun _ _ => rfl)))) (pe_lc (own := [("_law_one", 4)]) (g := gName 4) (by rfl) sc__law_tells.nd (pi_list (pv 2)) (blkOk_by (own := [("_law_one", 4)]) (N := n__law_tells) (sc := defScope s__law_tells) (by decide +kernel)) (fun _ _ _ _ _ => (pg_name (i := 4) sc__law_tells.nd rfl (.inl rfl))) (fun _ _ _ _ _ => pts_nil) (fun _ _ _ _ _ => (pe_dget (hu_of hr) (pv 1) (pv 4) (fun _ _ => rfl)))) (nomark _))
        (pss_one (ps_ret pe_bl))
        pss_nil)
      (pss_cons (ps_if (pt_cmpR (op_neDK (K := K) rfl hr.units) (pe_lc (own := [("_law_one", 4)]) (g := gName 4) (by rfl) sc__law_tells.nd (pi_list (pv 2)) (blkOk_by (own := [("_law_one", 4)]) (N := n__law_tells) (sc := defScope s__law_tells) (by decide +kernel)) (fun _ _ _ _ _ => (pg_name (i := 4) sc__law_tells.nd rfl (.inl rfl))) (fun _ _ _ _ _ => (pts_one (pt_cmpR (op_notInO D_in hr (by decide)) (pv 4) (pv 0) rfl))) (fun _ _ _ _ _ => (pv 4))) (pe_lst pa_nil) (nomark _))
        (pss_one (ps_ret pe_bl))
        pss_nil)
      (pss_cons (ps_set (i := 3) sc__law_tells.nd rfl (.inl rfl) pe_dnewK)
      (pss_cons (ps_for PassesOwn.never rfl (pi_list (pe_revL (pv 2))) (pg_name (i := 4) sc__law_tells.nd rfl (.inl rfl))
        (pss_one (ps_dput (hu_of hr) (pv 3) (pe_dget (hu_of hr) (pv 1) (pv 4) (fun _ _ => rfl)) (pe_tup (pa_cons (pv 4) pa_nil)) rfl)))
      (pss_cons (ps_set (i := 5) sc__law_tells.nd rfl (.inl rfl) (pe_lst (pa_cons pe_non (pa_cons pe_bl (pa_cons pe_bl (pa_cons pe_str (pa_cons (pe_tup (pa_cons pe_int pa_nil)) (pa_cons pe_int (pa_cons (pe_un un_neg pe_int) (pa_cons pe_dnewK (pa_cons (pe_lst pa_nil) (pa_cons (pe_op op_pow pe_int pe_int) pa_nil))))))))))))
      (pss_one (ps_ret (pe_and (pe_cmpR (op_eqO D_eqW hr (by decide)) (pe_un (un_invO D_inv hr (by decide)) (pv 0)) (pe_mkW D_mkW hr (by decide) (by rfl) (pa_cons (pv 3) pa_nil)) (nomark _)) (pe_one (pe_cmpR (op_eqDK (K := K) rfl hr.units) (pe_lc (own := [("_law_one", 4)]) (g := gName 4) (by rfl) sc__law_tells.nd (pi_list (pv 5)) (blkOk_by (own := [("_law_one", 4)]) (N := n__law_tells) (sc := defScope s__law_tells) (by decide +kernel)) (fun _ _ _ _ _ => (pg_name (i := 4) sc__law_tells.nd rfl (.inl rfl))) (fun _ _ _ _ _ => (pts_one (pt_cmpR (op_inO D_in hr (by decide)) (pv 4) (pv 0) rfl))) (fun _ _ _ _ _ => (pv 4))) (pe_lst pa_nil) (nomark _))))))))))))), ?_⟩
    -- sorted
    refine ⟨d, _, hd, True.intro, fun od => ⟨_, rfl, d, od, rfl, .inl ⟨_, upd_same, fun D nD => lc_it (walk_keys (d := d) (o := od) (kvs := encS t)) (fun i H2 => H2 = upd (upd H d (.frz od (.dK (encS t)))) D (.lst (idxs ((t.take i).map (·.1))))) rfl ?_ ?_ ?_⟩⟩⟩
    · rintro i H2 hi rfl
      rw [upd_ne (ne_of_none upd_same nD)]
      exact upd_same
    · rintro i y H2 H3 hi rfl ⟨eH, k, v, hk, rfl⟩
      rw [eH]
      obtain ⟨hit, rfl, rfl⟩ := encG_at hk
      refine ⟨rfl, _, rfl, .inl ⟨_, rfl, _, upd_same, ?_, ?_⟩⟩
      · show (List.map _ _).length < _
        rw [List.length_map, List.length_map, List.length_take, sizeLine_eq]
        omega
      · rw [upd_upd, List.take_add_one, List.getElem?_eq_getElem hit]
        unfold idxs
        rw [List.map_append, List.map_append]
        rfl
    · rintro H2 rfl
      have dD : d ≠ D := ne_of_none upd_same nD
      rw [encS_len, List.take_of_length_le (Nat.le_refl _)]
      refine ⟨by rw [upd_ne dD]; exact upd_same, ?_⟩
      rw [frz_back hd dD]
      have nD0 : H D = none := by
        rw [upd_ne (Ne.symm dD)] at nD
        exact nD
      refine ⟨D, (t.map (·.1)).map fun n => ((n : Nat) : Int), rfl, SqL.of (by rw [upd_same, List.map_map]; rfl), by rw [List.length_map, List.length_map]; omega, fun ns p0 hp hs np => ?_⟩
      rw [show ns.map V.int = idxs (ksT t) from by rw [sorted_ks g hp hs, List.map_map]; rfl]
      have s1 := same_put (s := same_put (s := Same.refl H) (o := .lst (idxs (t.map (·.1)))) nD0) (o := .lst (idxs (ksT t))) np
      have hp1 : upd (upd H D (.lst (idxs (t.map (·.1))))) p0 (.lst (idxs (ksT t))) p0 = some (.lst (idxs (ksT t))) := upd_same
      show gName 2 (.ref p0) _ (upd (upd H D (.lst (idxs (t.map (·.1))))) p0 (.lst (idxs (ksT t)))) _
      generalize upd (upd H D (.lst (idxs (t.map (·.1))))) p0 (.lst (idxs (ksT t))) = H1 at s1 hp1 ⊢
      clear hp hs np nD nD0 dD
      have kl := ks_len g
      have k256 : ∀ n ∈ ksT t, n < 256 := fun n hn => (ks_mem.mp hn).1
      have rd1 := rd.same s1
      obtain ⟨⟨dx, b, hx, hb⟩, _⟩ := id rd1
      -- a table
      refine ⟨_, rfl, _, .ref CR, .ref CR, .ref CR, true, rfl, .own _, .base (.ins hx T.clR T.rA T.tB T.tC T.rD), T.RR, true, rfl, iteF ?_⟩
      -- its integers
      refine ⟨b, _, hb, True.intro, fun od => ?_⟩
      have xb : x ≠ b := ne_of hx hb (fun z => nomatch z)
      have hbl : upd H1 b (.frz od (.dK (encS (imsL (List.range 256) t)))) b = some (.frz od (.dK (encS (imsL (List.range 256) t)))) := upd_same
      have hxl : upd H1 b (.frz od (.dK (encS (imsL (List.range 256) t)))) x = some (.ins CR dx (fR b)) := by rw [upd_ne xb]; exact hx
      refine ⟨_, rfl, x, dx, _, rfl, hxl, fun k hk => ⟨x, dx, b, od, _, rfl, hxl, hbl, fun it ni hi => ⟨it, b, od, _, rfl, hi, upd_same, by rw [upd_ne (ne_of_none hbl ni)]; exact hbl, ?_⟩⟩⟩
      rw [dropH_upd ni]
      refine fun D2 nD2 => lc_it (walk_keys (d := b) (o := od) (kvs := encS (imsL (List.range 256) t))) (fun i H3 => H3 = upd (upd H1 b (.frz od (.dK (encS (imsL (List.range 256) t))))) D2 (.lst (idxs ((ksT t).take i)))) rfl ?_ ?_ ?_
      · rintro i H3 hi rfl
        rw [upd_ne (ne_of_none upd_same nD2)]
        exact upd_same
      · rintro i y H3 H4 hi rfl ⟨eH, k, v, hk, rfl⟩
        rw [eH]
        obtain ⟨hit, rfl, rfl⟩ := encG_at hk
        have ek : (ksT t)[i]? = some (imsL (List.range 256) t)[i].1 := by
          rw [← ims_ks, List.getElem?_map, List.getElem?_eq_getElem hit]
          rfl
        refine ⟨rfl, _, rfl, _, upd_same, ?_, ?_⟩
        · show (List.map _ _).length < _
          rw [List.length_map, List.length_take, sizeLine_eq]
          omega
        · rw [upd_upd, List.take_add_one, ek]
          unfold idxs
          rw [List.map_append]
          rfl
      · rintro H3 rfl
        have bD : b ≠ D2 := ne_of_none upd_same nD2
        have li : (imsL (List.range 256) t).length = (ksT t).length := by rw [← ims_ks, List.length_map]
        rw [encS_len, li, List.take_of_length_le (Nat.le_refl _)]
        refine ⟨by rw [upd_ne bD]; exact upd_same, ?_⟩
        rw [frz_back hb bD]
        have nD3 : H1 D2 = none := by
          rw [upd_ne (Ne.symm bD)] at nD2
          exact nD2
        have s2 := same_put (s := Same.refl H1) (o := .lst (idxs (ksT t))) nD3
        have hp2 := s2 _ _ hp1
        have hD2 : upd H1 D2 (.lst (idxs (ksT t))) D2 = some (.lst (idxs (ksT t))) := upd_same
        generalize upd H1 D2 (.lst (idxs (ksT t))) = H2 at s2 hp2 hD2 ⊢
        have tl := tells_idxs k256 (by omega)
        refine ⟨_, _, rfl, .lst hD2 (py_idxs _), tl, _, rfl, _, _, rfl, .lst hp2 (py_idxs _), tl, ?_⟩
        refine ⟨rfl, false, by rw [decide_eq_true rfl]; rfl, iteF ?_⟩
        have s3 : Same H H2 := fun b o e => s2 _ _ (s1 _ _ e)
        have rd2 := rd.same s3
        have sg2 := SigA.same sg s3
        clear nD2 nD3 bD hD2 hxl hbl ni hi xb hx hb rd1 hp1 s2 s1
        obtain ⟨⟨dx, b, hx, hb⟩, _⟩ := id rd2
        -- as many
        refine ⟨_, rfl, x, dx, _, rfl, hx, x, t, rfl, rd2, _, rfl, by rw [li, sizeLine_eq]; omega, _, rfl, p0, _, rfl, .inl (SqL.of hp2), rfl, false, ?_, iteF ?_⟩
        · rw [li, show (idxs (ksT t)).length = (ksT t).length from List.length_map _, decide_eq_true rfl]
          rfl
        have kin : ∀ n ∈ ksT t, (lookT t n).isSome = true := fun n hn => (ks_mem.mp hn).2
        -- its signs
        refine ⟨_, rfl, p0, rfl, ⟨_, SqL.of hp2⟩, fun A1 nA1 => lc_it (walk_list (K := K) (a := p0) (xs := nums (ksT t))) (fun i H3 => H3 = upd H2 A1 (.lst (((ksT t).map (sgV t)).take i))) rfl ?_ ?_ ?_⟩
        · rintro i H3 hi rfl
          exact SqL.of (by rw [upd_ne (ne_of_none hp2 nA1)]; exact hp2)
        · rintro i y H3 H4 hi rfl ⟨eH, hy⟩
          rw [eH]
          obtain ⟨hi', rfl⟩ := nums_at hy
          have s4 := same_put (s := Same.refl H2) (o := .lst (((ksT t).map (sgV t)).take i)) nA1
          have hn := List.getElem_mem hi'
          obtain ⟨z, e⟩ := Option.isSome_iff_exists.mp (kin _ hn)
          refine ⟨rfl, _, rfl, _, rfl, x, dx, _, rfl, s4 _ _ hx, x, t, _, _, rfl, rd2.same s4, held_int (nice_nat _ (by have := k256 _ hn; omega)), .inr ⟨z, by rw [lookD_nat, e], _, upd_same, ?_, ?_⟩⟩
          · rw [List.length_take, List.length_map, sizeLine_eq]
            omega
          · rw [upd_upd, List.take_add_one, sg_at (List.getElem?_eq_getElem hi') e]
            rfl
        rintro H3 rfl
        rw [nums_len, List.take_of_length_le (by rw [List.length_map]; exact Nat.le_refl _)]
        have s4 := same_put (s := Same.refl H2) (o := .lst ((ksT t).map (sgV t))) nA1
        have hA1 : upd H2 A1 (.lst ((ksT t).map (sgV t))) A1 = some (.lst ((ksT t).map (sgV t))) := upd_same
        have hp3 := s4 _ _ hp2
        generalize upd H2 A1 (.lst ((ksT t).map (sgV t))) = H3 at s4 hA1 hp3 ⊢
        have sg3 := SigA.same sg2 s4
        refine ⟨_, rfl, p0, rfl, ⟨_, SqL.of hp3⟩, fun A2 nA2 => lc_it (walk_list (K := K) (a := p0) (xs := nums (ksT t))) (fun i H4 => H4 = upd H3 A2 (.lst (((ksT t).map (sgV t)).take i))) rfl ?_ ?_ ?_⟩
        · rintro i H4 hi rfl
          exact SqL.of (by rw [upd_ne (ne_of_none hp3 nA2)]; exact hp3)
        · rintro i y H4 H5 hi rfl ⟨eH, hy⟩
          rw [eH]
          obtain ⟨hi', rfl⟩ := nums_at hy
          have s5 := same_put (s := Same.refl H3) (o := .lst (((ksT t).map (sgV t)).take i)) nA2
          have hn := List.getElem_mem hi'
          obtain ⟨z, e⟩ := Option.isSome_iff_exists.mp (kin _ hn)
          refine ⟨rfl, _, rfl, _, rfl, d, V.str (Sx z), rfl, .inl ⟨_, kN _, .inl (s5 _ _ sg3.1), rfl, by rw [sSome e]⟩, _, upd_same, ?_, ?_⟩
          · rw [List.length_take, List.length_map, sizeLine_eq]
            omega
          · rw [upd_upd, List.take_add_one, sg_at (List.getElem?_eq_getElem hi') e]
            rfl
        rintro H4 rfl
        rw [nums_len, List.take_of_length_le (by rw [List.length_map]; exact Nat.le_refl _)]
        have s5 := same_put (s := Same.refl H3) (o := .lst ((ksT t).map (sgV t))) nA2
        have hA2 : upd H3 A2 (.lst ((ksT t).map (sgV t))) A2 = some (.lst ((ksT t).map (sgV t))) := upd_same
        have hA3 := s5 _ _ hA1
        have hp4 := s5 _ _ hp3
        generalize upd H3 A2 (.lst ((ksT t).map (sgV t))) = H4 at s5 hA2 hA3 hp4 ⊢
        refine neD_same (d := .list ((ksT t).map (sgD t))) (.lst (SqL.of hA3) (dp_map _ _ (fun n => .str _) _)) (.lst (SqL.of hA2) (dp_map _ _ (fun n => .str _) _)) (sg_shaped g kin) ⟨_, rfl, iteF ?_⟩
        have s6 : Same H H4 := fun b o e => s5 _ _ (s4 _ _ (s3 _ _ e))
        have rd4 := rd.same s6
        have sg4 := SigA.same sg s6
        clear hA2 hA3 hA1 hp3 s4 s5 sg3 sg2 rd2 hp2 s3 nA1 nA2 hx hb
        obtain ⟨⟨dx, b, hx, hb⟩, _⟩ := id rd4
        -- each is in it
        refine ⟨_, rfl, p0, rfl, ⟨_, SqL.of hp4⟩, fun A1 nA1 => lc_it (walk_list (K := K) (a := p0) (xs := nums (ksT t))) (fun i H3 => H3 = upd H4 A1 (.lst [])) rfl ?_ ?_ ?_⟩
        · rintro i H3 hi rfl
          exact SqL.of (by rw [upd_ne (ne_of_none hp4 nA1)]; exact hp4)
        · rintro i y H3 H5 hi rfl ⟨eH, hy⟩
          rw [eH]
          obtain ⟨hi', rfl⟩ := nums_at hy
          have s7 := same_put (s := Same.refl H4) (o := .lst []) nA1
          have e := kin _ (List.getElem_mem hi')
          refine ⟨rfl, _, rfl, _, rfl, x, dx, _, rfl, s7 _ _ hx, x, t, _, _, rfl, rd4.same s7, .int _, _, rfl, _, rfl, ?_⟩
          rw [lookD_nat, e]
          exact iteF rfl
        rintro H3 rfl
        have s7 := same_put (s := Same.refl H4) (o := .lst []) nA1
        have hA1 : upd H4 A1 (.lst []) A1 = some (.lst []) := upd_same
        generalize upd H4 A1 (.lst []) = H5 at s7 hA1 ⊢
        refine ⟨Nat.zero_le _, fun o no => ?_⟩
        have s8 := same_put (s := s7) (o := .lst []) no
        have hA5 : upd H5 o (.lst []) A1 = some (.lst []) := by rw [upd_ne (ne_of_none hA1 no)]; exact hA1
        have ho : upd H5 o (.lst []) o = some (.lst []) := upd_same
        show rNeD K _ _ (upd H5 o (.lst [])) _
        generalize upd H5 o (.lst []) = H6 at s8 hA5 ho ⊢
        refine neD_same (d := .list []) (.lst (SqL.of hA5) .nil) (.lst (SqL.of ho) .nil) (by rfl) ⟨_, rfl, iteF ?_⟩
        have s9 : Same H H6 := fun b o e => s8 _ _ (s6 _ _ e)
        have rd6 := rd.same s9
        have sg6 := SigA.same sg s9
        have hp6 := s8 _ _ hp4
        clear s8 hA5 ho s7 hA1 no rd4 sg4 hp4 nA1 s6 hx hb
        -- turned by hand
        refine fun B0 nB0 => ?_
        have s10 := same_put (s := Same.refl H6) (o := .dK []) nB0
        have hB0 : upd H6 B0 (.dK []) B0 = some (.dK []) := upd_same
        show gName 3 (.ref B0) _ (upd H6 B0 (.dK [])) _
        generalize upd H6 B0 (.dK []) = H7 at s10 hB0 ⊢
        have hp7 := s10 _ _ hp6
        refine ⟨_, rfl, p0, _, rfl, SqL.of hp7, fun l nl => ⟨l, rfl, ⟨_, SqL.of upd_same⟩, ?_⟩⟩
        have s11 := same_put (s := Same.refl H7) (o := .lst (idxs (ksT t)).reverse) nl
        have hl : upd H7 l (.lst (idxs (ksT t)).reverse) l = some (.lst (nums (ksT t).reverse)) := by
          rw [upd_same]
          unfold nums idxs
          rw [List.map_reverse]
        have hB8 := s11 _ _ hB0
        generalize upd H7 l (.lst (idxs (ksT t)).reverse) = H8 at s11 hl hB8 ⊢
        have s12 : Same H H8 := fun b o e => s11 _ _ (s10 _ _ (s9 _ _ e))
        have sg8 := SigA.same sg s12
        have lB : l ≠ B0 := ne_of hl hB8 (fun z => nomatch z)
        have B0H : H B0 = none := same_none s9 nB0
        have dB : d ≠ B0 := by
          intro z
          have e := sg6.1
          rw [z, nB0] at e
          cases e
        clear s11 s10 s9 hB0 hp7 nl sg6 rd6
        refine for_it (walk_list (K := K) (a := l) (xs := nums (ksT t).reverse)) (fun i σ H2 => (∃ v4, σ = [some (.ref x), some (.ref d), some (.ref p0), some (.ref B0), v4, none, none]) ∧ (∃ B, H2 B0 = some (.dK (encC B (backT t ((ksT t).reverse.take i)))) ∧ Tups H2 B (backT t ((ksT t).reverse.take i))) ∧ GoodC (backT t ((ksT t).reverse.take i)) ∧ (∀ c o, H8 c = some o → c ≠ B0 → H2 c = some o)) ⟨⟨none, rfl⟩, ⟨fun _ => 0, hB8, fun q h => absurd h List.not_mem_nil⟩, GoodC.nil, fun _ _ e _ => e⟩ ?_ ?_ ?_
        · rintro i σ H2 hi ⟨_, _, _, kp⟩
          exact SqL.of (kp _ _ hl lB)
        · rintro i y σ H2 H3 hi ⟨⟨v4, rfl⟩, ⟨B, hB, tu⟩, gB, kp⟩ ⟨eH, hy⟩
          rw [eH]
          obtain ⟨hi', rfl⟩ := nums_at hy
          have hn : (ksT t).reverse[i] ∈ ksT t := List.mem_reverse.mp (List.getElem_mem hi')
          have eT : backT t ((ksT t).reverse.take (i + 1)) = addB t (backT t ((ksT t).reverse.take i)) (ksT t).reverse[i] := by
            rw [List.take_add_one, List.getElem?_eq_getElem hi']
            unfold backT
            rw [List.foldl_append]
            rfl
          generalize (ksT t).reverse[i] = n at hn eT ⊢
          obtain ⟨z, e⟩ := Option.isSome_iff_exists.mp (kin _ hn)
          obtain ⟨n256, c, rfl, hc⟩ := g.look e
          have eA : addB t (backT t ((ksT t).reverse.take i)) n = putT (backT t ((ksT t).reverse.take i)) c [n] := by
            unfold addB
            rw [e]
            rfl
          rw [eA] at eT
          generalize backT t ((ksT t).reverse.take i) = acc at hB tu gB eT ⊢
          have al := gB.key
          refine ⟨_, rfl, by show 1 ≤ sizeLine; decide, fun tq nt => ?_⟩
          have st := same_put (s := Same.refl H2) (o := .tup [.int ((n : Nat) : Int)]) nt
          have ht : upd H2 tq (.tup [.int ((n : Nat) : Int)]) tq = some (.tup (nums [n])) := upd_same
          have hB2 := st _ _ hB
          have hd2 := st _ _ (kp _ _ sg8.1 dB)
          have tB : tq ≠ B0 := ne_of ht hB2 (fun z => nomatch z)
          have tu2 := tu.same st
          generalize upd H2 tq (.tup [.int ((n : Nat) : Int)]) = H5 at st ht hB2 hd2 tu2 ⊢
          refine ⟨_, rfl, _, rfl, _, rfl, d, V.str (Sx [c]), rfl, .inl ⟨_, kN n, .inl hd2, rfl, by rw [sSome e]⟩, B0, _, rfl, DPut.l hB2 (by rw [encC_len, sizeLine_eq]; omega), ⟨_, rfl⟩, ?_, ?_, fun c2 o2 e2 n2 => ?_⟩
          · refine ⟨setA B c tq, ?_, ?_⟩
            · rw [upd_same, eT, putK_C (s := [n])]
            · rw [eT]
              exact (tu2.putT gB ht).upd (fun xs z => by rw [hB2] at z; cases z)
          · rw [eT]
            exact gB.putT hc ⟨Nat.le_refl _, by show 1 ≤ 4; decide, fun m hm => by rw [List.mem_singleton.mp hm]; exact n256⟩
          · rw [upd_ne n2]
            exact st _ _ (kp _ _ e2 n2)
        · rintro σ H2 ⟨⟨v4, rfl⟩, ⟨B, hB, tu⟩, gB, kp⟩
          rw [nums_len, List.take_of_length_le (Nat.le_refl _)] at hB tu gB
          have s13 : Same H H2 := fun b o e => kp _ _ (s12 _ _ e) (ne_of_none e B0H)
          have bi : ∀ c, lookT (backT t (ksT t).reverse) c = lookT (invL (imsL (List.range 256) t)) c := back_inv t
          generalize backT t (ksT t).reverse = tb at hB tu gB bi
          clear kp hl hB8 lB dB s12 sg8 nB0 B0H
          have rd13 := rd.same s13
          have cd13 : CodA H2 B0 B tb := ⟨hB, tu, gB⟩
          -- odd things
          refine ⟨by show 1 ≤ sizeLine; decide, fun t7 n7 => ⟨1, rfl, fun dd ndd => ⟨Nat.zero_le _, fun le nle => ⟨10, 30, rfl, rfl, ⟨by decide, by decide, by decide⟩, by show 10 ≤ sizeLine; decide, fun lo nlo => ?_⟩⟩⟩⟩
          have st := same_put (s := Same.refl H2) (o := .tup [.int 7]) n7
          have sdd := same_put (s := Same.refl _) (o := .dK []) ndd
          have sle := same_put (s := Same.refl _) (o := .lst []) nle
          have slo := same_put (s := Same.refl _) (o := .lst [V.non, .bl true, .bl false, .str "7", .ref t7, .int 256, .int (-1), .ref dd, .ref le, .int (10 ^ 30)]) nlo
          have h7 := slo _ _ (sle _ _ (sdd _ _ (show upd H2 t7 (.tup [.int 7]) t7 = _ from upd_same)))
          have hdd := slo _ _ (sle _ _ (show upd (upd H2 t7 (.tup [.int 7])) dd (.dK []) dd = _ from upd_same))
          have hle := slo _ _ (show upd (upd (upd H2 t7 (.tup [.int 7])) dd (.dK [])) le (.lst []) le = _ from upd_same)
          have hlo : upd (upd (upd (upd H2 t7 (.tup [.int 7])) dd (.dK [])) le (.lst [])) lo (.lst [V.non, .bl true, .bl false, .str "7", .ref t7, .int 256, .int (-1), .ref dd, .ref le, .int (10 ^ 30)]) lo = _ := upd_same
          have s14 : Same H2 (upd (upd (upd (upd H2 t7 (.tup [.int 7])) dd (.dK [])) le (.lst [])) lo (.lst [V.non, .bl true, .bl false, .str "7", .ref t7, .int 256, .int (-1), .ref dd, .ref le, .int (10 ^ 30)])) := fun b o e => slo _ _ (sle _ _ (sdd _ _ (st _ _ e)))
          show gName 5 (.ref lo) _ (upd (upd (upd (upd H2 t7 (.tup [.int 7])) dd (.dK [])) le (.lst [])) lo (.lst [V.non, .bl true, .bl false, .str "7", .ref t7, .int 256, .int (-1), .ref dd, .ref le, .int (10 ^ 30)])) _
          generalize upd (upd (upd (upd H2 t7 (.tup [.int 7])) dd (.dK [])) le (.lst [])) lo (.lst [V.non, .bl true, .bl false, .str "7", .ref t7, .int 256, .int (-1), .ref dd, .ref le, .int (10 ^ 30)]) = H9 at h7 hdd hle hlo s14 ⊢
          clear st sdd sle slo n7 ndd nle nlo
          have rd14 := rd13.same s14
          have cd14 := CodA.same cd13 s14
          obtain ⟨⟨dx, b, hx, hb⟩, _⟩ := id rd14
          -- turned
          refine ⟨_, rfl, x, dx, _, rfl, hx, x, t, rfl, rd14, fun z Bz H10 nz wz sz => ?_⟩
          refine ⟨_, rfl, B0, B, tb, rfl, CodA.same cd14 sz, fun z2 H11 nz2 wz2 sz2 => ?_⟩
          have wz1 := wz.same sz2
          obtain ⟨⟨dz, bz, hz, _⟩, _, gz⟩ := id wz1
          obtain ⟨⟨dz2, bz2, hz2, _⟩, _, _⟩ := id wz2
          have w2 := WrAt.congr wz2.wr gz fun c => (bi c).symm
          refine ⟨z, dz, _, .ref CW, rfl, hz, .base (.ins hz2 T.clW T.wA T.tB T.tC T.wD), T.nfW, z, z2, Bz, B, _, rfl, wz1.wr, w2, true, rfl, true, rfl, iteT ?_⟩
          have s15 : Same H9 H11 := fun b o e => sz2 _ _ (sz _ _ e)
          have h7b := s15 _ _ h7
          have hddb := s15 _ _ hdd
          have hleb := s15 _ _ hle
          have hlob := s15 _ _ hlo
          have rd15 := rd14.same s15
          have s16 : Same H H11 := fun b o e => s15 _ _ (s14 _ _ (s13 _ _ e))
          have hx15 := s15 _ _ hx
          clear wz wz1 wz2 w2 hz hz2 sz sz2 hx hb cd14 rd14 h7 hdd hle hlo s14 s15 cd13 rd13 s13
          refine ⟨_, rfl, lo, rfl, ⟨_, SqL.of hlob⟩, fun A1 nA1 => lc_it (walk_list (K := K) (a := lo) (xs := [V.non, .bl true, .bl false, .str "7", .ref t7, .int 256, .int (-1), .ref dd, .ref le, .int (10 ^ 30)])) (fun i H3 => H3 = upd H11 A1 (.lst [])) rfl ?_ ?_ ?_⟩
          · rintro i H3 hi rfl
            exact SqL.of (by rw [upd_ne (ne_of_none hlob nA1)]; exact hlob)
          · rintro i y H3 H5 hi rfl ⟨eH, hy⟩
            rw [eH]
            have s17 := same_put (s := Same.refl H11) (o := .lst []) nA1
            obtain ⟨d2, p2, e2⟩ := odd_no (g := g) (s17 _ _ h7b) (s17 _ _ hddb) (s17 _ _ hleb) (List.mem_of_getElem? hy)
            refine ⟨rfl, _, rfl, _, rfl, x, dx, _, rfl, s17 _ _ hx15, x, t, _, _, rfl, rd15.same s17, p2, _, rfl, _, rfl, ?_⟩
            rw [e2]
            exact iteF rfl
          rintro H3 rfl
          have s17 := same_put (s := Same.refl H11) (o := .lst []) nA1
          have hA1 : upd H11 A1 (.lst []) A1 = some (.lst []) := upd_same
          generalize upd H11 A1 (.lst []) = H12 at s17 hA1 ⊢
          refine ⟨Nat.zero_le _, fun o no => ?_⟩
          have s18 := same_put (s := s17) (o := .lst []) no
          exact eq_same (d := .list []) (.lst (SqL.of (by rw [upd_ne (ne_of_none hA1 no)]; exact hA1)) .nil) (.lst (SqL.of upd_same) .nil) (by rfl) (q _ fun b o e => s18 _ _ (s16 _ _ e))
          done
end
end V8

set_option Elab.async false
set_option linter.all false
set_option maxRecDepth 100000
set_option maxHeartbeats 16000000
/-! Letters, orders and tables of signs drawn. -/
namespace V8
open PySem PySem.Spec PyProof.Rows L2 ItX
abbrev s__law_letters : Stmt := topS 38
abbrev n__law_letters : List Str := ["_law_pen_here", "_law_many", "_law_left", "_law_turn"]
theorem sc__law_letters : FnScope ["_law_pen_here", "_law_many", "_law_left", "_law_turn"] ["_law_pen_here", "_law_many"] (defScope s__law_letters) := ⟨rfl, rfl, rfl, by decide +kernel, rfl, by decide +kernel, by decide +kernel⟩
abbrev s_shuffled : Stmt := topS 37
abbrev n_shuffled : List Str := ["_law_pen_here", "_law_some", "_law_left", "_law_turn"]
theorem sc_shuffled : FnScope ["_law_pen_here", "_law_some", "_law_left", "_law_turn"] ["_law_pen_here", "_law_some"] (defScope s_shuffled) := ⟨rfl, rfl, rfl, by decide +kernel, rfl, by decide +kernel, by decide +kernel⟩
abbrev s_signs : Stmt := topS 39
abbrev n_signs : List Str := ["_law_pen_here", "_law_some", "_law_known", "_law_numbers", "_law_number"]
theorem sc_signs : FnScope ["_law_pen_here", "_law_some", "_law_known", "_law_numbers", "_law_number"] ["_law_pen_here", "_law_some", "_law_known"] (defScope s_signs) := ⟨rfl, rfl, rfl, by decide +kernel, rfl, by decide +kernel, by decide +kernel⟩
theorem permV {α : Type} {got rest xs : List α} {k : Nat} {y : α} (hp : (got ++ rest).Perm xs) (hy : rest[k]? = some y) : ((got ++ [y]) ++ rest.eraseIdx k).Perm xs := by
  refine List.Perm.trans ?_ hp
  rw [List.append_assoc]
  refine List.Perm.append_left got ?_
  show (y :: rest.eraseIdx k).Perm rest
  obtain ⟨hk, e⟩ := List.getElem?_eq_some_iff.mp hy
  rw [List.eraseIdx_eq_take_drop_succ]
  have h2 : rest = rest.take k ++ (y :: rest.drop (k + 1)) := by
    rw [← e, ← List.drop_eq_getElem_cons hk, List.take_append_drop]
  exact (List.perm_middle.symm).trans (List.Perm.of_eq h2.symm)
def spShuf : Sp := fun vs H Q _ => ∃ (p l a : Addr) (ns : List Int) (n : Nat) (xs : List V), vs = [.ref p, .ref a] ∧ PenAt H p l ns (n + xs.length) ∧ H a = some (.lst xs) ∧ a ≠ p ∧ xs.length ≤ 900 ∧
  ∀ (D : Addr) (ys : List V) (H' : Hp), ys.Perm xs → PenAt H' p l ns n → Fr p H H' → H D = none → H' D = some (.lst ys) → Q (.ref D) H'
theorem nums_mem {s : List Nat} {v : V} (h : v ∈ nums s) : ∃ n ∈ s, v = .int ((n : Nat) : Int) := by
  obtain ⟨n, hn, e⟩ := List.mem_map.mp h
  exact ⟨n, hn, e.symm⟩
theorem un_nums {ys : List V} {ks : List Nat} (h : ys.Perm (nums ks)) : ∃ ds, ys = nums ds ∧ ds.Perm ks := by
  have e : ∀ y ∈ ys, ∃ c : Nat, y = V.int ((c : Nat) : Int) := fun y hy => by
    obtain ⟨c, _, e⟩ := nums_mem (h.mem_iff.mp hy)
    exact ⟨c, e⟩
  let g : V → Nat := fun v => match v with | .int z => z.toNat | _ => 0
  have gl : ∀ l : List Nat, (nums l).map g = l := fun l => by
    unfold nums
    rw [List.map_map]
    have : l.map (g ∘ fun n => V.int ((n : Nat) : Int)) = l.map id := List.map_congr_left fun c _ => by
      show (((c : Nat) : Int)).toNat = c
      omega
    rw [this, List.map_id]
  refine ⟨ys.map g, ?_, ?_⟩
  · unfold nums
    rw [List.map_map]
    have : ys.map ((fun n => V.int ((n : Nat) : Int)) ∘ g) = ys.map id := List.map_congr_left fun y hy => by
      obtain ⟨c, rfl⟩ := e y hy
      show V.int ((((c : Nat) : Int).toNat : Nat) : Int) = V.int ((c : Nat) : Int)
      congr 1
    rw [this, List.map_id]
  · have h2 := h.map g
    rw [gl] at h2
    exact h2
theorem nums_app (a b : List Nat) : nums a ++ nums b = nums (a ++ b) := (List.map_append ..).symm
section
variable {P : Program} {w : World} {K : PySem.W.Frag} {mg : Str → Option Value} {base : Heap}
theorem ok_letters {f : Addr} {fd : FuncData} (F : Fun K "_law_letters" "_law_letters" s__law_letters f fd) (T : Blt mg) (D_draw : Df P w K mg base 1 "_law_draw" spDraw) : FnOk P w K mg base CX0 2 f fd ["_law_pen_here", "_law_many"] spLetters := by
  refine F.ok sc__law_letters (fun vs H Q E h => ?_) (fun cdv A outer s H vs Q E hr h => ?_)
  · obtain ⟨p, l, ns, n, many, rfl, _⟩ := h
    rfl
  · obtain ⟨p, l, ns, n, many, rfl, PA, hm, q⟩ := h
    refine ⟨_, (pss_cons (ps_set (i := 2) sc__law_letters.nd rfl (.inr rfl) (pe_callTy (call_listS rfl) (by rfl) T.list (by decide +kernel) (pa_cons pe_str pa_nil)))
      (pss_one (ps_ret (pe_lc (own := [("_law_turn", 3)]) (g := gName 3) (by rfl) sc__law_letters.nd (pi_range1 (by rfl) T.range (pa_cons (pv 1) pa_nil)) (blkOk_by (own := [("_law_turn", 3)]) (N := n__law_letters) (sc := defScope s__law_letters) (by decide +kernel)) (fun _ _ _ _ _ => (pg_name (i := 3) sc__law_letters.nd rfl (.inl rfl))) (fun _ _ _ _ _ => pts_nil) (fun _ _ _ _ _ => (pe_bmK (K := K) rfl PySem.F.plainAttrs_list PySem.F.slot_list_pop PySem.F.type_list_pop mt_popAt (pv 2) (pa_cons (pe_c D_draw hr (by decide) (by rfl) (pa_cons (pv 0) (pa_cons (pe_callB (call_len_seqK (K := K) rfl) (by rfl) T.len (by decide +kernel) (pa_cons (pv 2) pa_nil)) pa_nil))) pa_nil))))))), ?_⟩
    refine ⟨_, rfl, by decide, fun a na => ?_⟩
    have ePool : (List.map (fun c => V.str ⟨#[c]⟩) (Str.ofString "abcdefghijklmnopqrstuvwxyz").cps.toList) = lets abc := by
      show List.map (fun c => V.str (L1 c)) abcS.cps.toList = lets abc
      rw [abcS_cps]
      rfl
    rw [ePool]
    have PA1 := PA.new (o := .lst (lets abc)) na
    have hap : p ≠ a := by
      obtain ⟨⟨sp, g, h1, _⟩, _⟩ := PA
      exact ne_of_none h1 na
    have hla : l ≠ a := ne_of_none PA.nums na
    refine ⟨_, rfl, many, rfl, by omega, by omega, fun D nD => lc_range (lo := 0) (n := many) (fun i H2 => ∃ got rest : List Nat, (got ++ rest).Perm abc ∧ got.length = i ∧ H2 D = some (.lst (lets got)) ∧ H2 a = some (.lst (lets rest)) ∧ PenAt H2 p l ns (n + (many - i)) ∧ Fr p H H2) ?_ ?_ ?_⟩
    · have hDa : a ≠ D := ne_of_none upd_same nD
      refine ⟨[], abc, List.Perm.refl _, rfl, upd_same, by rw [upd_ne hDa, upd_same], (PA1.new nD).less (by omega), (Fr.new na).trans (Fr.new nD)⟩
    · rintro i H2 hi ⟨got, rest, pm, hg, hD, ha, PA2, fr⟩
      have hlen : got.length + rest.length = 26 := by
        have := pm.length_eq
        rw [List.length_append, abc_len] at this
        exact this
      have hDa : D ≠ a := by
        intro e
        subst e
        rw [upd_same] at nD
        cases nD
      have nDH : H D = none := by
        cases e : H D with
        | none => rfl
        | some o =>
          rw [upd_ne (ne_of_none e na), e] at nD
          cases nD
      have hDp : D ≠ p := by
        intro e
        subst e
        obtain ⟨⟨sp, g, h1, _⟩, _⟩ := PA1
        rw [h1] at nD
        cases nD
      have hDl : D ≠ l := by
        intro e
        subst e
        rw [PA1.nums] at nD
        cases nD
      have hr0 : 0 < (lets rest).length := by rw [lets_len]; omega
      refine ⟨rfl, ⟨_, rfl, .inl ⟨rfl, _, SqL.of ha⟩, _, rfl, _, rfl, a, _, rfl, .inl (SqL.of ha), p, l, ns, n + (many - (i + 1)), _, rfl, PA2.less (by omega), by omega, by rw [lets_len]; omega, fun v H3 v0 v1 PA3 fr3 => ?_⟩⟩
      obtain ⟨j, rfl⟩ : ∃ j : Nat, v = j := ⟨v.toNat, by omega⟩
      have hj : j < rest.length := by rw [lets_len] at v1; omega
      have hx : (lets rest)[j]? = some (.str (L1 rest[j])) := by
        unfold lets
        rw [List.getElem?_map, List.getElem?_eq_getElem hj]
        rfl
      have ha3 : H3 a = some (.lst (lets rest)) := fr3 _ _ ha (Ne.symm hap)
      have hD3 : H3 D = some (.lst (lets got)) := fr3 _ _ hD hDp
      have hk : seqIndex? (j : Int) (lets rest).length = some j := by
        unfold seqIndex?
        rw [lets_len]
        simp
        omega
      refine ⟨a, _, _, j, _, rfl, rfl, ha3, by omega, by omega, hk, hx, lets got, by rw [upd_ne hDa]; exact hD3, by rw [lets_len]; exact small1000 (by omega), got ++ [rest[j]], rest.eraseIdx j, perm_erase pm (List.getElem?_eq_getElem hj), by simp [hg], ?_, ?_, ?_, ?_⟩
      · rw [upd_same]
        unfold lets
        rw [List.map_append]
        rfl
      · rw [upd_ne (Ne.symm hDa), upd_same]
        rw [lets_erase]
      · exact (PA3.other (Ne.symm hap) (Ne.symm hla)).other hDp hDl
      · exact ((fr.trans fr3).put na).put nDH
    · rintro H2 ⟨got, rest, pm, hg, hD, ha, PA2, fr⟩
      have hnd : (got ++ rest).Nodup := pm.nodup_iff.mpr abc_nd
      have nD' : H D = none := by
        cases e : H D with
        | none => rfl
        | some o =>
          rw [upd_ne (ne_of_none e na), e] at nD
          cases nD
      refine q D got H2 hg (List.nodup_append.mp hnd).1 (fun c hc => abc_mem.mp (pm.mem_iff.mp (List.mem_append_left _ hc))) (PA2.less (by omega)) fr nD' hD
theorem ok_shuffled {f : Addr} {fd : FuncData} (F : Fun K "_law_shuffled" "_law_shuffled" s_shuffled f fd) (T : Blt mg) (D_draw : Df P w K mg base 1 "_law_draw" spDraw) : FnOk P w K mg base CX0 2 f fd ["_law_pen_here", "_law_some"] spShuf := by
  refine F.ok sc_shuffled (fun vs H Q E h => ?_) (fun cdv A outer s H vs Q E hr h => ?_)
  · obtain ⟨p, l, a, ns, n, xs, rfl, _⟩ := h
    rfl
  · obtain ⟨p, l, a, ns, n, xs, rfl, PA, hx, hap, h9, q⟩ := h
    refine ⟨_, (pss_cons (ps_set (i := 2) sc_shuffled.nd rfl (.inr rfl) (pe_callTy (call_list_ofK (K := K) rfl) (by rfl) T.list (by decide +kernel) (pa_cons (pv 1) pa_nil)))
      (pss_one (ps_ret (pe_lc (own := [("_law_turn", 3)]) (g := gName 3) (by rfl) sc_shuffled.nd (pi_range1 (by rfl) T.range (pa_cons (pe_callB (call_len_seqK (K := K) rfl) (by rfl) T.len (by decide +kernel) (pa_cons (pv 1) pa_nil)) pa_nil)) (blkOk_by (own := [("_law_turn", 3)]) (N := n_shuffled) (sc := defScope s_shuffled) (by decide +kernel)) (fun _ _ _ _ _ => (pg_name (i := 3) sc_shuffled.nd rfl (.inl rfl))) (fun _ _ _ _ _ => pts_nil) (fun _ _ _ _ _ => (pe_bmK (K := K) rfl PySem.F.plainAttrs_list PySem.F.slot_list_pop PySem.F.type_list_pop mt_popAt (pv 2) (pa_cons (pe_c D_draw hr (by decide) (by rfl) (pa_cons (pv 0) (pa_cons (pe_callB (call_len_seqK (K := K) rfl) (by rfl) T.len (by decide +kernel) (pa_cons (pv 2) pa_nil)) pa_nil))) pa_nil))))))), ?_⟩
    refine ⟨_, rfl, a, xs, rfl, .inl (SqL.of hx), fun b nb => ?_⟩
    have PA1 := PA.new (o := .lst xs) nb
    have hbp : b ≠ p := PA.nep nb
    have hbl : b ≠ l := PA.nel nb
    have hx1 : upd H b (.lst xs) a = some (.lst xs) := by rw [upd_ne (ne_of_none hx nb)]; exact hx
    refine ⟨_, rfl, a, xs, rfl, .inl (SqL.of hx1), xs.length, rfl, by omega, by omega, fun D nD => lc_range (lo := 0) (n := xs.length) (fun i H2 => ∃ got rest : List V, (got ++ rest).Perm xs ∧ got.length = i ∧ H2 D = some (.lst got) ∧ H2 b = some (.lst rest) ∧ PenAt H2 p l ns (n + (xs.length - i)) ∧ Fr p H H2) ?_ ?_ ?_⟩
    · have hDb : b ≠ D := ne_of_none upd_same nD
      refine ⟨[], xs, List.Perm.refl _, rfl, upd_same, by rw [upd_ne hDb, upd_same], (PA1.new nD).less (by omega), (Fr.new nb).trans (Fr.new nD)⟩
    · rintro i H2 hi ⟨got, rest, pm, hg, hD, hb, PA2, fr⟩
      have hlen : got.length + rest.length = xs.length := by
        have := pm.length_eq
        rw [List.length_append] at this
        exact this
      have hDb : D ≠ b := by
        intro e
        subst e
        rw [upd_same] at nD
        cases nD
      have nDH : H D = none := by
        cases e : H D with
        | none => rfl
        | some o =>
          rw [upd_ne (ne_of_none e nb), e] at nD
          cases nD
      have hDp : D ≠ p := PA.nep nDH
      have hDl : D ≠ l := PA.nel nDH
      refine ⟨rfl, ⟨_, rfl, .inl ⟨rfl, _, SqL.of hb⟩, _, rfl, _, rfl, b, _, rfl, .inl (SqL.of hb), p, l, ns, n + (xs.length - (i + 1)), _, rfl, PA2.less (by omega), by omega, by omega, fun v H3 v0 v1 PA3 fr3 => ?_⟩⟩
      obtain ⟨j, rfl⟩ : ∃ j : Nat, v = j := ⟨v.toNat, by omega⟩
      have hj : j < rest.length := by omega
      have hb3 : H3 b = some (.lst rest) := fr3 _ _ hb hbp
      have hD3 : H3 D = some (.lst got) := fr3 _ _ hD hDp
      refine ⟨b, _, _, j, rest[j], rfl, rfl, hb3, by omega, by omega, seq_ix hj, List.getElem?_eq_getElem hj, got, by rw [upd_ne hDb]; exact hD3, small1000 (by omega), got ++ [rest[j]], rest.eraseIdx j, permV pm (List.getElem?_eq_getElem hj), by simp [hg], upd_same, ?_, ?_, ?_⟩
      · rw [upd_ne (Ne.symm hDb), upd_same]
      · exact (PA3.other hbp hbl).other hDp hDl
      · exact ((fr.trans fr3).put nb).put nDH
    · rintro H2 ⟨got, rest, pm, hg, hD, hb, PA2, fr⟩
      have hr0 : rest = [] := by
        have := pm.length_eq
        rw [List.length_append] at this
        exact List.eq_nil_of_length_eq_zero (by omega)
      rw [hr0, List.append_nil] at pm
      have nDH : H D = none := by
        cases e : H D with
        | none => rfl
        | some o =>
          rw [upd_ne (ne_of_none e nb), e] at nD
          cases nD
      exact q D got H2 pm (PA2.less (by omega)) fr nDH hD
end
theorem putG2 {kf : Nat → Key} {vf : Nat × List Nat → V} (inj : ∀ a b, kf a = kf b → a = b) (t : Tab) (c : Nat) (s : List Nat) : putK (encG kf vf t) (kf c) (vf (c, s)) = encG kf vf (putT t c s) := by
  have ea : ((encG kf vf t).any fun kv => decide (kv.1 = kf c)) = t.any fun q => decide (q.1 = c) := by
    unfold encG
    rw [List.any_map]
    congr 1
    funext q
    show decide (kf q.1 = kf c) = decide (q.1 = c)
    by_cases h : q.1 = c
    · rw [decide_eq_true h, decide_eq_true (by rw [h])]
    · rw [decide_eq_false h, decide_eq_false fun e => h (inj _ _ e)]
  unfold putK putT
  rw [ea]
  split
  · unfold encG
    rw [List.map_map, List.map_map]
    refine List.map_congr_left fun q _ => ?_
    show (if kf q.1 = kf c then (kf q.1, vf (c, s)) else (kf q.1, vf q)) = (kf (if q.1 = c then (q.1, s) else q).1, vf (if q.1 = c then (q.1, s) else q))
    by_cases h : q.1 = c
    · rw [if_pos (by rw [h]), if_pos h, ← h]
    · rw [if_neg fun e => h (inj _ _ e), if_neg h]
  · unfold encG
    rw [List.map_append]
    rfl
theorem mergeS : ∀ (b a : Tab), mergeK (encS a) (encS b) = encS (mergeT a b)
  | [], _ => rfl
  | q :: b, a => by
    show mergeK (putK (encS a) (kN q.1) (V.str (Sx q.2))) (encS b) = _
    have h := putG2 (vf := fun q => V.str (Sx q.2)) kN_inj a q.1 q.2
    have h2 : putK (encS a) (kN q.1) (V.str (Sx q.2)) = encS (putT a q.1 q.2) := h
    rw [h2, mergeS b]
    rfl
theorem GoodS.put {t : Tab} {n c : Nat} (g : GoodS t) (hn : n < 256) (hc : isLt c) : GoodS (putT t n [c]) := by
  refine ⟨put_nd g.nd, fun q hq => ?_, fun q hq => ?_⟩
  · rcases keys_put q hq with h | rfl
    · exact g.lt q h
    · exact hn
  · rcases keys_put q hq with h | rfl
    · exact g.sg q h
    · exact ⟨c, rfl, hc⟩
def OkS (q : Nat × List Nat) : Prop := q.1 < 250 ∧ ∃ c, q.2 = [c] ∧ isLt c
theorem GoodS.merge : ∀ {b a : Tab}, GoodS a → (∀ q ∈ b, OkS q) → GoodS (mergeT a b)
  | [], _, g, _ => g
  | q :: b, a, g, h => by
    obtain ⟨h1, c, e, hc⟩ := h q (List.mem_cons_self ..)
    refine GoodS.merge (b := b) (a := putT a q.1 q.2) ?_ fun x hx => h x (List.mem_cons_of_mem _ hx)
    rw [e]
    exact g.put (by omega) hc
theorem merge_250 : ∀ {b a : Tab}, (∀ q ∈ a, q.1 < 250) → (∀ q ∈ b, OkS q) → ∀ q ∈ mergeT a b, q.1 < 250
  | [], _, h, _ => h
  | p :: b, a, h, k => merge_250 (b := b) (a := putT a p.1 p.2) (fun q hq => by
      rcases keys_put q hq with z | rfl
      · exact h q z
      · exact (k p List.mem_cons_self).1) fun q hq => k q (List.mem_cons_of_mem _ hq)
/-- pairs of an integer and a sign stand at ps -/
def PairsS (H : Hp) (ps : List Addr) (t : Tab) : Prop := Paired (fun b (q : Nat × List Nat) => H b = some (.tup [V.int ((q.1 : Nat) : Int), V.str (Sx q.2)])) ps t
theorem PairsS.mono {H H' : Hp} {ps : List Addr} {t : Tab} (h : PairsS H ps t) (k : ∀ b xs, H b = some (.tup xs) → H' b = some (.tup xs)) : PairsS H' ps t := Paired.mapP h fun _ _ e => k _ _ e
theorem PairsS.snoc {H : Hp} : ∀ {ps : List Addr} {t : Tab} {b : Addr} {q : Nat × List Nat}, PairsS H ps t → H b = some (.tup [V.int ((q.1 : Nat) : Int), V.str (Sx q.2)]) → PairsS H (ps ++ [b]) (t ++ [q])
  | _, _, _, _, .nil, e => .cons e .nil
  | _, _, _, _, .cons h r, e => .cons h (PairsS.snoc r e)
theorem PairsS.sq {K : PySem.W.Frag} {H : Hp} : ∀ {ps : List Addr} {t : Tab}, PairsS H ps t → Paired (fun p (kv : Key × V) => SqT K H p [kV kv.1, kv.2]) ps (encS t)
  | _, _, .nil => .nil
  | _, _, .cons h r => .cons (.inl (.inl h)) (PairsS.sq r)
theorem back {p : Addr} {H H' : Hp} {x l : Addr} {ns : List Int} {n : Nat} (P : PenAt H p l ns n) (f : Fr p H H') (h : H' x = none) (P' : PenAt H' p l ns 0) : H x = none := by
  cases z : H x with
  | none => rfl
  | some o =>
    have := f _ _ z (P'.nep h)
    rw [this] at h
    cases h
theorem merge_len : ∀ (b a : Tab), (mergeT a b).length ≤ a.length + b.length
  | [], _ => Nat.le_refl _
  | q :: b, a => by
    have h1 := put_len a q.1 q.2
    have h2 := merge_len b (putT a q.1 q.2)
    show (mergeT (putT a q.1 q.2) b).length ≤ _
    rw [List.length_cons]
    omega
def spSigns : Sp := fun vs H Q _ => ∃ (p l a b : Addr) (ns : List Int) (n : Nat) (cs ks : List Nat), vs = [.ref p, .ref a, .ref b] ∧ PenAt H p l ns (n + 500) ∧ H a = some (.lst (lets cs)) ∧ a ≠ p ∧ cs ≠ [] ∧ cs.length ≤ 26 ∧ (∀ c ∈ cs, isLt c) ∧ H b = some (.lst (nums ks)) ∧ b ≠ p ∧ ks.length ≤ 110 ∧ (∀ k ∈ ks, k < 250) ∧
  ∀ (d : Addr) (t : Tab) (H' : Hp), SigA H' d t → t.length ≤ ks.length + 2 → (∀ q ∈ t, q.1 < 250) → PenAt H' p l ns n → Fr p H H' → H d = none → Q (.ref d) H'
section
variable {P : Program} {w : World} {K : PySem.W.Frag} {mg : Str → Option Value} {base : Heap}
theorem ok_signs {f : Addr} {fd : FuncData} (F : Fun K "_law_signs" "_law_signs" s_signs f fd) (T : Blt mg) (D_draw : Df P w K mg base 1 "_law_draw" spDraw) (D_pick : Df P w K mg base 2 "_law_pick" (spPick K)) (D_shuffled : Df P w K mg base 2 "_law_shuffled" spShuf) : FnOk P w K mg base CX0 3 f fd ["_law_pen_here", "_law_some", "_law_known"] spSigns := by
  refine F.ok sc_signs (fun vs H Q E h => ?_) (fun cdv A outer s H vs Q E hr h => ?_)
  · obtain ⟨p, l, a, b, ns, n, cs, ks, rfl, _⟩ := h
    rfl
  · obtain ⟨p, l, a, b, ns, n, cs, ks, rfl, PA, ha, hap, c0, c26, hlt, hb, hbp, hk, h256, q⟩ := h
    refine ⟨_, (pss_cons (ps_set (i := 3) sc_signs.nd rfl (.inl rfl) (pe_op op_cat (pe_lc (own := [("_law_number", 4)]) (g := gName 4) (by rfl) sc_signs.nd (pi_list (pv 2)) (blkOk_by (own := [("_law_number", 4)]) (N := n_signs) (sc := defScope s_signs) (by decide +kernel)) (fun _ _ _ _ _ => (pg_name (i := 4) sc_signs.nd rfl (.inl rfl))) (fun _ _ _ _ _ => (pts_one (pt_cmpR op_gt (pe_c D_draw hr (by decide) (by rfl) (pa_cons (pv 0) (pa_cons pe_int pa_nil))) pe_int (nomark _)))) (fun _ _ _ _ _ => (pv 4))) (pe_lst (pa_cons pe_int (pa_cons pe_int pa_nil)))))
      (pss_one (ps_ret (pe_callTy (call_dictP rfl) (by rfl) T.dict (by decide +kernel) (pa_cons (pe_lc (own := [("_law_number", 4)]) (g := gName 4) (by rfl) sc_signs.nd (pi_list (pe_c D_shuffled hr (by decide) (by rfl) (pa_cons (pv 0) (pa_cons (pv 3) pa_nil)))) (blkOk_by (own := [("_law_number", 4)]) (N := n_signs) (sc := defScope s_signs) (by decide +kernel)) (fun _ _ _ _ _ => (pg_name (i := 4) sc_signs.nd rfl (.inl rfl))) (fun _ _ _ _ _ => pts_nil) (fun _ _ _ _ _ => (pe_tup (pa_cons (pv 4) (pa_cons (pe_c D_pick hr (by decide) (by rfl) (pa_cons (pv 0) (pa_cons (pv 1) pa_nil))) pa_nil))))) pa_nil))))), ?_⟩
    refine ⟨_, rfl, b, rfl, ⟨_, SqL.of hb⟩, fun D nD => lc_it (walk_list (K := K) (a := b) (xs := nums ks)) (fun i H2 => (∃ s : List Nat, s.length ≤ i ∧ (∀ k ∈ s, k < 250) ∧ H2 D = some (.lst (nums s))) ∧ PenAt H2 p l ns (n + 350 + (110 - i)) ∧ Fr p H H2) ?_ ?_ ?_ ?_⟩
    · exact ⟨⟨[], Nat.zero_le _, fun k h => (List.not_mem_nil h).elim, upd_same⟩, (PA.new nD).less (by omega), Fr.new nD⟩
    · rintro i H2 hi ⟨_, _, fr⟩
      exact SqL.of (fr _ _ hb hbp)
    · rintro i x H20 H2 hi ⟨⟨s, hs, s256, hD⟩, PA2, fr⟩ ⟨rfl, hx⟩
      obtain ⟨hi', rfl⟩ := nums_at hx
      have hDp : D ≠ p := PA.nep nD
      have hDl : D ≠ l := PA.nel nD
      refine ⟨rfl, _, rfl, p, l, ns, n + 350 + (110 - (i + 1)), 5, rfl, PA2.less (by omega), by decide, by decide, fun v H3 v0 v1 PA3 fr3 => ⟨_, _, rfl, rfl, _, rfl, ?_⟩⟩
      by_cases hv : (0 : Int) < v
      · rw [decide_eq_true hv]
        refine iteT ⟨_, rfl, nums s, fr3 _ _ hD hDp, by rw [nums_len]; exact small1000 (by omega), ⟨s ++ [ks[i]], by simp; omega, fun k hk => ?_, ?_⟩, PA3.other hDp hDl, (fr.trans fr3).put nD⟩
        · rcases List.mem_append.mp hk with h | h
          · exact s256 k h
          · rw [List.mem_singleton.mp h]
            exact h256 _ (List.getElem_mem hi')
        · rw [upd_same, ← nums_app]
          rfl
      · rw [decide_eq_false hv]
        exact iteF ⟨⟨s, by omega, s256, fr3 _ _ hD hDp⟩, PA3, fr.trans fr3⟩
    · rintro H2 ⟨⟨s, hs, s256, hD⟩, PA2, fr⟩
      rw [nums_len] at hs PA2
      refine ⟨by show 2 ≤ sizeLine; decide, fun e ne => ?_⟩
      have hDe : D ≠ e := ne_of_none hD ne
      refine ⟨D, e, nums s, nums [7, 11], rfl, rfl, by rw [upd_ne hDe]; exact hD, upd_same, by rw [nums_len, nums_len, sizeLine_eq]; show s.length + 2 ≤ _; omega, fun c nc => ?_⟩
      rw [nums_app]
      have s9 : ∀ k ∈ s ++ [7, 11], k < 250 := fun k hk => by
        rcases List.mem_append.mp hk with h | h
        · exact s256 k h
        · exact (show ∀ k ∈ [7, 11], k < 250 by decide) k h
      have l9 : (s ++ [7, 11]).length ≤ ks.length + 2 := by
        rw [List.length_append]
        show s.length + 2 ≤ ks.length + 2
        omega
      generalize s ++ [7, 11] = s2 at s9 l9 ⊢
      have neH := back PA fr ne (PA2.less (Nat.zero_le _))
      have PA3 := PA2.new (o := .lst [V.int 7, V.int 11]) ne
      have fr3 := fr.put (o := .lst [V.int 7, V.int 11]) neH
      have ncH := back PA fr3 nc (PA3.less (Nat.zero_le _))
      have PA4 := PA3.new (o := .lst (nums s2)) nc
      have fr4 := fr3.put (o := .lst (nums s2)) ncH
      have hc4 : upd (upd H2 e (.lst [V.int 7, V.int 11])) c (.lst (nums s2)) c = some (.lst (nums s2)) := upd_same
      have hcp := PA.nep ncH
      generalize upd (upd H2 e (.lst [V.int 7, V.int 11])) c (.lst (nums s2)) = H4 at PA4 fr4 hc4 ⊢
      clear nc ncH PA3 fr3 ne neH hDe hD fr PA2
      have ha4 := fr4 _ _ ha hap
      refine ⟨_, rfl, _, rfl, p, l, c, ns, n + 200, nums s2, rfl, PA4.less (by rw [nums_len]; omega), hc4, hcp, by rw [nums_len]; omega, fun L ys H5 pm PA5 fr5 nL hL => ?_⟩
      obtain ⟨ds, rfl, pd⟩ := un_nums pm
      have d256 : ∀ k ∈ ds, k < 250 := fun k hk => s9 k (pd.mem_iff.mp hk)
      have dl : ds.length ≤ ks.length + 2 := by rw [pd.length_eq]; exact l9
      have hLp : L ≠ p := PA4.nep nL
      have ha5 := fr5 _ _ ha4 hap
      have fr05 := fr4.trans fr5
      clear fr5 nL hc4 PA4 pm
      refine ⟨L, rfl, ⟨_, SqL.of hL⟩, fun D2 nD2 => lc_it (walk_list (K := K) (a := L) (xs := nums ds)) (fun i H6 => (∃ (ps : List Addr) (t : Tab), ps.length = i ∧ PairsS H6 ps t ∧ (∀ q ∈ t, OkS q) ∧ H6 D2 = some (.lst (ps.map V.ref))) ∧ PenAt H6 p l ns (n + (112 - i)) ∧ Fr p H5 H6) ?_ ?_ ?_ ?_⟩
      · exact ⟨⟨[], [], rfl, .nil, fun k h => (List.not_mem_nil h).elim, upd_same⟩, (PA5.new nD2).less (by omega), Fr.new nD2⟩
      · rintro i H6 hi ⟨_, _, fr⟩
        exact SqL.of (fr _ _ hL hLp)
      · rintro i x H60 H6 hi ⟨⟨ps, t, hp, pr, ok, hD⟩, PA6, fr6⟩ ⟨rfl, hx⟩
        obtain ⟨hi', rfl⟩ := nums_at hx
        have hDp : D2 ≠ p := PA5.nep nD2
        have hDl : D2 ≠ l := PA5.nel nD2
        have ha6 := fr6 _ _ ha5 hap
        have c1 : 0 < cs.length := List.length_pos_iff.mpr c0
        refine ⟨rfl, _, rfl, _, rfl, _, rfl, p, l, a, ns, n + (112 - (i + 1)), lets cs, rfl, PA6.less (by omega), SqL.of ha6, by rw [lets_len]; omega, by rw [lets_len]; omega, fun H' f => SqL.of (f _ _ ha6 hap), fun v H7 hv PA7 fr7 => ?_⟩
        obtain ⟨ch, hch, rfl⟩ := lets_mem hv
        refine ⟨by show 2 ≤ sizeLine; decide, fun tq nt => ?_⟩
        have hD7 := fr7 _ _ hD hDp
        have hDt : D2 ≠ tq := ne_of_none hD7 nt
        have PA8 := PA7.new (o := .tup [.int ((ds[i] : Nat) : Int), .str (L1 ch)]) nt
        obtain ⟨xs, hpen⟩ := PA6.pen
        have nt5 : H5 tq = none := by
          have fr57 := fr6.trans fr7
          cases z : H5 tq with
          | none => rfl
          | some o =>
            have := fr57 _ _ z (PA7.nep nt)
            rw [this] at nt
            cases nt
        refine ⟨_, by rw [upd_ne hDt]; exact hD7, by rw [List.length_map]; exact small1000 (by omega), ⟨ps ++ [tq], t ++ [(ds[i], [ch])], by simp [hp], PairsS.snoc ?_ ?_, fun q hq => ?_, ?_⟩, PA8.other hDp hDl, ((fr6.trans fr7).put nt5).put nD2⟩
        · refine pr.mono fun b ys e => ?_
          have e7 := tup_fr fr7 hpen _ _ e
          have bD : b ≠ D2 := ne_of e hD (fun z => nomatch z)
          rw [upd_ne bD, upd_ne (ne_of_none e7 nt)]
          exact e7
        · rw [upd_ne (Ne.symm hDt)]
          exact upd_same
        · rcases List.mem_append.mp hq with h | h
          · exact ok q h
          · rw [List.mem_singleton.mp h]
            exact ⟨d256 _ (List.getElem_mem hi'), ch, rfl, hlt ch hch⟩
        · rw [upd_same, List.map_append]
          rfl
      · rintro H6 ⟨⟨ps, t, hp, pr, ok, hD⟩, PA6, fr6⟩
        rw [nums_len] at hp PA6
        refine ⟨D2, ps, encS t, rfl, SqL.of hD, pr.sq, fun r nr => ?_⟩
        have em : mergeK [] (encS t) = encS (mergeT [] t) := mergeS t []
        rw [em]
        have nr5 := back (l := l) (ns := ns) (n := 0) (PA5.less (Nat.zero_le _)) fr6 nr (PA6.less (Nat.zero_le _))
        have nrH := back (l := l) (ns := ns) PA fr05 nr5 (PA5.less (Nat.zero_le _))
        exact q r (mergeT [] t) _ ⟨upd_same, GoodS.merge GoodS.nil ok⟩ (by have h1 := Paired.length pr; have h2 := merge_len t []; rw [List.length_nil] at h2; omega) (merge_250 (fun q h => absurd h List.not_mem_nil) ok) ((PA6.new nr).less (by omega)) ((fr05.trans fr6).put nrH) nrH
end
end V8

set_option Elab.async false
set_option linter.all false
set_option maxRecDepth 100000
set_option maxHeartbeats 8000000
/-! What is heard and what is due, as data. -/
namespace V8
open PySem PySem.Spec PyProof.Rows L2 MX SetT LamX PySem.Builtin.Str
def dU : Bad ⊕ List Nat → PyData
  | .inl b => .tuple ((wordsB b).map .str)
  | .inr s => .list [.str (Sx s)]
def OkU : Bad ⊕ List Nat → Prop
  | .inl b => BadOk b
  | .inr s => (∀ c ∈ s, isLt c) ∧ s.length ≤ 2000
def oR : Bad ⊕ List Nat → Option Bad
  | .inl b => some b
  | .inr _ => none
def PR (r : Bad ⊕ List Nat) : V → Hp → Prop := fun x _ => ∃ s, r = .inr s ∧ x = .str (Sx s)
theorem hru_of {H : Hp} {v : V} {r : Bad ⊕ List Nat} (h : HrO (PR r) H v (oR r)) : HrU H v r := by
  cases r with
  | inl b => exact h
  | inr s =>
    obtain ⟨l, x, rfl, hl, s2, e, rfl⟩ := h
    cases e
    exact ⟨l, rfl, hl⟩
theorem hru_ref {H : Hp} {v : V} {r : Bad ⊕ List Nat} (h : HrU H v r) : ∃ a o, v = .ref a ∧ H a = some o ∧ (∀ ps, o ≠ .tbl ps) := by
  cases r with
  | inl b =>
    obtain ⟨t, e, ht⟩ := h
    exact ⟨t, _, e, ht, fun _ z => nomatch z⟩
  | inr s =>
    obtain ⟨t, e, ht⟩ := h
    exact ⟨t, _, e, ht, fun _ z => nomatch z⟩
theorem hru_ext {H H2 : Hp} {v : V} {r : Bad ⊕ List Nat} (h : HrU H v r) (s : ExtN H H2) : HrU H2 v r := by
  cases r with
  | inl b =>
    obtain ⟨t, e, ht⟩ := h
    exact ⟨t, e, s _ _ ht (fun _ z => nomatch z)⟩
  | inr z =>
    obtain ⟨t, e, ht⟩ := h
    exact ⟨t, e, s _ _ ht (fun _ z => nomatch z)⟩
theorem hru_mv {p0 : Addr} {H H2 : Hp} {v : V} {r : Bad ⊕ List Nat} (h : HrU H v r) (s : Mv p0 H H2) (n : ∀ a, v = .ref a → a ≠ p0) : HrU H2 v r := by
  cases r with
  | inl b =>
    obtain ⟨t, e, ht⟩ := h
    exact ⟨t, e, s _ _ ht (n t e) (fun _ z => nomatch z)⟩
  | inr z =>
    obtain ⟨t, e, ht⟩ := h
    exact ⟨t, e, s _ _ ht (n t e) (fun _ z => nomatch z)⟩
theorem py_strs {H : Hp} : ∀ l : List Str, PyWs H (l.map V.str) (l.map PyData.str)
  | [] => .nil
  | _ :: r => .cons (.str _) (py_strs r)
theorem dp_strs {K : PySem.W.Frag} {H : Hp} : ∀ l : List Str, DpAll K H (l.map V.str) (l.map PyData.str)
  | [] => .nil
  | _ :: r => .cons (.str _) (dp_strs r)
theorem hru_py {H : Hp} {v : V} {r : Bad ⊕ List Nat} (h : HrU H v r) : PyW H v (dU r) := by
  cases r with
  | inl b =>
    obtain ⟨t, rfl, ht⟩ := h
    exact .tup ht (py_strs _)
  | inr s =>
    obtain ⟨t, rfl, ht⟩ := h
    exact .lst ht (.cons (.str _) .nil)
theorem hru_dp {K : PySem.W.Frag} {H : Hp} {v : V} {r : Bad ⊕ List Nat} (h : HrU H v r) : Dp K H v (dU r) := by
  cases r with
  | inl b =>
    obtain ⟨t, rfl, ht⟩ := h
    exact .tup (.inl (.inl ht)) (dp_strs _)
  | inr s =>
    obtain ⟨t, rfl, ht⟩ := h
    exact .lst (SqL.of ht) (.cons (.str _) .nil)
theorem words_ok {b : Bad} (h : BadOk b) : ∀ z ∈ wordsB b, PyData.strOk z = true ∧ z.length ≤ 3000 := fun z hz => by
  cases b with
  | one i d =>
    have hw : ∀ i, PyData.strOk (wordOf i) = true ∧ (wordOf i).length ≤ 3000 := fun i => by
      match i with
      | 0 => exact ⟨by decide +kernel, by decide +kernel⟩
      | 1 => exact ⟨by decide +kernel, by decide +kernel⟩
      | 2 => exact ⟨by decide +kernel, by decide +kernel⟩
      | _ + 3 => exact ⟨by show PyData.strOk "unread" = true; decide +kernel, by show ("unread" : Str).length ≤ 3000; decide +kernel⟩
    have hz2 : z ∈ [wordOf i, d.shown] := hz
    simp only [List.mem_cons, List.not_mem_nil, or_false] at hz2
    rcases hz2 with rfl | rfl
    · exact hw i
    · exact ⟨h.2.sh, h.2.sz⟩
  | many wh m =>
    have hz2 : z ∈ [("many" : Str), (PyData.str wh).shown, (PyData.int m).shown] := hz
    simp only [List.mem_cons, List.not_mem_nil, or_false] at hz2
    rcases hz2 with rfl | rfl | rfl
    · exact ⟨by decide +kernel, by decide +kernel⟩
    · exact ⟨h.1.sh, h.1.sz⟩
    · exact ⟨h.2.sh, h.2.sz⟩
theorem u_words {r : Bad ⊕ List Nat} (h : OkU r) : ∃ zs : List Str, (dU r = .tuple (zs.map .str) ∨ dU r = .list (zs.map .str)) ∧ zs.length ≤ 3 ∧ ∀ z ∈ zs, PyData.strOk z = true ∧ z.length ≤ 3000 := by
  cases r with
  | inl b =>
    refine ⟨wordsB b, .inl rfl, ?_, words_ok h⟩
    cases b with
    | one i d => show 2 ≤ 3; decide
    | many wh m => show 3 ≤ 3; decide
  | inr s =>
    refine ⟨[Sx s], .inr rfl, by show 1 ≤ 3; decide, fun z hz => ?_⟩
    rw [List.mem_singleton.mp hz]
    exact ⟨ok_sx h.1, by rw [Sx_len]; exact Nat.le_trans h.2 (by decide)⟩
theorem lay_str : ∀ {zs : List Str}, (∀ z ∈ zs, PyData.strOk z = true ∧ z.length ≤ 3000) → PyData.canLayAll0 (zs.map .str) = true
  | [], _ => by simp [PyData.canLayAll0]
  | z :: r, h => by
    have ih := lay_str (zs := r) fun x hx => h x (List.mem_cons_of_mem _ hx)
    simp only [List.map_cons, PyData.canLayAll0, PyData.canLay0, (h z List.mem_cons_self).1, ih, Bool.and_true]
theorem dep_str : ∀ zs : List Str, PyData.depthAll (zs.map .str) = 0
  | [] => by simp [PyData.depthAll]
  | z :: r => by simp [PyData.depthAll, PyData.depth, dep_str r]
theorem u_lay {r : Bad ⊕ List Nat} (h : OkU r) : (dU r).canLay0 = true ∧ (dU r).depth ≤ 1 := by
  obtain ⟨zs, e | e, _, ok⟩ := u_words h
  · rw [e]
    exact ⟨by simp only [PyData.canLay0]; exact lay_str ok, by simp only [PyData.depth, dep_str]; omega⟩
  · rw [e]
    exact ⟨by simp only [PyData.canLay0]; exact lay_str ok, by simp only [PyData.depth, dep_str]; omega⟩
theorem piled_le {B : Nat} : ∀ {ts : List Str}, (∀ t ∈ ts, t.length ≤ B) → piled ts ≤ ts.length * (B + 2)
  | [], _ => by simp [piled]
  | t :: r, h => by
    have ih := piled_le (ts := r) fun x hx => h x (List.mem_cons_of_mem _ hx)
    have ht := h t List.mem_cons_self
    have e : piled (t :: r) = t.length + 2 + piled r := by simp [piled]
    rw [e, List.length_cons, Nat.succ_mul]
    omega
theorem show_str {z : Str} (h : PyData.strOk z = true) : (PyData.str z).shown.length ≤ 10 * z.length + 2 := by
  simp only [PyData.shown]
  refine PySem.StrLaws.reprText_len z fun c hc => ?_
  unfold PyData.strOk at h
  rw [← Array.all_toList, List.all_eq_true] at h
  have := of_decide_eq_true (h c hc)
  have e : (16 : Nat) ^ 8 = 4294967296 := by decide
  omega
theorem u_tells {r : Bad ⊕ List Nat} (h : OkU r) : (dU r).showable = true ∧ (dU r).depth ≤ 2 ∧ (dU r).shown.length ≤ 200000 := by
  have dl := (u_lay h).2
  obtain ⟨zs, e, l3, ok⟩ := u_words h
  have sh : PyData.showableAll (zs.map .str) = true := show_all fun d hd => by
    obtain ⟨z, _, rfl⟩ := List.mem_map.mp hd
    simp [PyData.showable]
  have ln : ∀ t ∈ (zs.map PyData.str).map PyData.shown, t.length ≤ 30002 := fun t ht => by
    obtain ⟨d, hd, rfl⟩ := List.mem_map.mp ht
    obtain ⟨z, hz, rfl⟩ := List.mem_map.mp hd
    obtain ⟨h1, h2⟩ := ok z hz
    have := show_str h1
    omega
  refine ⟨?_, by omega, ?_⟩
  · rcases e with e | e <;> · rw [e]; simp only [PyData.showable]; exact sh
  · have e1 : ("[" : Str).length = 1 := by decide +kernel
    have e2 : ("]" : Str).length = 1 := by decide +kernel
    have e3 : ("(" : Str).length = 1 := by decide +kernel
    have e4 : (",)" : Str).length = 2 := by decide +kernel
    have e5 : (")" : Str).length = 1 := by decide +kernel
    have hl : ((zs.map PyData.str).map PyData.shown).length ≤ 3 := by
      rw [List.length_map, List.length_map]
      exact l3
    rcases e with e | e
    · rw [e]
      simp only [PyData.shown]
      rw [shown_all]
      generalize (zs.map PyData.str).map PyData.shown = ts at ln hl
      have hj : (Str.join ", " ts).length ≤ ts.length * 30004 := by
        by_cases z : ts = []
        · subst z
          decide +kernel
        · have h1 := join_length_add ts z
          have h2 := piled_le ln
          omega
      unfold tupleText
      rw [strLen_append, strLen_append]
      have hx : ((if ts.length == 1 then ",)" else ")" : String) : Str).length ≤ 2 := by
        cases ts.length == 1
        · show (")" : Str).length ≤ 2
          omega
        · show (",)" : Str).length ≤ 2
          omega
      have : ts.length * 30004 ≤ 3 * 30004 := Nat.mul_le_mul_right _ hl
      omega
    · rw [e]
      simp only [PyData.shown]
      rw [shown_all]
      generalize (zs.map PyData.str).map PyData.shown = ts at ln hl
      unfold listText
      rw [strLen_append]
      have h1 := from_le 30002 ts 0 "[" ln
      have : ts.length * (30002 + 2) ≤ 3 * (30002 + 2) := Nat.mul_le_mul_right _ hl
      omega
theorem pair_tells {r1 r2 : Bad ⊕ List Nat} (h1 : OkU r1) (h2 : OkU r2) : Tells (.list [dU r1, dU r2]) := tells_list 200000 (fun d hd => by
  simp only [List.mem_cons, List.not_mem_nil, or_false] at hd
  rcases hd with rfl | rfl
  · exact u_tells h1
  · exact u_tells h2) (by show 2 * (200000 + 2) + 2 ≤ 8000000; decide)
theorem list_shaped {rs : List (Bad ⊕ List Nat)} (h : ∀ r ∈ rs, OkU r) : SeqAt.shaped (.list (rs.map dU)) = true := by
  have l : PyData.canLayAll0 (rs.map dU) = true ∧ PyData.depthAll (rs.map dU) ≤ 1 := by
    induction rs with
    | nil => exact ⟨by simp [PyData.canLayAll0], by simp [PyData.depthAll]⟩
    | cons r rs ih =>
      obtain ⟨h1, h2⟩ := u_lay (h r List.mem_cons_self)
      obtain ⟨h3, h4⟩ := ih fun x hx => h x (List.mem_cons_of_mem _ hx)
      refine ⟨?_, ?_⟩
      · simp only [List.map_cons, PyData.canLayAll0, h1, h3, Bool.and_true]
      · simp only [List.map_cons, PyData.depthAll]
        omega
  exact shaped_of (by simp only [PyData.canLay0]; exact l.1) (by simp only [PyData.depth]; have := l.2; omega)
theorem u_shaped {r : Bad ⊕ List Nat} (h : OkU r) : SeqAt.shaped (dU r) = true := shaped_of (u_lay h).1 (by have := (u_lay h).2; omega)
theorem due_ok {H : Hp} {t : Tab} {ds : List PyData} (g : GoodS t) (h : ∀ d ∈ ds, NiceD d) (few : ds.length ≤ 2100) : OkU (dueR t ds) := by
  unfold dueR
  cases e : ds.find? (fun d => !numD d) with
  | some d => exact ⟨by decide, h d (List.mem_of_find?_eq_some e)⟩
  | none =>
    dsimp only
    cases e2 : unread t ds with
    | some i =>
      have hi : i < ds.length := (List.findIdx?_eq_some_iff_getElem.mp e2).1
      exact ⟨by decide, nice_nat i (by omega)⟩
    | none =>
      dsimp only
      by_cases l : 2000 < ds.length
      · rw [if_pos l]
        exact ⟨nice_signs, nice_2000⟩
      · rw [if_neg l]
        have hin := unread_no e2
        refine ⟨fun c hc => ?_, by rw [imgs_len g hin]; omega⟩
        unfold imgsD at hc
        obtain ⟨s, hs, hc2⟩ := List.mem_flatten.mp hc
        obtain ⟨d, hd, rfl⟩ := List.mem_map.mp hs
        obtain ⟨s, e3⟩ := hin d hd
        obtain ⟨c2, rfl, h3⟩ := lookD_one g e3
        rw [e3] at hc2
        rw [List.mem_singleton.mp hc2]
        exact h3
end V8

set_option Elab.async false
set_option linter.all false
set_option maxRecDepth 100000
set_option maxHeartbeats 16000000
set_option pp.maxSteps 350
/-! Rows read. -/
namespace V8
open PySem PySem.Spec PyProof.Rows L2 MX SetT LamX
abbrev s__law_rows_right : Stmt := topS 44
abbrev n__law_rows_right : List Str := ["_law_pen_here", "_law_table", "_law_signs_so", "_law_known", "_law_odd", "_law_turn", "_law_mood", "_law_row", "_law_spot", "_law_menu", "_law_due_here", "_law_heard_here", "_law_wrong", "_law_lacking", "_law_one"]
theorem sc__law_rows_right : FnScope ["_law_pen_here", "_law_table", "_law_signs_so", "_law_known", "_law_odd", "_law_turn", "_law_mood", "_law_row", "_law_spot", "_law_menu", "_law_due_here", "_law_heard_here", "_law_wrong", "_law_lacking", "_law_one"] ["_law_pen_here", "_law_table", "_law_signs_so"] (defScope s__law_rows_right) := ⟨rfl, rfl, rfl, by decide +kernel, rfl, by decide +kernel, by decide +kernel⟩
def oddR (t7 le dd : Addr) : List V := [V.non, .bl true, .int 256, .int (-1), .str "7", .ref t7, .ref le, .ref dd, .int (10 ^ 30)]
/-- what a row may be made of, and what it is asked of -/
structure RwS (CR x d p kn lo le t7 dd sl : Addr) (t : Tab) (zs : List V) (H : Hp) : Prop where
  hkn : H kn = some (.lst (nums (t.map (·.1))))
  knp : kn ≠ p
  hlo : H lo = some (.lst (oddR t7 le dd))
  lop : lo ≠ p
  h7 : H t7 = some (.tup [.int 7])
  hle : H le = some (.lst [])
  lep : le ≠ p
  hdd : H dd = some (.dK [])
  hsl : H sl = some (.lst zs)
  slp : sl ≠ p
  rd : RdU CR H x t
  sg : SigA H d t
theorem RdU.mv {C p x : Addr} {H H2 : Hp} {t : Tab} (r : RdU C H x t) (P : PenL H p) (m : Mv p H H2) : RdU C H2 x t := by
  obtain ⟨⟨dx, b, h1, h2⟩, g⟩ := r
  exact ⟨⟨dx, b, m.at P h1 (fun _ z => nomatch z) (fun _ z => nomatch z), m.at P h2 (fun _ z => nomatch z) (fun _ z => nomatch z)⟩, g⟩
theorem RwS.mv {CR x d p kn lo le t7 dd sl : Addr} {t : Tab} {zs : List V} {H H2 : Hp} (r : RwS CR x d p kn lo le t7 dd sl t zs H) (P : PenL H p) (m : Mv p H H2) : RwS CR x d p kn lo le t7 dd sl t zs H2 :=
  ⟨m _ _ r.hkn r.knp (fun _ z => nomatch z), r.knp, m _ _ r.hlo r.lop (fun _ z => nomatch z), r.lop, m.at P r.h7 (fun _ z => nomatch z) (fun _ z => nomatch z), m _ _ r.hle r.lep (fun _ z => nomatch z), r.lep, m.at P r.hdd (fun _ z => nomatch z) (fun _ z => nomatch z), m _ _ r.hsl r.slp (fun _ z => nomatch z), r.slp, r.rd.mv P m,
    ⟨m.at P r.sg.1 (fun _ z => nomatch z) (fun _ z => nomatch z), r.sg.2⟩⟩
theorem RwS.row {CR x d p kn lo le t7 dd sl row : Addr} {t : Tab} {zs : List V} {H : Hp} {o : HO} (r : RwS CR x d p kn lo le t7 dd sl t zs H) (n : H row = none ∨ ((∃ xs, H row = some (.lst xs)) ∧ kn ≠ row ∧ lo ≠ row ∧ le ≠ row ∧ sl ≠ row)) : RwS CR x d p kn lo le t7 dd sl t zs (upd H row o) := by
  rcases n with n | ⟨⟨xs, hr⟩, n1, n2, n3, n4⟩
  · have s : Same H (upd H row o) := same_put (s := Same.refl H) n
    exact ⟨s _ _ r.hkn, r.knp, s _ _ r.hlo, r.lop, s _ _ r.h7, s _ _ r.hle, r.lep, s _ _ r.hdd, s _ _ r.hsl, r.slp, r.rd.same s, SigA.same r.sg s⟩
  · have k : ∀ {b : Addr} {u : HO}, H b = some u → b ≠ row → upd H row o b = some u := fun e nb => by rw [upd_ne nb]; exact e
    have k2 : ∀ {b : Addr} {u : HO}, H b = some u → (∀ ys, u ≠ .lst ys) → upd H row o b = some u := fun {b u} e nl => k e fun z => by
      rw [z, hr] at e
      exact nl _ (Option.some.inj e).symm
    obtain ⟨⟨dx, b, h1, h2⟩, g⟩ := r.rd
    exact ⟨k r.hkn n1, r.knp, k r.hlo n2, r.lop, k2 r.h7 (fun _ z => nomatch z), k r.hle n3, r.lep, k2 r.hdd (fun _ z => nomatch z), k r.hsl n4, r.slp, ⟨⟨dx, b, k2 h1 (fun _ z => nomatch z), k2 h2 (fun _ z => nomatch z)⟩, g⟩, ⟨k2 r.sg.1 (fun _ z => nomatch z), r.sg.2⟩⟩
theorem nice_l0 : NiceD (.list []) := ⟨⟨by decide +kernel, by decide +kernel, by decide +kernel⟩, by decide +kernel, by decide +kernel, by decide +kernel, fun z e => nomatch e⟩
theorem nice_t7 : NiceD (.tuple [.int 7]) := ⟨⟨by decide +kernel, by decide +kernel, by decide +kernel⟩, by decide +kernel, by decide +kernel, by decide +kernel, fun z e => nomatch e⟩
theorem held_l0 {H : Hp} {t : Addr} (h : H t = some (.lst [])) : Held H (.ref t) (.list []) := ⟨.inr (.inl ⟨t, [], rfl, .inr h, by decide, fun y hy => absurd hy List.not_mem_nil⟩), .lst h .nil, nice_l0⟩
theorem held_t7 {H : Hp} {t : Addr} (h : H t = some (.tup [.int 7])) : Held H (.ref t) (.tuple [.int 7]) := by
  refine ⟨.inr (.inl ⟨t, _, rfl, .inl h, by decide, fun y hy => ?_⟩), .tup h (.cons (.int 7) .nil), nice_t7⟩
  rw [List.mem_singleton.mp hy]
  exact .inr (.inl ⟨7, rfl⟩)
theorem held_str {H : Hp} {z : Str} (h : okZ z = true) : Held H (.str z) (.str z) := th_flat (nice_okZ h)
/-- each thing of a row is held -/
theorem pool {CR x d p kn lo le t7 dd sl : Addr} {t : Tab} {zs : List V} {H : Hp} {v : V} (r : RwS CR x d p kn lo le t7 dd sl t zs H) (h : v ∈ nums (t.map (·.1)) ++ oddR t7 le dd ++ [.int 250, .int 251]) : ∃ dv, Held H v dv ∧ ∀ a, v = .ref a → a = t7 ∨ a = le ∨ a = dd := by
  rcases List.mem_append.mp h with h | h
  · rcases List.mem_append.mp h with h | h
    · obtain ⟨n, hn, rfl⟩ := nums_mem h
      obtain ⟨q, hq, rfl⟩ := List.mem_map.mp hn
      have := r.sg.2.lt q hq
      exact ⟨_, held_int (nice_nat _ (by omega)), fun a e => nomatch e⟩
    · unfold oddR at h
      simp only [List.mem_cons, List.not_mem_nil, or_false] at h
      rcases h with rfl | rfl | rfl | rfl | rfl | rfl | rfl | rfl | rfl
      · exact ⟨_, held_non, fun a e => nomatch e⟩
      · exact ⟨_, held_bl true, fun a e => nomatch e⟩
      · exact ⟨_, held_int (nice_nat 256 (by decide)), fun a e => nomatch e⟩
      · exact ⟨_, held_int (nice_int (by decide +kernel) (by decide +kernel) (by decide +kernel)), fun a e => nomatch e⟩
      · exact ⟨_, held_str (by decide +kernel), fun a e => nomatch e⟩
      · exact ⟨_, held_t7 r.h7, fun a e => by cases e; exact .inl rfl⟩
      · exact ⟨_, held_l0 r.hle, fun a e => by cases e; exact .inr (.inl rfl)⟩
      · exact ⟨_, held_dict r.hdd, fun a e => by cases e; exact .inr (.inr rfl)⟩
      · exact ⟨_, held_int (nice_int (by decide +kernel) (by decide +kernel) (by decide +kernel)), fun a e => nomatch e⟩
  · simp only [List.mem_cons, List.not_mem_nil, or_false] at h
    rcases h with rfl | rfl
    · exact ⟨_, held_int (nice_nat 250 (by decide)), fun a e => nomatch e⟩
    · exact ⟨_, held_int (nice_nat 251 (by decide)), fun a e => nomatch e⟩
theorem via {t : TE} {σ : L2.St} {H : Hp} {R : VK} (A : V → Hp → Prop) (h1 : ∀ R' : VK, (∀ v H', A v H' → R' v H') → t σ H R') (h2 : ∀ v H', A v H' → R v H') : t σ H R := h1 R h2
theorem pair_right {α β : Type} {R : α → β → Prop} {xs : List α} {ys : List β} (h : Paired R xs ys) : ∀ y ∈ ys, ∃ x ∈ xs, R x y := by
  induction h with
  | nil => exact fun y hy => absurd hy List.not_mem_nil
  | cons r _ ih =>
    intro y hy
    rcases List.mem_cons.mp hy with rfl | hy
    · exact ⟨_, List.mem_cons_self, r⟩
    · obtain ⟨x, hx, rx⟩ := ih y hy
      exact ⟨x, List.mem_cons_of_mem _ hx, rx⟩
theorem np3 {CR x d p kn lo le t7 dd sl : Addr} {t : Tab} {zs : List V} {H : Hp} {a : Addr} (r : RwS CR x d p kn lo le t7 dd sl t zs H) (P : PenL H p) (h : a = t7 ∨ a = le ∨ a = dd) : a ≠ p := by
  obtain ⟨xs, hp⟩ := P
  rcases h with rfl | rfl | rfl
  · exact ne_of r.h7 hp (fun z => nomatch z)
  · exact r.lep
  · exact ne_of r.hdd hp (fun z => nomatch z)
theorem pairs_held {H H2 : Hp} {p : Addr} {S : Addr → Prop} : ∀ {xs : List V} {ds : List PyData}, Paired (Held H) xs ds → (∀ v ∈ xs, ∀ a, v = .ref a → S a) → (∀ a, S a → a ≠ p) → Mv p H H2 → Paired (Held H2) xs ds
  | [], [], .nil, _, _, _ => .nil
  | x :: xs, d :: ds, .cons h r, np, sp, m => .cons (held_mv h (fun a e => sp a (np x List.mem_cons_self a e)) m) (pairs_held r (fun v hv => np v (List.mem_cons_of_mem _ hv)) sp m)
def spRows (TL : List (Addr × Str)) (CR : Addr) : Sp := fun vs H Q _ => ∃ (p l : Addr) (ns : List Int) (n : Nat) (x d sl : Addr) (t : Tab) (zs : List V), vs = [.ref p, .ref x, .ref d] ∧ PenAt H p l ns (n + 60) ∧ Tabs TL H ∧ RdU CR H x t ∧ SigA H d t ∧ t.length ≤ 30 ∧ (∀ q ∈ t, q.1 < 250) ∧ H sl = some (.lst zs) ∧ sl ≠ p ∧
  ∀ H2, PenAt H2 p l ns n → Tabs TL H2 → H2 sl = some (.lst zs) → Q (.bl true) H2
section
variable {P : Program} {w : World} {K : PySem.W.Frag} {mg : Str → Option Value} {base : Heap} {CW CR CE g c PT : Addr} {Cz : Nat → Addr} {TL : List (Addr × Str)}
theorem ok_rows {f : Addr} {fd : FuncData} (F : FunC K "_law_rows_right" "_law_rows_right" s__law_rows_right f c fd) (T : Tc K mg CW CR CE Cz) (sys : SysIn base) (D_draw : Df P w K mg base 1 "_law_draw" spDraw) (D_pick : Df P w K mg base 2 "_law_pick" (spPick K)) (D_due : DfG P w K mg base CX0 3 "_law_due" spDue) (D_call : MfG P w K mg base (L2.CX P w) 6 CR "__call__" (spCaD CR Cz))
    (D_get : MfG P w K mg base (L2.CX P w) 5 CR "__getitem__" (spGetD CR Cz)) (D_heard : HearD K mg g) (TB : TabT base mg TL (("_law_rows_right" : Str) ++ ".<locals>.") c PT) : FnG P w K mg base CX0 11 f fd ["_law_pen_here", "_law_table", "_law_signs_so"] (spRows TL CR) := by
  refine F.okG sc__law_rows_right (fun vs H Q E h => ?_) (fun A outer s H vs Q E quiet hr h => ?_)
  · obtain ⟨p, l, ns, n, x, d, sl, t, zs, rfl, _⟩ := h
    rfl
  · obtain ⟨p, l, ns, n, x, d, sl, t, zs, rfl, PA, tb, rd, sg, few, k250, hsl, slp, q⟩ := h
    refine ⟨_, (pss_cons (ps_lock (ps_setLc (i := 3) (own := [("_law_one", 14)]) (g := gName 14) (by rfl) sc__law_rows_right.nd rfl rfl (sw_true rfl rfl rfl (by decide +kernel)) (pi_keys (pv 2)) (blkOk_by (own := [("_law_one", 14)]) (N := n__law_rows_right) (sc := defScope s__law_rows_right) (by decide +kernel)) (fun _ _ _ _ _ => (pg_name (i := 14) sc__law_rows_right.nd rfl (.inl rfl))) (fun _ _ _ _ _ => pts_nil) (fun _ _ _ _ _ => (pv 14))))
      (pss_cons (ps_set (i := 4) sc__law_rows_right.nd rfl (.inl rfl) (pe_lst (pa_cons pe_non (pa_cons pe_bl (pa_cons pe_int (pa_cons (pe_un un_neg pe_int) (pa_cons pe_str (pa_cons (pe_tup (pa_cons pe_int pa_nil)) (pa_cons (pe_lst pa_nil) (pa_cons pe_dnewK (pa_cons (pe_op op_pow pe_int pe_int) pa_nil)))))))))))
      (pss_cons (ps_for PassesOwn.never rfl (pi_range1 (by rfl) T.range (pa_cons pe_int pa_nil)) (pg_name (i := 5) sc__law_rows_right.nd rfl (.inl rfl))
        (pss_cons (ps_asg (pe_tup (pa_cons (pe_c D_draw hr (by decide) (by rfl) (pa_cons (pv 0) (pa_cons pe_int pa_nil))) (pa_cons (pe_lst pa_nil) pa_nil))) (pg_tup (by rfl) (pgs_cons (pg_name (i := 6) sc__law_rows_right.nd rfl (.inl rfl)) (pgs_cons (pg_name (i := 7) sc__law_rows_right.nd rfl (.inr rfl)) pgs_nil))))
        (pss_cons (ps_for PassesOwn.never rfl (pi_range1 (by rfl) T.range (pa_cons (pe_c D_draw hr (by decide) (by rfl) (pa_cons (pv 0) (pa_cons pe_int pa_nil))) pa_nil)) (pg_name (i := 8) sc__law_rows_right.nd rfl (.inl rfl))
          (pss_cons (ps_set (i := 9) sc__law_rows_right.nd rfl (.inl rfl) (pe_ix (ix_listK (K := K) rfl) (pe_lst (pa_cons (pv 3) (pa_cons (pe_op op_cat (pe_op op_cat (pv 3) (pv 3)) (pe_lst (pa_cons pe_int (pa_cons pe_int pa_nil)))) (pa_cons (pe_op op_cat (pv 3) (pv 4)) (pa_cons (pe_op op_cat (pe_op op_cat (pv 3) (pv 4)) (pe_lst (pa_cons pe_int pa_nil))) pa_nil))))) (pv 6) (fun _ _ => rfl)))
          (pss_one (ps_expr (pe_bmK (K := K) rfl PySem.F.plainAttrs_list PySem.F.slot_list_append PySem.F.type_list_append mt_append (pv 7) (pa_cons (pe_ifExp (pt_cmpR (op_neNilK (K := K) rfl hr.units0) (pv 9) (pe_lst pa_nil) (nomark _)) (pe_c D_pick hr (by decide) (by rfl) (pa_cons (pv 0) (pa_cons (pv 9) pa_nil))) pe_int) pa_nil))))))
        (pss_cons (ps_set (i := 10) sc__law_rows_right.nd rfl (.inl rfl) (pe_cG D_due quiet pass0 hr (by decide) (by rfl) (pa_cons (pv 7) (pa_cons (pv 2) pa_nil))))
        (pss_cons (ps_set (i := 11) sc__law_rows_right.nd rfl (.inl rfl) (pe_lst (pa_cons (pe_heardG (k := 7) T D_heard TB sys quiet hr (by decide) rfl rfl (by rfl) (lamS_by (sc := defScope s__law_rows_right) (by decide +kernel)) (by rfl) (fun _ _ _ _ _ => rfl) (fun A2 o2 s2 H2 E2 f2 c2 quiet2 hr2 => (pe_callG (pv 1) D_call quiet2 (passTk (takes_of rfl rfl rfl rfl)) hr2 (by decide) (pa_cons (pv 7) pa_nil)))) pa_nil)))
        (pss_cons (ps_expr (pe_bmK (K := K) rfl PySem.F.plainAttrs_list PySem.F.slot_list_append PySem.F.type_list_append mt_append (pv 11) (pa_cons (pe_heardG (k := 7) T D_heard TB sys quiet hr (by decide) rfl rfl (by rfl) (lamS_by (sc := defScope s__law_rows_right) (by decide +kernel)) (by rfl) (fun _ _ _ _ _ => rfl) (fun A2 o2 s2 H2 E2 f2 c2 quiet2 hr2 => (pe_callG (pv 1) D_call quiet2 (passTk (takes_of rfl rfl rfl rfl)) hr2 (by decide) (pa_cons (pe_callTy (call_tuple_ofK (K := K) rfl) (by rfl) T.tuple (by decide +kernel) (pa_cons (pv 7) pa_nil)) pa_nil)))) pa_nil)))
        (pss_one (ps_if (pt_cmpR op_ne (pe_callB (call_reprW sys quiet hr) (by rfl) T.repr (by decide +kernel) (pa_cons (pv 11) pa_nil)) (pe_callB (call_reprW sys quiet hr) (by rfl) T.repr (by decide +kernel) (pa_cons (pe_lst (pa_cons (pv 10) (pa_cons (pv 10) pa_nil))) pa_nil)) (nomark _))
          (pss_one (ps_ret pe_bl))
          pss_nil))))))))
      (pss_cons (ps_asg (pe_tup (pa_cons (pe_c D_pick hr (by decide) (by rfl) (pa_cons (pv 0) (pa_cons (pe_lst (pa_cons pe_non (pa_cons pe_int (pa_cons pe_str (pa_cons pe_dnewK (pa_cons pe_bl (pa_cons (pe_op op_pow pe_int pe_int) pa_nil))))))) pa_nil))) (pa_cons (pe_c D_pick hr (by decide) (by rfl) (pa_cons (pv 0) (pa_cons (pe_lst (pa_cons pe_int (pa_cons pe_int (pa_cons pe_bl (pa_cons pe_non (pa_cons pe_int (pa_cons pe_str pa_nil))))))) pa_nil))) pa_nil))) (pg_tup (by rfl) (pgs_cons (pg_name (i := 12) sc__law_rows_right.nd rfl (.inr rfl)) (pgs_cons (pg_name (i := 13) sc__law_rows_right.nd rfl (.inr rfl)) pgs_nil))))
      (pss_cons (ps_set (i := 11) sc__law_rows_right.nd rfl (.inl rfl) (pe_lst (pa_cons (pe_heardG (k := 7) T D_heard TB sys quiet hr (by decide) rfl rfl (by rfl) (lamS_by (sc := defScope s__law_rows_right) (by decide +kernel)) (by rfl) (fun _ _ _ _ _ => rfl) (fun A2 o2 s2 H2 E2 f2 c2 quiet2 hr2 => (pe_callG (pv 1) D_call quiet2 (passTk (takes_of rfl rfl rfl rfl)) hr2 (by decide) (pa_cons (pv 12) pa_nil)))) pa_nil)))
      (pss_cons (ps_expr (pe_bmK (K := K) rfl PySem.F.plainAttrs_list PySem.F.slot_list_append PySem.F.type_list_append mt_append (pv 11) (pa_cons (pe_heardG (k := 7) T D_heard TB sys quiet hr (by decide) rfl rfl (by rfl) (lamS_by (sc := defScope s__law_rows_right) (by decide +kernel)) (by rfl) (fun _ _ _ _ _ => rfl) (fun A2 o2 s2 H2 E2 f2 c2 quiet2 hr2 => (pe_ixG D_get quiet2 (passTk (takes_of rfl rfl rfl rfl)) hr2 (by decide) (pv 1) (pv 13) (fun _ _ => rfl)))) pa_nil)))
      (pss_one (ps_ret (pe_cmpR (op_eqDK (K := K) rfl hr.units) (pv 11) (pe_lst (pa_cons (pe_tup (pa_cons pe_str (pa_cons pe_str pa_nil))) (pa_cons (pe_tup (pa_cons pe_str (pa_cons (pe_callB (call_reprW sys quiet hr) (by rfl) T.repr (by decide +kernel) (pa_cons (pv 13) pa_nil)) pa_nil))) pa_nil))) (nomark _)))))))))), ?_⟩
    obtain ⟨hd, g⟩ := id sg
    refine ⟨d, _, hd, True.intro, fun od => ⟨_, rfl, d, od, rfl, .inl ⟨_, upd_same, fun D nD => lc_it (walk_keys (d := d) (o := od) (kvs := encS t)) (fun i H2 => H2 = upd (upd H d (.frz od (.dK (encS t)))) D (.lst (nums ((t.take i).map (·.1))))) rfl ?_ ?_ ?_⟩⟩⟩
    · rintro i H2 hi rfl
      rw [upd_ne (ne_of_none upd_same nD)]
      exact upd_same
    · rintro i y H2 H3 hi rfl ⟨eH, k, v, hk, rfl⟩
      rw [eH]
      obtain ⟨hit, rfl, rfl⟩ := encG_at hk
      refine ⟨rfl, _, rfl, _, upd_same, ?_, ?_⟩
      · show (List.map _ _).length < _
        rw [List.length_map, List.length_map, List.length_take, sizeLine_eq]
        omega
      · rw [upd_upd, List.take_add_one, List.getElem?_eq_getElem hit]
        unfold nums
        rw [List.map_append, List.map_append]
        rfl
    rintro H2 rfl
    have dD : d ≠ D := ne_of_none upd_same nD
    rw [encS_len, List.take_of_length_le (Nat.le_refl _)]
    refine ⟨by rw [upd_ne dD]; exact upd_same, ?_⟩
    rw [frz_back hd dD]
    have nD0 : H D = none := by
      rw [upd_ne (Ne.symm dD)] at nD
      exact nD
    have s1 := same_put (s := Same.refl H) (o := .lst (nums (t.map (·.1)))) nD0
    have hkn : upd H D (.lst (nums (t.map (·.1)))) D = _ := upd_same
    have knp := PA.nep nD0
    have PA1 := pen_ext PA (ExtN.of s1)
    have tb1 := tb.ext s1
    generalize upd H D (.lst (nums (t.map (·.1)))) = H1 at s1 hkn PA1 tb1 ⊢
    clear nD dD nD0
    -- odd things
    refine ⟨1, rfl, by show 1 ≤ sizeLine; decide, fun t7 n7 => ⟨Nat.zero_le _, fun le nle => fun dd ndd => ⟨10, 30, rfl, rfl, ⟨by decide, by decide, by decide⟩, by show 9 ≤ sizeLine; decide, fun lo nlo => ?_⟩⟩⟩
    have st := same_put (s := Same.refl H1) (o := .tup [.int 7]) n7
    have sle := same_put (s := Same.refl _) (o := .lst []) nle
    have sdd := same_put (s := Same.refl _) (o := .dK []) ndd
    have slo := same_put (s := Same.refl _) (o := .lst (oddR t7 le dd)) nlo
    have h7 := slo _ _ (sdd _ _ (sle _ _ (show upd H1 t7 (.tup [.int 7]) t7 = _ from upd_same)))
    have hle := slo _ _ (sdd _ _ (show upd (upd H1 t7 (.tup [.int 7])) le (.lst []) le = _ from upd_same))
    have hdd := slo _ _ (show upd (upd (upd H1 t7 (.tup [.int 7])) le (.lst [])) dd (.dK []) dd = _ from upd_same)
    have hlo : upd (upd (upd (upd H1 t7 (.tup [.int 7])) le (.lst [])) dd (.dK [])) lo (.lst (oddR t7 le dd)) lo = _ := upd_same
    have s2 : Same H1 (upd (upd (upd (upd H1 t7 (.tup [.int 7])) le (.lst [])) dd (.dK [])) lo (.lst (oddR t7 le dd))) := fun b o e => slo _ _ (sdd _ _ (sle _ _ (st _ _ e)))
    have PAt := pen_ext PA1 (ExtN.of st)
    have lep := PAt.nep nle
    have PAe := pen_ext PAt (ExtN.of sle)
    have PAd := pen_ext PAe (ExtN.of sdd)
    have lop := PAd.nep nlo
    have PA2 := pen_ext PAd (ExtN.of slo)
    have tb2 := tb1.ext s2
    show gName 4 (.ref lo) _ (upd (upd (upd (upd H1 t7 (.tup [.int 7])) le (.lst [])) dd (.dK [])) lo (.lst (oddR t7 le dd))) _
    generalize upd (upd (upd (upd H1 t7 (.tup [.int 7])) le (.lst [])) dd (.dK [])) lo (.lst (oddR t7 le dd)) = H2 at h7 hle hdd hlo s2 PA2 tb2 ⊢
    have s12 : Same H H2 := fun b o e => s2 _ _ (s1 _ _ e)
    have W2 : RwS CR x d p D lo le t7 dd sl t zs H2 := ⟨s2 _ _ hkn, knp, hlo, lop, h7, hle, lep, hdd, s12 _ _ hsl, slp, rd.same s12, SigA.same sg s12⟩
    clear st sle sdd slo PAt PAe PAd n7 nle ndd nlo h7 hle hdd hlo s2 PA1 tb1 hkn s1 PA tb rd sg hsl slp hd lep lop knp s12
    -- the turns
    refine ⟨_, rfl, by decide, by decide, for_it (walk_range (lo := 0) (n := 4)) (fun i σ H3 => (∃ v5 v6 v7 v8 v9 v10 v11 v12 v13 v14 : Option V, σ = [some (.ref p), some (.ref x), some (.ref d), some (.ref D), some (.ref lo), v5, v6, v7, v8, v9, v10, v11, v12, v13, v14]) ∧ PenAt H3 p l ns (n + 10 + 12 * (4 - i)) ∧ Tabs TL H3 ∧ RwS CR x d p D lo le t7 dd sl t zs H3) ⟨⟨none, none, none, none, none, none, none, none, none, none, rfl⟩, PA2.less (by omega), tb2, W2⟩ (fun _ _ _ _ _ => trivial) ?_ ?_⟩
    · rintro i z σ H30 H3 hi ⟨⟨v5, v6, v7, v8, v9, v10, v11, v12, v13, v14, rfl⟩, PA3, tb3, W3⟩ ⟨rfl, rfl⟩
      have eb : n + 10 + 12 * (4 - i) = (n + 10 + 12 * (4 - (i + 1))) + 12 := by omega
      rw [eb] at PA3
      generalize n + 10 + 12 * (4 - (i + 1)) = m at PA3 ⊢
      -- mood and row
      refine ⟨_, rfl, p, l, ns, m + 11, 4, rfl, PA3, by decide, by decide, fun mo H4 m0 m1 PA4 fr4 => ⟨Nat.zero_le _, fun row nrow => ⟨by show 2 ≤ sizeLine; decide, fun t0 n0 => ⟨t0, _, rfl, .inl (.inl upd_same), rfl, _, _, rfl, _, _, rfl, rfl, ?_⟩⟩⟩⟩
      obtain ⟨j, rfl⟩ : ∃ j : Nat, mo = j := ⟨mo.toNat, by omega⟩
      have W4 := W3.mv PA3.pl (Mv.ofFr fr4)
      have tb4 := tabs_fr tb3 PA3.pl fr4
      have rowp := PA4.nep nrow
      have rowl := PA4.nel nrow
      have knr := ne_of_none W4.hkn nrow
      have lor := ne_of_none W4.hlo nrow
      have ler := ne_of_none W4.hle nrow
      have slr := ne_of_none W4.hsl nrow
      have t7r := ne_of_none W4.h7 nrow
      have ddr := ne_of_none W4.hdd nrow
      have sr := same_put (s := Same.refl H4) (o := .lst []) nrow
      have s0 := same_put (s := sr) (o := .tup [.int ((j : Nat) : Int), .ref row]) n0
      have hrow5 := (same_put (s := Same.refl _) (o := .tup [.int ((j : Nat) : Int), .ref row]) n0) _ _ (show upd H4 row (.lst []) row = _ from upd_same)
      have W5 := W4.mv PA4.pl (Mv.ofSame s0)
      have tb5 := tb4.ext s0
      have PA5 := pen_ext PA4 (ExtN.of s0)
      generalize upd (upd H4 row (.lst [])) t0 (.tup [.int ((j : Nat) : Int), .ref row]) = H5 at hrow5 W5 tb5 PA5 ⊢
      clear sr s0 n0 nrow W4 tb4 PA4 fr4 W3 tb3 PA3
      refine ⟨_, rfl, p, l, ns, m + 10, 6, rfl, PA5, by decide, by decide, fun cnt H6 c0 c1 PA6 fr6 => ⟨cnt, rfl, by omega, by omega, ?_⟩⟩
      have W6 := W5.mv PA5.pl (Mv.ofFr fr6)
      have tb6 := tabs_fr tb5 PA5.pl fr6
      have hrow6 := fr6 _ _ hrow5 rowp
      clear W5 tb5 PA5 fr6 hrow5
      refine for_it (walk_range (lo := 0) (n := cnt.toNat)) (fun k σ H7 => (∃ v8 v9 v10 v11 v12 v13 v14 : Option V, σ = [some (.ref p), some (.ref x), some (.ref d), some (.ref D), some (.ref lo), some (.int (0 + ((i : Nat) : Int))), some (.int ((j : Nat) : Int)), some (.ref row), v8, v9, v10, v11, v12, v13, v14]) ∧ PenAt H7 p l ns (m + 5 + (5 - k)) ∧ Tabs TL H7 ∧ RwS CR x d p D lo le t7 dd sl t zs H7 ∧ ∃ xs ds, H7 row = some (.lst xs) ∧ xs.length = k ∧ Paired (Held H7) xs ds ∧ (∀ v ∈ xs, ∀ a, v = .ref a → a = t7 ∨ a = le ∨ a = dd)) ⟨⟨v8, v9, v10, v11, v12, v13, v14, rfl⟩, PA6.less (by omega), tb6, W6, [], [], hrow6, rfl, .nil, fun v h => absurd h List.not_mem_nil⟩ (fun _ _ _ _ _ => trivial) ?_ ?_
      · rintro k y σ H70 H7 hk ⟨⟨v8, v9, v10, v11, v12, v13, v14, rfl⟩, PA7, tb7, W7, xs, ds, hrow7, lx, prx, npx⟩ ⟨rfl, rfl⟩
        have lk : (nums (t.map (·.1))).length ≤ 30 := by rw [nums_len, List.length_map]; exact few
        have lo9 : (oddR t7 le dd).length = 9 := rfl
        -- the menus
        refine ⟨_, rfl, _, rfl, _, rfl, D, D, _, _, rfl, rfl, W7.hkn, W7.hkn, by rw [sizeLine_eq]; omega, fun k1 nk1 => ⟨by show 2 ≤ sizeLine; decide, fun l2 nl2 => ?_⟩⟩
        have s1 := same_put (s := Same.refl H7) (o := .lst (nums (t.map (·.1)) ++ nums (t.map (·.1)))) nk1
        have s2 := same_put (s := s1) (o := .lst [.int 250, .int 251]) nl2
        have hk1 := (same_put (s := Same.refl _) (o := .lst [.int 250, .int 251]) nl2) _ _ (show upd H7 k1 (.lst (nums (t.map (·.1)) ++ nums (t.map (·.1)))) k1 = _ from upd_same)
        have hl2 : upd (upd H7 k1 (.lst (nums (t.map (·.1)) ++ nums (t.map (·.1))))) l2 (.lst [.int 250, .int 251]) l2 = _ := upd_same
        generalize upd (upd H7 k1 (.lst (nums (t.map (·.1)) ++ nums (t.map (·.1))))) l2 (.lst [.int 250, .int 251]) = Ha at s2 hk1 hl2 ⊢
        refine ⟨k1, l2, _, _, rfl, rfl, hk1, hl2, by rw [List.length_append, sizeLine_eq]; show _ + 2 ≤ _; omega, fun k2 nk2 => ?_⟩
        have s3 := same_put (s := s2) (o := .lst (nums (t.map (·.1)) ++ nums (t.map (·.1)) ++ [.int 250, .int 251])) nk2
        have hk2 : upd Ha k2 (.lst (nums (t.map (·.1)) ++ nums (t.map (·.1)) ++ [.int 250, .int 251])) k2 = _ := upd_same
        generalize upd Ha k2 (.lst (nums (t.map (·.1)) ++ nums (t.map (·.1)) ++ [.int 250, .int 251])) = Hb at s3 hk2 ⊢
        refine ⟨_, rfl, _, rfl, D, lo, _, _, rfl, rfl, s3 _ _ W7.hkn, s3 _ _ W7.hlo, by rw [sizeLine_eq]; omega, fun k3 nk3 => ?_⟩
        have s4 := same_put (s := s3) (o := .lst (nums (t.map (·.1)) ++ oddR t7 le dd)) nk3
        have hk23 := (same_put (s := Same.refl _) (o := .lst (nums (t.map (·.1)) ++ oddR t7 le dd)) nk3) _ _ hk2
        have hk3 : upd Hb k3 (.lst (nums (t.map (·.1)) ++ oddR t7 le dd)) k3 = _ := upd_same
        generalize upd Hb k3 (.lst (nums (t.map (·.1)) ++ oddR t7 le dd)) = Hc at s4 hk3 hk23 ⊢
        refine ⟨_, rfl, _, rfl, D, lo, _, _, rfl, rfl, s4 _ _ W7.hkn, s4 _ _ W7.hlo, by rw [sizeLine_eq]; omega, fun k4 nk4 => ⟨by show 1 ≤ sizeLine; decide, fun l5 nl5 => ?_⟩⟩
        have s5a := same_put (s := Same.refl Hc) (o := .lst (nums (t.map (·.1)) ++ oddR t7 le dd)) nk4
        have s5b := same_put (s := Same.refl _) (o := .lst [V.int 250]) nl5
        have s5 : Same Hc (upd (upd Hc k4 (.lst (nums (t.map (·.1)) ++ oddR t7 le dd))) l5 (.lst [.int 250])) := fun b o e => s5b _ _ (s5a _ _ e)
        have hk4 := s5b _ _ (show upd Hc k4 (.lst (nums (t.map (·.1)) ++ oddR t7 le dd)) k4 = _ from upd_same)
        have hl5 : upd (upd Hc k4 (.lst (nums (t.map (·.1)) ++ oddR t7 le dd))) l5 (.lst [.int 250]) l5 = _ := upd_same
        generalize upd (upd Hc k4 (.lst (nums (t.map (·.1)) ++ oddR t7 le dd))) l5 (.lst [.int 250]) = Hd at s5 hk4 hl5 ⊢
        refine ⟨k4, l5, _, _, rfl, rfl, hk4, hl5, by rw [List.length_append, sizeLine_eq]; show _ + 1 ≤ _; omega, fun k6 nk6 => ⟨by show 4 ≤ sizeLine; decide, fun lm nlm => ?_⟩⟩
        have s6a := same_put (s := Same.refl Hd) (o := .lst (nums (t.map (·.1)) ++ oddR t7 le dd ++ [.int 250])) nk6
        have s6b := same_put (s := Same.refl _) (o := .lst [V.ref D, .ref k2, .ref k3, .ref k6]) nlm
        have hk6 := s6b _ _ (show upd Hd k6 (.lst (nums (t.map (·.1)) ++ oddR t7 le dd ++ [.int 250])) k6 = _ from upd_same)
        have hlm : upd (upd Hd k6 (.lst (nums (t.map (·.1)) ++ oddR t7 le dd ++ [.int 250]))) lm (.lst [V.ref D, .ref k2, .ref k3, .ref k6]) lm = _ := upd_same
        have s6 : Same Hd (upd (upd Hd k6 (.lst (nums (t.map (·.1)) ++ oddR t7 le dd ++ [.int 250]))) lm (.lst [V.ref D, .ref k2, .ref k3, .ref k6])) := fun b o e => s6b _ _ (s6a _ _ e)
        show tVar 6 _ (upd (upd Hd k6 (.lst (nums (t.map (·.1)) ++ oddR t7 le dd ++ [.int 250]))) lm (.lst [V.ref D, .ref k2, .ref k3, .ref k6])) _
        generalize upd (upd Hd k6 (.lst (nums (t.map (·.1)) ++ oddR t7 le dd ++ [.int 250]))) lm (.lst [V.ref D, .ref k2, .ref k3, .ref k6]) = He at s6 hk6 hlm ⊢
        have sE : Same H7 He := fun b o e => s6 _ _ (s5 _ _ (s4 _ _ e))
        have hk2e := s6 _ _ (s5 _ _ hk23)
        have hk3e := s6 _ _ (s5 _ _ hk3)
        obtain ⟨mn, ms, mat, hmn, mnp, msl, sub⟩ : ∃ mn ms, [V.ref D, .ref k2, .ref k3, .ref k6][j]? = some (.ref mn) ∧ He mn = some (.lst ms) ∧ mn ≠ p ∧ ms.length < 1000 ∧ ∀ v ∈ ms, v ∈ nums (t.map (·.1)) ++ oddR t7 le dd ++ [.int 250, .int 251] := by
          obtain ⟨px, hpp⟩ := PA7.pen
          have p2 := ne_of_none (s2 _ _ hpp) nk2
          have p3 := ne_of_none (s3 _ _ hpp) nk3
          have p6 := ne_of_none (s5 _ _ (s4 _ _ hpp)) nk6
          have jj : j = 0 ∨ j = 1 ∨ j = 2 ∨ j = 3 := by omega
          rcases jj with rfl | rfl | rfl | rfl
          · exact ⟨D, _, rfl, sE _ _ W7.hkn, W7.knp, by omega, fun v h => List.mem_append_left _ (List.mem_append_left _ h)⟩
          · refine ⟨k2, _, rfl, hk2e, Ne.symm p2, by rw [List.length_append, List.length_append]; show _ + 2 < _; omega, fun v h => ?_⟩
            rcases List.mem_append.mp h with h | h
            · rcases List.mem_append.mp h with h | h <;> exact List.mem_append_left _ (List.mem_append_left _ h)
            · exact List.mem_append_right _ h
          · exact ⟨k3, _, rfl, hk3e, Ne.symm p3, by rw [List.length_append]; omega, fun v h => List.mem_append_left _ h⟩
          · refine ⟨k6, _, rfl, hk6, Ne.symm p6, by rw [List.length_append, List.length_append]; show _ + 1 < _; omega, fun v h => ?_⟩
            rcases List.mem_append.mp h with h | h
            · exact List.mem_append_left _ h
            · rw [List.mem_singleton.mp h]
              exact List.mem_append_right _ (by simp)
        refine ⟨_, rfl, lm, _, _, _, rfl, rfl, SqL.of hlm, atI_nat mat, ?_⟩
        have WE := W7.mv PA7.pl (Mv.ofSame sE)
        have PAE := pen_ext PA7 (ExtN.of sE)
        have tbE := tb7.ext sE
        have hrowE := sE _ _ hrow7
        have prE := pair_imp prx fun _ _ z => z.same sE
        clear s1 s2 s3 s4 s5 s5a s5b s6 s6a s6b hk1 hl2 hk2 hk3 hk4 hl5 hk6 hk23 nk1 nl2 nk2 nk3 nk4 nl5 nk6 nlm hk2e hk3e hlm sE PA7 tb7 W7 hrow7 prx
        -- one more
        refine ⟨_, rfl, .inl ⟨rfl, _, SqL.of hrowE⟩, ?_⟩
        refine via (fun v H8 => v ∈ nums (t.map (·.1)) ++ oddR t7 le dd ++ [.int 250, .int 251] ∧ PenAt H8 p l ns (m + 5 + (5 - (k + 1))) ∧ Tabs TL H8 ∧ RwS CR x d p D lo le t7 dd sl t zs H8 ∧ H8 row = some (.lst xs) ∧ Paired (Held H8) xs ds) (fun R' hR => ?_) (fun v H8 z => ?_)
        · refine ⟨_, rfl, Nat.zero_le _, fun o no => ⟨mn, o, ms, rfl, rfl, ?_, SqL.of upd_same, ?_⟩⟩
          · exact SqL.of (by rw [upd_ne (ne_of_none hmn no)]; exact hmn)
          have so := same_put (s := Same.refl He) (o := .lst []) no
          have PAo := pen_ext PAE (ExtN.of so)
          have tbo := tbE.ext so
          have Wo := WE.mv PAE.pl (Mv.ofSame so)
          have ro := so _ _ hrowE
          have po := pair_imp prE fun _ _ z => z.same so
          have mo := so _ _ hmn
          generalize upd He o (.lst []) = Hf at PAo tbo Wo ro po mo ⊢
          cases ems : ms with
          | nil => exact ⟨false, rfl, iteF (hR _ _ ⟨List.mem_append_right _ (by simp), PAo.less (by omega), tbo, Wo, ro, po⟩)⟩
          | cons a r =>
            rw [← ems]
            refine ⟨true, by rw [ems]; rfl, iteT ?_⟩
            refine ⟨_, rfl, _, rfl, p, l, mn, ns, m + 5 + (5 - (k + 1)), ms, rfl, PAo.less (by omega), SqL.of mo, by rw [ems]; simp, msl, fun H9 f9 => SqL.of (f9 _ _ mo mnp), fun v H9 hv PA9 fr9 => hR v H9 ⟨sub v hv, PA9, tabs_fr tbo PAo.pl fr9, Wo.mv PAo.pl (Mv.ofFr fr9), fr9 _ _ ro rowp, ?_⟩⟩
            exact pairs_held po npx (fun a ha => np3 Wo PAo.pl ha) (Mv.ofFr fr9)
        · obtain ⟨hv, PA8, tb8, W8, hrow8, pr8⟩ := z
          obtain ⟨dv, hdv, ndv⟩ := pool W8 hv
          have r3 : ∀ a, a = t7 ∨ a = le ∨ a = dd → a ≠ row := fun a ha => by
            rcases ha with rfl | rfl | rfl
            · exact t7r
            · exact ler
            · exact ddr
          have gm : Mv row H8 (upd H8 row (.lst (xs ++ [v]))) := grow_mv
          refine ⟨row, xs, v, rfl, rfl, hrow8, by rw [lx, sizeLine_eq]; omega, ⟨⟨_, _, _, _, _, _, _, rfl⟩, PA8.other rowp rowl, tabs_fr tb8 ⟨_, hrow8⟩ Fr.at, W8.row (.inr ⟨⟨_, hrow8⟩, knr, lor, ler, slr⟩), xs ++ [v], ds ++ [dv], upd_same, by rw [List.length_append, lx]; rfl, ?_, fun u hu a e => ?_⟩⟩
          · exact (pairs_held pr8 npx r3 gm).snoc (held_mv hdv (fun a e => r3 a (ndv a e)) gm)
          · rcases List.mem_append.mp hu with h | h
            · exact npx u h a e
            · rw [List.mem_singleton.mp h] at e
              exact ndv a e
      · rintro σ H7 ⟨⟨v8, v9, v10, v11, v12, v13, v14, rfl⟩, PA7, tb7, W7, xs, ds, hrow7, lx, prx, npx⟩
        have eds := pair_len prx
        have d5 : ds.length ≤ 5 := by omega
        have ok : OkU (dueR t ds) := due_ok (H := H7) g (fun d hd => by
          obtain ⟨y, _, r⟩ := pair_right prx d hd
          exact r.ni) (by omega)
        have PA7' : PenAt H7 p l ns m := PA7.less (by omega)
        clear PA7 lx
        -- what is due
        refine ⟨_, rfl, _, rfl, row, d, xs, ds, t, rfl, hrow7, prx, by omega, W7.sg, fun u H8 s8 hu => ?_⟩
        have W8 := W7.mv PA7'.pl (Mv.ofSame s8)
        have PA8 := pen_ext PA7' (ExtN.of s8)
        have tb8 := tb7.ext s8
        have hrow8 := s8 _ _ hrow7
        have pr8 := pair_imp prx fun _ _ z => z.same s8
        clear W7 PA7' tb7 hrow7 prx s8
        obtain ⟨r, er⟩ : ∃ r, r = dueR t ds := ⟨_, rfl⟩
        rw [← er] at hu ok
        have bok : ∀ b, r = .inl b → BadOk b := fun b e => by
          rw [e] at ok
          exact ok
        -- heard of the list
        refine heard_end (oR r) (PR r) tb8 (fun H9 E2 R e9 tb9 hE hR => ?_) (fun w1 H9 e9 tb9 hw1 => ?_)
        · have W9 := W8.mv PA8.pl (Mv.ofExt e9)
          obtain ⟨⟨dx, b, hx, _⟩, _⟩ := id W9.rd
          exact ⟨_, rfl, x, rfl, _, rfl, ⟨dx, _, hx⟩, x, t, _, rfl, W9.rd, .inr ⟨row, ds, rfl, ⟨⟨xs, .inl (e9 _ _ hrow8 (fun _ z => nomatch z)), pairs_held pr8 npx (fun a ha => np3 W8 PA8.pl ha) (Mv.ofExt e9)⟩, by omega⟩, fun b eb => hE b (bok b (er.trans eb)) (by rw [er, eb]; rfl), fun s es H2 s2 => hR (by rw [er, es]; rfl) _ _ s2 fun H3 s3 => ⟨s, er.trans es, rfl⟩⟩⟩
        have hw1 := hru_of hw1
        have W9 := W8.mv PA8.pl (Mv.ofExt e9)
        have PA9 := pen_ext PA8 e9
        have hrow9 := e9 _ _ hrow8 (fun _ z => nomatch z)
        have pr9 := pairs_held pr8 npx (fun a ha => np3 W8 PA8.pl ha) (Mv.ofExt e9)
        have hu9 := hru_ext hu e9
        refine ⟨by show 1 ≤ sizeLine; decide, fun hl nhl => ?_⟩
        have s10 := same_put (s := Same.refl H9) (o := .lst [w1]) nhl
        have W10 := W9.mv PA9.pl (Mv.ofSame s10)
        have PA10 := pen_ext PA9 (ExtN.of s10)
        have tb10 := tb9.ext s10
        have hrow10 := s10 _ _ hrow9
        have pr10 := pair_imp pr9 fun _ _ z => z.same s10
        have hu10 := hru_ext hu9 (ExtN.of s10)
        have hw10 := hru_ext hw1 (ExtN.of s10)
        have hl10 : upd H9 hl (.lst [w1]) hl = some (.lst [w1]) := upd_same
        have hlp := PA9.nep nhl
        have hll := PA9.nel nhl
        have hlu : ∀ a, u = .ref a → a ≠ hl := fun a e => by
          obtain ⟨a2, o, e2, ho, _⟩ := hru_ref hu9
          rw [e] at e2
          cases e2
          exact ne_of_none ho nhl
        have hlw : ∀ a, w1 = .ref a → a ≠ hl := fun a e => by
          obtain ⟨a2, o, e2, ho, _⟩ := hru_ref hw1
          rw [e] at e2
          cases e2
          exact ne_of_none ho nhl
        have knh := ne_of_none W9.hkn nhl
        have loh := ne_of_none W9.hlo nhl
        have leh := ne_of_none W9.hle nhl
        have slh := ne_of_none W9.hsl nhl
        generalize upd H9 hl (.lst [w1]) = H10 at W10 PA10 tb10 hrow10 pr10 hu10 hw10 hl10 ⊢
        clear W8 PA8 tb8 hrow8 pr8 hu W9 PA9 tb9 hrow9 pr9 hu9 hw1 s10 nhl e9
        -- heard of the tuple
        refine ⟨_, rfl, .inl ⟨rfl, _, SqL.of hl10⟩, ?_⟩
        refine heard_end (oR r) (PR r) tb10 (fun H11 E2 R e11 tb11 hE hR => ?_) (fun w2 H11 e11 tb11 hw2 => ?_)
        · have W11 := W10.mv PA10.pl (Mv.ofExt e11)
          have pr11 := pairs_held pr10 npx (fun a ha => np3 W10 PA10.pl ha) (Mv.ofExt e11)
          refine ⟨_, rfl, x, rfl, _, rfl, row, xs, rfl, .inl ⟨SqL.of (e11 _ _ hrow10 (fun _ z => nomatch z)), fun tl ntl => ?_⟩⟩
          have st := same_put (s := Same.refl H11) (o := .tup xs) ntl
          have W12 := W11.mv (pen_ext PA10 e11).pl (Mv.ofSame st)
          obtain ⟨⟨dx, b, hx, _⟩, _⟩ := id W12.rd
          exact ⟨⟨dx, _, hx⟩, x, t, _, rfl, W12.rd, .inr ⟨tl, ds, rfl, ⟨⟨xs, .inr upd_same, pair_imp pr11 fun _ _ z => z.same st⟩, by omega⟩, fun b eb => (hE b (bok b (er.trans eb)) (by rw [er, eb]; rfl)).same st, fun s es H2 s2 => hR (by rw [er, es]; rfl) _ _ (fun b o e => s2 _ _ (st _ _ e)) fun H3 s3 => ⟨s, er.trans es, rfl⟩⟩⟩
        have hw2 := hru_of hw2
        have W11 := W10.mv PA10.pl (Mv.ofExt e11)
        have PA11 := pen_ext PA10 e11
        have hl11 := e11 _ _ hl10 (fun _ z => nomatch z)
        have hw2n : ∀ a, w2 = .ref a → a ≠ hl := fun a e => by
          obtain ⟨a2, o, e2, ho, nt⟩ := hru_ref hw2
          rw [e] at e2
          cases e2
          intro z
          cases r with
          | inl b =>
            obtain ⟨t2, e3, h3⟩ := hw2
            cases e.symm.trans e3
            rw [z, hl11] at h3
            cases h3
          | inr s =>
            obtain ⟨t2, e3, h3⟩ := hw2
            cases e.symm.trans e3
            rw [z, hl11] at h3
            have e4 := HO.lst.inj (Option.some.inj h3)
            rw [List.cons.injEq] at e4
            obtain ⟨a1, o1, e5, _⟩ := hru_ref hw10
            rw [e5] at e4
            exact absurd e4.1 (fun z => nomatch z)
        refine ⟨hl, [w1], w2, rfl, rfl, hl11, by show 1 < sizeLine; decide, ?_⟩
        have gm : Mv hl H11 (upd H11 hl (.lst ([w1] ++ [w2]))) := grow_mv
        have PA12 := PA11.other (o := .lst ([w1] ++ [w2])) hlp hll
        have tb12 : Tabs TL (upd H11 hl (.lst ([w1] ++ [w2]))) := tabs_fr tb11 ⟨_, hl11⟩ Fr.at
        have W12 := W11.row (o := .lst ([w1] ++ [w2])) (.inr ⟨⟨_, hl11⟩, knh, loh, leh, slh⟩)
        have hu12 := hru_mv (hru_ext hu10 e11) gm hlu
        have hw12 := hru_mv (hru_ext hw10 e11) gm hlw
        have hw22 := hru_mv hw2 gm hw2n
        have hl12 : upd H11 hl (.lst ([w1] ++ [w2])) hl = some (.lst [w1, w2]) := upd_same
        dsimp only
        generalize upd H11 hl (.lst ([w1] ++ [w2])) = H12 at PA12 tb12 W12 hu12 hw12 hw22 hl12 ⊢
        clear gm W10 PA10 tb10 hrow10 pr10 hu10 hw10 hl10 W11 PA11 tb11 hl11 hw2 hw2n e11 hlu hlw
        -- told alike
        refine ⟨_, rfl, _, _, rfl, .lst hl12 (.cons (hru_py hw12) (.cons (hru_py hw22) .nil)), pair_tells ok ok, _, rfl, _, rfl, by show 2 ≤ sizeLine; decide, fun l2 nl2 => ?_⟩
        have s13 := same_put (s := Same.refl H12) (o := .lst [u, u]) nl2
        have hu13 := hru_ext hu12 (ExtN.of s13)
        refine ⟨_, _, rfl, .lst upd_same (.cons (hru_py hu13) (.cons (hru_py hu13) .nil)), pair_tells ok ok, rfl, false, by rw [decide_eq_true rfl]; rfl, iteF ?_⟩
        exact ⟨⟨_, _, _, _, _, _, _, _, _, _, rfl⟩, pen_ext PA12 (ExtN.of s13), tb12.ext s13, W12.mv PA12.pl (Mv.ofSame s13)⟩
    · rintro σ H3 ⟨⟨v5, v6, v7, v8, v9, v10, v11, v12, v13, v14, rfl⟩, PA3, tb3, W3⟩
      -- two odd things
      refine ⟨_, rfl, fun d2 nd2 => ⟨10, 30, rfl, rfl, ⟨by decide, by decide, by decide⟩, by show 6 ≤ sizeLine; decide, fun l1 nl1 => ?_⟩⟩
      have sd := same_put (s := Same.refl H3) (o := .dK []) nd2
      have sl1 := same_put (s := Same.refl _) (o := .lst [V.non, .int 0, .str "ab", .ref d2, .bl true, .int (10 ^ 30)]) nl1
      have s4 : Same H3 (upd (upd H3 d2 (.dK [])) l1 (.lst [V.non, .int 0, .str "ab", .ref d2, .bl true, .int (10 ^ 30)])) := fun b o e => sl1 _ _ (sd _ _ e)
      have hd2 := sl1 _ _ (show upd H3 d2 (.dK []) d2 = _ from upd_same)
      have hl1 : upd (upd H3 d2 (.dK [])) l1 (.lst [V.non, .int 0, .str "ab", .ref d2, .bl true, .int (10 ^ 30)]) l1 = _ := upd_same
      have d2p := PA3.nep nd2
      have PAd := pen_ext PA3 (ExtN.of sd)
      have l1p := PAd.nep nl1
      have PA4 := pen_ext PA3 (ExtN.of s4)
      have tb4 := tb3.ext s4
      have W4 := W3.mv PA3.pl (Mv.ofSame s4)
      show spPick K ([V.ref p, V.ref l1] ++ []) (upd (upd H3 d2 (.dK [])) l1 (.lst [V.non, .int 0, .str "ab", .ref d2, .bl true, .int (10 ^ 30)])) _ E0
      generalize upd (upd H3 d2 (.dK [])) l1 (.lst [V.non, .int 0, .str "ab", .ref d2, .bl true, .int (10 ^ 30)]) = H4 at hd2 hl1 PA4 tb4 W4 ⊢
      clear sd sl1 s4 nd2 nl1 PAd PA3 tb3 W3
      refine ⟨p, l, l1, ns, n + 9, _, rfl, PA4.less (by omega), SqL.of hl1, by show 0 < 6; decide, by show 6 < 1000; decide, fun H5 f5 => SqL.of (f5 _ _ hl1 l1p), fun vw H5 hvw PA5 fr5 => ?_⟩
      obtain ⟨dw, hw5, wp, wn⟩ : ∃ dw, Held H5 vw dw ∧ (∀ a, vw = .ref a → a ≠ p) ∧ noSeq dw = true := by
        simp only [List.mem_cons, List.not_mem_nil, or_false] at hvw
        rcases hvw with rfl | rfl | rfl | rfl | rfl | rfl
        · exact ⟨_, held_non, np_flat (fun _ z => nomatch z), rfl⟩
        · exact ⟨_, held_int (nice_nat 0 (by decide)), np_flat (fun _ z => nomatch z), rfl⟩
        · exact ⟨_, held_str (by decide +kernel), np_flat (fun _ z => nomatch z), rfl⟩
        · exact ⟨_, held_dict (fr5 _ _ hd2 d2p), np_ref d2p, rfl⟩
        · exact ⟨_, held_bl true, np_flat (fun _ z => nomatch z), rfl⟩
        · exact ⟨_, held_int (nice_int (by decide +kernel) (by decide +kernel) (by decide +kernel)), np_flat (fun _ z => nomatch z), rfl⟩
      have W5 := W4.mv PA4.pl (Mv.ofFr fr5)
      have tb5 := tabs_fr tb4 PA4.pl fr5
      clear hd2 hl1 d2p l1p hvw PA4 tb4 W4 fr5
      refine ⟨_, rfl, by show 6 ≤ sizeLine; decide, fun l3 nl3 => ?_⟩
      have s6 := same_put (s := Same.refl H5) (o := .lst [V.int 250, .int 252, .bl true, .non, .int 256, .str "a"]) nl3
      have hl3 : upd H5 l3 (.lst [V.int 250, .int 252, .bl true, .non, .int 256, .str "a"]) l3 = _ := upd_same
      have l3p := PA5.nep nl3
      have PA6 := pen_ext PA5 (ExtN.of s6)
      have tb6 := tb5.ext s6
      have W6 := W5.mv PA5.pl (Mv.ofSame s6)
      have hw6 := hw5.same s6
      show spPick K ([V.ref p, V.ref l3] ++ []) (upd H5 l3 (.lst [V.int 250, .int 252, .bl true, .non, .int 256, .str "a"])) _ E0
      generalize upd H5 l3 (.lst [V.int 250, .int 252, .bl true, .non, .int 256, .str "a"]) = H6 at hl3 PA6 tb6 W6 hw6 ⊢
      clear s6 nl3 PA5 tb5 W5 hw5
      refine ⟨p, l, l3, ns, n + 8, _, rfl, PA6, SqL.of hl3, by show 0 < 6; decide, by show 6 < 1000; decide, fun H7 f7 => SqL.of (f7 _ _ hl3 l3p), fun vl H7 hvl PA7 fr7 => ?_⟩
      have no : ∀ m : Nat, 250 ≤ m → lookT t m = none := fun m hm => by
        cases e : lookT t m with
        | none => rfl
        | some z =>
          have := k250 _ (look_in e)
          omega
      obtain ⟨dl, hl7, lp, ln⟩ : ∃ dl, (∀ H, Held H vl dl) ∧ (∀ a, vl = .ref a → a ≠ p) ∧ lookD t dl = none := by
        simp only [List.mem_cons, List.not_mem_nil, or_false] at hvl
        rcases hvl with rfl | rfl | rfl | rfl | rfl | rfl
        · exact ⟨_, fun _ => held_int (nice_nat 250 (by decide)), np_flat (fun _ z => nomatch z), (lookD_nat t 250).trans (no 250 (by decide))⟩
        · exact ⟨_, fun _ => held_int (nice_nat 252 (by decide)), np_flat (fun _ z => nomatch z), (lookD_nat t 252).trans (no 252 (by decide))⟩
        · exact ⟨_, fun _ => held_bl true, np_flat (fun _ z => nomatch z), rfl⟩
        · exact ⟨_, fun _ => held_non, np_flat (fun _ z => nomatch z), rfl⟩
        · exact ⟨_, fun _ => held_int (nice_nat 256 (by decide)), np_flat (fun _ z => nomatch z), (lookD_nat t 256).trans (no 256 (by decide))⟩
        · exact ⟨_, fun _ => held_str (by decide +kernel), np_flat (fun _ z => nomatch z), rfl⟩
      have W7 := W6.mv PA6.pl (Mv.ofFr fr7)
      have tb7 := tabs_fr tb6 PA6.pl fr7
      have hw7 := held_mv hw6 wp (Mv.ofFr fr7)
      clear hl3 l3p hvl PA6 tb6 W6 hw6 fr7 no
      refine ⟨by show 2 ≤ sizeLine; decide, fun t0 n0 => ⟨t0, _, rfl, .inl (.inl upd_same), rfl, _, _, rfl, _, _, rfl, rfl, ?_⟩⟩
      have s8 := same_put (s := Same.refl H7) (o := .tup [vw, vl]) n0
      have PA8 := pen_ext PA7 (ExtN.of s8)
      have tb8 := tb7.ext s8
      have W8 := W7.mv PA7.pl (Mv.ofSame s8)
      have hw8 := hw7.same s8
      generalize upd H7 t0 (.tup [vw, vl]) = H8 at PA8 tb8 W8 hw8 ⊢
      clear s8 n0 PA7 tb7 W7 hw7
      have ok1 : OkU (.inl (.one 0 (.str "numbers"))) := ⟨by decide, nice_numbers⟩
      have ok2 : OkU (.inl (.one 2 dl)) := ⟨by decide, (hl7 H8).ni⟩
      -- no row at all
      refine heard_end (some (.one 0 (.str "numbers"))) (PR (.inl (.one 0 (.str "numbers")))) tb8 (fun H9 E2 R e9 tb9 hE hR => ?_) (fun w1 H9 e9 tb9 hw1 => ?_)
      · have W9 := W8.mv PA8.pl (Mv.ofExt e9)
        obtain ⟨⟨dx, b, hx, _⟩, _⟩ := id W9.rd
        exact ⟨_, rfl, x, rfl, _, rfl, ⟨dx, _, hx⟩, x, t, _, rfl, W9.rd, .inl ⟨dw, held_mv hw8 wp (Mv.ofExt e9), wn, hE _ ok1 rfl⟩⟩
      have hw1 : HrU H9 w1 (.inl (.one 0 (.str "numbers"))) := hw1
      have W9 := W8.mv PA8.pl (Mv.ofExt e9)
      have PA9 := pen_ext PA8 e9
      refine ⟨by show 1 ≤ sizeLine; decide, fun hl nhl => ?_⟩
      have s10 := same_put (s := Same.refl H9) (o := .lst [w1]) nhl
      have W10 := W9.mv PA9.pl (Mv.ofSame s10)
      have PA10 := pen_ext PA9 (ExtN.of s10)
      have tb10 := tb9.ext s10
      have hw10 := hru_ext hw1 (ExtN.of s10)
      have hl10 : upd H9 hl (.lst [w1]) hl = some (.lst [w1]) := upd_same
      have hlp := PA9.nep nhl
      have hll := PA9.nel nhl
      have hlw : ∀ a, w1 = .ref a → a ≠ hl := fun a e => by
        obtain ⟨a2, o, e2, ho, _⟩ := hru_ref hw1
        rw [e] at e2
        cases e2
        exact ne_of_none ho nhl
      have slh := ne_of_none W9.hsl nhl
      generalize upd H9 hl (.lst [w1]) = H10 at W10 PA10 tb10 hw10 hl10 ⊢
      clear W8 PA8 tb8 hw8 W9 PA9 tb9 hw1 s10 nhl e9
      -- no sign
      refine ⟨_, rfl, .inl ⟨rfl, _, SqL.of hl10⟩, ?_⟩
      refine heard_end (some (.one 2 dl)) (PR (.inl (.one 2 dl))) tb10 (fun H11 E2 R e11 tb11 hE hR => ?_) (fun w2 H11 e11 tb11 hw2 => ?_)
      · have W11 := W10.mv PA10.pl (Mv.ofExt e11)
        obtain ⟨⟨dx, b, hx, _⟩, _⟩ := id W11.rd
        exact ⟨_, rfl, _, rfl, x, dx, _, rfl, hx, x, t, vl, dl, rfl, W11.rd, hl7 _, .inl ⟨ln, hE _ ok2 rfl⟩⟩
      have hw2 : HrU H11 w2 (.inl (.one 2 dl)) := hw2
      have PA11 := pen_ext PA10 e11
      have hl11 := e11 _ _ hl10 (fun _ z => nomatch z)
      have hsl11 := e11 _ _ W10.hsl (fun _ z => nomatch z)
      have hw2n : ∀ a, w2 = .ref a → a ≠ hl := fun a e => by
        obtain ⟨t2, e3, h3⟩ := hw2
        cases e.symm.trans e3
        exact ne_of h3 hl11 (fun z => nomatch z)
      refine ⟨hl, [w1], w2, rfl, rfl, hl11, by show 1 < sizeLine; decide, ?_⟩
      have gm : Mv hl H11 (upd H11 hl (.lst ([w1] ++ [w2]))) := grow_mv
      have PA12 := PA11.other (o := .lst ([w1] ++ [w2])) hlp hll
      have tb12 : Tabs TL (upd H11 hl (.lst ([w1] ++ [w2]))) := tabs_fr tb11 ⟨_, hl11⟩ Fr.at
      have hw12 := hru_mv (hru_ext hw10 e11) gm hlw
      have hw22 := hru_mv hw2 gm hw2n
      have hsl12 := gm _ _ hsl11 slh (fun _ z => nomatch z)
      have hl12 : upd H11 hl (.lst ([w1] ++ [w2])) hl = some (.lst [w1, w2]) := upd_same
      dsimp only
      generalize upd H11 hl (.lst ([w1] ++ [w2])) = H12 at PA12 tb12 hw12 hw22 hsl12 hl12 ⊢
      clear gm W10 PA10 tb10 hw10 hl10 PA11 tb11 hl11 hw2 hw2n e11 hlw hsl11
      refine ⟨_, rfl, by show 2 ≤ sizeLine; decide, fun t1 nt1 => ⟨_, rfl, vl, dl, rfl, (hl7 _).pw, (hl7 H12).ni.te, by show 2 ≤ sizeLine; decide, fun t2 nt2 => ⟨by show 2 ≤ sizeLine; decide, fun l2 nl2 => ?_⟩⟩⟩
      have st1 := same_put (s := Same.refl H12) (o := .tup [.str "table", .str "'numbers'"]) nt1
      have st2 := same_put (s := Same.refl _) (o := .tup [.str "code", .str dl.shown]) nt2
      have sl2 := same_put (s := Same.refl _) (o := .lst [V.ref t1, .ref t2]) nl2
      have h1 := sl2 _ _ (st2 _ _ (show upd H12 t1 (.tup [.str "table", .str "'numbers'"]) t1 = _ from upd_same))
      have h2 := sl2 _ _ (show upd (upd H12 t1 (.tup [.str "table", .str "'numbers'"])) t2 (.tup [.str "code", .str dl.shown]) t2 = _ from upd_same)
      have h3 : upd (upd (upd H12 t1 (.tup [.str "table", .str "'numbers'"])) t2 (.tup [.str "code", .str dl.shown])) l2 (.lst [V.ref t1, .ref t2]) l2 = _ := upd_same
      have s13 : Same H12 (upd (upd (upd H12 t1 (.tup [.str "table", .str "'numbers'"])) t2 (.tup [.str "code", .str dl.shown])) l2 (.lst [V.ref t1, .ref t2])) := fun b o e => sl2 _ _ (st2 _ _ (st1 _ _ e))
      show rEqD K (V.ref hl) (V.ref l2) (upd (upd (upd H12 t1 (.tup [.str "table", .str "'numbers'"])) t2 (.tup [.str "code", .str dl.shown])) l2 (.lst [V.ref t1, .ref t2])) Q
      generalize upd (upd (upd H12 t1 (.tup [.str "table", .str "'numbers'"])) t2 (.tup [.str "code", .str dl.shown])) l2 (.lst [V.ref t1, .ref t2]) = H13 at h1 h2 h3 s13 ⊢
      have e1 : HrU H13 (.ref t1) (.inl (.one 0 (.str "numbers"))) := ⟨t1, rfl, by
        rw [h1]
        show _ = some (HO.tup [V.str "table", .str (PyData.str "numbers").shown])
        rw [show (PyData.str "numbers").shown = ("'numbers'" : Str) from by decide +kernel]⟩
      have e2 : HrU H13 (.ref t2) (.inl (.one 2 dl)) := ⟨t2, rfl, h2⟩
      refine eq_same (d := .list ([.inl (.one 0 (.str "numbers")), .inl (.one 2 dl)].map dU)) (.lst (SqL.of (s13 _ _ hl12)) (.cons (hru_dp (hru_ext hw12 (ExtN.of s13))) (.cons (hru_dp (hru_ext hw22 (ExtN.of s13))) .nil))) (.lst (SqL.of h3) (.cons (hru_dp e1) (.cons (hru_dp e2) .nil))) (list_shaped fun r hr => ?_) (q _ ((pen_ext PA12 (ExtN.of s13)).less (by omega)) (tb12.ext s13) (s13 _ _ hsl12))
      simp only [List.mem_cons, List.not_mem_nil, or_false] at hr
      rcases hr with rfl | rfl
      · exact ok1
      · exact ok2
end
end V8

set_option Elab.async false
set_option linter.all false
set_option maxRecDepth 100000
set_option maxHeartbeats 4000000
/-! dict(a list of pairs), the keys of any flat kind or tuples of such. -/
namespace MX
open PySem PySem.Spec PySem.SeqAt PyProof.Rows L2
abbrev Tri := NestedKey × Value × Value
def allN (acc : List Tri) (rest : List Tri) : List Tri := rest.foldl (fun a q => storeN a q.1 q.2.1 q.2.2) acc
theorem storeN_len (xs : List Tri) (k : NestedKey) (v u : Value) : (storeN xs k v u).length ≤ xs.length + 1 := by
  unfold storeN
  by_cases h : k ∈ xs.map (·.1)
  · rw [if_pos h, List.length_map]
    omega
  · rw [if_neg h, List.length_append]
    exact Nat.le_refl _
section
variable {prog : Program} {w : World} {A : Around} {E : Value → Shared → Prop}
theorem DictN.moved {h h' : Heap} {d : Addr} {xs : List Tri} (m : DictN w h d xs) (hs : ∀ b o, h.get? b = some o → (∀ vs, o.data ≠ .fields vs) → h'.get? b = some o) : DictN w h' d xs := by
  obtain ⟨o, es, ep, ho, hc, hd, he, his, nd⟩ := m
  refine ⟨o, es, ep, hs _ _ ho (fun vs z => by rw [hd] at z; cases z), hc, hd, he, fun x hx => ⟨NestedIs.at (fun b ob vs n hb hc => hs b ob hb fun vs2 z => by rw [hc] at z; cases z) x.1 _ (his x hx).1, (his x hx).2⟩, nd⟩
theorem DictN.new (h : Heap) : DictN w (h.push { cls := .type "dict", data := .dict #[] }) h.objs.size [] := ⟨_, #[], 0, Heap.get?_push_size _ rfl, ⟨rfl, rfl, rfl⟩, rfl, rfl, (fun _ z => nomatch z), List.nodup_nil⟩
/-- what a pair of the list is -/
def PrN (h : Heap) (b : Addr) (q : Tri) : Prop := IsTup h b #[q.2.1, q.2.2] ∧ NestedIs h q.1 q.2.1 ∧ q.1.depth ≤ 8
theorem PrN.moved {h h' : Heap} {b : Addr} {q : Tri} (p : PrN h b q) (hs : ∀ b o, h.get? b = some o → (∀ vs, o.data ≠ .fields vs) → h'.get? b = some o) : PrN h' b q := by
  obtain ⟨⟨o, ho, hc, n, hd⟩, i, d⟩ := p
  exact ⟨⟨o, hs _ _ ho (fun vs z => by rw [hd] at z; cases z), hc, n, hd⟩, NestedIs.at (fun b ob vs n hb hc => hs b ob hb fun vs2 z => by rw [hc] at z; cases z) _ _ i, d⟩
theorem PrN.put {h h' : Heap} {d b : Addr} {q : Tri} {o : Obj} {es : Array DictEntry} {ep : Nat} (p : PrN h b q) (ho : h.get? d = some o) (hd : o.data = .dict es ep) (hs : Heap.SameBut d h h') : PrN h' b q := by
  have mv : ∀ c oc vs n, h.get? c = some oc → oc.data = .seq vs n → h'.get? c = some oc := fun c oc vs n hc hdc => hs.extBut c oc (fun e => by
    subst e
    rw [ho] at hc
    cases hc
    rw [hd] at hdc
    cases hdc) hc
  obtain ⟨⟨o2, ho2, hc2, n2, hd2⟩, i, dp⟩ := p
  exact ⟨⟨o2, mv _ _ _ _ ho2 hd2, hc2, n2, hd2⟩, NestedIs.at (fun b ob vs n hb hc => mv b ob vs n hb hc) _ _ i, dp⟩
/-- the walk over the pairs -/
theorem updN_loop {R : Result → Shared → Prop} {S I l : Addr} {items : Array Value} {res : Value} (hh : A.handled = none) (hlI : l ≠ I) (hSI : S ≠ I) (hSl : S ≠ l) (hu : A.in1.units + 8 < cLine) :
    ∀ (rest : List Tri) (i : Nat) (acc : List Tri) (ix : Int) (t : Tok) (s : Shared), items.size = i + rest.length → acc.length + rest.length ≤ sizeLine →
      (∀ (j : Nat) (q : Tri), rest[j]? = some q → ∃ b : Addr, items[i + j]? = some (.ref b) ∧ b ≠ S ∧ b ≠ I ∧ PrN s.heap b q) →
      s.heap.IsListIter I l i → s.heap.IsList l items → DictN w s.heap S acc →
      (∀ h' tk, DictN w h' S (allN acc rest) → (∀ b o, b ≠ S → b ≠ I → s.heap.get? b = some o → h'.get? b = some o) → R (.ok (.ret res)) { s with heap := h', toks := tk }) →
      codeAny (model prog w) A (.builtin "dict.update.loop" ⟨[.ref S, .ref I, .int ix t, res], []⟩) R s
  | [], i, acc, ix, t, s, hsz, hln, ht, hit, hl, hm, hR => by
    have oI := hit
    obtain ⟨oi, hoi, hci, hdi⟩ := oI
    refine codeAny_builtin ud_entry ?_
    rw [Around.under_plainId ud_plain _]
    show wpAny _ A.in1 (pyNext (.ref I) >>= _) _ _ s
    refine wpAny_bind (wpAny_pyNext_list_end (A := A.in1) hh hit hl (by first | exact Array.getElem?_eq_none (Nat.le_of_eq hsz) | (simp at hsz; simp; omega)) fun h' he => ?_)
    show wpAny _ A.in1 (Builtin.Dict.addKeywords S [] >>= _) _ _ _
    refine wpAny_bind (wpAny_pure (wpAny_pure ?_))
    exact hR h' s.toks (hm.moved fun b o hb hd => he b o (fun e => by
      subst e
      rw [hoi] at hb
      cases hb
      exact hd _ hdi) hb) fun b o _ hb e => he b o hb e
  | q :: rest, i, acc, ix, t, s, hsz, hln, ht, hit, hl, hm, hR => by
    obtain ⟨b, hb, hbS, hbI, hpr⟩ := ht 0 q rfl
    have oI := hit
    obtain ⟨oi, hoi, hci, hdi⟩ := oI
    rw [List.length_cons] at hsz hln
    refine codeAny_builtin ud_entry ?_
    rw [Around.under_plainId ud_plain _]
    show wpAny _ A.in1 (pyNext (.ref I) >>= _) _ _ s
    refine wpAny_bind (wpAny_pyNext_list_item (x := .ref b) hit hl (by simpa using hb) fun h1 hit1 hs1 => ?_)
    have mv : ∀ c oc, s.heap.get? c = some oc → (∀ vs, oc.data ≠ .fields vs) → h1.get? c = some oc := fun c oc hc hd => hs1.extBut c oc (fun e => by
      subst e
      rw [hoi] at hc
      cases hc
      exact hd _ hdi) hc
    have hpr1 : PrN h1 b q := hpr.moved mv
    have hl1 : h1.IsList l items := hl.extBut hs1.extBut hlI
    have hm1 : DictN w h1 S acc := hm.moved mv
    obtain ⟨o, ho, hc, n, hd⟩ := id hpr1.1
    show wpAny _ A.in1 (holding [Value.ref b] _ >>= _) _ _ _
    refine wpAny_bind (wpAny_holding ?_)
    refine wpAny_bind (wpAny_tryCatch ?_)
    unfold Builtin.Dict.pairItems
    refine wpAny_bind (wpAny_typeOf (T := "tuple") ⟨o, ho, hc⟩ ?_)
    rw [if_pos (by first | decide | rfl | simp)]
    refine wpAny_bind (wpAny_seqItems ho hd (wpAny_pure ?_))
    show wpAny _ A.in1 (holding [q.2.1, q.2.2] (dictSet S q.2.1 q.2.2)) _ _ _
    have oS := hm1
    obtain ⟨od, es, ep, hod, _, hdd, _⟩ := oS
    refine wpAny_holding (set_nest (s := { s with heap := h1 }) hm1 hpr1.2.1 hpr1.2.2 hu (by omega) fun h2 hm2 hs2 => ?_)
    refine wpAny_pure ⟨plainId_quiet ud_plain _, updN_loop (items := items) hh hlI hSI hSl hu rest (i + 1) (storeN acc q.1 q.2.1 q.2.2) (ix + 1) 0 _ (show items.size = i + 1 + rest.length by omega) ?_ (fun j q' e => ?_) ?_ ?_ hm2 fun h' tk hd' k => ?_⟩
    · have z := storeN_len acc q.1 q.2.1 q.2.2
      omega
    · obtain ⟨b', hb', hbS', hbI', hpr'⟩ := ht (j + 1) q' (by simpa using e)
      refine ⟨b', ?_, hbS', hbI', (hpr'.moved mv).put hod hdd hs2⟩
      rw [show i + 1 + j = i + (j + 1) by omega]
      exact hb'
    · exact hit1.at fun o' e => hs2.extBut I o' (Ne.symm hSI) e
    · exact hl1.extBut hs2.extBut (Ne.symm hSl)
    · exact hR h' tk hd' fun c oc h3 h4 e => k c oc h3 h4 (hs2.extBut c oc h3 (hs1.extBut c oc h4 e))
/-- dict(l) of a list of pairs -/
theorem call_dictN {s : Shared} {l : Addr} {ol : Obj} {items : Array Value} {n : Nat} {prs : List Tri} {Q : Value → Shared → Prop} (hu : A.in1.in1.units + 8 < cLine) (hh : A.handled = none) (hl : s.heap.get? l = some ol) (hc : ol.cls = .type "list") (hd : ol.dict = none)
    (hdat : ol.data = .seq items n) (hsz : items.size = prs.length) (hln : prs.length ≤ sizeLine)
    (ht : ∀ (j : Nat) (q : Tri), prs[j]? = some q → ∃ b : Addr, items[j]? = some (.ref b) ∧ PrN s.heap b q)
    (h : ∀ h' tk, DictN w h' s.heap.objs.size (allN [] prs) → (∀ b o, s.heap.get? b = some o → h'.get? b = some o) → Q (.ref s.heap.objs.size) { s with heap := h', toks := tk }) :
    wpAny (model prog w) A (call (.type "dict") [.ref l]) Q E s := by
  refine callType_codes (Q₁ := fun obj s₁ => obj = .ref s.heap.objs.size ∧ s₁ = { s with heap := s.heap.push { cls := .type "dict", data := .dict #[] } }) PySem.F.kt_called_dict (PySem.F.kt_typeCall_dict_1 _) PySem.F.entry_dict_init (kt_code_dict_new _ ⟨rfl, rfl⟩) ?_
  rintro obj s₁ ⟨rfl, rfl⟩
  have hnew : (s.heap.push { cls := .type "dict", data := .dict #[] }).DictOf (mixKind prog w) s.heap.objs.size [] := Heap.DictOf.new s.heap
  have hnewN : DictN w (s.heap.push { cls := .type "dict", data := .dict #[] }) s.heap.objs.size [] := DictN.new s.heap
  have k0 : ∀ b o, s.heap.get? b = some o → (s.heap.push { cls := .type "dict", data := .dict #[] }).get? b = some o := fun b o e => Heap.get?_push_of_some _ e
  refine ⟨hnew.typeIs, PySem.F.args_dict_init_2 _ _, ?_⟩
  unfold Builtin.«dict.__init__»
  refine wpAny_bind ?_
  unfold Builtin.Dict.selfAndRest
  refine wpAny_bind (wpAny_notOrdered_dict hnew.typeIs ?_)
  show wpAny _ _ (pure (s.heap.objs.size, [Value.ref l])) _ _ _
  refine wpAny_pure ?_
  show wpAny _ _ (Builtin.Dict.updateFrom "dict.__init__" s.heap.objs.size (.ref l) [] .none) _ _ _
  unfold Builtin.Dict.updateFrom
  refine wpAny_bind (wpAny_typeOf (T := "list") ⟨ol, k0 _ _ hl, hc⟩ ?_)
  rw [if_pos (by first | decide | rfl | simp)]
  refine wpAny_bind (miss_list (k0 _ _ hl) hc hdat hd hh fun h1 tk1 hk1 => ?_)
  rw [if_pos (show (none : Option Value).isNone = true from rfl)]
  refine wpAny_bind (wpAny_rule ?_)
  have hl1 : h1.IsList l items := ⟨ol, hk1 _ _ (k0 _ _ hl), hc, n, hdat⟩
  have hS1 : s.heap.objs.size < h1.objs.size := by
    have e : (s.heap.push { cls := .type "dict", data := .dict #[] }).get? s.heap.objs.size = some { cls := .type "dict", data := .dict #[] } := Heap.get?_push_size _ rfl
    exact Heap.lt_size (hk1 _ _ e)
  refine wpAny_bind (wpAny_pyIter_list hl1 ?_)
  have k2 : ∀ b o, h1.get? b = some o → (h1.push { cls := .type "list_iterator", data := .fields #[.ref l, .int 0 0] }).get? b = some o := fun b o e => Heap.get?_push_of_some _ e
  have hlt : l < s.heap.objs.size := Heap.lt_size hl
  have key := updN_loop (prog := prog) (w := w) (A := A.in1) (R := wants (fun r s₂ => r = .none ∧ Q (.ref s.heap.objs.size) s₂) E) (S := s.heap.objs.size) (I := h1.objs.size) (l := l) (items := items) (res := Value.none) hh
    (Nat.ne_of_lt (Nat.lt_trans hlt hS1)) (Nat.ne_of_lt hS1) (Nat.ne_of_gt hlt) hu prs 0 [] 0 0
    { s with heap := h1.push { cls := .type "list_iterator", data := .fields #[.ref l, .int 0 0] }, toks := tk1 } (by rw [hsz, Nat.zero_add]) (by rw [List.length_nil, Nat.zero_add]; exact hln)
    (fun j q e => by
      obtain ⟨b, e1, e2⟩ := ht j q e
      have hb : b < s.heap.objs.size := e2.1.lt
      exact ⟨b, by rw [Nat.zero_add]; exact e1, Nat.ne_of_lt hb, Nat.ne_of_lt (Nat.lt_trans hb hS1), e2.moved fun c o z _ => k2 _ _ (hk1 _ _ (k0 _ _ z))⟩)
    ⟨_, Heap.get?_push_size _ rfl, rfl, rfl⟩ (hl1.at fun o e => k2 _ _ e) (hnewN.moved fun b o e _ => k2 _ _ (hk1 _ _ e))
    (fun h' tk hd' k => ⟨rfl, h h' tk hd' fun b o e => k b o (Nat.ne_of_lt (Heap.lt_size e)) (Nat.ne_of_lt (Nat.lt_trans (Heap.lt_size e) hS1)) (k2 _ _ (hk1 _ _ (k0 _ _ e)))⟩)
  first
    | exact wpAny_pure ⟨plainId_quiet ud_plain _, key⟩
    | exact wpAny_bind (wpAny_pure (wpAny_pure ⟨plainId_quiet ud_plain _, key⟩))
end
end MX
namespace L2
open PySem PySem.Spec PyProof.Rows MX
/-- the pairs of a row, each a key and what stands under it -/
abbrev TriV := NestedKey × V × V
def putAll (acc : List TriV) (qs : List TriV) : List TriV := qs.foldl (fun a q => putM a q.1 q.2.1 q.2.2) acc
theorem putAll_len : ∀ (qs acc : List TriV), (putAll acc qs).length ≤ acc.length + qs.length
  | [], acc => Nat.le_refl _
  | q :: qs, acc => by
    have z := putAll_len qs (putM acc q.1 q.2.1 q.2.2)
    have y := putM_len acc q.1 q.2.1 q.2.2
    have e : putAll acc (q :: qs) = putAll (putM acc q.1 q.2.1 q.2.2) qs := rfl
    rw [e, List.length_cons]
    omega
theorem PairM.putAll : ∀ {qs : List TriV} {rs : List Tri} {acc : List TriV} {bcc : List Tri}, PairM qs rs → PairM acc bcc → PairM (putAll acc qs) (allN bcc rs)
  | _, _, acc, bcc, .nil, h => h
  | _, _, acc, bcc, .cons (a := q) (b := r) (l₁ := qs) (l₂ := rs) e t, h => by
    have e1 : L2.putAll acc (q :: qs) = L2.putAll (putM acc q.1 q.2.1 q.2.2) qs := rfl
    have e2 : allN bcc (r :: rs) = allN (storeN bcc r.1 r.2.1 r.2.2) rs := rfl
    rw [e1, e2]
    refine PairM.putAll t ?_
    rw [← e.1]
    exact PairM.put h e.2.1 e.2.2
section
variable {X : Cx}
theorem tris_of {pins : List (Addr × Obj)} {σ : St} {H : Hp} {s : Shared} (I : Inv X pins σ H s) : ∀ {ps : List Addr} {kvs : List TriV}, Paired (fun p kv => SqT X.K H p [kv.2.1, kv.2.2] ∧ KeyV H kv.1 kv.2.1) ps kvs →
    ∃ prs : List Tri, PairM kvs prs ∧ prs.length = ps.length ∧ ∀ (j : Nat) (q : Tri), prs[j]? = some q → ∃ b : Addr, ps[j]? = some b ∧ PrN s.heap b q
  | _, _, .nil => ⟨[], .nil, rfl, fun j q e => by simp at e⟩
  | _, _, .cons (a := p) (b := kv) h t => by
    obtain ⟨prs, r, hl, hp⟩ := tris_of I t
    obtain ⟨its, rv, ht, _⟩ := I.tuple h.1
    obtain ⟨u, y, ei, ru, ry⟩ := vals2 rv
    subst ei
    have z := h.2.is I ru
    refine ⟨(kv.1, u, y) :: prs, .cons ⟨rfl, ru, ry⟩ r, by rw [List.length_cons, List.length_cons, hl], fun j q e => ?_⟩
    cases j with
    | zero =>
      have e' : (kv.1, u, y) = q := Option.some.inj e
      subst e'
      exact ⟨p, rfl, ht, z.1, z.2⟩
    | succ j =>
      obtain ⟨b, e1, e2⟩ := hp j q (by simpa using e)
      exact ⟨b, by simpa using e1, e2⟩
/-- dict(xs) of a list of pairs (key, value) -/
def cDictM (X : Cx) : List V → Hp → VK → Prop := fun xs H Q => ∃ (a : Addr) (ps : List Addr) (kvs : List TriV), xs = [.ref a] ∧ SqL X.K H a (ps.map V.ref) ∧ Paired (fun p kv => SqT X.K H p [kv.2.1, kv.2.2] ∧ KeyV H kv.1 kv.2.1) ps kvs ∧
    ∀ p, H p = none → Q (.ref p) (upd H p (MixO X.w p (putAll [] kvs)))
theorem call_dictM (hcalm : X.calm = true) (hu : X.A.units + 10 < cLine) : CallR X (.type "dict") (cDictM X) := by
  intro pins s σ H xs us Q I r q
  obtain ⟨a, ps, kvs, ex, hq, hp, q⟩ := q
  subst ex
  obtain ⟨u, eu, rx⟩ := vals1 r
  subst eu
  cases rx
  obtain ⟨its, rv, pl, hz⟩ := I.list hq
  have ei := refs_at rv
  subst ei
  rw [List.length_map] at hz
  obtain ⟨prs, rel, hl, hpr⟩ := tris_of I hp
  obtain ⟨o, n, ho, hc, hd, hdat⟩ := pl
  refine call_dictN (prs := prs) (by show X.A.units + 1 + 1 + 8 < cLine; omega) (I.ok.hd hcalm) ho hc hd hdat (by simp [hl]) (by rw [hl]; exact hz) (fun j q' e => ?_) fun h' tk hd' k => ?_
  · obtain ⟨b, e1, e2⟩ := hpr j q' e
    exact ⟨b, by simp [e1], e2⟩
  · have hm : (s.heap.objs.size == sysModules) = false := beq_eq_false_iff_ne.mpr (Nat.ne_of_gt I.big)
    have hlen : (putAll [] kvs).length ≤ sizeLine := by
      refine Nat.le_trans (putAll_len kvs []) ?_
      rw [List.length_nil, Nat.zero_add, PairM.len rel, hl]
      exact hz
    obtain ⟨od, es, ep, h1, h2, h3, h4, _, h5⟩ := hd'
    exact ⟨.ref s.heap.objs.size, upd H s.heap.objs.size (MixO X.w s.heap.objs.size (putAll [] kvs)), I.laid (t' := tk) k (Nat.le_refl _) (mix_ok hlen hm (PairM.putAll rel .nil) ⟨od, es, ep, h1, h2, h3, h4, h5⟩), rfl, q _ (I.hok.fresh (Nat.le_refl _))⟩
end
end L2

set_option Elab.async false
set_option linter.all false
set_option maxRecDepth 100000
set_option maxHeartbeats 4000000
/-! A dict whose keys are all numbers, taken as one. -/
namespace L2
open PySem PySem.Spec PyProof.Rows MX
def nuM (ts : List (Int × V)) : List (NestedKey × V × V) := ts.map fun p => (.num p.1, .int p.1, p.2)
def nuK (ts : List (Int × V)) : List (Key × V) := ts.map fun p => (Sum.inl p.1, p.2)
theorem pair_nums {P : Program} {w : World} {ts : List (Int × V)} {xs : List (NestedKey × Value × Value)} (h : PairM (nuM ts) xs) : ∃ vs : List (Key × Value), KV (nuK ts) vs ∧ (∀ e ∈ xs.map (entN w), ∃ k, (mixKind P w).is k e.key = true ∧ e.hash = (mixKind P w).hash k) ∧ Pairs (mixKind P w) (xs.map (entN w)) vs ∧
    vs.map (·.1) = ts.map (fun p => (Sum.inl p.1 : Key)) ∧ xs.map (·.1) = ts.map (fun p => NestedKey.num p.1) := by
  induction ts generalizing xs with
  | nil =>
    cases h
    exact ⟨[], .nil, fun e he => (nomatch he), .nil, rfl, rfl⟩
  | cons t ts ih =>
    cases h with
    | @cons a b l1 l2 e r =>
      obtain ⟨vs, h1, h2, h3, h4, h5⟩ := ih r
      obtain ⟨z1, z2, z3⟩ := e
      obtain ⟨tk, z4⟩ := z2
      have k1 : (mixKind P w).is (Sum.inl t.1) (entN w b).key = true := by
        show keyIs (.inl t.1) b.2.1 = true
        rw [z4]
        simp [keyIs, Value.isInt]
      refine ⟨(Sum.inl t.1, b.2.2) :: vs, .cons ⟨rfl, z3⟩ h1, fun en he => ?_, ?_, by rw [List.map_cons, List.map_cons, h4], by rw [List.map_cons, List.map_cons, h5, ← z1]⟩
      · rcases List.mem_cons.mp he with rfl | m
        · refine ⟨Sum.inl t.1, k1, ?_⟩
          show b.1.hash w = _
          rw [← z1]
          rfl
        · exact h2 en m
      · exact .cons k1 rfl h3
section
variable {X : Cx} {pins : List (Addr × Obj)} {σ : St} {H : Hp} {s : Shared} {a : Addr} {ts : List (Int × V)} {e : Expr} {t : TE}
/-- .. from now on tracked as one -/
theorem Inv.nums (I : Inv X pins σ H s) (e : H a = some (MixO X.w a (nuM ts))) : Inv X pins σ (upd H a (.dK (nuK ts))) s := by
  obtain ⟨⟨few, hd, xs, p, o, es, ep, h1, h2, h3, h4, h5⟩, _, _⟩ := I.hok a _ e
  refine I.reword e ?_
  obtain ⟨vs, q1, q2, q3, q4, q5⟩ := pair_nums (P := X.prog) (w := X.w) p
  refine ⟨by show (ts.map _).length ≤ _; rw [List.length_map]; rw [show (nuM ts).length = ts.length from List.length_map _] at few; exact few, hd, vs, q1, o, es, ep, h1, h2, h3, fun en he => q2 en (by rw [← h4]; exact Array.mem_toList_iff.mpr he), by rw [h4]; exact q3, ?_⟩
  rw [q4]
  rw [q5] at h5
  rw [List.nodup_iff_pairwise_ne] at h5 ⊢
  rw [List.pairwise_map] at h5 ⊢
  exact h5.imp fun ne z => ne (by rw [Sum.inl.inj z])
def tNums (w : World) (t : TE) : TE := fun σ H Q => t σ H fun v H1 => Q v H1 ∨ ∃ (a : Addr) (ts : List (Int × V)), H1 a = some (MixO w a (nuM ts)) ∧ Q v (upd H1 a (.dK (nuK ts)))
theorem pe_nums (h : PE X e t) : PE X e (tNums X.w t) := by
  refine ⟨fun pins s σ H Q I q => thn (h.run pins s σ H _ I q) fun v s1 z => ?_⟩
  obtain ⟨x, H1, I1, r, q1⟩ := z
  rcases q1 with q1 | ⟨a, ts, e, q1⟩
  · exact ⟨x, H1, I1, r, q1⟩
  · exact ⟨x, _, I1.nums e, r, q1⟩
/-- either of two calls' readings -/
theorem CallR.or2 {f : Value} {r1 r2 : List V → Hp → VK → Prop} (h1 : CallR X f r1) (h2 : CallR X f r2) : CallR X f (fun xs H Q => r1 xs H Q ∨ r2 xs H Q) := by
  intro pins s σ H xs us Q I r q
  rcases q with q | q
  · exact h1 pins s σ H xs us Q I r q
  · exact h2 pins s σ H xs us Q I r q
end
theorem nuM_keys (ts : List (Int × V)) : (nuM ts).map (·.1) = ts.map fun p => NestedKey.num p.1 := by
  unfold nuM
  rw [List.map_map]
  rfl
/-- all keys are numbers: then it is one of these -/
theorem nuM_of : ∀ {kvs : List (NestedKey × V × V)}, (∀ p ∈ kvs, ∃ z, p.1 = .num z ∧ p.2.1 = .int z) → ∃ ts, kvs = nuM ts
  | [], _ => ⟨[], rfl⟩
  | p :: r, h => by
    obtain ⟨z, e1, e2⟩ := h p List.mem_cons_self
    obtain ⟨ts, e⟩ := nuM_of fun q hq => h q (List.mem_cons_of_mem _ hq)
    refine ⟨(z, p.2.2) :: ts, ?_⟩
    obtain ⟨k, x, v⟩ := p
    dsimp only at e1 e2
    rw [e1, e2, e]
    rfl
theorem nuK_nd {ts : List (Int × V)} (h : ((nuM ts).map (·.1)).Nodup) : ((nuK ts).map (·.1)).Nodup := by
  rw [nuM_keys] at h
  unfold nuK
  rw [List.map_map]
  rw [List.nodup_iff_pairwise_ne, List.pairwise_map] at h ⊢
  exact h.imp fun ne z => ne (by rw [Sum.inl.inj (show (Sum.inl _ : Key) = Sum.inl _ from z)])
theorem mem_nuM {ts : List (Int × V)} {p : NestedKey × V × V} (h : p ∈ nuM ts) : ∃ n v, (n, v) ∈ ts ∧ p = (.num n, .int n, v) := by
  obtain ⟨q, hq, rfl⟩ := List.mem_map.mp h
  exact ⟨q.1, q.2, hq, rfl⟩
end L2

set_option Elab.async false
set_option linter.all false
set_option maxRecDepth 100000
set_option maxHeartbeats 8000000
/-! The pairs of a row, and the dict of them. -/
namespace V8
open PySem PySem.Spec PyProof.Rows L2 MX SetT LamX
/-- a key as data -/
def dKy : NestedKey → PyData
  | .none => .none
  | .num i => .int i
  | .text z => .str z
  | .tup _ => .tuple [.int 1]
theorem putM_keys {kvs : List TriV} {k j : NestedKey} {x v : V} : j ∈ (putM kvs k x v).map (·.1) ↔ j = k ∨ j ∈ kvs.map (·.1) := by
  unfold putM
  by_cases h : k ∈ kvs.map (·.1)
  · rw [if_pos h]
    have e : (kvs.map fun p => if p.1 = k then (p.1, p.2.1, v) else p).map (·.1) = kvs.map (·.1) := by
      rw [List.map_map]
      refine List.map_congr_left fun p _ => ?_
      show (if p.1 = k then (p.1, p.2.1, v) else p).1 = p.1
      split <;> rfl
    rw [e]
    exact ⟨fun z => .inr z, fun z => z.elim (fun z => z ▸ h) id⟩
  · rw [if_neg h, List.map_append, List.mem_append]
    exact ⟨fun z => z.elim .inr fun z => .inl (List.mem_singleton.mp z), fun z => z.elim (fun z => .inr (List.mem_singleton.mpr z)) .inl⟩
theorem putAll_cons (acc : List TriV) (q : TriV) (qs : List TriV) : putAll acc (q :: qs) = putAll (putM acc q.1 q.2.1 q.2.2) qs := rfl
/-- each key is one of the row's .. -/
theorem putAll_key : ∀ (qs acc : List TriV) (p : TriV), p ∈ putAll acc qs → ∃ q ∈ acc ++ qs, p.1 = q.1 ∧ p.2.1 = q.2.1
  | [], acc, p, h => ⟨p, by rw [List.append_nil]; exact h, rfl, rfl⟩
  | a :: qs, acc, p, h => by
    rw [putAll_cons] at h
    obtain ⟨q, hq, e1, e2⟩ := putAll_key qs _ p h
    rcases List.mem_append.mp hq with z | z
    · rcases putM_mem z with z | z | ⟨r, hr, z⟩
      · exact ⟨q, List.mem_append_left _ z, e1, e2⟩
      · refine ⟨a, List.mem_append_right _ List.mem_cons_self, ?_, ?_⟩
        · rw [e1, z]
        · rw [e2, z]
      · refine ⟨r, List.mem_append_left _ hr, ?_, ?_⟩
        · rw [e1, z]
        · rw [e2, z]
    · exact ⟨q, List.mem_append_right _ (List.mem_cons_of_mem _ z), e1, e2⟩
/-- .. and each of the row's is there -/
theorem putAll_has : ∀ (qs acc : List TriV) (j : NestedKey), j ∈ (acc ++ qs).map (·.1) → j ∈ (putAll acc qs).map (·.1)
  | [], acc, j, h => by
    rw [List.append_nil] at h
    exact h
  | a :: qs, acc, j, h => by
    rw [putAll_cons]
    refine putAll_has qs _ j ?_
    rw [List.map_append, List.mem_append] at h ⊢
    rw [putM_keys]
    rcases h with h | h
    · exact .inl (.inr h)
    · rw [List.map_cons] at h
      rcases List.mem_cons.mp h with h | h
      · exact .inl (.inl h)
      · exact .inr h
/-- no key comes twice: then the dict is the row -/
theorem putAll_nd : ∀ (qs acc : List TriV), ((acc ++ qs).map (·.1)).Nodup → putAll acc qs = acc ++ qs
  | [], acc, _ => by
    rw [List.append_nil]
    rfl
  | a :: qs, acc, h => by
    have e : putM acc a.1 a.2.1 a.2.2 = acc ++ [a] := by
      unfold putM
      rw [if_neg fun z => ?_]
      rw [List.map_append, List.nodup_append] at h
      exact h.2.2 _ z _ (List.mem_map.mpr ⟨a, List.mem_cons_self, rfl⟩) rfl
    have e2 : acc ++ a :: qs = acc ++ [a] ++ qs := by rw [List.append_assoc]; rfl
    rw [putAll_cons, e, putAll_nd qs _ (by rw [← e2]; exact h), e2]
/-- a pair of the row: a key and what stands under it -/
def RowE (H : Hp) (pa : Addr) (e : TriV) : Prop := H pa = some (.tup [e.2.1, e.2.2]) ∧ KeyV H e.1 e.2.1 ∧ Held H e.2.1 (dKy e.1) ∧ (dKy e.1).canLay0 = true
theorem keyV_ref {H : Hp} {k : NestedKey} {a : Addr} (h : KeyV H k (.ref a)) : ∃ xs, H a = some (.tup xs) := by
  cases h with
  | flat g => cases g
  | tup ht _ => exact ⟨_, ht⟩
theorem keyV_mv {p0 : Addr} {H H2 : Hp} {k : NestedKey} {x : V} (h : KeyV H k x) (pl : PenL H p0) (m : Mv p0 H H2) : KeyV H2 k x := by
  cases h with
  | flat g => exact .flat g
  | tup ht g =>
    obtain ⟨xs, hp⟩ := pl
    exact .tup (m _ _ ht (ne_of ht hp (fun z => nomatch z)) (fun _ z => nomatch z)) g
theorem RowE.mv {p0 : Addr} {H H2 : Hp} {pa : Addr} {e : TriV} (r : RowE H pa e) (pl : PenL H p0) (m : Mv p0 H H2) : RowE H2 pa e := by
  obtain ⟨h1, h2, h3, h4⟩ := r
  obtain ⟨xs, hp⟩ := id pl
  refine ⟨m _ _ h1 (ne_of h1 hp (fun z => nomatch z)) (fun _ z => nomatch z), keyV_mv h2 pl m, held_mv h3 (fun a ea => ?_) m, h4⟩
  rw [ea] at h2
  obtain ⟨ys, hy⟩ := keyV_ref h2
  exact ne_of hy hp (fun z => nomatch z)
theorem RowE.same {H H2 : Hp} {pa : Addr} {e : TriV} (r : RowE H pa e) (s : Same H H2) : RowE H2 pa e := ⟨s _ _ r.1, r.2.1.same s, r.2.2.1.same s, r.2.2.2⟩
/-- a row of numbers: each with its value, as a value and as data -/
abbrev NV := Int × V × PyData
def triN (q : NV) : TriV := (.num q.1, .int q.1, q.2.1)
theorem triN_nu (qs : List NV) : qs.map triN = nuM (qs.map fun q => (q.1, q.2.1)) := by
  unfold nuM
  rw [List.map_map]
  rfl
def dtN (qs : List NV) : Dt := qs.map fun q => (Sum.inl q.1, q.2.2)
def oddN (qs : List NV) : List Int := (qs.filter fun q => !wordD 1 1 q.2.2).map (·.1)
theorem atD_dtN {qs : List NV} (nd : (qs.map (·.1)).Nodup) {q : NV} (h : q ∈ qs) : atD (dtN qs) (Sum.inl q.1) = some q.2.2 := by
  unfold atD dtN
  induction qs with
  | nil => exact absurd h List.not_mem_nil
  | cons a r ih =>
    rw [List.map_cons, List.nodup_cons] at nd
    rw [List.map_cons, List.find?_cons]
    rcases List.mem_cons.mp h with rfl | h
    · rw [show decide ((Sum.inl q.1 : Key) = Sum.inl q.1) = true from decide_eq_true rfl]
      rfl
    · have ne : a.1 ≠ q.1 := fun e => nd.1 (List.mem_map.mpr ⟨q, h, e.symm⟩)
      rw [show decide ((Sum.inl a.1 : Key) = Sum.inl q.1) = false from decide_eq_false fun e => ne (Sum.inl.inj e)]
      exact ih nd.2 h
theorem atD_none {qs : List NV} {n : Int} (h : n ∉ qs.map (·.1)) : atD (dtN qs) (Sum.inl n) = none := by
  unfold atD dtN
  induction qs with
  | nil => rfl
  | cons a r ih =>
    rw [List.map_cons, List.mem_cons, not_or] at h
    rw [List.map_cons, List.find?_cons, show decide ((Sum.inl a.1 : Key) = Sum.inl n) = false from decide_eq_false fun e => h.1 (Sum.inl.inj e).symm]
    exact ih h.2
theorem oddN_mem {qs : List NV} {n : Int} (h : n ∈ oddN qs) : ∃ q ∈ qs, q.1 = n ∧ wordD 1 1 q.2.2 = false := by
  obtain ⟨q, hq, e⟩ := List.mem_map.mp h
  have m := List.mem_filter.mp hq
  exact ⟨q, m.1, e, by simpa using m.2⟩
theorem oddN_of {qs : List NV} {q : NV} (h : q ∈ qs) (o : wordD 1 1 q.2.2 = false) : q.1 ∈ oddN qs := List.mem_map.mpr ⟨q, List.mem_filter.mpr ⟨h, by rw [o]; rfl⟩, rfl⟩
/-- the least odd number tells what is refused -/
theorem told_odd {qs : List NV} (nd : (qs.map (·.1)).Nodup) (rg : ∀ q ∈ qs, 0 ≤ q.1 ∧ q.1 ≤ 255) {ns : List Int} {m : Int} (hp : (m :: ns).Perm (oddN qs)) (hs : (m :: ns).Pairwise (· ≤ ·)) : ∃ q ∈ qs, q.1 = m ∧ toldS (dtN qs) = some (.one 1 q.2.2) := by
  obtain ⟨q, hq, e, o⟩ := oddN_mem (hp.mem_iff.mp List.mem_cons_self)
  refine ⟨q, hq, e, ?_⟩
  have f1 : (dtN qs).find? (fun q => !numD (keyD q.1)) = none := by
    rw [List.find?_eq_none]
    intro p hp2
    obtain ⟨r, hr, rfl⟩ := List.mem_map.mp hp2
    have := rg r hr
    show ¬ (!numD (.int r.1)) = true
    simp [numD, this.1, this.2]
  have nn : ((q.1.toNat : Nat) : Int) = q.1 := Int.toNat_of_nonneg (rg q hq).1
  have lt : q.1.toNat < 256 := by
    have := rg q hq
    omega
  have bq : badS (dtN qs) q.1.toNat = some q.2.2 := by
    unfold badS kN
    rw [nn, atD_dtN nd hq]
    show (if wordD 1 1 q.2.2 = true then none else some q.2.2) = _
    rw [if_neg (by rw [o]; exact fun z => nomatch z)]
  have low : ∀ n : Nat, n < q.1.toNat → (badS (dtN qs) n).isSome = false := fun n hn => by
    by_cases hm : ((n : Nat) : Int) ∈ qs.map (·.1)
    · obtain ⟨r, hr, er⟩ := List.mem_map.mp hm
      unfold badS kN
      rw [← er, atD_dtN nd hr]
      show (if wordD 1 1 r.2.2 = true then none else some r.2.2).isSome = false
      cases w : wordD 1 1 r.2.2 with
      | true => rfl
      | false =>
        exfalso
        have z := hp.mem_iff.mpr (oddN_of hr w)
        rw [List.pairwise_cons] at hs
        rcases List.mem_cons.mp z with z | z
        · omega
        · have := hs.1 _ z
          omega
    · unfold badS kN
      rw [atD_none hm]
      rfl
  have f2 : (List.range 256).find? (fun n => (badS (dtN qs) n).isSome) = some q.1.toNat := by
    rw [List.find?_range_eq_some]
    refine ⟨by rw [bq]; rfl, List.mem_range.mpr lt, fun j hj => by rw [low j hj]; rfl⟩
  unfold toldS
  rw [f1, f2]
  show (badS (dtN qs) q.1.toNat).map (Bad.one 1) = _
  rw [bq]
  rfl
end V8

set_option Elab.async false
set_option linter.all false
set_option maxRecDepth 100000
set_option maxHeartbeats 8000000
/-! Tables of signs that are refused, or made. -/
namespace V8
open PySem PySem.Spec PyProof.Rows L2 MX SetT LamX PySem.Builtin.Str
abbrev s__law_refused_right : Stmt := topS 45
abbrev n__law_refused_right : List Str := ["_law_pen_here", "_law_some", "_law_keys", "_law_wrong", "_law_row", "_law_odd", "_law_one", "_law_is_wrong", "_law_turn", "_law_at", "_law_signs_so", "_law_due_here", "_law_bad", "_law_heard_here", "_law_key"]
theorem sc__law_refused_right : FnScope ["_law_pen_here", "_law_some", "_law_keys", "_law_wrong", "_law_row", "_law_odd", "_law_one", "_law_is_wrong", "_law_turn", "_law_at", "_law_signs_so", "_law_due_here", "_law_bad", "_law_heard_here", "_law_key"] ["_law_pen_here", "_law_some"] (defScope s__law_refused_right) := ⟨rfl, rfl, rfl, by decide +kernel, rfl, by decide +kernel, by decide +kernel⟩
theorem pair_take {α β : Type} {R : α → β → Prop} {xs : List α} {ys : List β} (h : Paired R xs ys) : ∀ k, Paired R (xs.take k) (ys.take k) := by
  induction h with
  | nil => intro k; rw [List.take_nil, List.take_nil]; exact .nil
  | cons r _ ih =>
    intro k
    cases k with
    | zero => exact .nil
    | succ k => exact .cons r (ih k)
theorem pair_drop {α β : Type} {R : α → β → Prop} {xs : List α} {ys : List β} (h : Paired R xs ys) : ∀ k, Paired R (xs.drop k) (ys.drop k) := by
  induction h with
  | nil => intro k; rw [List.drop_nil, List.drop_nil]; exact .nil
  | cons r t ih =>
    intro k
    cases k with
    | zero => exact .cons r t
    | succ k => exact ih k
theorem pair_app {α β : Type} {R : α → β → Prop} {xs xs2 : List α} {ys ys2 : List β} (h : Paired R xs ys) (h2 : Paired R xs2 ys2) : Paired R (xs ++ xs2) (ys ++ ys2) := by
  induction h with
  | nil => exact h2
  | cons r _ ih => exact .cons r ih
theorem cut_lo (xs : List V) {k : Nat} (h : k ≤ xs.length) : cutV xs none (some ((k : Nat) : Int)) = xs.take k := by
  unfold cutV
  rw [HT.sIx_none, List.drop_zero, HT.sIx_nat, Nat.min_eq_left h]
  rfl
theorem cut_hi (xs : List V) {k : Nat} (h : k ≤ xs.length) : cutV xs (some ((k : Nat) : Int)) none = xs.drop k := by
  unfold cutV
  rw [HT.sIx_none, HT.sIx_nat, Nat.min_eq_left h]
  exact List.take_of_length_le (by rw [List.length_drop]; exact Nat.le_refl _)
theorem hu10_of {A : Around} {k : Nat} (hr : Room k A) : A.units + 10 < cLine := by
  have := hr.units
  omega
def keysV (t1 : Addr) : List V := [.non, .str "a", .int 256, .int (-1), .ref t1, .str "", .int (10 ^ 9)]
def wrongV (ta le : Addr) : List V := [.non, .int 0, .str "", .str "A", .str "ab", .ref ta, .ref le, .bl true]
theorem nice_ta : NiceD (.tuple [.str "a"]) := ⟨⟨by decide +kernel, by decide +kernel, by decide +kernel⟩, by decide +kernel, by decide +kernel, by decide +kernel, fun z e => nomatch e⟩
theorem nice_t1 : NiceD (.tuple [.int 1]) := ⟨⟨by decide +kernel, by decide +kernel, by decide +kernel⟩, by decide +kernel, by decide +kernel, by decide +kernel, fun z e => nomatch e⟩
theorem held_ta {H : Hp} {t : Addr} (h : H t = some (.tup [.str "a"])) : Held H (.ref t) (.tuple [.str "a"]) := by
  refine ⟨.inr (.inl ⟨t, _, rfl, .inl h, by decide, fun y hy => ?_⟩), .tup h (.cons (.str "a") .nil), nice_ta⟩
  rw [List.mem_singleton.mp hy]
  exact .inl ⟨_, rfl⟩
theorem held_t1 {H : Hp} {t : Addr} (h : H t = some (.tup [.int 1])) : Held H (.ref t) (.tuple [.int 1]) := by
  refine ⟨.inr (.inl ⟨t, _, rfl, .inl h, by decide, fun y hy => ?_⟩), .tup h (.cons (.int 1) .nil), nice_t1⟩
  rw [List.mem_singleton.mp hy]
  exact .inr (.inl ⟨1, rfl⟩)
theorem ok_let {c : Nat} (h : isLt c) : okZ (Sx [c]) = true := by
  have z : ∀ k ∈ List.range 26, okZ (Sx [k + 97]) = true := by decide +kernel
  have e : c = (c - 97) + 97 := by
    unfold isLt at h
    omega
  rw [e]
  refine z _ (List.mem_range.mpr ?_)
  unfold isLt at h
  omega
theorem held_let {H : Hp} {c : Nat} (h : isLt c) : Held H (.str (Sx [c])) (.str (Sx [c])) := held_str (ok_let h)
/-- what stands beside the row -/
structure RfS (p row sl ky wr t1 ta le : Addr) (cs : List Nat) (H : Hp) : Prop where
  hsl : H sl = some (.lst (lets cs))
  slp : sl ≠ p
  slr : sl ≠ row
  hky : H ky = some (.lst (keysV t1))
  kyp : ky ≠ p
  kyr : ky ≠ row
  hwr : H wr = some (.lst (wrongV ta le))
  wrp : wr ≠ p
  wrr : wr ≠ row
  ht1 : H t1 = some (.tup [.int 1])
  hta : H ta = some (.tup [.str "a"])
  hle : H le = some (.lst [])
  lep : le ≠ p
  ler : le ≠ row
theorem RfS.mv {p row sl ky wr t1 ta le : Addr} {cs : List Nat} {H H2 : Hp} (r : RfS p row sl ky wr t1 ta le cs H) (P : PenL H p) (m : Mv p H H2) : RfS p row sl ky wr t1 ta le cs H2 :=
  ⟨m _ _ r.hsl r.slp (fun _ z => nomatch z), r.slp, r.slr, m _ _ r.hky r.kyp (fun _ z => nomatch z), r.kyp, r.kyr, m _ _ r.hwr r.wrp (fun _ z => nomatch z), r.wrp, r.wrr, m.at P r.ht1 (fun _ z => nomatch z) (fun _ z => nomatch z), m.at P r.hta (fun _ z => nomatch z) (fun _ z => nomatch z), m _ _ r.hle r.lep (fun _ z => nomatch z), r.lep, r.ler⟩
theorem RfS.row {p row sl ky wr t1 ta le : Addr} {cs : List Nat} {H H2 : Hp} (r : RfS p row sl ky wr t1 ta le cs H) (P : PenL H row) (m : Mv row H H2) : RfS p row sl ky wr t1 ta le cs H2 :=
  ⟨m _ _ r.hsl r.slr (fun _ z => nomatch z), r.slp, r.slr, m _ _ r.hky r.kyr (fun _ z => nomatch z), r.kyp, r.kyr, m _ _ r.hwr r.wrr (fun _ z => nomatch z), r.wrp, r.wrr, m.at P r.ht1 (fun _ z => nomatch z) (fun _ z => nomatch z), m.at P r.hta (fun _ z => nomatch z) (fun _ z => nomatch z), m _ _ r.hle r.ler (fun _ z => nomatch z), r.lep, r.ler⟩
/-- a number's pair -/
def RowQ (H : Hp) (ta le : Addr) (pa : Addr) (q : NV) : Prop := RowE H pa (triN q) ∧ Held H q.2.1 q.2.2 ∧ (∀ a, q.2.1 = .ref a → a = ta ∨ a = le) ∧ ((wordD 1 1 q.2.2 = true ∧ ∃ c, isLt c ∧ q.2 = (.str (Sx [c]), .str (Sx [c]))) ∨ wordD 1 1 q.2.2 = false)
theorem RowQ.mv {p0 : Addr} {H H2 : Hp} {ta le pa : Addr} {q : NV} (r : RowQ H ta le pa q) (pl : PenL H p0) (n : ta ≠ p0 ∧ le ≠ p0) (m : Mv p0 H H2) : RowQ H2 ta le pa q :=
  ⟨r.1.mv pl m, held_mv r.2.1 (fun a e => (r.2.2.1 a e).elim (fun z => z ▸ n.1) (fun z => z ▸ n.2)) m, r.2.2⟩
theorem RowQ.same {H H2 : Hp} {ta le pa : Addr} {q : NV} (r : RowQ H ta le pa q) (s : Same H H2) : RowQ H2 ta le pa q := ⟨r.1.same s, r.2.1.same s, r.2.2⟩
theorem pair_left {α β : Type} {R : α → β → Prop} {xs : List α} {ys : List β} (h : Paired R xs ys) : ∀ y ∈ ys, ∃ x, x ∈ xs ∧ R x y := fun y hy => by
  obtain ⟨x, hx, r⟩ := pair_right h y hy
  exact ⟨x, hx, r⟩
def badK (kvs : List TriV) : List V := (kvs.filter fun e => !numD (dKy e.1)).map (·.2.1)
theorem badK_cons : ∀ {kvs : List TriV} {a : V} {r : List V}, badK kvs = a :: r → ∃ e ∈ kvs, e.2.1 = a ∧ (kvs.map fun e => dKy e.1).find? (fun d => !numD d) = some (dKy e.1)
  | [], a, r, h => nomatch h
  | e :: kvs, a, r, h => by
    unfold badK at h
    rw [List.filter_cons] at h
    rw [List.map_cons, List.find?_cons]
    cases w : numD (dKy e.1) with
    | true =>
      rw [w] at h
      obtain ⟨e2, h1, h2, h3⟩ := badK_cons (kvs := kvs) (show badK kvs = a :: r from h)
      exact ⟨e2, List.mem_cons_of_mem _ h1, h2, h3⟩
    | false =>
      rw [w] at h
      have h2 : e.2.1 :: badK kvs = a :: r := h
      rw [List.cons.injEq] at h2
      exact ⟨e, List.mem_cons_self, h2.1, rfl⟩
theorem badK_nil {kvs : List TriV} (h : badK kvs = []) : ∀ e ∈ kvs, numD (dKy e.1) = true := fun e he => by
  unfold badK at h
  rw [List.map_eq_nil_iff, List.filter_eq_nil_iff] at h
  have := h e he
  simpa using this
theorem keyV_ext {H H2 : Hp} {k : NestedKey} {x : V} (h : KeyV H k x) (e : ExtN H H2) : KeyV H2 k x := by
  cases h with
  | flat g => exact .flat g
  | tup ht g => exact .tup (e _ _ ht (fun _ z => nomatch z)) g
theorem mix_ext {w : World} {H H2 : Hp} {D : Addr} {kvs : List TriV} (m : MixD w H D kvs) (e : ExtN H H2) : MixD w H2 D kvs := ⟨e _ _ m.at_ (fun _ z => nomatch z), fun p hp => keyV_ext (m.keys p hp) e⟩
theorem held_ext {H H2 : Hp} {x : V} {d : PyData} (h : Held H x d) (e : ExtN H H2) : Held H2 x d := held_move h fun b o eb hb => by
  subst eb
  obtain ⟨o2, e2, n2⟩ := held_shape h
  rw [e2] at hb
  cases hb
  exact e _ _ e2 n2
theorem tabM_of {w : World} {H : Hp} {D : Addr} {kvs : List TriV} (m : MixD w H D kvs) (hk : ∀ e ∈ kvs, Held H e.2.1 (dKy e.1) ∧ (dKy e.1).canLay0 = true) (few : kvs.length ≤ 30) : TabM w H D (kvs.map fun e => dKy e.1) :=
  ⟨⟨kvs, m, by
    have go : ∀ l : List TriV, (∀ e ∈ l, Held H e.2.1 (dKy e.1)) → Paired (fun (p : NestedKey × V × V) (d : PyData) => Held H p.2.1 d) l (l.map fun e => dKy e.1) := fun l => by
      induction l with
      | nil => exact fun _ => .nil
      | cons a r ih => exact fun h => .cons (h a List.mem_cons_self) (ih fun e he => h e (List.mem_cons_of_mem _ he))
    exact go kvs fun e he => (hk e he).1⟩, by rw [List.length_map]; exact few, fun d hd => by
    obtain ⟨e, he, rfl⟩ := List.mem_map.mp hd
    exact (hk e he).2⟩
theorem held_shape3 {H : Hp} {a : Addr} {d : PyData} (h : Held H (.ref a) d) : ∃ o, H a = some o ∧ ∀ (w : World) (b : Addr) (kvs : List TriV), o ≠ MixO w b kvs := by
  rcases h.tl with f | ⟨b, xs, e, hb, l, g⟩ | ⟨b, kvs, e, hb, l, n, g⟩
  · rcases f with ⟨z, e⟩ | ⟨i, e⟩ | e | ⟨b, e⟩ <;> cases e
  · cases e
    rcases hb with hb | hb
    · exact ⟨_, hb, fun _ _ _ z => nomatch z⟩
    · exact ⟨_, hb, fun _ _ _ z => nomatch z⟩
  · cases e
    exact ⟨_, hb, fun _ _ _ z => nomatch z⟩
theorem held_mix {w : World} {H : Hp} {D a : Addr} {kvs : List TriV} {o : HO} {x : V} {d : PyData} (h : Held H x d) (hD : H D = some (MixO w a kvs)) : Held (upd H D o) x d := held_move h fun b o e hb => by
  subst e
  obtain ⟨o2, e2, n2⟩ := held_shape3 h
  rw [upd_ne fun z => ?_]
  · exact hb
  · rw [z, hD] at e2
    exact n2 _ _ _ (Option.some.inj e2).symm
theorem pen_mix {w : World} {H : Hp} {D a p l : Addr} {kvs : List TriV} {o : HO} {ns : List Int} {n : Nat} (P : PenAt H p l ns n) (hD : H D = some (MixO w a kvs)) : PenAt (upd H D o) p l ns n := by
  obtain ⟨s, g, h1, _⟩ := P.here
  exact P.other (ne_of hD h1 (fun z => nomatch z)) (ne_of hD P.nums (fun z => nomatch z))
theorem valV_nu {qs : List NV} (nd : (qs.map (·.1)).Nodup) {q : NV} (h : q ∈ qs) : valV (nuK (qs.map fun q => (q.1, q.2.1))) (Sum.inl q.1) = some q.2.1 := by
  unfold valV nuK
  induction qs with
  | nil => exact absurd h List.not_mem_nil
  | cons a r ih =>
    rw [List.map_cons, List.nodup_cons] at nd
    rw [List.map_cons, List.map_cons, List.find?_cons]
    rcases List.mem_cons.mp h with rfl | h
    · rw [show decide ((Sum.inl q.1 : Key) = Sum.inl q.1) = true from decide_eq_true rfl]
      rfl
    · have ne : a.1 ≠ q.1 := fun e => nd.1 (List.mem_map.mpr ⟨q, h, e.symm⟩)
      rw [show decide ((Sum.inl a.1 : Key) = Sum.inl q.1) = false from decide_eq_false fun e => ne (Sum.inl.inj e)]
      exact ih nd.2 h
theorem tabA_of {H : Hp} {D : Addr} {qs : List NV} (hD : H D = some (.dK (nuK (qs.map fun q => (q.1, q.2.1))))) (hq : ∀ q ∈ qs, Held H q.2.1 q.2.2) (nd : (qs.map (·.1)).Nodup) (rg : ∀ q ∈ qs, 0 ≤ q.1 ∧ q.1 ≤ 255) (few : qs.length ≤ 30) : TabA H D (dtN qs) := by
  refine ⟨⟨_, hD, ?_⟩, ?_, by unfold dtN; rw [List.length_map]; exact few, fun p hp => ?_⟩
  · clear nd rg few hD
    unfold nuK dtN
    rw [List.map_map]
    induction qs with
    | nil => exact .nil
    | cons a r ih => exact .cons ⟨rfl, hq a List.mem_cons_self⟩ (ih fun q h => hq q (List.mem_cons_of_mem _ h))
  · unfold dtN
    rw [List.map_map]
    rw [List.nodup_iff_pairwise_ne, List.pairwise_map] at nd ⊢
    exact nd.imp fun ne z => ne (Sum.inl.inj z)
  · obtain ⟨q, hq2, rfl⟩ := List.mem_map.mp hp
    have z := rg q hq2
    obtain ⟨k, e⟩ : ∃ k : Nat, q.1 = k := ⟨q.1.toNat, by omega⟩
    show NiceD (.int q.1)
    rw [e]
    exact nice_nat k (by omega)
theorem tab_of : ∀ {qs : List NV}, (∀ q ∈ qs, 0 ≤ q.1 ∧ q.1 ≤ 255 ∧ ∃ c, isLt c ∧ q.2.1 = .str (Sx [c])) → ∃ t : Tab, nuK (qs.map fun q => (q.1, q.2.1)) = encS t ∧ t.map (fun p => ((p.1 : Nat) : Int)) = qs.map (·.1) ∧ (∀ p ∈ t, p.1 < 256) ∧ ∀ p ∈ t, ∃ c, p.2 = [c] ∧ isLt c
  | [], _ => ⟨[], rfl, rfl, (fun _ z => nomatch z), (fun _ z => nomatch z)⟩
  | q :: qs, h => by
    obtain ⟨t, h1, h2, h3, h4⟩ := tab_of fun q2 hq2 => h q2 (List.mem_cons_of_mem _ hq2)
    obtain ⟨l0, l1, c, hc, e⟩ := h q List.mem_cons_self
    have eq : ((q.1.toNat : Nat) : Int) = q.1 := Int.toNat_of_nonneg l0
    refine ⟨(q.1.toNat, [c]) :: t, ?_, ?_, ?_, ?_⟩
    · show (Sum.inl q.1, q.2.1) :: nuK (qs.map fun q => (q.1, q.2.1)) = (Sum.inl ((q.1.toNat : Nat) : Int), V.str (Sx [c])) :: encS t
      rw [h1, eq, e]
    · rw [List.map_cons, List.map_cons, h2]
      show ((q.1.toNat : Nat) : Int) :: _ = _
      rw [eq]
    · intro p hp
      rcases List.mem_cons.mp hp with rfl | z
      · show q.1.toNat < 256
        omega
      · exact h3 p z
    · intro p hp
      rcases List.mem_cons.mp hp with rfl | z
      · exact ⟨c, rfl, hc⟩
      · exact h4 p z
def hide (D : Addr) (H : Hp) : Hp := fun b => if b = D then none else H b
theorem hide_same {D : Addr} {H H2 : Hp} (s : Same H H2) : Same (hide D H) (hide D H2) := fun b o e => by
  unfold hide at e ⊢
  by_cases h : b = D
  · rw [if_pos h] at e
    cases e
  · rw [if_neg h] at e ⊢
    exact s _ _ e
theorem hide_put {D : Addr} {H : Hp} {o : HO} : Same (hide D H) (upd H D o) := fun b u e => by
  unfold hide at e
  by_cases h : b = D
  · rw [if_pos h] at e
    cases e
  · rw [if_neg h] at e
    rw [upd_ne h]
    exact e
theorem hide_new {D : Addr} {H : Hp} {o : HO} (n : H D = none) : Same H (hide D (upd H D o)) := fun b u e => by
  have h : b ≠ D := ne_of_none e n
  unfold hide
  rw [if_neg h, upd_ne h]
  exact e
theorem row_tri {H : Hp} {ta le : Addr} {ps : List Addr} {qs : List NV} (h : Paired (RowQ H ta le) ps qs) : Paired (RowE H) ps (qs.map triN) := by
  induction h with
  | nil => exact .nil
  | cons r _ ih => exact .cons r.1 ih
def spRefused (TL : List (Addr × Str)) : Sp := fun vs H Q _ => ∃ (p l sl : Addr) (ns : List Int) (n : Nat) (cs : List Nat), vs = [.ref p, .ref sl] ∧ PenAt H p l ns (n + 40) ∧ Tabs TL H ∧ H sl = some (.lst (lets cs)) ∧ sl ≠ p ∧ cs ≠ [] ∧ cs.length ≤ 26 ∧ (∀ c ∈ cs, isLt c) ∧
  ∀ H2, PenAt H2 p l ns n → Tabs TL H2 → Q (.bl true) H2
section
variable {P : Program} {w : World} {K : PySem.W.Frag} {mg : Str → Option Value} {base : Heap} {CW CR CE g c PT : Addr} {Cz : Nat → Addr} {TL : List (Addr × Str)}
theorem ok_refused {f : Addr} {fd : FuncData} (F : FunC K "_law_refused_right" "_law_refused_right" s__law_refused_right f c fd) (T : Tc K mg CW CR CE Cz) (sys : SysIn base) (D_draw : Df P w K mg base 1 "_law_draw" spDraw) (D_pick : Df P w K mg base 2 "_law_pick" (spPick K)) (D_shuffled : Df P w K mg base 2 "_law_shuffled" spShuf)
    (D_is_number : Df P w K mg base 1 "_law_is_number" spLawNum) (D_tells : DfG P w K mg base CX0 10 "_law_tells" (spTells CR)) (D_mk : MkS P w K mg base CR Cz) (D_heard : HearD K mg g) (TB : TabT base mg TL (("_law_refused_right" : Str) ++ ".<locals>.") c PT) : FnG P w K mg base CX0 11 f fd ["_law_pen_here", "_law_some"] (spRefused TL) := by
  refine F.okG sc__law_refused_right (fun vs H Q E h => ?_) (fun A outer s H vs Q E quiet hr h => ?_)
  · obtain ⟨p, l, sl, ns, n, cs, rfl, _⟩ := h
    rfl
  · obtain ⟨p, l, sl, ns, n, cs, rfl, PA, tb, hsl, slp, cs0, cs26, isl, q⟩ := h
    refine ⟨_, (pss_cons (ps_par (i := 2) (j := 3) (by rfl) sc__law_refused_right.nd rfl rfl (by decide) rfl rfl (pa_cons (pe_lst (pa_cons pe_non (pa_cons pe_str (pa_cons pe_int (pa_cons (pe_un un_neg pe_int) (pa_cons (pe_tup (pa_cons pe_int pa_nil)) (pa_cons pe_str (pa_cons (pe_op op_pow pe_int pe_int) pa_nil)))))))) (pa_cons (pe_lst (pa_cons pe_non (pa_cons pe_int (pa_cons pe_str (pa_cons pe_str (pa_cons pe_str (pa_cons (pe_tup (pa_cons pe_str pa_nil)) (pa_cons (pe_lst pa_nil) (pa_cons pe_bl pa_nil))))))))) pa_nil)) (by rfl))
      (pss_cons (ps_par (i := 4) (j := 5) (by rfl) sc__law_refused_right.nd rfl rfl (by decide) rfl rfl (pa_cons (pe_lst pa_nil) (pa_cons (pe_lst pa_nil) pa_nil)) (by rfl))
      (pss_cons (ps_for PassesOwn.never rfl (pi_list (pe_c D_shuffled hr (by decide) (by rfl) (pa_cons (pv 0) (pa_cons (pe_lst (pa_cons pe_int (pa_cons pe_int (pa_cons pe_int (pa_cons pe_int (pa_cons pe_int pa_nil)))))) pa_nil)))) (pg_name (i := 6) sc__law_refused_right.nd rfl (.inl rfl))
        (pss_cons (ps_set (i := 7) sc__law_refused_right.nd rfl (.inl rfl) (pe_cmpR op_eq (pe_c D_draw hr (by decide) (by rfl) (pa_cons (pv 0) (pa_cons pe_int pa_nil))) pe_int (nomark _)))
        (pss_cons (ps_expr (pe_bmK (K := K) rfl PySem.F.plainAttrs_list PySem.F.slot_list_append PySem.F.type_list_append mt_append (pv 4) (pa_cons (pe_tup (pa_cons (pv 6) (pa_cons (pe_ifExp (pt_val (pv 7)) (pe_c D_pick hr (by decide) (by rfl) (pa_cons (pv 0) (pa_cons (pv 3) pa_nil))) (pe_c D_pick hr (by decide) (by rfl) (pa_cons (pv 0) (pa_cons (pv 1) pa_nil)))) pa_nil))) pa_nil)))
        (pss_one (ps_set (i := 5) sc__law_refused_right.nd rfl (.inl rfl) (pe_op op_cat (pv 5) (pe_op op_rep (pe_lst (pa_cons (pv 6) pa_nil)) (pe_callTy call_int1 (by rfl) T.int (by decide +kernel) (pa_cons (pv 7) pa_nil)))))))))
      (pss_cons (ps_for PassesOwn.never rfl (pi_range1 (by rfl) T.range (pa_cons (pe_c D_draw hr (by decide) (by rfl) (pa_cons (pv 0) (pa_cons pe_int pa_nil))) pa_nil)) (pg_name (i := 8) sc__law_refused_right.nd rfl (.inl rfl))
        (pss_cons (ps_set (i := 9) sc__law_refused_right.nd rfl (.inl rfl) (pe_c D_draw hr (by decide) (by rfl) (pa_cons (pv 0) (pa_cons (pe_op op_add (pe_callB (call_len_seqK (K := K) rfl) (by rfl) T.len (by decide +kernel) (pa_cons (pv 4) pa_nil)) pe_int) pa_nil))))
        (pss_one (ps_set (i := 4) sc__law_refused_right.nd rfl (.inl rfl) (pe_op op_cat (pe_op op_cat (pe_slice (sl_listK (K := K) rfl) (pv 4) po_none (po_some (pv 9))) (pe_lst (pa_cons (pe_tup (pa_cons (pe_c D_pick hr (by decide) (by rfl) (pa_cons (pv 0) (pa_cons (pv 2) pa_nil))) (pa_cons pe_str pa_nil))) pa_nil))) (pe_slice (sl_listK (K := K) rfl) (pv 4) (po_some (pv 9)) po_none))))))
      (pss_cons (ps_asg (pe_tup (pa_cons (pe_callTy (call_dictM rfl (hu10_of hr)) (by rfl) T.dict (by decide +kernel) (pa_cons (pv 4) pa_nil)) (pa_cons pe_non pa_nil))) (pg_tup (by rfl) (pgs_cons (pg_name (i := 10) sc__law_refused_right.nd rfl (.inr rfl)) (pgs_cons (pg_name (i := 11) sc__law_refused_right.nd rfl (.inl rfl)) pgs_nil))))
      (pss_cons (ps_lock (ps_setLc (i := 12) (own := [("_law_key", 14)]) (g := gName 14) (by rfl) sc__law_refused_right.nd rfl rfl (sw_true rfl rfl rfl (by decide +kernel)) (pi_keysX (pv 10)) (blkOk_by (own := [("_law_key", 14)]) (N := n__law_refused_right) (sc := defScope s__law_refused_right) (by decide +kernel)) (fun _ _ _ _ _ => (pg_name (i := 14) sc__law_refused_right.nd rfl (.inl rfl))) (fun _ _ _ _ _ => (pts_one (pt_not (pt_val (pe_c D_is_number hr (by decide) (by rfl) (pa_cons (pv 14) pa_nil)))))) (fun _ _ _ _ _ => (pv 14))))
      (pss_cons (ps_if (pt_cmpR (op_neNilK (K := K) rfl hr.units0) (pv 12) (pe_lst pa_nil) (nomark _))
        (pss_one (ps_set (i := 11) sc__law_refused_right.nd rfl (.inl rfl) (pe_tup (pa_cons pe_str (pa_cons (pe_callB (call_reprW sys quiet hr) (by rfl) T.repr (by decide +kernel) (pa_cons (pe_ix (ix_listK (K := K) rfl) (pv 12) pe_int (fun _ _ => rfl)) pa_nil)) pa_nil)))))
        (pss_one (ps_if (pt_cmpR (op_neNilK (K := K) rfl hr.units0) (pv 5) (pe_nums (pe_lst pa_nil)) (nomark _))
          (pss_one (ps_set (i := 11) sc__law_refused_right.nd rfl (.inl rfl) (pe_tup (pa_cons pe_str (pa_cons (pe_callB (call_reprW sys quiet hr) (by rfl) T.repr (by decide +kernel) (pa_cons (pe_dget (hu_of hr) (pv 10) (pe_ix (ix_listK (K := K) rfl) (pe_callB cr_sorted (by rfl) T.sorted (by decide +kernel) (pa_cons (pe_lc (own := [("_law_key", 14)]) (g := gName 14) (by rfl) sc__law_refused_right.nd (pi_list (pv 5)) (blkOk_by (own := [("_law_key", 14)]) (N := n__law_refused_right) (sc := defScope s__law_refused_right) (by decide +kernel)) (fun _ _ _ _ _ => (pg_name (i := 14) sc__law_refused_right.nd rfl (.inl rfl))) (fun _ _ _ _ _ => pts_nil) (fun _ _ _ _ _ => (pe_callTy call_int1 (by rfl) T.int (by decide +kernel) (pa_cons (pv 14) pa_nil)))) pa_nil)) pe_int (fun _ _ => rfl)) (fun _ _ => rfl)) pa_nil)) pa_nil)))))
          pss_nil)))
      (pss_cons (ps_set (i := 13) sc__law_refused_right.nd rfl (.inl rfl) (pe_heardG (k := 7) T D_heard TB sys quiet hr (by decide) rfl rfl (by rfl) (lamS_by (sc := defScope s__law_refused_right) (by decide +kernel)) (by rfl) (fun _ _ _ _ _ => rfl) (fun A2 o2 s2 H2 E2 f2 c2 quiet2 hr2 => (pe_mkS (w := w) rfl D_mk quiet2 (passTk (takes_of rfl rfl rfl rfl)) hr2 (by decide) (by rfl) (pa_cons (pv 10) pa_nil)))))
      (pss_one (ps_ret (pe_ifExp (pt_cmpR op_notN (pv 11) pe_non (nomark _)) (pe_cmpR (op_eqDK (K := K) rfl hr.units) (pv 13) (pv 11) (nomark _)) (pe_and (pe_callB call_isi (by rfl) T.isinstance (by decide +kernel) (pa_cons (pv 13) (pa_cons (pe_bltn (v := .ty "list") (by rfl) T.list (by decide +kernel) rfl) pa_nil))) (pe_one (pe_cG D_tells quiet pass0 hr (by decide) (by rfl) (pa_cons (pe_ix (ix_listK (K := K) rfl) (pv 13) pe_int (fun _ _ => rfl)) (pa_cons (pv 10) pa_nil)))))))))))))))), ?_⟩
    -- what keys and what values
    refine ⟨1, rfl, by show 1 ≤ sizeLine; decide, fun t1 n1 => ⟨10, 9, rfl, rfl, ⟨by decide, by decide, by decide⟩, by show 7 ≤ sizeLine; decide, fun ky nky => ⟨by show 1 ≤ sizeLine; decide, fun ta nta => ⟨Nat.zero_le _, fun le nle => ⟨by show 8 ≤ sizeLine; decide, fun wr nwr => ?_⟩⟩⟩⟩⟩
    replace nta : (upd (upd H t1 (.tup [.int 1])) ky (.lst (keysV t1))) ta = none := nta
    replace nle : (upd (upd (upd H t1 (.tup [.int 1])) ky (.lst (keysV t1))) ta (.tup [.str "a"])) le = none := nle
    replace nwr : (upd (upd (upd (upd H t1 (.tup [.int 1])) ky (.lst (keysV t1))) ta (.tup [.str "a"])) le (.lst [])) wr = none := nwr
    have g1 := same_put (s := Same.refl H) (o := .tup [.int 1]) n1
    have g2 := same_put (s := Same.refl _) (o := .lst (keysV t1)) nky
    have g3 := same_put (s := Same.refl _) (o := .tup [.str "a"]) nta
    have g4 := same_put (s := Same.refl _) (o := .lst []) nle
    have g5 := same_put (s := Same.refl _) (o := .lst (wrongV ta le)) nwr
    have ht1 := g5 _ _ (g4 _ _ (g3 _ _ (g2 _ _ (show upd H t1 (.tup [.int 1]) t1 = _ from upd_same))))
    have hky := g5 _ _ (g4 _ _ (g3 _ _ (show upd (upd H t1 (.tup [.int 1])) ky (.lst (keysV t1)) ky = _ from upd_same)))
    have hta := g5 _ _ (g4 _ _ (show upd (upd (upd H t1 (.tup [.int 1])) ky (.lst (keysV t1))) ta (.tup [.str "a"]) ta = _ from upd_same))
    have hle := g5 _ _ (show upd (upd (upd (upd H t1 (.tup [.int 1])) ky (.lst (keysV t1))) ta (.tup [.str "a"])) le (.lst []) le = _ from upd_same)
    have hwr : upd (upd (upd (upd (upd H t1 (.tup [.int 1])) ky (.lst (keysV t1))) ta (.tup [.str "a"])) le (.lst [])) wr (.lst (wrongV ta le)) wr = _ := upd_same
    have s1 : Same H (upd (upd (upd (upd (upd H t1 (.tup [.int 1])) ky (.lst (keysV t1))) ta (.tup [.str "a"])) le (.lst [])) wr (.lst (wrongV ta le))) := fun b o e => g5 _ _ (g4 _ _ (g3 _ _ (g2 _ _ (g1 _ _ e))))
    have P1 := pen_ext PA (ExtN.of g1)
    have kyp := P1.nep nky
    have P2 := pen_ext P1 (ExtN.of g2)
    have P3 := pen_ext P2 (ExtN.of g3)
    have lep := P3.nep nle
    have P4 := pen_ext P3 (ExtN.of g4)
    have wrp := P4.nep nwr
    have PA1 := pen_ext P4 (ExtN.of g5)
    have tb1 := tb.ext s1
    have hsl1 := s1 _ _ hsl
    refine ⟨_, _, rfl, ?_⟩
    show Ends.nx _ _ (upd (upd (upd (upd (upd H t1 (.tup [.int 1])) ky (.lst (keysV t1))) ta (.tup [.str "a"])) le (.lst [])) wr (.lst (wrongV ta le)))
    generalize upd (upd (upd (upd (upd H t1 (.tup [.int 1])) ky (.lst (keysV t1))) ta (.tup [.str "a"])) le (.lst [])) wr (.lst (wrongV ta le)) = H1 at ht1 hky hta hle hwr PA1 tb1 hsl1 s1 ⊢
    clear g1 g2 g3 g4 g5 n1 nky nta nle nwr P1 P2 P3 P4
    -- the row
    refine ⟨Nat.zero_le _, fun row nrow => ⟨Nat.zero_le _, fun od nod => ⟨_, _, rfl, ?_⟩⟩⟩
    have g1 := same_put (s := Same.refl H1) (o := .lst []) nrow
    have g2 := same_put (s := Same.refl _) (o := .lst []) nod
    have hrow := g2 _ _ (show upd H1 row (.lst []) row = _ from upd_same)
    have hod : upd (upd H1 row (.lst [])) od (.lst []) od = _ := upd_same
    have s2 : Same H1 (upd (upd H1 row (.lst [])) od (.lst [])) := fun b o e => g2 _ _ (g1 _ _ e)
    have rowp := PA1.nep nrow
    have rowl := PA1.nel nrow
    have P1 := pen_ext PA1 (ExtN.of g1)
    have odp := P1.nep nod
    have PA2 := pen_ext PA1 (ExtN.of s2)
    have tb2 := tb1.ext s2
    have kyr := ne_of_none hky nrow
    have ler := ne_of_none hle nrow
    have wrr := ne_of_none hwr nrow
    have slr := ne_of_none hsl1 nrow
    have odr := Ne.symm (ne_of_none (show upd H1 row (.lst []) row = _ from upd_same) nod)
    have ht2 := s2 _ _ ht1
    have hky2 := s2 _ _ hky
    have hta2 := s2 _ _ hta
    have hle2 := s2 _ _ hle
    have hwr2 := s2 _ _ hwr
    have hsl2 := s2 _ _ hsl1
    generalize upd (upd H1 row (.lst [])) od (.lst []) = H2 at hrow hod PA2 tb2 ht2 hky2 hta2 hle2 hwr2 hsl2 s2 ⊢
    clear g1 g2 P1 nrow nod s2 ht1 hky hta hle hwr hsl1 PA1 tb1 s1 PA tb hsl
    have R2 : RfS p row sl ky wr t1 ta le cs H2 := ⟨hsl2, slp, slr, hky2, kyp, kyr, hwr2, wrp, wrr, ht2, hta2, hle2, lep, ler⟩
    clear kyr ler wrr slr ht2 hky2 hta2 hle2 hwr2 hsl2 kyp lep wrp
    refine ⟨_, rfl, by show 5 ≤ sizeLine; decide, fun l5 nl5 => ⟨p, l, l5, ns, n + 35, nums [0, 5, 97, 255, 4], rfl, PA2.new nl5, upd_same, PA2.nep nl5, by decide, fun L ys H3 pm PA3 fr3 nL hL => ?_⟩⟩
    have s5 := same_put (s := Same.refl H2) (o := .lst (nums [0, 5, 97, 255, 4])) nl5
    have P5 := pen_ext PA2 (ExtN.of s5)
    have R3 := (R2.mv PA2.pl (Mv.ofSame s5)).mv P5.pl (Mv.ofFr fr3)
    have tb3 := tabs_fr (tb2.ext s5) P5.pl fr3
    have hrow3 := fr3 _ _ (s5 _ _ hrow) rowp
    have hod3 := fr3 _ _ (s5 _ _ hod) odp
    have Lp := P5.nep nL
    have Lr := ne_of_none (s5 _ _ hrow) nL
    obtain ⟨ds, rfl, pd⟩ := un_nums pm
    have dl : ds.length = 5 := pd.length_eq
    have dnd : ds.Nodup := pd.nodup_iff.mpr (by decide)
    have d256 : ∀ k ∈ ds, k ≤ 255 := fun k hk => (show ∀ k ∈ [0, 5, 97, 255, 4], k ≤ 255 by decide) k (pd.mem_iff.mp hk)
    clear s5 P5 nl5 nL R2 tb2 hrow hod PA2 fr3 pm pd
    refine ⟨L, rfl, ⟨_, SqL.of hL⟩, for_it (walk_list (K := K) (a := L) (xs := nums ds)) (fun i σ H4 => ∃ (od : Addr) (qs : List NV) (ps : List Addr), (∃ v6 v7 v8 v9 v10 v11 v12 v13 v14 : Option V, σ = [some (.ref p), some (.ref sl), some (.ref ky), some (.ref wr), some (.ref row), some (.ref od), v6, v7, v8, v9, v10, v11, v12, v13, v14]) ∧
      PenAt H4 p l ns (n + 20 + 2 * (5 - i)) ∧ Tabs TL H4 ∧ RfS p row sl ky wr t1 ta le cs H4 ∧ H4 L = some (.lst (nums ds)) ∧ qs.map (·.1) = (ds.take i).map (fun k => ((k : Nat) : Int)) ∧ H4 row = some (.lst (ps.map V.ref)) ∧ Paired (RowQ H4 ta le) ps qs ∧ H4 od = some (.lst ((oddN qs).map V.int)) ∧ od ≠ p ∧ od ≠ row) ?_ ?_ ?_ ?_⟩
    · exact ⟨od, [], [], ⟨_, _, _, _, _, _, _, _, _, rfl⟩, PA3.less (by omega), tb3, R3, hL, rfl, hrow3, .nil, hod3, odp, odr⟩
    · rintro i σ H4 hi ⟨od, qs, ps, _, _, _, _, h, _⟩
      exact SqL.of h
    · rintro i x σ H40 H4 hi ⟨od, qs, ps, ⟨v6, v7, v8, v9, v10, v11, v12, v13, v14, rfl⟩, PA4, tb4, R4, hL4, eqs, hrow4, pr4, hod4, odp, odr⟩ ⟨rfl, hx⟩
      obtain ⟨hi', rfl⟩ := nums_at hx
      have kd := d256 _ (List.getElem_mem hi')
      have i5 : i < 5 := by omega
      have eb : n + 20 + 2 * (5 - i) = (n + 20 + 2 * (5 - (i + 1))) + 1 + 1 := by omega
      rw [eb] at PA4
      generalize n + 20 + 2 * (5 - (i + 1)) = m at PA4 ⊢
      refine ⟨_, rfl, p, l, ns, m + 1, 3, rfl, PA4, by decide, by decide, fun v0 H5 v00 v03 PA5 fr5 => ⟨rfl, ?_⟩⟩
      obtain ⟨bw, ebw⟩ : ∃ bw, bw = decide (V.int v0 = V.int 0) := ⟨_, rfl⟩
      show Ends.nx _ _ H5
      rw [← ebw]
      clear ebw
      have R5 := R4.mv PA4.pl (Mv.ofFr fr5)
      have tb5 := tabs_fr tb4 PA4.pl fr5
      have hL5 := fr5 _ _ hL4 Lp
      have hrow5 := fr5 _ _ hrow4 rowp
      have hod5 := fr5 _ _ hod4 odp
      have tan : ta ≠ p := by
        obtain ⟨xs, hp⟩ := PA4.pl
        exact ne_of R4.hta hp (fun z => nomatch z)
      have tar : ta ≠ row := ne_of R4.hta hrow4 (fun z => nomatch z)
      have pr5 := pair_imp pr4 fun _ _ z => z.mv PA4.pl ⟨tan, R4.lep⟩ (Mv.ofFr fr5)
      clear R4 tb4 hL4 hrow4 hod4 pr4 PA4 fr5
      refine ⟨_, rfl, .inl ⟨rfl, _, SqL.of hrow5⟩, _, rfl, ?_⟩
      refine via (fun v H6 => ∃ d, Held H6 v d ∧ (∀ a, v = .ref a → a = ta ∨ a = le) ∧ ((wordD 1 1 d = true ∧ ∃ c, isLt c ∧ (v, d) = (.str (Sx [c]), .str (Sx [c]))) ∨ wordD 1 1 d = false) ∧ wordD 1 1 d = !bw ∧ PenAt H6 p l ns m ∧ Fr p H5 H6) (fun R' hR => ?_) (fun v H6 z => ?_)
      · cases bw with
        | true =>
          refine ⟨_, rfl, true, rfl, iteT ⟨_, rfl, _, rfl, p, l, wr, ns, m, _, rfl, PA5, SqL.of R5.hwr, by show 0 < 8; decide, by show 8 < 1000; decide, fun H' f => SqL.of (f _ _ R5.hwr R5.wrp), fun v H6 hv PA6 fr6 => ?_⟩⟩
          have R6 := R5.mv PA5.pl (Mv.ofFr fr6)
          unfold wrongV at hv
          simp only [List.mem_cons, List.not_mem_nil, or_false] at hv
          rcases hv with rfl | rfl | rfl | rfl | rfl | rfl | rfl | rfl
          · exact hR _ _ ⟨_, held_non, fun a e => (nomatch e), .inr rfl, rfl, PA6, fr6⟩
          · exact hR _ _ ⟨_, held_int (nice_nat 0 (by decide)), fun a e => (nomatch e), .inr rfl, rfl, PA6, fr6⟩
          · exact hR _ _ ⟨_, held_str (by decide +kernel), fun a e => (nomatch e), .inr (by decide +kernel), by decide +kernel, PA6, fr6⟩
          · exact hR _ _ ⟨_, held_str (by decide +kernel), fun a e => (nomatch e), .inr (by decide +kernel), by decide +kernel, PA6, fr6⟩
          · exact hR _ _ ⟨_, held_str (by decide +kernel), fun a e => (nomatch e), .inr (by decide +kernel), by decide +kernel, PA6, fr6⟩
          · exact hR _ _ ⟨_, held_ta R6.hta, fun a e => by cases e; exact .inl rfl, .inr rfl, rfl, PA6, fr6⟩
          · exact hR _ _ ⟨_, held_l0 R6.hle, fun a e => by cases e; exact .inr rfl, .inr rfl, rfl, PA6, fr6⟩
          · exact hR _ _ ⟨_, held_bl true, fun a e => (nomatch e), .inr rfl, rfl, PA6, fr6⟩
        | false =>
          have c1 : 0 < cs.length := List.length_pos_iff.mpr cs0
          refine ⟨_, rfl, false, rfl, iteF ⟨_, rfl, _, rfl, p, l, sl, ns, m, _, rfl, PA5, SqL.of R5.hsl, by rw [lets_len]; omega, by rw [lets_len]; omega, fun H' f => SqL.of (f _ _ R5.hsl R5.slp), fun v H6 hv PA6 fr6 => ?_⟩⟩
          obtain ⟨ch, hch, rfl⟩ := lets_mem hv
          have hw : wordD 1 1 (.str (Sx [ch])) = true := word_let.mpr ⟨ch, abc_mem.mpr (isl ch hch), rfl⟩
          exact hR _ _ ⟨_, held_let (isl ch hch), fun a e => (nomatch e), .inl ⟨hw, ch, isl ch hch, rfl⟩, hw, PA6, fr6⟩
      obtain ⟨d, hd6, hdr, hdw, hdb, PA6, fr6⟩ := z
      have R6 := R5.mv PA5.pl (Mv.ofFr fr6)
      have tb6 := tabs_fr tb5 PA5.pl fr6
      have hL6 := fr6 _ _ hL5 Lp
      have hrow6 := fr6 _ _ hrow5 rowp
      have hod6 := fr6 _ _ hod5 odp
      have pr6 := pair_imp pr5 fun _ _ z => z.mv PA5.pl ⟨tan, R5.lep⟩ (Mv.ofFr fr6)
      have eps := pair_len pr6
      have eqn : qs.length ≤ 5 := by
        have z := congrArg List.length eqs
        rw [List.length_map, List.length_map, List.length_take] at z
        omega
      clear R5 tb5 hL5 hrow5 hod5 pr5 PA5 fr6 hi hx
      refine ⟨by show 2 ≤ sizeLine; decide, fun pa npa => ⟨row, _, _, rfl, rfl, by rw [upd_ne (ne_of_none hrow6 npa)]; exact hrow6, by rw [List.length_map, sizeLine_eq]; omega, ?_⟩⟩
      have sp := same_put (s := Same.refl H6) (o := .tup [.int ((ds[i] : Nat) : Int), v]) npa
      have hpa : upd H6 pa (.tup [.int ((ds[i] : Nat) : Int), v]) pa = _ := upd_same
      have PA7 := pen_ext PA6 (ExtN.of sp)
      have gm : Mv row (upd H6 pa (.tup [.int ((ds[i] : Nat) : Int), v])) (upd (upd H6 pa (.tup [.int ((ds[i] : Nat) : Int), v])) row (.lst (ps.map V.ref ++ [.ref pa]))) := grow_mv
      have hrow7 := sp _ _ hrow6
      have par : pa ≠ row := fun e => by
        rw [e, hrow6] at npa
        cases npa
      have e7 : RowQ (upd H6 pa (.tup [.int ((ds[i] : Nat) : Int), v])) ta le pa (((ds[i] : Nat) : Int), v, d) := ⟨⟨hpa, .flat (.int _), held_int (nice_nat _ (by omega)), by show (PyData.int _).canLay0 = true; simp [PyData.canLay0]⟩, hd6.same sp, hdr, hdw.imp id id⟩
      have R7 := (R6.mv PA6.pl (Mv.ofSame sp)).row ⟨_, hrow7⟩ gm
      have tb7 := tabs_fr (tb6.ext sp) ⟨_, hrow7⟩ (Fr.at (o := .lst (ps.map V.ref ++ [.ref pa])))
      have pr7 : Paired (RowQ (upd (upd H6 pa (.tup [.int ((ds[i] : Nat) : Int), v])) row (.lst (ps.map V.ref ++ [.ref pa]))) ta le) (ps ++ [pa]) (qs ++ [(((ds[i] : Nat) : Int), v, d)]) :=
        (pair_imp pr6 fun _ _ z => (z.same sp).mv ⟨_, hrow7⟩ ⟨tar, R6.ler⟩ gm).snoc (e7.mv ⟨_, hrow7⟩ ⟨tar, R6.ler⟩ gm)
      have PA8 := PA7.other (o := .lst (ps.map V.ref ++ [.ref pa])) rowp rowl
      have hL7 := gm _ _ (sp _ _ hL6) (Ne.symm Lr) (fun _ z => nomatch z)
      have hod7 := gm _ _ (sp _ _ hod6) odr (fun _ z => nomatch z)
      have hrow8 : upd (upd H6 pa (.tup [.int ((ds[i] : Nat) : Int), v])) row (.lst (ps.map V.ref ++ [.ref pa])) row = some (.lst ((ps ++ [pa]).map V.ref)) := by
        rw [upd_same, List.map_append]
        rfl
      dsimp only
      generalize upd (upd H6 pa (.tup [.int ((ds[i] : Nat) : Int), v])) row (.lst (ps.map V.ref ++ [.ref pa])) = H8 at R7 tb7 pr7 PA8 hL7 hod7 hrow8 ⊢
      clear sp hpa PA7 gm hrow7 e7 R6 tb6 pr6 PA6 hL6 hod6 hrow6
      -- the odd ones
      have lo : (oddN qs).length ≤ 5 := by
        unfold oddN
        rw [List.length_map]
        exact Nat.le_trans (List.length_filter_le ..) eqn
      refine ⟨_, rfl, _, rfl, by show 1 ≤ sizeLine; decide, fun o1 no1 => ⟨_, rfl, .inr ⟨bw, rfl, o1, _, _, rfl, rfl, upd_same, by cases bw <;> decide, by cases bw <;> decide, by rw [sizeLine_eq]; cases bw <;> simp, fun o2 no2 => ⟨od, o2, (oddN qs).map V.int, (List.replicate (if bw = true then 1 else 0 : Int).toNat [V.int ((ds[i] : Nat) : Int)]).flatten, rfl, rfl, ?_, upd_same, ?_, fun o3 no3 => ?_⟩⟩⟩⟩
      · rw [upd_ne (ne_of_none (show upd H8 o1 (.lst [.int ((ds[i] : Nat) : Int)]) od = _ by rw [upd_ne (ne_of_none hod7 no1)]; exact hod7) no2), upd_ne (ne_of_none hod7 no1)]
        exact hod7
      · rw [List.length_map, sizeLine_eq]
        cases bw <;> (simp; omega)
      have q1 := same_put (s := Same.refl H8) (o := .lst [V.int ((ds[i] : Nat) : Int)]) no1
      have q2 := same_put (s := q1) (o := .lst (List.replicate (if bw = true then 1 else 0 : Int).toNat [V.int ((ds[i] : Nat) : Int)]).flatten) no2
      have q3 := same_put (s := q2) (o := .lst ((oddN qs).map V.int ++ (List.replicate (if bw = true then 1 else 0 : Int).toNat [V.int ((ds[i] : Nat) : Int)]).flatten)) no3
      have eod : (oddN (qs ++ [(((ds[i] : Nat) : Int), v, d)])).map V.int = (oddN qs).map V.int ++ (List.replicate (if bw = true then 1 else 0 : Int).toNat [V.int ((ds[i] : Nat) : Int)]).flatten := by
        unfold oddN
        rw [List.filter_append, List.map_append, List.map_append]
        congr 1
        rw [List.filter_cons, hdb]
        cases bw <;> rfl
      refine ⟨o3, _, _, ⟨_, _, _, _, _, _, _, _, _, rfl⟩, pen_ext PA8 (ExtN.of q3), tb7.ext q3, R7.mv PA8.pl (Mv.ofSame q3), q3 _ _ hL7, ?_, q3 _ _ hrow8, pair_imp pr7 fun _ _ z => z.same q3, ?_, ?_, ?_⟩
      · rw [List.map_append, eqs, List.take_add_one, List.getElem?_eq_getElem hi', List.map_append]
        rfl
      · rw [eod, upd_same]
      · exact (pen_ext PA8 (ExtN.of q2)).nep no3
      · exact Ne.symm (ne_of_none (q2 _ _ hrow8) no3)
    · rintro σ H4 ⟨od, qs, ps, ⟨v6, v7, v8, v9, v10, v11, v12, v13, v14, rfl⟩, PA4, tb4, R4, _, eqs, hrow4, pr4, hod4, odp, odr⟩
      have tan : ta ≠ p := by
        obtain ⟨xs, hp⟩ := PA4.pl
        exact ne_of R4.hta hp (fun z => nomatch z)
      have eql : qs.length = 5 := by
        have z := congrArg List.length eqs
        rw [List.length_map, List.length_map, List.length_take, nums_len, dl] at z
        exact z
      clear rowl Lp Lr hrow3 hod3 R3 tb3 PA3 hL
      -- bad keys put in
      refine ⟨_, rfl, p, l, ns, n + 19, 3, rfl, PA4.less (by omega), by decide, by decide, fun cnt H5 c0 c1 PA5 fr5 => ⟨cnt, rfl, by omega, by omega, ?_⟩⟩
      have R5 := R4.mv PA4.pl (Mv.ofFr fr5)
      have tb5 := tabs_fr tb4 PA4.pl fr5
      have hrow5 := fr5 _ _ hrow4 rowp
      have hod5 := fr5 _ _ hod4 odp
      have pr5 := pair_imp pr4 fun _ _ z => z.mv PA4.pl ⟨tan, R4.lep⟩ (Mv.ofFr fr5)
      clear R4 tb4 hrow4 hod4 pr4 PA4 fr5
      refine for_it (walk_range (lo := 0) (n := cnt.toNat)) (fun j σ H6 => ∃ (rw_ : Addr) (es : List TriV) (ps : List Addr), (∃ v6 v7 v8 v9 v10 v11 v12 v13 v14 : Option V, σ = [some (.ref p), some (.ref sl), some (.ref ky), some (.ref wr), some (.ref rw_), some (.ref od), v6, v7, v8, v9, v10, v11, v12, v13, v14]) ∧
        PenAt H6 p l ns (n + 10 + 2 * (2 - j)) ∧ Tabs TL H6 ∧ RfS p row sl ky wr t1 ta le cs H6 ∧ H6 rw_ = some (.lst (ps.map V.ref)) ∧ rw_ ≠ p ∧ Paired (RowE H6) ps es ∧ es.length = 5 + j ∧ H6 od = some (.lst ((oddN qs).map V.int)) ∧ ((es = qs.map triN ∧ Paired (RowQ H6 ta le) ps qs) ∨ ∃ e ∈ es, numD (dKy e.1) = false)) ?_ (fun _ _ _ _ _ => True.intro) ?_ ?_
      · refine ⟨row, qs.map triN, ps, ⟨_, _, _, _, _, _, _, _, _, rfl⟩, PA5.less (by omega), tb5, R5, hrow5, rowp, ?_, by rw [List.length_map, eql], hod5, .inl ⟨rfl, pr5⟩⟩
        exact row_tri pr5
      · rintro j y σ H60 H6 hj ⟨rw_, es, ps, ⟨v6, v7, v8, v9, v10, v11, v12, v13, v14, rfl⟩, PA6, tb6, R6, hrw6, rwp, pr6, el, hod6, alt⟩ ⟨rfl, rfl⟩
        have eb : n + 10 + 2 * (2 - j) = (n + 10 + 2 * (2 - (j + 1))) + 1 + 1 := by omega
        rw [eb] at PA6
        generalize n + 10 + 2 * (2 - (j + 1)) = m at PA6 ⊢
        have epl := pair_len pr6
        refine ⟨_, rfl, _, rfl, rw_, _, rfl, .inl (SqL.of hrw6), _, _, rfl, rfl, p, l, ns, m + 1, _, rfl, PA6, by rw [List.length_map]; omega, by rw [List.length_map]; omega, fun at_ H7 a0 a1 PA7 fr7 => ?_⟩
        obtain ⟨k, rfl⟩ : ∃ k : Nat, at_ = k := ⟨at_.toNat, by omega⟩
        have kl : k ≤ (ps.map V.ref).length := by omega
        have kp : k ≤ ps.length := by rw [List.length_map] at kl; exact kl
        have R7 := R6.mv PA6.pl (Mv.ofFr fr7)
        have tb7 := tabs_fr tb6 PA6.pl fr7
        have hrw7 := fr7 _ _ hrw6 rwp
        have hod7 := fr7 _ _ hod6 odp
        have pr7 := pair_imp pr6 fun _ _ z => z.mv PA6.pl (Mv.ofFr fr7)
        have alt7 : (es = qs.map triN ∧ Paired (RowQ H7 ta le) ps qs) ∨ ∃ e ∈ es, numD (dKy e.1) = false := alt.imp (fun z => ⟨z.1, pair_imp z.2 fun _ _ y => y.mv PA6.pl ⟨tan, R6.lep⟩ (Mv.ofFr fr7)⟩) id
        clear R6 tb6 hrw6 hod6 pr6 alt PA6 fr7
        refine ⟨_, rfl, _, rfl, _, rfl, rw_, _, rfl, SqL.of hrw7, fun a1 na1 => ⟨_, rfl, _, rfl, p, l, ky, ns, m, keysV t1, rfl, PA7.new na1, ?_, by show 0 < 7; decide, by show 7 < 1000; decide, fun H' f => ?_, fun v H8 hv PA8 fr8 => ?_⟩⟩
        · exact SqL.of (by rw [upd_ne (ne_of_none R7.hky na1)]; exact R7.hky)
        · exact SqL.of (f _ _ (by rw [upd_ne (ne_of_none R7.hky na1)]; exact R7.hky) R7.kyp)
        rw [cut_lo _ kl] at fr8
        have sa := same_put (s := Same.refl H7) (o := .lst ((ps.map V.ref).take k)) na1
        have P8 := pen_ext PA7 (ExtN.of sa)
        have R8 := (R7.mv PA7.pl (Mv.ofSame sa)).mv P8.pl (Mv.ofFr fr8)
        have tb8 := tabs_fr (tb7.ext sa) P8.pl fr8
        have hrw8 := fr8 _ _ (sa _ _ hrw7) rwp
        have hod8 := fr8 _ _ (sa _ _ hod7) odp
        have ha8 := fr8 _ _ (show upd H7 a1 (.lst ((ps.map V.ref).take k)) a1 = _ from upd_same) (PA7.nep na1)
        have pr8 := pair_imp pr7 fun _ _ z => (z.same sa).mv P8.pl (Mv.ofFr fr8)
        clear R7 tb7 hrw7 hod7 pr7 alt7 PA7 P8 sa fr8 na1
        obtain ⟨kk, kv, kh, kb, kc⟩ : ∃ kk, KeyV H8 kk v ∧ Held H8 v (dKy kk) ∧ numD (dKy kk) = false ∧ (dKy kk).canLay0 = true := by
          unfold keysV at hv
          simp only [List.mem_cons, List.not_mem_nil, or_false] at hv
          rcases hv with rfl | rfl | rfl | rfl | rfl | rfl | rfl
          · exact ⟨_, .flat .none, held_non, rfl, by decide +kernel⟩
          · exact ⟨_, .flat (.text _), held_str (by decide +kernel), rfl, by decide +kernel⟩
          · exact ⟨_, .flat (.int _), held_int (nice_nat 256 (by decide)), by decide +kernel, by decide +kernel⟩
          · exact ⟨_, .flat (.int _), held_int (nice_int (by decide +kernel) (by decide +kernel) (by decide +kernel)), by decide +kernel, by decide +kernel⟩
          · exact ⟨_, .tup R8.ht1 (.cons (.int 1) .nil), held_t1 R8.ht1, rfl, by decide +kernel⟩
          · exact ⟨_, .flat (.text _), held_str (by decide +kernel), rfl, by decide +kernel⟩
          · exact ⟨_, .flat (.int _), held_int (nice_int (by decide +kernel) (by decide +kernel) (by decide +kernel)), by decide +kernel, by decide +kernel⟩
        refine ⟨by show 2 ≤ sizeLine; decide, fun pa npa => ⟨by show 1 ≤ sizeLine; decide, fun l1 nl1 => ⟨a1, l1, (ps.map V.ref).take k, [.ref pa], rfl, rfl, ?_, upd_same, ?_, fun a2 na2 => ?_⟩⟩⟩
        · rw [upd_ne (ne_of_none (show upd H8 pa (.tup [v, .str "a"]) a1 = _ by rw [upd_ne (ne_of_none ha8 npa)]; exact ha8) nl1), upd_ne (ne_of_none ha8 npa)]
          exact ha8
        · rw [List.length_take, List.length_map, sizeLine_eq]
          show _ + 1 ≤ _
          omega
        have sb := same_put (s := Same.refl H8) (o := .tup [v, .str "a"]) npa
        have hpa : upd H8 pa (.tup [v, .str "a"]) pa = _ := upd_same
        have sc := same_put (s := sb) (o := .lst [V.ref pa]) nl1
        have sc' := same_put (s := Same.refl _) (o := .lst [V.ref pa]) nl1
        have sd := same_put (s := sc) (o := .lst ((ps.map V.ref).take k ++ [.ref pa])) na2
        have sd' := same_put (s := Same.refl _) (o := .lst ((ps.map V.ref).take k ++ [.ref pa])) na2
        have hpa2 := sd' _ _ (sc' _ _ hpa)
        have ha2 : upd (upd (upd H8 pa (.tup [v, .str "a"])) l1 (.lst [V.ref pa])) a2 (.lst ((ps.map V.ref).take k ++ [.ref pa])) a2 = _ := upd_same
        refine ⟨_, rfl, _, rfl, _, rfl, rw_, _, rfl, SqL.of (sd _ _ hrw8), fun a3 na3 => ?_⟩
        have se := same_put (s := sd) (o := .lst (cutV (ps.map V.ref) (some ((k : Nat) : Int)) none)) na3
        have se' := same_put (s := Same.refl _) (o := .lst (cutV (ps.map V.ref) (some ((k : Nat) : Int)) none)) na3
        have ha3 := se' _ _ ha2
        have hpa3 := se' _ _ hpa2
        refine ⟨a2, a3, (ps.map V.ref).take k ++ [.ref pa], cutV (ps.map V.ref) (some ((k : Nat) : Int)) none, rfl, rfl, ha3, upd_same, ?_, fun a4 na4 => ?_⟩
        · rw [cut_hi _ kl, List.length_append, List.length_take, List.length_drop, List.length_map, sizeLine_eq]
          show _ + 1 + _ ≤ _
          omega
        have sf := same_put (s := se) (o := .lst ((ps.map V.ref).take k ++ [.ref pa] ++ cutV (ps.map V.ref) (some ((k : Nat) : Int)) none)) na4
        have sf' := same_put (s := Same.refl _) (o := .lst ((ps.map V.ref).take k ++ [.ref pa] ++ cutV (ps.map V.ref) (some ((k : Nat) : Int)) none)) na4
        have hpa4 := sf' _ _ hpa3
        have esl : k ≤ es.length := by omega
        refine ⟨a4, es.take k ++ [(kk, v, .str "a")] ++ es.drop k, ps.take k ++ [pa] ++ ps.drop k, ⟨_, _, _, _, _, _, _, _, _, rfl⟩, pen_ext PA8 (ExtN.of sf), tb8.ext sf, R8.mv PA8.pl (Mv.ofSame sf), ?_, ?_, ?_, ?_, sf _ _ hod8, .inr ⟨(kk, v, .str "a"), List.mem_append_left _ (List.mem_append_right _ List.mem_cons_self), kb⟩⟩
        · rw [upd_same, cut_hi _ kl, List.map_append, List.map_append, List.map_take, List.map_drop]
          rfl
        · exact (pen_ext PA8 (ExtN.of se)).nep na4
        · have pr9 := pair_imp pr8 fun _ _ z => z.same sf
          exact pair_app (pair_app (pair_take pr9 k) (.cons ⟨hpa4, kv.same sf, kh.same sf, kc⟩ .nil)) (pair_drop pr9 k)
        · rw [List.length_append, List.length_append, List.length_take, List.length_drop]
          show min k es.length + 1 + (es.length - k) = _
          omega
      · rintro σ H6 ⟨rw_, es, ps, ⟨v6, v7, v8, v9, v10, v11, v12, v13, v14, rfl⟩, PA6, tb6, R6, hrw6, rwp, pr6, el, hod6, alt⟩
        -- the dict
        refine ⟨_, rfl, rw_, ps, es, rfl, SqL.of hrw6, pair_imp pr6 fun _ _ z => ⟨SqT.of z.1, z.2.1⟩, fun D nD => ⟨by show 2 ≤ sizeLine; decide, fun t0 n0 => ⟨t0, _, rfl, .inl (.inl upd_same), rfl, _, _, rfl, _, _, rfl, rfl, ?_⟩⟩⟩
        replace n0 : (upd H6 D (MixO w D (putAll [] es))) t0 = none := n0
        show Ends.nx _ _ (upd (upd H6 D (MixO w D (putAll [] es))) t0 (.tup [.ref D, .non]))
        have PA6' : PenAt H6 p l ns n := PA6.less (by omega)
        have mD : MixD w (upd H6 D (MixO w D (putAll [] es))) D (putAll [] es) := ⟨upd_same, fun e he => by
          obtain ⟨e2, h2, z1, z2⟩ := putAll_key es [] e he
          obtain ⟨pa, _, r⟩ := pair_left pr6 e2 h2
          rw [z1, z2]
          exact r.2.1.same (same_put (s := Same.refl H6) nD)⟩
        have hks : ∀ e ∈ putAll [] es, Held (upd H6 D (MixO w D (putAll [] es))) e.2.1 (dKy e.1) ∧ (dKy e.1).canLay0 = true := fun e he => by
          obtain ⟨e2, h2, z1, z2⟩ := putAll_key es [] e he
          obtain ⟨pa, _, r⟩ := pair_left pr6 e2 h2
          rw [z1, z2]
          exact ⟨r.2.2.1.same (same_put (s := Same.refl H6) nD), r.2.2.2⟩
        have kl : (putAll [] es).length ≤ 30 := by
          have z := putAll_len es []
          rw [List.length_nil] at z
          omega
        have sD := same_put (s := Same.refl H6) (o := MixO w D (putAll [] es)) nD
        have PA7 := pen_ext PA6' (ExtN.of sD)
        have tb7 := tb6.ext sD
        have th7 := tb6.ext (hide_new (o := MixO w D (putAll [] es)) nD)
        have hod7 := sD _ _ hod6
        have alt7 : (es = qs.map triN ∧ Paired (RowQ (upd H6 D (MixO w D (putAll [] es))) ta le) ps qs) ∨ ∃ e ∈ es, numD (dKy e.1) = false := alt.imp (fun z => ⟨z.1, pair_imp z.2 fun _ _ y => y.same sD⟩) id
        obtain ⟨kvs, ekv⟩ : ∃ kvs, kvs = putAll [] es := ⟨_, rfl⟩
        rw [← ekv] at mD hks kl PA7 tb7 th7 hod7 alt7 n0 ⊢
        generalize upd H6 D (MixO w D kvs) = H7 at mD hks PA7 tb7 th7 hod7 alt7 n0 ⊢
        clear sD PA6 PA6' tb6 R6 hrw6 pr6 hod6 alt nD
        have s8 := same_put (s := Same.refl H7) (o := .tup [.ref D, .non]) n0
        have mD8 := mD.same s8
        have hk8 : ∀ e ∈ kvs, Held (upd H7 t0 (.tup [.ref D, .non])) e.2.1 (dKy e.1) ∧ (dKy e.1).canLay0 = true := fun e he => ⟨(hks e he).1.same s8, (hks e he).2⟩
        have PA8 := pen_ext PA7 (ExtN.of s8)
        have tb8 := tb7.ext s8
        have th8 := th7.ext (hide_same (D := D) s8)
        have hod8 := s8 _ _ hod7
        have alt8 : (es = qs.map triN ∧ Paired (RowQ (upd H7 t0 (.tup [.ref D, .non])) ta le) ps qs) ∨ ∃ e ∈ es, numD (dKy e.1) = false := alt7.imp (fun z => ⟨z.1, pair_imp z.2 fun _ _ y => y.same s8⟩) id
        generalize upd H7 t0 (.tup [.ref D, .non]) = H8 at mD8 hk8 PA8 tb8 th8 hod8 alt8 ⊢
        clear s8 mD hks PA7 tb7 th7 hod7 alt7 n0
        -- the bad keys
        refine ⟨D, _, mD8.at_, True.intro, fun oo => ⟨_, rfl, D, oo, kvs, rfl, upd_same, fun B nB => lc_it (walk_keysM (w := w) (d := D) (o := oo) (kvs := kvs)) (fun i H9 => H9 = upd (upd H8 D (.frz oo (MixO w D kvs))) B (.lst (badK (kvs.take i)))) rfl ?_ ?_ ?_⟩⟩
        · rintro i H9 hi rfl
          rw [upd_ne (ne_of_none upd_same nB)]
          exact upd_same
        · rintro i y H9 H10 hi rfl ⟨rfl, kk, vv, hk⟩
          obtain ⟨hh, hl⟩ := hk8 _ (List.mem_of_getElem? hk)
          have nn : ∀ b, y = .ref b → b ≠ D := fun b e z => by
            have kv := mD8.keys _ (List.mem_of_getElem? hk)
            dsimp only at kv
            rw [e] at kv
            obtain ⟨xs, hx⟩ := keyV_ref kv
            rw [z, mD8.at_] at hx
            cases hx
          have hh2 : Held (upd H8 D (.frz oo (MixO w D kvs))) y (dKy kk) := held_move hh fun b o e h => by rw [upd_ne (nn b e)]; exact h
          have hh3 := hh2.same (same_put (s := Same.refl _) (o := .lst (badK (kvs.take i))) nB)
          have et : badK (kvs.take (i + 1)) = badK (kvs.take i) ++ (if (!numD (dKy kk)) = true then [y] else []) := by
            unfold badK
            rw [List.take_add_one, hk, List.filter_append, List.map_append]
            congr 1
            show (List.filter _ [(kk, y, vv)]).map _ = _
            rw [List.filter_cons]
            cases numD (dKy kk) <;> rfl
          refine ⟨rfl, _, rfl, y, dKy kk, rfl, hh3.pw, _, rfl, ?_⟩
          cases eb : numD (dKy kk) with
          | true =>
            refine iteF ?_
            rw [et, eb]
            show _ = upd _ B (.lst (badK (kvs.take i) ++ []))
            rw [List.append_nil]
          | false =>
            refine iteT ⟨_, rfl, badK (kvs.take i), upd_same, ?_, ?_⟩
            · unfold badK
              rw [List.length_map, sizeLine_eq]
              have z := List.length_filter_le (fun e : TriV => !numD (dKy e.1)) (kvs.take i)
              rw [List.length_take] at z
              omega
            · rw [upd_upd, et, eb]
              rfl
        rintro H9 rfl
        have dB : D ≠ B := ne_of_none upd_same nB
        rw [List.take_of_length_le (Nat.le_refl _)]
        refine ⟨by rw [upd_ne dB]; exact upd_same, ?_⟩
        rw [frz_back mD8.at_ dB]
        have nB0 : H8 B = none := by
          rw [upd_ne (Ne.symm dB)] at nB
          exact nB
        have s9 := same_put (s := Same.refl H8) (o := .lst (badK kvs)) nB0
        have mD9 := mD8.same s9
        have hk9 : ∀ e ∈ kvs, Held (upd H8 B (.lst (badK kvs))) e.2.1 (dKy e.1) ∧ (dKy e.1).canLay0 = true := fun e he => ⟨(hk8 e he).1.same s9, (hk8 e he).2⟩
        have PA9 := pen_ext PA8 (ExtN.of s9)
        have tb9 := tb8.ext s9
        have th9 := th8.ext (hide_same (D := D) s9)
        have hod9 := s9 _ _ hod8
        have alt9 : (es = qs.map triN ∧ Paired (RowQ (upd H8 B (.lst (badK kvs))) ta le) ps qs) ∨ ∃ e ∈ es, numD (dKy e.1) = false := alt8.imp (fun z => ⟨z.1, pair_imp z.2 fun _ _ y => y.same s9⟩) id
        have hB9 : upd H8 B (.lst (badK kvs)) B = some (.lst (badK kvs)) := upd_same
        generalize upd H8 B (.lst (badK kvs)) = H9 at mD9 hk9 PA9 tb9 th9 hod9 alt9 hB9 ⊢
        clear s9 mD8 hk8 PA8 tb8 th8 hod8 alt8 nB nB0 dB
        refine ⟨_, rfl, Nat.zero_le _, fun z nz => ⟨B, z, badK kvs, rfl, rfl, ?_, SqL.of upd_same, ?_⟩⟩
        · exact SqL.of (by rw [upd_ne (ne_of_none hB9 nz)]; exact hB9)
        have sz := same_put (s := Same.refl H9) (o := .lst []) nz
        have mDa := mD9.same sz
        have hka : ∀ e ∈ kvs, Held (upd H9 z (.lst [])) e.2.1 (dKy e.1) ∧ (dKy e.1).canLay0 = true := fun e he => ⟨(hk9 e he).1.same sz, (hk9 e he).2⟩
        have PAa := pen_ext PA9 (ExtN.of sz)
        have tba := tb9.ext sz
        have tha := th9.ext (hide_same (D := D) sz)
        have hoda := sz _ _ hod9
        have hBa := sz _ _ hB9
        have alta : (es = qs.map triN ∧ Paired (RowQ (upd H9 z (.lst [])) ta le) ps qs) ∨ ∃ e ∈ es, numD (dKy e.1) = false := alt9.imp (fun z => ⟨z.1, pair_imp z.2 fun _ _ y => y.same sz⟩) id
        generalize upd H9 z (.lst []) = Ha at mDa hka PAa tba tha hoda hBa alta ⊢
        clear sz mD9 hk9 PA9 tb9 th9 hod9 hB9 alt9 nz
        cases ebk : badK kvs with
        | cons a r =>
          obtain ⟨e, he, ea, fd⟩ := badK_cons ebk
          obtain ⟨ha, _⟩ := hka e he
          rw [ea] at ha
          rw [ebk] at hBa
          refine ⟨true, rfl, iteT ⟨_, rfl, B, _, _, _, rfl, rfl, SqL.of hBa, atI_nat (j := 0) rfl, a, dKy e.1, rfl, ha.pw, ha.ni.te, by show 2 ≤ sizeLine; decide, fun tc ntc => ?_⟩⟩
          have sc := same_put (s := Same.refl Ha) (o := .tup [.str "code", .str (dKy e.1).shown]) ntc
          have htc : upd Ha tc (.tup [.str "code", .str (dKy e.1).shown]) tc = _ := upd_same
          have mDc := mDa.same sc
          have PAc := pen_ext PAa (ExtN.of sc)
          have tbc := tba.ext sc
          have bok : BadOk (.one 2 (dKy e.1)) := ⟨by decide, ha.ni⟩
          show Ends.nx _ _ (upd Ha tc (.tup [.str "code", .str (dKy e.1).shown]))
          have hkc : ∀ e2 ∈ kvs, Held (upd Ha tc (.tup [.str "code", .str (dKy e.1).shown])) e2.2.1 (dKy e2.1) ∧ (dKy e2.1).canLay0 = true := fun e2 he2 => ⟨(hka e2 he2).1.same sc, (hka e2 he2).2⟩
          generalize upd Ha tc (.tup [.str "code", .str (dKy e.1).shown]) = Hc at htc hkc mDc PAc tbc ⊢
          clear sc mDa hka PAa tba hoda hBa alta ntc
          refine heard_end (some (.one 2 (dKy e.1))) (fun _ _ => False) tbc (fun H10 E2 R e10 tb10 hE hR => ?_) (fun v H10 e10 tb10 hv => ?_)
          · exact ⟨_, rfl, .ref D, rfl, .inr (.inr (.inl ⟨D, _, _, rfl, tabM_of (mix_ext mDc e10) (fun e2 he2 => ⟨held_ext (hkc e2 he2).1 e10, (hkc e2 he2).2⟩) kl, fd, hE _ bok rfl⟩))⟩
          have hv : HrU H10 v (.inl (.one 2 (dKy e.1))) := hv
          have htc10 := e10 _ _ htc (fun _ z => nomatch z)
          refine ⟨_, rfl, rfl, true, rfl, iteT ⟨_, rfl, _, rfl, eq_same (hru_dp hv) (.tup (.inl (.inl htc10)) (dp_strs ["code", (dKy e.1).shown])) (u_shaped (r := .inl (.one 2 (dKy e.1))) bok) (q _ (pen_ext PAc e10) tb10)⟩⟩
        | nil =>
          have good := badK_nil ebk
          obtain ⟨ees, prq⟩ : es = qs.map triN ∧ Paired (RowQ Ha ta le) ps qs := by
            rcases alta with z | ⟨e, he, w0⟩
            · exact z
            · exfalso
              have m := putAll_has es [] e.1 (List.mem_map.mpr ⟨e, he, rfl⟩)
              rw [← ekv] at m
              obtain ⟨e2, h2, z2⟩ := List.mem_map.mp m
              have := good e2 h2
              rw [z2, w0] at this
              cases this
          have eqd : qs.map (·.1) = ds.map (fun k => ((k : Nat) : Int)) := by
            rw [eqs, List.take_of_length_le (by rw [nums_len]; exact Nat.le_refl _)]
          have qnd : (qs.map (·.1)).Nodup := by
            rw [eqd]
            rw [List.nodup_iff_pairwise_ne, List.pairwise_map]
            rw [List.nodup_iff_pairwise_ne] at dnd
            exact dnd.imp fun ne z => ne (Int.ofNat.inj z)
          have qrg : ∀ q ∈ qs, 0 ≤ q.1 ∧ q.1 ≤ 255 := fun q hq => by
            have m : q.1 ∈ qs.map (·.1) := List.mem_map.mpr ⟨q, hq, rfl⟩
            rw [eqd] at m
            obtain ⟨k, hk, e⟩ := List.mem_map.mp m
            have := d256 k hk
            omega
          have ekn : kvs = nuM (qs.map fun q => (q.1, q.2.1)) := by
            rw [ekv, ees, triN_nu]
            refine putAll_nd _ [] ?_
            show (List.map _ (nuM _)).Nodup
            rw [nuM_keys, List.map_map]
            rw [List.nodup_iff_pairwise_ne, List.pairwise_map] at qnd ⊢
            exact qnd.imp fun ne z => ne (NestedKey.num.inj z)
          have hqv : ∀ q ∈ qs, Held Ha q.2.1 q.2.2 ∧ ((wordD 1 1 q.2.2 = true ∧ ∃ c, isLt c ∧ q.2 = (.str (Sx [c]), .str (Sx [c]))) ∨ wordD 1 1 q.2.2 = false) := fun q hq => by
            obtain ⟨pa, _, r⟩ := pair_left prq q hq
            exact ⟨r.2.1, r.2.2.2⟩
          have hDa := mDa.at_
          rw [ekn] at hDa
          clear alta good prq ebk mDa hka
          refine ⟨false, rfl, iteF ⟨_, rfl, Nat.zero_le _, fun z2 nz2 => .inr ⟨D, qs.map fun q => (q.1, q.2.1), ?_, od, z2, (oddN qs).map V.int, rfl, rfl, ?_, ?_, ?_⟩⟩⟩
          · rw [upd_ne (ne_of_none hDa nz2)]
            exact hDa
          · refine SqL.of ?_
            rw [upd_ne (ne_of (show upd Ha z2 (.lst []) od = some (.lst ((oddN qs).map V.int)) by rw [upd_ne (ne_of_none hoda nz2)]; exact hoda) (show upd Ha z2 (.lst []) D = some (MixO w D _) by rw [upd_ne (ne_of_none hDa nz2)]; exact hDa) (fun z => nomatch z)), upd_ne (ne_of_none hoda nz2)]
            exact hoda
          · refine SqL.of ?_
            rw [upd_ne (ne_of (show upd Ha z2 (.lst []) z2 = some (.lst []) from upd_same) (show upd Ha z2 (.lst []) D = some (MixO w D _) by rw [upd_ne (ne_of_none hDa nz2)]; exact hDa) (fun z => nomatch z))]
            exact upd_same
          have hDz : upd Ha z2 (.lst []) D = some (MixO w D (nuM (qs.map fun q => (q.1, q.2.1)))) := by rw [upd_ne (ne_of_none hDa nz2)]; exact hDa
          have sz := same_put (s := Same.refl Ha) (o := .lst []) nz2
          have PAb := pen_mix (o := .dK (nuK (qs.map fun q => (q.1, q.2.1)))) (pen_ext PAa (ExtN.of sz)) hDz
          have tbb := (tha.ext (hide_same (D := D) sz)).ext (hide_put (o := .dK (nuK (qs.map fun q => (q.1, q.2.1)))))
          have hqb : ∀ q ∈ qs, Held (upd (upd Ha z2 (.lst [])) D (.dK (nuK (qs.map fun q => (q.1, q.2.1))))) q.2.1 q.2.2 := fun q hq => held_mix ((hqv q hq).1.same sz) hDz
          have hDb : upd (upd Ha z2 (.lst [])) D (.dK (nuK (qs.map fun q => (q.1, q.2.1)))) D = _ := upd_same
          have hodb : upd (upd Ha z2 (.lst [])) D (.dK (nuK (qs.map fun q => (q.1, q.2.1)))) od = some (.lst ((oddN qs).map V.int)) := by
            rw [upd_ne (ne_of (sz _ _ hoda) hDz (fun z => nomatch z))]
            exact sz _ _ hoda
          generalize upd (upd Ha z2 (.lst [])) D (.dK (nuK (qs.map fun q => (q.1, q.2.1)))) = Hb at PAb tbb hqb hDb hodb ⊢
          clear sz hDz hDa nz2 hoda tba PAa
          cases eod : oddN qs with
          | cons m0 mr =>
            have l5 : (m0 :: mr).length ≤ 5 := by
              rw [← eod, ← eql]
              unfold oddN
              rw [List.length_map]
              exact List.length_filter_le ..
            rw [eod] at hodb
            refine ⟨true, rfl, iteT ⟨_, rfl, _, rfl, od, rfl, ⟨_, SqL.of hodb⟩, fun C nC => lc_it (walk_list (K := K) (a := od) (xs := (m0 :: mr).map V.int)) (fun i H2 => H2 = upd Hb C (.lst (((m0 :: mr).map V.int).take i))) rfl ?_ ?_ ?_⟩⟩
            · rintro i H2 hi rfl
              exact SqL.of (by rw [upd_ne (ne_of_none hodb nC)]; exact hodb)
            · rintro i x H2 H3 hi rfl ⟨rfl, hx⟩
              obtain ⟨iv, rfl⟩ : ∃ iv, x = .int iv := by
                obtain ⟨iv, _, e⟩ := List.mem_map.mp (List.mem_of_getElem? hx)
                exact ⟨iv, e.symm⟩
              refine ⟨rfl, _, rfl, .inl ⟨_, rfl, _, upd_same, ?_, ?_⟩⟩
              · rw [List.length_take, sizeLine_eq]
                rw [List.length_map]
                omega
              · rw [upd_upd, List.take_add_one, hx]
                rfl
            rintro H2 rfl
            rw [List.take_of_length_le (Nat.le_refl _)]
            have sC := same_put (s := Same.refl Hb) (o := .lst ((m0 :: mr).map V.int)) nC
            refine ⟨C, m0 :: mr, rfl, SqL.of upd_same, by omega, fun ns2 S hp hs nS => ?_⟩
            have sS := same_put (s := sC) (o := .lst (ns2.map V.int)) nS
            cases ns2 with
            | nil => exact absurd hp.length_eq (by simp)
            | cons m rest =>
              rw [← eod] at hp
              obtain ⟨q0, hq0, em, told⟩ := told_odd qnd qrg hp hs
              refine ⟨_, _, _, _, rfl, rfl, SqL.of upd_same, atI_nat (j := 0) rfl, ?_⟩
              have sS' := sS
              have hDs := sS _ _ hDb
              have hqs : ∀ q ∈ qs, Held (upd (upd Hb C (.lst ((m0 :: mr).map V.int))) S (.lst ((m :: rest).map V.int))) q.2.1 q.2.2 := fun q hq => (hqb q hq).same sS
              have PAs := pen_ext PAb (ExtN.of sS)
              have tbs := tbb.ext sS
              have vq : valV (nuK (qs.map fun q => (q.1, q.2.1))) (Sum.inl m) = some q0.2.1 := by
                rw [← em]
                exact valV_nu qnd hq0
              refine ⟨D, q0.2.1, rfl, .inl ⟨_, Sum.inl m, .inl hDs, rfl, vq.symm⟩, q0.2.1, q0.2.2, rfl, (hqs q0 hq0).pw, (hqs q0 hq0).ni.te, by show 2 ≤ sizeLine; decide, fun tc ntc => ?_⟩
              replace ntc : (upd (upd Hb C (.lst ((m0 :: mr).map V.int))) S (.lst ((m :: rest).map V.int))) tc = none := ntc
              show Ends.nx _ _ (upd (upd (upd Hb C (.lst ((m0 :: mr).map V.int))) S (.lst ((m :: rest).map V.int))) tc (.tup [.str "letter", .str q0.2.2.shown]))
              generalize upd (upd Hb C (.lst ((m0 :: mr).map V.int))) S (.lst ((m :: rest).map V.int)) = Hs at hDs hqs PAs tbs ntc ⊢
              have sT := same_put (s := Same.refl Hs) (o := .tup [.str "letter", .str q0.2.2.shown]) ntc
              have hT : upd Hs tc (.tup [.str "letter", .str q0.2.2.shown]) tc = _ := upd_same
              have PAt := pen_ext PAs (ExtN.of sT)
              have tbt := tbs.ext sT
              have hDt := sT _ _ hDs
              have hqt : ∀ q ∈ qs, Held (upd Hs tc (.tup [.str "letter", .str q0.2.2.shown])) q.2.1 q.2.2 := fun q hq => (hqs q hq).same sT
              have bok : BadOk (.one 1 q0.2.2) := ⟨by decide, (hqs q0 hq0).ni⟩
              generalize upd Hs tc (.tup [.str "letter", .str q0.2.2.shown]) = Ht at hT PAt tbt hDt hqt ⊢
              refine heard_end (some (.one 1 q0.2.2)) (fun _ _ => False) tbt (fun H10 E2 R e10 tb10 hE hR => ?_) (fun v H10 e10 tb10 hv => ?_)
              · exact ⟨_, rfl, .ref D, rfl, .inr (.inr (.inr (.inl ⟨D, dtN qs, _, rfl, tabA_of (e10 _ _ hDt (fun _ z => nomatch z)) (fun q hq => held_ext (hqt q hq) e10) qnd qrg (by omega), told, hE _ bok rfl⟩)))⟩
              have hv : HrU H10 v (.inl (.one 1 q0.2.2)) := hv
              have hT10 := e10 _ _ hT (fun _ z => nomatch z)
              refine ⟨_, rfl, rfl, true, rfl, iteT ⟨_, rfl, _, rfl, eq_same (hru_dp hv) (.tup (.inl (.inl hT10)) (dp_strs ["letter", q0.2.2.shown])) (u_shaped (r := .inl (.one 1 q0.2.2)) bok) (q _ (pen_ext PAt e10) tb10)⟩⟩
          | nil =>
            have hgood : ∀ q ∈ qs, 0 ≤ q.1 ∧ q.1 ≤ 255 ∧ ∃ c, isLt c ∧ q.2.1 = .str (Sx [c]) := fun q hq => by
              refine ⟨(qrg q hq).1, (qrg q hq).2, ?_⟩
              rcases (hqv q hq).2 with ⟨_, c, hc, e⟩ | w0
              · exact ⟨c, hc, by rw [e]⟩
              · have z := oddN_of hq w0
                rw [eod] at z
                exact absurd z List.not_mem_nil
            obtain ⟨t, et, e1, t256, tl⟩ := tab_of hgood
            have gt : GoodS t := by
              refine ⟨?_, t256, tl⟩
              rw [← e1] at qnd
              rw [List.nodup_iff_pairwise_ne, List.pairwise_map] at qnd ⊢
              exact qnd.imp fun ne z => ne (by rw [z])
            have tlen : t.length ≤ 30 := by
              have z := congrArg List.length e1
              rw [List.length_map, List.length_map] at z
              omega
            rw [et] at hDb
            refine ⟨false, rfl, iteF ?_⟩
            refine heard_end none (fun x H => ∃ xa, x = .ref xa ∧ RdU CR H xa t) tbb (fun H10 E2 R e10 tb10 hE hR => ?_) (fun v H10 e10 tb10 hv => ?_)
            · exact ⟨_, rfl, .ref D, rfl, .inl ⟨D, t, rfl, ⟨e10 _ _ hDb (fun _ z => nomatch z), gt⟩, fun x H' nx rd s _ => hR rfl _ _ s fun H3 s3 => ⟨x, rfl, rd.same s3⟩⟩⟩
            obtain ⟨hl, x, rfl, hl10, xa, rfl, rd⟩ := hv
            refine ⟨_, rfl, rfl, false, rfl, iteF ?_⟩
            refine ⟨_, rfl, _, .ty "list", .type "list", .type "list", true, rfl, .ty _, .base (.lst hl10), kit_ty (by decide +kernel), ?_⟩
            refine ⟨true, rfl, iteT ⟨_, rfl, hl, _, _, _, rfl, rfl, SqL.of hl10, atI_nat (j := 0) rfl, _, rfl, xa, D, t, rfl, rd, ⟨e10 _ _ hDb (fun _ z => nomatch z), gt⟩, tlen, fun H2 s2 => ?_⟩⟩
            exact q _ (pen_ext (pen_ext PAb e10) (ExtN.of s2)) (tb10.ext s2)
end
end V8

set_option Elab.async false
set_option linter.all false
set_option maxRecDepth 100000
set_option maxHeartbeats 8000000
/-! The law. -/
namespace L2
open PySem PySem.Spec PyProof.Rows
theorem op_repS2 {X : Cx} : OpR X (binaryOp .Mult) (fun x y H Q => ∃ z k, x = .str z ∧ y = .int k ∧ z.length ≤ 4 ∧ 0 ≤ k ∧ k ≤ 3000 ∧ Q (.str (Txt.mul z k)) H) := by
  intro pins s σ H x y v u Q I rx ry h
  obtain ⟨z, k, rfl, rfl, hz, k0, k1, q⟩ := h
  obtain ⟨t, rfl⟩ := rx
  obtain ⟨t', rfl⟩ := ry
  exact SB.mul (PyProof.Rows.mulOk_of 4 3000 hz k1 (by omega) (by decide) (by decide)) fun t' tk => ⟨.str _, H, I.tok _, ⟨_, rfl⟩, q⟩
end L2
namespace V8
open PySem PySem.Spec PyProof.Rows L2 MX SetT LamX PySem.Builtin.Str
abbrev s_law : Stmt := topS 46
abbrev n_law : List Str := ["_law_script", "_law_pen_here", "_law_turn", "_law_some", "_law_signs_so", "_law_table", "_law_kept", "_law_none", "_law_odd", "_law_full", "_law_many", "_law_heard_here", "_law_told", "_law_spot"]
theorem sc_law : FnScope ["_law_script", "_law_pen_here", "_law_turn", "_law_some", "_law_signs_so", "_law_table", "_law_kept", "_law_none", "_law_odd", "_law_full", "_law_many", "_law_heard_here", "_law_told", "_law_spot"] ["_law_script"] (defScope s_law) := ⟨rfl, rfl, rfl, by decide +kernel, rfl, by decide +kernel, by decide +kernel⟩
theorem pen_dk {H : Hp} {d p l : Addr} {kvs : List (Key × V)} {o : HO} {ns : List Int} {n : Nat} (P : PenAt H p l ns n) (hd : H d = some (.dK kvs)) : PenAt (upd H d o) p l ns n := by
  obtain ⟨s, g, h1, _⟩ := P.here
  exact P.other (ne_of hd h1 (fun z => nomatch z)) (ne_of hd P.nums (fun z => nomatch z))
theorem tabs_dk {T : List (Addr × Str)} {H : Hp} {d : Addr} {kvs : List (Key × V)} {o : HO} (t : Tabs T H) (hd : H d = some (.dK kvs)) : Tabs T (upd H d o) := fun q hq => by
  obtain ⟨ps, h1, h2, h3⟩ := t q hq
  have off : ∀ {b : Addr} {u : HO}, H b = some u → (∀ kv, u ≠ .dK kv) → upd H d o b = some u := fun {b u} e1 n => by
    rw [upd_ne fun z => ?_]
    · exact e1
    · rw [z, hd] at e1
      exact n _ (Option.some.inj e1).symm
  refine ⟨ps, off h1 (fun _ z => nomatch z), h2, fun pos cv hc => ?_⟩
  obtain ⟨c, e1, e2⟩ := h3 pos cv hc
  exact ⟨c, e1, off e2 (fun _ z => nomatch z)⟩
def tZ : Tab := [(3, [122])]
theorem rep_held {H : Hp} : ∀ m : Nat, Paired (Held H) (List.replicate m [V.int 3]).flatten (List.replicate m (PyData.int 3))
  | 0 => .nil
  | m + 1 => by
    rw [List.replicate_succ, List.flatten_cons, List.replicate_succ]
    exact .cons (held_int (nice_nat 3 (by decide))) (rep_held m)
theorem rep_len : ∀ m : Nat, (List.replicate m [V.int 3]).flatten.length = m
  | 0 => rfl
  | m + 1 => by
    rw [List.replicate_succ, List.flatten_cons, List.length_append, rep_len m]
    show 1 + m = m + 1
    omega
theorem imgs_rep : ∀ m : Nat, imgsD tZ (List.replicate m (.int 3)) = List.replicate m 122
  | 0 => rfl
  | m + 1 => by
    have ih := imgs_rep m
    unfold imgsD at ih ⊢
    rw [List.replicate_succ, List.map_cons, List.flatten_cons, ih, List.replicate_succ]
    rfl
theorem due_rep (m : Nat) : dueR tZ (List.replicate m (.int 3)) = if 2000 < m then .inl (.many "signs" 2000) else .inr (List.replicate m 122) := by
  unfold dueR
  have h1 : (List.replicate m (PyData.int 3)).find? (fun d => !numD d) = none := List.find?_eq_none.mpr fun d hd => by
    rw [List.eq_of_mem_replicate hd]
    decide
  have h2 : unread tZ (List.replicate m (PyData.int 3)) = none := List.findIdx?_eq_none_iff.mpr fun d hd => by
    rw [List.eq_of_mem_replicate hd]
    decide
  rw [h1]
  dsimp only
  rw [h2]
  dsimp only
  rw [List.length_replicate, imgs_rep]
theorem due_lack (m : Nat) : dueR tZ (List.replicate m (.int 3) ++ [.int 4]) = .inl (.one 3 (.int ((m : Nat) : Int))) := by
  unfold dueR
  have h1 : (List.replicate m (PyData.int 3) ++ [PyData.int 4]).find? (fun d => !numD d) = none := List.find?_eq_none.mpr fun d hd => by
    rcases List.mem_append.mp hd with h | h
    · rw [List.eq_of_mem_replicate h]
      decide
    · rw [List.mem_singleton.mp h]
      decide
  have h2 : unread tZ (List.replicate m (PyData.int 3) ++ [PyData.int 4]) = some m := find_idx (x := PyData.int 4) (by rw [List.getElem?_append_right (by rw [List.length_replicate]; exact Nat.le_refl _), List.length_replicate, Nat.sub_self]; rfl) (fun y hy => by
    rw [List.take_append_of_le_length (by rw [List.length_replicate]; exact Nat.le_refl _), List.take_of_length_le (by rw [List.length_replicate]; exact Nat.le_refl _)] at hy
    rw [List.eq_of_mem_replicate hy]
    decide) (by decide)
  rw [h1]
  dsimp only
  rw [h2]
theorem words_many : wordsB (.many "signs" 2000) = [("many" : Str), "'signs'", "2000"] := by decide +kernel
theorem words_sg : wordsB (.one 0 (.str "signs")) = [("table" : Str), "'signs'"] := by decide +kernel
theorem words_2001 : wordsB (.one 3 (.int ((2001 : Nat) : Int))) = [("unread" : Str), "2001"] := by decide +kernel
theorem rdU_ext {C x : Addr} {H H2 : Hp} {t : Tab} (r : RdU C H x t) (e : ExtN H H2) : RdU C H2 x t := by
  obtain ⟨⟨dx, b, h1, h2⟩, g⟩ := r
  exact ⟨⟨dx, b, e _ _ h1 (fun _ z => nomatch z), e _ _ h2 (fun _ z => nomatch z)⟩, g⟩
def OddS (p : Addr) (H : Hp) (v : V) : Prop := v = .non ∨ v = .int 0 ∨ v = .str "a" ∨ v = .bl true ∨ (∃ a, v = .ref a ∧ a ≠ p ∧ H a = some (.tup [])) ∨ ∃ a xs, v = .ref a ∧ a ≠ p ∧ H a = some (.lst xs)
theorem OddS.mv {p : Addr} {H H2 : Hp} {v : V} (o : OddS p H v) (m : Mv p H H2) : OddS p H2 v := by
  rcases o with h | h | h | h | ⟨a, e, n, h⟩ | ⟨a, xs, e, n, h⟩
  · exact .inl h
  · exact .inr (.inl h)
  · exact .inr (.inr (.inl h))
  · exact .inr (.inr (.inr (.inl h)))
  · exact .inr (.inr (.inr (.inr (.inl ⟨a, e, n, m _ _ h n (fun _ z => nomatch z)⟩))))
  · exact .inr (.inr (.inr (.inr (.inr ⟨a, xs, e, n, m _ _ h n (fun _ z => nomatch z)⟩))))
theorem nice_t0 : NiceD (.tuple []) := ⟨⟨by decide +kernel, by decide +kernel, by decide +kernel⟩, by decide +kernel, by decide +kernel, by decide +kernel, fun z e => nomatch e⟩
theorem OddS.rs {w : World} {Cz : Nat → Addr} {p : Addr} {H : Hp} {v : V} {E : XK} (o : OddS p H v) (x : OutB Cz H (.one 0 (.str "signs")) E) : rsS w Cz v H E := by
  rcases o with rfl | rfl | rfl | rfl | ⟨a, rfl, n, h⟩ | ⟨a, xs, rfl, n, h⟩
  · exact .inl ⟨_, held_non, rfl, x⟩
  · exact .inl ⟨_, held_int (nice_nat 0 (by decide)), rfl, x⟩
  · exact .inl ⟨_, held_str (by decide +kernel), rfl, x⟩
  · exact .inl ⟨_, held_bl true, rfl, x⟩
  · exact .inl ⟨.tuple [], ⟨.inr (.inl ⟨a, [], rfl, .inl h, by decide, fun y hy => absurd hy List.not_mem_nil⟩), .tup h .nil, nice_t0⟩, rfl, x⟩
  · exact .inr (.inr (.inr ⟨a, xs, rfl, h, x⟩))
def spLaw (TL : List (Addr × Str)) (K : PySem.W.Frag) : Sp := fun vs H Q _ => ∃ (a : Addr) (ns : List Int), vs = [.ref a] ∧ SqL K H a (ns.map V.int) ∧ ns.length ≤ 63 ∧ Tabs TL H ∧ ∀ H2, Q (.bl true) H2
section
variable {P : Program} {w : World} {K : PySem.W.Frag} {mg : Str → Option Value} {base : Heap} {CW CR CE g c PT : Addr} {Cz : Nat → Addr} {TL : List (Addr × Str)}
theorem ok_law {f : Addr} {fd : FuncData} (F : FunC K "law" "law" s_law f c fd) (T : Tc K mg CW CR CE Cz) (sys : SysIn base) (D_pen : Df P w K mg base 1 "_law_pen" (spPen K)) (D_draw : Df P w K mg base 1 "_law_draw" spDraw) (D_pick : Df P w K mg base 2 "_law_pick" (spPick K))
    (D_letters : Df P w K mg base 2 "_law_letters" spLetters) (D_signs : Df P w K mg base 3 "_law_signs" spSigns) (D_tells : DfG P w K mg base CX0 10 "_law_tells" (spTells CR)) (D_rows_right : DfG P w K mg base CX0 11 "_law_rows_right" (spRows TL CR)) (D_refused_right : DfG P w K mg base CX0 11 "_law_refused_right" (spRefused TL))
    (D_mk : MkS P w K mg base CR Cz) (D_eqR : Mf P w K mg base 1 CR "__eq__" (spEqD K CR)) (D_call : MfG P w K mg base (L2.CX P w) 6 CR "__call__" (spCaD CR Cz)) (D_lenR : Mf P w K mg base 1 CR "__len__" (spLenR CR)) (D_lenW : Mf P w K mg base 1 CW "__len__" (spLenW CW)) (D_inv : Mf P w K mg base 8 CR "__invert__" (spInv CW CR))
    (D_heard : HearD K mg g) (TB : TabT base mg TL (("law" : Str) ++ ".<locals>.") c PT) : FnG P w K mg base CX0 12 f fd ["_law_script"] (spLaw TL K) := by
  refine F.okG sc_law (fun vs H Q E h => ?_) (fun A outer s H vs Q E quiet hr h => ?_)
  · obtain ⟨a, ns, rfl, _⟩ := h
    rfl
  · obtain ⟨a, ns, rfl, hS, hn0, tb0, q0⟩ := h
    refine ⟨_, (pss_cons (ps_set (i := 1) sc_law.nd rfl (.inr rfl) (pe_c D_pen hr (by decide) (by rfl) (pa_cons (pv 0) pa_nil)))
      (pss_cons (ps_for PassesOwn.never rfl (pi_range1 (by rfl) T.range (pa_cons pe_int pa_nil)) (pg_name (i := 2) sc_law.nd rfl (.inl rfl))
        (pss_cons (ps_set (i := 3) sc_law.nd rfl (.inl rfl) (pe_c D_letters hr (by decide) (by rfl) (pa_cons (pv 1) (pa_cons (pe_op op_add pe_int (pe_c D_draw hr (by decide) (by rfl) (pa_cons (pv 1) (pa_cons pe_int pa_nil)))) pa_nil))))
        (pss_cons (ps_set (i := 4) sc_law.nd rfl (.inl rfl) (pe_c D_signs hr (by decide) (by rfl) (pa_cons (pv 1) (pa_cons (pv 3) (pa_cons (pe_lc (own := [("_law_spot", 13)]) (g := gName 13) (by rfl) sc_law.nd (pi_range1 (by rfl) T.range (pa_cons (pe_c D_draw hr (by decide) (by rfl) (pa_cons (pv 1) (pa_cons pe_int pa_nil))) pa_nil)) (blkOk_by (own := [("_law_spot", 13)]) (N := n_law) (sc := defScope s_law) (by decide +kernel)) (fun _ _ _ _ _ => (pg_name (i := 13) sc_law.nd rfl (.inl rfl))) (fun _ _ _ _ _ => pts_nil) (fun _ _ _ _ _ => (pe_c D_draw hr (by decide) (by rfl) (pa_cons (pv 1) (pa_cons pe_int pa_nil))))) pa_nil)))))
        (pss_cons (ps_par (i := 5) (j := 6) (by rfl) sc_law.nd rfl rfl (by decide) rfl rfl (pa_cons (pe_mkS (w := w) rfl D_mk quiet passL hr (by decide) (by rfl) (pa_cons (pv 4) pa_nil)) (pa_cons (pe_callTy call_dictD (by rfl) T.dict (by decide +kernel) (pa_cons (pv 4) pa_nil)) pa_nil)) (by rfl))
        (pss_cons (ps_dput (hu_of hr) (pv 4) pe_int pe_non rfl)
        (pss_cons (ps_if (PW.pt (pw_or (pt_not (pt_val (pe_cG D_tells quiet pass0 hr (by decide) (by rfl) (pa_cons (pv 5) (pa_cons (pv 6) pa_nil))))) (pw_or (pt_cmpR (op_neO D_eqR T.neR T.rD hr (by decide)) (pv 5) (pe_mkSK (w := w) rfl D_mk quiet passL hr (by decide) (by rfl) (pk_cons (pv 6) pk_nil)) (nomark _)) (pw_or1 (pt_cmpR (op_eqO D_eqR hr (by decide)) (pv 5) (pv 6) (nomark _))))))
          (pss_one (ps_ret pe_bl))
          pss_nil)
        (pss_one (ps_if (PW.pt (pw_or (pt_not (pt_val (pe_cG D_rows_right quiet pass0 hr (by decide) (by rfl) (pa_cons (pv 1) (pa_cons (pv 5) (pa_cons (pv 6) pa_nil)))))) (pw_or1 (pt_not (pt_val (pe_cG D_refused_right quiet pass0 hr (by decide) (by rfl) (pa_cons (pv 1) (pa_cons (pv 3) pa_nil))))))))
          (pss_one (ps_ret pe_bl))
          pss_nil))))))))
      (pss_cons (ps_asg (pe_tup (pa_cons (pe_mkS (w := w) rfl D_mk quiet passL hr (by decide) (by rfl) (pa_cons pe_dnewK pa_nil)) (pa_cons (pe_c D_pick hr (by decide) (by rfl) (pa_cons (pv 1) (pa_cons (pe_lst (pa_cons pe_non (pa_cons pe_int (pa_cons (pe_lst pa_nil) (pa_cons (pe_tup pa_nil) (pa_cons pe_str (pa_cons (pe_lst (pa_cons (pe_tup (pa_cons pe_int (pa_cons pe_str pa_nil))) pa_nil)) (pa_cons pe_bl pa_nil)))))))) pa_nil))) pa_nil))) (pg_tup (by rfl) (pgs_cons (pg_name (i := 7) sc_law.nd rfl (.inl rfl)) (pgs_cons (pg_name (i := 8) sc_law.nd rfl (.inr rfl)) pgs_nil))))
      (pss_cons (ps_asg (pe_tup (pa_cons (pe_mkS (w := w) rfl D_mk quiet passL hr (by decide) (by rfl) (pa_cons (pe_disp (pps_cons pe_int pe_str pps_nil) (by rfl) (by rfl) (fun z => by cases z) (by decide)) pa_nil)) (pa_cons (pe_op op_add pe_int (pe_c D_draw hr (by decide) (by rfl) (pa_cons (pv 1) (pa_cons pe_int pa_nil)))) pa_nil))) (pg_tup (by rfl) (pgs_cons (pg_name (i := 9) sc_law.nd rfl (.inr rfl)) (pgs_cons (pg_name (i := 10) sc_law.nd rfl (.inr rfl)) pgs_nil))))
      (pss_cons (ps_set (i := 11) sc_law.nd rfl (.inl rfl) (pe_heardG (k := 7) T D_heard TB sys quiet hr (by decide) rfl rfl (by rfl) (lamS_by (sc := defScope s_law) (by decide +kernel)) (by rfl) (fun _ _ _ _ _ => rfl) (fun A2 o2 s2 H2 E2 f2 c2 quiet2 hr2 => (pe_callG (pv 9) D_call quiet2 (passTk (takes_of rfl rfl rfl rfl)) hr2 (by decide) (pa_cons (pe_op op_rep (pe_lst (pa_cons pe_int pa_nil)) (pv 10)) pa_nil)))))
      (pss_cons (ps_if (pt_cmpR (op_neDK (K := K) rfl hr.units) (pv 11) (pe_ifExp (pt_cmpR op_le (pv 10) pe_int (nomark _)) (pe_lst (pa_cons (pe_op op_repS2 pe_str (pv 10)) pa_nil)) (pe_tup (pa_cons pe_str (pa_cons pe_str (pa_cons pe_str pa_nil))))) (nomark _))
        (pss_one (ps_ret pe_bl))
        pss_nil)
      (pss_cons (ps_if (pt_cmpR (op_neDK (K := K) rfl hr.units) (pe_heardG (k := 7) T D_heard TB sys quiet hr (by decide) rfl rfl (by rfl) (lamS_by (sc := defScope s_law) (by decide +kernel)) (by rfl) (fun _ _ _ _ _ => rfl) (fun A2 o2 s2 H2 E2 f2 c2 quiet2 hr2 => (pe_callG (pv 9) D_call quiet2 (passTk (takes_of rfl rfl rfl rfl)) hr2 (by decide) (pa_cons (pe_op op_cat (pe_op op_rep (pe_lst (pa_cons pe_int pa_nil)) pe_int) (pe_lst (pa_cons pe_int pa_nil))) pa_nil)))) (pe_tup (pa_cons pe_str (pa_cons pe_str pa_nil))) (nomark _))
        (pss_one (ps_ret pe_bl))
        pss_nil)
      (pss_cons (ps_set (i := 12) sc_law.nd rfl (.inl rfl) (pe_lst (pa_cons (pe_heardG (k := 7) T D_heard TB sys quiet hr (by decide) rfl rfl (by rfl) (lamS_by (sc := defScope s_law) (by decide +kernel)) (by rfl) (fun _ _ _ _ _ => rfl) (fun A2 o2 s2 H2 E2 f2 c2 quiet2 hr2 => (pe_mkS (w := w) rfl D_mk quiet2 (passTk (takes_of rfl rfl rfl rfl)) hr2 (by decide) (by rfl) (pa_cons (pv 8) pa_nil)))) (pa_cons (pe_lst (pa_cons (pe_callG (pv 7) D_call quiet passL hr (by decide) (pa_cons (pe_lst pa_nil) pa_nil)) pa_nil)) (pa_cons (pe_lst (pa_cons (pe_callB (call_lenO D_lenR hr (by decide)) (by rfl) T.len (by decide +kernel) (pa_cons (pv 7) pa_nil)) pa_nil)) (pa_cons (pe_lst (pa_cons (pe_callB (call_lenO D_lenW hr (by decide)) (by rfl) T.len (by decide +kernel) (pa_cons (pe_un (un_invO D_inv hr (by decide)) (pv 7)) pa_nil)) pa_nil)) pa_nil))))))
      (pss_one (ps_ret (pe_cmpR (op_eqDK (K := K) rfl hr.units) (pv 12) (pe_lst (pa_cons (pe_tup (pa_cons pe_str (pa_cons pe_str pa_nil))) (pa_cons (pe_lst (pa_cons pe_str pa_nil)) (pa_cons (pe_lst (pa_cons pe_int pa_nil)) (pa_cons (pe_lst (pa_cons pe_int pa_nil)) pa_nil))))) (nomark _)))))))))))), ?_⟩
    -- the pen
    refine ⟨_, rfl, a, ns, rfl, hS, hn0, fun p l H1 np s1 PA1 => ?_⟩
    have tb1 := tb0.ext s1
    clear tb0 s1 np hS
    -- the turns
    refine ⟨_, rfl, by decide, by decide, for_it (walk_range (lo := 0) (n := 4)) (fun i σ H2 => (∃ v2 v3 v4 v5 v6 v7 v8 v9 v10 v11 v12 v13 : Option V, σ = [some (.ref a), some (.ref p), v2, v3, v4, v5, v6, v7, v8, v9, v10, v11, v12, v13]) ∧ PenAt H2 p l ns (20 + 1000 * (4 - i)) ∧ Tabs TL H2) ⟨⟨_, _, _, _, _, _, _, _, _, _, _, _, rfl⟩, PA1.less (by decide), tb1⟩ (fun _ _ _ _ _ => True.intro) ?_ ?_⟩
    · rintro i z σ H20 H2 hi ⟨⟨v2, v3, v4, v5, v6, v7, v8, v9, v10, v11, v12, v13, rfl⟩, PA2, tb2⟩ ⟨rfl, rfl⟩
      have hb : 20 + 1000 * (4 - i) = 20 + 1000 * (4 - (i + 1)) + 1000 := by omega
      rw [hb] at PA2
      generalize 20 + 1000 * (4 - (i + 1)) = n at PA2 ⊢
      refine ⟨_, rfl, _, rfl, p, l, ns, n + 999, 6, rfl, PA2, by decide, by decide, fun dv H3 d0 d1 PA3 fr3 => ⟨_, _, rfl, rfl, ?_⟩⟩
      have tb3 := tabs_fr tb2 PA2.pl fr3
      clear tb2 PA2 fr3
      refine ⟨p, l, ns, n + 900, (1 + dv).toNat, by rw [Int.toNat_of_nonneg (by omega)]; rfl, PA3.less (by omega), by omega, fun sl cs H4 c0 cnd isl PA4 fr4 nsl hsl => ?_⟩
      have slp : sl ≠ p := PA3.nep nsl
      have cs0 : cs ≠ [] := fun e => by
        rw [e] at c0
        have : (0 : Nat) = (1 + dv).toNat := c0
        omega
      have cs26 : cs.length ≤ 26 := by omega
      have tb4 := tabs_fr tb3 PA3.pl fr4
      clear tb3 PA3 fr4 nsl cnd c0
      -- known numbers, signs
      refine ⟨_, rfl, _, rfl, _, rfl, p, l, ns, n + 800, 8, rfl, PA4.less (by omega), by decide, by decide, fun cnt H5 k0 k1 PA5 fr5 => ⟨cnt, rfl, by omega, by omega, fun B nB => lc_range (lo := 0) (n := cnt.toNat) (fun i H6 => ∃ ks : List Nat, ks.length = i ∧ (∀ k ∈ ks, k < 250) ∧ H6 B = some (.lst (nums ks)) ∧ PenAt H6 p l ns (n + 700 + (8 - i)) ∧ Tabs TL H6 ∧ H6 sl = some (.lst (lets cs))) ?_ ?_ ?_⟩⟩
      · have sB := same_put (s := Same.refl H5) (o := .lst []) nB
        exact ⟨[], rfl, (fun _ z => nomatch z), upd_same, (pen_ext PA5 (ExtN.of sB)).less (by omega), (tabs_fr tb4 PA4.pl fr5).ext sB, sB _ _ (fr5 _ _ hsl slp)⟩
      · rintro i2 H6 hi2 ⟨ks, kl, k250, hB, PA6, tb6, hsl6⟩
        have Bp : B ≠ p := PA5.nep nB
        have Bl : B ≠ l := PA5.nel nB
        have eb : n + 700 + (8 - i2) = n + 700 + (8 - (i2 + 1)) + 1 := by omega
        rw [eb] at PA6
        refine ⟨rfl, _, rfl, p, l, ns, _, 250, rfl, PA6, by decide, by decide, fun kv H7 kv0 kv1 PA7 fr7 => ⟨nums ks, fr7 _ _ hB Bp, by rw [nums_len]; exact small1000 (by omega), ks ++ [kv.toNat], by rw [List.length_append, kl]; rfl, fun k hk => ?_, ?_, PA7.other Bp Bl, ?_, ?_⟩⟩
        · rcases List.mem_append.mp hk with h | h
          · exact k250 k h
          · rw [List.mem_singleton.mp h]
            omega
        · rw [upd_same]
          unfold nums
          rw [List.map_append]
          show some (HO.lst (_ ++ [V.int kv])) = some (HO.lst (_ ++ [V.int ((kv.toNat : Nat) : Int)]))
          rw [Int.toNat_of_nonneg kv0]
        · exact tabs_fr (tabs_fr tb6 PA6.pl fr7) ⟨_, fr7 _ _ hB Bp⟩ Fr.at
        · rw [upd_ne fun z => ?_]
          · exact fr7 _ _ hsl6 slp
          · have nB4 := nB
            rw [← z, fr5 _ _ hsl slp] at nB4
            cases nB4
      rintro H6 ⟨ks, kl, k250, hB, PA6, tb6, hsl6⟩
      have Bp : B ≠ p := PA5.nep nB
      clear nB tb4 PA4 fr5 PA5 hsl
      refine ⟨p, l, sl, B, ns, n + 100, cs, ks, rfl, PA6.less (by omega), hsl6, slp, cs0, cs26, isl, hB, Bp, by omega, k250, fun d t H7 sg tl t250 PA7 fr7 nd => ?_⟩
      have tb7 := tabs_fr tb6 PA6.pl fr7
      have hsl7 := fr7 _ _ hsl6 slp
      have tlen : t.length ≤ 30 := by omega
      clear hB Bp tb6 PA6 fr7 hsl6 k250 kl nd tl
      -- the table and what is kept
      refine ⟨_, rfl, .ref d, rfl, .inl ⟨d, t, rfl, sg, fun x H8 nx rd s8 rn => ⟨_, rfl, d, encS t, rfl, .inl (s8 _ _ sg.1), fun kp nkp => ⟨_, _, rfl, ?_⟩⟩⟩⟩
      have sk := same_put (s := Same.refl H8) (o := .dK (encS t)) nkp
      have hd9 := sk _ _ (s8 _ _ sg.1)
      have lt' : (encS t).length < sizeLine := by
        rw [encS_len, sizeLine_eq]
        omega
      refine ⟨_, rfl, d, _, rfl, DPut.k (k := Sum.inl 9) hd9 lt', ?_⟩
      obtain ⟨dx, b, nb, hx8, hb8⟩ := rn
      have xd : x ≠ d := ne_of_none sg.1 nx |>.symm
      have bd : b ≠ d := ne_of_none sg.1 nb |>.symm
      have kd : kp ≠ d := ne_of_none (s8 _ _ sg.1) nkp |>.symm
      have s9 : ∀ c u, H7 c = some u → c ≠ d → upd (upd H8 kp (.dK (encS t))) d (.dK (putK (encS t) (Sum.inl 9) V.non)) c = some u := fun c u e n => by
        rw [upd_ne n]
        exact sk _ _ (s8 _ _ e)
      have rd9 : RdU CR (upd (upd H8 kp (.dK (encS t))) d (.dK (putK (encS t) (Sum.inl 9) V.non))) x t := ⟨⟨dx, b, by rw [upd_ne xd]; exact sk _ _ hx8, by rw [upd_ne bd]; exact sk _ _ hb8⟩, rd.g⟩
      have sg9 : SigA (upd (upd H8 kp (.dK (encS t))) d (.dK (putK (encS t) (Sum.inl 9) V.non))) kp t := ⟨by rw [upd_ne kd]; exact upd_same, sg.2⟩
      have PA9 : PenAt (upd (upd H8 kp (.dK (encS t))) d (.dK (putK (encS t) (Sum.inl 9) V.non))) p l ns (n + 100) := pen_dk (pen_ext (pen_ext PA7 (ExtN.of s8)) (ExtN.of sk)) hd9
      have tb9 : Tabs TL (upd (upd H8 kp (.dK (encS t))) d (.dK (putK (encS t) (Sum.inl 9) V.non))) := tabs_dk ((tb7.ext s8).ext sk) hd9
      have hsl9 := s9 _ _ hsl7 (ne_of hsl7 sg.1 (fun z => nomatch z))
      show Ends.nx _ _ (upd (upd H8 kp (.dK (encS t))) d (.dK (putK (encS t) (Sum.inl 9) V.non)))
      generalize upd (upd H8 kp (.dK (encS t))) d (.dK (putK (encS t) (Sum.inl 9) V.non)) = H9 at rd9 sg9 PA9 tb9 hsl9 ⊢
      clear s9 bd xd kd hx8 hb8 nb hd9 sk nkp rd nx s8 sg PA7 tb7 hsl7 lt'
      refine ⟨_, rfl, _, rfl, x, kp, t, rfl, rd9, sg9, tlen, fun Ha sa => ⟨true, rfl, iteF ?_⟩⟩
      have rda := rd9.same sa
      have sga := SigA.same sg9 sa
      have PAa := pen_ext PA9 (ExtN.of sa)
      have tba := tb9.ext sa
      have hsla := sa _ _ hsl9
      clear rd9 sg9 PA9 tb9 hsl9 sa
      refine ⟨_, rfl, _, rfl, .ref kp, rfl, .inl ⟨kp, t, rfl, sga, fun y Hb ny rdy sb rn2 => ?_⟩⟩
      have rdb := rda.same sb
      obtain ⟨dxb, bb, hxb, _⟩ := rdb.at_
      obtain ⟨dyb, b2, hyb, _⟩ := rdy.at_
      refine ⟨x, dxb, _, .ref CR, rfl, hxb, .base (.ins hyb T.clR T.rA T.tB T.tC T.rD), T.nfR, x, t, .ref y, rfl, rdb, .inl ⟨y, rfl, rdy, true, rfl, false, rfl, iteF ?_⟩⟩
      have sgb := SigA.same sga sb
      have PAb := pen_ext PAa (ExtN.of sb)
      have tbb := tba.ext sb
      have hslb := sb _ _ hsla
      clear rda sga PAa tba hsla sb rn2 ny
      refine ⟨_, rfl, _, rfl, x, dxb, _, .type "dict", rfl, hxb, .base (.dK sgb.1), T.nfd, x, t, .ref kp, rfl, rdb, .inr ⟨_, .base (.dK sgb.1), T.ddR, false, rfl, false, rfl, iteF ?_⟩⟩
      refine ⟨_, rfl, _, rfl, _, rfl, p, l, ns, n + 40, x, kp, sl, t, lets cs, rfl, PAb, tbb, rdb, sgb, tlen, t250, hslb, slp, fun Hc PAc tbc hslc => ⟨true, rfl, iteF ?_⟩⟩
      refine ⟨_, rfl, _, rfl, p, l, sl, ns, n, cs, rfl, PAc, tbc, hslc, slp, cs0, cs26, isl, fun Hd PAd tbd => ⟨true, rfl, iteF ?_⟩⟩
      exact ⟨⟨_, _, _, _, _, _, _, _, _, _, _, _, rfl⟩, PAd, tbd⟩
    · rintro σ H2 ⟨⟨v2, v3, v4, v5, v6, v7, v8, v9, v10, v11, v12, v13, rfl⟩, PA2, tb2⟩
      -- an empty table, and what is none
      refine fun d0 nd0 => ⟨.ref d0, rfl, .inl ⟨d0, [], rfl, ⟨upd_same, GoodS.nil⟩, fun no H3 nn rdn sn _ => ?_⟩⟩
      have s3 : Same H2 H3 := fun b o e => sn _ _ (same_put (s := Same.refl H2) (o := .dK []) nd0 _ _ e)
      have PA3 := pen_ext PA2 (ExtN.of s3)
      have tb3 := tb2.ext s3
      clear PA2 tb2 s3 sn nn nd0
      refine ⟨_, rfl, Nat.zero_le _, fun l0 nl0 => ⟨Nat.zero_le _, fun t0 nt0 => ⟨by show 2 ≤ sizeLine; decide, fun t1 nt1 => ⟨by show 1 ≤ sizeLine; decide, fun l1 nl1 => ⟨by show 7 ≤ sizeLine; decide, fun lo nlo => ?_⟩⟩⟩⟩⟩
      have sl0 := same_put (s := Same.refl H3) (o := .lst []) nl0
      have hl0 : upd H3 l0 (.lst []) l0 = some (.lst []) := upd_same
      have l0p := PA3.nep nl0
      have PAa := pen_ext PA3 (ExtN.of sl0)
      generalize upd H3 l0 (.lst []) = Ha at sl0 hl0 PAa nt0 nt1 nl1 nlo ⊢
      have st0 := same_put (s := Same.refl Ha) (o := .tup []) nt0
      have ht0 : upd Ha t0 (.tup []) t0 = some (.tup []) := upd_same
      have t0p := PAa.nep nt0
      have PAb := pen_ext PAa (ExtN.of st0)
      generalize upd Ha t0 (.tup []) = Hb at st0 ht0 PAb nt1 nl1 nlo ⊢
      have st1 := same_put (s := Same.refl Hb) (o := .tup [.int 1, .str "a"]) nt1
      have PAc := pen_ext PAb (ExtN.of st1)
      generalize upd Hb t1 (.tup [.int 1, .str "a"]) = Hc at st1 PAc nl1 nlo ⊢
      have sl1 := same_put (s := Same.refl Hc) (o := .lst [.ref t1]) nl1
      have hl1 : upd Hc l1 (.lst [.ref t1]) l1 = some (.lst [.ref t1]) := upd_same
      have l1p := PAc.nep nl1
      have PAd := pen_ext PAc (ExtN.of sl1)
      generalize upd Hc l1 (.lst [.ref t1]) = Hd at sl1 hl1 PAd nlo ⊢
      have slo := same_put (s := Same.refl Hd) (o := .lst [V.non, .int 0, .ref l0, .ref t0, .str "a", .ref l1, .bl true]) nlo
      have hlo : upd Hd lo (.lst [V.non, .int 0, .ref l0, .ref t0, .str "a", .ref l1, .bl true]) lo = _ := upd_same
      have lop := PAd.nep nlo
      have PA4 := pen_ext PAd (ExtN.of slo)
      show spPick K ([V.ref p, V.ref lo] ++ []) (upd Hd lo (.lst [V.non, .int 0, .ref l0, .ref t0, .str "a", .ref l1, .bl true])) _ E0
      generalize upd Hd lo (.lst [V.non, .int 0, .ref l0, .ref t0, .str "a", .ref l1, .bl true]) = H4 at slo hlo PA4 ⊢
      have s34 : Same H3 H4 := fun b o e => slo _ _ (sl1 _ _ (st1 _ _ (st0 _ _ (sl0 _ _ e))))
      have hl0' := slo _ _ (sl1 _ _ (st1 _ _ (st0 _ _ hl0)))
      have ht0' := slo _ _ (sl1 _ _ (st1 _ _ ht0))
      have hl1' := slo _ _ hl1
      have rd4 := rdn.same s34
      have tb4 := tb3.ext s34
      clear slo sl1 st1 st0 sl0 nlo nl1 nt1 nt0 nl0 hl0 ht0 hl1 PAa PAb PAc PAd PA3 tb3 rdn s34
      refine ⟨p, l, lo, ns, 10, _, rfl, PA4.less (by omega), SqL.of hlo, by show 0 < 7; decide, by show 7 < 1000; decide, fun H5 f5 => SqL.of (f5 _ _ hlo lop), fun vo H5 hvo PA5 fr5 => ?_⟩
      have odd5 : OddS p H5 vo := by
        simp only [List.mem_cons, List.not_mem_nil, or_false] at hvo
        rcases hvo with rfl | rfl | rfl | rfl | rfl | rfl | rfl
        · exact .inl rfl
        · exact .inr (.inl rfl)
        · exact .inr (.inr (.inr (.inr (.inr ⟨l0, _, rfl, l0p, fr5 _ _ hl0' l0p⟩))))
        · exact .inr (.inr (.inr (.inr (.inl ⟨t0, rfl, t0p, fr5 _ _ ht0' t0p⟩))))
        · exact .inr (.inr (.inl rfl))
        · exact .inr (.inr (.inr (.inr (.inr ⟨l1, _, rfl, l1p, fr5 _ _ hl1' l1p⟩))))
        · exact .inr (.inr (.inr (.inl rfl)))
      have rd5 := rd4.mv PA4.pl (Mv.ofFr fr5)
      have tb5 := tabs_fr tb4 PA4.pl fr5
      clear hvo rd4 tb4 PA4 fr5 hl0' ht0' hl1' hlo lop l0p t0p l1p
      refine ⟨by show 2 ≤ sizeLine; decide, fun tp ntp => ⟨tp, _, rfl, .inl (.inl upd_same), rfl, _, _, rfl, _, _, rfl, rfl, ?_⟩⟩
      have s6 := same_put (s := Same.refl H5) (o := .tup [.ref no, vo]) ntp
      have odd6 := odd5.mv (Mv.ofSame s6)
      have rd6 := rd5.same s6
      have tb6 := tb5.ext s6
      have PA6 := pen_ext PA5 (ExtN.of s6)
      generalize upd H5 tp (.tup [.ref no, vo]) = H6 at odd6 rd6 tb6 PA6 ⊢
      clear odd5 rd5 tb5 PA5 ntp s6
      -- a table of one sign
      refine fun d1 nd1 => ⟨upd_same, [(kN 3, .str (Sx [122]))], rfl, by decide, ?_⟩
      rw [upd_upd]
      have gz : GoodS tZ := ⟨by decide, fun q h => by rw [List.mem_singleton.mp h]; decide, fun q h => by rw [List.mem_singleton.mp h]; exact ⟨122, rfl, by decide⟩⟩
      have sd := same_put (s := Same.refl H6) (o := .dK (encS tZ)) nd1
      have hd1 : upd H6 d1 (.dK (encS tZ)) d1 = _ := upd_same
      refine ⟨.ref d1, rfl, .inl ⟨d1, tZ, rfl, ⟨hd1, gz⟩, fun fx H8 nx rdf s8 _ => ?_⟩⟩
      have s68 : Same H6 H8 := fun b o e => s8 _ _ (sd _ _ e)
      have odd8 := odd6.mv (Mv.ofSame s68)
      have rd8 := rd6.same s68
      have tb8 := tb6.ext s68
      have PA8 := pen_ext PA6 (ExtN.of s68)
      clear sd hd1 s8 s68 odd6 rd6 tb6 PA6 nd1 nx
      refine ⟨_, rfl, p, l, ns, 9, 3, rfl, PA8, by decide, by decide, fun dv H9 dv0 dv1 PA9 fr9 => ⟨_, _, rfl, rfl, ?_⟩⟩
      have odd9 := odd8.mv (Mv.ofFr fr9)
      have rd9 := rd8.mv PA8.pl (Mv.ofFr fr9)
      have rf9 := rdf.mv PA8.pl (Mv.ofFr fr9)
      have tb9 := tabs_fr tb8 PA8.pl fr9
      clear odd8 rd8 rdf tb8 PA8 fr9
      obtain ⟨m, em, m1, m2⟩ : ∃ m : Nat, (1999 + dv : Int) = ((m : Nat) : Int) ∧ 1999 ≤ m ∧ m ≤ 2001 := ⟨(1999 + dv).toNat, by omega, by omega, by omega⟩
      refine ⟨by show 2 ≤ sizeLine; decide, fun tq ntq => ⟨tq, _, rfl, .inl (.inl upd_same), rfl, _, _, rfl, _, _, rfl, rfl, ?_⟩⟩
      have s10 := same_put (s := Same.refl H9) (o := .tup [.ref fx, .int (1999 + dv)]) ntq
      have odd10 := odd9.mv (Mv.ofSame s10)
      have rd10 := rd9.same s10
      have rf10 := rf9.same s10
      have tb10 := tb9.ext s10
      have PA10 := pen_ext PA9 (ExtN.of s10)
      generalize upd H9 tq (.tup [.ref fx, .int (1999 + dv)]) = H10 at odd10 rd10 rf10 tb10 PA10 ⊢
      dsimp only
      rw [em]
      clear odd9 rd9 rf9 tb9 PA9 ntq s10 em dv0 dv1
      -- a row as long as one may be
      have okd : OkU (dueR tZ (List.replicate m (.int 3))) := due_ok (H := H10) gz (fun d hd => by rw [List.eq_of_mem_replicate hd]; exact nice_nat 3 (by decide)) (by rw [List.length_replicate]; omega)
      refine heard_end (oR (dueR tZ (List.replicate m (.int 3)))) (PR (dueR tZ (List.replicate m (.int 3)))) tb10 (fun H11 E2 R e11 tb11 hE hR => ?_) (fun w1 H11 e11 tb11 hw1 => ?_)
      · have rf11 := rf10.mv PA10.pl (Mv.ofExt e11)
        refine ⟨_, rfl, fx, rfl, ?_⟩
        refine ⟨by show 1 ≤ sizeLine; decide, fun la nla => ⟨_, rfl, la, _, _, rfl, rfl, upd_same, by omega, by omega, by rw [sizeLine_eq]; show 1 * (m : Nat) ≤ _; omega, fun row nrow => ?_⟩⟩
        have sla := same_put (s := Same.refl H11) (o := .lst [V.int 3]) nla
        have srw := same_put (s := sla) (o := .lst (List.replicate ((m : Nat) : Int).toNat [V.int 3]).flatten) nrow
        have rf12 := rf11.same srw
        obtain ⟨⟨dx, b, hx, _⟩, _⟩ := id rf12
        refine ⟨⟨dx, _, hx⟩, fx, _, _, rfl, rf12, .inr ⟨row, List.replicate m (.int 3), rfl, ⟨⟨_, .inl upd_same, ?_⟩, by rw [List.length_replicate]; omega⟩, fun b eb => (hE b (by rw [eb] at okd; exact okd) (by rw [eb]; rfl)).same srw, fun s es H2 s2 => hR (by rw [es]; rfl) _ _ (fun b o e => s2 _ _ (srw _ _ e)) fun H3 s3 => ⟨s, es, rfl⟩⟩⟩
        rw [Int.toNat_natCast]
        exact rep_held m
      have hw1 := hru_of hw1
      rw [due_rep] at hw1 okd
      have odd11 := odd10.mv (Mv.ofExt e11)
      have rd11 := rd10.mv PA10.pl (Mv.ofExt e11)
      have rf11 := rf10.mv PA10.pl (Mv.ofExt e11)
      clear odd10 rd10 rf10 tb10 PA10 e11
      refine ⟨_, rfl, via (fun v H12 => Same H11 H12 ∧ Dp K H12 v (dU (if 2000 < m then .inl (.many "signs" 2000) else .inr (List.replicate m 122)))) (fun R' hR => ?_) (fun v H12 z => ?_)⟩
      · refine ⟨_, rfl, _, _, rfl, rfl, _, rfl, ?_⟩
        by_cases l : 2000 < m
        · rw [if_pos l] at hR
          rw [decide_eq_false (by omega)]
          refine iteF ⟨by show 3 ≤ sizeLine; decide, fun t3 nt3 => ?_⟩
          have s3 := same_put (s := Same.refl H11) (o := .tup [.str "many", .str "'signs'", .str "2000"]) nt3
          refine hR _ _ ⟨s3, .tup (.inl (.inl upd_same)) ?_⟩
          show DpAll K _ _ ((wordsB (.many "signs" 2000)).map PyData.str)
          rw [words_many]
          exact dp_strs ["many", "'signs'", "2000"]
        · rw [if_neg l] at hR
          rw [decide_eq_true (by omega)]
          refine iteT ⟨_, rfl, _, _, rfl, rfl, by decide, by omega, by omega, by show 1 ≤ sizeLine; decide, fun l3 nl3 => ?_⟩
          have ez : Txt.mul ("z" : Str) ((m : Nat) : Int) = Sx (List.replicate m 122) := by
            rw [show ("z" : Str) = Sx [122] from by decide +kernel, mul_Sx [122] m (by omega) (by decide), flat_one]
          rw [ez]
          have s3 := same_put (s := Same.refl H11) (o := .lst [V.str (Sx (List.replicate m 122))]) nl3
          exact hR _ _ ⟨s3, .lst (SqL.of upd_same) (.cons (.str _) .nil)⟩
      obtain ⟨s12, dv⟩ := z
      refine neD_same (hru_dp (hru_ext hw1 (ExtN.of s12))) dv (u_shaped okd) ⟨false, rfl, iteF ?_⟩
      have odd12 := odd11.mv (Mv.ofSame s12)
      have rd12 := rd11.same s12
      have rf12 := rf11.same s12
      have tb12 := tb11.ext s12
      clear odd11 rd11 rf11 tb11 hw1 s12 okd
      -- an integer that is not there
      have ok2 : BadOk (.one 3 (.int ((2001 : Nat) : Int))) := ⟨by decide, nice_nat 2001 (by decide)⟩
      refine heard_end (some (.one 3 (.int ((2001 : Nat) : Int)))) (PR (.inl (.one 3 (.int ((2001 : Nat) : Int))))) tb12 (fun H13 E2 R e13 tb13 hE hR => ?_) (fun w1 H13 e13 tb13 hw1 => ?_)
      · have rf13 := rdU_ext rf12 e13
        refine ⟨_, rfl, fx, rfl, ?_⟩
        refine ⟨by show 1 ≤ sizeLine; decide, fun la nla => ⟨la, _, _, rfl, rfl, upd_same, by decide, by decide, by rw [sizeLine_eq]; show 1 * 2001 ≤ _; decide, fun lb nlb => ⟨by show 1 ≤ sizeLine; decide, fun lc nlc => ?_⟩⟩⟩
        have e01 : (2001 : Int).toNat = 2001 := rfl
        rw [e01] at nlc ⊢
        obtain ⟨xs, exs⟩ : ∃ xs, xs = (List.replicate 2001 [V.int 3]).flatten := ⟨_, rfl⟩
        have lxs : xs.length = 2001 := by rw [exs]; exact rep_len 2001
        have pxs : ∀ H, Paired (Held H) xs (List.replicate 2001 (PyData.int 3)) := fun H => by rw [exs]; exact rep_held 2001
        rw [← exs] at nlc ⊢
        clear exs
        have sla := same_put (s := Same.refl H13) (o := .lst [V.int 3]) nla
        have slb := same_put (s := sla) (o := .lst xs) nlb
        have slc := same_put (s := slb) (o := .lst [V.int 4]) nlc
        have hlb := (same_put (s := Same.refl _) (o := .lst [V.int 4]) nlc) _ _ (show upd (upd H13 la (.lst [V.int 3])) lb (.lst xs) lb = _ from upd_same)
        refine ⟨lb, lc, xs, [V.int 4], rfl, rfl, hlb, upd_same, by rw [lxs, sizeLine_eq]; show 2001 + 1 ≤ _; decide, fun row nrow => ?_⟩
        have srw := same_put (s := slc) (o := .lst (xs ++ [V.int 4])) nrow
        have rf14 := rf13.same srw
        obtain ⟨⟨dx, b, hx, _⟩, _⟩ := id rf14
        have due : dueR tZ (List.replicate 2001 (.int 3) ++ [.int 4]) = .inl (.one 3 (.int ((2001 : Nat) : Int))) := due_lack 2001
        refine ⟨⟨dx, _, hx⟩, fx, _, _, rfl, rf14, .inr ⟨row, List.replicate 2001 (.int 3) ++ [.int 4], rfl, ⟨⟨_, .inl upd_same, (pxs _).snoc (held_int (nice_nat 4 (by decide)))⟩, by rw [List.length_append, List.length_replicate]; show 2001 + 1 ≤ _; decide⟩, fun b eb => ?_, fun s es H2 s2 => ?_⟩⟩
        · rw [due] at eb
          cases eb
          exact (hE _ ok2 rfl).same srw
        · rw [due] at es
          cases es
      have hw1 : HrU H13 w1 (.inl (.one 3 (.int ((2001 : Nat) : Int)))) := hw1
      have odd13 := odd12.mv (Mv.ofExt e13)
      have rd13 := rdU_ext rd12 e13
      clear odd12 rd12 rf12 tb12 e13
      refine ⟨by show 2 ≤ sizeLine; decide, fun t4 nt4 => ?_⟩
      have s14 := same_put (s := Same.refl H13) (o := .tup [.str "unread", .str "2001"]) nt4
      refine neD_same (d := dU (.inl (.one 3 (.int ((2001 : Nat) : Int))))) (hru_dp (hru_ext hw1 (ExtN.of s14))) (.tup (.inl (.inl upd_same)) ?_) (u_shaped (r := .inl (.one 3 (.int ((2001 : Nat) : Int)))) ok2) ⟨false, rfl, iteF ?_⟩
      · show DpAll K _ _ ((wordsB (.one 3 (.int ((2001 : Nat) : Int)))).map PyData.str)
        rw [words_2001]
        exact dp_strs ["unread", "2001"]
      have odd14 := odd13.mv (Mv.ofSame s14)
      have rd14 := rd13.same s14
      have tb14 := tb13.ext s14
      show Ends.nx _ _ _
      generalize upd H13 t4 (.tup [.str "unread", .str "2001"]) = H14 at odd14 rd14 tb14 ⊢
      clear odd13 rd13 tb13 nt4 s14 hw1 ok2
      -- no table, and the empty one
      have ok3 : BadOk (.one 0 (.str "signs")) := ⟨by decide, nice_okZ (by decide +kernel)⟩
      refine heard_end (some (.one 0 (.str "signs"))) (PR (.inl (.one 0 (.str "signs")))) tb14 (fun H15 E2 R e15 tb15 hE hR => ?_) (fun w1 H15 e15 tb15 hw1 => ?_)
      · exact ⟨_, rfl, vo, rfl, .inr ((odd14.mv (Mv.ofExt e15)).rs (hE _ ok3 rfl))⟩
      have hw1 : HrU H15 w1 (.inl (.one 0 (.str "signs"))) := hw1
      have rd15 := rdU_ext rd14 e15
      clear odd14 rd14 tb14 e15
      refine ⟨_, rfl, no, rfl, Nat.zero_le _, fun le nle => ?_⟩
      have s16 := same_put (s := Same.refl H15) (o := .lst []) nle
      have rd16 := rd15.same s16
      obtain ⟨⟨dx, b, hx, _⟩, _⟩ := id rd16
      refine ⟨⟨dx, _, hx⟩, no, [], _, rfl, rd16, .inr ⟨le, [], rfl, ⟨⟨[], .inl upd_same, .nil⟩, Nat.zero_le _⟩, fun b eb => ?_, fun s es H17 s17 => ?_⟩⟩
      · cases eb
      cases es
      have s157 : Same H15 H17 := fun b o e => s17 _ _ (s16 _ _ e)
      have rd17 := rd15.same s157
      have hw17 := hru_ext hw1 (ExtN.of s157)
      clear hw1 s157 s17 rd16 hx s16 rd15 nle
      refine ⟨by show 1 ≤ sizeLine; decide, fun m1 nm1 => ?_⟩
      have q1 := same_put (s := Same.refl H17) (o := .lst [V.str (Sx (imgsD [] []))]) nm1
      have hm1 : upd H17 m1 (.lst [V.str (Sx (imgsD [] []))]) m1 = _ := upd_same
      have rd18 := rd17.same q1
      have hw18 := hru_ext hw17 (ExtN.of q1)
      generalize upd H17 m1 (.lst [V.str (Sx (imgsD [] []))]) = H18 at hm1 rd18 hw18 ⊢
      clear q1 rd17 hw17 nm1
      have hm1 : H18 m1 = some (.lst [V.str ""]) := hm1
      have z0 : (imsL (List.range 256) []).length = 0 := by decide +kernel
      have z1 : (imsL abc (invL (imsL (List.range 256) []))).length = 0 := by decide +kernel
      obtain ⟨⟨dx2, b2, hx2, _⟩, _⟩ := id rd18
      refine ⟨_, rfl, no, dx2, _, rfl, hx2, no, [], rfl, rd18, 0, by rw [z0], Nat.zero_le _, by show 1 ≤ sizeLine; decide, fun m2 nm2 => ?_⟩
      have q2 := same_put (s := Same.refl H18) (o := .lst [V.int ((0 : Nat) : Int)]) nm2
      have hm2 : upd H18 m2 (.lst [V.int ((0 : Nat) : Int)]) m2 = _ := upd_same
      have rd19 := rd18.same q2
      have hw19 := hru_ext hw18 (ExtN.of q2)
      have hm1' := q2 _ _ hm1
      generalize upd H18 m2 (.lst [V.int ((0 : Nat) : Int)]) = H19 at hm2 rd19 hw19 hm1' ⊢
      clear q2 rd18 hw18 nm2 hm1 hx2
      obtain ⟨⟨dx3, b3, hx3, _⟩, _⟩ := id rd19
      refine ⟨_, rfl, no, dx3, _, rfl, hx3, no, [], rfl, rd19, fun z B H20 nz wz s20 => ?_⟩
      obtain ⟨⟨dxw, bw, hwx, _⟩, _, _⟩ := id wz
      refine ⟨z, dxw, _, rfl, hwx, z, B, _, rfl, wz, 0, by rw [z1], Nat.zero_le _, by show 1 ≤ sizeLine; decide, fun m3 nm3 => ⟨by show 4 ≤ sizeLine; decide, fun m4 nm4 => ?_⟩⟩
      have q3 := same_put (s := s20) (o := .lst [V.int ((0 : Nat) : Int)]) nm3
      have hm3 : upd H20 m3 (.lst [V.int ((0 : Nat) : Int)]) m3 = _ := upd_same
      have hm1b := q3 _ _ hm1'
      have hm2b := q3 _ _ hm2
      have hw20 := hru_ext hw19 (ExtN.of q3)
      generalize upd H20 m3 (.lst [V.int ((0 : Nat) : Int)]) = H21 at hm3 hm1b hm2b hw20 nm4 ⊢
      clear q3 hm1' hm2 hw19 rd19 hx3 wz s20 hwx nz
      have q4 := same_put (s := Same.refl H21) (o := .lst [w1, V.ref m1, .ref m2, .ref m3]) nm4
      have hm4 : upd H21 m4 (.lst [w1, V.ref m1, .ref m2, .ref m3]) m4 = _ := upd_same
      have hm1c := q4 _ _ hm1b
      have hm2c := q4 _ _ hm2b
      have hm3c := q4 _ _ hm3
      have hw22 := hru_ext hw20 (ExtN.of q4)
      show gName 12 (.ref m4) _ (upd H21 m4 (.lst [w1, V.ref m1, .ref m2, .ref m3])) _
      generalize upd H21 m4 (.lst [w1, V.ref m1, .ref m2, .ref m3]) = H22 at hm4 hm1c hm2c hm3c hw22 ⊢
      clear q4 hm1b hm2b hm3 hw20
      refine ⟨_, rfl, by show 2 ≤ sizeLine; decide, fun n1 nn1 => ⟨by show 1 ≤ sizeLine; decide, fun n2 nn2 => ⟨by show 1 ≤ sizeLine; decide, fun n3 nn3 => ⟨by show 1 ≤ sizeLine; decide, fun n4 nn4 => ⟨by show 4 ≤ sizeLine; decide, fun n5 nn5 => ?_⟩⟩⟩⟩⟩
      have u1 := same_put (s := Same.refl H22) (o := .tup [.str "table", .str "'signs'"]) nn1
      have u2 := same_put (s := Same.refl _) (o := .lst [.str ""]) nn2
      have u3 := same_put (s := Same.refl _) (o := .lst [.int 0]) nn3
      have u4 := same_put (s := Same.refl _) (o := .lst [.int 0]) nn4
      have u5 := same_put (s := Same.refl _) (o := .lst [V.ref n1, .ref n2, .ref n3, .ref n4]) nn5
      have uu : Same H22 (upd (upd (upd (upd (upd H22 n1 (.tup [.str "table", .str "'signs'"])) n2 (.lst [.str ""])) n3 (.lst [.int 0])) n4 (.lst [.int 0])) n5 (.lst [V.ref n1, .ref n2, .ref n3, .ref n4])) := fun b o e => u5 _ _ (u4 _ _ (u3 _ _ (u2 _ _ (u1 _ _ e))))
      have g1 := u5 _ _ (u4 _ _ (u3 _ _ (u2 _ _ (show upd H22 n1 (.tup [.str "table", .str "'signs'"]) n1 = _ from upd_same))))
      have g2 := u5 _ _ (u4 _ _ (u3 _ _ (show upd (upd H22 n1 (.tup [.str "table", .str "'signs'"])) n2 (.lst [.str ""]) n2 = _ from upd_same)))
      have g3 := u5 _ _ (u4 _ _ (show upd (upd (upd H22 n1 (.tup [.str "table", .str "'signs'"])) n2 (.lst [.str ""])) n3 (.lst [.int 0]) n3 = _ from upd_same))
      have g4 := u5 _ _ (show upd (upd (upd (upd H22 n1 (.tup [.str "table", .str "'signs'"])) n2 (.lst [.str ""])) n3 (.lst [.int 0])) n4 (.lst [.int 0]) n4 = _ from upd_same)
      have g5 : upd (upd (upd (upd (upd H22 n1 (.tup [.str "table", .str "'signs'"])) n2 (.lst [.str ""])) n3 (.lst [.int 0])) n4 (.lst [.int 0])) n5 (.lst [V.ref n1, .ref n2, .ref n3, .ref n4]) n5 = _ := upd_same
      show rEqD K (V.ref m4) (V.ref n5) (upd (upd (upd (upd (upd H22 n1 (.tup [.str "table", .str "'signs'"])) n2 (.lst [.str ""])) n3 (.lst [.int 0])) n4 (.lst [.int 0])) n5 (.lst [V.ref n1, .ref n2, .ref n3, .ref n4])) _
      generalize upd (upd (upd (upd (upd H22 n1 (.tup [.str "table", .str "'signs'"])) n2 (.lst [.str ""])) n3 (.lst [.int 0])) n4 (.lst [.int 0])) n5 (.lst [V.ref n1, .ref n2, .ref n3, .ref n4]) = H23 at uu g1 g2 g3 g4 g5 ⊢
      clear u1 u2 u3 u4 u5 nn1 nn2 nn3 nn4 nn5
      refine eq_same (d := .list [dU (.inl (.one 0 (.str "signs"))), .list [.str ""], .list [.int 0], .list [.int 0]]) (.lst (SqL.of (uu _ _ hm4)) (.cons (hru_dp (hru_ext hw22 (ExtN.of uu))) (.cons (.lst (SqL.of (uu _ _ hm1c)) (.cons (.str _) .nil)) (.cons (.lst (SqL.of (uu _ _ hm2c)) (.cons (.int _) .nil)) (.cons (.lst (SqL.of (uu _ _ hm3c)) (.cons (.int _) .nil)) .nil))))) (.lst (SqL.of g5) (.cons (.tup (.inl (.inl g1)) ?_) (.cons (.lst (SqL.of g2) (.cons (.str _) .nil)) (.cons (.lst (SqL.of g3) (.cons (.int _) .nil)) (.cons (.lst (SqL.of g4) (.cons (.int _) .nil)) .nil))))) (by decide +kernel) (q0 _)
      show DpAll K _ _ ((wordsB (.one 0 (.str "signs"))).map PyData.str)
      rw [words_sg]
      exact dp_strs ["table", "'signs'"]
end
end V8

set_option Elab.async false
set_option linter.all false
set_option maxRecDepth 100000
set_option maxHeartbeats 4000000
/-! The end of a law, the modules known to stand in the ground. -/
namespace LamX
open PySem PySem.Spec PyProof.Rows L2
theorem law_callS {P : Program} {w : World} {K : PySem.W.Frag} {mg mb mm : Str → Option Value} {C : CXT} {k : Nat} {fa a : Addr} {cs : List (Addr × Addr)} {fd : FuncData} {x : Str} {sp : Sp} {s : Shared} {vs : List Value} {ns : List Int}
    (kin : K.In s.heap) (glob : s.heap.Ns mainGlobals mg) (bns : s.heap.Ns builtinsNs mb) (boot : ∀ y : Str, y ≠ "__name__" → mb y = bootBuiltins y) (lim : s.heap.NoLimit) (gens : s.gens = #[])
    (modules : s.heap.Ns sysModules mm)
    (tabs : ∀ p ∈ cs, s.heap.get? p.2 = some { cls := .none, data := .fields #[] }) (untold : ∀ p ∈ cs, K.lookup p.2 = none) (codes : ∀ p ∈ cs, PySem.W.CodeHd s.heap p.1 p.2)
    (bmod : ∃ (bm : Addr) (ob : Obj), mg "__builtins__" = some (.ref bm) ∧ bm ≠ builtinsNs ∧ s.heap.get? bm = some ob ∧ ob.cls = .type "module" ∧ ob.dict = some builtinsNs ∧ ob.data = .plain)
    (script : s.heap.get? a = some { cls := .type "list", data := .seq vs.toArray }) (whole : IntsAre vs ns) (short : ns.length ≤ sizeLine) (room : Room k callerA)
    (F : ∀ base : Heap, SysIn base → K.In base → base.Ns mainGlobals mg → (∀ p ∈ cs, TabB base mg p.1 p.2) → FnG P w K mg base C k fa fd [x] sp) (binds : ∀ (s : Shared) (u : Value), BindsTo s fd ⟨[u], []⟩ [(x, u)])
    (holds : ∀ H : Hp, (∀ p ∈ cs, H p.2 = some (.tbl #[])) → SqL K H a (ns.map V.int) → sp [.ref a] H (fun v _ => v = .bl true) fun _ _ _ => False)
    (noerr : ∀ H e s', C [] H s (fun _ _ _ => False) e s' → False) :
    codeAny (model P w) callerA (.call (.ref fa) ⟨[.ref a], []⟩) (fun r s' => r = .ok (.ret (.bool true)) ∧ OldK s.heap s'.heap ∧ s'.os = s.os ∧ AllBare s'.gens) s := by
  have rel := vals_ints whole
  have many := whole.length
  generalize hts : cs.map (·.2) = ts
  have inT : ∀ p ∈ cs, p.2 ∈ ts := fun p hp => by
    rw [← hts]
    exact List.mem_map.mpr ⟨p, hp, rfl⟩
  have ofT : ∀ b ∈ ts, ∃ p ∈ cs, p.2 = b := fun b hb => by
    rw [← hts] at hb
    exact List.mem_map.mp hb
  have emp : ∀ b ∈ ts, s.heap.get? b = some { cls := .none, data := .fields #[] } := fun b hb => by
    obtain ⟨p, hp, rfl⟩ := ofT b hb
    exact tabs p hp
  have aT : a ∉ ts := fun z => by
    have e := emp a z
    rw [script] at e
    have e2 := congrArg Obj.data (Option.some.inj e)
    cases e2
  generalize hH : firstH K ts a { cls := .type "list", data := .seq vs.toArray } (ns.map V.int) = H
  have of : ∀ {b u}, H b = some u → (b ∈ ts ∧ u = .tbl #[]) ∨ (b = a ∧ K.lookup a = none ∧ u = .frz { cls := .type "list", data := .seq vs.toArray } (.lst (ns.map V.int))) := fun {b u} z => by
    rw [← hH] at z
    exact firstH_of z
  have atT : ∀ b ∈ ts, H b = some (.tbl #[]) := fun b hb => by
    rw [← hH]
    exact firstH_tab hb
  -- what is neither a list nor an empty table is not tracked
  have off : ∀ {b : Addr} {o : Obj}, s.heap.get? b = some o → (∀ us n, o.data ≠ .seq us n) → o.data ≠ .fields #[] → H b = none := fun {b o} e n1 n2 => by
    cases z : H b with
    | none => rfl
    | some u =>
      rcases of z with ⟨m, _⟩ | ⟨m, _, _⟩
      · rw [emp b m] at e
        cases e
        exact absurd rfl n2
      · rw [m, script] at e
        cases e
        exact absurd rfl (n1 _ _)
  have dict : ∀ {b : Addr} {o : Obj} {es : Array DictEntry} {n : Nat}, s.heap.get? b = some o → o.data = .dict es n → H b = none := fun {b o es n} e d =>
    off e (fun us m z => by rw [d] at z; cases z) fun z => by rw [d] at z; cases z
  have stays : ∀ {b : Addr} {m : Str → Option Value}, s.heap.Ns b m → (hidT s.heap H).Ns b m := fun {b m} z => by
    obtain ⟨o, es, ep, e, d, r⟩ := z
    exact ⟨o, es, ep, hidT_get e (dict e d), d, r⟩
  have kin2 : K.In (hidT s.heap H) := fun b o e => by
    refine hidT_get (kin b o e) ?_
    cases z : H b with
    | none => rfl
    | some u =>
      rcases of z with ⟨m, _⟩ | ⟨m, n, _⟩
      · obtain ⟨p, hp, rfl⟩ := ofT b m
        rw [untold p hp] at e
        cases e
      · rw [m, n] at e
        cases e
  have glob2 := stays glob
  have mod : L2.Mod K mg (hidT s.heap H) := by
    refine ⟨kin2, glob2, ⟨mb, stays bns, boot⟩, ?_⟩
    obtain ⟨mc, l1, l2⟩ := lim
    exact ⟨mc, stays l1, l2⟩
  have tb : ∀ p ∈ cs, TabB (hidT s.heap H) mg p.1 p.2 := fun p hp => by
    have eT := tabs p hp
    refine ⟨?_, ?_, fun z => ?_⟩
    · obtain ⟨o, us, file, tf, flags, tg, inF, text, tt, e1, r1, r2, r3, r⟩ := codes p hp
      refine ⟨o, us, file, tf, flags, tg, inF, text, tt, hidT_get e1 (off e1 (fun ws n z => ?_) fun z => ?_), r1, r2, r3, r⟩
      · rw [r2] at z
        cases z
      · rw [r2] at z
        have z2 : us = #[] := by cases z; rfl
        rw [z2] at r3
        simp at r3
    · obtain ⟨bm, ob, b1, b2, b3, b4, b5, b6⟩ := bmod
      refine ⟨bm, ob, b1, b2, fun z => ?_, fun z => ?_, hidT_get b3 (off b3 (fun ws n z => ?_) fun z => ?_), b4, b5, b6⟩
      · obtain ⟨o, es, ep, e, hd, _⟩ := glob
        rw [z, e] at b3
        cases b3
        rw [hd] at b6
        cases b6
      · rw [z, eT] at b3
        cases b3
        cases b6
      · rw [b6] at z
        cases z
      · rw [b6] at z
        cases z
    · obtain ⟨o, es, ep, e, hd, _⟩ := glob
      rw [z, eT] at e
      cases e
      cases hd
  have held : HOk P w H s.heap := fun b u z => by
    rcases of z with ⟨m, rfl⟩ | ⟨rfl, n, rfl⟩
    · exact emp b m
    · refine ⟨script, ?_, vs, 0, rel, script⟩
      rw [List.length_map]
      exact short
  have seq : SqL K H a (ns.map V.int) := by
    cases hk : K.lookup a with
    | none =>
      refine .inl (.inr ⟨{ cls := .type "list", data := .seq vs.toArray }, ?_⟩)
      rw [← hH]
      exact firstH_at aT hk
    | some o =>
      have e := kin a o hk
      rw [script] at e
      cases e
      refine .inr ⟨_, vs.toArray, _, hk, rfl, rfl, rfl, ?_, by simpa using rel⟩
      rw [List.size_toArray, many]
      exact short
  have start : Env0 P w K mg (hidT s.heap H) callerA [] s H := by
    refine ⟨rfl, mod, fun b o e => of_hidT e, Nat.le_of_eq (hidT_size _ _), trivial, fun b z => ?_, held, .of_eq gens⟩
    exact absurd z (List.not_mem_nil)
  have ran := (F _ (by obtain ⟨o, es, ep, e, d, r⟩ := modules; exact ⟨o, hidT_get e (dict e d)⟩) kin2 glob2 tb).runs callerA [] s H ⟨[.ref a], []⟩ [.ref a] [.ref a] _ _ rfl room start (binds s (.ref a)) (.cons rfl .nil) (holds H (fun p hp => atT _ (inT p hp)) seq)
  refine codeAny_mono ran fun r s2 h => ?_
  match r, h with
  | .error e, h => exact (noerr H e s2 h).elim
  | .ok .next, h => exact h.elim
  | .ok .brk, h => exact h.elim
  | .ok .cont, h => exact h.elim
  | .ok (.ret u), h =>
    obtain ⟨v, H2, os, bare, un, ok2, rv, rfl⟩ := h
    obtain rfl : u = Value.bool true := rv
    have same : ∀ b o, b ∉ ts → s.heap.get? b = some o → s2.heap.get? b = some o := fun b o nb e => by
      cases z : H b with
      | none => exact un.keep b o e z (List.not_mem_nil) (List.not_mem_nil)
      | some u =>
        rcases of z with ⟨m, _⟩ | ⟨rfl, n, rfl⟩
        · exact absurd m nb
        · obtain ⟨e2, _⟩ := ok2 b _ (un.frzs b _ _ z)
          rw [script] at e
          cases e
          exact e2
    have more : ∀ b ∈ ts, ∃ us : Array Value, s2.heap.get? b = some { cls := .none, data := .fields us } := fun b hb => by
      obtain ⟨us, z⟩ := un.tbls b #[] (atT b hb)
      exact ⟨_, ok2 b _ z⟩
    refine ⟨rfl, ⟨fun b o e => ?_, fun b o e => ?_⟩, os, bare⟩
    · by_cases hb : b ∈ ts
      · obtain ⟨us, hu⟩ := more b hb
        obtain ⟨p, hp, rfl⟩ := ofT b hb
        have eT := tabs p hp
        rw [eT] at e
        cases e
        refine .inr (.inl ⟨((codes p hp).tab eT).isCodeTable, rfl, #[], us, rfl, ?_⟩)
        rw [Array.empty_append]
        exact hu
      · exact .inl (same b o hb e)
    · by_cases hb : b ∈ ts
      · obtain ⟨us, hu⟩ := more b hb
        exact ⟨_, hu⟩
      · exact ⟨o, same b o hb e⟩
end LamX

set_option Elab.async false
set_option linter.all false
set_option maxRecDepth 100000
set_option maxHeartbeats 16000000
set_option pp.maxSteps 3000
/-! What the top has left, taken together. -/
namespace V8
open PySem PySem.Spec PyProof.Rows L2 LamX
theorem exm_of {K : PySem.W.Frag} {S R : Addr} (h1 : PySem.W.subIn K (.ref R) (.type "BaseException") = some true) (h2 : PySem.W.isClsIn K R = true) (h3 : PySem.W.typeIn K (.ref R) = some (.type "type")) (h4 : PySem.W.subIn K (.ref S) (.ref R) = some true) : PySem.W.exmOne K (.ref S) (.ref R) = some true := by
  unfold PySem.W.isClsIn at h2
  unfold PySem.W.exmOne
  rw [h1, if_pos (show (some true == some true) = true from rfl)]
  unfold PySem.W.kitCls
  dsimp only
  rw [h2, h3, if_pos (show (true && (some (Value.type "type") == some (Value.type "type"))) = true by decide +kernel), h4]
/-- a class of errors, below CE -/
structure ClsX (K : PySem.W.Frag) (CE C : Addr) : Prop where
  x : ∃ nm q N bs sn sub ab col dd k0 k1 k2 k3 k5, K.lookup C = some (excClassObj nm q C N bs [.ref CE, .type "ValueError", .type "Exception", .type "BaseException", .type "object"] true sn sub ab col dd k0 k1 k2 k3 k5 "ValueError.__new__")
section
variable {K : PySem.W.Frag} {CE C D : Addr}
theorem ClsX.cls (c : ClsX K CE C) : ∃ cd, PySem.W.clsIn K C = some cd ∧ cd.mro = .ref C :: [.ref CE, .type "ValueError", .type "Exception", .type "BaseException", .type "object"] ∧ cd.hasDict = true := by
  obtain ⟨nm, q, N, bs, sn, sub, ab, col, dd, k0, k1, k2, k3, k5, e⟩ := c.x
  unfold PySem.W.clsIn
  rw [e]
  exact ⟨_, rfl, rfl, rfl⟩
theorem ClsX.isC (c : ClsX K CE C) : PySem.W.isClsIn K C = true := by
  obtain ⟨cd, e, _⟩ := c.cls
  unfold PySem.W.isClsIn
  rw [e]
  rfl
theorem ClsX.hd (c : ClsX K CE C) : PySem.W.hasDictIn K C = true := by
  obtain ⟨cd, e, _, h⟩ := c.cls
  unfold PySem.W.hasDictIn
  rw [e]
  exact h
theorem ClsX.ty (c : ClsX K CE C) : PySem.W.typeIn K (.ref C) = some (.type "type") := by
  obtain ⟨nm, q, N, bs, sn, sub, ab, col, dd, k0, k1, k2, k3, k5, e⟩ := c.x
  show (K.lookup C).map _ = _
  rw [e]
  rfl
theorem ClsX.sub (c : ClsX K CE C) (b : Value) : PySem.W.subIn K (.ref C) b = some ((.ref C :: [.ref CE, .type "ValueError", .type "Exception", .type "BaseException", .type "object"] : List Value).contains b) := by
  obtain ⟨cd, e, h, _⟩ := c.cls
  show PySem.W.mroIn K C b = _
  unfold PySem.W.mroIn
  rw [e]
  show (if cd.mro.isEmpty then none else some (cd.mro.contains b)) = _
  rw [h]
  rfl
theorem ClsX.ex (c : ClsX K CE C) : PySem.W.subIn K (.ref C) (.type "BaseException") = some true := by
  rw [c.sub, List.contains_iff_mem.mpr (by simp)]
theorem ClsX.hm (c : ClsX K CE C) : PySem.W.mroIn K C (.type "object") = some true := by
  have e := c.sub (.type "object")
  rw [List.contains_iff_mem.mpr (by simp)] at e
  exact e
theorem ClsX.sE (c : ClsX K CE C) : PySem.W.subIn K (.ref C) (.ref CE) = some true := by
  rw [c.sub, List.contains_iff_mem.mpr (by simp)]
theorem ClsX.kV (c : ClsX K CE C) : PySem.W.kitOne K (.ref C) (.type "ValueError") = some true := by
  unfold PySem.W.kitOne
  rw [if_neg (by intro z; exact nomatch (beq_iff_eq.mp z))]
  show (if PySem.W.kitMeta "ValueError" = true then PySem.W.subIn K (.ref C) (.type "ValueError") else none) = _
  rw [if_pos (by decide +kernel), c.sub, List.contains_iff_mem.mpr (by simp)]
theorem kE_of (c : ClsX K CE C) (ne : C ≠ CE) (h2 : PySem.W.isClsIn K CE = true) (h3 : PySem.W.typeIn K (.ref CE) = some (.type "type")) : PySem.W.kitOne K (.ref C) (.ref CE) = some true := by
  unfold PySem.W.isClsIn at h2
  unfold PySem.W.kitOne
  rw [if_neg (by intro z; cases beq_iff_eq.mp z; exact ne rfl)]
  unfold PySem.W.kitCls
  dsimp only
  rw [h2, h3, if_pos (show (true && (some (Value.type "type") == some (Value.type "type"))) = true by decide +kernel), c.sE]
theorem kk_self {v : Value} : PySem.W.kitOne K v v = some true := by
  unfold PySem.W.kitOne
  rw [if_pos (beq_self_eq_true v)]
theorem kk_of (c : ClsX K CE C) (d : ClsX K CE D) (ne : C ≠ D) (nE : D ≠ CE) : PySem.W.kitOne K (.ref C) (.ref D) = some false := by
  have h2 := d.isC
  have h3 := d.ty
  unfold PySem.W.isClsIn at h2
  unfold PySem.W.kitOne
  rw [if_neg (by intro z; cases beq_iff_eq.mp z; exact ne rfl)]
  unfold PySem.W.kitCls
  dsimp only
  rw [h2, h3, if_pos (show (true && (some (Value.type "type") == some (Value.type "type"))) = true by decide +kernel), c.sub]
  refine congrArg some (Bool.eq_false_iff.mpr fun z => ?_)
  have m := List.contains_iff_mem.mp z
  simp at m
  rcases m with m | m
  · exact ne m.symm
  · exact nE m
end
def CzOf (l : List Addr) (i : Nat) : Addr := l.getD i 0
theorem czof_get {l : List Addr} {i : Nat} (h : i < l.length) : l[i] = CzOf l i := by
  unfold CzOf
  rw [List.getD_eq_getElem?_getD, List.getElem?_eq_getElem h]
  rfl
theorem kit_all {K : PySem.W.Frag} {CE : Addr} {l : List Addr} (nd : (CE :: l).Nodup) (c : ∀ i, i < l.length → ClsX K CE (CzOf l i)) (i j : Nat) (hi : i < l.length) (hj : j < l.length) : PySem.W.kitOne K (.ref (CzOf l i)) (.ref (CzOf l j)) = some (decide (i = j)) := by
  by_cases h : i = j
  · subst h
    rw [kk_self, decide_eq_true rfl]
  · rw [decide_eq_false h]
    have n2 := List.nodup_cons.mp nd
    have pw := List.pairwise_iff_getElem.mp n2.2
    refine kk_of (c i hi) (c j hj) (fun z => ?_) fun z => n2.1 ?_
    · rw [← czof_get hi, ← czof_get hj] at z
      rcases Nat.lt_or_gt_of_ne h with lt | lt
      · exact pw i j hi hj lt z
      · exact pw j i hj hi lt z.symm
    · rw [← z, ← czof_get hj]
      exact List.getElem_mem hj
theorem ne_all {CE : Addr} {l : List Addr} (nd : (CE :: l).Nodup) (i : Nat) (hi : i < l.length) : CzOf l i ≠ CE := fun z => (List.nodup_cons.mp nd).1 (by rw [← z, ← czof_get hi]; exact List.getElem_mem hi)
theorem vals_two {x y : V} {us : List Value} (h : Vals [x, y] us) : Vals [y, x] us.reverse := by
  match us, h with
  | [a, b], .cons r1 (.cons r2 .nil) => exact .cons r2 (.cons r1 .nil)
theorem vals_revW : ∀ {xs : List V} {us : List Value}, Vals xs us → Vals xs.reverse us.reverse
  | [], _, .nil => .nil
  | x :: xs, u :: us, .cons r h => by
    rw [List.reverse_cons, List.reverse_cons]
    exact (vals_revW h).append (.cons r .nil)
/-- what the law promises where the script is laid -/
structure LawG (l : PySem.W.OpenLaw) (w : World) (K : PySem.W.Frag) (k : Nat) (mg : Str → Option Value) (fa : Addr) (h : Heap) (fd : FuncData) (cs : List (Addr × Addr)) (sp : Sp) : Prop where
  tabs : ∀ p ∈ cs, h.get? p.2 = some { cls := .none, data := .fields #[] }
  untold : ∀ p ∈ cs, K.lookup p.2 = none
  codes : ∀ p ∈ cs, PySem.W.CodeHd h p.1 p.2
  binds : ∀ (s : Shared) (u : Value), BindsTo s fd ⟨[u], []⟩ [("_law_script", u)]
  starts : ∀ (H : Hp) (a : Addr) (ns : List Int), ns.length ≤ 63 → (∀ z ∈ ns, Builtin.Int.intBits z ≤ 1048576) → (∀ p ∈ cs, H p.2 = some (.tbl #[])) → SqL K H a (ns.map V.int) → sp [.ref a] H (fun v _ => v = .bl true) fun _ _ _ => False
  runs : ∀ base : Heap, SysIn base → K.In base → base.Ns mainGlobals mg → (∀ p ∈ cs, TabB base mg p.1 p.2) → FnG l.prog w K mg base CX0 k fa fd ["_law_script"] sp
/-- the names of the lambdas, by their tables -/
def TLs (p1 p2 p3 : Addr) : List (Addr × Str) := [(p1, (("_law_rows_right" : Str) ++ ".<locals>.") ++ "<lambda>"), (p2, (("_law_refused_right" : Str) ++ ".<locals>.") ++ "<lambda>"), (p3, (("law" : Str) ++ ".<locals>.") ++ "<lambda>")]
theorem all_mk {l : PySem.W.OpenLaw} {w : World} {K : PySem.W.Frag} {fa : Addr} {h : Heap} {mg : Str → Option Value} {CW CR CE q1 p1 q2 p2 q3 p3 C0 N0 C1 N1 C2 N2 C3 N3 C4 N4 f0 f1 f2 f3 f4 f5 f6 f7 f8 f9 f10 f11 f12 f13 f14 f15 f16 f17 f18 f19 f20 f21 f22 f23 f24 f25 f26 f27 f28 f29 f30 f31 f32 f33 f34 f35 f36 f37 f38 f39 : Addr} {od0 an0 od1 an1 od2 an2 od3 an3 od4 an4 od5 an5 od6 an6 od7 an7 od8 an8 od9 an9 od10 an10 od11 an11 od12 an12 od13 an13 od14 an14 od15 an15 od16 an16 od17 an17 od18 an18 od19 an19 od20 an20 od21 an21 od22 an22 od23 an23 od24 an24 od25 an25 od26 an26 od27 an27 od28 an28 od29 an29 od30 an30 od31 an31 od32 an32 od33 an33 od34 an34 od35 an35 od36 an36 od37 an37 od38 an38 od39 an39 qd1 qd2 qd3 : Option Addr} {sl0 sl1 sl2 sl3 sl4 sl5 sl6 sl7 sl8 sl9 sl10 sl11 sl12 sl13 sl14 sl15 sl16 sl17 sl18 sl19 sl20 sl21 sl22 sl23 sl24 sl25 sl26 sl27 sl28 sl29 sl30 sl31 sl32 sl33 sl34 sl35 sl36 sl37 sl38 sl39 qs1 qs2 qs3 : Array (Option Value)} {oc0 kV0 dc0 pm0 cd0 ct0 oc1 kV1 dc1 pm1 cd1 ct1 oc2 kV2 dc2 pm2 cd2 ct2 oc3 kV3 dc3 pm3 cd3 ct3 oc4 kV4 dc4 pm4 cd4 ct4 oc5 kV5 dc5 pm5 cd5 ct5 oc6 kV6 dc6 pm6 cd6 ct6 oc7 kV7 dc7 pm7 cd7 ct7 oc8 kV8 dc8 pm8 cd8 ct8 oc9 kV9 dc9 pm9 cd9 ct9 oc10 kV10 dc10 pm10 cd10 ct10 oc11 kV11 dc11 pm11 cd11 ct11 oc12 kV12 dc12 pm12 cd12 ct12 oc13 kV13 dc13 pm13 cd13 ct13 oc14 kV14 dc14 pm14 cd14 ct14 oc15 kV15 dc15 pm15 cd15 ct15 oc16 kV16 dc16 pm16 cd16 ct16 oc17 kV17 dc17 pm17 cd17 ct17 oc18 kV18 dc18 pm18 cd18 ct18 oc19 kV19 dc19 pm19 cd19 ct19 oc20 kV20 dc20 pm20 cd20 ct20 oc21 kV21 dc21 pm21 ct21 oc22 kV22 dc22 pm22 ct22 oc23 kV23 dc23 pm23 ct23 oc24 kV24 dc24 pm24 cd24 ct24 oc25 kV25 dc25 pm25 cd25 ct25 oc26 kV26 dc26 pm26 cd26 ct26 oc27 kV27 dc27 pm27 cd27 ct27 oc28 kV28 dc28 pm28 cd28 ct28 oc29 kV29 dc29 pm29 cd29 ct29 oc30 kV30 dc30 pm30 cd30 ct30 oc31 kV31 dc31 pm31 cd31 ct31 oc32 kV32 dc32 pm32 cd32 ct32 oc33 kV33 dc33 pm33 cd33 ct33 oc34 kV34 dc34 pm34 cd34 ct34 oc35 kV35 dc35 pm35 cd35 ct35 oc36 kV36 dc36 pm36 cd36 ct36 oc37 kV37 dc37 pm37 cd37 ct37 oc38 kV38 dc38 pm38 cd38 ct38 oc39 kV39 dc39 pm39 cd39 ct39 : Value} {vs1 vs2 vs3 : Array Value} {bs0 sub0 bs1 sub1 bs2 sub2 bs3 sub3 bs4 sub4 : List Value} {tk1 tk2 tk3 tk4 qt1 qm1 qy1 qt2 qm2 qy2 qt3 qm3 qy3 : Tok} {ql1 qx1 ql2 qx2 ql3 qx3 : Int} {qi1 qi2 qi3 : Bool} {qf1 qf2 qf3 nm0 qq0 nm1 qq1 nm2 qq2 nm3 qq3 nm4 qq4 : Str} {sn0 sn1 sn2 sn3 sn4 : List Str} {ab0 ab1 ab2 ab3 ab4 : Bool} {col0 col1 col2 col3 col4 : Option Bool} {dd0 dd1 dd2 dd3 dd4 : Option Addr} {m00 m01 m02 m03 m05 m10 m11 m12 m13 m15 m20 m21 m22 m23 m25 m30 m31 m32 m33 m35 m40 m41 m42 m43 m45 : Option Value} (X : K.In h) (G : h.Ns mainGlobals mg) (hfa : mg "law" = some (.ref fa)) (own : OwnTab K fa h) (own1 : ∀ fb, mg "_law_rows_right" = some (.ref fb) → OwnTab K fb h) (own2 : ∀ fb, mg "_law_refused_right" = some (.ref fb) → OwnTab K fb h)
    (aW : PySem.W.nsIn K mainGlobals "WriteTable" = some (some (.ref CW)))
    (aQ : PySem.W.nsIn K mainGlobals "ReadTable" = some (some (.ref CR)))
    (aE : PySem.W.nsIn K mainGlobals "RepairError" = some (some (.ref CE)))
    (a_BadTable : PySem.W.nsIn K mainGlobals "BadTable" = some (some (.ref C0)))
    (a_BadLetter : PySem.W.nsIn K mainGlobals "BadLetter" = some (some (.ref C1)))
    (a_BadCode : PySem.W.nsIn K mainGlobals "BadCode" = some (some (.ref C2)))
    (a_Unread : PySem.W.nsIn K mainGlobals "Unread" = some (some (.ref C3)))
    (a_TooMany : PySem.W.nsIn K mainGlobals "TooMany" = some (some (.ref C4)))
    (a0 : PySem.W.nsIn K mainGlobals "copied" = some (some (.ref f0)))
    (l0 : K.lookup f0 = some ⟨oc0, od0, .func (PySem.W.fnOf "copied" "copied" (defArgs s_copied) (defBody s_copied) (defScope s_copied) .none kV0 dc0 pm0 an0 cd0 ct0), sl0⟩) (c0 : PySem.W.codeIn K cd0 "copied" = true) (k0 : PySem.W.keepIn K (.ref f0) = true)
    (a1 : PySem.W.nsIn K mainGlobals "is_letter" = some (some (.ref f1)))
    (l1 : K.lookup f1 = some ⟨oc1, od1, .func (PySem.W.fnOf "is_letter" "is_letter" (defArgs s_is_letter) (defBody s_is_letter) (defScope s_is_letter) .none kV1 dc1 pm1 an1 cd1 ct1), sl1⟩) (c1 : PySem.W.codeIn K cd1 "is_letter" = true) (k1 : PySem.W.keepIn K (.ref f1) = true)
    (a2 : PySem.W.nsIn K mainGlobals "is_integer" = some (some (.ref f2)))
    (l2 : K.lookup f2 = some ⟨oc2, od2, .func (PySem.W.fnOf "is_integer" "is_integer" (defArgs s_is_integer) (defBody s_is_integer) (defScope s_is_integer) .none kV2 dc2 pm2 an2 cd2 ct2), sl2⟩) (c2 : PySem.W.codeIn K cd2 "is_integer" = true) (k2 : PySem.W.keepIn K (.ref f2) = true)
    (a3 : PySem.W.nsIn K mainGlobals "is_between" = some (some (.ref f3)))
    (l3 : K.lookup f3 = some ⟨oc3, od3, .func (PySem.W.fnOf "is_between" "is_between" (defArgs s_is_between) (defBody s_is_between) (defScope s_is_between) .none kV3 dc3 pm3 an3 cd3 ct3), sl3⟩) (c3 : PySem.W.codeIn K cd3 "is_between" = true) (k3 : PySem.W.keepIn K (.ref f3) = true)
    (a4 : PySem.W.nsIn K mainGlobals "is_number" = some (some (.ref f4)))
    (l4 : K.lookup f4 = some ⟨oc4, od4, .func (PySem.W.fnOf "is_number" "is_number" (defArgs s_is_number) (defBody s_is_number) (defScope s_is_number) .none kV4 dc4 pm4 an4 cd4 ct4), sl4⟩) (c4 : PySem.W.codeIn K cd4 "is_number" = true) (k4 : PySem.W.keepIn K (.ref f4) = true)
    (a5 : PySem.W.nsIn K mainGlobals "is_code" = some (some (.ref f5)))
    (l5 : K.lookup f5 = some ⟨oc5, od5, .func (PySem.W.fnOf "is_code" "is_code" (defArgs s_is_code) (defBody s_is_code) (defScope s_is_code) .none kV5 dc5 pm5 an5 cd5 ct5), sl5⟩) (c5 : PySem.W.codeIn K cd5 "is_code" = true) (k5 : PySem.W.keepIn K (.ref f5) = true)
    (a6 : PySem.W.nsIn K mainGlobals "bounded" = some (some (.ref f6)))
    (l6 : K.lookup f6 = some ⟨oc6, od6, .func (PySem.W.fnOf "bounded" "bounded" (defArgs s_bounded) (defBody s_bounded) (defScope s_bounded) .none kV6 dc6 pm6 an6 cd6 ct6), sl6⟩) (c6 : PySem.W.codeIn K cd6 "bounded" = true) (k6 : PySem.W.keepIn K (.ref f6) = true)
    (a7 : PySem.W.nsIn K mainGlobals "check_codes" = some (some (.ref f7)))
    (l7 : K.lookup f7 = some ⟨oc7, od7, .func (PySem.W.fnOf "check_codes" "check_codes" (defArgs s_check_codes) (defBody s_check_codes) (defScope s_check_codes) .none kV7 dc7 pm7 an7 cd7 ct7), sl7⟩) (c7 : PySem.W.codeIn K cd7 "check_codes" = true) (k7 : PySem.W.keepIn K (.ref f7) = true)
    (a8 : PySem.W.nsIn K mainGlobals "check_signs" = some (some (.ref f8)))
    (l8 : K.lookup f8 = some ⟨oc8, od8, .func (PySem.W.fnOf "check_signs" "check_signs" (defArgs s_check_signs) (defBody s_check_signs) (defScope s_check_signs) .none kV8 dc8 pm8 an8 cd8 ct8), sl8⟩) (c8 : PySem.W.codeIn K cd8 "check_signs" = true) (k8 : PySem.W.keepIn K (.ref f8) = true)
    (a9 : PySem.W.nsIn K mainGlobals "check_numbers" = some (some (.ref f9)))
    (l9 : K.lookup f9 = some ⟨oc9, od9, .func (PySem.W.fnOf "check_numbers" "check_numbers" (defArgs s_check_numbers) (defBody s_check_numbers) (defScope s_check_numbers) .none kV9 dc9 pm9 an9 cd9 ct9), sl9⟩) (c9 : PySem.W.codeIn K cd9 "check_numbers" = true) (k9 : PySem.W.keepIn K (.ref f9) = true)
    (a10 : PySem.W.nsIn K mainGlobals "first_unread" = some (some (.ref f10)))
    (l10 : K.lookup f10 = some ⟨oc10, od10, .func (PySem.W.fnOf "first_unread" "first_unread" (defArgs s_first_unread) (defBody s_first_unread) (defScope s_first_unread) .none kV10 dc10 pm10 an10 cd10 ct10), sl10⟩) (c10 : PySem.W.codeIn K cd10 "first_unread" = true) (k10 : PySem.W.keepIn K (.ref f10) = true)
    (a11 : PySem.W.nsIn K mainGlobals "_law_pen" = some (some (.ref f11)))
    (l11 : K.lookup f11 = some ⟨oc11, od11, .func (PySem.W.fnOf "_law_pen" "_law_pen" (defArgs s_pen) (defBody s_pen) (defScope s_pen) .none kV11 dc11 pm11 an11 cd11 ct11), sl11⟩) (c11 : PySem.W.codeIn K cd11 "_law_pen" = true) (k11 : PySem.W.keepIn K (.ref f11) = true)
    (a12 : PySem.W.nsIn K mainGlobals "_law_draw" = some (some (.ref f12)))
    (l12 : K.lookup f12 = some ⟨oc12, od12, .func (PySem.W.fnOf "_law_draw" "_law_draw" (defArgs s_draw) (defBody s_draw) (defScope s_draw) .none kV12 dc12 pm12 an12 cd12 ct12), sl12⟩) (c12 : PySem.W.codeIn K cd12 "_law_draw" = true) (k12 : PySem.W.keepIn K (.ref f12) = true)
    (a13 : PySem.W.nsIn K mainGlobals "_law_pick" = some (some (.ref f13)))
    (l13 : K.lookup f13 = some ⟨oc13, od13, .func (PySem.W.fnOf "_law_pick" "_law_pick" (defArgs s_pick) (defBody s_pick) (defScope s_pick) .none kV13 dc13 pm13 an13 cd13 ct13), sl13⟩) (c13 : PySem.W.codeIn K cd13 "_law_pick" = true) (k13 : PySem.W.keepIn K (.ref f13) = true)
    (a14 : PySem.W.nsIn K mainGlobals "_law_shuffled" = some (some (.ref f14)))
    (l14 : K.lookup f14 = some ⟨oc14, od14, .func (PySem.W.fnOf "_law_shuffled" "_law_shuffled" (defArgs s_shuffled) (defBody s_shuffled) (defScope s_shuffled) .none kV14 dc14 pm14 an14 cd14 ct14), sl14⟩) (c14 : PySem.W.codeIn K cd14 "_law_shuffled" = true) (k14 : PySem.W.keepIn K (.ref f14) = true)
    (a15 : PySem.W.nsIn K mainGlobals "_law_letters" = some (some (.ref f15)))
    (l15 : K.lookup f15 = some ⟨oc15, od15, .func (PySem.W.fnOf "_law_letters" "_law_letters" (defArgs s__law_letters) (defBody s__law_letters) (defScope s__law_letters) .none kV15 dc15 pm15 an15 cd15 ct15), sl15⟩) (c15 : PySem.W.codeIn K cd15 "_law_letters" = true) (k15 : PySem.W.keepIn K (.ref f15) = true)
    (a16 : PySem.W.nsIn K mainGlobals "_law_signs" = some (some (.ref f16)))
    (l16 : K.lookup f16 = some ⟨oc16, od16, .func (PySem.W.fnOf "_law_signs" "_law_signs" (defArgs s_signs) (defBody s_signs) (defScope s_signs) .none kV16 dc16 pm16 an16 cd16 ct16), sl16⟩) (c16 : PySem.W.codeIn K cd16 "_law_signs" = true) (k16 : PySem.W.keepIn K (.ref f16) = true)
    (a17 : PySem.W.nsIn K mainGlobals "_law_heard" = some (some (.ref f17)))
    (l17 : K.lookup f17 = some ⟨oc17, od17, .func (PySem.W.fnOf "_law_heard" "_law_heard" (defArgs s_heard) (defBody s_heard) (defScope s_heard) .none kV17 dc17 pm17 an17 cd17 ct17), sl17⟩) (c17 : PySem.W.codeIn K cd17 "_law_heard" = true) (k17 : PySem.W.keepIn K (.ref f17) = true)
    (a18 : PySem.W.nsIn K mainGlobals "_law_tells" = some (some (.ref f18)))
    (l18 : K.lookup f18 = some ⟨oc18, od18, .func (PySem.W.fnOf "_law_tells" "_law_tells" (defArgs s__law_tells) (defBody s__law_tells) (defScope s__law_tells) .none kV18 dc18 pm18 an18 cd18 ct18), sl18⟩) (c18 : PySem.W.codeIn K cd18 "_law_tells" = true) (k18 : PySem.W.keepIn K (.ref f18) = true)
    (a19 : PySem.W.nsIn K mainGlobals "_law_is_number" = some (some (.ref f19)))
    (l19 : K.lookup f19 = some ⟨oc19, od19, .func (PySem.W.fnOf "_law_is_number" "_law_is_number" (defArgs s__law_is_number) (defBody s__law_is_number) (defScope s__law_is_number) .none kV19 dc19 pm19 an19 cd19 ct19), sl19⟩) (c19 : PySem.W.codeIn K cd19 "_law_is_number" = true) (k19 : PySem.W.keepIn K (.ref f19) = true)
    (a20 : PySem.W.nsIn K mainGlobals "_law_due" = some (some (.ref f20)))
    (l20 : K.lookup f20 = some ⟨oc20, od20, .func (PySem.W.fnOf "_law_due" "_law_due" (defArgs s__law_due) (defBody s__law_due) (defScope s__law_due) .none kV20 dc20 pm20 an20 cd20 ct20), sl20⟩) (c20 : PySem.W.codeIn K cd20 "_law_due" = true) (k20 : PySem.W.keepIn K (.ref f20) = true)
    (a21 : PySem.W.nsIn K mainGlobals "_law_rows_right" = some (some (.ref f21)))
    (l21 : K.lookup f21 = some ⟨oc21, od21, .func (PySem.W.fnOf "_law_rows_right" "_law_rows_right" (defArgs s__law_rows_right) (defBody s__law_rows_right) (defScope s__law_rows_right) .none kV21 dc21 pm21 an21 (.ref q1) ct21), sl21⟩) (c21 : PySem.W.codeIn K (.ref q1) "_law_rows_right" = true) (k21 : PySem.W.keepIn K (.ref f21) = true)
    (a22 : PySem.W.nsIn K mainGlobals "_law_refused_right" = some (some (.ref f22)))
    (l22 : K.lookup f22 = some ⟨oc22, od22, .func (PySem.W.fnOf "_law_refused_right" "_law_refused_right" (defArgs s__law_refused_right) (defBody s__law_refused_right) (defScope s__law_refused_right) .none kV22 dc22 pm22 an22 (.ref q2) ct22), sl22⟩) (c22 : PySem.W.codeIn K (.ref q2) "_law_refused_right" = true) (k22 : PySem.W.keepIn K (.ref f22) = true)
    (a23 : PySem.W.nsIn K mainGlobals "law" = some (some (.ref f23)))
    (l23 : K.lookup f23 = some ⟨oc23, od23, .func (PySem.W.fnOf "law" "law" (defArgs s_law) (defBody s_law) (defScope s_law) .none kV23 dc23 pm23 an23 (.ref q3) ct23), sl23⟩) (c23 : PySem.W.codeIn K (.ref q3) "law" = true) (k23 : PySem.W.keepIn K (.ref f23) = true)
    (a24 : PySem.W.findIn K (.ref CW) "__init__" = some (some (.ref f24)))
    (i24 : PySem.W.isFn K (.ref f24) = true)
    (l24 : K.lookup f24 = some ⟨oc24, od24, .func (PySem.W.fnOf "__init__" "WriteTable.__init__" (defArgs s_WriteTable_init) (defBody s_WriteTable_init) (defScope s_WriteTable_init) .none kV24 dc24 pm24 an24 cd24 ct24), sl24⟩) (c24 : PySem.W.codeIn K cd24 "WriteTable.__init__" = true) (k24 : PySem.W.keepIn K (.ref f24) = true)
    (n24 : PySem.W.fnIn K f24 = true)
    (a25 : PySem.W.findIn K (.ref CW) "__len__" = some (some (.ref f25)))
    (i25 : PySem.W.isFn K (.ref f25) = true)
    (l25 : K.lookup f25 = some ⟨oc25, od25, .func (PySem.W.fnOf "__len__" "WriteTable.__len__" (defArgs s_WriteTable_len) (defBody s_WriteTable_len) (defScope s_WriteTable_len) .none kV25 dc25 pm25 an25 cd25 ct25), sl25⟩) (c25 : PySem.W.codeIn K cd25 "WriteTable.__len__" = true) (k25 : PySem.W.keepIn K (.ref f25) = true)
    (n25 : PySem.W.fnIn K f25 = true)
    (a26 : PySem.W.findIn K (.ref CW) "__eq__" = some (some (.ref f26)))
    (i26 : PySem.W.isFn K (.ref f26) = true)
    (l26 : K.lookup f26 = some ⟨oc26, od26, .func (PySem.W.fnOf "__eq__" "WriteTable.__eq__" (defArgs s_WriteTable_eq) (defBody s_WriteTable_eq) (defScope s_WriteTable_eq) .none kV26 dc26 pm26 an26 cd26 ct26), sl26⟩) (c26 : PySem.W.codeIn K cd26 "WriteTable.__eq__" = true) (k26 : PySem.W.keepIn K (.ref f26) = true)
    (n26 : PySem.W.fnIn K f26 = true)
    (a27 : PySem.W.findIn K (.ref CR) "__init__" = some (some (.ref f27)))
    (i27 : PySem.W.isFn K (.ref f27) = true)
    (l27 : K.lookup f27 = some ⟨oc27, od27, .func (PySem.W.fnOf "__init__" "ReadTable.__init__" (defArgs s_ReadTable_init) (defBody s_ReadTable_init) (defScope s_ReadTable_init) .none kV27 dc27 pm27 an27 cd27 ct27), sl27⟩) (c27 : PySem.W.codeIn K cd27 "ReadTable.__init__" = true) (k27 : PySem.W.keepIn K (.ref f27) = true)
    (n27 : PySem.W.fnIn K f27 = true)
    (a28 : PySem.W.findIn K (.ref CR) "__iter__" = some (some (.ref f28)))
    (i28 : PySem.W.isFn K (.ref f28) = true)
    (l28 : K.lookup f28 = some ⟨oc28, od28, .func (PySem.W.fnOf "__iter__" "ReadTable.__iter__" (defArgs s_ReadTable_iter) (defBody s_ReadTable_iter) (defScope s_ReadTable_iter) .none kV28 dc28 pm28 an28 cd28 ct28), sl28⟩) (c28 : PySem.W.codeIn K cd28 "ReadTable.__iter__" = true) (k28 : PySem.W.keepIn K (.ref f28) = true)
    (n28 : PySem.W.fnIn K f28 = true)
    (a29 : PySem.W.findIn K (.ref CR) "__len__" = some (some (.ref f29)))
    (i29 : PySem.W.isFn K (.ref f29) = true)
    (l29 : K.lookup f29 = some ⟨oc29, od29, .func (PySem.W.fnOf "__len__" "ReadTable.__len__" (defArgs s_ReadTable_len) (defBody s_ReadTable_len) (defScope s_ReadTable_len) .none kV29 dc29 pm29 an29 cd29 ct29), sl29⟩) (c29 : PySem.W.codeIn K cd29 "ReadTable.__len__" = true) (k29 : PySem.W.keepIn K (.ref f29) = true)
    (n29 : PySem.W.fnIn K f29 = true)
    (a30 : PySem.W.findIn K (.ref CR) "__contains__" = some (some (.ref f30)))
    (i30 : PySem.W.isFn K (.ref f30) = true)
    (l30 : K.lookup f30 = some ⟨oc30, od30, .func (PySem.W.fnOf "__contains__" "ReadTable.__contains__" (defArgs s_ReadTable_contains) (defBody s_ReadTable_contains) (defScope s_ReadTable_contains) .none kV30 dc30 pm30 an30 cd30 ct30), sl30⟩) (c30 : PySem.W.codeIn K cd30 "ReadTable.__contains__" = true) (k30 : PySem.W.keepIn K (.ref f30) = true)
    (n30 : PySem.W.fnIn K f30 = true)
    (a31 : PySem.W.findIn K (.ref CR) "__getitem__" = some (some (.ref f31)))
    (i31 : PySem.W.isFn K (.ref f31) = true)
    (l31 : K.lookup f31 = some ⟨oc31, od31, .func (PySem.W.fnOf "__getitem__" "ReadTable.__getitem__" (defArgs s_ReadTable_getitem) (defBody s_ReadTable_getitem) (defScope s_ReadTable_getitem) .none kV31 dc31 pm31 an31 cd31 ct31), sl31⟩) (c31 : PySem.W.codeIn K cd31 "ReadTable.__getitem__" = true) (k31 : PySem.W.keepIn K (.ref f31) = true)
    (n31 : PySem.W.fnIn K f31 = true)
    (a32 : PySem.W.findIn K (.ref CR) "__call__" = some (some (.ref f32)))
    (i32 : PySem.W.isFn K (.ref f32) = true)
    (l32 : K.lookup f32 = some ⟨oc32, od32, .func (PySem.W.fnOf "__call__" "ReadTable.__call__" (defArgs s_ReadTable_call) (defBody s_ReadTable_call) (defScope s_ReadTable_call) .none kV32 dc32 pm32 an32 cd32 ct32), sl32⟩) (c32 : PySem.W.codeIn K cd32 "ReadTable.__call__" = true) (k32 : PySem.W.keepIn K (.ref f32) = true)
    (n32 : PySem.W.fnIn K f32 = true)
    (a33 : PySem.W.findIn K (.ref CR) "__eq__" = some (some (.ref f33)))
    (i33 : PySem.W.isFn K (.ref f33) = true)
    (l33 : K.lookup f33 = some ⟨oc33, od33, .func (PySem.W.fnOf "__eq__" "ReadTable.__eq__" (defArgs s_ReadTable_eq) (defBody s_ReadTable_eq) (defScope s_ReadTable_eq) .none kV33 dc33 pm33 an33 cd33 ct33), sl33⟩) (c33 : PySem.W.codeIn K cd33 "ReadTable.__eq__" = true) (k33 : PySem.W.keepIn K (.ref f33) = true)
    (n33 : PySem.W.fnIn K f33 = true)
    (a34 : PySem.W.findIn K (.ref CR) "__invert__" = some (some (.ref f34)))
    (i34 : PySem.W.isFn K (.ref f34) = true)
    (l34 : K.lookup f34 = some ⟨oc34, od34, .func (PySem.W.fnOf "__invert__" "ReadTable.__invert__" (defArgs s_ReadTable_invert) (defBody s_ReadTable_invert) (defScope s_ReadTable_invert) .none kV34 dc34 pm34 an34 cd34 ct34), sl34⟩) (c34 : PySem.W.codeIn K cd34 "ReadTable.__invert__" = true) (k34 : PySem.W.keepIn K (.ref f34) = true)
    (n34 : PySem.W.fnIn K f34 = true)
    (a35 : PySem.W.findIn K (.ref C0) "__init__" = some (some (.ref f35)))
    (y35 : PySem.W.typeIn K (.ref f35) = some (.type "function"))
    (l35 : K.lookup f35 = some ⟨oc35, od35, .func (PySem.W.fnOf "__init__" "BadTable.__init__" (defArgs s_BadTable_init) (defBody s_BadTable_init) (defScope s_BadTable_init) .none kV35 dc35 pm35 an35 cd35 ct35), sl35⟩) (c35 : PySem.W.codeIn K cd35 "BadTable.__init__" = true) (k35 : PySem.W.keepIn K (.ref f35) = true)
    (a36 : PySem.W.findIn K (.ref C1) "__init__" = some (some (.ref f36)))
    (y36 : PySem.W.typeIn K (.ref f36) = some (.type "function"))
    (l36 : K.lookup f36 = some ⟨oc36, od36, .func (PySem.W.fnOf "__init__" "BadLetter.__init__" (defArgs s_BadLetter_init) (defBody s_BadLetter_init) (defScope s_BadLetter_init) .none kV36 dc36 pm36 an36 cd36 ct36), sl36⟩) (c36 : PySem.W.codeIn K cd36 "BadLetter.__init__" = true) (k36 : PySem.W.keepIn K (.ref f36) = true)
    (a37 : PySem.W.findIn K (.ref C2) "__init__" = some (some (.ref f37)))
    (y37 : PySem.W.typeIn K (.ref f37) = some (.type "function"))
    (l37 : K.lookup f37 = some ⟨oc37, od37, .func (PySem.W.fnOf "__init__" "BadCode.__init__" (defArgs s_BadCode_init) (defBody s_BadCode_init) (defScope s_BadCode_init) .none kV37 dc37 pm37 an37 cd37 ct37), sl37⟩) (c37 : PySem.W.codeIn K cd37 "BadCode.__init__" = true) (k37 : PySem.W.keepIn K (.ref f37) = true)
    (a38 : PySem.W.findIn K (.ref C3) "__init__" = some (some (.ref f38)))
    (y38 : PySem.W.typeIn K (.ref f38) = some (.type "function"))
    (l38 : K.lookup f38 = some ⟨oc38, od38, .func (PySem.W.fnOf "__init__" "Unread.__init__" (defArgs s_Unread_init) (defBody s_Unread_init) (defScope s_Unread_init) .none kV38 dc38 pm38 an38 cd38 ct38), sl38⟩) (c38 : PySem.W.codeIn K cd38 "Unread.__init__" = true) (k38 : PySem.W.keepIn K (.ref f38) = true)
    (a39 : PySem.W.findIn K (.ref C4) "__init__" = some (some (.ref f39)))
    (y39 : PySem.W.typeIn K (.ref f39) = some (.type "function"))
    (l39 : K.lookup f39 = some ⟨oc39, od39, .func (PySem.W.fnOf "__init__" "TooMany.__init__" (defArgs s_TooMany_init) (defBody s_TooMany_init) (defScope s_TooMany_init) .none kV39 dc39 pm39 an39 cd39 ct39), sl39⟩) (c39 : PySem.W.codeIn K cd39 "TooMany.__init__" = true) (k39 : PySem.W.keepIn K (.ref f39) = true)
    (x_BadTable : K.lookup C0 = some (excClassObj nm0 qq0 C0 N0 bs0 [.ref CE, .type "ValueError", .type "Exception", .type "BaseException", .type "object"] true sn0 sub0 ab0 col0 dd0 m00 m01 m02 m03 m05 "ValueError.__new__"))
    (s_BadTable : PySem.W.findIn K (.ref C0) "__setattr__" = some (some (.builtin "object.__setattr__")))
    (k_BadTable : PySem.W.keepIn K (.ref C0) = true)
    (hg_BadTable : PySem.W.findIn K (.ref C0) "__getattribute__" = some (some (.builtin "BaseException.__getattribute__")))
    (hk_BadTable : PySem.W.findIn K (.ref C0) "__getattr__" = some none)
    (ha_BadTable : PySem.W.findIn K (.ref C0) "__class__" = some (some (.builtin "object.__class__")))
    (n_BadTable_part : PySem.W.findIn K (.ref C0) "part" = some none)
    (x_BadLetter : K.lookup C1 = some (excClassObj nm1 qq1 C1 N1 bs1 [.ref CE, .type "ValueError", .type "Exception", .type "BaseException", .type "object"] true sn1 sub1 ab1 col1 dd1 m10 m11 m12 m13 m15 "ValueError.__new__"))
    (s_BadLetter : PySem.W.findIn K (.ref C1) "__setattr__" = some (some (.builtin "object.__setattr__")))
    (k_BadLetter : PySem.W.keepIn K (.ref C1) = true)
    (hg_BadLetter : PySem.W.findIn K (.ref C1) "__getattribute__" = some (some (.builtin "BaseException.__getattribute__")))
    (hk_BadLetter : PySem.W.findIn K (.ref C1) "__getattr__" = some none)
    (ha_BadLetter : PySem.W.findIn K (.ref C1) "__class__" = some (some (.builtin "object.__class__")))
    (n_BadLetter_value : PySem.W.findIn K (.ref C1) "value" = some none)
    (x_BadCode : K.lookup C2 = some (excClassObj nm2 qq2 C2 N2 bs2 [.ref CE, .type "ValueError", .type "Exception", .type "BaseException", .type "object"] true sn2 sub2 ab2 col2 dd2 m20 m21 m22 m23 m25 "ValueError.__new__"))
    (s_BadCode : PySem.W.findIn K (.ref C2) "__setattr__" = some (some (.builtin "object.__setattr__")))
    (k_BadCode : PySem.W.keepIn K (.ref C2) = true)
    (hg_BadCode : PySem.W.findIn K (.ref C2) "__getattribute__" = some (some (.builtin "BaseException.__getattribute__")))
    (hk_BadCode : PySem.W.findIn K (.ref C2) "__getattr__" = some none)
    (ha_BadCode : PySem.W.findIn K (.ref C2) "__class__" = some (some (.builtin "object.__class__")))
    (n_BadCode_value : PySem.W.findIn K (.ref C2) "value" = some none)
    (x_Unread : K.lookup C3 = some (excClassObj nm3 qq3 C3 N3 bs3 [.ref CE, .type "ValueError", .type "Exception", .type "BaseException", .type "object"] true sn3 sub3 ab3 col3 dd3 m30 m31 m32 m33 m35 "ValueError.__new__"))
    (s_Unread : PySem.W.findIn K (.ref C3) "__setattr__" = some (some (.builtin "object.__setattr__")))
    (k_Unread : PySem.W.keepIn K (.ref C3) = true)
    (hg_Unread : PySem.W.findIn K (.ref C3) "__getattribute__" = some (some (.builtin "BaseException.__getattribute__")))
    (hk_Unread : PySem.W.findIn K (.ref C3) "__getattr__" = some none)
    (ha_Unread : PySem.W.findIn K (.ref C3) "__class__" = some (some (.builtin "object.__class__")))
    (n_Unread_at : PySem.W.findIn K (.ref C3) "at" = some none)
    (x_TooMany : K.lookup C4 = some (excClassObj nm4 qq4 C4 N4 bs4 [.ref CE, .type "ValueError", .type "Exception", .type "BaseException", .type "object"] true sn4 sub4 ab4 col4 dd4 m40 m41 m42 m43 m45 "ValueError.__new__"))
    (s_TooMany : PySem.W.findIn K (.ref C4) "__setattr__" = some (some (.builtin "object.__setattr__")))
    (k_TooMany : PySem.W.keepIn K (.ref C4) = true)
    (hg_TooMany : PySem.W.findIn K (.ref C4) "__getattribute__" = some (some (.builtin "BaseException.__getattribute__")))
    (hk_TooMany : PySem.W.findIn K (.ref C4) "__getattr__" = some none)
    (ha_TooMany : PySem.W.findIn K (.ref C4) "__class__" = some (some (.builtin "object.__class__")))
    (n_TooMany_what : PySem.W.findIn K (.ref C4) "what" = some none)
    (n_TooMany_most : PySem.W.findIn K (.ref C4) "most" = some none)
    (eR : PySem.W.subIn K (.ref CE) (.type "BaseException") = some true)
    (tyR : PySem.W.typeIn K (.ref CE) = some (.type "type"))
    (iR : PySem.W.isClsIn K CE = true)
    (rdR : PySem.W.readsIn K CE (.type "type") = true)
    (gaR : PySem.W.specialIn K (.ref CE) "__getattribute__" = some (some (.builtin "type.__getattribute__")))
    (vR : PySem.W.findCls K (.ref CE) (.type "type") "__init__" = some (.val (.builtin "ValueError.__init__")))
    (pgW : PySem.W.plainGet K CW Str.empty = true)
    (hdW : PySem.W.hasDictIn K CW = true)
    (poW : PySem.W.plainOver K CW = true)
    (saW : PySem.W.findIn K (.ref CW) "__setattr__" = some (some (.builtin "object.__setattr__")))
    (mkW : PySem.W.makesIn K CW = true)
    (kcW : PySem.W.keepIn K (.ref CW) = true)
    (nnW : PySem.W.findIn K (.ref CW) "_codes" = some none)
    (caW : PySem.W.findIn K (.ref CW) "__class__" = some (some (.builtin "object.__class__")))
    (cdW : PySem.W.mroIn K CW (.type "object") = some true)
    (nfW : PySem.W.notFirst K CW (.ref CW) = true)
    (kkW : PySem.W.kitOne K (.ref CW) (.ref CW) = some true)
    (pgR : PySem.W.plainGet K CR Str.empty = true)
    (hdR : PySem.W.hasDictIn K CR = true)
    (poR : PySem.W.plainOver K CR = true)
    (saR : PySem.W.findIn K (.ref CR) "__setattr__" = some (some (.builtin "object.__setattr__")))
    (mkR : PySem.W.makesIn K CR = true)
    (kcR : PySem.W.keepIn K (.ref CR) = true)
    (nnR : PySem.W.findIn K (.ref CR) "_signs" = some none)
    (caR : PySem.W.findIn K (.ref CR) "__class__" = some (some (.builtin "object.__class__")))
    (cdR : PySem.W.mroIn K CR (.type "object") = some true)
    (nfR : PySem.W.notFirst K CR (.ref CR) = true)
    (kkR : PySem.W.kitOne K (.ref CR) (.ref CR) = some true)
    (nfd : PySem.W.notFirst K CR (.type "dict") = true)
    (neR : PySem.W.findIn K (.ref CR) "__ne__" = some (some (.builtin "object.__ne__")))
    (ddR : PySem.W.kitOne K (.type "dict") (.ref CR) = some false)
    (tB : PySem.W.specialIn K (.builtin "object.__class__") "__get__" = some (some (.builtin "getset_descriptor.__get__")))
    (tC : PySem.W.takesIn K (.builtin "object.__class__") = some true)
    (vv0 : PySem.W.kitOne K (.ref C0) (.type "ValueError") = some true)
    (vv1 : PySem.W.kitOne K (.ref C1) (.type "ValueError") = some true)
    (vv2 : PySem.W.kitOne K (.ref C2) (.type "ValueError") = some true)
    (vv3 : PySem.W.kitOne K (.ref C3) (.type "ValueError") = some true)
    (vv4 : PySem.W.kitOne K (.ref C4) (.type "ValueError") = some true)
    (g1 : PySem.W.nsIn K mainGlobals "LETTERS" = some (some (.str "abcdefghijklmnopqrstuvwxyz" tk1)))
    (g2 : PySem.W.nsIn K mainGlobals "LONGEST" = some (some (.int 2000 tk2)))
    (g3 : PySem.W.nsIn K mainGlobals "NUMBERS" = some (some (.int 256 tk3)))
    (g4 : PySem.W.nsIn K mainGlobals "LONGEST_CODE" = some (some (.int 4 tk4)))
    (z_list : PySem.W.nsIn K mainGlobals "list" = some none)
    (z_int : PySem.W.nsIn K mainGlobals "int" = some none)
    (z_len : PySem.W.nsIn K mainGlobals "len" = some none)
    (z_abs : PySem.W.nsIn K mainGlobals "abs" = some none)
    (z_range : PySem.W.nsIn K mainGlobals "range" = some none)
    (z_dict : PySem.W.nsIn K mainGlobals "dict" = some none)
    (z_str : PySem.W.nsIn K mainGlobals "str" = some none)
    (z_sorted : PySem.W.nsIn K mainGlobals "sorted" = some none)
    (z_tuple : PySem.W.nsIn K mainGlobals "tuple" = some none)
    (z_isinstance : PySem.W.nsIn K mainGlobals "isinstance" = some none)
    (z_iter : PySem.W.nsIn K mainGlobals "iter" = some none)
    (z_enumerate : PySem.W.nsIn K mainGlobals "enumerate" = some none)
    (z_repr : PySem.W.nsIn K mainGlobals "repr" = some none)
    (z_all : PySem.W.nsIn K mainGlobals "all" = some none)
    (z_bool : PySem.W.nsIn K mainGlobals "bool" = some none)
    (z_ValueError : PySem.W.nsIn K mainGlobals "ValueError" = some none)
    (qc1 : K.lookup q1 = some ⟨.type "code", qd1, .fields vs1, qs1⟩)
    (qv1 : vs1[11]? = some (.ref p1))
    (qa1 : vs1.getD 18 .none = .str qf1 qt1)
    (qb1 : vs1.getD 7 .none = .int ql1 qm1)
    (qe1 : vs1.getD 9 .none = .bool qi1)
    (qg1 : vs1.getD 10 .none = .int qx1 qy1)
    (qn1 : (q1 == p1) = false)
    (qk1 : K.lookup p1 = none)
    (qc2 : K.lookup q2 = some ⟨.type "code", qd2, .fields vs2, qs2⟩)
    (qv2 : vs2[11]? = some (.ref p2))
    (qa2 : vs2.getD 18 .none = .str qf2 qt2)
    (qb2 : vs2.getD 7 .none = .int ql2 qm2)
    (qe2 : vs2.getD 9 .none = .bool qi2)
    (qg2 : vs2.getD 10 .none = .int qx2 qy2)
    (qn2 : (q2 == p2) = false)
    (qk2 : K.lookup p2 = none)
    (qc3 : K.lookup q3 = some ⟨.type "code", qd3, .fields vs3, qs3⟩)
    (qv3 : vs3[11]? = some (.ref p3))
    (qa3 : vs3.getD 18 .none = .str qf3 qt3)
    (qb3 : vs3.getD 7 .none = .int ql3 qm3)
    (qe3 : vs3.getD 9 .none = .bool qi3)
    (qg3 : vs3.getD 10 .none = .int qx3 qy3)
    (qn3 : (q3 == p3) = false)
    (qk3 : K.lookup p3 = none)
    (pp12 : (p1 == p2) = false)
    (pp13 : (p1 == p3) = false)
    (pp23 : (p2 == p3) = false)
    (nd : (CE :: ([C0, C1, C2, C3, C4] : List Addr)).Nodup) :
    ∃ fd cs sp, LawG l w K 12 mg fa h fd cs sp := by
  have e := hfa.symm.trans (PySem.W.mg_of X G a23)
  cases e
  have B : Blt mg := ⟨PySem.W.mg_none_of X G z_list, PySem.W.mg_none_of X G z_int, PySem.W.mg_none_of X G z_len, PySem.W.mg_none_of X G z_abs, PySem.W.mg_none_of X G z_range, PySem.W.mg_none_of X G z_dict, PySem.W.mg_none_of X G z_str, PySem.W.mg_none_of X G z_sorted, PySem.W.mg_none_of X G z_tuple⟩
  have TQ : Tq mg := ⟨B, PySem.W.mg_none_of X G z_isinstance, PySem.W.mg_none_of X G z_repr, PySem.W.mg_none_of X G z_enumerate⟩
  have TB : Tb K mg CE := ⟨PySem.W.mg_of X G aE, ⟨rdR, gaR⟩, vR⟩
  have Y0 : ClsX K CE C0 := ⟨⟨nm0, qq0, N0, bs0, sn0, sub0, ab0, col0, dd0, m00, m01, m02, m03, m05, x_BadTable⟩⟩
  have O0 : OexC K C0 := ⟨⟨nm0, qq0, N0, bs0, _, sn0, sub0, ab0, col0, dd0, m00, m01, m02, m03, m05, x_BadTable, show PySem.HandSPX.refsVE [.type "ValueError", .type "Exception", .type "BaseException", .type "object"] = true by decide +kernel⟩, s_BadTable, Y0.ex, Y0.ty, k_BadTable⟩
  have X0 : ExcC K C0 := ⟨hg_BadTable, hk_BadTable, Y0.ex, Y0.hd, ha_BadTable, tB, tC, Y0.hm⟩
  have Y1 : ClsX K CE C1 := ⟨⟨nm1, qq1, N1, bs1, sn1, sub1, ab1, col1, dd1, m10, m11, m12, m13, m15, x_BadLetter⟩⟩
  have O1 : OexC K C1 := ⟨⟨nm1, qq1, N1, bs1, _, sn1, sub1, ab1, col1, dd1, m10, m11, m12, m13, m15, x_BadLetter, show PySem.HandSPX.refsVE [.type "ValueError", .type "Exception", .type "BaseException", .type "object"] = true by decide +kernel⟩, s_BadLetter, Y1.ex, Y1.ty, k_BadLetter⟩
  have X1 : ExcC K C1 := ⟨hg_BadLetter, hk_BadLetter, Y1.ex, Y1.hd, ha_BadLetter, tB, tC, Y1.hm⟩
  have Y2 : ClsX K CE C2 := ⟨⟨nm2, qq2, N2, bs2, sn2, sub2, ab2, col2, dd2, m20, m21, m22, m23, m25, x_BadCode⟩⟩
  have O2 : OexC K C2 := ⟨⟨nm2, qq2, N2, bs2, _, sn2, sub2, ab2, col2, dd2, m20, m21, m22, m23, m25, x_BadCode, show PySem.HandSPX.refsVE [.type "ValueError", .type "Exception", .type "BaseException", .type "object"] = true by decide +kernel⟩, s_BadCode, Y2.ex, Y2.ty, k_BadCode⟩
  have X2 : ExcC K C2 := ⟨hg_BadCode, hk_BadCode, Y2.ex, Y2.hd, ha_BadCode, tB, tC, Y2.hm⟩
  have Y3 : ClsX K CE C3 := ⟨⟨nm3, qq3, N3, bs3, sn3, sub3, ab3, col3, dd3, m30, m31, m32, m33, m35, x_Unread⟩⟩
  have O3 : OexC K C3 := ⟨⟨nm3, qq3, N3, bs3, _, sn3, sub3, ab3, col3, dd3, m30, m31, m32, m33, m35, x_Unread, show PySem.HandSPX.refsVE [.type "ValueError", .type "Exception", .type "BaseException", .type "object"] = true by decide +kernel⟩, s_Unread, Y3.ex, Y3.ty, k_Unread⟩
  have X3 : ExcC K C3 := ⟨hg_Unread, hk_Unread, Y3.ex, Y3.hd, ha_Unread, tB, tC, Y3.hm⟩
  have Y4 : ClsX K CE C4 := ⟨⟨nm4, qq4, N4, bs4, sn4, sub4, ab4, col4, dd4, m40, m41, m42, m43, m45, x_TooMany⟩⟩
  have O4 : OexC K C4 := ⟨⟨nm4, qq4, N4, bs4, _, sn4, sub4, ab4, col4, dd4, m40, m41, m42, m43, m45, x_TooMany, show PySem.HandSPX.refsVE [.type "ValueError", .type "Exception", .type "BaseException", .type "object"] = true by decide +kernel⟩, s_TooMany, Y4.ex, Y4.ty, k_TooMany⟩
  have X4 : ExcC K C4 := ⟨hg_TooMany, hk_TooMany, Y4.ex, Y4.hd, ha_TooMany, tB, tC, Y4.hm⟩
  have YY : ∀ i, i < ([C0, C1, C2, C3, C4] : List Addr).length → ClsX K CE (CzOf [C0, C1, C2, C3, C4] i) := fun i hi => by
    match i, hi with
    | 0, _ => exact Y0
    | 1, _ => exact Y1
    | 2, _ => exact Y2
    | 3, _ => exact Y3
    | 4, _ => exact Y4
    | k + 5, z => exact absurd (show k + 5 < 5 from z) (by omega)
  have T : Tc K mg CW CR CE (CzOf [C0, C1, C2, C3, C4]) := ⟨TQ, PySem.W.mg_none_of X G z_iter, PySem.W.mg_none_of X G z_all, PySem.W.mg_none_of X G z_bool, PySem.W.mg_none_of X G z_ValueError, ⟨_, PySem.W.mg_of X G g1, ⟨tk1, rfl⟩⟩, ⟨_, PySem.W.mg_of X G g2, ⟨tk2, rfl⟩⟩, ⟨_, PySem.W.mg_of X G g3, ⟨tk3, rfl⟩⟩, ⟨_, PySem.W.mg_of X G g4, ⟨tk4, rfl⟩⟩, ⟨_, PySem.W.mg_of X G aW, rfl⟩, ⟨_, PySem.W.mg_of X G aQ, rfl⟩, ⟨_, PySem.W.mg_of X G a_BadTable, rfl⟩, ⟨_, PySem.W.mg_of X G a_BadLetter, rfl⟩, ⟨_, PySem.W.mg_of X G a_BadCode, rfl⟩, ⟨_, PySem.W.mg_of X G a_Unread, rfl⟩, ⟨_, PySem.W.mg_of X G a_TooMany, rfl⟩, PySem.W.mg_of X G aE, ⟨pgW, hdW, poW, saW⟩, ⟨pgR, hdR, poR, saR⟩, nnW, nnR, tB, tC, caW, cdW, caR, cdR, kkW, kkR, nfW, nfR, nfd, neR, ddR, fun i hi => exm_of eR iR tyR (YY i hi).sE, fun i j hi hj => kit_all nd YY i j hi hj,
    (fun i hi => by
      match i, hi with
      | 0, _ => exact vv0
      | 1, _ => exact vv1
      | 2, _ => exact vv2
      | 3, _ => exact vv3
      | 4, _ => exact vv4
      | k + 5, z => exact absurd z (by omega)),
    (fun i hi => by
      match i, hi with
      | 0, _ => exact X0
      | 1, _ => exact X1
      | 2, _ => exact X2
      | 3, _ => exact X3
      | 4, _ => exact X4
      | k + 5, z => exact absurd z (by omega)),
    (fun i hi => by
      match i, hi with
      | 0, _ => exact n_BadTable_part
      | 1, _ => exact n_BadLetter_value
      | 2, _ => exact n_BadCode_value
      | 3, _ => exact n_Unread_at
      | k + 4, z => exact absurd z (by omega)), n_TooMany_what, n_TooMany_most⟩
  have F0 := fun_mk (st := s_copied) l0 c0 k0
  have b0 := F0.binds (ps := ["value"]) fun _ _ _ _ _ _ us hl => match us, hl with | [_], _ => rfl
  have F1 := fun_mk (st := s_is_letter) l1 c1 k1
  have b1 := F1.binds (ps := ["value"]) fun _ _ _ _ _ _ us hl => match us, hl with | [_], _ => rfl
  have F2 := fun_mk (st := s_is_integer) l2 c2 k2
  have b2 := F2.binds (ps := ["value"]) fun _ _ _ _ _ _ us hl => match us, hl with | [_], _ => rfl
  have F3 := fun_mk (st := s_is_between) l3 c3 k3
  have b3 := F3.binds (ps := ["value", "least", "most"]) fun _ _ _ _ _ _ us hl => match us, hl with | [_, _, _], _ => rfl
  have F4 := fun_mk (st := s_is_number) l4 c4 k4
  have b4 := F4.binds (ps := ["value"]) fun _ _ _ _ _ _ us hl => match us, hl with | [_], _ => rfl
  have F5 := fun_mk (st := s_is_code) l5 c5 k5
  have b5 := F5.binds (ps := ["value"]) fun _ _ _ _ _ _ us hl => match us, hl with | [_], _ => rfl
  have F6 := fun_mk (st := s_bounded) l6 c6 k6
  have b6 := F6.binds (ps := ["string"]) fun _ _ _ _ _ _ us hl => match us, hl with | [_], _ => rfl
  have F7 := fun_mk (st := s_check_codes) l7 c7 k7
  have b7 := F7.binds (ps := ["codes"]) fun _ _ _ _ _ _ us hl => match us, hl with | [_], _ => rfl
  have F8 := fun_mk (st := s_check_signs) l8 c8 k8
  have b8 := F8.binds (ps := ["signs"]) fun _ _ _ _ _ _ us hl => match us, hl with | [_], _ => rfl
  have F9 := fun_mk (st := s_check_numbers) l9 c9 k9
  have b9 := F9.binds (ps := ["numbers"]) fun _ _ _ _ _ _ us hl => match us, hl with | [_], _ => rfl
  have F10 := fun_mk (st := s_first_unread) l10 c10 k10
  have b10 := F10.binds (ps := ["numbers", "read"]) fun _ _ _ _ _ _ us hl => match us, hl with | [_, _], _ => rfl
  have F11 := fun_mk (st := s_pen) l11 c11 k11
  have b11 := F11.binds (ps := ["_law_script"]) fun _ _ _ _ _ _ us hl => match us, hl with | [_], _ => rfl
  have F12 := fun_mk (st := s_draw) l12 c12 k12
  have b12 := F12.binds (ps := ["_law_pen_here", "_law_many"]) fun _ _ _ _ _ _ us hl => match us, hl with | [_, _], _ => rfl
  have F13 := fun_mk (st := s_pick) l13 c13 k13
  have b13 := F13.binds (ps := ["_law_pen_here", "_law_some"]) fun _ _ _ _ _ _ us hl => match us, hl with | [_, _], _ => rfl
  have F14 := fun_mk (st := s_shuffled) l14 c14 k14
  have b14 := F14.binds (ps := ["_law_pen_here", "_law_some"]) fun _ _ _ _ _ _ us hl => match us, hl with | [_, _], _ => rfl
  have F15 := fun_mk (st := s__law_letters) l15 c15 k15
  have b15 := F15.binds (ps := ["_law_pen_here", "_law_many"]) fun _ _ _ _ _ _ us hl => match us, hl with | [_, _], _ => rfl
  have F16 := fun_mk (st := s_signs) l16 c16 k16
  have b16 := F16.binds (ps := ["_law_pen_here", "_law_some", "_law_known"]) fun _ _ _ _ _ _ us hl => match us, hl with | [_, _, _], _ => rfl
  have F17 := fun_mk (st := s_heard) l17 c17 k17
  have b17 := F17.binds (ps := ["_law_ask"]) fun _ _ _ _ _ _ us hl => match us, hl with | [_], _ => rfl
  have F18 := fun_mk (st := s__law_tells) l18 c18 k18
  have b18 := F18.binds (ps := ["_law_table", "_law_signs_so"]) fun _ _ _ _ _ _ us hl => match us, hl with | [_, _], _ => rfl
  have F19 := fun_mk (st := s__law_is_number) l19 c19 k19
  have b19 := F19.binds (ps := ["_law_value"]) fun _ _ _ _ _ _ us hl => match us, hl with | [_], _ => rfl
  have F20 := fun_mk (st := s__law_due) l20 c20 k20
  have b20 := F20.binds (ps := ["_law_numbers_so", "_law_signs_so"]) fun _ _ _ _ _ _ us hl => match us, hl with | [_, _], _ => rfl
  have F21 := fun_mk (st := s__law_rows_right) l21 c21 k21
  have b21 := F21.binds (ps := ["_law_pen_here", "_law_table", "_law_signs_so"]) fun _ _ _ _ _ _ us hl => match us, hl with | [_, _, _], _ => rfl
  have F22 := fun_mk (st := s__law_refused_right) l22 c22 k22
  have b22 := F22.binds (ps := ["_law_pen_here", "_law_some"]) fun _ _ _ _ _ _ us hl => match us, hl with | [_, _], _ => rfl
  have F23 := fun_mk (st := s_law) l23 c23 k23
  have F24 := fun_mk (st := s_WriteTable_init) l24 c24 k24
  have b24 := F24.binds (ps := ["self", "codes"]) fun _ _ _ _ _ _ us hl => match us, hl with | [_, _], _ => rfl
  have F25 := fun_mk (st := s_WriteTable_len) l25 c25 k25
  have b25 := F25.binds (ps := ["self"]) fun _ _ _ _ _ _ us hl => match us, hl with | [_], _ => rfl
  have F26 := fun_mk (st := s_WriteTable_eq) l26 c26 k26
  have b26 := F26.binds (ps := ["self", "other"]) fun _ _ _ _ _ _ us hl => match us, hl with | [_, _], _ => rfl
  have F27 := fun_mk (st := s_ReadTable_init) l27 c27 k27
  have b27 := F27.binds (ps := ["self", "signs"]) fun _ _ _ _ _ _ us hl => match us, hl with | [_, _], _ => rfl
  have F28 := fun_mk (st := s_ReadTable_iter) l28 c28 k28
  have b28 := F28.binds (ps := ["self"]) fun _ _ _ _ _ _ us hl => match us, hl with | [_], _ => rfl
  have F29 := fun_mk (st := s_ReadTable_len) l29 c29 k29
  have b29 := F29.binds (ps := ["self"]) fun _ _ _ _ _ _ us hl => match us, hl with | [_], _ => rfl
  have F30 := fun_mk (st := s_ReadTable_contains) l30 c30 k30
  have b30 := F30.binds (ps := ["self", "x"]) fun _ _ _ _ _ _ us hl => match us, hl with | [_, _], _ => rfl
  have F31 := fun_mk (st := s_ReadTable_getitem) l31 c31 k31
  have b31 := F31.binds (ps := ["self", "at"]) fun _ _ _ _ _ _ us hl => match us, hl with | [_, _], _ => rfl
  have F32 := fun_mk (st := s_ReadTable_call) l32 c32 k32
  have b32 := F32.binds (ps := ["self", "numbers"]) fun _ _ _ _ _ _ us hl => match us, hl with | [_, _], _ => rfl
  have F33 := fun_mk (st := s_ReadTable_eq) l33 c33 k33
  have b33 := F33.binds (ps := ["self", "other"]) fun _ _ _ _ _ _ us hl => match us, hl with | [_, _], _ => rfl
  have F34 := fun_mk (st := s_ReadTable_invert) l34 c34 k34
  have b34 := F34.binds (ps := ["self"]) fun _ _ _ _ _ _ us hl => match us, hl with | [_], _ => rfl
  have kbR : KBn K (PySem.W.fnOf "__init__" "ReadTable.__init__" (defArgs s_ReadTable_init) (defBody s_ReadTable_init) (defScope s_ReadTable_init) .none kV27 dc27 pm27 an27 cd27 ct27) pS 1 ["signs"] (fun us ws => us ++ ws) (fun vs zs => vs ++ zs) := ⟨fun s us ws _ h0 h2 => match us, ws, h0, h2 with
    | [_], [_], _, _ => .of_eq rfl, fun r1 r2 => r1.append r2⟩
  have F35 := fun_mk (st := s_BadTable_init) l35 c35 k35
  have b35 := F35.binds (ps := ["self", "part"]) fun _ _ _ _ _ _ us hl => match us, hl with | [_, _], _ => rfl
  have kb0 : KBn K (PySem.W.fnOf "__init__" "BadTable.__init__" (defArgs s_BadTable_init) (defBody s_BadTable_init) (defScope s_BadTable_init) .none kV35 dc35 pm35 an35 cd35 ct35) ["self", "part"] 1 ["part"] (fun us ws => us ++ ws) (fun vs zs => vs ++ zs) := ⟨fun s us ws _ h0 h2 => match us, ws, h0, h2 with
    | [_], [_], _, _ => .of_eq rfl, fun r1 r2 => r1.append r2⟩
  have F36 := fun_mk (st := s_BadLetter_init) l36 c36 k36
  have b36 := F36.binds (ps := ["self", "value"]) fun _ _ _ _ _ _ us hl => match us, hl with | [_, _], _ => rfl
  have kb1 : KBn K (PySem.W.fnOf "__init__" "BadLetter.__init__" (defArgs s_BadLetter_init) (defBody s_BadLetter_init) (defScope s_BadLetter_init) .none kV36 dc36 pm36 an36 cd36 ct36) ["self", "value"] 1 ["value"] (fun us ws => us ++ ws) (fun vs zs => vs ++ zs) := ⟨fun s us ws _ h0 h2 => match us, ws, h0, h2 with
    | [_], [_], _, _ => .of_eq rfl, fun r1 r2 => r1.append r2⟩
  have F37 := fun_mk (st := s_BadCode_init) l37 c37 k37
  have b37 := F37.binds (ps := ["self", "value"]) fun _ _ _ _ _ _ us hl => match us, hl with | [_, _], _ => rfl
  have kb2 : KBn K (PySem.W.fnOf "__init__" "BadCode.__init__" (defArgs s_BadCode_init) (defBody s_BadCode_init) (defScope s_BadCode_init) .none kV37 dc37 pm37 an37 cd37 ct37) ["self", "value"] 1 ["value"] (fun us ws => us ++ ws) (fun vs zs => vs ++ zs) := ⟨fun s us ws _ h0 h2 => match us, ws, h0, h2 with
    | [_], [_], _, _ => .of_eq rfl, fun r1 r2 => r1.append r2⟩
  have F38 := fun_mk (st := s_Unread_init) l38 c38 k38
  have b38 := F38.binds (ps := ["self", "at"]) fun _ _ _ _ _ _ us hl => match us, hl with | [_, _], _ => rfl
  have kb3 : KBn K (PySem.W.fnOf "__init__" "Unread.__init__" (defArgs s_Unread_init) (defBody s_Unread_init) (defScope s_Unread_init) .none kV38 dc38 pm38 an38 cd38 ct38) ["self", "at"] 1 ["at"] (fun us ws => us ++ ws) (fun vs zs => vs ++ zs) := ⟨fun s us ws _ h0 h2 => match us, ws, h0, h2 with
    | [_], [_], _, _ => .of_eq rfl, fun r1 r2 => r1.append r2⟩
  have F39 := fun_mk (st := s_TooMany_init) l39 c39 k39
  have b39 := F39.binds (ps := ["self", "what", "most"]) fun _ _ _ _ _ _ us hl => match us, hl with | [_, _, _], _ => rfl
  have kb4 : KBn K (PySem.W.fnOf "__init__" "TooMany.__init__" (defArgs s_TooMany_init) (defBody s_TooMany_init) (defScope s_TooMany_init) .none kV39 dc39 pm39 an39 cd39 ct39) ["self", "what", "most"] 1 ["most", "what"] (fun us ws => us ++ ws.reverse) (fun vs zs => vs ++ zs.reverse) := ⟨fun s us ws _ h0 h2 => match us, ws, h0, h2 with
    | [_], [_, _], _, _ => .of_eq rfl, fun r1 r2 => r1.append (vals_revW r2)⟩
  have N1 : q1 ≠ p1 := fun z => by rw [z] at qn1; simp at qn1
  have hd11_1 : vs1.getD 11 .none = .ref p1 := by rw [Array.getD_eq_getD_getElem?, qv1]; rfl
  have H1 : PySem.W.CodeHd h q1 p1 := ⟨_, vs1, _, _, _, _, _, _, _, X _ _ qc1, rfl, rfl, qv1, hd11_1, qa1, qb1, qe1, qg1, N1⟩
  have N2 : q2 ≠ p2 := fun z => by rw [z] at qn2; simp at qn2
  have hd11_2 : vs2.getD 11 .none = .ref p2 := by rw [Array.getD_eq_getD_getElem?, qv2]; rfl
  have H2 : PySem.W.CodeHd h q2 p2 := ⟨_, vs2, _, _, _, _, _, _, _, X _ _ qc2, rfl, rfl, qv2, hd11_2, qa2, qb2, qe2, qg2, N2⟩
  have N3 : q3 ≠ p3 := fun z => by rw [z] at qn3; simp at qn3
  have hd11_3 : vs3.getD 11 .none = .ref p3 := by rw [Array.getD_eq_getD_getElem?, qv3]; rfl
  have H3 : PySem.W.CodeHd h q3 p3 := ⟨_, vs3, _, _, _, _, _, _, _, X _ _ qc3, rfl, rfl, qv3, hd11_3, qa3, qb3, qe3, qg3, N3⟩
  have P1 : h.get? p1 = some { cls := .none, data := .fields #[] } := own1 f21 (PySem.W.mg_of X G a21) q1 p1 _ _ _ _ _ _ l21 rfl rfl qc1 qv1
  have P2 : h.get? p2 = some { cls := .none, data := .fields #[] } := own2 f22 (PySem.W.mg_of X G a22) q2 p2 _ _ _ _ _ _ l22 rfl rfl qc2 qv2
  have P3 : h.get? p3 = some { cls := .none, data := .fields #[] } := own q3 p3 _ _ _ _ _ _ l23 rfl rfl qc3 qv3
  have pne12 : p1 ≠ p2 := fun z => by rw [z] at pp12; simp at pp12
  have pne13 : p1 ≠ p3 := fun z => by rw [z] at pp13; simp at pp13
  have pne23 : p2 ≠ p3 := fun z => by rw [z] at pp23; simp at pp23
  have each : ∀ {C : Addr × Addr → Prop}, C (q1, p1) → C (q2, p2) → C (q3, p3) → ∀ p ∈ [(q1, p1), (q2, p2), (q3, p3)], C p := fun aa ab ac p hp => by
    rcases List.mem_cons.mp hp with rfl | hp
    · exact aa
    rcases List.mem_cons.mp hp with rfl | hp
    · exact ab
    rw [List.mem_singleton.mp hp]
    exact ac
  refine ⟨PySem.W.fnOf "law" "law" (defArgs s_law) (defBody s_law) (defScope s_law) .none kV23 dc23 pm23 an23 (.ref q3) ct23, [(q1, p1), (q2, p2), (q3, p3)], spLaw (TLs p1 p2 p3) K, ⟨each P1 P2 P3, each qk1 qk2 qk3, each H1 H2 H3, fun s v => .of_eq rfl, fun Hh a ns hl _ ht hS => ⟨a, ns, rfl, hS, hl, fun p hp => ?_, fun _ => rfl⟩, fun base sys _ _ hb => ?_⟩⟩
  · have hp : p ∈ [(p1, (("_law_rows_right" : Str) ++ ".<locals>.") ++ "<lambda>"), (p2, (("_law_refused_right" : Str) ++ ".<locals>.") ++ "<lambda>"), (p3, (("law" : Str) ++ ".<locals>.") ++ "<lambda>")] := hp
    rcases List.mem_cons.mp hp with rfl | hp
    · exact TabS.nil (ht (q1, p1) (by simp))
    rcases List.mem_cons.mp hp with rfl | hp
    · exact TabS.nil (ht (q2, p2) (by simp))
    rw [List.mem_singleton.mp hp]
    exact TabS.nil (ht (q3, p3) (by simp))
  have K1 : TabT base mg (TLs p1 p2 p3) (("_law_rows_right" : Str) ++ ".<locals>.") q1 p1 := ⟨hb (q1, p1) (by simp), by simp [TLs], fun p hp e => by
    have hp : p ∈ [(p1, (("_law_rows_right" : Str) ++ ".<locals>.") ++ "<lambda>"), (p2, (("_law_refused_right" : Str) ++ ".<locals>.") ++ "<lambda>"), (p3, (("law" : Str) ++ ".<locals>.") ++ "<lambda>")] := hp
    rcases List.mem_cons.mp hp with rfl | hp
    · rfl
    rcases List.mem_cons.mp hp with rfl | hp
    · exact absurd e.symm pne12
    rw [List.mem_singleton.mp hp] at e
    exact absurd e.symm pne13⟩
  have K2 : TabT base mg (TLs p1 p2 p3) (("_law_refused_right" : Str) ++ ".<locals>.") q2 p2 := ⟨hb (q2, p2) (by simp), by simp [TLs], fun p hp e => by
    have hp : p ∈ [(p1, (("_law_rows_right" : Str) ++ ".<locals>.") ++ "<lambda>"), (p2, (("_law_refused_right" : Str) ++ ".<locals>.") ++ "<lambda>"), (p3, (("law" : Str) ++ ".<locals>.") ++ "<lambda>")] := hp
    rcases List.mem_cons.mp hp with rfl | hp
    · exact absurd e pne12
    rcases List.mem_cons.mp hp with rfl | hp
    · rfl
    rw [List.mem_singleton.mp hp] at e
    exact absurd e.symm pne23⟩
  have K3 : TabT base mg (TLs p1 p2 p3) (("law" : Str) ++ ".<locals>.") q3 p3 := ⟨hb (q3, p3) (by simp), by simp [TLs], fun p hp e => by
    have hp : p ∈ [(p1, (("_law_rows_right" : Str) ++ ".<locals>.") ++ "<lambda>"), (p2, (("_law_refused_right" : Str) ++ ".<locals>.") ++ "<lambda>"), (p3, (("law" : Str) ++ ".<locals>.") ++ "<lambda>")] := hp
    rcases List.mem_cons.mp hp with rfl | hp
    · exact absurd e pne13
    rcases List.mem_cons.mp hp with rfl | hp
    · exact absurd e pne23
    rw [List.mem_singleton.mp hp]
    done⟩
  have FJ1 : FunC K "_law_rows_right" "_law_rows_right" s__law_rows_right f21 q1 _ := ⟨⟨oc21, od21, kV21, dc21, pm21, an21, ct21, sl21, rfl, l21, c21⟩⟩
  have FJ2 : FunC K "_law_refused_right" "_law_refused_right" s__law_refused_right f22 q2 _ := ⟨⟨oc22, od22, kV22, dc22, pm22, an22, ct22, sl22, rfl, l22, c22⟩⟩
  have FL : FunC K "law" "law" s_law fa q3 (PySem.W.fnOf "law" "law" (defArgs s_law) (defBody s_law) (defScope s_law) .none kV23 dc23 pm23 an23 (.ref q3) ct23) := ⟨⟨oc23, od23, kV23, dc23, pm23, an23, ct23, sl23, rfl, l23, c23⟩⟩
  have D_heard : HearD K mg f17 := ⟨PySem.W.mg_of X G a17, k17, ⟨oc17, od17, kV17, dc17, pm17, an17, cd17, ct17, sl17, l17, c17⟩⟩
  have D_pen : Df l.prog w K mg base 1 "_law_pen" (spPen K) := ⟨⟨f11, _, _, ok_pen F11 B, PySem.W.mg_of X G a11, k11, b11⟩⟩
  have D_draw : Df l.prog w K mg base 1 "_law_draw" spDraw := ⟨⟨f12, _, _, ok_draw (k := 0) F12 B, PySem.W.mg_of X G a12, k12, b12⟩⟩
  have D_pick : Df l.prog w K mg base 2 "_law_pick" (spPick K) := ⟨⟨f13, _, _, ok_pick F13 B D_draw, PySem.W.mg_of X G a13, k13, b13⟩⟩
  have D_letters : Df l.prog w K mg base 2 "_law_letters" spLetters := ⟨⟨f15, _, _, ok_letters F15 B D_draw, PySem.W.mg_of X G a15, k15, b15⟩⟩
  have D_shuffled : Df l.prog w K mg base 2 "_law_shuffled" spShuf := ⟨⟨f14, _, _, ok_shuffled F14 B D_draw, PySem.W.mg_of X G a14, k14, b14⟩⟩
  have D_signs : Df l.prog w K mg base 3 "_law_signs" spSigns := ⟨⟨f16, _, _, ok_signs F16 B D_draw D_pick D_shuffled, PySem.W.mg_of X G a16, k16, b16⟩⟩
  have D_cop0 : Df l.prog w K mg base 0 "copied" (fun _ _ _ _ => False) := ⟨⟨f0, _, _, ⟨fun _ _ _ _ z => z.elim, fun _ _ _ _ _ _ _ _ _ _ _ _ _ z => z.elim⟩, PySem.W.mg_of X G a0, k0, b0⟩⟩
  have D_cop1 : Df l.prog w K mg base 1 "copied" (spCopied K) := ⟨⟨f0, _, _, ok_copied F0 TQ D_cop0, PySem.W.mg_of X G a0, k0, b0⟩⟩
  have D_copied : Df l.prog w K mg base 2 "copied" spCopyW := ⟨⟨f0, _, _, ok_copyW F0 TQ D_cop1, PySem.W.mg_of X G a0, k0, b0⟩⟩
  have E0 : Er1 l.prog w K mg base "BadTable" "part" (CzOf [C0, C1, C2, C3, C4] 0) := ⟨O0, X0, n_BadTable_part, PySem.W.mg_of X G a_BadTable, f35, _, _, a35, y35, ok_BadTable F35 TB sys D_copied, b35, kb0⟩
  have E1 : Er1 l.prog w K mg base "BadLetter" "value" (CzOf [C0, C1, C2, C3, C4] 1) := ⟨O1, X1, n_BadLetter_value, PySem.W.mg_of X G a_BadLetter, f36, _, _, a36, y36, ok_BadLetter F36 TB sys D_copied, b36, kb1⟩
  have E2 : Er1 l.prog w K mg base "BadCode" "value" (CzOf [C0, C1, C2, C3, C4] 2) := ⟨O2, X2, n_BadCode_value, PySem.W.mg_of X G a_BadCode, f37, _, _, a37, y37, ok_BadCode F37 TB sys D_copied, b37, kb2⟩
  have E3 : Er1 l.prog w K mg base "Unread" "at" (CzOf [C0, C1, C2, C3, C4] 3) := ⟨O3, X3, n_Unread_at, PySem.W.mg_of X G a_Unread, f38, _, _, a38, y38, ok_Unread F38 TB sys D_copied, b38, kb3⟩
  have E4 : Er2 l.prog w K mg base "TooMany" "what" "most" (CzOf [C0, C1, C2, C3, C4] 4) := ⟨O4, X4, n_TooMany_what, n_TooMany_most, PySem.W.mg_of X G a_TooMany, f39, _, _, a39, y39, ok_TooMany F39 TB sys D_copied, b39, kb4⟩
  have D_is_letter : Df l.prog w K mg base 1 "is_letter" (spWordD 1 1) := ⟨⟨f1, _, _, isLetter_D (ok_is_letter F1 T), PySem.W.mg_of X G a1, k1, b1⟩⟩
  have D_is_integer : Df l.prog w K mg base 1 "is_integer" spIntD := ⟨⟨f2, _, _, ok_is_integerD F2 T, PySem.W.mg_of X G a2, k2, b2⟩⟩
  have D_is_between : Df l.prog w K mg base 2 "is_between" spBtwD := ⟨⟨f3, _, _, ok_is_betweenD F3 T D_is_integer, PySem.W.mg_of X G a3, k3, b3⟩⟩
  have D_is_number : Df l.prog w K mg base 3 "is_number" spNumD := ⟨⟨f4, _, _, ok_is_numberD F4 T D_is_between, PySem.W.mg_of X G a4, k4, b4⟩⟩
  have D_is_code : Df l.prog w K mg base 4 "is_code" (spCode K) := ⟨⟨f5, _, _, ok_is_code F5 T D_is_number, PySem.W.mg_of X G a5, k5, b5⟩⟩
  have D_bounded : DfG l.prog w K mg base (L2.CX l.prog w) 5 "bounded" (spBndX (CzOf [C0, C1, C2, C3, C4])) := ⟨⟨f6, _, _, ok_bounded F6 T E4, PySem.W.mg_of X G a6, k6, b6⟩⟩
  have D_check_codes : Df l.prog w K mg base 5 "check_codes" spCkC := ⟨⟨f7, _, _, ok_check_codes F7 T D_is_letter D_is_code, PySem.W.mg_of X G a7, k7, b7⟩⟩
  have D_sgnR : Df l.prog w K mg base 5 "check_signs" spSgnR := ⟨⟨f8, _, _, ok_sgnR F8 T D_is_letter D_is_number, PySem.W.mg_of X G a8, k8, b8⟩⟩
  have D_check_signs : DfG l.prog w K mg base (L2.CX l.prog w) 5 "check_signs" (spSgnX K w (CzOf [C0, C1, C2, C3, C4])) := ⟨⟨f8, _, _, ok_sgnX F8 T D_is_letter D_is_number E0 E1 E2, PySem.W.mg_of X G a8, k8, b8⟩⟩
  have D_check_numbers : DfG l.prog w K mg base (L2.CX l.prog w) 5 "check_numbers" (spCkN (CzOf [C0, C1, C2, C3, C4])) := ⟨⟨f9, _, _, ok_check_numbersD F9 T D_is_number E0 E2, PySem.W.mg_of X G a9, k9, b9⟩⟩
  have D_mkW : Mkr1 l.prog w K mg base "WriteTable" CW (spIniW CW) := ⟨⟨f24, _, _, ⟨mkW, a24, i24, kcW⟩, ok_initW F24 T D_check_codes, PySem.W.mg_of X G aW, b24⟩⟩
  have D_mk : MkS l.prog w K mg base CR (CzOf [C0, C1, C2, C3, C4]) := ⟨⟨f27, _, ⟨mkR, a27, i27, kcR⟩, ok_init_all F27 T D_sgnR D_check_signs, PySem.W.mg_of X G aQ, b27, kbR⟩⟩
  have D_lenW : Mf l.prog w K mg base 1 CW "__len__" (spLenW CW) := ⟨⟨f25, _, _, ok_lenW F25 T, ⟨a25, i25, k25⟩, ⟨a25, i25⟩, n25, b25⟩⟩
  have D_eqW : Mf l.prog w K mg base 1 CW "__eq__" (spEqW CW) := ⟨⟨f26, _, _, ok_eqW F26 T, ⟨a26, i26, k26⟩, ⟨a26, i26⟩, n26, b26⟩⟩
  have D_lenR : Mf l.prog w K mg base 1 CR "__len__" (spLenR CR) := ⟨⟨f29, _, _, ok_lenR F29 T, ⟨a29, i29, k29⟩, ⟨a29, i29⟩, n29, b29⟩⟩
  have D_inR : Mf l.prog w K mg base 2 CR "__contains__" (spInD CR) := ⟨⟨f30, _, _, ok_inD F30 T D_is_integer, ⟨a30, i30, k30⟩, ⟨a30, i30⟩, n30, b30⟩⟩
  have D_eqR : Mf l.prog w K mg base 1 CR "__eq__" (spEqD K CR) := ⟨⟨f33, _, _, ok_eqD F33 T, ⟨a33, i33, k33⟩, ⟨a33, i33⟩, n33, b33⟩⟩
  have D_inv : Mf l.prog w K mg base 8 CR "__invert__" (spInv CW CR) := ⟨⟨f34, _, _, ok_invert F34 T D_mkW, ⟨a34, i34, k34⟩, ⟨a34, i34⟩, n34, b34⟩⟩
  have D_iter : ItM l.prog w K mg base 1 CR (snIterR CR) := ⟨⟨f28, _, _, ok_iterR F28 T, ⟨a28, i28⟩, b28⟩⟩
  have D_first_unread : Df l.prog w K mg base 3 "first_unread" (spFUD CR) := ⟨⟨f10, _, _, ok_first_unreadD F10 T D_inR, PySem.W.mg_of X G a10, k10, b10⟩⟩
  have D_get : MfG l.prog w K mg base (L2.CX l.prog w) 5 CR "__getitem__" (spGetD CR (CzOf [C0, C1, C2, C3, C4])) := ⟨⟨f31, _, _, ok_getD F31 T D_is_integer E2, ⟨a31, i31, k31⟩, ⟨a31, i31⟩, n31, b31⟩⟩
  have D_call : MfG l.prog w K mg base (L2.CX l.prog w) 6 CR "__call__" (spCaD CR (CzOf [C0, C1, C2, C3, C4])) := ⟨⟨f32, _, _, ok_callD F32 T D_check_numbers D_first_unread D_bounded E3, ⟨a32, i32, k32⟩, ⟨a32, i32⟩, n32, b32⟩⟩
  have D_tells : DfG l.prog w K mg base CX0 10 "_law_tells" (spTells CR) := ⟨⟨f18, _, _, ok_tells F18 T sys D_inR D_lenR D_iter D_get D_inv D_mkW D_eqW, PySem.W.mg_of X G a18, k18, b18⟩⟩
  have D_law_number : Df l.prog w K mg base 1 "_law_is_number" spLawNum := ⟨⟨f19, _, _, ok_law_number F19 T, PySem.W.mg_of X G a19, k19, b19⟩⟩
  have D_due : DfG l.prog w K mg base CX0 3 "_law_due" spDue := ⟨⟨f20, _, _, ok_due F20 T sys D_law_number, PySem.W.mg_of X G a20, k20, b20⟩⟩
  have D_rows : DfG l.prog w K mg base CX0 11 "_law_rows_right" (spRows (TLs p1 p2 p3) CR) := ⟨⟨f21, _, _, ok_rows FJ1 T sys D_draw D_pick D_due D_call D_get D_heard K1, PySem.W.mg_of X G a21, k21, b21⟩⟩
  have D_refused : DfG l.prog w K mg base CX0 11 "_law_refused_right" (spRefused (TLs p1 p2 p3)) := ⟨⟨f22, _, _, ok_refused FJ2 T sys D_draw D_pick D_shuffled D_law_number D_tells D_mk D_heard K2, PySem.W.mg_of X G a22, k22, b22⟩⟩
  exact ok_law FL T sys D_pen D_draw D_pick D_letters D_signs D_tells D_rows D_refused D_mk D_eqR D_call D_lenR D_lenW D_inv D_heard K3
/-- the end, where the tables of two defs are known -/
theorem walk {l : PySem.W.OpenLaw} {q : Program} {loose : List Str} {XP : (Str → Option Value) → Heap → Prop} {YP : World → Heap → Prop} {d : DefRec} {K : Params → PySem.W.Frag} (hn : l.most = some 63) (hdf : d.params.defaults = []) (him : importsNone q = true) (hrec : ((recsOf q).any fun e => e.name == d.name) = true) (hrec1 : ((recsOf q).any fun e => e.name == "_law_rows_right") = true) (hrec2 : ((recsOf q).any fun e => e.name == "_law_refused_right") = true)
    (hY : ∀ (w : World) (h : Heap), YP w h → (K w.params).In h)
    (F : ∀ (w : World) (mg : Str → Option Value) (fa : Addr) (h : Heap), (K w.params).In h → h.Ns mainGlobals mg → mg d.name = some (.ref fa) → OwnTab (K w.params) fa h → (∀ fb, mg "_law_rows_right" = some (.ref fb) → OwnTab (K w.params) fb h) → (∀ fb, mg "_law_refused_right" = some (.ref fb) → OwnTab (K w.params) fb h) →  ∃ fd cs sp, LawG l w (K w.params) 12 mg fa h fd cs sp) :
    PySem.W.WalkO q loose XP YP l.row.toRowW d [] (fun f vs => PySem.call f vs) := by
  refine Att.attach_callB hn hdf fun w s₀ s₁ mg mb fa o pm cd doc a vs ns G Y ho hd hcd hmg hobj hints hlen hbits hg => ?_
  have KX := hY w _ Y
  have tab : ∀ (x : Str) (fb : Addr), ((recsOf q).any fun e => e.name == x) = true → mg x = some (.ref fb) → OwnTab (K w.params) fb s₁.heap := fun x fb hr hm0 c P o1 fd1 e dd vs1 sl k1 k2 k3 k4 k5 => by
    obtain ⟨dL, hm, hn1⟩ := List.any_eq_true.mp hr
    have hn2 : dL.name = x := beq_iff_eq.mp hn1
    obtain ⟨a', o', fd', c', P', h1, h2, h3, h4, h5, h6⟩ := G.T.tab dL hm
    rw [hn2, hm0] at h1
    cases h1
    have g1 := KX _ _ k1
    rw [g1] at h2
    cases h2
    rw [k2] at h3
    cases h3
    rw [k3] at h4
    cases h4
    obtain ⟨⟨oc, vc, e1, _, e3, e4⟩, hP⟩ := h6
    have g2 := KX _ _ k4
    rw [g2] at e1
    cases e1
    cases e3
    rw [k5] at e4
    cases e4
    exact hP
  obtain ⟨mm, hmods, _⟩ := (G.T.seer him).mods
  obtain ⟨fd, cs, sp, L⟩ := F w mg fa _ KX G.T.g hmg (tab _ fa hrec hmg) (fun fb hm0 => tab _ fb hrec1 hm0) (fun fb hm0 => tab _ fb hrec2 hm0)
  exact law_callS KX G.T.g G.T.b G.T.builtins G.T.nolimit hg hmods L.tabs L.untold L.codes G.T.bmain hobj hints (Nat.le_trans hlen (by decide)) ⟨rfl, by decide, by decide⟩ (fun base sys kin g hb => L.runs base sys kin g hb) L.binds (fun H hH hS => L.starts H a ns hlen hbits hH hS) fun _ _ _ z => z
end V8

set_option Elab.async false
set_option linter.all false
set_option maxRecDepth 100000
open PySem PySem.W PyProof.Rows
set_option maxHeartbeats 0 in
theorem PySem.Challenge.cw_blindrepair_k04_tables_to_read_with_holds : PySem.Challenge.rw_blindrepair_k04_tables_to_read_with.Holds := by
  w_on; o_law; k_head; (case hw => w_witness2)
  k_fill
  refine V8.walk (l := PySem.Challenge.rw_blindrepair_k04_tables_to_read_with) rfl rfl (by decide +kernel) (by decide +kernel) (by decide +kernel) (by decide +kernel) (fun w h Y => PySem.W.km_in_of Y) ?F
  case F =>
    intro w mg fa h KX G hmg own own1 own2
    refine' V8.all_mk KX G hmg own own1 own2 ?aW ?aQ ?aE ?a_BadTable ?a_BadLetter ?a_BadCode ?a_Unread ?a_TooMany ?a0 ?l0 ?c0 ?k0 ?a1 ?l1 ?c1 ?k1 ?a2 ?l2 ?c2 ?k2 ?a3 ?l3 ?c3 ?k3 ?a4 ?l4 ?c4 ?k4 ?a5 ?l5 ?c5 ?k5 ?a6 ?l6 ?c6 ?k6 ?a7 ?l7 ?c7 ?k7 ?a8 ?l8 ?c8 ?k8 ?a9 ?l9 ?c9 ?k9 ?a10 ?l10 ?c10 ?k10 ?a11 ?l11 ?c11 ?k11 ?a12 ?l12 ?c12 ?k12 ?a13 ?l13 ?c13 ?k13 ?a14 ?l14 ?c14 ?k14 ?a15 ?l15 ?c15 ?k15 ?a16 ?l16 ?c16 ?k16 ?a17 ?l17 ?c17 ?k17 ?a18 ?l18 ?c18 ?k18 ?a19 ?l19 ?c19 ?k19 ?a20 ?l20 ?c20 ?k20 ?a21 ?l21 ?c21 ?k21 ?a22 ?l22 ?c22 ?k22 ?a23 ?l23 ?c23 ?k23 ?a24 ?i24 ?l24 ?c24 ?k24 ?n24 ?a25 ?i25 ?l25 ?c25 ?k25 ?n25 ?a26 ?i26 ?l26 ?c26 ?k26 ?n26 ?a27 ?i27 ?l27 ?c27 ?k27 ?n27 ?a28 ?i28 ?l28 ?c28 ?k28 ?n28 ?a29 ?i29 ?l29 ?c29 ?k29 ?n29 ?a30 ?i30 ?l30 ?c30 ?k30 ?n30 ?a31 ?i31 ?l31 ?c31 ?k31 ?n31 ?a32 ?i32 ?l32 ?c32 ?k32 ?n32 ?a33 ?i33 ?l33 ?c33 ?k33 ?n33 ?a34 ?i34 ?l34 ?c34 ?k34 ?n34 ?a35 ?y35 ?l35 ?c35 ?k35 ?a36 ?y36 ?l36 ?c36 ?k36 ?a37 ?y37 ?l37 ?c37 ?k37 ?a38 ?y38 ?l38 ?c38 ?k38 ?a39 ?y39 ?l39 ?c39 ?k39 ?x_BadTable ?s_BadTable ?k_BadTable ?hg_BadTable ?hk_BadTable ?ha_BadTable ?n_BadTable_part ?x_BadLetter ?s_BadLetter ?k_BadLetter ?hg_BadLetter ?hk_BadLetter ?ha_BadLetter ?n_BadLetter_value ?x_BadCode ?s_BadCode ?k_BadCode ?hg_BadCode ?hk_BadCode ?ha_BadCode ?n_BadCode_value ?x_Unread ?s_Unread ?k_Unread ?hg_Unread ?hk_Unread ?ha_Unread ?n_Unread_at ?x_TooMany ?s_TooMany ?k_TooMany ?hg_TooMany ?hk_TooMany ?ha_TooMany ?n_TooMany_what ?n_TooMany_most ?eR ?tyR ?iR ?rdR ?gaR ?vR ?pgW ?hdW ?poW ?saW ?mkW ?kcW ?nnW ?caW ?cdW ?nfW ?kkW ?pgR ?hdR ?poR ?saR ?mkR ?kcR ?nnR ?caR ?cdR ?nfR ?kkR ?nfd ?neR ?ddR ?tB ?tC ?vv0 ?vv1 ?vv2 ?vv3 ?vv4 ?g1 ?g2 ?g3 ?g4 ?z_list ?z_int ?z_len ?z_abs ?z_range ?z_dict ?z_str ?z_sorted ?z_tuple ?z_isinstance ?z_iter ?z_enumerate ?z_repr ?z_all ?z_bool ?z_ValueError ?qc1 ?qv1 ?qa1 ?qb1 ?qe1 ?qg1 ?qn1 ?qk1 ?qc2 ?qv2 ?qa2 ?qb2 ?qe2 ?qg2 ?qn2 ?qk2 ?qc3 ?qv3 ?qa3 ?qb3 ?qe3 ?qg3 ?qn3 ?qk3 ?pp12 ?pp13 ?pp23 ?nd
    (case aW => k_is)
    (case aQ => k_is)
    (case aE => k_is)
    (case a_BadTable => k_is)
    (case a_BadLetter => k_is)
    (case a_BadCode => k_is)
    (case a_Unread => k_is)
    (case a_TooMany => k_is)
    (case a0 => k_is)
    (case l0 => k_is)
    (case c0 => k_is)
    (case k0 => k_is)
    (case a1 => k_is)
    (case l1 => k_is)
    (case c1 => k_is)
    (case k1 => k_is)
    (case a2 => k_is)
    (case l2 => k_is)
    (case c2 => k_is)
    (case k2 => k_is)
    (case a3 => k_is)
    (case l3 => k_is)
    (case c3 => k_is)
    (case k3 => k_is)
    (case a4 => k_is)
    (case l4 => k_is)
    (case c4 => k_is)
    (case k4 => k_is)
    (case a5 => k_is)
    (case l5 => k_is)
    (case c5 => k_is)
    (case k5 => k_is)
    (case a6 => k_is)
    (case l6 => k_is)
    (case c6 => k_is)
    (case k6 => k_is)
    (case a7 => k_is)
    (case l7 => k_is)
    (case c7 => k_is)
    (case k7 => k_is)
    (case a8 => k_is)
    (case l8 => k_is)
    (case c8 => k_is)
    (case k8 => k_is)
    (case a9 => k_is)
    (case l9 => k_is)
    (case c9 => k_is)
    (case k9 => k_is)
    (case a10 => k_is)
    (case l10 => k_is)
    (case c10 => k_is)
    (case k10 => k_is)
    (case a11 => k_is)
    (case l11 => k_is)
    (case c11 => k_is)
    (case k11 => k_is)
    (case a12 => k_is)
    (case l12 => k_is)
    (case c12 => k_is)
    (case k12 => k_is)
    (case a13 => k_is)
    (case l13 => k_is)
    (case c13 => k_is)
    (case k13 => k_is)
    (case a14 => k_is)
    (case l14 => k_is)
    (case c14 => k_is)
    (case k14 => k_is)
    (case a15 => k_is)
    (case l15 => k_is)
    (case c15 => k_is)
    (case k15 => k_is)
    (case a16 => k_is)
    (case l16 => k_is)
    (case c16 => k_is)
    (case k16 => k_is)
    (case a17 => k_is)
    (case l17 => k_is)
    (case c17 => k_is)
    (case k17 => k_is)
    (case a18 => k_is)
    (case l18 => k_is)
    (case c18 => k_is)
    (case k18 => k_is)
    (case a19 => k_is)
    (case l19 => k_is)
    (case c19 => k_is)
    (case k19 => k_is)
    (case a20 => k_is)
    (case l20 => k_is)
    (case c20 => k_is)
    (case k20 => k_is)
    (case a21 => k_is)
    (case l21 => k_is)
    (case c21 => k_is)
    (case k21 => k_is)
    (case a22 => k_is)
    (case l22 => k_is)
    (case c22 => k_is)
    (case k22 => k_is)
    (case a23 => k_is)
    (case l23 => k_is)
    (case c23 => k_is)
    (case k23 => k_is)
    (case a24 => k_is)
    (case i24 => k_is)
    (case l24 => k_is)
    (case c24 => k_is)
    (case k24 => k_is)
    (case n24 => k_is)
    (case a25 => k_is)
    (case i25 => k_is)
    (case l25 => k_is)
    (case c25 => k_is)
    (case k25 => k_is)
    (case n25 => k_is)
    (case a26 => k_is)
    (case i26 => k_is)
    (case l26 => k_is)
    (case c26 => k_is)
    (case k26 => k_is)
    (case n26 => k_is)
    (case a27 => k_is)
    (case i27 => k_is)
    (case l27 => k_is)
    (case c27 => k_is)
    (case k27 => k_is)
    (case n27 => k_is)
    (case a28 => k_is)
    (case i28 => k_is)
    (case l28 => k_is)
    (case c28 => k_is)
    (case k28 => k_is)
    (case n28 => k_is)
    (case a29 => k_is)
    (case i29 => k_is)
    (case l29 => k_is)
    (case c29 => k_is)
    (case k29 => k_is)
    (case n29 => k_is)
    (case a30 => k_is)
    (case i30 => k_is)
    (case l30 => k_is)
    (case c30 => k_is)
    (case k30 => k_is)
    (case n30 => k_is)
    (case a31 => k_is)
    (case i31 => k_is)
    (case l31 => k_is)
    (case c31 => k_is)
    (case k31 => k_is)
    (case n31 => k_is)
    (case a32 => k_is)
    (case i32 => k_is)
    (case l32 => k_is)
    (case c32 => k_is)
    (case k32 => k_is)
    (case n32 => k_is)
    (case a33 => k_is)
    (case i33 => k_is)
    (case l33 => k_is)
    (case c33 => k_is)
    (case k33 => k_is)
    (case n33 => k_is)
    (case a34 => k_is)
    (case i34 => k_is)
    (case l34 => k_is)
    (case c34 => k_is)
    (case k34 => k_is)
    (case n34 => k_is)
    (case a35 => k_is)
    (case y35 => k_is)
    (case l35 => k_is)
    (case c35 => k_is)
    (case k35 => k_is)
    (case a36 => k_is)
    (case y36 => k_is)
    (case l36 => k_is)
    (case c36 => k_is)
    (case k36 => k_is)
    (case a37 => k_is)
    (case y37 => k_is)
    (case l37 => k_is)
    (case c37 => k_is)
    (case k37 => k_is)
    (case a38 => k_is)
    (case y38 => k_is)
    (case l38 => k_is)
    (case c38 => k_is)
    (case k38 => k_is)
    (case a39 => k_is)
    (case y39 => k_is)
    (case l39 => k_is)
    (case c39 => k_is)
    (case k39 => k_is)
    (case x_BadTable => k_is)
    (case s_BadTable => k_is)
    (case k_BadTable => k_is)
    (case hg_BadTable => k_is)
    (case hk_BadTable => k_is)
    (case ha_BadTable => k_is)
    (case n_BadTable_part => k_is)
    (case x_BadLetter => k_is)
    (case s_BadLetter => k_is)
    (case k_BadLetter => k_is)
    (case hg_BadLetter => k_is)
    (case hk_BadLetter => k_is)
    (case ha_BadLetter => k_is)
    (case n_BadLetter_value => k_is)
    (case x_BadCode => k_is)
    (case s_BadCode => k_is)
    (case k_BadCode => k_is)
    (case hg_BadCode => k_is)
    (case hk_BadCode => k_is)
    (case ha_BadCode => k_is)
    (case n_BadCode_value => k_is)
    (case x_Unread => k_is)
    (case s_Unread => k_is)
    (case k_Unread => k_is)
    (case hg_Unread => k_is)
    (case hk_Unread => k_is)
    (case ha_Unread => k_is)
    (case n_Unread_at => k_is)
    (case x_TooMany => k_is)
    (case s_TooMany => k_is)
    (case k_TooMany => k_is)
    (case hg_TooMany => k_is)
    (case hk_TooMany => k_is)
    (case ha_TooMany => k_is)
    (case n_TooMany_what => k_is)
    (case n_TooMany_most => k_is)
    (case eR => k_is)
    (case tyR => k_is)
    (case iR => k_is)
    (case rdR => k_is)
    (case gaR => k_is)
    (case vR => k_is)
    (case pgW => k_is)
    (case hdW => k_is)
    (case poW => k_is)
    (case saW => k_is)
    (case mkW => k_is)
    (case kcW => k_is)
    (case nnW => k_is)
    (case caW => k_is)
    (case cdW => k_is)
    (case nfW => k_is)
    (case kkW => first | kit_is | exact L2.kit_ty (by decide +kernel))
    (case pgR => k_is)
    (case hdR => k_is)
    (case poR => k_is)
    (case saR => k_is)
    (case mkR => k_is)
    (case kcR => k_is)
    (case nnR => k_is)
    (case caR => k_is)
    (case cdR => k_is)
    (case nfR => k_is)
    (case kkR => first | kit_is | exact L2.kit_ty (by decide +kernel))
    (case nfd => k_is)
    (case neR => k_is)
    (case ddR => first | kit_is | exact L2.kit_ty (by decide +kernel))
    (case tB => k_is)
    (case tC => k_is)
    (case vv0 => first | kit_is | exact L2.kit_ty (by decide +kernel))
    (case vv1 => first | kit_is | exact L2.kit_ty (by decide +kernel))
    (case vv2 => first | kit_is | exact L2.kit_ty (by decide +kernel))
    (case vv3 => first | kit_is | exact L2.kit_ty (by decide +kernel))
    (case vv4 => first | kit_is | exact L2.kit_ty (by decide +kernel))
    (case g1 => k_is)
    (case g2 => k_is)
    (case g3 => k_is)
    (case g4 => k_is)
    (case z_list => k_is)
    (case z_int => k_is)
    (case z_len => k_is)
    (case z_abs => k_is)
    (case z_range => k_is)
    (case z_dict => k_is)
    (case z_str => k_is)
    (case z_sorted => k_is)
    (case z_tuple => k_is)
    (case z_isinstance => k_is)
    (case z_iter => k_is)
    (case z_enumerate => k_is)
    (case z_repr => k_is)
    (case z_all => k_is)
    (case z_bool => k_is)
    (case z_ValueError => k_is)
    (case qc1 => k_is)
    (case qv1 => first | rfl | k_is)
    (case qa1 => first | rfl | k_is)
    (case qb1 => first | rfl | k_is)
    (case qe1 => first | rfl | k_is)
    (case qg1 => first | rfl | k_is)
    (case qn1 => first | rfl | k_is)
    (case qk1 => first | rfl | k_is)
    (case qc2 => k_is)
    (case qv2 => first | rfl | k_is)
    (case qa2 => first | rfl | k_is)
    (case qb2 => first | rfl | k_is)
    (case qe2 => first | rfl | k_is)
    (case qg2 => first | rfl | k_is)
    (case qn2 => first | rfl | k_is)
    (case qk2 => first | rfl | k_is)
    (case qc3 => k_is)
    (case qv3 => first | rfl | k_is)
    (case qa3 => first | rfl | k_is)
    (case qb3 => first | rfl | k_is)
    (case qe3 => first | rfl | k_is)
    (case qg3 => first | rfl | k_is)
    (case qn3 => first | rfl | k_is)
    (case qk3 => first | rfl | k_is)
    (case pp12 => first | rfl | k_is)
    (case pp13 => first | rfl | k_is)
    (case pp23 => first | rfl | k_is)
    (case nd => decide +kernel)

