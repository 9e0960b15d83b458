import PyProof.Rows.All
import Wide.All
import OpenK.AllK
import Wide.FinOn
import HandS.ForMost
import HandS.OwnEq
import HandS.Wide
import HandS.DictComp
import HandS.IsInst
import HandS.Codes
import HandS.Flow
import PyProof.ListStr
import PyProof.InstNe
import KE.KCallOwn
import KE.KOwnIter
import KE.KFmtOwn
import HandS.Style
import HandS.IterNext
import HandS.StrMore
import HandS.MakeKw
import HandS.IterVal
import HandS.More
import PyProof.DictUpdate
import HandS.RaiseMore
import HandS.Walk
import HandS.FStr
import HandS.ClsMeth
import HandS.MakeKwOnly
import HandS.ExcInit
import KE.GoesMore
import PySem.Challenge.RW_blindrepair_k15_rows_of_misreadings
import HandS.Defaults
import PyProof.P3Eq
import HandS.TryOnly
import HandS.Star
import HandS.WordsExc
import KE.KOpsOwn
import KE.KxText
import PyProof.Rows.StrReprJoin
import HandS.ExcValue
import HandS.ExcIs
import HandS.Lambda
import KE.KExcIs
import PyProof.InstEq
import HandS.Zip
import KE.GoesZip
import PyProof.Rows.StrMul
import KE.KEqDict
import KE.GoesEnum
import PyProof.CallFns
import PyProof.ReprRoads
import HandS.RaiseFrom
import PyProof.StrLawsRepr
import HandS.TupMul
import HandS.EndTab
import HandS.EndOwn
import KE.RegKIsAll
set_option Elab.async false
set_option linter.all false
set_option maxRecDepth 100000
set_option maxHeartbeats 4000000
/-! Rules of our own: the methods with two underscores of a text's own class, called by Python's signs; list(text). -/
namespace L2
open PySem PySem.Spec PyProof.Rows
section
variable {X : Cx} {n : Nat} {CX : CXT} {C f : Addr} {fd : FuncData} {ps : List Str} {sp : Sp} {E : XK}
/-- a def that is called from within a built-in -/
theorem run_own {A : Around} {pins : List (Addr × Obj)} {σ : St} {H : Hp} {s : Shared} {Q : VK} {us : List Value} {vs : List V} (sb : Sub X n A) (F : FnOk X.prog X.w X.K X.mg X.base CX n f fd ps sp) (hb : Binds X.K fd ps []) (hx : Passes CX X E)
    (I : Inv X pins σ H s) (r : Vals vs us) (h : sp vs H Q E) : wpAny (model X.prog X.w) A (call (.ref f) us) (EP X pins σ Q) X.xe s := by
  have e0 : Env0 X.prog X.w X.K X.mg X.base A X.stack s H := by
    have e := I.env0
    exact ⟨by rw [sb.fr]; exact e.frames, e.mod, e.bs, e.bsz, e.funs, e.frf, e.hok, e.bare⟩
  have hl := F.len _ _ _ _ h
  have hl2 : us.length = ps.length := by rw [← r.length]; exact hl
  refine wpAny_call (codeAny_mono (F.run A X.stack s H ⟨us, []⟩ us vs Q E sb.room e0 (by
    have := hb s us I.kIn (by simpa using hl2)
    simpa using this) r h) fun r s' hq => ?_)
  cases r with
  | error e => exact hx pins σ H s e s' I hq
  | ok fl =>
    cases fl with
    | ret w => exact I.after hq
    | next => exact False.elim hq
    | brk => exact False.elim hq
    | cont => exact False.elim hq
/-- the instance that H tells, for the library's rules -/
theorem inst_at {pins : List (Addr × Obj)} {σ : St} {H : Hp} {s : Shared} {a dx : Addr} {fs : List (Str × V)} (I : Inv X pins σ H s) (ha : H a = some (.ins C dx fs)) : ∃ od, PySem.W.InstAt s.heap a (PySem.W.instObj C dx) C od := by
  obtain ⟨mA, J, _⟩ := ins_get I.hok ha
  obtain ⟨od, J, _⟩ := J.look
  exact ⟨od, J⟩
/-- where one stands in a built-in, once or twice deeper -/
theorem Sub.here (hr : Room n X.A) : Sub X n X.A := ⟨hr, rfl⟩
/-- the facts of a method that a sign calls -/
structure Own (K : PySem.W.Frag) (C : Addr) (m : Str) (f : Addr) : Prop where
  find : PySem.W.findIn K (.ref C) m = some (some (.ref f))
  fn : PySem.W.isFn K (.ref f) = true
/-- list(text) -/
theorem call_listS (hc : X.calm = true) : CallR X (.type "list") (fun xs H Q => ∃ z, xs = [.str z] ∧ z.length ≤ sizeLine ∧ ∀ l, H l = none → Q (.ref l) (upd H l (.lst (z.cps.toList.map fun c => V.str ⟨#[c]⟩)))) := by
  intro pins s σ H xs us Q I r h
  obtain ⟨z, rfl, hz, q⟩ := h
  obtain ⟨u, rfl, t, rfl⟩ := vals1 r
  refine call_list_str (I.ok.hd hc) z t (fun h' tk acc c' kp e it => ?_) hz
  have rv : ∀ (xs : List Nat) (acc : List Value), acc.length = xs.length → (∀ (j : Nat) (v : Value), acc[j]? = some v → ∃ (c : Nat) (u : Tok), xs[j]? = some c ∧ v = Value.str ⟨#[c]⟩ u) → Vals (xs.map fun c => V.str ⟨#[c]⟩) acc := by
    intro xs
    induction xs with
    | nil =>
      intro acc hl _
      cases acc with
      | nil => exact .nil
      | cons a r => cases hl
    | cons x xs ih =>
      intro acc hl hi
      cases acc with
      | nil => cases hl
      | cons a r =>
        obtain ⟨c, u, e1, e2⟩ := hi 0 a rfl
        have e1' : x = c := by simpa using e1
        subst e1'
        exact .cons ⟨u, e2⟩ (ih r (by simpa using hl) fun j v hj => by
          obtain ⟨c, u, e1, e2⟩ := hi (j + 1) v (by simpa using hj)
          exact ⟨c, u, by simpa using e1, e2⟩)
  have R : Vals (z.cps.toList.map fun c => V.str ⟨#[c]⟩) acc.toList := rv _ _ (by rw [Array.length_toList, it.1, Array.length_toList]) fun j v hj => by
    obtain ⟨c, u, e1, e2⟩ := it.2 j v (by rw [← Array.getElem?_toList]; exact hj)
    exact ⟨c, u, by rw [Array.getElem?_toList]; exact e1, e2⟩
  refine ⟨.ref s.heap.objs.size, _, I.laid (t' := tk) kp (Nat.le_refl _) (show ObjOk X.prog X.w _ h' _ (.lst _) from ⟨?_, acc.toList, c', R, by rw [Array.toArray_toList]; exact e⟩), rfl, q _ (I.hok.fresh (Nat.le_refl _))⟩
  rw [List.length_map, Array.length_toList]
  exact hz
/-- len(o) by an own __len__ -/
theorem call_lenOwn (F : FnOk X.prog X.w X.K X.mg X.base CX n f fd ps sp) (hb : Binds X.K fd ps []) (hx : Passes CX X E) (o : Own X.K C "__len__" f) (hr : Room (n + 1) X.A) :
    CallR X (.builtin "len") (fun xs H Q => ∃ a dx fs, xs = [.ref a] ∧ H a = some (.ins C dx fs) ∧ sp [.ref a] H (fun v H' => ∃ k : Nat, v = .int k ∧ k ≤ sizeLine ∧ Q (.int k) H') E) := by
  intro pins s σ H xs us Q I r h
  obtain ⟨a, dx, fs, rfl, ha, hs⟩ := h
  obtain ⟨u, rfl, rx⟩ := vals1 r
  cases rx
  obtain ⟨od, J⟩ := inst_at I ha
  obtain ⟨m, hF⟩ := I.fr
  refine PySem.W.len_K hF I.ok.mod.kin J o.find o.fn (thn (run_own (Sub.here hr).in1 F hb hx I (show Vals [V.ref a] [Value.ref a] from .cons rfl .nil) hs) fun v s' q => ?_)
  obtain ⟨y, H', I', ry, k, rfl, hk, q⟩ := q
  obtain ⟨t, rfl⟩ := ry
  have h63 := line63
  exact ⟨⟨by omega, by omega⟩, .int k, H', I'.tok _, ⟨_, rfl⟩, q⟩
/-- v in o, v not in o by an own __contains__ that gives True or False -/
theorem op_inOwn (F : FnOk X.prog X.w X.K X.mg X.base CX n f fd ps sp) (hb : Binds X.K fd ps []) (hx : Passes CX X E) (o : Own X.K C "__contains__" f) (hr : Room n X.A) :
    OpR X (compareOp .In) (fun x y H Q => ∃ a dx fs, y = .ref a ∧ H a = some (.ins C dx fs) ∧ sp [.ref a, x] H (fun v H' => ∃ b, v = .bl b ∧ Q (.bl b) H') E) := by
  intro pins s σ H x y v u Q I rx ry h
  obtain ⟨a, dx, fs, rfl, ha, hs⟩ := h
  cases ry
  obtain ⟨od, J⟩ := inst_at I ha
  obtain ⟨m, hF⟩ := I.fr
  refine PySem.W.in_K hF I.ok.mod.kin J o.find o.fn (thn (run_own (Sub.here hr) F hb hx I (show Vals [V.ref a, x] [Value.ref a, v] from .cons rfl (.cons rx .nil)) hs) fun v s' q => ?_)
  obtain ⟨y, H', I', ry, b, rfl, q⟩ := q
  cases ry
  exact wpAny_truthy_bool ⟨.bl b, H', I', rfl, q⟩
theorem op_notInOwn (F : FnOk X.prog X.w X.K X.mg X.base CX n f fd ps sp) (hb : Binds X.K fd ps []) (hx : Passes CX X E) (o : Own X.K C "__contains__" f) (hr : Room n X.A) :
    OpR X (compareOp .NotIn) (fun x y H Q => ∃ a dx fs, y = .ref a ∧ H a = some (.ins C dx fs) ∧ sp [.ref a, x] H (fun v H' => ∃ b, v = .bl b ∧ Q (.bl (!b)) H') E) := by
  intro pins s σ H x y v u Q I rx ry h
  obtain ⟨a, dx, fs, rfl, ha, hs⟩ := h
  cases ry
  obtain ⟨od, J⟩ := inst_at I ha
  obtain ⟨m, hF⟩ := I.fr
  refine PySem.W.notIn_K hF I.ok.mod.kin J o.find o.fn (thn (run_own (Sub.here hr) F hb hx I (show Vals [V.ref a, x] [Value.ref a, v] from .cons rfl (.cons rx .nil)) hs) fun v s' q => ?_)
  obtain ⟨y, H', I', ry, b, rfl, q⟩ := q
  cases ry
  exact wpAny_truthy_bool ⟨.bl (!b), H', I', rfl, q⟩
/-- o[k] by an own __getitem__ -/
theorem pe_ixOwn {a b : Expr} {ta tb : TE} {pos : Pos} (F : FnOk X.prog X.w X.K X.mg X.base CX n f fd ps sp) (hb : Binds X.K fd ps []) (hx : Passes CX X E) (o : Own X.K C "__getitem__" f) (hf : PySem.W.fnIn X.K f = true) (hr : Room (n + 1) X.A) (hA : PE X a ta) (hB : PE X b tb)
    (hsl : ∀ v u, subscripted b true v u = runValue (.builtin "lifetime.subscript" ⟨[v, u], []⟩) := by intro _ _; rfl) :
    PE X (.Subscript a b pos) (tOp (fun x y H Q => ∃ a dx fs, x = .ref a ∧ H a = some (.ins C dx fs) ∧ sp [.ref a, y] H Q E) ta tb) := by
  refine ⟨fun pins s σ H Q I h => ?_⟩
  refine Subscript_ (binT hA hB I h fun v u s2 x y H2 I2 rx ry q => ?_)
  obtain ⟨a, dx, fs, rfl, ha, hs⟩ := q
  cases rx
  obtain ⟨od, J⟩ := inst_at I2 ha
  obtain ⟨m, hF⟩ := I2.fr
  exact PySem.W.sub_K hF I2.ok.mod.kin J o.find hf o.fn (run_own (Sub.here hr).in1 F hb hx I2 (show Vals [V.ref a, y] [Value.ref a, u] from .cons rfl (.cons ry .nil)) hs) (hsl _ _)
/-- str(o) by an own __str__ -/
theorem call_strOwn (F : FnOk X.prog X.w X.K X.mg X.base CX n f fd ps sp) (hb : Binds X.K fd ps []) (hx : Passes CX X E) (o : Own X.K C "__str__" f) (hr : Room (n + 2) X.A) :
    CallR X (.type "str") (fun xs H Q => ∃ a dx fs, xs = [.ref a] ∧ H a = some (.ins C dx fs) ∧ sp [.ref a] H (fun v H' => ∃ z, v = .str z ∧ Q (.str z) H') E) := by
  intro pins s σ H xs us Q I r h
  obtain ⟨a, dx, fs, rfl, ha, hs⟩ := h
  obtain ⟨u, rfl, rx⟩ := vals1 r
  cases rx
  obtain ⟨od, J⟩ := inst_at I ha
  have sb : Sub X n X.A.in1.in1 := (Sub.in1 (Sub.in1 (Sub.here hr)))
  refine PySem.W.kso_call sb.room.units0 I.kIn J o.find o.fn (thn (run_own sb F hb hx I (show Vals [V.ref a] [Value.ref a] from .cons rfl .nil) hs) fun v s' q => ?_)
  obtain ⟨y, H', I', ry, z, rfl, q⟩ := q
  obtain ⟨t, rfl⟩ := ry
  exact ⟨.str z, H', I', ⟨_, rfl⟩, q⟩
end
end L2

set_option Elab.async false
set_option linter.all false
set_option maxRecDepth 100000
set_option maxHeartbeats 4000000
/-! == and != by an own __eq__ that gives True or False. -/
namespace PySem.W
open PySem PySem.Calls PyProof.Rows Builtin
section
variable {prog : Program} {w : World} {A : Around} {E : Value → Shared → Prop} {s : Shared} {K : Frag} {x C L f : Addr} {h₀ : Heap} {m : Str → Option Value} {ox : Obj} {od : Option Obj} {b tb : Value}
theorem ifBoundB_K {M : Model} {name : Str} {id : String} {args : List Value} {Q : Option Value → Shared → Prop} (X : K.In s.heap) (I : InstAt s.heap x ox C od) (hs : findIn K (.ref C) name = some (some (.builtin id)))
    (hb : ∀ self, bindSpecial (.builtin id) self = pure (.builtin id, [self]))
    (h : wpAny M A (call (.builtin id) (.ref x :: args)) (fun v => Q (some v)) E s) : wpAny M A (callSpecialIfBound? (.ref x) name args) Q E s := by
  simp only [callSpecialIfBound?, bindSpecialIfBound?]
  refine wpAny_holding (wpAny_bind (wpAny_bind (wpAny_bind (I.type.here ((looks_findIn X hs).here ?_)))))
  simp only [hb]
  refine wpAny_bind (wpAny_askSetting (wpAny_ite ?_))
  have fin : wpAny M A (call (.builtin id) ([.ref x] ++ args) >>= fun v => pure (some v)) Q E s := wpAny_bind (wpAny_mono h (fun v s' h' => wpAny_pure h') fun _ _ h' => h')
  split
  · exact wpAny_bind (wpAny_pure (wpAny_pure (by exact fin)))
  · exact wpAny_tryCatch (wpAny_bind (wpAny_pure (wpAny_pure (by exact fin))))
theorem neO_K {Q : Value → Shared → Prop} (hu : A.in1.units < cLine) (X : K.In s.heap) (I : InstAt s.heap x ox C od) (hm : mroIn K C (.type "object") = some true) (hs : findIn K (.ref C) "__eq__" = some (some (.ref f))) (hf : isFn K (.ref f) = true)
    (h : wpAny (model prog w) A.in1 (call (.ref f) [.ref x, b]) (fun v s' => ∃ r, v = .bool r ∧ Q (.bool (!r)) s') E s) : wpAny (model prog w) A (call (.builtin "object.__ne__") [.ref x, b]) Q E s := by
  refine wpAny_call (codeAny_call_builtin F.cmp_object.ne.plain F.cmpEntry_ne (check_slot (i := "object.__ne__") (owner := "object") (n := "__ne__") F.cmpKind_ne F.cmpSplit_ne (I.type.andThen (looks_mroIn X hm)) (F.cmpArgs_ne _ _) ?_))
  unfold Builtin.«object.__ne__»
  refine wpAny_bind (m := slotArgs "__ne__" 1 _) (wpAny_pure ?_)
  refine wpAny_bind (m := cRoomFor _ _) (wpAny_cRoomFor hu ?_)
  refine wpAny_bind (m := callSpecialIfBound? (.ref x) (Str.ofString "__eq__") _) (ifBound_K X I hs hf (wpAny_mono h (fun r s' hq => ?_) fun _ _ y => y))
  obtain ⟨r, rfl, hq⟩ := hq
  exact wpAny_bind (wpAny_truthy_bool (wpAny_pure hq))
theorem neq_K {Q : Value → Shared → Prop} (hu : A.in1.units < cLine) (hu0 : A.units < cLine) (F : Fr h₀ L s.heap m) (X₀ : K.In h₀) (I : InstAt s.heap x ox C od) (hb : Looks (model prog w) s.heap (typeOf b) tb) (hn : notFirst K C tb = true)
    (hne : findIn K (.ref C) "__ne__" = some (some (.builtin "object.__ne__"))) (hm : mroIn K C (.type "object") = some true) (hs : findIn K (.ref C) "__eq__" = some (some (.ref f))) (hf : isFn K (.ref f) = true)
    (h : wpAny (model prog w) A.in1 (call (.ref f) [.ref x, b]) (fun v s' => ∃ r, v = .bool r ∧ Q (.bool (!r)) s') E s) : wpAny (model prog w) A (richCompare .NotEq (.ref x) b) Q E s := by
  have X := X₀.keeps F.keep
  have one : wpAny (model prog w) A (tryCompare (.ref x) (cmpInfo .NotEq).2.1 b) (fun r s' => ∃ v, r = some v ∧ Q v s') E s := by
    unfold tryCompare
    refine wpAny_bind (ifBoundB_K X I (by exact hne) PySem.F.cmp_object.ne.bind ?_)
    refine wpAny_mono (neO_K (Q := fun v s' => ∃ r, v = .bool r ∧ Q (.bool r) s') hu X I hm hs hf (wpAny_mono h (fun v s' hv => ?_) fun _ _ e => e)) (fun v s' hv => ?_) fun _ _ e => e
    · obtain ⟨r, rfl, hq⟩ := hv
      exact ⟨r, rfl, !r, rfl, hq⟩
    · obtain ⟨r, rfl, hq⟩ := hv
      exact wpAny_pure ⟨_, rfl, hq⟩
  unfold richCompare
  simp only [oneThing_ref]
  refine wpAny_holding (wpAny_bind (wpAny_cRoomFor hu0 ?_))
  refine wpAny_bind (I.type.here (wpAny_bind (hb.here ?_)))
  split
  · rename_i q
    have e : subIn K tb (.ref C) = some false := by
      rcases Bool.or_eq_true_iff.mp hn with e | e
      · rw [beq_iff_eq.mp e] at q; simp at q
      · exact beq_iff_eq.mp e
    refine wpAny_bind ((looks_subIn X e).here ?_)
    simp only [Bool.false_eq_true, if_false]
    refine wpAny_bind (wpAny_mono one (fun r s' z => ?_) fun _ _ e => e)
    obtain ⟨v, rfl, hq⟩ := z
    exact wpAny_pure hq
  · refine wpAny_bind (wpAny_pure ?_)
    simp only [Bool.false_eq_true, if_false]
    refine wpAny_bind (wpAny_mono one (fun r s' z => ?_) fun _ _ e => e)
    obtain ⟨v, rfl, hq⟩ := z
    exact wpAny_pure hq
end
end PySem.W
namespace L2
open PySem PySem.Spec PyProof.Rows
section
variable {X : Cx} {n : Nat} {CX : CXT} {C f : Addr} {fd : FuncData} {ps : List Str} {sp : Sp} {E : XK}
def rEqOwn (K : PySem.W.Frag) (C : Addr) (sp : Sp) (E : XK) (g : Bool → Bool) : R2 := fun x y H Q => ∃ a dx fs tb, x = .ref a ∧ H a = some (.ins C dx fs) ∧ TyX K H y tb ∧ PySem.W.notFirst K C tb = true ∧ sp [.ref a, y] H (fun v H' => ∃ b, v = .bl b ∧ Q (.bl (g b)) H') E
theorem op_eqOwn (F : FnOk X.prog X.w X.K X.mg X.base CX n f fd ps sp) (hb : Binds X.K fd ps []) (hx : Passes CX X E) (o : Own X.K C "__eq__" f) (hr : Room n X.A) : OpR X (compareOp .Eq) (rEqOwn X.K C sp E id) := by
  intro pins s σ H x y v u Q I rx ry h
  obtain ⟨a, dx, fs, tb, rfl, ha, ty, hn, hs⟩ := h
  cases rx
  obtain ⟨od, J⟩ := inst_at I ha
  obtain ⟨m, hF⟩ := I.fr
  obtain ⟨P, Z, p, _⟩ := kit_of I ry ty
  refine PySem.W.cmp_K (op := .Eq) hr.units0 hF I.ok.mod.kin J (Z.ty _ _ I.kIn p) hn o.find o.fn (thn (run_own (Sub.here hr) F hb hx I (show Vals [V.ref a, y] [Value.ref a, u] from .cons rfl (.cons ry .nil)) hs) fun v s' q => ?_)
  obtain ⟨y, H', I', ry, b, rfl, q⟩ := q
  cases ry
  exact ⟨.bl b, H', I', rfl, q⟩
theorem op_neOwn (F : FnOk X.prog X.w X.K X.mg X.base CX n f fd ps sp) (hb : Binds X.K fd ps []) (hx : Passes CX X E) (o : Own X.K C "__eq__" f) (hne : PySem.W.findIn X.K (.ref C) "__ne__" = some (some (.builtin "object.__ne__")))
    (hm : PySem.W.mroIn X.K C (.type "object") = some true) (hr : Room (n + 1) X.A) : OpR X (compareOp .NotEq) (rEqOwn X.K C sp E not) := by
  intro pins s σ H x y v u Q I rx ry h
  obtain ⟨a, dx, fs, tb, rfl, ha, ty, hn, hs⟩ := h
  cases rx
  obtain ⟨od, J⟩ := inst_at I ha
  obtain ⟨m, hF⟩ := I.fr
  obtain ⟨P, Z, p, _⟩ := kit_of I ry ty
  refine PySem.W.neq_K hr.in1.units0 hr.units0 hF I.ok.mod.kin J (Z.ty _ _ I.kIn p) hn hne hm o.find o.fn (thn (run_own (Sub.here hr).in1 F hb hx I (show Vals [V.ref a, y] [Value.ref a, u] from .cons rfl (.cons ry .nil)) hs) fun v s' q => ?_)
  obtain ⟨y, H', I', ry, b, rfl, q⟩ := q
  cases ry
  exact ⟨b, rfl, .bl (!b), H', I', rfl, q⟩
end
end L2

set_option Elab.async false
set_option linter.all false
set_option maxRecDepth 100000
set_option maxHeartbeats 4000000
/-! for x in o, by an own __iter__ that gives iter(a tuple). -/
namespace L2
open PySem PySem.Spec PyProof.Rows ItX
abbrev itTObj (l : Addr) : Obj := { cls := .type "tuple_iterator", data := .fields #[.ref l, .int 0 0] }
/-- at it a fresh iterator of the tuple at l -/
def ItT (l it : Addr) : HO := .ext fun h => h.get? it = some (itTObj l)
theorem itT_ok {P : Program} {w : World} {H : Hp} {h : Heap} {l it : Addr} (e : h.get? it = some (itTObj l)) : ObjOk P w H h it (ItT l it) := ⟨e, ⟨_, e⟩, fun h1 h2 q k => k _ q⟩
theorem call_iterTup {prog : Program} {w : World} {A : Around} {E : Value → Shared → Prop} {s : Shared} {l : Addr} {items : Array Value} {Q : Value → Shared → Prop} (hl : s.heap.IsTuple l items) (h : Q (.ref s.heap.objs.size) { s with heap := s.heap.push (itTObj l) }) : wpAny (model prog w) A (call (.builtin "iter") [.ref l]) Q E s := by
  refine Calls.call_function_entry (by decide +kernel) (by decide +kernel) PySem.W.kdk_entry_iter (PySem.W.kdk_args_iter _) ?_
  unfold Builtin.«iter»
  refine wpAny_bind (m := someArgs "iter" 1 2 _) (wpAny_of_eq (a := [Value.ref l]) (by first | rfl | kernel_rfl!) ?_)
  show wpAny _ _ (pyIter (.ref l) >>= _) _ _ _
  refine wpAny_bind (wpAny_pyIter_tuple hl ?_)
  exact wpAny_pure ⟨_, rfl, h⟩
section
variable {X : Cx}
theorem call_iterT : CallR X (.builtin "iter") (fun xs H Q => ∃ (l : Addr) (zs : List V), xs = [.ref l] ∧ SqT X.K H l zs ∧ ∀ it, H it = none → X.s_0.heap.objs.size ≤ it → Q (.ref it) (upd H it (ItT l it))) := by
  intro pins s σ H xs us Q I r h
  obtain ⟨l, zs, rfl, hq, q⟩ := h
  obtain rfl := Vals.ref1 r
  obtain ⟨its, rv, pl, hz⟩ := I.tuple hq
  refine call_iterTup (show s.heap.IsTuple l its.toArray from pl) ?_
  exact ⟨.ref s.heap.objs.size, _, I.laid (t' := s.toks) (fun b u e => Heap.get?_push_of_some _ e) (Nat.le_refl _) (itT_ok (Heap.get?_push_size _ rfl)), rfl, q _ (I.hok.fresh (Nat.le_refl _)) I.sz⟩
variable {n : Nat} {CX : CXT} {C f : Addr} {fd : FuncData} {ps : List Str} {sp : Sp} {E : XK}
/-- a def whose promise may speak of how many objects stand at its entry -/
structure FnN (P : Program) (w : World) (K : PySem.W.Frag) (mg : Str → Option Value) (base : Heap) (CX : CXT) (k : Nat) (f : Addr) (fd : FuncData) (ps : List Str) (sn : Nat → Sp) : Prop where
  many : ∀ m vs H Q E, sn m vs H Q E → vs.length = ps.length
  goes : ∀ (A : Around) (outer : List Env) (s : Shared) (H : Hp) (args : Args) (us : List Value) (vs : List V) (Q : VK) (E : XK), Room k A → Env0 P w K mg base A outer s H → BindsTo s fd args (ps.zip us) → Vals vs us →
    sn s.heap.objs.size vs H Q E → codeAny (model P w) A (.call (.ref f) args) (CR CX outer P w H s Q E) s
theorem fnN_mk {CX : CXT} {P : Program} {w : World} {K : PySem.W.Frag} {mg : Str → Option Value} {base : Heap} {k : Nat} {f : Addr} {x qual : Str} {st : Stmt} {fd : FuncData} {N ps : List Str} {sn : Nat → Sp}
    (F : Fun K x qual st f fd) (S : FnScope N ps (defScope st)) (many : ∀ m vs H Q E, sn m vs H Q E → vs.length = ps.length)
    (body : ∀ (cdv : Value) (A : Around) (outer : List Env) (s : Shared) (H : Hp) (vs : List V) (Q : VK) (E : XK), Room k (A.deeper (envOfC qual (defScope st) s.heap.objs.size f cdv)) → sn s.heap.objs.size vs H Q E →
      ∃ t, PSs (cxOf CX P w K mg base N qual (defScope st) f cdv A outer s H E) (defBody st) t ∧ t { nx := fun _ H' => Q .non H', rt := Q } (start N vs) H) : FnN P w K mg base CX (k + 1) f fd ps sn := by
  obtain ⟨oc, od, kV, doc, pm, an, cdv, ct, osl, rfl, lk, hcd⟩ := F.ex
  refine ⟨many, fun A₁ out s₁ H₁ ar us₁ vs₁ Q₁ E₁ room ev bd rel prom => ?_⟩
  have len₁ := many _ _ _ _ _ prom
  have kin₁ : K.In s₁.heap := ev.mod.kin.keeps (fun a o z => (ev.bs a o z).left)
  have kinds : ∀ y ∈ ps.zip us₁, (defScope st).names.lookup y.1 = some .local ∨ ((defScope st).names.lookup y.1 = some .cell ∧ ((cellsFrom (s₁.heap.objs.size + 1) (defScope st).names []).lookup y.1).isSome = true) := by
    rintro ⟨nm, vl⟩ mem
    rcases S.par nm (List.of_mem_zip mem).1 with z | z
    · exact Or.inl z
    · exact Or.inr ⟨z, PySem.W.cellsFrom_some _ _ _ (Or.inl z)⟩
  refine codeAny_call_function room.depth (kin₁ _ _ lk) rfl S.co S.gen rfl (PySem.W.codeRec_of kin₁ hcd) (bd _ _ _ _ ?_)
  refine wpAny_newFunctionEnv_cells S.kind kinds (fun e₁ is₁ s₂ made => ?_)
  subst is₁
  refine ⟨Heap.NoLimit.keeps (ev.mod.nolimit.keeps fun a o z => (ev.bs a o z).left) made.toInCall.keep, codeAny_func ?_⟩
  obtain ⟨t₁, term, reads⟩ := body cdv A₁ out s₁ H₁ vs₁ Q₁ E₁ (room.deeper _) prom
  have inv₁ := inv_start (CX := CX) (P := P) (w := w) (mg := mg) (base := base) (E := E₁) S room.hd ev len₁ rel made
  refine wpAny_mono (term.run [] s₂ (start N vs₁) H₁ _ inv₁ reads) (fun flow s₃ done => ?_) (fun _ _ z => z)
  cases flow with
  | ret u₁ =>
    obtain ⟨v₁, _, H₂, J, rv, q⟩ := done
    exact ⟨v₁, H₂, J.os, J.bare, J.base, J.hok, rv, q⟩
  | next =>
    obtain ⟨_, H₂, J, q⟩ := done
    exact ⟨V.non, H₂, J.os, J.bare, J.base, J.hok, rfl, q⟩
  | brk => exact (done.elim fun _ z => z.elim fun _ z => z.2).elim
  | cont => exact (done.elim fun _ z => z.elim fun _ z => z.2).elim
variable {sn : Nat → Sp}
theorem run_N {A : Around} {pins : List (Addr × Obj)} {σ : St} {H : Hp} {s : Shared} {Q : VK} {us : List Value} {vs : List V} (sb : Sub X n A) (F : FnN X.prog X.w X.K X.mg X.base CX n f fd ps sn) (hb : Binds X.K fd ps []) (hx : Passes CX X E)
    (I : Inv X pins σ H s) (r : Vals vs us) (h : sn s.heap.objs.size vs H Q E) : wpAny (model X.prog X.w) A (call (.ref f) us) (EP X pins σ Q) X.xe s := by
  have e0 : Env0 X.prog X.w X.K X.mg X.base A X.stack s H := by
    have e := I.env0
    exact ⟨by rw [sb.fr]; exact e.frames, e.mod, e.bs, e.bsz, e.funs, e.frf, e.hok, e.bare⟩
  have hl := F.many _ _ _ _ _ h
  have hl2 : us.length = ps.length := by rw [← r.length]; exact hl
  refine wpAny_call (codeAny_mono (F.goes A X.stack s H ⟨us, []⟩ us vs Q E sb.room e0 (by
    have := hb s us I.kIn (by simpa using hl2)
    simpa using this) r h) fun r s' hq => ?_)
  cases r with
  | error e => exact hx pins σ H s e s' I hq
  | ok fl =>
    cases fl with
    | ret w => exact I.after hq
    | next => exact False.elim hq
    | brk => exact False.elim hq
    | cont => exact False.elim hq
def iOwn (K : PySem.W.Frag) (C : Addr) (m : Nat) (sn : Nat → Sp) (E : XK) (tl : TE) : TI := fun σ H R => tl σ H fun x H1 => ∃ a dx fs, x = .ref a ∧ H1 a = some (.ins C dx fs) ∧
  ∀ k, m ≤ k → sn k [.ref a] H1 (fun v H' => ∃ it t, v = .ref it ∧ k ≤ it ∧ H' it = some (ItT t it) ∧ R (Itt K t) (dropH H' it)) E
theorem pi_own {tg l : Expr} {tl : TE} (F : FnN X.prog X.w X.K X.mg X.base CX n f fd ps sn) (hb : Binds X.K fd ps []) (hx : Passes CX X E) (o : Own X.K C "__iter__" f) (hr : Room n X.A) (hl : PE X l tl) : PI X tg l (iOwn X.K C X.s_0.heap.objs.size sn E tl) := by
  refine ⟨fun pins s σ H R I h => ?_⟩
  refine thn (hl.run pins s σ H _ I h) fun v s1 ⟨x, H1, I1, r1, q1⟩ => ?_
  obtain ⟨a, dx, fs, rfl, ha, hs⟩ := q1
  cases r1
  obtain ⟨od, J⟩ := inst_at I1 ha
  obtain ⟨m, hF⟩ := I1.fr
  refine PySem.W.owit_iter hF I1.ok.mod.kin J o.find o.fn (thn (run_N (Sub.here hr) F hb hx I1 (show Vals [V.ref a] [Value.ref a] from .cons rfl .nil) (hs s1.heap.objs.size I1.sz)) fun v s' q => ?_)
  obtain ⟨y, H', I', ry, ⟨it, t, rfl, hn, hi, q⟩⟩ := q
  cases ry
  have hy := Nat.le_trans I1.sz hn
  have hit : s'.heap.get? it = some (itTObj t) := (I'.hok it _ hi).1
  unfold PySem.W.OwitIt
  refine wpAny_specialOf (T := "tuple_iterator") (v := .ref it) ⟨_, hit, rfl⟩ PySem.F.slot_tuple_iterator_next.lookup ?_
  refine ⟨it, [it], _, _, dropH H' it, rfl, inv_drop I' hi, turn_tuple t _, ⟨_, hit, rfl, rfl⟩, fun b hb => ?_, q⟩
  have e : b = it := by simpa using hb
  subst e
  exact inv_fp I' hi hy
end
end L2

set_option Elab.async false
set_option linter.all false
set_option maxRecDepth 100000
set_option maxHeartbeats 4000000
/-! {**a, **b}: two dicts of ints and texts, one behind the other, into a new one. -/
namespace PySem
open PyProof.Rows
section
variable {prog : Program} {w : World} {A : Around} {E : Value → Shared → Prop} {s : Shared} {K : Type} [DecidableEq K] {knd : KeyKind prog w K}
theorem put_pairs {a : Addr} {old : List (K × Value)} {c : K} {u v : Value} {R : Unit → Shared → Prop} (isC : knd.is c u = true) (D : s.heap.DictOf knd a old)
    (next : ∀ hp, hp.DictOf knd a (stored old c v) → Heap.SameBut a s.heap hp → R () { s with heap := hp }) (few : old.length ≤ sizeLine) :
    wpAny (model prog w) A (dictPut a (knd.hash c) u v) R E s := by
  obtain ⟨ob, es, ep, at_, exact_, dat, keyed, prs, uniq⟩ := D
  have szs : es.size ≤ sizeLine := by
    have l1 := prs.length
    have l2 : es.toList.length = es.size := by simp
    omega
  unfold dictPut
  refine wpAny_bind (wpAny_dictFind_of isC at_ dat keyed ?_)
  have same : (es.findIdx? fun e => knd.is c e.key) = old.findIdx? fun kv => decide (kv.1 = c) := by
    have z := prs.findIdx c
    obtain ⟨lst⟩ := es
    simpa using z
  cases found : es.findIdx? fun e => knd.is c e.key with
  | some j =>
    have there : (old.any fun kv => decide (kv.1 = c)) = true := any_of_findIdx_some (same ▸ found)
    refine wpAny_updateDict at_ dat (next _ ⟨_, _, ep, Heap.get?_update_self _ at_ (Obj.isFreed_of_dict (Obj.data_mapDict dat _)), exact_.mapDict _, Obj.data_mapDict dat _, keyed.modify _ _, ?_, ?_⟩ (Heap.SameBut.update ..))
    · have inList : (es.toList.findIdx? fun e => knd.is c e.key) = some j := by
        rw [← found]
        obtain ⟨lst⟩ := es
        simp
      have z := prs.modify uniq inList v
      rw [stored, if_pos there]
      obtain ⟨lst⟩ := es
      simpa using z
    · rw [stored, if_pos there, keys_map_store]
      exact uniq
  | none =>
    have notIn : c ∉ old.map (·.1) := not_mem_of_findIdx_none (same ▸ found)
    have gone : ¬ (old.any fun kv => decide (kv.1 = c)) = true := fun z => by
      obtain ⟨kv, mem, eq⟩ := List.any_eq_true.mp z
      exact notIn (List.mem_map.mpr ⟨kv, mem, of_decide_eq_true eq⟩)
    refine wpAny_updateDictKeys (hz := szs) at_ dat (next _ ⟨_, _, ep + 1, Heap.get?_update_self _ at_ (Obj.isFreed_of_dict (Obj.data_mapDictKeys dat _)), exact_.mapDictKeys _, Obj.data_mapDictKeys dat _, keyed.push isC _, ?_, ?_⟩ (Heap.SameBut.update ..))
    · have z := prs.append isC (knd.hash c) v
      rw [stored, if_neg gone]
      obtain ⟨lst⟩ := es
      simpa using z
    · rw [stored, if_neg gone, List.map_append]
      refine List.nodup_append.mpr ⟨uniq, by simp, fun x hx y hy => ?_⟩
      have ey : y = c := by simpa using hy
      intro exy
      exact notIn (by rw [← ey, ← exy]; exact hx)
end
section
variable {prog : Program} {w : World} {A : Around} {E : Value → Shared → Prop} {s : Shared}
open L2
theorem dict_sub : isSubtype (.type "dict") (.type "dict") = pure true := by rw [isSubtype_type]; kernel_rfl
theorem mergeMapping_mix {d o : Addr} {kvs more : List (Key × Value)} {Q : Unit → Shared → Prop} (hdo : d ≠ o) (hoS : (o == sysModules) = false)
    (hd : s.heap.DictOf (mixKind prog w) d kvs) (ho : s.heap.DictOf (mixKind prog w) o more)
    (hQ : ∀ h', h'.DictOf (mixKind prog w) d (merged kvs more) → Heap.SameBut d s.heap h' → Q () { s with heap := h' }) (hsz : kvs.length + more.length ≤ sizeLine) :
    wpAny (model prog w) A (mergeMapping d (.ref o) false) Q E s := by
  obtain ⟨oo, eso, epo, hoo, hco, hdo', hko, hpo, hno⟩ := id ho
  obtain ⟨od, esd, epd, hod, hcd, hdd, _⟩ := id hd
  have hlen : more.length = eso.size := by
    have z := hpo.length
    simpa using z.symm
  have loop : wpAny (model prog w) A (do
      let l ← dictEntries o
      let epoch ← dictEpoch o
      forIn (List.range l.size) PUnit.unit fun i (_ : PUnit) => (do
        let l' ← dictEntries o
        match l'[i]? with
          | some e => do
            holding [e.key, e.val] (dictPut d e.hash e.key e.val)
            let ep' ← dictEpoch o
            if (ep' != epoch) = true then do
                (unsupported "dict.changed-during-merge" : Sem PUnit)
                pure (ForInStep.yield PUnit.unit)
              else pure (ForInStep.yield PUnit.unit)
          | _ => do
            (unsupported "dict.changed-during-merge" : Sem PUnit)
            pure (ForInStep.yield PUnit.unit) : Sem (ForInStep PUnit))
      pure ()) Q E s := by
    refine wpAny_bind (wpAny_dictEntries hoo hdo' ?_)
    refine wpAny_bind (wpAny_dictEpoch hoo hdo' ?_)
    refine wpAny_bind ?_
    refine wpAny_forIn_list _ (fun left _ t => ∃ hp j, t = { s with heap := hp } ∧ left = (List.range eso.size).drop j ∧ j ≤ eso.size ∧ hp.DictOf (mixKind prog w) d (merged kvs (more.take j)) ∧ hp.get? o = some oo ∧ Heap.SameBut d s.heap hp) _ ?_ ?_ _ _
      ⟨s.heap, 0, rfl, by simp, Nat.zero_le _, by simpa [merged] using hd, hoo, Heap.SameBut.refl _ _⟩
    · rintro y left b t ⟨hp, j, rfl, hr, hj, hdj, hoj, hsb⟩
      have hlt : j < eso.size := by
        rcases Nat.lt_or_ge j eso.size with z | z
        · exact z
        · rw [List.drop_of_length_le (by rw [List.length_range]; exact z)] at hr
          cases hr
      have hd1 : (List.range eso.size).drop j = j :: (List.range eso.size).drop (j + 1) := by
        rw [List.drop_eq_getElem_cons (by rw [List.length_range]; exact hlt), List.getElem_range]
      rw [hd1] at hr
      obtain ⟨rfl, hleft⟩ : y = j ∧ left = (List.range eso.size).drop (j + 1) := by
        injection hr with z1 z2
        exact ⟨z1, z2⟩
      refine wpAny_bind (wpAny_dictEntries hoj hdo' ?_)
      rw [Array.getElem?_eq_getElem hlt]
      have hym : y < more.length := by rw [hlen]; exact hlt
      obtain ⟨isK, isV⟩ := hpo.get? (e := eso[y]) (by simp [hlt]) (List.getElem?_eq_getElem hym)
      obtain ⟨c, isC, isH⟩ := hko eso[y] (Array.getElem_mem hlt)
      have ec : c = more[y].1 := (mixKind prog w).inj _ _ _ isC isK
      show wpAny _ _ (holding [eso[y].key, eso[y].val] (dictPut d eso[y].hash eso[y].key eso[y].val) >>= _) _ _ _
      rw [isH, isV]
      have few : (merged kvs (more.take y)).length ≤ sizeLine := by
        have z1 := merged_length_le kvs (more.take y)
        have z2 : (more.take y).length ≤ more.length := by rw [List.length_take]; omega
        omega
      refine wpAny_bind (wpAny_holding (put_pairs isC hdj (fun hp2 hd2 hs2 => ?_) few))
      have ho2 : hp2.get? o = some oo := (hs2.2 o (Ne.symm hdo)).trans hoj
      refine wpAny_bind (wpAny_dictEpoch ho2 hdo' ?_)
      rw [if_neg (by simp)]
      refine wpAny_pure ⟨hp2, y + 1, rfl, hleft, hlt, ?_, ho2, hsb.trans hs2⟩
      rw [merged_take_succ kvs more y more[y] (List.getElem?_eq_getElem hym), ← ec]
      exact hd2
    · rintro b t ⟨hp, j, rfl, hr, hj, hdj, hoj, hsb⟩
      have hje : j = eso.size := by
        rcases Nat.lt_or_ge j eso.size with z | z
        · have e := congrArg List.length hr
          rw [List.length_drop, List.length_range] at e
          simp at e
          omega
        · exact Nat.le_antisymm hj z
      refine wpAny_pure (hQ hp ?_ hsb)
      rw [hje, ← hlen, List.take_length] at hdj
      exact hdj
  unfold mergeMapping
  refine wpAny_bind (wpAny_isInstance (T := "dict") (b := true) ho.typeIs dict_sub ?_)
  simp only [if_true]
  refine wpAny_bind (wpAny_specialOf (T := "dict") (v := .ref o) ho.typeIs PySem.F.slot_dict_iter.lookup (wpAny_bind (wpAny_pure ?_)))
  rw [show (some (Value.builtin "dict.__iter__") == some (Value.builtin "dict.__iter__")) = true from beq_self_eq_true _]
  dsimp only
  rw [if_neg (by rw [hoS]; exact Bool.false_ne_true)]
  refine wpAny_bind (wpAny_dictEntries hod hdd ?_)
  split
  · refine wpAny_bind (wpAny_dictEntries hoo hdo' ?_)
    refine wpAny_bind ?_
    rw [← Array.forIn_toList]
    refine wpAny_forIn_list _ (fun (left : List DictEntry) _ t => t = s ∧ ∀ e ∈ left, ∃ c : Key, keyIs c e.key = true) _ ?_ ?_ _ _ ⟨rfl, fun e he => ?_⟩
    · rintro e left b t ⟨rfl, all⟩
      obtain ⟨c, hc⟩ := all e List.mem_cons_self
      have more' : ∀ e ∈ left, ∃ c : Key, keyIs c e.key = true := fun e he => all e (List.mem_cons_of_mem _ he)
      rcases keyIs_shape hc with ⟨i, u, _, ek⟩ | ⟨z, u, _, ek⟩
      · rw [ek]
        exact wpAny_pure ⟨rfl, more'⟩
      · rw [ek]
        exact wpAny_pure ⟨rfl, more'⟩
    · rintro b t ⟨rfl, _⟩
      exact loop
    · obtain ⟨c, hc, _⟩ := hko e (by simpa using he)
      exact ⟨c, hc⟩
  · exact loop
end
end PySem

set_option Elab.async false
set_option linter.all false
set_option maxRecDepth 100000
set_option maxHeartbeats 4000000
namespace L2
open PySem PySem.Spec PyProof.Rows
/-- {**a, **b}: a new dict stands empty at p, the first one's pairs come into it, then the second one's -/
def tMerge2 (t1 t2 : TE) : TE := fun σ H Q => ∀ p, H p = none → t1 σ (upd H p (.dK [])) fun x H1 => ∃ a kvs, x = .ref a ∧ a ≠ p ∧ H1 p = some (.dK []) ∧ Rd H1 a (.dK kvs) ∧ kvs.length ≤ 1000 ∧
  t2 σ (upd H1 p (.dK (mergeK [] kvs))) fun y H2 => ∃ b acc more, y = .ref b ∧ b ≠ p ∧ H2 p = some (.dK acc) ∧ acc.length ≤ 1000 ∧ Rd H2 b (.dK more) ∧ more.length ≤ 1000 ∧ Q (.ref p) (upd H2 p (.dK (mergeK acc more)))
section
variable {X : Cx}
theorem merge_in {pins : List (Addr × Obj)} {σ : St} {H : Hp} {s : Shared} {p a : Addr} {acc kvs : List (Key × V)} {R : Unit → Shared → Prop} {E : Value → Shared → Prop} {A : Around} (I : Inv X pins σ H s) (ne : a ≠ p) (hp : H p = some (.dK acc)) (ha : Rd H a (.dK kvs))
    (l1 : acc.length ≤ 1000) (l2 : kvs.length ≤ 1000) (k : ∀ s', Inv X pins σ (upd H p (.dK (mergeK acc kvs))) s' → R () s') : wpAny (model X.prog X.w) A (mergeMapping p (.ref a) false) R E s := by
  obtain ⟨z, hd, vs, r, dd⟩ := dk_of I.hok hp
  obtain ⟨z2, hd2, ws, r2, dd2⟩ := dk_rd I.hok ha
  have e1 : vs.length = acc.length := (Paired.length r).symm
  have e2 : ws.length = kvs.length := (Paired.length r2).symm
  refine mergeMapping_mix (Ne.symm ne) hd2 dd dd2 (fun h' dd' sb => k _ ?_) (by rw [sizeLine_eq]; omega)
  have hz : (mergeK acc kvs).length ≤ sizeLine := by
    have h1 := length_mergeK kvs acc
    rw [sizeLine_eq]; omega
  have he : ∃ q, h'.get? p = some q := let ⟨q, _, _, hq, _⟩ := dd'; ⟨q, hq⟩
  exact d_write I (by rw [hp]; exact True.intro) sb he (dk_new hz hd (r2.merge r) dd')
theorem pe_merge2 {e1 e2 : Expr} {t1 t2 : TE} {pos : Pos} (h1 : PE X e1 t1) (h2 : PE X e2 t2) : PE X (.Dict [none, none] [e1, e2] pos) (tMerge2 t1 t2) := by
  refine ⟨fun pins s σ H Q I q => ?_⟩
  have hn := I.hok.fresh (Nat.le_refl s.heap.objs.size)
  have I1 := I.laid (a := s.heap.objs.size) (o := .dK []) (h' := s.heap.push { cls := .type "dict", data := .dict #[] }) (t' := s.toks) (fun _ _ q => Heap.get?_push_of_some _ q) (Nat.le_refl _) (dk_empty s.heap I.big)
  rw [arm_eval_Dict]
  refine wpAny_bind (wpAny_standAt ?_)
  show wpAny _ _ (dictDisplay [(none, do let x ← eval e1 X.env; standAt pos; pure x), (none, do let x ← eval e2 X.env; standAt pos; pure x)]) _ _ _
  unfold dictDisplay
  simp only [List.forIn_cons, List.forIn_nil, List.isEmpty_nil, if_true]
  refine wpAny_bind (wpAny_bind (wpAny_bind (wpAny_pure ?_)))
  dsimp only
  refine wpAny_bind (wpAny_alloc ?_)
  refine wpAny_bind (wpAny_holding (wpAny_bind (thn (h1.run pins _ σ _ _ I1 (q _ hn)) fun u s1 ⟨x, H1, I2, r1, a, kvs, ex, ne, e0, ra, l1, q1⟩ => ?_)))
  subst ex
  cases r1
  refine wpAny_bind (wpAny_standAt (wpAny_pure ?_))
  refine wpAny_bind (wpAny_onRaise (wpAny_tryCatch (wpAny_onRaise (wpAny_holding (merge_in I2 ne e0 ra (by simp) l1 fun s2 I3 => ?_)))))
  refine wpAny_pure ?_
  dsimp only
  simp only [List.isEmpty_nil, if_true]
  refine wpAny_bind (wpAny_bind (wpAny_pure ?_))
  dsimp only
  refine wpAny_bind (wpAny_pure ?_)
  refine wpAny_bind (wpAny_holding (wpAny_bind (thn (h2.run pins _ σ _ _ I3 q1) fun u s3 ⟨y, H2, I4, r2, b, acc, more, ey, ne2, e1', l2, rb, l3, q2⟩ => ?_)))
  subst ey
  cases r2
  refine wpAny_bind (wpAny_standAt (wpAny_pure ?_))
  refine wpAny_bind (wpAny_onRaise (wpAny_tryCatch (wpAny_onRaise (wpAny_holding (merge_in I4 ne2 e1' rb l2 l3 fun s4 I5 => ?_)))))
  refine wpAny_pure ?_
  dsimp only
  refine wpAny_pure ?_
  simp only [List.isEmpty_nil, if_true]
  refine wpAny_bind (wpAny_pure ?_)
  dsimp only
  exact wpAny_pure ⟨.ref _, _, I5, rfl, q2⟩
end
end L2

set_option Elab.async false
set_option linter.all false
set_option maxRecDepth 100000
set_option maxHeartbeats 4000000
namespace L2
open PySem PySem.Spec PyProof.Rows
/-- a def of the text, by its name, without defaults -/
structure Df (P : Program) (w : World) (K : PySem.W.Frag) (mg : Str → Option Value) (base : Heap) (k : Nat) (x : Str) (sp : Sp) : Prop where
  ex : ∃ (f : Addr) (fd : FuncData) (ps : List Str), FnOk P w K mg base CX0 k f fd ps sp ∧ mg x = some (.ref f) ∧ PySem.W.keepIn K (.ref f) = true ∧ Binds K fd ps []
/-- a method of the text's own, by its address -/
structure Mf (P : Program) (w : World) (K : PySem.W.Frag) (mg : Str → Option Value) (base : Heap) (k : Nat) (C : Addr) (m : Str) (sp : Sp) : Prop where
  ex : ∃ (f : Addr) (fd : FuncData) (ps : List Str), FnOk P w K mg base CX0 k f fd ps sp ∧ Meth K C m f ∧ Own K C m f ∧ PySem.W.fnIn K f = true ∧ Binds K fd ps []
section
variable {X : Cx} {k j : Nat} {C : Addr} {x m : Str} {sp : Sp} {p pos apos : Pos} {e o : Expr} {es : List Expr} {ta tb : TE} {t : TA}
theorem pe_c (c : Df X.prog X.w X.K X.mg X.base k x sp) (hr : Room j X.A) (hk : k ≤ j) (hg : Gl X x) (ha : PA X (e :: es) t)
    (hdb : (x == ("__debug__" : Str)) = false := by decide) (he : starEach (e :: es) X.env = (false, eval e X.env) :: starEach es X.env := by rfl) (hpl : (backTo pos (starEach es X.env)).any (·.1) = false := by rfl) :
    PE X (.Call (.Name x p) (e :: es) [] pos) (tCall sp [] E0 t) := by
  obtain ⟨f, fd, ps, F, hm, kp, b⟩ := c.ex
  exact pe_call F (hr.mono hk) hg hm kp b .nil pass0 ha hdb he hpl
theorem op_inO (c : Mf X.prog X.w X.K X.mg X.base k C "__contains__" sp) (hr : Room j X.A) (hk : k ≤ j) :
    OpR X (compareOp .In) (fun x y H Q => ∃ a dx fs, y = .ref a ∧ H a = some (.ins C dx fs) ∧ sp [.ref a, x] H (fun v H' => ∃ b, v = .bl b ∧ Q (.bl b) H') E0) := by
  obtain ⟨f, fd, ps, F, _, o, _, b⟩ := c.ex
  exact op_inOwn F b pass0 o (hr.mono hk)
theorem op_notInO (c : Mf X.prog X.w X.K X.mg X.base k C "__contains__" sp) (hr : Room j X.A) (hk : k ≤ j) :
    OpR X (compareOp .NotIn) (fun x y H Q => ∃ a dx fs, y = .ref a ∧ H a = some (.ins C dx fs) ∧ sp [.ref a, x] H (fun v H' => ∃ b, v = .bl b ∧ Q (.bl (!b)) H') E0) := by
  obtain ⟨f, fd, ps, F, _, o, _, b⟩ := c.ex
  exact op_notInOwn F b pass0 o (hr.mono hk)
theorem call_lenO (c : Mf X.prog X.w X.K X.mg X.base k C "__len__" sp) (hr : Room j X.A) (hk : k + 1 ≤ j) :
    CallR X (.builtin "len") (fun xs H Q => ∃ a dx fs, xs = [.ref a] ∧ H a = some (.ins C dx fs) ∧ sp [.ref a] H (fun v H' => ∃ k : Nat, v = .int k ∧ k ≤ sizeLine ∧ Q (.int k) H') E0) := by
  obtain ⟨f, fd, ps, F, _, o, _, b⟩ := c.ex
  exact call_lenOwn F b pass0 o (hr.mono hk)
theorem call_strO (c : Mf X.prog X.w X.K X.mg X.base k C "__str__" sp) (hr : Room j X.A) (hk : k + 2 ≤ j) :
    CallR X (.type "str") (fun xs H Q => ∃ a dx fs, xs = [.ref a] ∧ H a = some (.ins C dx fs) ∧ sp [.ref a] H (fun v H' => ∃ z, v = .str z ∧ Q (.str z) H') E0) := by
  obtain ⟨f, fd, ps, F, _, o, _, b⟩ := c.ex
  exact call_strOwn F b pass0 o (hr.mono hk)
theorem pe_ixO {a b : Expr} (c : Mf X.prog X.w X.K X.mg X.base k C "__getitem__" sp) (hr : Room j X.A) (hk : k + 1 ≤ j) (hA : PE X a ta) (hB : PE X b tb)
    (hsl : ∀ v u, subscripted b true v u = runValue (.builtin "lifetime.subscript" ⟨[v, u], []⟩) := by intro _ _; rfl) :
    PE X (.Subscript a b pos) (tOp (fun x y H Q => ∃ a dx fs, x = .ref a ∧ H a = some (.ins C dx fs) ∧ sp [.ref a, y] H Q E0) ta tb) := by
  obtain ⟨f, fd, ps, F, _, o, fi, b⟩ := c.ex
  exact pe_ixOwn F b pass0 o fi (hr.mono hk) hA hB hsl
theorem op_eqO (c : Mf X.prog X.w X.K X.mg X.base k C "__eq__" sp) (hr : Room j X.A) (hk : k ≤ j) : OpR X (compareOp .Eq) (rEqOwn X.K C sp E0 id) := by
  obtain ⟨f, fd, ps, F, _, o, _, b⟩ := c.ex
  exact op_eqOwn F b pass0 o (hr.mono hk)
theorem op_neO (c : Mf X.prog X.w X.K X.mg X.base k C "__eq__" sp) (hne : PySem.W.findIn X.K (.ref C) "__ne__" = some (some (.builtin "object.__ne__"))) (hm : PySem.W.mroIn X.K C (.type "object") = some true) (hr : Room j X.A) (hk : k + 1 ≤ j) :
    OpR X (compareOp .NotEq) (rEqOwn X.K C sp E0 not) := by
  obtain ⟨f, fd, ps, F, _, o, _, b⟩ := c.ex
  exact op_neOwn F b pass0 o hne hm (hr.mono hk)
end
end L2

set_option Elab.async false
set_option linter.all false
set_option maxRecDepth 100000
set_option maxHeartbeats 4000000
/-! The rules whose readings name X.K, with K said: for what stands in a comprehension's block. -/
namespace L2
open PySem PySem.Spec PyProof.Rows
section
variable {X : Cx} {K : PySem.W.Frag} {o e a b : Expr} {es : List Expr} {to ta tb : TE} {t : TA} {name f : Str} {apos cpos pos : Pos} {T id : String} {r : V → List V → Hp → VK → Prop}
theorem pe_bm0K (hK : X.K = K) (pa : PlainAttrs T) (slot : Slot T name id) (hty : typeOf (.builtin id) = pure (.type "method_descriptor")) (hm : MtR X id r) (ho : PE X o to) (hbase : attributeBase o name X.env (eval o X.env) = eval o X.env := by rfl) (hline : (apos.endLine == cpos.line) = true := by rfl) : PE X (.Call (.Attribute o name apos) [] [] cpos) (tBM0 K T r to) := by
  subst hK
  exact pe_bm0 pa slot hty hm ho hbase hline
theorem pe_bmK (hK : X.K = K) (pa : PlainAttrs T) (slot : Slot T name id) (hty : typeOf (.builtin id) = pure (.type "method_descriptor")) (hm : MtR X id r) (ho : PE X o to) (ha : PA X (e :: es) t) (hbase : attributeBase o name X.env (eval o X.env) = eval o X.env := by rfl) (hfew : ((backTo cpos (starEach (e :: es) X.env)).all (fun x => !x.1) && (backToKw cpos (keywordEach [] X.env)).all (fun x => x.1.isSome) && decide ((e :: es).length + ([] : List Keyword).length + (if ([] : List Keyword).isEmpty then 0 else 1) < 30)) = true := by rfl) (hline : (apos.endLine == cpos.line) = true := by rfl) (hs : starEach (e :: es) X.env = (false, eval e X.env) :: starEach es X.env := by rfl) (hplain : (backTo cpos (starEach es X.env)).any (·.1) = false := by rfl) :
    PE X (.Call (.Attribute o name apos) (e :: es) [] cpos) (tBM K T r to t) := by
  subst hK
  exact pe_bm pa slot hty hm ho ha hbase hfew hline hs hplain
theorem pe_fldK (hK : X.K = K) (he : PE X e ta) (hb : attributeBase e f X.env (eval e X.env) = eval e X.env) : PE X (.Attribute e f pos) (tFld K ta f) := by
  subst hK
  exact pe_fld he hb
def rLenSeq (K : PySem.W.Frag) : List V → Hp → VK → Prop := fun xs H Q => ∃ p ys, xs = [.ref p] ∧ (SqL K H p ys ∨ SqT K H p ys) ∧ Q (.int ys.length) H
theorem call_len_seqK (hK : X.K = K) : CallR X (.builtin "len") (rLenSeq K) := by
  subst hK
  exact call_len_seq
theorem ix_listK (hK : X.K = K) : IxR X (rIxL K) := by
  subst hK
  exact ix_list
theorem ix_tupK (hK : X.K = K) : IxR X (rIxT K) := by
  subst hK
  exact ix_tup
theorem sl_listK (hK : X.K = K) : SlR X (rSlL K) := by
  subst hK
  exact sl_list
theorem op_neDK (hK : X.K = K) (hu : X.A.units + 64 < cLine) : OpR X (compareOp .NotEq) (rNeD K) := by
  subst hK
  exact op_neD hu
theorem op_eqDK (hK : X.K = K) (hu : X.A.units + 64 < cLine) : OpR X (compareOp .Eq) (rEqD K) := by
  subst hK
  exact op_eqD hu
def rListOf (K : PySem.W.Frag) : List V → Hp → VK → Prop := fun xs H Q => ∃ p ys, xs = [.ref p] ∧ (SqL K H p ys ∨ SqT K H p ys) ∧ ∀ l, H l = none → Q (.ref l) (upd H l (.lst ys))
theorem call_list_ofK (hK : X.K = K) : CallR X (.type "list") (rListOf K) := by
  subst hK
  exact call_list_of
def rJoin (K : PySem.W.Frag) : V → List V → Hp → VK → Prop := fun x xs H Q => ∃ a p, ∃ ys : List Str, x = .str a ∧ xs = [.ref p] ∧ (SqL K H p (ys.map V.str) ∨ SqT K H p (ys.map V.str)) ∧ (ys.map (·.length)).sum + ys.length * a.length ≤ 16777216 ∧ Q (.str (Txt.join a ys)) H
theorem pe_joinK (hK : X.K = K) (ho : PE X o to) (he : PE X e ta) (hs : starEach [e] X.env = [(false, eval e X.env)] := by rfl) (hbase : attributeBase o "join" X.env (eval o X.env) = eval o X.env := by rfl) (hline : (apos.endLine == pos.line) = true := by rfl) : PE X (.Call (.Attribute o "join" apos) [e] [] pos) (tM1 (rJoin K) to ta) := by
  subst hK
  exact pe_join ho he hs hbase hline
theorem call_strS : CallR X (.type "str") (fun xs H Q => ∃ a, xs = [.str a] ∧ Q (.str a) H) := SkE.call_str_str
def rTupleOf (K : PySem.W.Frag) : List V → Hp → VK → Prop := fun xs H Q => ∃ p ys, xs = [.ref p] ∧ ((SqL K H p ys ∧ ∀ l, H l = none → Q (.ref l) (upd H l (.tup ys))) ∨ (SqT K H p ys ∧ Q (.ref p) H))
theorem call_tuple_ofK (hK : X.K = K) : CallR X (.type "tuple") (rTupleOf K) := by
  subst hK
  exact call_tuple_of
end
end L2

set_option Elab.async false
set_option linter.all false
set_option maxRecDepth 100000
set_option maxHeartbeats 4000000
namespace L2
open PySem PySem.Spec PyProof.Rows
/-- a name of the module holds a value -/
def GV (mg : Str → Option Value) (x : Str) (v : V) : Prop := ∃ u, mg x = some u ∧ RelV v u
theorem pe_gv {X : Cx} {x : Str} {v : V} {pos : Pos} (h : GV X.mg x v) (hg : Gl X x) (hd : (x == ("__debug__" : Str)) = false := by decide) : PE X (.Name x pos) (tC v) := by
  obtain ⟨u, h1, h2⟩ := h
  exact pe_glob hg h1 h2 hd
theorem pj_nil {X : Cx} : PJ X [] [] := .nil
theorem pj_cons {X : Cx} {e : Expr} {t : TE} {es : List Expr} {ts : List TE} (h : PE X e t) (r : PJ X es ts) : PJ X (e :: es) (t :: ts) := .cons h r
/-- a dict comprehension over what a Walk tells -/
theorem dc_it {J : It} {m : Nat} {G : Hp → Prop} {Y : Nat → Hp → V → Hp → Prop} (w : Walk J m G Y) {g : TG} {tt : TT} {tk tv : TE} {own : List Nat} {σ : St} {H1 : Hp} {D : Addr} {Qd : Hp → Prop} (Pv : Nat → Hp → Prop) (start : Pv 0 (upd H1 D (.dK []))) (keeps : ∀ i H, i ≤ m → Pv i H → G H)
    (turn : ∀ i x H H', i < m → Pv i H → Y i H x H' → g x (wipe σ own) H' fun σ2 H2 => wipe σ2 own = wipe σ own ∧ tt σ2 H2 fun b H3 =>
      if b = true then tk σ2 H3 fun y H4 => tv σ2 H4 fun z H5 => ∃ kvs k, y = kV k ∧ H5 D = some (.dK kvs) ∧ kvs.length < sizeLine ∧ Pv (i + 1) (upd H5 D (.dK (putK kvs k z))) else Pv (i + 1) H3) (done : ∀ H, Pv m H → Qd H) :
    ∃ W : Nat → Nat → Hp → Prop, (∃ j, W 0 j (upd H1 D (.dK []))) ∧ ∀ i j H, W i j H →
      (J.stop i H ∧ Qd H) ∨ (J.go i H ∧ ∃ Nx : Hp → Prop, (∀ H', Nx H' → ∃ j', j' < j ∧ W (i + 1) j' H') ∧ ∀ x H', J.yld i H x H' → g x (wipe σ own) H' fun σ2 H2 => wipe σ2 own = wipe σ own ∧ tt σ2 H2 fun b H3 =>
        if b = true then tk σ2 H3 fun y H4 => tv σ2 H4 fun z H5 => ∃ kvs k, y = kV k ∧ H5 D = some (.dK kvs) ∧ kvs.length < sizeLine ∧ Nx (upd H5 D (.dK (putK kvs k z))) else Nx H3) := by
  refine ⟨fun i j H => j = m - i ∧ i ≤ m ∧ Pv i H, ⟨m, by simp, Nat.zero_le _, start⟩, ?_⟩
  rintro i j H ⟨rfl, hi, pv⟩
  have kp := keeps i H hi pv
  rcases Nat.lt_or_ge i m with less | more
  · exact .inr ⟨w.goes i H less kp, Pv (i + 1), fun H' p' => ⟨m - (i + 1), by omega, rfl, less, p'⟩, fun x H' y => turn i x H H' less pv (w.yields i H x H' less kp y)⟩
  · obtain rfl : i = m := Nat.le_antisymm hi more
    exact .inl ⟨w.stops H kp, done H pv⟩
section
variable {X : Cx}
/-- y = {k: v for ..}: the name is stored within the comprehension's frame -/
theorem ps_setDc {j : Nat} {y : Str} {yp : Pos} {kx vx tg iter : Expr} {ifs : List Expr} {scope : Scope} {own : List (Str × Nat)} {cp sp : Pos} {wi : TI} {g : TG} {tt : TT} {tk tv : TE} (calm : X.calm = true) (nodup : X.N.Nodup) (atJ : X.N[j]? = some y) (isLoc : X.env.scope.names.lookup y = some .local)
    (swaps : swapsWith (.DictComp kx vx [⟨tg, iter, ifs, 0⟩] scope cp) (some (.Name y yp)) sp.line X.env = pure true) (walks : PI X tg iter wi) (blk : BlkOk X.N X.env.scope scope own)
    (target : ∀ (s : Shared) (H : Hp) (C : Addr) (cl : List (Str × Addr)) (fp : List Addr), PG (X.blk s H scope (compEnvC scope cl C X.env) fp) tg g) (tests : ∀ (s : Shared) (H : Hp) (C : Addr) (cl : List (Str × Addr)) (fp : List Addr), PTs (X.blk s H scope (compEnvC scope cl C X.env) fp) ifs tt)
    (keys : ∀ (s : Shared) (H : Hp) (C : Addr) (cl : List (Str × Addr)) (fp : List Addr), PE (X.blk s H scope (compEnvC scope cl C X.env) fp) kx tk)
    (vals : ∀ (s : Shared) (H : Hp) (C : Addr) (cl : List (Str × Addr)) (fp : List Addr), PE (X.blk s H scope (compEnvC scope cl C X.env) fp) vx tv) (plain : ∀ x, foldedSetIterable iter X.env x = pure x := by intro _; rfl) :
    PS X (.Assign [.Name y yp] (.DictComp kx vx [⟨tg, iter, ifs, 0⟩] scope cp) sp) (tAsg (tDc wi g tt tk tv (own.map (·.2))) (gName j)) := by
  refine ⟨fun pins s σ H D I want => ?_⟩
  rw [exec_Assign_Name_used _ _ _ _ swaps]
  refine wpAny_bind (wpAny_standAt (wpAny_bind ?_))
  show wpAny _ X.A (do let _ ← comprehension (.DictComp kx vx [⟨tg, iter, ifs, 0⟩] scope cp) scope X.env (firstIterPos [⟨tg, iter, ifs, 0⟩] cp) newDict false (eval iter X.env) (some (assign (.Name y yp) X.env))) _ _ s
  have want' : tDc wi g tt tk tv (own.map (·.2)) σ H (fun x H1 => gName j x σ H1 D.nx) := want
  refine wpAny_bind (thn (dc_core (Qf := fun _ s' => SP X pins D .next s') calm nodup I walks blk target tests keys vals plain want' fun made frame s' m H' J q hn young => ?_) fun _ s' z => wpAny_pure (wpAny_pure z))
  show wpAny _ _ (assign (.Name y yp) X.env (.ref made)) _ _ _
  refine wpAny_assign_Name (store_ok2 (v := V.ref made) J nodup atJ (.inl isLoc) rfl (fun s2 J2 ⟨a, but, isA⟩ => ?_) (.inr isLoc))
  obtain ⟨y0, y1, y2, y3, y4, y5⟩ := young
  have apart : frame ≠ a := by
    rcases isA with z | z
    · rw [z]
      exact y1
    · intro e
      exact y4 y a z e.symm
  refine ⟨m, hn.sameBut but apart, fun h3 but3 => ?_⟩
  exact ⟨_, H', J2.turned (t' := s2.toks) (fun b o hb e => (but3.2 b hb).trans e) y0 y1 y3 y4 y5, q⟩
theorem sw_trueD {kx vx : Expr} {gs : List Comprehension} {scope : Scope} {pos py : Pos} {y : Str} {l : Nat} {env : Env} (isFun : env.scope.kind = .function) (isLoc : env.scope.names.lookup y = some .local) (line : (py.line == pos.line) = true)
    (apart : (scope.names.any fun (n, k) => n == y && (k == .local || k == .cell)) = false) : swapsWith (.DictComp kx vx gs scope pos) (some (.Name y py)) l env = pure true := by
  have k1 : env.kindOf y = some .local := isLoc
  have k2 : env.blockKind = .function := by
    unfold Env.blockKind
    rw [isFun]
    rfl
  unfold swapsWith
  simp only [k2, k1, apart, Expr.pos, line]
  rfl
end
/-- not x, by truth, K said -/
theorem pe_notTK {X : Cx} {K : PySem.W.Frag} {a : Expr} {ta : TE} {pos : Pos} (hK : X.K = K) (ha : PE X a ta) : PE X (.UnaryOp .Not a pos) (tNotT K ta) := by
  subst hK
  exact pe_notT ha
end L2

set_option Elab.async false
set_option linter.all false
set_option maxRecDepth 100000
set_option maxHeartbeats 4000000
/-! Dicts of texts compared both ways; a staticmethod called by the class's name. -/
namespace L2
open PySem PySem.Spec PyProof.Rows
def Strs (ks : List (Key × V)) : Prop := ∀ p ∈ ks, ∃ z, p.2 = .str z
def sameD (ks ls : List (Key × V)) : Bool := ks.length == ls.length && ks.all fun p => decide (valV ls p.1 = some p.2)
theorem valV_mem {ls : List (Key × V)} {k : Key} {y : V} (h : valV ls k = some y) : ∃ p ∈ ls, p.2 = y := by
  unfold valV at h
  cases e : ls.find? (fun kv => decide (kv.1 = k)) with
  | none =>
    rw [e] at h
    cases h
  | some q =>
    rw [e] at h
    exact ⟨q, List.mem_of_find?_eq_some e, Option.some.inj h⟩
theorem eqAt_strs {A : Around} {s : Shared} {x y : Str} {u u' : Value} (r : RelV (.str x) u) (r' : RelV (.str y) u') : SeqAt.EqAt A s u u' (decide (x = y)) := by
  obtain ⟨t, rfl⟩ := (show ∃ t, u = Value.str x t from r)
  obtain ⟨t', rfl⟩ := (show ∃ t, u' = Value.str y t from r')
  have q := SeqAt.EqAt.str_str (A := A) (s := s) x t y t'
  have e : (x == y) = decide (x = y) := by
    rw [Bool.eq_iff_iff]
    simp
  rw [e] at q
  exact q
theorem hits_str {A : Around} {s : Shared} {ls : List (Key × V)} {vb : List (Key × Value)} (rb : KV ls vb) (sl : Strs ls) {ks : List (Key × V)} {va : List (Key × Value)} (ra : KV ks va) :
    Strs ks → PySem.W.KeqHits A s vb va (ks.all fun p => decide (valV ls p.1 = some p.2)) := by
  unfold KV at ra
  induction ra with
  | nil => intro _; exact .nil
  | @cons p q ps qs h t ih =>
    intro hp
    obtain ⟨h1, h2⟩ := h
    obtain ⟨z, ez⟩ := hp p List.mem_cons_self
    have rr : RelO (valV ls p.1) (valueAt vb p.1) := rb.val p.1
    obtain ⟨k, v⟩ := q
    have h1' : p.1 = k := h1
    rw [h1'] at rr
    rw [List.all_cons, h1']
    cases e : valV ls k with
    | none =>
      rw [e] at rr
      have hn : valueAt vb k = none := RelO.none_of rr
      have ef : decide ((none : Option V) = some p.2) = false := rfl
      rw [ef, Bool.false_and]
      exact .miss hn
    | some y =>
      rw [e] at rr
      obtain ⟨y', hy, ry⟩ := rr.some_of
      obtain ⟨q2, hm, e2⟩ := valV_mem e
      obtain ⟨z2, ez2⟩ := sl q2 hm
      have ey : y = .str z2 := e2.symm.trans ez2
      subst ey
      rw [ez] at h2
      have hh := eqAt_strs (A := A) (s := s) h2 ry
      have ed : decide (some (V.str z2) = some p.2) = decide (z = z2) := by
        rw [ez]
        by_cases c : z = z2
        · rw [c]
          simp
        · rw [decide_eq_false c, decide_eq_false]
          intro w
          exact c (V.str.inj (Option.some.inj w)).symm
      rw [ed]
      exact .hit hy hh (ih fun p' hm => hp p' (List.mem_cons_of_mem _ hm))
section
variable {X : Cx}
def rEqDT (g : Bool → Bool) : R2 := fun x y H Q => ∃ a b ks ls, x = .ref a ∧ y = .ref b ∧ Rd H a (.dK ks) ∧ Rd H b (.dK ls) ∧ Strs ks ∧ Strs ls ∧ Q (.bl (g (sameD ks ls))) H
theorem op_eqDT (hu : X.A.units + 1 < cLine) : OpR X (compareOp .Eq) (rEqDT id) := by
  intro pins s σ H x y v u Q I rx ry h
  obtain ⟨a, b, ks, ls, rfl, rfl, ea, eb, sk, sl, q⟩ := h
  obtain rfl : v = Value.ref a := rx
  obtain rfl : u = Value.ref b := ry
  obtain ⟨_, ya, va, ra, da⟩ := dk_rd I.hok ea
  obtain ⟨_, yb, vb, rb, db⟩ := dk_rd I.hok eb
  have h1 : va.length = ks.length := (Paired.length ra).symm
  have h2 : vb.length = ls.length := (Paired.length rb).symm
  exact PySem.W.keq_eq (knd := mixKind X.prog X.w) ya yb da db (Nat.lt_of_succ_lt hu) (fun _ => hits_str rb sl ra sk) (fin_bl I q (by rw [h1, h2]; rfl))
theorem op_neDT (hu : X.A.units + 1 < cLine) : OpR X (compareOp .NotEq) (rEqDT not) := by
  intro pins s σ H x y v u Q I rx ry h
  obtain ⟨a, b, ks, ls, rfl, rfl, ea, eb, sk, sl, q⟩ := h
  obtain rfl : v = Value.ref a := rx
  obtain rfl : u = Value.ref b := ry
  obtain ⟨_, ya, va, ra, da⟩ := dk_rd I.hok ea
  obtain ⟨_, yb, vb, rb, db⟩ := dk_rd I.hok eb
  have h1 : va.length = ks.length := (Paired.length ra).symm
  have h2 : vb.length = ls.length := (Paired.length rb).symm
  exact PySem.W.keq_ne (knd := mixKind X.prog X.w) ya yb da db (Nat.lt_of_succ_lt hu) (fun _ => hits_str rb sl ra sk) (fin_bl I q (by rw [h1, h2]; rfl))
end
/-- C.m is a staticmethod: its record at p, its def at g -/
structure SMet (K : PySem.W.Frag) (C : Addr) (mc : Value) (m : Str) (p g : Addr) : Prop where
  at_ : PySem.W.findCls K (.ref C) mc m = some (.get (.builtin "staticmethod.__get__") (.ref p) .none (.ref C))
  rc : ∃ rest, PySem.W.recIn K p "staticmethod" = some (.ref g :: rest)
  kp : PySem.W.keepIn K (.ref g) = true
section
variable {X : Cx} {CX : CXT} {k : Nat} {C p g : Addr} {mc : Value} {sp : Sp} {E : XK} {o e : Expr} {es : List Expr} {m : Str} {pos apos : Pos} {ta : TE} {t : TA} {pl : Sem Bool} {fd : FuncData} {ps : List Str}
theorem getmethsm_ok {pins : List (Addr × Obj)} {σ : L2.St} {H : Hp} {s : Shared} {A : Around} {E : Value → Shared → Prop} {Q : Value × List Value → Shared → Prop} (I : Inv X pins σ H s) (r : ClX.CRead X.K C mc) (k : SMet X.K C mc m p g)
    (h : ∀ s', Inv X pins σ H s' → Q (.ref g, []) s') : wpAny (model X.prog X.w) A (getMethod (.ref C) m pl) Q E s := by
  obtain ⟨rest, hp⟩ := k.rc
  refine PySem.W.method_cls I.kIn r.ga ?_
  refine PySem.W.cls_bind I.kIn r.rd k.at_ ?_
  refine wpAny_call (PySem.W.sm_get (s := { s with toks := s.toks + 1 }) I.kIn hp (PySem.W.handed_on rfl ?_))
  exact h _ (I.tok _)
/-- e.m(..), e the class at C, m a staticmethod -/
def tSMeth (C : Addr) (sp : Sp) (E : XK) (ta : TE) (t : TA) : TE := fun σ H Q => ta σ H fun x H1 => x = .ref C ∧ t σ H1 fun vs H2 => sp vs H2 Q E
theorem pe_smeth (he : PE X o ta) (r : ClX.CRead X.K C mc) (c : SMet X.K C mc m p g) (F : FnOk X.prog X.w X.K X.mg X.base CX k g fd ps sp) (hr : Room k X.A) (hb : Binds X.K fd ps []) (hx : Passes CX X E) (ha : PA X (e :: es) t)
    (hst : starEach (e :: es) X.env = (false, eval e X.env) :: starEach es X.env := by rfl) (hpl : (backTo pos (starEach es X.env)).any (·.1) = false := by rfl)
    (ht : eval (.Call (.Attribute o m apos) (e :: es) [] pos) X.env = (do
      let ov ← eval o X.env
      standAt apos.atName
      let (f, first) ← holding [ov] (getMethod ov m pl)
      callWith pos f first (backTo pos (starEach (e :: es) X.env)) (backToKw pos (keywordEach [] X.env))) := by rfl) :
    PE X (.Call (.Attribute o m apos) (e :: es) [] pos) (tSMeth C sp E ta t) := by
  refine ⟨fun pins s σ H Q I h => ?_⟩
  refine PySem.W.methodCall_KW (pl := pl) (thn (he.run pins s σ H _ I h) fun u s1 ⟨x, H1, I1, rx, ex, q⟩ => ?_) ht
  subst ex
  obtain rfl : u = Value.ref C := rx
  refine getmethsm_ok I1 r c fun s2 I2 => ?_
  refine PySem.W.callWith_K (h₀ := X.base) I.ok.mod.kin c.kp (thn (ha.run pos pins s2 σ H1 _ I2 q) fun us s3 ⟨vs, H2, I3, rv, q2⟩ => ⟨I3.kIn, ?_⟩) hst hpl
  exact run_fn (us := us) (dvs := []) (ds := []) F hr hb .nil hx I3 rv (by rw [List.append_nil]; exact q2)
/-- e.m(k = v, ..) -/
def tSMethK (C : Addr) (sp : Sp) (gV : List V → List V → List V) (E : XK) (ta : TE) (tk : TA) : TE := fun σ H Q => ta σ H fun x H1 => x = .ref C ∧ tk σ H1 fun zs H2 => sp (gV [] zs) H2 Q E
theorem pe_smethK0 {kws : List Keyword} {tk : TA} {ks : List Str} {gg : List Value → List Value → List Value} {gV : List V → List V → List V} (he : PE X o ta) (r : ClX.CRead X.K C mc) (c : SMet X.K C mc m p g) (F : FnOk X.prog X.w X.K X.mg X.base CX k g fd ps sp) (hr : Room k X.A) (hb : KBinds X.K fd ps ks gg gV) (hx : Passes CX X E) (hkw : PK X kws tk)
    (hall : (backToKw pos (keywordEach kws X.env)).all (·.1.isSome) = true := by rfl) (hks : (backToKw pos (keywordEach kws X.env)).filterMap (·.1) = ks := by rfl)
    (hpl : ((backTo pos (starEach [] X.env)).any (·.1) || (backToKw pos (keywordEach kws X.env)).any (·.1.isNone)) = false := by rfl)
    (ht : eval (.Call (.Attribute o m apos) [] kws pos) X.env = (do
      let ov ← eval o X.env
      standAt apos.atName
      let (f, first) ← holding [ov] (getMethod ov m pl)
      callWith pos f first (backTo pos (starEach [] X.env)) (backToKw pos (keywordEach kws X.env))) := by rfl) :
    PE X (.Call (.Attribute o m apos) [] kws pos) (tSMethK C sp gV E ta tk) := by
  refine ⟨fun pins s σ H Q I h => ?_⟩
  refine PySem.W.methodCall_KW (pl := pl) (thn (he.run pins s σ H _ I h) fun u s1 ⟨x, H1, I1, rx, ex, q⟩ => ?_) ht
  subst ex
  obtain rfl : u = Value.ref C := rx
  refine getmethsm_ok I1 r c fun s2 I2 => ?_
  refine PySem.W.callWith_KW0 (h₀ := X.base) I.ok.mod.kin c.kp hall (thn (hkw.run pos pins s2 σ H1 _ I2 q) fun ws s3 ⟨zs, H2, I3, rz, q2⟩ => ⟨I3.kIn, ?_⟩) hpl
  rw [hks]
  exact run_fnk (us := []) (vs := []) F hr hb hx I3 .nil rz q2
end
/-- f'..' of two parts or more, by a name -/
def tJo (ts : List TE) : TE := fun σ H Q => tJs ts Str.empty σ H fun out H1 => Q (.str out) H1
theorem pe_joinedT {X : Cx} {v1 v2 : Expr} {rest : List Expr} {ts : List TE} {pos : Pos} (h : PJ X (v1 :: v2 :: rest) ts) : PE X (.JoinedStr (v1 :: v2 :: rest) pos) (tJo ts) := pe_joined h
end L2

set_option Elab.async false
set_option linter.all false
set_option maxRecDepth 100000
set_option maxHeartbeats 4000000
/-! An own error's `__init__` that calls the base error's by the base's name, where the base has none of its own. -/
namespace L2
open PySem PySem.Spec PyProof.Rows
section
variable {X : Cx} {e : Expr} {es : List Expr} {ta : TA} {x : Str} {CR : Addr} {mc : Value} {p1 p2 pos : Pos} {pl : Sem Bool}
theorem pe_baseinit (hg : Gl X x) (hm : X.mg x = some (.ref CR)) (r : ClX.CRead X.K CR mc) (vV : PySem.W.findCls X.K (.ref CR) mc "__init__" = some (.val (.builtin "ValueError.__init__"))) (ha : PA X (e :: es) ta)
    (hdb : (x == ("__debug__" : Str)) = false := by decide)
    (hc : eval (.Call (.Attribute (.Name x p1) "__init__" p2) (e :: es) [] pos) X.env = (do
      let ov ← eval (.Name x p1) X.env
      standAt p2.atName
      let (f, first) ← holding [ov] (getMethod ov "__init__" pl)
      callWith pos f first (backTo pos (starEach (e :: es) X.env)) (backToKw pos (keywordEach [] X.env))) := by rfl)
    (he : starEach (e :: es) X.env = (false, eval e X.env) :: starEach es X.env := by rfl) (hpl : (backTo pos (starEach es X.env)).any (·.1) = false := by rfl) :
    PE X (.Call (.Attribute (.Name x p1) "__init__" p2) (e :: es) [] pos) (tVeI X.K ta) := by
  refine ⟨fun pins s σ H Q I h => ?_⟩
  refine PySem.W.methodCall_KW (pl := pl) (ld_glob I hg hm ?_ hdb) hc
  refine PySem.W.method_cls I.kIn r.ga ?_
  refine PySem.W.cls_value I.kIn r.rd vV (by decide +kernel) ?_
  show wpAny _ _ (callWith pos (Value.builtin "ValueError.__init__") [] (backTo pos (starEach (e :: es) X.env)) []) _ _ _
  refine PyProof.Rows.callWith_method1 (thn (ha.run pos pins _ σ H _ (I.tok _) h) fun us s1 ⟨vs, H1, I1, r1, a, C, ws, ev, hl, T, ea, q⟩ => ?_) he hpl
  subst ev
  cases r1 with
  | @cons _ u0 _ ur ra rw' =>
    obtain rfl : u0 = Value.ref a := ra
    have hlen : ur.length ≤ sizeLine := by
      rw [← Paired.length rw', sizeLine_eq]
      omega
    exact oinit_ok T I1 ea hlen fun s' J => ⟨.non, H1, J, rfl, q⟩
end
end L2

set_option Elab.async false
set_option linter.all false
set_option maxRecDepth 100000
set_option maxHeartbeats 4000000
/-! a | b, a >> b .. by an own method, both of the same class; a <= b by an own one (its answer a bool). -/
namespace L2
open PySem PySem.Spec PyProof.Rows
section
variable {X : Cx} {n : Nat} {CX : CXT} {C f : Addr} {fd : FuncData} {ps : List Str} {sp : Sp} {E : XK}
theorem notNI {v : V} {u : Value} (r : RelV v u) {Q : Value → Shared → Prop} {s : Shared} (q : Q u s) : PySem.W.CmpBack Q u s := by
  cases v <;> first
    | (obtain ⟨t, rfl⟩ := r; exact q)
    | (cases r; exact q)
def rBinOwn (K : PySem.W.Frag) (C : Addr) (sp : Sp) (E : XK) : R2 := fun x y H Q => ∃ a dx fs b dy gs, x = .ref a ∧ H a = some (.ins C dx fs) ∧ y = .ref b ∧ H b = some (.ins C dy gs) ∧ sp [.ref a, y] H Q E
theorem op_binOwn {op : Operator} (F : FnOk X.prog X.w X.K X.mg X.base CX n f fd ps sp) (hb : Binds X.K fd ps []) (hx : Passes CX X E) (hs : PySem.W.findIn X.K (.ref C) (PySem.dunder op.info.2) = some (some (.ref f))) (hf : PySem.W.isFn X.K (.ref f) = true) (hc : PySem.W.selfFirst X.K C = true) (hr : Room n X.A) :
    OpR X (binaryOp op) (rBinOwn X.K C sp E) := by
  intro pins s σ H x y v u Q I rx ry h
  obtain ⟨a, dx, fs, b, dy, gs, rfl, ha, rfl, hbb, hsp⟩ := h
  cases rx
  cases ry
  obtain ⟨od, J⟩ := inst_at I ha
  obtain ⟨od2, J2⟩ := inst_at I hbb
  obtain ⟨m, hF⟩ := I.fr
  refine PySem.W.binop_K hF I.ok.mod.kin J J2.type hc hs hf (thn (run_own (Sub.here hr) F hb hx I (show Vals [V.ref a, V.ref b] [Value.ref a, Value.ref b] from .cons rfl (.cons rfl .nil)) hsp) fun r s' q => ?_)
  obtain ⟨z, H', I', rz, q⟩ := q
  exact notNI rz ⟨z, H', I', rz, q⟩
def rLeOwn (K : PySem.W.Frag) (C : Addr) (sp : Sp) (E : XK) : R2 := fun x y H Q => ∃ a dx fs tb, x = .ref a ∧ H a = some (.ins C dx fs) ∧ TyX K H y tb ∧ PySem.W.notFirst K C tb = true ∧ sp [.ref a, y] H Q E
theorem op_leOwn (F : FnOk X.prog X.w X.K X.mg X.base CX n f fd ps sp) (hb : Binds X.K fd ps []) (hx : Passes CX X E) (o : Own X.K C "__le__" f) (hr : Room n X.A) : OpR X (compareOp .LtE) (rLeOwn X.K C sp E) := by
  intro pins s σ H x y v u Q I rx ry h
  obtain ⟨a, dx, fs, tb, rfl, ha, ty, hn, hs⟩ := h
  cases rx
  obtain ⟨od, J⟩ := inst_at I ha
  obtain ⟨m, hF⟩ := I.fr
  obtain ⟨P, Z, p, _⟩ := kit_of I ry ty
  refine PySem.W.cmp_K (op := .LtE) hr.units0 hF I.ok.mod.kin J (Z.ty _ _ I.kIn p) hn o.find o.fn (thn (run_own (Sub.here hr) F hb hx I (show Vals [V.ref a, y] [Value.ref a, u] from .cons rfl (.cons ry .nil)) hs) fun r s' q => ?_)
  obtain ⟨z, H', I', rz, q⟩ := q
  exact notNI rz ⟨z, H', I', rz, q⟩
end
end L2

set_option Elab.async false
set_option linter.all false
set_option maxRecDepth 100000
set_option maxHeartbeats 4000000
/-! enumerate(text). -/
namespace L2
open PySem PySem.Spec PyProof.Rows
/-- the signs of a text, each in a new pair behind its number -/
def ItSe (z : Str) : It :=
  ⟨fun i _ => i < z.cps.size, fun i H v H' => ∃ T c, v = .ref T ∧ H T = none ∧ H' = upd H T (.tup [.int (i : Nat), .str ⟨#[c]⟩]) ∧ z.cps[i]? = some c, fun i _ => i = z.cps.size⟩
theorem turn_enumS {P : Program} {w : World} {K : PySem.W.Frag} {elts : List Expr} {kk : Nat} {tpos : Pos} (z : Str) (t : Tok) (e it : Addr) :
    Turn P w K (.Tuple elts kk tpos) (ItSe z) [e, it] e (fun i h => (∃ old, IsEnum h e it ((i : Nat) : Int) old) ∧ h.IsStrIter it (strIterType z) z t i ∧ e ≠ it) where
  mem := by simp
  obj := fun i h st b hb => by
    obtain ⟨⟨old, he⟩, ⟨o, ho, hc, hd⟩, _⟩ := st
    have e' : b = e ∨ b = it := by simpa using hb
    rcases e' with z | z
    · rw [z]; exact ⟨_, he, fun v q => nomatch q⟩
    · rw [z]; exact ⟨o, ho, fun v q => by rw [hd] at q; cases q⟩
  keep := fun i h h' st k => by
    obtain ⟨⟨old, he⟩, ⟨o, ho, r⟩, hne⟩ := st
    exact ⟨⟨old, k e (by simp) _ he⟩, ⟨o, k it (by simp) o ho, r⟩, hne⟩
  item := by
    intro X hP hw hK hc i pins s σ H E I hf st hg
    subst hP hw hK
    obtain ⟨⟨old, he⟩, hit, hne⟩ := st
    have hel : e < s.heap.objs.size := Heap.lt_size he
    have hil : it < s.heap.objs.size := by obtain ⟨_, q, _⟩ := hit; exact Heap.lt_size q
    refine wpAny_pyNext_enum_itemD (Draws.text (A := X.A.in1) (I.ok.hd hc) it z t) he hit hg hne (by simpa using hne) fun x h' tk hx ho hit' hT hsz hk => ?_
    obtain ⟨c, u, hcx, rfl⟩ := hx
    refine ⟨_, rfl, wpAny_letOwnedTupleGo_enum (s := { s with heap := h', toks := tk + 1 }) ho fun h'' he' sb => ?_⟩
    have hT2 : h''.get? s.heap.objs.size = some { cls := .type "tuple", data := .seq #[.int i tk, .str ⟨#[c]⟩ u] } := (sb.2 _ (Nat.ne_of_gt hel)).trans hT
    have new : ObjOk X.prog X.w (upd H s.heap.objs.size (.tup [.int (i : Nat), .str ⟨#[c]⟩])) h'' s.heap.objs.size (.tup [.int (i : Nat), .str ⟨#[c]⟩]) :=
      ⟨by show 2 ≤ sizeLine; decide, [.int i tk, .str ⟨#[c]⟩ u], .cons ⟨_, rfl⟩ (.cons ⟨_, rfl⟩ .nil), ⟨_, hT2, rfl, _, rfl⟩⟩
    have I1 : Inv X pins σ (upd H s.heap.objs.size (.tup [.int (i : Nat), .str ⟨#[c]⟩])) { s with heap := h'', toks := tk + 1 } :=
      I.turnedNew (ch := [e, it]) (fun b ob hb q => (sb.2 b (fun z => hb (by simp [z]))).trans (hk b ob (fun z => hb (by simp [z])) (fun z => hb (by simp [z])) q)) hf (Nat.le_refl _) new
    refine ⟨.ref s.heap.objs.size, _, I1, rfl, ⟨_, c, rfl, I.hok.fresh (Nat.le_refl _), rfl, hcx⟩, ⟨⟨.str ⟨#[c]⟩ u, ?_⟩, ?_, hne⟩, fun b hb => ?_⟩
    · have e1 : ((i + 1 : Nat) : Int) = (i : Int) + 1 := by omega
      rw [e1]; exact he'
    · obtain ⟨o, q, r⟩ := hit'
      exact ⟨o, (sb.2 it (Ne.symm hne)).trans q, r⟩
    · have hb' : b < s.heap.objs.size := by
        have e' : b = e ∨ b = it := by simpa using hb
        rcases e' with z | z
        · rw [z]; exact hel
        · rw [z]; exact hil
      rw [upd_ne (Nat.ne_of_lt hb')]
      exact (hf b hb).1
  done := by
    intro X hP hw hK hc i pins s σ H E I hf st hg
    subst hP hw hK
    obtain ⟨⟨old, he⟩, hit, hne⟩ := st
    have hi : i = z.cps.size := hg
    obtain ⟨f0, f1, f2, f3, f4, f5⟩ := hf it (by simp)
    subst hi
    exact wpAny_pyNext_enum_endD (Draws.text (A := X.A.in1) (I.ok.hd hc) it z t) he hit fun h' eb => ⟨rfl, I.turned (t' := s.toks) (fun b o hb q => eb b o hb q) f0 f1 f3 f4 f5⟩
  self := fun A i s Q E st h => let ⟨⟨_, he⟩, _⟩ := st; wpAny_pyIter_enum he h
def iEnumS (ta : TA) : TI := fun σ H R => ta σ H fun vs H1 => ∃ z, vs = [.str z] ∧ R (ItSe z) H1
theorem pi_enumS {X : Cx} {e : Expr} {ta : TA} {p pos tpos : Pos} {elts : List Expr} {kk : Nat} (hg : Gl X "enumerate") (hm : X.mg "enumerate" = none) (ha : PA X [e] ta) (hs : starEach [e] X.env = [(false, eval e X.env)] := by rfl) :
    PI X (.Tuple elts kk tpos) (.Call (.Name "enumerate" p) [e] [] pos) (iEnumS ta) := by
  refine ⟨fun pins s σ H R I h => ?_⟩
  refine Call_ (ld_blt I hg hm boot_enumerate (PyProof.Rows.callWith_type1 (thn (ha.run pos pins s σ H _ I h) fun us s1 ⟨vs, H1, I1, r1, q1⟩ => ?_) hs rfl))
  obtain ⟨z, ex, q⟩ := q1
  subst ex
  cases r1 with
  | cons r rr =>
    cases rr
    obtain ⟨t, rfl⟩ := r
    refine call_enumerate_str fun h' he hit hsz hk => wpAny_pyIter_enum he ?_
    have I2 : Inv X pins σ H1 { s1 with heap := h' } := I1.kept (t' := s1.toks) hk
    refine ⟨s1.heap.objs.size + 1, [s1.heap.objs.size + 1, s1.heap.objs.size], _, _, H1, rfl, I2, turn_enumS z t (s1.heap.objs.size + 1) s1.heap.objs.size, ⟨⟨.none, he⟩, hit, Nat.succ_ne_self _⟩, fun b hb => ?_, q⟩
    have e' : b = s1.heap.objs.size + 1 ∨ b = s1.heap.objs.size := by simpa using hb
    have hle : s1.heap.objs.size ≤ b := by
      rcases e' with z | z
      · rw [z]; exact Nat.le_add_right _ _
      · rw [z]; exact Nat.le_refl _
    exact I1.fpOk hle (I1.hok.fresh hle)
theorem walk_enumS {z : Str} : Walk (ItSe z) z.cps.size (fun _ => True) (fun i H v H' => ∃ T c, v = .ref T ∧ H T = none ∧ H' = upd H T (.tup [.int (i : Nat), .str ⟨#[c]⟩]) ∧ z.cps[i]? = some c) :=
  ⟨fun _ _ hi _ => hi, fun _ _ => rfl, fun _ _ _ _ _ _ y => y⟩
end L2

set_option Elab.async false
set_option linter.all false
set_option maxRecDepth 100000
set_option maxHeartbeats 4000000
/-! The drawing of the law: the pen, a draw, a pick. -/
namespace V8
open PySem PySem.Spec PyProof.Rows L2
def topS (i : Nat) : Stmt := PySem.Challenge.pw_blindrepair_k15_rows_of_misreadings.main.body.getD i (.Pass ⟨0, 0, 0, 0⟩)
abbrev s_pen : Stmt := topS 44
abbrev n_pen : List Str := ["_law_script"]
theorem sc_pen : FnScope ["_law_script"] ["_law_script"] (defScope s_pen) := ⟨rfl, rfl, rfl, by decide +kernel, rfl, by decide +kernel, by decide +kernel⟩
abbrev s_draw : Stmt := topS 45
abbrev n_draw : List Str := ["_law_pen_here", "_law_many", "_law_digit", "_law_spot", "_law_cell", "_law_great", "_law_stirred"]
theorem sc_draw : FnScope ["_law_pen_here", "_law_many", "_law_digit", "_law_spot", "_law_cell", "_law_great", "_law_stirred"] ["_law_pen_here", "_law_many"] (defScope s_draw) := ⟨rfl, rfl, rfl, by decide +kernel, rfl, by decide +kernel, by decide +kernel⟩
abbrev s_pick : Stmt := topS 46
abbrev n_pick : List Str := ["_law_pen_here", "_law_some"]
theorem sc_pick : FnScope ["_law_pen_here", "_law_some"] ["_law_pen_here", "_law_some"] (defScope s_pick) := ⟨rfl, rfl, rfl, by decide +kernel, rfl, by decide +kernel, by decide +kernel⟩

/-- all but the object at p stands as it stood -/
def Fr (p : Addr) (H H' : Hp) : Prop := ∀ b o, H b = some o → b ≠ p → H' b = some o
theorem Fr.refl {p : Addr} {H : Hp} : Fr p H H := fun _ _ h _ => h
theorem Fr.trans {p : Addr} {H H1 H2 : Hp} (a : Fr p H H1) (b : Fr p H1 H2) : Fr p H H2 := fun c o h n => b c o (a c o h n) n
theorem Fr.new {p q : Addr} {o : HO} {H : Hp} (h : H q = none) : Fr p H (upd H q o) := fun b u e _ => by
  rw [upd_ne (ne_of_none e h)]; exact e
theorem Fr.at {p : Addr} {o : HO} {H : Hp} : Fr p H (upd H p o) := fun b u e n => by
  rw [upd_ne n]; exact e
theorem Fr.none' {p q : Addr} {H H' : Hp} (a : Fr p H H') (hp : H' p ≠ none) (h : H' q = none) : H q = none := by
  cases e : H q with
  | none => rfl
  | some o =>
    by_cases hq : q = p
    · subst hq; exact absurd h hp
    · rw [a q o e hq] at h; cases h
/-- the pen at p, the script's ints at l, n draws are let -/
structure PenAt (H : Hp) (p l : Addr) (ns : List Int) (n : Nat) : Prop where
  here : ∃ (spot great : Int), H p = some (.lst [.ref l, .int spot, .int great]) ∧ 0 ≤ spot ∧ spot + n ≤ 1000000 ∧ 0 ≤ great
  nums : H l = some (.lst (ns.map V.int))
  ne : l ≠ p
  short : ns.length ≤ 63
theorem PenAt.less {H : Hp} {p l : Addr} {ns : List Int} {n m : Nat} (P : PenAt H p l ns n) (h : m ≤ n) : PenAt H p l ns m := by
  obtain ⟨⟨s, g, h1, h2, h3, h4⟩, i, e, sh⟩ := P
  exact ⟨⟨s, g, h1, h2, by omega, h4⟩, i, e, sh⟩
theorem PenAt.some' {H : Hp} {p l : Addr} {ns : List Int} {n : Nat} (P : PenAt H p l ns n) : H p ≠ none := by
  obtain ⟨⟨s, g, h1, _⟩, _⟩ := P
  rw [h1]; exact fun z => nomatch z
theorem PenAt.new {H : Hp} {p l q : Addr} {o : HO} {ns : List Int} {n : Nat} (P : PenAt H p l ns n) (h : H q = none) : PenAt (upd H q o) p l ns n := by
  obtain ⟨⟨s, g, h1, h2, h3, h4⟩, i, e, sh⟩ := P
  exact ⟨⟨s, g, by rw [upd_ne (ne_of_none h1 h)]; exact h1, h2, h3, h4⟩, by rw [upd_ne (ne_of_none i h)]; exact i, e, sh⟩
/-- another object is written -/
theorem PenAt.other {H : Hp} {p l q : Addr} {o : HO} {ns : List Int} {n : Nat} (P : PenAt H p l ns n) (h : q ≠ p) (h' : q ≠ l) : PenAt (upd H q o) p l ns n := by
  obtain ⟨⟨s, g, h1, h2, h3, h4⟩, i, e, sh⟩ := P
  exact ⟨⟨s, g, by rw [upd_ne (Ne.symm h)]; exact h1, h2, h3, h4⟩, by rw [upd_ne (Ne.symm h')]; exact i, e, sh⟩
def spDraw : Sp := fun vs H Q _ => ∃ (p l : Addr) (ns : List Int) (n : Nat) (many : Int), vs = [.ref p, .int many] ∧ PenAt H p l ns (n + 1) ∧ 0 < many ∧ many < 1000 ∧
  ∀ (v : Int) (H' : Hp), 0 ≤ v → v < many → PenAt H' p l ns n → Fr p H H' → Q (.int v) H'
section
variable {P : Program} {w : World} {K : PySem.W.Frag} {mg : Str → Option Value} {base : Heap}
theorem ints_at {ns : List Int} {i : Int} (h0 : 0 ≤ i) (h : i < ns.length) : ∃ z : Int, atI (ns.map V.int) i = some (.int z) := by
  obtain ⟨j, rfl⟩ : ∃ j : Nat, i = j := ⟨i.toNat, by omega⟩
  have hj : j < ns.length := by omega
  exact ⟨ns[j], atI_nat (by rw [List.getElem?_map, List.getElem?_eq_getElem hj]; rfl)⟩
def dInts (ns : List Int) : List PyData := ns.map PyData.int
theorem dp_ints {H : Hp} : ∀ ns : List Int, DpAll K H (ns.map V.int) (dInts ns)
  | [] => .nil
  | n :: ns => .cons (.int n) (dp_ints ns)
theorem lay_ints : ∀ ns : List Int, PyData.canLayAll0 (dInts ns) = true
  | [] => by simp [dInts, PyData.canLayAll0]
  | n :: ns => by
    have h := lay_ints ns
    simp only [dInts, List.map_cons, PyData.canLayAll0, PyData.canLay0, Bool.true_and]
    exact h
theorem depth_ints : ∀ ns : List Int, PyData.depthAll (dInts ns) = 0
  | [] => by simp [dInts, PyData.depthAll]
  | n :: ns => by
    have h := depth_ints ns
    simp only [dInts, List.map_cons, PyData.depthAll, PyData.depth]
    unfold dInts at h
    omega
theorem shaped_ints (ns : List Int) : SeqAt.shaped (.list (dInts ns)) = true := by
  have h2 : PyData.depth (.list (dInts ns)) ≤ 64 := by
    simp only [PyData.depth, depth_ints]
    omega
  show (PyData.canLay0 (.list (dInts ns)) && decide (PyData.depth (.list (dInts ns)) ≤ 64)) = true
  rw [Bool.and_eq_true]
  exact ⟨by simp only [PyData.canLay0]; exact lay_ints ns, decide_eq_true h2⟩
structure Blt (mg : Str → Option Value) : Prop where
  list : mg "list" = none
  int : mg "int" = none
  len : mg "len" = none
  abs : mg "abs" = none
  range : mg "range" = none
  dict : mg "dict" = none
  str : mg "str" = none
  sorted : mg "sorted" = none
  tuple : mg "tuple" = none
theorem pw2 {st spot : Int} (s0 : 0 ≤ st) (s1 : st < 2147469817) (h0 : 0 ≤ spot) (h1 : spot ≤ 1000000) : (st * (2 * spot + 125) + 60097 * spot * spot + 99).natAbs < 2 ^ 64 := by
  have a1 : st * (2 * spot + 125) ≤ 2147483647 * 2000999 := Int.mul_le_mul (by omega) (by omega) (by omega) (by omega)
  have a0 : 0 ≤ st * (2 * spot + 125) := Int.mul_nonneg s0 (by omega)
  have c1 : 60097 * spot * spot ≤ 99999000000 * 1000000 := Int.mul_le_mul (by omega) h1 h0 (by omega)
  have c0 : 0 ≤ 60097 * spot * spot := Int.mul_nonneg (by omega) h0
  omega
theorem ok_draw {f : Addr} {fd : FuncData} {k : Nat} (F : Fun K "_law_draw" "_law_draw" s_draw f fd) (T : Blt mg) : FnOk P w K mg base CX0 (k + 1) f fd ["_law_pen_here", "_law_many"] spDraw := by
  refine F.ok sc_draw (fun vs H Q E h => ?_) (fun cdv A outer s H vs Q E hr h => ?_)
  · obtain ⟨p, l, ns, n, many, rfl, _⟩ := h
    rfl
  · obtain ⟨p, l, ns, n, many, rfl, PA, m0, m1, q⟩ := h
    obtain ⟨⟨spot, great, hp, hs0, hsn, hg⟩, hl, hne, hsh⟩ := id PA
    refine ⟨_, (pss_cons (ps_if (pt_cmpR op_gt (pe_ix (ix_listK (K := K) rfl) (pv 0) pe_int (fun _ _ => rfl)) pe_int (nomark _))
        (pss_cons (ps_set (i := 2) sc_draw.nd rfl (.inl rfl) (pe_op op_mod (pe_callTy call_int1 (by rfl) T.int (by decide +kernel) (pa_cons (pe_ix (ix_listK (K := K) rfl) (pv 0) pe_int (fun _ _ => rfl)) pa_nil)) (pv 1)))
        (pss_cons (ps_asg (pe_op op_fdiv (pe_callTy call_int1 (by rfl) T.int (by decide +kernel) (pa_cons (pe_ix (ix_listK (K := K) rfl) (pv 0) pe_int (fun _ _ => rfl)) pa_nil)) (pv 1)) (pg_sub (pv 0) pe_int set_list))
        (pss_one (ps_ret (pv 2)))))
        pss_nil)
      (pss_cons (ps_set (i := 3) sc_draw.nd rfl (.inl rfl) (pe_ix (ix_listK (K := K) rfl) (pv 0) pe_int (fun _ _ => rfl)))
      (pss_cons (ps_asg (pe_op op_add (pv 3) pe_int) (pg_sub (pv 0) pe_int set_list))
      (pss_cons (ps_set (i := 4) sc_draw.nd rfl (.inl rfl) (pe_op op_add (pe_op op_mul pe_int (pv 3)) pe_int))
      (pss_cons (ps_if (pt_cmpR (op_neDK (K := K) rfl hr.units) (pe_ix (ix_listK (K := K) rfl) (pv 0) pe_int (fun _ _ => rfl)) (pe_lst pa_nil) (nomark _))
        (pss_one (ps_set (i := 4) sc_draw.nd rfl (.inl rfl) (pe_ix (ix_listK (K := K) rfl) (pe_ix (ix_listK (K := K) rfl) (pv 0) pe_int (fun _ _ => rfl)) (pe_op op_mod (pe_callTy call_int1 (by rfl) T.int (by decide +kernel) (pa_cons (pv 3) pa_nil)) (pe_callB (call_len_seqK (K := K) rfl) (by rfl) T.len (by decide +kernel) (pa_cons (pe_ix (ix_listK (K := K) rfl) (pv 0) pe_int (fun _ _ => rfl)) pa_nil))) (fun _ _ => rfl))))
        pss_nil)
      (pss_cons (ps_if (PW.pt (pw_and (pt_cmpR op_lt (pv 3) (pe_callB (call_len_seqK (K := K) rfl) (by rfl) T.len (by decide +kernel) (pa_cons (pe_ix (ix_listK (K := K) rfl) (pv 0) pe_int (fun _ _ => rfl)) pa_nil)) (nomark _)) (pw_and1 (pt_cmpR op_ge (pe_callB call_abs (by rfl) T.abs (by decide +kernel) (pa_cons (pv 4) pa_nil)) (pe_op op_pow pe_int pe_int) (nomark _)))))
        (pss_cons (ps_set (i := 5) sc_draw.nd rfl (.inl rfl) (pe_op op_add (pe_op op_mul pe_int (pe_op op_sub (pe_callB call_abs (by rfl) T.abs (by decide +kernel) (pa_cons (pv 4) pa_nil)) (pe_op op_pow pe_int pe_int))) (pe_callTy call_int1 (by rfl) T.int (by decide +kernel) (pa_cons (pe_cmpR op_lt (pv 4) pe_int (nomark _)) pa_nil))))
        (pss_cons (ps_asg (pe_op op_fdiv (pe_callTy call_int1 (by rfl) T.int (by decide +kernel) (pa_cons (pv 5) pa_nil)) (pv 1)) (pg_sub (pv 0) pe_int set_list))
        (pss_one (ps_ret (pe_op op_mod (pe_callTy call_int1 (by rfl) T.int (by decide +kernel) (pa_cons (pv 5) pa_nil)) (pv 1))))))
        pss_nil)
      (pss_cons (ps_set (i := 6) sc_draw.nd rfl (.inl rfl) (pe_op op_mod (pe_callTy call_int1 (by rfl) T.int (by decide +kernel) (pa_cons (pe_op op_pow (pe_op op_add (pe_op op_add (pe_op op_mod (pe_callTy call_int1 (by rfl) T.int (by decide +kernel) (pa_cons (pv 4) pa_nil)) pe_int) (pe_op op_mul pe_int (pv 3))) pe_int) pe_int) pa_nil)) pe_int))
      (pss_cons (ps_set (i := 6) sc_draw.nd rfl (.inl rfl) (pe_op op_mod (pe_callTy call_int1 (by rfl) T.int (by decide +kernel) (pa_cons (pe_op op_pow (pe_op op_add (pe_op op_add (pe_op op_mul (pv 6) (pe_op op_add (pe_op op_mul pe_int (pv 3)) pe_int)) (pe_op op_mul (pe_op op_mul pe_int (pv 3)) (pv 3))) pe_int) pe_int) pa_nil)) pe_int))
      (pss_one (ps_ret (pe_op op_mod (pe_callTy call_int1 (by rfl) T.int (by decide +kernel) (pa_cons (pe_op op_fdiv (pv 6) pe_int) pa_nil)) (pv 1)))))))))))), ?_⟩
    -- pen[2] > 0
    refine ⟨_, rfl, p, _, 2, _, rfl, rfl, SqL.of hp, rfl, great, 0, rfl, rfl, _, rfl, ?_⟩
    refine ite2 (fun e => ?_) (fun e => ?_)
    · refine ⟨_, rfl, p, _, 2, _, rfl, rfl, SqL.of hp, rfl, .inl ⟨_, rfl, _, rfl, _, _, rfl, rfl, m0, ?_⟩⟩
      refine ⟨_, rfl, p, _, 2, _, rfl, rfl, SqL.of hp, rfl, .inl ⟨_, rfl, _, rfl, _, _, rfl, rfl, ⟨m0, by omega⟩, _, rfl, p, _, 2, 2, rfl, rfl, hp, rfl, ?_⟩⟩
      refine ⟨_, rfl, q _ _ (Int.emod_nonneg _ (by omega)) (Int.emod_lt_of_pos _ m0) ⟨⟨spot, great / many, upd_same, hs0, by omega, Int.ediv_nonneg hg (by omega)⟩, by rw [upd_ne hne]; exact hl, hne, hsh⟩ Fr.at⟩
    -- spot = pen[1]; pen[1] = spot + 1; cell = ..
    refine ⟨_, rfl, p, _, 1, _, rfl, rfl, SqL.of hp, rfl, ?_⟩
    refine ⟨_, rfl, _, _, rfl, rfl, _, rfl, p, _, 1, 1, rfl, rfl, hp, rfl, ?_⟩
    refine ⟨_, rfl, _, _, rfl, rfl, .inl ⟨by decide, by decide⟩, _, _, rfl, rfl, ?_⟩
    have hp1 : upd H p (.lst [.ref l, .int (spot + 1), .int great]) p = some (.lst [.ref l, .int (spot + 1), .int great]) := upd_same
    have hl1 : upd H p (.lst [.ref l, .int (spot + 1), .int great]) l = some (.lst (ns.map V.int)) := by rw [upd_ne hne]; exact hl
    dsimp only [List.set_cons_succ, List.set_cons_zero]
    -- pen[0] != []
    refine ⟨_, rfl, p, _, 0, _, rfl, rfl, SqL.of hp1, rfl, Nat.zero_le _, fun o no => ?_⟩
    have hpo : p ≠ o := ne_of_none hp1 no
    have hlo : l ≠ o := ne_of_none hl1 no
    have hp2 : upd (upd H p (.lst [.ref l, .int (spot + 1), .int great])) o (.lst []) p = some (.lst [.ref l, .int (spot + 1), .int great]) := by rw [upd_ne hpo]; exact hp1
    have hl2 : upd (upd H p (.lst [.ref l, .int (spot + 1), .int great])) o (.lst []) l = some (.lst (ns.map V.int)) := by rw [upd_ne hlo]; exact hl1
    have fr2 : Fr p H (upd (upd H p (.lst [.ref l, .int (spot + 1), .int great])) o (.lst [])) := Fr.at.trans (Fr.new no)
    refine ⟨_, _, .lst (SqL.of hl2) (dp_ints ns), .lst (SqL.of upd_same) .nil, shaped_ints ns, by decide, _, rfl, ?_⟩
    generalize upd (upd H p (.lst [.ref l, .int (spot + 1), .int great])) o (.lst []) = H2 at hp2 hl2 fr2 ⊢
    refine ite2 (fun e => ?g1) (fun e => ?g2)
    case' g1 =>
      have hns : 0 < ns.length := by
        cases ns with
        | nil => simp [dInts, PyData.eqv, PyData.eqvAll] at e
        | cons a r => simp
      have hpos : (0 : Int) < ((ns.map V.int).length : Int) := by rw [List.length_map]; omega
      obtain ⟨z, hz⟩ := ints_at (ns := ns) (i := spot % ((ns.map V.int).length : Int)) (Int.emod_nonneg _ (by omega)) (by
        have := Int.emod_lt_of_pos spot hpos
        rw [List.length_map] at this ⊢
        exact this)
      refine ⟨_, rfl, p, _, 0, _, rfl, rfl, SqL.of hp2, rfl, _, rfl, .inl ⟨_, rfl, _, rfl, p, _, 0, _, rfl, rfl, SqL.of hp2, rfl, l, _, rfl, .inl (SqL.of hl2), _, _, rfl, rfl, hpos, l, _, _, _, rfl, rfl, SqL.of hl2, hz, ?_⟩⟩
      generalize z = c
      refine ⟨_, rfl, _, rfl, p, _, 0, _, rfl, rfl, SqL.of hp2, rfl, l, _, rfl, .inl (SqL.of hl2), _, _, rfl, rfl, _, rfl, ?_⟩
      refine ite2 (fun e1 => ?a3) (fun e1 => ?a4)
      case' a3 =>
        refine ⟨_, rfl, _, rfl, _, _, rfl, rfl, ⟨by decide, by decide, by decide⟩, _, _, rfl, rfl, _, rfl, ?_⟩
        refine ite2 (fun e2 => ?a5) (fun e2 => ?a6)
        case' a5 =>
          have hge := of_decide_eq_true e2
          refine ⟨_, rfl, _, rfl, _, _, rfl, rfl, ⟨by decide, by decide, by decide⟩, _, _, rfl, rfl, _, _, rfl, rfl, .inl ⟨by decide, by decide⟩, _, rfl, _, _, rfl, rfl, .inr ⟨_, rfl, _, _, rfl, rfl, ?_⟩⟩
          have hG : 0 ≤ 2 * ((if c < 0 then -c else c) - 10 ^ (18 : Int).toNat) + (if decide (c < 0) = true then 1 else 0) := by
            have h1 : (10 : Int) ^ (18 : Int).toNat ≤ (if c < 0 then -c else c) := hge
            have h2 : (0 : Int) ≤ (if decide (c < 0) = true then 1 else 0) := by split <;> decide
            omega
          refine ⟨_, rfl, .inl ⟨_, rfl, _, rfl, _, _, rfl, rfl, ⟨m0, by omega⟩, _, rfl, p, _, 2, 2, rfl, rfl, hp2, rfl, ?_⟩⟩
          refine ⟨_, rfl, .inl ⟨_, rfl, _, rfl, _, _, rfl, rfl, m0, ?_⟩⟩
          exact q _ _ (Int.emod_nonneg _ (by omega)) (Int.emod_lt_of_pos _ m0) ⟨⟨spot + 1, _, upd_same, by omega, by omega, Int.ediv_nonneg hG (by omega)⟩, by rw [upd_ne hne]; exact hl2, hne, hsh⟩ (fr2.trans Fr.at)
      case' a4 => refine iteF ?_
    case' g2 =>
      generalize 80119 * spot + 743 = c
      refine ⟨_, rfl, _, rfl, p, _, 0, _, rfl, rfl, SqL.of hp2, rfl, l, _, rfl, .inl (SqL.of hl2), _, _, rfl, rfl, _, rfl, ?_⟩
      refine ite2 (fun e1 => ?b3) (fun e1 => ?b4)
      case' b3 =>
        refine ⟨_, rfl, _, rfl, _, _, rfl, rfl, ⟨by decide, by decide, by decide⟩, _, _, rfl, rfl, _, rfl, ?_⟩
        refine ite2 (fun e2 => ?b5) (fun e2 => ?b6)
        case' b5 =>
          have hge := of_decide_eq_true e2
          refine ⟨_, rfl, _, rfl, _, _, rfl, rfl, ⟨by decide, by decide, by decide⟩, _, _, rfl, rfl, _, _, rfl, rfl, .inl ⟨by decide, by decide⟩, _, rfl, _, _, rfl, rfl, .inr ⟨_, rfl, _, _, rfl, rfl, ?_⟩⟩
          have hG : 0 ≤ 2 * ((if c < 0 then -c else c) - 10 ^ (18 : Int).toNat) + (if decide (c < 0) = true then 1 else 0) := by
            have h1 : (10 : Int) ^ (18 : Int).toNat ≤ (if c < 0 then -c else c) := hge
            have h2 : (0 : Int) ≤ (if decide (c < 0) = true then 1 else 0) := by split <;> decide
            omega
          refine ⟨_, rfl, .inl ⟨_, rfl, _, rfl, _, _, rfl, rfl, ⟨m0, by omega⟩, _, rfl, p, _, 2, 2, rfl, rfl, hp2, rfl, ?_⟩⟩
          refine ⟨_, rfl, .inl ⟨_, rfl, _, rfl, _, _, rfl, rfl, m0, ?_⟩⟩
          exact q _ _ (Int.emod_nonneg _ (by omega)) (Int.emod_lt_of_pos _ m0) ⟨⟨spot + 1, _, upd_same, by omega, by omega, Int.ediv_nonneg hG (by omega)⟩, by rw [upd_ne hne]; exact hl2, hne, hsh⟩ (fr2.trans Fr.at)
      case' b4 => refine iteF ?_
    all_goals
      have b0 := Int.emod_nonneg c (show (2147479819 : Int) ≠ 0 by decide)
      have b1 := Int.emod_lt_of_pos c (show (0 : Int) < 2147479819 by decide)
      refine ⟨_, rfl, .inl ⟨_, rfl, _, _, rfl, rfl, (show (0 : Int) < 2147479819 by decide), _, rfl, _, _, rfl, rfl, .inl ⟨by decide, by decide⟩, _, _, rfl, rfl, _, _, rfl, rfl, _, _, rfl, rfl, ⟨by decide, by decide, by omega⟩, .inl ⟨_, rfl, _, _, rfl, rfl, (show (0 : Int) < 2147469817 by decide), ?_⟩⟩⟩
      have s0 : 0 ≤ ((c % 2147479819 + 71165 * spot + 349) ^ (5 : Int).toNat) % 2147469817 := Int.emod_nonneg _ (by decide)
      have s1 : ((c % 2147479819 + 71165 * spot + 349) ^ (5 : Int).toNat) % 2147469817 < 2147469817 := Int.emod_lt_of_pos _ (by decide)
      have hsp : spot ≤ 1000000 := by omega
      refine ⟨_, rfl, _, rfl, _, _, rfl, rfl, .inl ⟨by decide, by decide⟩, _, _, rfl, rfl, _, _, rfl, rfl, .inl ⟨by omega, by omega⟩, _, rfl, _, _, rfl, rfl, .inl ⟨by decide, by decide⟩, _, rfl, _, _, rfl, rfl, .inl ⟨by omega, by omega⟩, _, _, rfl, rfl, _, _, rfl, rfl, _, _, rfl, rfl, ⟨by decide, by decide, pw2 s0 s1 hs0 hsp⟩, .inl ⟨_, rfl, _, _, rfl, rfl, (show (0 : Int) < 2147459851 by decide), ?_⟩⟩
      refine ⟨_, rfl, _, _, rfl, rfl, ⟨by decide, by decide⟩, .inl ⟨_, rfl, _, rfl, _, _, rfl, rfl, m0, ?_⟩⟩
      exact q _ _ (Int.emod_nonneg _ (by omega)) (Int.emod_lt_of_pos _ m0) ⟨⟨spot + 1, great, hp2, by omega, by omega, hg⟩, hl2, hne, hsh⟩ fr2
end
end V8

set_option Elab.async false
set_option linter.all false
set_option maxRecDepth 100000
set_option maxHeartbeats 4000000
/-! What the law draws: a pick, letters, images, tables. -/
namespace V8
open PySem PySem.Spec PyProof.Rows L2
/-- the text of one sign; of several -/
def L1 (c : Nat) : Str := ⟨#[c]⟩
def Sx (cs : List Nat) : Str := ⟨cs.toArray⟩
theorem L1_Sx (c : Nat) : L1 c = Sx [c] := rfl
theorem L1_inj {a b : Nat} (h : L1 a = L1 b) : a = b := by
  have h1 : (#[a] : Array Nat) = #[b] := congrArg Str.cps h
  simpa using h1
theorem Sx_inj {a b : List Nat} (h : Sx a = Sx b) : a = b := by
  have h1 : a.toArray = b.toArray := congrArg Str.cps h
  simpa using h1
def isLt (c : Nat) : Prop := 97 ≤ c ∧ c ≤ 122
instance (c : Nat) : Decidable (isLt c) := inferInstanceAs (Decidable (97 ≤ c ∧ c ≤ 122))
def lets (cs : List Nat) : List V := cs.map fun c => V.str (L1 c)
theorem lets_len (cs : List Nat) : (lets cs).length = cs.length := List.length_map ..
theorem lets_erase (cs : List Nat) (k : Nat) : (lets cs).eraseIdx k = lets (cs.eraseIdx k) := by
  unfold lets
  rw [List.eraseIdx_eq_take_drop_succ, List.eraseIdx_eq_take_drop_succ, List.map_append, List.map_take, List.map_drop]
theorem lets_snoc (cs : List Nat) (c : Nat) : lets (cs ++ [c]) = lets cs ++ [V.str (L1 c)] := by
  unfold lets
  rw [List.map_append]
  rfl
/-- a thing that is new, as seen from the start, is written -/
theorem Fr.put {p a : Addr} {o : HO} {H H1 : Hp} (f : Fr p H H1) (hn : H a = none) : Fr p H (upd H1 a o) := fun b u e n => by
  rw [upd_ne (ne_of_none e hn)]
  exact f b u e n
theorem lets_mem {cs : List Nat} {v : V} (h : v ∈ lets cs) : ∃ c ∈ cs, v = .str (L1 c) := by
  obtain ⟨c, hc, e⟩ := List.mem_map.mp h
  exact ⟨c, hc, e.symm⟩
/-- a to z -/
def abc : List Nat := (List.range 26).map (· + 97)
theorem abc_len : abc.length = 26 := by decide
theorem abc_nd : abc.Nodup := by decide
theorem abc_mem {c : Nat} : c ∈ abc ↔ isLt c := by
  unfold abc isLt
  rw [List.mem_map]
  constructor
  · rintro ⟨a, ha, rfl⟩
    have := List.mem_range.mp ha
    omega
  · rintro ⟨h1, h2⟩
    exact ⟨c - 97, List.mem_range.mpr (by omega), by omega⟩
def abcS : Str := "abcdefghijklmnopqrstuvwxyz"
theorem abcS_cps : abcS.cps.toList = abc := by decide +kernel
abbrev s_some_letters : Stmt := topS 47
abbrev n_some_letters : List Str := ["_law_pen_here", "_law_many", "_law_pool", "_law_k"]
theorem sc_some_letters : FnScope ["_law_pen_here", "_law_many", "_law_pool", "_law_k"] ["_law_pen_here", "_law_many"] (defScope s_some_letters) := ⟨rfl, rfl, rfl, by decide +kernel, rfl, by decide +kernel, by decide +kernel⟩

def spPick (K : PySem.W.Frag) : Sp := fun vs H Q _ => ∃ (p l a : Addr) (ns : List Int) (n : Nat) (xs : List V), vs = [.ref p, .ref a] ∧ PenAt H p l ns (n + 1) ∧ SqL K H a xs ∧ 0 < xs.length ∧ xs.length < 1000 ∧
  (∀ H', Fr p H H' → SqL K H' a xs) ∧ ∀ (v : V) (H' : Hp), v ∈ xs → PenAt H' p l ns n → Fr p H H' → Q v H'
theorem SqL.fr {K : PySem.W.Frag} {H H' : Hp} {p a : Addr} {xs : List V} (h : SqL K H a xs) (f : Fr p H H') (ne : a ≠ p) : SqL K H' a xs :=
  h.elim (fun h => .inl (h.elim (fun h => .inl (f _ _ h ne)) fun ⟨o, h⟩ => .inr ⟨o, f _ _ h ne⟩)) fun h => .inr h
def spLetters : Sp := fun vs H Q _ => ∃ (p l : Addr) (ns : List Int) (n : Nat) (many : Nat), vs = [.ref p, .int many] ∧ PenAt H p l ns (n + many) ∧ many ≤ 26 ∧
  ∀ (D : Addr) (cs : List Nat) (H' : Hp), cs.length = many → cs.Nodup → (∀ c ∈ cs, isLt c) → PenAt H' p l ns n → Fr p H H' → H D = none → H' D = some (.lst (lets cs)) → Q (.ref D) H'
section
variable {P : Program} {w : World} {K : PySem.W.Frag} {mg : Str → Option Value} {base : Heap}
theorem ok_pick {f : Addr} {fd : FuncData} (F : Fun K "_law_pick" "_law_pick" s_pick f fd) (T : Blt mg) (D_draw : Df P w K mg base 1 "_law_draw" spDraw) : FnOk P w K mg base CX0 2 f fd ["_law_pen_here", "_law_some"] (spPick K) := by
  refine F.ok sc_pick (fun vs H Q E h => ?_) (fun cdv A outer s H vs Q E hr h => ?_)
  · obtain ⟨p, l, a, ns, n, xs, rfl, _⟩ := h
    rfl
  · obtain ⟨p, l, a, ns, n, xs, rfl, PA, hS, h0, h1, st, q⟩ := h
    refine ⟨_, (pss_one (ps_ret (pe_ix (ix_listK (K := K) rfl) (pv 1) (pe_c D_draw hr (by decide) (by rfl) (pa_cons (pv 0) (pa_cons (pe_callB (call_len_seqK (K := K) rfl) (by rfl) T.len (by decide +kernel) (pa_cons (pv 1) pa_nil)) pa_nil))) (fun _ _ => rfl)))), ?_⟩
    refine ⟨.ref a, rfl, .ref p, rfl, .ref a, rfl, a, xs, rfl, .inl hS, p, l, ns, n, _, rfl, PA, by omega, by omega, fun v H' v0 v1 PA' fr => ?_⟩
    obtain ⟨j, rfl⟩ : ∃ j : Nat, v = j := ⟨v.toNat, by omega⟩
    have hj : j < xs.length := by omega
    exact ⟨a, xs, j, xs[j], rfl, rfl, st H' fr, atI_nat (List.getElem?_eq_getElem hj), q _ _ (List.getElem_mem hj) PA' fr⟩
theorem perm_erase {got rest : List Nat} {k : Nat} {y : Nat} (hp : (got ++ rest).Perm abc) (hy : rest[k]? = some y) : ((got ++ [y]) ++ rest.eraseIdx k).Perm abc := by
  refine List.Perm.trans ?_ hp
  rw [List.append_assoc]
  refine List.Perm.append_left got ?_
  show (y :: rest.eraseIdx k).Perm rest
  obtain ⟨hk, e⟩ := List.getElem?_eq_some_iff.mp hy
  rw [List.eraseIdx_eq_take_drop_succ]
  have h2 : rest = rest.take k ++ (y :: rest.drop (k + 1)) := by
    rw [← e, ← List.drop_eq_getElem_cons hk, List.take_append_drop]
  exact (List.perm_middle.symm).trans (List.Perm.of_eq h2.symm)
theorem ok_some_letters {f : Addr} {fd : FuncData} (F : Fun K "_law_some_letters" "_law_some_letters" s_some_letters f fd) (T : Blt mg) (D_draw : Df P w K mg base 1 "_law_draw" spDraw) : FnOk P w K mg base CX0 2 f fd ["_law_pen_here", "_law_many"] spLetters := by
  refine F.ok sc_some_letters (fun vs H Q E h => ?_) (fun cdv A outer s H vs Q E hr h => ?_)
  · obtain ⟨p, l, ns, n, many, rfl, _⟩ := h
    rfl
  · obtain ⟨p, l, ns, n, many, rfl, PA, hm, q⟩ := h
    refine ⟨_, (pss_cons (ps_set (i := 2) sc_some_letters.nd rfl (.inr rfl) (pe_callTy (call_listS rfl) (by rfl) T.list (by decide +kernel) (pa_cons pe_str pa_nil)))
      (pss_one (ps_ret (pe_lc (own := [("_law_k", 3)]) (g := gName 3) (by rfl) sc_some_letters.nd (pi_range1 (by rfl) T.range (pa_cons (pv 1) pa_nil)) (blkOk_by (own := [("_law_k", 3)]) (N := n_some_letters) (sc := defScope s_some_letters) (by decide +kernel)) (fun _ _ _ _ _ => (pg_name (i := 3) sc_some_letters.nd rfl (.inl rfl))) (fun _ _ _ _ _ => pts_nil) (fun _ _ _ _ _ => (pe_bmK (K := K) rfl PySem.F.plainAttrs_list PySem.F.slot_list_pop PySem.F.type_list_pop mt_popAt (pv 2) (pa_cons (pe_c D_draw hr (by decide) (by rfl) (pa_cons (pv 0) (pa_cons (pe_callB (call_len_seqK (K := K) rfl) (by rfl) T.len (by decide +kernel) (pa_cons (pv 2) pa_nil)) pa_nil))) pa_nil))))))), ?_⟩
    refine ⟨_, rfl, by decide, fun a na => ?_⟩
    have ePool : (List.map (fun c => V.str ⟨#[c]⟩) (Str.ofString "abcdefghijklmnopqrstuvwxyz").cps.toList) = lets abc := by
      show List.map (fun c => V.str (L1 c)) abcS.cps.toList = lets abc
      rw [abcS_cps]
      rfl
    rw [ePool]
    have PA1 := PA.new (o := .lst (lets abc)) na
    have hap : p ≠ a := by
      obtain ⟨⟨sp, g, h1, _⟩, _⟩ := PA
      exact ne_of_none h1 na
    have hla : l ≠ a := ne_of_none PA.nums na
    refine ⟨_, rfl, many, rfl, by omega, by omega, fun D nD => lc_range (lo := 0) (n := many) (fun i H2 => ∃ got rest : List Nat, (got ++ rest).Perm abc ∧ got.length = i ∧ H2 D = some (.lst (lets got)) ∧ H2 a = some (.lst (lets rest)) ∧ PenAt H2 p l ns (n + (many - i)) ∧ Fr p H H2) ?_ ?_ ?_⟩
    · have hDa : a ≠ D := ne_of_none upd_same nD
      refine ⟨[], abc, List.Perm.refl _, rfl, upd_same, by rw [upd_ne hDa, upd_same], (PA1.new nD).less (by omega), (Fr.new na).trans (Fr.new nD)⟩
    · rintro i H2 hi ⟨got, rest, pm, hg, hD, ha, PA2, fr⟩
      have hlen : got.length + rest.length = 26 := by
        have := pm.length_eq
        rw [List.length_append, abc_len] at this
        exact this
      have hDa : D ≠ a := by
        intro e
        subst e
        rw [upd_same] at nD
        cases nD
      have nDH : H D = none := by
        cases e : H D with
        | none => rfl
        | some o =>
          rw [upd_ne (ne_of_none e na), e] at nD
          cases nD
      have hDp : D ≠ p := by
        intro e
        subst e
        obtain ⟨⟨sp, g, h1, _⟩, _⟩ := PA1
        rw [h1] at nD
        cases nD
      have hDl : D ≠ l := by
        intro e
        subst e
        rw [PA1.nums] at nD
        cases nD
      have hr0 : 0 < (lets rest).length := by rw [lets_len]; omega
      refine ⟨rfl, ⟨_, rfl, .inl ⟨rfl, _, SqL.of ha⟩, _, rfl, _, rfl, a, _, rfl, .inl (SqL.of ha), p, l, ns, n + (many - (i + 1)), _, rfl, PA2.less (by omega), by omega, by rw [lets_len]; omega, fun v H3 v0 v1 PA3 fr3 => ?_⟩⟩
      obtain ⟨j, rfl⟩ : ∃ j : Nat, v = j := ⟨v.toNat, by omega⟩
      have hj : j < rest.length := by rw [lets_len] at v1; omega
      have hx : (lets rest)[j]? = some (.str (L1 rest[j])) := by
        unfold lets
        rw [List.getElem?_map, List.getElem?_eq_getElem hj]
        rfl
      have ha3 : H3 a = some (.lst (lets rest)) := fr3 _ _ ha (Ne.symm hap)
      have hD3 : H3 D = some (.lst (lets got)) := fr3 _ _ hD hDp
      have hk : seqIndex? (j : Int) (lets rest).length = some j := by
        unfold seqIndex?
        rw [lets_len]
        simp
        omega
      refine ⟨a, _, _, j, _, rfl, rfl, ha3, by omega, by omega, hk, hx, lets got, by rw [upd_ne hDa]; exact hD3, by rw [lets_len]; exact small1000 (by omega), got ++ [rest[j]], rest.eraseIdx j, perm_erase pm (List.getElem?_eq_getElem hj), by simp [hg], ?_, ?_, ?_, ?_⟩
      · rw [upd_same]
        unfold lets
        rw [List.map_append]
        rfl
      · rw [upd_ne (Ne.symm hDa), upd_same]
        rw [lets_erase]
      · exact (PA3.other (Ne.symm hap) (Ne.symm hla)).other hDp hDl
      · exact ((fr.trans fr3).put na).put nDH
    · rintro H2 ⟨got, rest, pm, hg, hD, ha, PA2, fr⟩
      have hnd : (got ++ rest).Nodup := pm.nodup_iff.mpr abc_nd
      have nD' : H D = none := by
        cases e : H D with
        | none => rfl
        | some o =>
          rw [upd_ne (ne_of_none e na), e] at nD
          cases nD
      refine q D got H2 hg (List.nodup_append.mp hnd).1 (fun c hc => abc_mem.mp (pm.mem_iff.mp (List.mem_append_left _ hc))) (PA2.less (by omega)) fr nD' hD
end
end V8

set_option Elab.async false
set_option linter.all false
set_option maxRecDepth 100000
set_option maxHeartbeats 4000000
/-! Tables of letters and images, as the law draws them. -/
namespace V8
open PySem PySem.Spec PyProof.Rows L2
abbrev Tab := List (Nat × List Nat)
def encT (t : Tab) : List (Key × V) := t.map fun q => (Sum.inr (L1 q.1), V.str (Sx q.2))
def lookT (t : Tab) (c : Nat) : Option (List Nat) := (t.find? fun q => decide (q.1 = c)).map (·.2)
def putT (t : Tab) (c : Nat) (s : List Nat) : Tab := if (t.any fun q => decide (q.1 = c)) = true then t.map (fun q => if q.1 = c then (q.1, s) else q) else t ++ [(c, s)]
theorem encT_len (t : Tab) : (encT t).length = t.length := List.length_map ..
theorem key_dec (a c : Nat) : decide ((Sum.inr (L1 a) : Key) = Sum.inr (L1 c)) = decide (a = c) := by
  by_cases h : a = c
  · subst h
    simp
  · rw [decide_eq_false h, decide_eq_false]
    intro e
    exact h (L1_inj (Sum.inr.inj e))
theorem key_iff (a c : Nat) : ((Sum.inr (L1 a) : Key) = Sum.inr (L1 c)) ↔ a = c := by
  have := key_dec a c
  constructor
  · intro e
    exact L1_inj (Sum.inr.inj e)
  · intro e
    rw [e]
theorem valV_enc (c : Nat) : ∀ t : Tab, valV (encT t) (Sum.inr (L1 c)) = (lookT t c).map fun s => V.str (Sx s)
  | [] => rfl
  | q :: t => by
    have ih := valV_enc c t
    by_cases h : q.1 = c
    · subst h
      show valV ((Sum.inr (L1 q.1), V.str (Sx q.2)) :: encT t) _ = _
      rw [valV_pos rfl]
      simp [lookT]
    · show valV ((Sum.inr (L1 q.1), V.str (Sx q.2)) :: encT t) _ = _
      rw [valV_neg (fun e => h ((key_iff _ _).mp e)), ih]
      simp [lookT, List.find?_cons, h]
theorem any_enc (c : Nat) : ∀ t : Tab, ((encT t).any fun kv => decide (kv.1 = (Sum.inr (L1 c) : Key))) = t.any fun q => decide (q.1 = c)
  | [] => rfl
  | q :: t => by
    show (decide ((Sum.inr (L1 q.1) : Key) = Sum.inr (L1 c)) || (encT t).any _) = _
    rw [any_enc c t, key_dec]
    rfl
theorem putK_enc (t : Tab) (c : Nat) (s : List Nat) : putK (encT t) (Sum.inr (L1 c)) (V.str (Sx s)) = encT (putT t c s) := by
  unfold putK putT
  rw [any_enc]
  split
  · unfold encT
    rw [List.map_map, List.map_map]
    refine List.map_congr_left fun q _ => ?_
    show (if (Sum.inr (L1 q.1) : Key) = Sum.inr (L1 c) then _ else _) = _
    by_cases h : q.1 = c
    · rw [if_pos ((key_iff _ _).mpr h)]
      simp [h]
    · rw [if_neg (fun e => h ((key_iff _ _).mp e))]
      simp [h]
  · unfold encT
    rw [List.map_append]
    rfl
theorem keys_put {t : Tab} {c : Nat} {s : List Nat} : ∀ x ∈ putT t c s, (x ∈ t ∨ x = (c, s)) := by
  intro x hx
  unfold putT at hx
  split at hx
  · obtain ⟨q, hq, e⟩ := List.mem_map.mp hx
    by_cases h : q.1 = c
    · rw [if_pos h] at e
      rw [← e, h]
      exact .inr rfl
    · rw [if_neg h] at e
      rw [← e]
      exact .inl hq
  · rcases List.mem_append.mp hx with h | h
    · exact .inl h
    · exact .inr (List.mem_singleton.mp h)
theorem put_nd {t : Tab} {c : Nat} {s : List Nat} (h : (t.map (·.1)).Nodup) : ((putT t c s).map (·.1)).Nodup := by
  unfold putT
  split
  · rw [List.map_map]
    have e : t.map ((·.1) ∘ fun q : Nat × List Nat => if q.1 = c then (q.1, s) else q) = t.map (·.1) := List.map_congr_left fun q _ => by
      show (if q.1 = c then (q.1, s) else q).1 = q.1
      split <;> rfl
    rw [e]
    exact h
  · rename_i hn
    rw [List.map_append]
    refine List.nodup_append.mpr ⟨h, by simp, fun x hx y hy e => ?_⟩
    have ey : y = c := by simpa using hy
    obtain ⟨q, hq, eq⟩ := List.mem_map.mp hx
    refine hn (List.any_eq_true.mpr ⟨q, hq, decide_eq_true ?_⟩)
    rw [eq, e, ey]
theorem put_len (t : Tab) (c : Nat) (s : List Nat) : (putT t c s).length ≤ t.length + 1 := by
  unfold putT
  split
  · rw [List.length_map]
    omega
  · rw [List.length_append]
    exact Nat.le_refl _
/-- an image that may be told -/
def GoodI (cs s : List Nat) : Prop := 1 ≤ s.length ∧ s.length ≤ 4 ∧ ∀ d ∈ s, d ∈ cs
structure GoodT (cs : List Nat) (t : Tab) : Prop where
  nd : (t.map (·.1)).Nodup
  key : ∀ q ∈ t, q.1 ∈ cs
  img : ∀ q ∈ t, GoodI cs q.2
theorem GoodT.nil {cs : List Nat} : GoodT cs [] := by
  refine ⟨List.nodup_nil, fun q h => ?_, fun q h => ?_⟩
  · cases h
  · cases h
theorem GoodT.put {cs : List Nat} {t : Tab} {c : Nat} {s : List Nat} (g : GoodT cs t) (hc : c ∈ cs) (hs : GoodI cs s) : GoodT cs (putT t c s) := by
  refine ⟨put_nd g.nd, fun q hq => ?_, fun q hq => ?_⟩
  · rcases keys_put q hq with h | rfl
    · exact g.key q h
    · exact hc
  · rcases keys_put q hq with h | rfl
    · exact g.img q h
    · exact hs
/-- joined signs -/
theorem join_L1 : ∀ cs : List Nat, Txt.join Str.empty (cs.map L1) = Sx cs := by
  intro cs
  rw [TL.join_eq]
  have h : TL.tl (Str.join Str.empty (cs.map L1)) = cs := by
    rw [TL.tl_join]
    have : ∀ l : List Nat, TL.joinL (TL.tl Str.empty) ((l.map L1).map TL.tl) = l := by
      intro l
      induction l with
      | nil => rfl
      | cons c r ih =>
        cases r with
        | nil => rfl
        | cons d r =>
          show TL.tl (L1 c) ++ (TL.tl Str.empty ++ TL.joinL (TL.tl Str.empty) ((((d :: r).map L1).map TL.tl))) = _
          rw [ih]
          rfl
    exact this cs
  have e2 : (Str.join Str.empty (cs.map L1)).cps.toList = cs := h
  show Str.join Str.empty (cs.map L1) = Sx cs
  unfold Sx
  cases hx : Str.join Str.empty (cs.map L1) with
  | mk a =>
    rw [hx] at e2
    have : a.toList = cs := e2
    rw [← this]
theorem sum_ones : ∀ l : List Nat, (l.map fun _ => 1).sum = l.length
  | [] => rfl
  | a :: r => by
    rw [List.map_cons, List.sum_cons, sum_ones r, List.length_cons]
    omega
theorem Sx_len (cs : List Nat) : (Sx cs).length = cs.length := by
  show cs.toArray.size = cs.length
  simp
abbrev s_any_image : Stmt := topS 49
abbrev n_any_image : List Str := ["_law_pen_here", "_law_some", "_law_many", "_law_k"]
theorem sc_any_image : FnScope ["_law_pen_here", "_law_some", "_law_many", "_law_k"] ["_law_pen_here", "_law_some"] (defScope s_any_image) := ⟨rfl, rfl, rfl, by decide +kernel, rfl, by decide +kernel, by decide +kernel⟩
abbrev s_escaped : Stmt := topS 48
abbrev n_escaped : List Str := ["_law_pen_here", "_law_some", "_law_tails", "_law_found", "_law_letter", "_law_stays"]
theorem sc_escaped : FnScope ["_law_pen_here", "_law_some", "_law_tails", "_law_found", "_law_letter", "_law_stays"] ["_law_pen_here", "_law_some"] (defScope s_escaped) := ⟨rfl, rfl, rfl, by decide +kernel, rfl, by decide +kernel, by decide +kernel⟩
abbrev s_table : Stmt := topS 50
abbrev n_table : List Str := ["_law_pen_here", "_law_some", "_law_way", "_law_left", "_law_found", "_law_letter"]
theorem sc_table : FnScope ["_law_pen_here", "_law_some", "_law_way", "_law_left", "_law_found", "_law_letter"] ["_law_pen_here", "_law_some"] (defScope s_table) := ⟨rfl, rfl, rfl, by decide +kernel, rfl, by decide +kernel, by decide +kernel⟩
def spImage : Sp := fun vs H Q _ => ∃ (p l a : Addr) (ns : List Int) (n : Nat) (cs : List Nat), vs = [.ref p, .ref a] ∧ PenAt H p l ns (n + 5) ∧ H a = some (.lst (lets cs)) ∧ a ≠ p ∧ cs ≠ [] ∧ cs.length ≤ 26 ∧ (∀ c ∈ cs, isLt c) ∧
  ∀ (s : List Nat) (H' : Hp), GoodI cs s → PenAt H' p l ns n → Fr p H H' → Q (.str (Sx s)) H'
def spTab (cost : Nat) : Sp := fun vs H Q _ => ∃ (p l a : Addr) (ns : List Int) (n : Nat) (cs : List Nat), vs = [.ref p, .ref a] ∧ PenAt H p l ns (n + cost) ∧ H a = some (.lst (lets cs)) ∧ a ≠ p ∧ cs ≠ [] ∧ cs.Nodup ∧ cs.length ≤ 26 ∧ (∀ c ∈ cs, isLt c) ∧
  ∀ (d : Addr) (t : Tab) (H' : Hp), GoodT cs t → PenAt H' p l ns n → Fr p H H' → H d = none → H' d = some (.dK (encT t)) → Q (.ref d) H'
theorem Fr.back {p q : Addr} {H H1 : Hp} (f : Fr p H H1) (hn : H1 q = none) (hp : q ≠ p) : H q = none := by
  cases e : H q with
  | none => rfl
  | some o =>
    rw [f _ _ e hp] at hn
    cases hn
theorem PenAt.nep {H : Hp} {p l q : Addr} {ns : List Int} {n : Nat} (P : PenAt H p l ns n) (h : H q = none) : q ≠ p := by
  intro e
  subst e
  exact P.some' h
theorem PenAt.nel {H : Hp} {p l q : Addr} {ns : List Int} {n : Nat} (P : PenAt H p l ns n) (h : H q = none) : q ≠ l := by
  intro e
  subst e
  rw [P.nums] at h
  cases h
section
variable {P : Program} {w : World} {K : PySem.W.Frag} {mg : Str → Option Value} {base : Heap}
theorem ok_any_image {f : Addr} {fd : FuncData} (F : Fun K "_law_any_image" "_law_any_image" s_any_image f fd) (T : Blt mg) (D_pick : Df P w K mg base 2 "_law_pick" (spPick K)) : FnOk P w K mg base CX0 3 f fd ["_law_pen_here", "_law_some"] spImage := by
  refine F.ok sc_any_image (fun vs H Q E h => ?_) (fun cdv A outer s H vs Q E hr h => ?_)
  · obtain ⟨p, l, a, ns, n, cs, rfl, _⟩ := h
    rfl
  · obtain ⟨p, l, a, ns, n, cs, rfl, PA, ha, hap, hne, h26, hlt, q⟩ := h
    refine ⟨_, (pss_cons (ps_set (i := 2) sc_any_image.nd rfl (.inl rfl) (pe_c D_pick hr (by decide) (by rfl) (pa_cons (pv 0) (pa_cons (pe_lst (pa_cons pe_int (pa_cons pe_int (pa_cons pe_int (pa_cons pe_int (pa_cons pe_int (pa_cons pe_int pa_nil))))))) pa_nil))))
      (pss_one (ps_ret (pe_joinK (K := K) rfl pe_str (pe_lc (own := [("_law_k", 3)]) (g := gName 3) (by rfl) sc_any_image.nd (pi_range1 (by rfl) T.range (pa_cons (pv 2) pa_nil)) (blkOk_by (own := [("_law_k", 3)]) (N := n_any_image) (sc := defScope s_any_image) (by decide +kernel)) (fun _ _ _ _ _ => (pg_name (i := 3) sc_any_image.nd rfl (.inl rfl))) (fun _ _ _ _ _ => pts_nil) (fun _ _ _ _ _ => (pe_c D_pick hr (by decide) (by rfl) (pa_cons (pv 0) (pa_cons (pv 1) pa_nil))))))))), ?_⟩
    have hcs : 0 < cs.length := List.length_pos_iff.mpr hne
    -- pick(pen, [1, 1, 2, 2, 3, 4])
    refine ⟨.ref p, rfl, by decide, fun b nb => ?_⟩
    have hbp := PA.nep nb
    refine ⟨p, l, b, ns, n + 4, [.int 1, .int 1, .int 2, .int 2, .int 3, .int 4], rfl, PA.new nb, SqL.of upd_same, by decide, by decide, fun H' fr => SqL.of (fr _ _ upd_same hbp), fun v H1 hv PA1 fr1 => ?_⟩
    obtain ⟨k, rfl, k1, k4⟩ : ∃ k : Nat, v = .int k ∧ 1 ≤ k ∧ k ≤ 4 := by
      simp at hv
      rcases hv with rfl | rfl | rfl | rfl
      · exact ⟨1, rfl, by omega, by omega⟩
      · exact ⟨2, rfl, by omega, by omega⟩
      · exact ⟨3, rfl, by omega, by omega⟩
      · exact ⟨4, rfl, by omega, by omega⟩
    have fr01 : Fr p H H1 := (Fr.new nb).trans fr1
    -- ''.join([..])
    refine ⟨⟨_, rfl⟩, _, rfl, k, rfl, by omega, by omega, fun D nD => lc_range (lo := 0) (n := k) (fun i H2 => ∃ got : List Nat, got.length = i ∧ (∀ d ∈ got, d ∈ cs) ∧ H2 D = some (.lst (lets got)) ∧ PenAt H2 p l ns (n + (4 - i)) ∧ Fr p H H2) ?_ ?_ ?_⟩
    · exact ⟨[], rfl, fun d h => (by cases h), upd_same, (PA1.new nD).less (by omega), fr01.trans (Fr.new nD)⟩
    · rintro i H2 hi ⟨got, hg, hin, hD, PA2, fr2⟩
      have hDp := PA1.nep nD
      have ha2 := fr2 _ _ ha hap
      refine ⟨rfl, ⟨_, rfl, _, rfl, p, l, a, ns, n + (4 - (i + 1)), lets cs, rfl, PA2.less (by omega), SqL.of ha2, by rw [lets_len]; omega, by rw [lets_len]; omega, fun H' fr => SqL.of (fr _ _ ha2 hap), fun v H3 hv PA3 fr3 => ?_⟩⟩
      obtain ⟨c, hc, rfl⟩ := lets_mem hv
      have hD3 := fr3 _ _ hD hDp
      refine ⟨lets got, hD3, by rw [lets_len]; exact small1000 (by omega), got ++ [c], by simp [hg], ?_, by rw [upd_same, lets_snoc], PA3.other hDp (PA1.nel nD), (fr2.trans fr3).put (fr01.back nD hDp)⟩
      intro d hd
      rcases List.mem_append.mp hd with h | h
      · exact hin d h
      · rw [List.mem_singleton.mp h]
        exact hc
    · rintro H2 ⟨got, hg, hin, hD, PA2, fr2⟩
      refine ⟨Str.empty, D, got.map L1, rfl, rfl, .inl (by rw [List.map_map]; exact SqL.of hD), ?_, ?_⟩
      · have e : (got.map L1).map (·.length) = got.map fun _ => 1 := by
          rw [List.map_map]
          rfl
        rw [e, List.length_map]
        rw [sum_ones]
        show got.length + got.length * 0 ≤ _
        omega
      · rw [join_L1]
        exact q got H2 ⟨by omega, by omega, hin⟩ (PA2.less (by omega)) fr2
end
end V8

set_option Elab.async false
set_option linter.all false
set_option maxRecDepth 100000
set_option maxHeartbeats 4000000
namespace V8
open PySem PySem.Spec PyProof.Rows L2
theorem app_Sx (a : Nat) (s : List Nat) : L1 a ++ Sx s = Sx (a :: s) := by
  show Str.append _ _ = _
  unfold Sx L1
  show (⟨#[a] ++ s.toArray⟩ : Str) = ⟨(a :: s).toArray⟩
  congr 1
  simp
section
variable {P : Program} {w : World} {K : PySem.W.Frag} {mg : Str → Option Value} {base : Heap}
theorem lets_get {cs : List Nat} {i : Nat} {x : V} (h : (lets cs)[i]? = some x) : ∃ hi : i < cs.length, x = .str (L1 cs[i]) := by
  unfold lets at h
  rw [List.getElem?_map] at h
  cases e : cs[i]? with
  | none =>
    rw [e] at h
    cases h
  | some c =>
    obtain ⟨hi, ec⟩ := List.getElem?_eq_some_iff.mp e
    rw [e] at h
    exact ⟨hi, by rw [ec]; exact (Option.some.inj h).symm⟩
theorem lets_at {cs : List Nat} {j : Nat} (hj : j < cs.length) : (lets cs)[j]? = some (.str (L1 cs[j])) := by
  unfold lets
  rw [List.getElem?_map, List.getElem?_eq_getElem hj]
  rfl
theorem seq_ix {j n : Nat} (h : j < n) : seqIndex? (j : Int) n = some j := by
  unfold seqIndex?
  simp
  omega
theorem erase_len {xs : List Nat} {k : Nat} (h : k < xs.length) : (xs.eraseIdx k).length = xs.length - 1 := List.length_eraseIdx_of_lt h
theorem goodI1 {cs : List Nat} {a : Nat} (h : a ∈ cs) : GoodI cs [a] := ⟨Nat.le_refl _, by show 1 ≤ 4; decide, fun x hx => by rw [List.mem_singleton.mp hx]; exact h⟩
theorem goodI2 {cs : List Nat} {a b : Nat} (h : a ∈ cs) (h' : b ∈ cs) : GoodI cs [a, b] := by
  refine ⟨by show 1 ≤ 2; decide, by show 2 ≤ 4; decide, fun x hx => ?_⟩
  rcases List.mem_cons.mp hx with e | hx
  · rw [e]
    exact h
  · rw [List.mem_singleton.mp hx]
    exact h'
theorem ok_escaped {f : Addr} {fd : FuncData} (F : Fun K "_law_escaped" "_law_escaped" s_escaped f fd) (T : Blt mg) (D_draw : Df P w K mg base 1 "_law_draw" spDraw) : FnOk P w K mg base CX0 2 f fd ["_law_pen_here", "_law_some"] (spTab 52) := by
  refine F.ok sc_escaped (fun vs H Q E h => ?_) (fun cdv A outer s H vs Q E hr h => ?_)
  · obtain ⟨p, l, a, ns, n, cs, rfl, _⟩ := h
    rfl
  · obtain ⟨p, l, a, ns, n, cs, rfl, PA, ha, hap, hne, hnd, h26, hlt, q⟩ := h
    refine ⟨_, (pss_cons (ps_par (i := 2) (j := 3) (by rfl) sc_escaped.nd rfl rfl (by decide) rfl rfl (pa_cons (pe_callTy (call_list_ofK (K := K) rfl) (by rfl) T.list (by decide +kernel) (pa_cons (pv 1) pa_nil)) (pa_cons pe_dnewK pa_nil)) (by rfl))
      (pss_cons (ps_for PassesOwn.never rfl (pi_list (pv 1)) (pg_name (i := 4) sc_escaped.nd rfl (.inl rfl))
        (pss_cons (ps_set (i := 5) sc_escaped.nd rfl (.inl rfl) (pe_and (pe_cmpR op_ne (pv 4) (pe_ix (ix_listK (K := K) rfl) (pv 1) pe_int (fun _ _ => rfl)) (nomark _)) (pe_one (pe_cmpR op_eq (pe_c D_draw hr (by decide) (by rfl) (pa_cons (pv 0) (pa_cons pe_int pa_nil))) pe_int (nomark _)))))
        (pss_one (ps_dput (hu_of hr) (pv 3) (pv 4) (pe_ifExp (pt_val (pv 5)) (pv 4) (pe_op op_add_str (pe_ix (ix_listK (K := K) rfl) (pv 1) pe_int (fun _ _ => rfl)) (pe_bmK (K := K) rfl PySem.F.plainAttrs_list PySem.F.slot_list_pop PySem.F.type_list_pop mt_popAt (pv 2) (pa_cons (pe_c D_draw hr (by decide) (by rfl) (pa_cons (pv 0) (pa_cons (pe_callB (call_len_seqK (K := K) rfl) (by rfl) T.len (by decide +kernel) (pa_cons (pv 2) pa_nil)) pa_nil))) pa_nil)))) rfl))))
      (pss_one (ps_ret (pv 3))))), ?_⟩
    have hcs : 0 < cs.length := List.length_pos_iff.mpr hne
    -- tails, found = list(some), {}
    refine ⟨.ref a, rfl, a, _, rfl, .inl (SqL.of ha), fun b nb d nd => ⟨_, _, rfl, ?_⟩⟩
    have hbp := PA.nep nb
    have hbl := PA.nel nb
    have PA1 := (PA.new (o := .lst (lets cs)) nb).new (o := .dK []) nd
    have hdp := (PA.new (o := .lst (lets cs)) nb).nep nd
    have hdl := (PA.new (o := .lst (lets cs)) nb).nel nd
    have hbd : b ≠ d := ne_of_none upd_same nd
    have hab : a ≠ b := ne_of_none ha nb
    have ndH : H d = none := (Fr.new (p := p) nb).back nd hdp
    have had : a ≠ d := ne_of_none ha ndH
    refine ⟨_, rfl, a, rfl, ⟨_, SqL.of (by rw [upd_ne had, upd_ne hab]; exact ha)⟩, for_list (K := K) (a := a) (xs := lets cs) (fun i σ H2 => ∃ (tails : List Nat) (t : Tab) (v4 v5 : Option V), σ = [some (.ref p), some (.ref a), some (.ref b), some (.ref d), v4, v5] ∧
        H2 a = some (.lst (lets cs)) ∧ H2 b = some (.lst (lets tails)) ∧ cs.length ≤ tails.length + i ∧ tails.length ≤ 26 ∧ (∀ x ∈ tails, x ∈ cs) ∧ H2 d = some (.dK (encT t)) ∧ t.length ≤ i ∧ GoodT cs t ∧ PenAt H2 p l ns (n + 2 * (26 - i)) ∧ Fr p H H2) ?_ ?_ ?_ ?_⟩
    · exact ⟨cs, [], none, none, rfl, by rw [upd_ne had, upd_ne hab]; exact ha, by rw [upd_ne hbd, upd_same], by omega, h26, fun x h => h, upd_same, Nat.le_refl _, GoodT.nil, PA1.less (by omega), (Fr.new nb).trans (Fr.new nd)⟩
    · rintro i σ H2 hi ⟨tails, t, v4, v5, rfl, ha2, _⟩
      exact SqL.of ha2
    · rintro i x σ H2 hx ⟨tails, t, v4, v5, rfl, ha2, hb2, htl, ht6, hts, hd2, htn, G, PA2, fr2⟩
      obtain ⟨hi, rfl⟩ := lets_get hx
      -- stays = letter != some[0] and draw(pen, 2) == 0
      refine ⟨_, rfl, _, rfl, a, _, 0, _, rfl, rfl, SqL.of ha2, atI_nat (j := 0) (lets_at hcs), rfl, _, rfl, ?_⟩
      refine ite2 (fun e => ?g1) (fun e => ?g2)
      case' g1 =>
        refine ⟨_, rfl, p, l, ns, n + 2 * (26 - (i + 1)) + 1, 2, rfl, PA2.less (by omega), by decide, by decide, fun v H3 v0 v1 PA3 fr3 => ?_⟩
        refine ⟨rfl, ?_⟩
        generalize decide (V.int v = V.int 0) = bb
      case' g2 =>
        have PA3 : PenAt H2 p l ns (n + 2 * (26 - (i + 1)) + 1) := PA2.less (by omega)
        have fr3 : Fr p H2 H2 := Fr.refl
        generalize false = bb
      all_goals
        have ha3 := fr3 _ _ ha2 hap
        have hb3 := fr3 _ _ hb2 hbp
        have hd3 := fr3 _ _ hd2 hdp
        refine ⟨_, rfl, _, rfl, ?_⟩
        refine ite2 (fun e5 => ?_) (fun e5 => ?_)
        · refine ⟨_, rfl, _, rfl, _, rfl, d, _, rfl, DPut.k (k := Sum.inr (L1 cs[i])) hd3 (by rw [encT_len]; exact small1000 (by omega)), ?_⟩
          have ep : putK (encT t) (Sum.inr (L1 cs[i])) (V.str (L1 cs[i])) = encT (putT t cs[i] [cs[i]]) := putK_enc t cs[i] [cs[i]]
          rw [ep]
          have hmem : cs[i] ∈ cs := List.getElem_mem hi
          refine ⟨tails, putT t cs[i] [cs[i]], _, _, rfl, by rw [upd_ne had]; exact ha3, by rw [upd_ne hbd]; exact hb3, by omega, ht6, hts, upd_same, Nat.le_trans (put_len t _ _) (by omega), G.put hmem (goodI1 hmem), (PA3.other hdp hdl).less (by omega), (fr2.trans fr3).put ndH⟩
        · have htp : 0 < tails.length := by omega
          refine ⟨_, rfl, a, _, 0, _, rfl, rfl, SqL.of ha3, atI_nat (j := 0) (lets_at hcs), ?_⟩
          refine ⟨_, rfl, .inl ⟨rfl, _, SqL.of hb3⟩, _, rfl, _, rfl, b, _, rfl, .inl (SqL.of hb3), p, l, ns, n + 2 * (26 - (i + 1)), _, rfl, PA3, by rw [lets_len]; omega, by rw [lets_len]; omega, fun v4 H4 w0 w1 PA4 fr4 => ?_⟩
          obtain ⟨j, rfl⟩ : ∃ j : Nat, v4 = j := ⟨v4.toNat, by omega⟩
          have hj : j < tails.length := by rw [lets_len] at w1; omega
          have hb4 := fr4 _ _ hb3 hbp
          have hd4 := fr4 _ _ hd3 hdp
          have ha4 := fr4 _ _ ha3 hap
          refine ⟨b, _, _, j, _, rfl, rfl, hb4, by omega, by omega, by rw [lets_len]; exact seq_ix hj, lets_at hj, _, _, rfl, rfl, by show 1 + 1 ≤ sizeLine; decide, ?_⟩
          refine ⟨_, rfl, _, rfl, d, _, rfl, DPut.k (k := Sum.inr (L1 cs[i])) (by rw [upd_ne (Ne.symm hbd)]; exact hd4) (by rw [encT_len]; exact small1000 (by omega)), ?_⟩
          have ep : putK (encT t) (Sum.inr (L1 cs[i])) (V.str (L1 cs[0] ++ L1 tails[j])) = encT (putT t cs[i] [cs[0], tails[j]]) := by
            rw [← putK_enc]
            rfl
          rw [ep]
          have hmem : cs[i] ∈ cs := List.getElem_mem hi
          have htm : tails[j] ∈ cs := hts _ (List.getElem_mem hj)
          refine ⟨tails.eraseIdx j, putT t cs[i] [cs[0], tails[j]], _, _, rfl, by rw [upd_ne had, upd_ne hab]; exact ha4, by rw [upd_ne hbd, upd_same, lets_erase], by rw [erase_len hj]; omega, by rw [erase_len hj]; omega, fun x hx => hts x (List.mem_of_mem_eraseIdx hx), upd_same,
            Nat.le_trans (put_len t _ _) (by omega), G.put hmem (goodI2 (List.getElem_mem hcs) htm), ((PA4.other hbp hbl).other hdp hdl).less (by omega), (((fr2.trans fr3).trans fr4).put nb).put ndH⟩
    · rintro σ H2 ⟨tails, t, v4, v5, rfl, ha2, hb2, htl, ht6, hts, hd2, htn, G, PA2, fr2⟩
      exact ⟨_, rfl, q d t H2 G (PA2.less (by omega)) fr2 ndH hd2⟩
end
end V8

set_option Elab.async false
set_option linter.all false
set_option maxRecDepth 100000
set_option maxHeartbeats 8000000
namespace V8
open PySem PySem.Spec PyProof.Rows L2
theorem nd_len : ∀ {a b : List Nat}, a.Nodup → (∀ x ∈ a, x ∈ b) → a.length ≤ b.length
  | [], _, _, _ => Nat.zero_le _
  | x :: a, b, h, hs => by
    have hx : x ∈ b := hs x (List.mem_cons_self ..)
    have h1 := List.nodup_cons.mp h
    have ih := nd_len (a := a) (b := b.erase x) h1.2 fun y hy => by
      have hne : y ≠ x := fun e => h1.1 (e ▸ hy)
      exact (List.mem_erase_of_ne hne).mpr (hs y (List.mem_cons_of_mem _ hy))
    rw [List.length_erase_of_mem hx] at ih
    have : 0 < b.length := List.length_pos_of_mem hx
    rw [List.length_cons]
    omega
theorem GoodT.len {cs : List Nat} {t : Tab} (g : GoodT cs t) : t.length ≤ cs.length := by
  have := nd_len g.nd fun x hx => by
    obtain ⟨q, hq, rfl⟩ := List.mem_map.mp hx
    exact g.key q hq
  rw [List.length_map] at this
  exact this
def mergeT (a b : Tab) : Tab := b.foldl (fun acc q => putT acc q.1 q.2) a
theorem mergeK_enc : ∀ (b a : Tab), mergeK (encT a) (encT b) = encT (mergeT a b)
  | [], _ => rfl
  | q :: b, a => by
    show mergeK (putK (encT a) (Sum.inr (L1 q.1)) (V.str (Sx q.2))) (encT b) = _
    rw [putK_enc, mergeK_enc b]
    rfl
theorem GoodT.merge {cs : List Nat} : ∀ {b a : Tab}, GoodT cs a → (∀ q ∈ b, q.1 ∈ cs ∧ GoodI cs q.2) → GoodT cs (mergeT a b)
  | [], _, g, _ => g
  | q :: b, a, g, h => by
    have h1 := h q (List.mem_cons_self ..)
    exact GoodT.merge (b := b) (a := putT a q.1 q.2) (g.put h1.1 h1.2) fun x hx => h x (List.mem_cons_of_mem _ hx)
/-- tuples of a letter and its image stand at ps -/
def PairsAt (H : Hp) (ps : List Addr) (t : Tab) : Prop := Paired (fun b (q : Nat × List Nat) => H b = some (.tup [V.str (L1 q.1), V.str (Sx q.2)])) ps t
theorem PairsAt.mono {H H' : Hp} {ps : List Addr} {t : Tab} (h : PairsAt H ps t) (k : ∀ b xs, H b = some (.tup xs) → H' b = some (.tup xs)) : PairsAt H' ps t := Paired.mapP h fun _ _ e => k _ _ e
theorem PairsAt.snoc {H : Hp} : ∀ {ps : List Addr} {t : Tab} {b : Addr} {q : Nat × List Nat}, PairsAt H ps t → H b = some (.tup [V.str (L1 q.1), V.str (Sx q.2)]) → PairsAt H (ps ++ [b]) (t ++ [q])
  | _, _, _, _, .nil, e => .cons e .nil
  | _, _, _, _, .cons h r, e => .cons h (PairsAt.snoc r e)
theorem PairsAt.sq {K : PySem.W.Frag} {H : Hp} : ∀ {ps : List Addr} {t : Tab}, PairsAt H ps t → Paired (fun p (kv : Key × V) => SqT K H p [kV kv.1, kv.2]) ps (encT t)
  | _, _, .nil => .nil
  | _, _, .cons h r => .cons (.inl (.inl h)) (PairsAt.sq r)
theorem PairsAt.len {H : Hp} {ps : List Addr} {t : Tab} (h : PairsAt H ps t) : ps.length = t.length := Paired.length h
theorem tup_fr {p : Addr} {xs : List V} {H H' : Hp} (f : Fr p H H') (hp : H p = some (.lst xs)) : ∀ b ys, H b = some (.tup ys) → H' b = some (.tup ys) := fun b ys e => f b _ e (ne_of e hp (fun z => nomatch z))
theorem tup_upd {D : Addr} {xs : List V} {o : HO} {H : Hp} (hp : H D = some (.lst xs)) : ∀ b ys, H b = some (.tup ys) → upd H D o b = some (.tup ys) := fun b ys e => by
  rw [upd_ne (ne_of e hp (fun z => nomatch z))]
  exact e
theorem tup_new {q : Addr} {o : HO} {H : Hp} (hp : H q = none) : ∀ b ys, H b = some (.tup ys) → upd H q o b = some (.tup ys) := fun b ys e => by
  rw [upd_ne (ne_of_none e hp)]
  exact e
theorem PenAt.pen {H : Hp} {p l : Addr} {ns : List Int} {n : Nat} (P : PenAt H p l ns n) : ∃ xs, H p = some (.lst xs) := by
  obtain ⟨⟨s, g, h1, _⟩, _⟩ := P
  exact ⟨_, h1⟩
theorem enc_at {t : Tab} {i : Nat} {k : Key} {v : V} (h : (encT t)[i]? = some (k, v)) : ∃ hi : i < t.length, k = Sum.inr (L1 t[i].1) ∧ v = V.str (Sx t[i].2) := by
  unfold encT at h
  rw [List.getElem?_map] at h
  cases e : t[i]? with
  | none =>
    rw [e] at h
    cases h
  | some c =>
    obtain ⟨hi, ec⟩ := List.getElem?_eq_some_iff.mp e
    rw [e] at h
    have h' := Option.some.inj h
    refine ⟨hi, ?_, ?_⟩
    · rw [ec]
      exact (congrArg Prod.fst h').symm
    · rw [ec]
      exact (congrArg Prod.snd h').symm
theorem look_at : ∀ {t : Tab} {i : Nat}, (t.map (·.1)).Nodup → ∀ hi : i < t.length, lookT t t[i].1 = some t[i].2
  | [], i, _, hi => absurd hi (Nat.not_lt_zero _)
  | q :: t, 0, _, _ => by
    unfold lookT
    simp
  | q :: t, i + 1, h, hi => by
    have hi' : i < t.length := by simpa using hi
    have h1 := List.nodup_cons.mp (by simpa using h : (q.1 :: t.map (·.1)).Nodup)
    have hne : ¬ q.1 = t[i].1 := fun e => h1.1 (e ▸ List.mem_map_of_mem (List.getElem_mem hi'))
    have ih := look_at (t := t) (i := i) h1.2 hi'
    show lookT (q :: t) t[i].1 = some t[i].2
    unfold lookT at ih ⊢
    rw [List.find?_cons_of_neg (by simpa using hne)]
    exact ih
section
variable {P : Program} {w : World} {K : PySem.W.Frag} {mg : Str → Option Value} {base : Heap}
theorem ok_table {f : Addr} {fd : FuncData} (F : Fun K "_law_table" "_law_table" s_table f fd) (T : Blt mg) (D_draw : Df P w K mg base 1 "_law_draw" spDraw) (D_escaped : Df P w K mg base 2 "_law_escaped" (spTab 52)) (D_any_image : Df P w K mg base 3 "_law_any_image" spImage) : FnOk P w K mg base CX0 4 f fd ["_law_pen_here", "_law_some"] (spTab 260) := by
  refine F.ok sc_table (fun vs H Q E h => ?_) (fun cdv A outer s H vs Q E hr h => ?_)
  · obtain ⟨p, l, a, ns, n, cs, rfl, _⟩ := h
    rfl
  · obtain ⟨p, l, a, ns, n, cs, rfl, PA, ha, hap, hne, hnd, h26, hlt, q⟩ := h
    refine ⟨_, (pss_cons (ps_asg (pe_tup (pa_cons (pe_c D_draw hr (by decide) (by rfl) (pa_cons (pv 0) (pa_cons pe_int pa_nil))) (pa_cons (pe_callTy (call_list_ofK (K := K) rfl) (by rfl) T.list (by decide +kernel) (pa_cons (pv 1) pa_nil)) (pa_cons pe_dnewK pa_nil)))) (pg_tup (by rfl) (pgs_cons (pg_name (i := 2) sc_table.nd rfl (.inl rfl)) (pgs_cons (pg_name (i := 3) sc_table.nd rfl (.inl rfl)) (pgs_cons (pg_name (i := 4) sc_table.nd rfl (.inr rfl)) pgs_nil)))))
      (pss_cons (ps_if (pt_cmpR op_lt (pv 2) pe_int (nomark _))
        (pss_one (ps_set (i := 4) sc_table.nd rfl (.inr rfl) (pe_c D_escaped hr (by decide) (by rfl) (pa_cons (pv 0) (pa_cons (pv 1) pa_nil)))))
        pss_nil)
      (pss_cons (ps_for PassesOwn.never rfl (pi_list (pv 1)) (pg_name (i := 5) sc_table.nd rfl (.inl rfl))
        (pss_one (ps_if (pt_cmpR op_eq (pv 2) pe_int (nomark _))
          (pss_one (ps_dput (hu_of hr) (pv 4) (pv 5) (pe_bmK (K := K) rfl PySem.F.plainAttrs_list PySem.F.slot_list_pop PySem.F.type_list_pop mt_popAt (pv 3) (pa_cons (pe_c D_draw hr (by decide) (by rfl) (pa_cons (pv 0) (pa_cons (pe_callB (call_len_seqK (K := K) rfl) (by rfl) T.len (by decide +kernel) (pa_cons (pv 3) pa_nil)) pa_nil))) pa_nil)) rfl))
          (pss_one (ps_if (pt_cmpR op_gt (pv 2) pe_int (nomark _))
            (pss_one (ps_dput (hu_of hr) (pv 4) (pv 5) (pe_ifExp (pt_cmpR op_eq (pe_c D_draw hr (by decide) (by rfl) (pa_cons (pv 0) (pa_cons pe_int pa_nil))) pe_int (nomark _)) (pv 5) (pe_c D_any_image hr (by decide) (by rfl) (pa_cons (pv 0) (pa_cons (pv 1) pa_nil)))) rfl))
            pss_nil)))))
      (pss_cons (ps_if (pt_cmpR op_gt (pe_c D_draw hr (by decide) (by rfl) (pa_cons (pv 0) (pa_cons pe_int pa_nil))) pe_int (nomark _))
        (pss_one (ps_ret (pv 4)))
        pss_nil)
      (pss_one (ps_ret (pe_callTy (call_dictP rfl) (by rfl) T.dict (by decide +kernel) (pa_cons (pe_lock (pe_lc (own := [("_law_letter", 5)]) (g := gName 5) (by rfl) sc_table.nd (pi_keys (pv 4)) (blkOk_by (own := [("_law_letter", 5)]) (N := n_table) (sc := defScope s_table) (by decide +kernel)) (fun _ _ _ _ _ => (pg_name (i := 5) sc_table.nd rfl (.inl rfl))) (fun _ _ _ _ _ => (pts_one (pt_cmpR op_gt (pe_c D_draw hr (by decide) (by rfl) (pa_cons (pv 0) (pa_cons pe_int pa_nil))) pe_int (nomark _)))) (fun _ _ _ _ _ => (pe_tup (pa_cons (pv 5) (pa_cons (pe_dget (hu_of hr) (pv 4) (pv 5) (fun _ _ => rfl)) pa_nil)))))) pa_nil)))))))), ?_⟩
    have hcs : 0 < cs.length := List.length_pos_iff.mpr hne
    -- way, left, found = draw(pen, 6), list(some), {}
    refine ⟨_, rfl, p, l, ns, n + 259, 6, rfl, PA.less (by omega), by decide, by decide, fun way H1 y0 y1 PA1 fr1 => ?_⟩
    have ha1 := fr1 _ _ ha hap
    refine ⟨.ref a, rfl, a, _, rfl, .inl (SqL.of ha1), fun b nb d nd => ⟨by show 3 ≤ sizeLine; decide, fun tp ntp => ?_⟩⟩
    refine ⟨tp, [.int way, .ref b, .ref d], rfl, .inl (.inl upd_same), rfl, _, _, rfl, _, _, rfl, _, _, rfl, rfl, ?_⟩
    have hbp := PA1.nep nb
    have hbl := PA1.nel nb
    have PAb := PA1.new (o := .lst (lets cs)) nb
    have hdp := PAb.nep nd
    have hdl := PAb.nel nd
    have PAd := PAb.new (o := .dK []) nd
    have hbd : b ≠ d := ne_of_none upd_same nd
    have hab : a ≠ b := ne_of_none ha1 nb
    have had : a ≠ d := by
      refine ne_of_none (o := .lst (lets cs)) ?_ nd
      rw [upd_ne hab]
      exact ha1
    have htd : d ≠ tp := ne_of_none upd_same ntp
    have htb : b ≠ tp := ne_of_none (o := .lst (lets cs)) (by rw [upd_ne hbd]; exact upd_same) ntp
    have hta : a ≠ tp := ne_of_none (o := .lst (lets cs)) (by rw [upd_ne had, upd_ne hab]; exact ha1) ntp
    have nbH : H b = none := fr1.back nb hbp
    have ndH : H d = none := (fr1.trans (Fr.new nb)).back nd hdp
    have PAx := (PAd.new (o := .tup [.int way, .ref b, .ref d]) ntp).less (m := n + 259) (by omega)
    have frx : Fr p H (upd (upd (upd H1 b (.lst (lets cs))) d (.dK [])) tp (.tup [.int way, .ref b, .ref d])) := ((fr1.trans (Fr.new nb)).trans (Fr.new nd)).trans (Fr.new ntp)
    have hax : upd (upd (upd H1 b (.lst (lets cs))) d (.dK [])) tp (.tup [.int way, .ref b, .ref d]) a = some (.lst (lets cs)) := by rw [upd_ne hta, upd_ne had, upd_ne hab]; exact ha1
    have hbx : upd (upd (upd H1 b (.lst (lets cs))) d (.dK [])) tp (.tup [.int way, .ref b, .ref d]) b = some (.lst (lets cs)) := by rw [upd_ne htb, upd_ne hbd, upd_same]
    have hdx : upd (upd (upd H1 b (.lst (lets cs))) d (.dK [])) tp (.tup [.int way, .ref b, .ref d]) d = some (.dK (encT [])) := by rw [upd_ne htd, upd_same]; rfl
    generalize upd (upd (upd H1 b (.lst (lets cs))) d (.dK [])) tp (.tup [.int way, .ref b, .ref d]) = Hx at PAx frx hax hbx hdx ⊢
    clear PAd PAb nd ntp nb
    -- if way < 2: found = escaped(pen, some)
    refine ⟨_, rfl, way, 2, rfl, rfl, _, rfl, ?_⟩
    refine ite2 (fun e => ?g1) (fun e => ?g2)
    case' g1 =>
      refine ⟨_, rfl, _, rfl, p, l, a, ns, n + 207, cs, rfl, PAx.less (by omega), hax, hap, hne, hnd, h26, hlt, fun d2 t2 H3 G2 PA3 fr3 nd2 hd2 => ?_⟩
      have ha3 := fr3 _ _ hax hap
      have hb3 := fr3 _ _ hbx hbp
      have hbd2 : b ≠ d2 := ne_of_none hbx nd2
      have had2 : a ≠ d2 := ne_of_none hax nd2
      have hd2p := PAx.nep nd2
      have hd2l := PAx.nel nd2
      have nd2H : H d2 = none := frx.back nd2 hd2p
      have fr03 := frx.trans fr3
    case' g2 =>
      obtain ⟨d2, rfl⟩ : ∃ d2, d2 = d := ⟨d, rfl⟩
      have G2 : GoodT cs [] := GoodT.nil
      have PA3 : PenAt Hx p l ns (n + 207) := PAx.less (by omega)
      have ha3 := hax
      have hb3 := hbx
      have hd2 := hdx
      have hbd2 := hbd
      have had2 := had
      have hd2p := hdp
      have hd2l := hdl
      have nd2H := ndH
      have fr03 := frx
    all_goals
      refine ⟨_, rfl, a, rfl, ⟨_, SqL.of ha3⟩, for_list (K := K) (a := a) (xs := lets cs) (fun i σ H2 => ∃ (left : List Nat) (t : Tab) (v5 : Option V), σ = [some (.ref p), some (.ref a), some (.int way), some (.ref b), some (.ref d2), v5] ∧
        H2 a = some (.lst (lets cs)) ∧ H2 b = some (.lst (lets left)) ∧ (way = 2 → cs.length ≤ left.length + i) ∧ left.length ≤ 26 ∧ (∀ x ∈ left, x ∈ cs) ∧ H2 d2 = some (.dK (encT t)) ∧ GoodT cs t ∧ PenAt H2 p l ns (n + 30 + 6 * (26 - i)) ∧ Fr p H H2) ?_ ?_ ?_ ?_⟩
      · exact ⟨cs, _, none, rfl, ha3, hb3, fun _ => by omega, h26, fun x h => h, hd2, G2, PA3.less (by omega), fr03⟩
      · rintro i σ H2 hi ⟨left, t, v5, rfl, ha2, _⟩
        exact SqL.of ha2
      · rintro i x σ H2 hx ⟨left, t, v5, rfl, ha2, hb2, hl2, hl6, hls, hd4, G, PA2, fr2⟩
        obtain ⟨hi, rfl⟩ := lets_get hx
        have hmem : cs[i] ∈ cs := List.getElem_mem hi
        have tl26 := G.len
        have small : (encT t).length < sizeLine := by rw [encT_len]; exact small1000 (by omega)
        refine ⟨_, rfl, rfl, _, rfl, ?_⟩
        refine ite2 (fun e2 => ?_) (fun e2 => ?_)
        · have ew : way = 2 := V.int.inj (of_decide_eq_true e2)
          have hlp := hl2 ew
          refine ⟨_, rfl, .inl ⟨rfl, _, SqL.of hb2⟩, _, rfl, _, rfl, b, _, rfl, .inl (SqL.of hb2), p, l, ns, n + 30 + 6 * (26 - (i + 1)), _, rfl, PA2.less (by omega), by rw [lets_len]; omega, by rw [lets_len]; omega, fun v4 H4 w0 w1 PA4 fr4 => ?_⟩
          obtain ⟨j, rfl⟩ : ∃ j : Nat, v4 = j := ⟨v4.toNat, by omega⟩
          have hj : j < left.length := by rw [lets_len] at w1; omega
          have hb4 := fr4 _ _ hb2 hbp
          have hd5 := fr4 _ _ hd4 hd2p
          have ha4 := fr4 _ _ ha2 hap
          refine ⟨b, _, _, j, _, rfl, rfl, hb4, by omega, by omega, by rw [lets_len]; exact seq_ix hj, lets_at hj, ?_⟩
          refine ⟨_, rfl, _, rfl, d2, _, rfl, DPut.k (k := Sum.inr (L1 cs[i])) (by rw [upd_ne (Ne.symm hbd2)]; exact hd5) small, ?_⟩
          have ep : putK (encT t) (Sum.inr (L1 cs[i])) (V.str (L1 left[j])) = encT (putT t cs[i] [left[j]]) := putK_enc t cs[i] [left[j]]
          rw [ep]
          have htm : left[j] ∈ cs := hls _ (List.getElem_mem hj)
          exact ⟨left.eraseIdx j, putT t cs[i] [left[j]], _, rfl, by rw [upd_ne had2, upd_ne hab]; exact ha4, by rw [upd_ne hbd2, upd_same, lets_erase], fun _ => by rw [erase_len hj]; omega, by rw [erase_len hj]; omega, fun x hx => hls x (List.mem_of_mem_eraseIdx hx), upd_same,
            G.put hmem (goodI1 htm), (PA4.other hbp hbl).other hd2p hd2l, ((fr2.trans fr4).put nbH).put nd2H⟩
        · have ew : way ≠ 2 := fun z => e2 (by rw [z]; decide)
          refine ⟨_, rfl, _, _, rfl, rfl, _, rfl, ?_⟩
          refine ite2 (fun e3 => ?_) (fun e3 => ?_)
          · refine ⟨_, rfl, p, l, ns, n + 35 + 6 * (26 - (i + 1)), 3, rfl, PA2.less (by omega), by decide, by decide, fun v4 H4 w0 w1 PA4 fr4 => ⟨rfl, _, rfl, ?_⟩⟩
            have hb4 := fr4 _ _ hb2 hbp
            have hd5 := fr4 _ _ hd4 hd2p
            have ha4 := fr4 _ _ ha2 hap
            refine ite2 (fun e4 => ?_) (fun e4 => ?_)
            · refine ⟨_, rfl, _, rfl, _, rfl, d2, _, rfl, DPut.k (k := Sum.inr (L1 cs[i])) hd5 small, ?_⟩
              have ep : putK (encT t) (Sum.inr (L1 cs[i])) (V.str (L1 cs[i])) = encT (putT t cs[i] [cs[i]]) := putK_enc t cs[i] [cs[i]]
              rw [ep]
              exact ⟨left, putT t cs[i] [cs[i]], _, rfl, by rw [upd_ne had2]; exact ha4, by rw [upd_ne hbd2]; exact hb4, fun z => absurd z ew, hl6, hls, upd_same, G.put hmem (goodI1 hmem), (PA4.other hd2p hd2l).less (by omega), (fr2.trans fr4).put nd2H⟩
            · refine ⟨_, rfl, _, rfl, p, l, a, ns, n + 30 + 6 * (26 - (i + 1)), cs, rfl, PA4.less (by omega), ha4, hap, hne, h26, hlt, fun s H5 gs PA5 fr5 => ?_⟩
              have hb6 := fr5 _ _ hb4 hbp
              have hd6 := fr5 _ _ hd5 hd2p
              have ha6 := fr5 _ _ ha4 hap
              refine ⟨_, rfl, _, rfl, d2, _, rfl, DPut.k (k := Sum.inr (L1 cs[i])) hd6 small, ?_⟩
              rw [putK_enc]
              exact ⟨left, putT t cs[i] s, _, rfl, by rw [upd_ne had2]; exact ha6, by rw [upd_ne hbd2]; exact hb6, fun z => absurd z ew, hl6, hls, upd_same, G.put hmem gs, (PA5.other hd2p hd2l).less (by omega), ((fr2.trans fr4).trans fr5).put nd2H⟩
          · exact ⟨left, t, _, rfl, ha2, hb2, fun z => absurd z ew, hl6, hls, hd4, G, PA2.less (by omega), fr2⟩
      · rintro σ H2 ⟨left, t, v5, rfl, ha2, hb2, hl2, hl6, hls, hd4, G, PA2, fr2⟩
        have tl26 := G.len
        refine ⟨_, rfl, p, l, ns, n + 29, 3, rfl, PA2.less (by omega), by decide, by decide, fun v4 H4 w0 w1 PA4 fr4 => ⟨_, _, rfl, rfl, _, rfl, ?_⟩⟩
        have hd5 := fr4 _ _ hd4 hd2p
        refine ite2 (fun e4 => ?_) (fun e4 => ?_)
        · exact ⟨_, rfl, q d2 t H4 G (PA4.less (by omega)) (fr2.trans fr4) nd2H hd5⟩
        · refine ⟨d2, _, hd5, True.intro, fun od => ⟨_, rfl, d2, od, rfl, .inl ⟨_, upd_same, fun D nD => lc_it walk_keys (fun i H2 => ∃ (ps : List Addr) (t2 : Tab), (∀ x ∈ t2, x.1 ∈ cs ∧ GoodI cs x.2) ∧ ps.length ≤ i ∧ H2 D = some (.lst (ps.map V.ref)) ∧ PairsAt H2 ps t2 ∧
            H2 d2 = some (.frz od (.dK (encT t))) ∧ PenAt H2 p l ns (n + (29 - i)) ∧ Fr p H H2) ?_ ?_ ?_ ?_⟩⟩⟩
          · have hDd : d2 ≠ D := ne_of_none upd_same nD
            refine ⟨[], [], fun x h => (by cases h), Nat.le_refl _, upd_same, .nil, by rw [upd_ne hDd, upd_same], ((PA4.other hd2p hd2l).new nD).less (by omega), ((fr2.trans fr4).put nd2H).trans (Fr.new nD)⟩
          · rintro i H2 hi ⟨ps, t2, _, _, _, _, h, _⟩
            exact h
          · rintro i x H2 H2' hi ⟨ps, t2, ht2, hps, hD, hpa, hfz, PA5, fr5⟩ ⟨rfl, k, v, hk, rfl⟩
            obtain ⟨hit, rfl, rfl⟩ := enc_at hk
            have hDp : D ≠ p := (PA4.other (o := .frz od (.dK (encT t))) hd2p hd2l).nep nD
            have hDl : D ≠ l := (PA4.other (o := .frz od (.dK (encT t))) hd2p hd2l).nel nD
            have nDH : H D = none := ((fr2.trans fr4).put (a := d2) nd2H).back nD hDp
            refine ⟨rfl, _, rfl, p, l, ns, n + (29 - (i + 1)), 3, rfl, PA5.less (by omega), by decide, by decide, fun v6 H6 u0 u1 PA6 fr6 => ⟨_, _, rfl, rfl, _, rfl, ?_⟩⟩
            obtain ⟨pl, hpl⟩ := PA5.pen
            have hpa6 := hpa.mono (tup_fr fr6 hpl)
            have hD6 := fr6 _ _ hD hDp
            have hfz6 := fr6 _ _ hfz hd2p
            refine ite2 (fun e6 => ?_) (fun e6 => ?_)
            · refine ⟨_, rfl, _, rfl, _, rfl, d2, V.str (Sx t[i].2), rfl, .inl ⟨_, Sum.inr (L1 t[i].1), .inr ⟨od, hfz6⟩, rfl, ?_⟩, by show 2 ≤ sizeLine; decide, fun tq ntq => ?_⟩
              · rw [valV_enc, look_at G.nd hit]
                rfl
              · have htD : D ≠ tq := ne_of_none hD6 ntq
                refine ⟨ps.map V.ref, by rw [upd_ne htD]; exact hD6, by rw [List.length_map]; exact small1000 (by omega), ps ++ [tq], t2 ++ [t[i]], ?_, by rw [List.length_append]; exact Nat.succ_le_succ hps, ?_, ?_, ?_, ?_, ?_⟩
                · intro x hx
                  rcases List.mem_append.mp hx with h | h
                  · exact ht2 x h
                  · rw [List.mem_singleton.mp h]
                    exact ⟨G.key _ (List.getElem_mem hit), G.img _ (List.getElem_mem hit)⟩
                · rw [upd_same, List.map_append]
                  rfl
                · refine PairsAt.snoc ((hpa6.mono (tup_new ntq)).mono (tup_upd (by rw [upd_ne htD]; exact hD6))) ?_
                  exact (upd_ne (Ne.symm htD)).trans upd_same
                · rw [upd_ne (ne_of hfz6 hD6 (fun z => nomatch z)), upd_ne (ne_of_none hfz6 ntq)]
                  exact hfz6
                · exact ((PA6.new ntq).other hDp hDl)
                · exact ((fr5.trans fr6).trans (Fr.new ntq)).put nDH
            · exact ⟨ps, t2, ht2, by omega, hD6, hpa6, hfz6, PA6, fr5.trans fr6⟩
          · rintro H2 ⟨ps, t2, ht2, hps, hD, hpa, hfz, PA5, fr5⟩
            have hDd : D ≠ d2 := ne_of hD hfz (fun z => nomatch z)
            refine ⟨hfz, D, ps, encT t2, rfl, SqL.of (by rw [upd_ne hDd]; exact hD), (PairsAt.sq (hpa.mono fun b ys e => by rw [upd_ne (ne_of e hfz (fun z => nomatch z))]; exact e)), fun r nr => ?_⟩
            have em : mergeK [] (encT t2) = encT (mergeT [] t2) := mergeK_enc t2 []
            rw [em]
            have PA7 := (PA5.other (o := .dK (encT t)) hd2p hd2l)
            have fr7 := fr5.put (a := d2) (o := .dK (encT t)) nd2H
            exact q r (mergeT [] t2) _ (GoodT.merge GoodT.nil ht2) ((PA7.new nr).less (by omega)) (fr7.trans (Fr.new nr)) (fr7.back nr (PA7.nep nr)) upd_same
end
end V8

set_option Elab.async false
set_option linter.all false
set_option maxRecDepth 100000
set_option maxHeartbeats 8000000
/-! Letters, texts, images: the program's own tests. -/
namespace V8
open PySem PySem.Spec PyProof.Rows L2
abbrev s_is_letter : Stmt := topS 19
abbrev n_is_letter : List Str := ["value"]
theorem sc_is_letter : FnScope ["value"] ["value"] (defScope s_is_letter) := ⟨rfl, rfl, rfl, by decide +kernel, rfl, by decide +kernel, by decide +kernel⟩
abbrev s_is_text : Stmt := topS 20
abbrev n_is_text : List Str := ["value"]
theorem sc_is_text : FnScope ["value"] ["value"] (defScope s_is_text) := ⟨rfl, rfl, rfl, by decide +kernel, rfl, by decide +kernel, by decide +kernel⟩
abbrev s_all_letters : Stmt := topS 21
abbrev n_all_letters : List Str := ["string"]
theorem sc_all_letters : FnScope ["string"] ["string"] (defScope s_all_letters) := ⟨rfl, rfl, rfl, by decide +kernel, rfl, by decide +kernel, by decide +kernel⟩
abbrev s_is_image : Stmt := topS 33
abbrev n_is_image : List Str := ["value"]
theorem sc_is_image : FnScope ["value"] ["value"] (defScope s_is_image) := ⟨rfl, rfl, rfl, by decide +kernel, rfl, by decide +kernel, by decide +kernel⟩
abbrev s_told_images : Stmt := topS 35
abbrev n_told_images : List Str := ["images", "keeps", "key", "letter", "kept"]
theorem sc_told_images : FnScope ["images", "keeps", "key", "letter", "kept"] ["images", "keeps"] (defScope s_told_images) := ⟨rfl, rfl, rfl, by decide +kernel, rfl, by decide +kernel, by decide +kernel⟩
/-- what the top has left, of the names and of the two classes -/
structure Tx (K : PySem.W.Frag) (mg : Str → Option Value) (CM CJ : Addr) : Prop extends Blt mg where
  isinstance : mg "isinstance" = none
  iter : mg "iter" = none
  gLETTERS : GV mg "LETTERS" (.str abcS)
  gLONGEST : GV mg "LONGEST" (.int 2000)
  gLONGEST_TOLD : GV mg "LONGEST_TOLD" (.int 4)
  gMOST_LETTERS : GV mg "MOST_LETTERS" (.int 12)
  gMisreading : GV mg "Misreading" (.ref CM)
  gJoined : GV mg "Joined" (.ref CJ)
  dJ : PySem.W.kitOne K (.type "dict") (.ref CJ) = some false
  dM : PySem.W.kitOne K (.type "dict") (.ref CM) = some false
  sM : PySem.W.kitOne K (.type "str") (.ref CM) = some false
  iM : PySem.W.kitOne K (.type "int") (.ref CM) = some false
  cl : Cls K CM
  nL : NoAttr K CM "_letters"
  nI : NoAttr K CM "_images"
  nC : NoAttr K CM "changed"
  tA : PySem.W.findIn K (.ref CM) "__class__" = some (some (.builtin "object.__class__"))
  tB : PySem.W.specialIn K (.builtin "object.__class__") "__get__" = some (some (.builtin "getset_descriptor.__get__"))
  tC : PySem.W.takesIn K (.builtin "object.__class__") = some true
  tD : PySem.W.mroIn K CM (.type "object") = some true
  ne : PySem.W.findIn K (.ref CM) "__ne__" = some (some (.builtin "object.__ne__"))
  fd : PySem.W.notFirst K CM (.type "dict") = true
  fs : PySem.W.notFirst K CM (.type "str") = true
  fi : PySem.W.notFirst K CM (.type "int") = true
/-- nothing but what is new has changed -/
abbrev Sm := Same
def spIsLetter (K : PySem.W.Frag) : Sp := fun vs H Q _ => ∃ x, vs = [x] ∧ ((∃ c, x = .str (L1 c) ∧ Q (.bl (decide (c ∈ abc))) H) ∨ (∃ z, x = .str z ∧ z.length ≤ sizeLine ∧ z.length ≠ 1 ∧ Q (.bl false) H) ∨ (∃ t, TyX K H x t ∧ PySem.W.kitOne K t (.type "str") = some false ∧ Q (.bl false) H))
def spAllLetters : Sp := fun vs H Q _ => ∃ cs : List Nat, vs = [.str (Sx cs)] ∧ (∀ c ∈ cs, isLt c) ∧ cs.length ≤ 2000 ∧ Q (.bl true) H
def spIsText : Sp := spAllLetters
def spIsImage : Sp := fun vs H Q _ => ∃ s : List Nat, vs = [.str (Sx s)] ∧ (1 ≤ s.length ∧ s.length ≤ 4 ∧ ∀ d ∈ s, isLt d) ∧ Q (.bl true) H
theorem tw_all {p : Nat → Bool} : ∀ {l : List Nat}, (∀ c ∈ l, p c = true) → l.takeWhile p = l
  | [], _ => rfl
  | a :: r, h => by
    rw [List.takeWhile_cons, if_pos (h a (List.mem_cons_self ..)), tw_all fun c hc => h c (List.mem_cons_of_mem _ hc)]
theorem strip_all {cs : List Nat} (h : ∀ c ∈ cs, isLt c) : (Txt.stripChars (Sx cs) abcS).length = 0 := by
  have ha : ∀ c ∈ cs, abcS.cps.contains c = true := fun c hc => by
    have h1 : c ∈ abcS.cps.toList := by
      rw [abcS_cps]
      exact abc_mem.mpr (h c hc)
    exact Array.contains_iff_mem.mpr (Array.mem_toList_iff.mp h1)
  have hl : stripLo abcS.cps.contains true (Sx cs) = cs.length := by
    unfold stripLo
    rw [if_pos rfl]
    show (List.takeWhile abcS.cps.contains cs).length = cs.length
    rw [tw_all ha]
  unfold Txt.stripChars
  rw [stripBy_eq, hl]
  have e := TL.tl_strSub (Sx cs) cs.length (stripHi abcS.cps.contains true (Sx cs) cs.length)
  have e2 : TL.tl (Sx cs) = cs := rfl
  rw [e2, List.drop_length, List.take_nil] at e
  have e3 := congrArg List.length e
  exact e3
theorem dec_t {p : Prop} [Decidable p] (h : p) : V.bl (decide p) = V.bl true := by rw [decide_eq_true h]
theorem dec_f {p : Prop} [Decidable p] (h : ¬ p) : V.bl (decide p) = V.bl false := by rw [decide_eq_false h]
theorem ty_str {K : PySem.W.Frag} {H : Hp} (z : Str) : TyX K H (.str z) (.type "str") := .base (.str z)
section
variable {P : Program} {w : World} {K : PySem.W.Frag} {mg : Str → Option Value} {base : Heap} {CM CJ : Addr}
theorem ok_is_letter {f : Addr} {fd : FuncData} (F : Fun K "is_letter" "is_letter" s_is_letter f fd) (T : Tx K mg CM CJ) : FnOk P w K mg base CX0 1 f fd ["value"] (spIsLetter K) := by
  refine F.ok sc_is_letter (fun vs H Q E h => ?_) (fun cdv A outer s H vs Q E hr h => ?_)
  · obtain ⟨x, rfl, _⟩ := h
    rfl
  · obtain ⟨x, rfl, h⟩ := h
    refine ⟨_, (pss_one (ps_ret (pe_and (pe_callB call_isi (by rfl) T.isinstance (by decide +kernel) (pa_cons (pv 0) (pa_cons (pe_bltn (v := .ty "str") (by rfl) T.str (by decide +kernel) rfl) pa_nil))) (pe_and (pe_cmpR op_eq (pe_callB call_len_str (by rfl) T.len (by decide +kernel) (pa_cons (pv 0) pa_nil)) pe_int (nomark _)) (pe_one (pe_cmpR op_in_sign (pv 0) (pe_gv T.gLETTERS (by rfl)) rfl)))))), ?_⟩
    rcases h with ⟨c, rfl, q⟩ | ⟨z, rfl, hz, h1, q⟩ | ⟨t, ty, e, q⟩
    · refine ⟨_, rfl, _, .ty "str", .type "str", .type "str", true, rfl, .ty _, ty_str _, kit_ty (by decide +kernel), true, rfl, ?_⟩
      refine ⟨_, rfl, _, rfl, by show 1 ≤ sizeLine; decide, rfl, true, rfl, ?_⟩
      refine ⟨_, rfl, c, abcS, rfl, rfl, ?_⟩
      rw [abcS_cps]
      exact q
    · refine ⟨_, rfl, _, .ty "str", .type "str", .type "str", true, rfl, .ty _, ty_str _, kit_ty (by decide +kernel), true, rfl, ?_⟩
      refine ⟨_, rfl, _, rfl, hz, rfl, false, ?_, ?_⟩
      · rw [decide_eq_false]
        intro e
        have e' := V.int.inj e
        omega
      · exact q
    · exact ⟨_, rfl, _, .ty "str", t, .type "str", false, rfl, .ty _, ty, e, false, rfl, q⟩
theorem ok_all_letters {f : Addr} {fd : FuncData} (F : Fun K "all_letters" "all_letters" s_all_letters f fd) (T : Tx K mg CM CJ) : FnOk P w K mg base CX0 1 f fd ["string"] spAllLetters := by
  refine F.ok sc_all_letters (fun vs H Q E h => ?_) (fun cdv A outer s H vs Q E hr h => ?_)
  · obtain ⟨cs, rfl, _⟩ := h
    rfl
  · obtain ⟨cs, rfl, hl, hn, q⟩ := h
    refine ⟨_, (pss_one (ps_ret (pe_notTK (K := K) rfl (pe_bmK (K := K) rfl PySem.F.plainAttrs_str PySem.F.slot_str_strip PySem.F.type_str_strip mt_stripChars (pv 0) (pa_cons (pe_gv T.gLETTERS (by rfl)) pa_nil))))), ?_⟩
    have hz : (Sx cs).length ≤ sizeLine := by rw [Sx_len, sizeLine_eq]; omega
    refine ⟨_, rfl, rfl, _, abcS, rfl, rfl, hz, false, ⟨?_, ?_⟩, q⟩
    · exact Nat.le_trans (len_stripChars _ _) hz
    · rw [strip_all hl]
      rfl
theorem ok_is_text {f : Addr} {fd : FuncData} (F : Fun K "is_text" "is_text" s_is_text f fd) (T : Tx K mg CM CJ) (D_all_letters : Df P w K mg base 1 "all_letters" spAllLetters) : FnOk P w K mg base CX0 2 f fd ["value"] spIsText := by
  refine F.ok sc_is_text (fun vs H Q E h => ?_) (fun cdv A outer s H vs Q E hr h => ?_)
  · obtain ⟨cs, rfl, _⟩ := h
    rfl
  · obtain ⟨cs, rfl, hl, hn, q⟩ := h
    refine ⟨_, (pss_one (ps_ret (pe_and (pe_callB call_isi (by rfl) T.isinstance (by decide +kernel) (pa_cons (pv 0) (pa_cons (pe_bltn (v := .ty "str") (by rfl) T.str (by decide +kernel) rfl) pa_nil))) (pe_and (pe_cmpR op_le (pe_callB call_len_str (by rfl) T.len (by decide +kernel) (pa_cons (pv 0) pa_nil)) (pe_gv T.gLONGEST (by rfl)) (nomark _)) (pe_one (pe_c D_all_letters hr (by decide) (by rfl) (pa_cons (pv 0) pa_nil))))))), ?_⟩
    have hz : (Sx cs).length ≤ sizeLine := by rw [Sx_len, sizeLine_eq]; omega
    refine ⟨_, rfl, _, .ty "str", .type "str", .type "str", true, rfl, .ty _, ty_str _, kit_ty (by decide +kernel), true, rfl, ?_⟩
    refine ⟨_, rfl, _, rfl, hz, _, _, rfl, rfl, true, ?_, ?_⟩
    · rw [Sx_len]
      exact dec_t (show (cs.length : Int) ≤ 2000 by omega)
    · exact ⟨_, rfl, cs, rfl, hl, hn, q⟩
theorem ok_is_image {f : Addr} {fd : FuncData} (F : Fun K "is_image" "is_image" s_is_image f fd) (T : Tx K mg CM CJ) (D_is_text : Df P w K mg base 2 "is_text" spIsText) : FnOk P w K mg base CX0 3 f fd ["value"] spIsImage := by
  refine F.ok sc_is_image (fun vs H Q E h => ?_) (fun cdv A outer s H vs Q E hr h => ?_)
  · obtain ⟨cs, rfl, _⟩ := h
    rfl
  · obtain ⟨cs, rfl, ⟨g1, g4, gl⟩, q⟩ := h
    refine ⟨_, (pss_one (ps_ret (pe_and (pe_c D_is_text hr (by decide) (by rfl) (pa_cons (pv 0) pa_nil)) (pe_one (pe_chain op_le op_le pe_int (pe_callB call_len_str (by rfl) T.len (by decide +kernel) (pa_cons (pv 0) pa_nil)) (pe_gv T.gLONGEST_TOLD (by rfl))))))), ?_⟩
    have hz : (Sx cs).length ≤ sizeLine := by rw [Sx_len, sizeLine_eq]; omega
    refine ⟨_, rfl, cs, rfl, gl, by omega, true, rfl, ?_⟩
    refine ⟨_, rfl, _, rfl, hz, _, _, rfl, rfl, true, ?_, ?_⟩
    · rw [Sx_len]
      exact dec_t (show (1 : Int) ≤ (cs.length : Int) by omega)
    · refine ⟨_, _, rfl, rfl, ?_⟩
      rw [Sx_len]
      have e := dec_t (show (cs.length : Int) ≤ 4 by omega)
      show Q (V.bl (decide ((cs.length : Int) ≤ 4))) H
      rw [e]
      exact q
/-- the letters that stay, as a table -/
def keepT (st : List Nat) : Tab := mergeT [] (st.map fun c => (c, [c]))
theorem keepT_good {cs st : List Nat} (hs : ∀ c ∈ st, c ∈ cs) (hl : ∀ c ∈ cs, isLt c) : GoodT cs (keepT st) := GoodT.merge GoodT.nil fun q hq => by
  obtain ⟨c, hc, rfl⟩ := List.mem_map.mp hq
  exact ⟨hs c hc, goodI1 (hs c hc)⟩
def toldT (st : List Nat) (t : Tab) : Tab := mergeT (mergeT [] (keepT st)) t
theorem toldT_good {cs st : List Nat} {t : Tab} (hs : ∀ c ∈ st, c ∈ cs) (hl : ∀ c ∈ cs, isLt c) (g : GoodT cs t) : GoodT cs (toldT st t) := by
  have g1 := keepT_good hs hl
  exact GoodT.merge (GoodT.merge GoodT.nil fun q hq => ⟨g1.key q hq, g1.img q hq⟩) fun q hq => ⟨g.key q hq, g.img q hq⟩
def spTold : Sp := fun vs H Q _ => ∃ (d : Addr) (cs st : List Nat) (t : Tab), vs = [.ref d, .str (Sx st)] ∧ H d = some (.dK (encT t)) ∧ GoodT cs t ∧ cs.length ≤ 26 ∧ (∀ c ∈ cs, isLt c) ∧ (∀ c ∈ st, c ∈ cs) ∧ st.length ≤ 500 ∧
  ∀ (r : Addr) (H' : Hp), Same H H' → H r = none → H' r = some (.dK (encT (toldT st t))) → Q (.ref r) H'
theorem Same.upd_back {H : Hp} {d : Addr} {o u : HO} (h : H d = some u) : upd (upd H d o) d u = H := by
  rw [upd_upd]
  funext b
  by_cases hb : b = d
  · rw [hb, upd_same, h]
  · rw [upd_ne hb]
theorem sx_at {st : List Nat} {i : Nat} {c : Nat} (h : (Sx st).cps[i]? = some c) : st[i]? = some c := by
  have : (Sx st).cps = st.toArray := rfl
  rw [this] at h
  simpa using h
theorem sx_size (st : List Nat) : (Sx st).cps.size = st.length := by
  show st.toArray.size = _
  simp
theorem look_in : ∀ {t : Tab} {c : Nat} {s : List Nat}, lookT t c = some s → (c, s) ∈ t := by
  intro t c s h
  unfold lookT at h
  cases e : t.find? (fun q => decide (q.1 = c)) with
  | none =>
    rw [e] at h
    cases h
  | some q =>
    rw [e] at h
    have h1 := List.find?_some e
    have h2 := List.mem_of_find?_eq_some e
    have h3 : q.1 = c := by simpa using h1
    have h4 : q.2 = s := by simpa using h
    rw [← h3, ← h4]
    exact h2
theorem keep_take {cs st : List Nat} (hs : ∀ c ∈ st, c ∈ cs) (hl : ∀ c ∈ cs, isLt c) (i : Nat) : GoodT cs (mergeT [] ((st.take i).map fun c => (c, [c]))) := keepT_good (st := st.take i) (fun c hc => hs c (List.mem_of_mem_take hc)) hl
theorem keep_succ {st : List Nat} {i c : Nat} (h : st[i]? = some c) : mergeT [] ((st.take (i + 1)).map fun c => (c, [c])) = putT (mergeT [] ((st.take i).map fun c => (c, [c]))) c [c] := by
  rw [List.take_add_one, h, List.map_append]
  unfold mergeT
  rw [List.foldl_append]
  rfl
theorem ok_told_images {f : Addr} {fd : FuncData} (F : Fun K "told_images" "told_images" s_told_images f fd) (T : Tx K mg CM CJ) (D_is_letter : Df P w K mg base 1 "is_letter" (spIsLetter K)) (D_is_text : Df P w K mg base 2 "is_text" spIsText)
    (D_is_image : Df P w K mg base 3 "is_image" spIsImage) : FnOk P w K mg base CX0 4 f fd ["images", "keeps"] spTold := by
  refine F.ok sc_told_images (fun vs H Q E h => ?_) (fun cdv A outer s H vs Q E hr h => ?_)
  · obtain ⟨d, cs, st, t, rfl, _⟩ := h
    rfl
  · obtain ⟨d, cs, st, t, rfl, hd, G, h26, hlt, hst, hs5, q⟩ := h
    refine ⟨_, (pss_cons (ps_if (pt_not (pt_val (pe_callB call_isi (by rfl) T.isinstance (by decide +kernel) (pa_cons (pv 0) (pa_cons (pe_bltn (v := .ty "dict") (by rfl) T.dict (by decide +kernel) rfl) pa_nil)))))
        (pss_one ps_never)
        pss_nil)
      (pss_cons (ps_lock (ps_for PassesOwn.never rfl (pi_keys (pv 0)) (pg_name (i := 2) sc_told_images.nd rfl (.inl rfl))
        (pss_one (ps_if (pt_not (pt_val (pe_c D_is_letter hr (by decide) (by rfl) (pa_cons (pv 2) pa_nil))))
          (pss_one ps_never)
          pss_nil))))
      (pss_cons (ps_for PassesOwn.never rfl (pi_str (pe_gv T.gLETTERS (by rfl))) (pg_name (i := 3) sc_told_images.nd rfl (.inl rfl))
        (pss_one (ps_if (PW.pt (pw_and (pt_cmp (pc_din (hu_of hr) (pv 3) (pv 0))) (pw_and1 (pt_not (pt_val (pe_c D_is_image hr (by decide) (by rfl) (pa_cons (pe_dget (hu_of hr) (pv 0) (pv 3) (fun _ _ => rfl)) pa_nil)))))))
          (pss_one ps_never)
          pss_nil)))
      (pss_cons (ps_if (pt_not (pt_val (pe_c D_is_text hr (by decide) (by rfl) (pa_cons (pv 1) pa_nil))))
        (pss_one ps_never)
        pss_nil)
      (pss_cons (ps_setDc (j := 4) (own := [("letter", 3)]) (g := gName 3) (by rfl) sc_told_images.nd rfl rfl (sw_trueD rfl rfl rfl (by decide +kernel)) (pi_str (pv 1)) (blkOk_by (own := [("letter", 3)]) (N := n_told_images) (sc := defScope s_told_images) (by decide +kernel)) (fun _ _ _ _ _ => (pg_name (i := 3) sc_told_images.nd rfl (.inl rfl))) (fun _ _ _ _ _ => pts_nil) (fun _ _ _ _ _ => (pv 3)) (fun _ _ _ _ _ => (pv 3)))
      (pss_one (ps_ret (pe_merge2 (pv 4) (pv 0))))))))), ?_⟩
    have tl := G.len
    -- isinstance(images, dict)
    refine ⟨_, rfl, _, .ty "dict", .type "dict", .type "dict", true, rfl, .ty _, .base (.dK hd), kit_ty (by decide +kernel), true, rfl, ?_⟩
    refine iteF ?_
    -- for key in images
    refine ⟨d, _, hd, True.intro, fun od => ⟨_, rfl, d, od, rfl, .inl ⟨_, upd_same, for_it walk_keys (fun i σ H2 => ∃ v2, σ = [some (.ref d), some (.str (Sx st)), v2, none, none] ∧ H2 = upd H d (.frz od (.dK (encT t)))) ⟨none, rfl, rfl⟩ ?_ ?_ ?_⟩⟩⟩
    · rintro i σ H2 hi ⟨v2, rfl, rfl⟩
      exact upd_same
    · rintro i x σ H2 H2' hi ⟨v2, rfl, rfl⟩ ⟨rfl, k, v, hk, rfl⟩
      obtain ⟨hit, rfl, rfl⟩ := enc_at hk
      have hc : t[i].1 ∈ abc := abc_mem.mpr (hlt _ (G.key _ (List.getElem_mem hit)))
      refine ⟨_, rfl, _, rfl, .inl ⟨t[i].1, rfl, ?_⟩⟩
      rw [decide_eq_true hc]
      exact ⟨true, rfl, iteF ⟨_, rfl, rfl⟩⟩
    · rintro σ H2 ⟨v2, rfl, rfl⟩
      refine ⟨upd_same, ?_⟩
      rw [Same.upd_back hd]
      -- for letter in LETTERS
      refine ⟨abcS, rfl, for_it walk_str (fun i σ H2 => ∃ v3, σ = [some (.ref d), some (.str (Sx st)), v2, v3, none] ∧ H = H2) ⟨none, rfl, rfl⟩ ?_ ?_ ?_⟩
      · rintro i σ H2 hi _
        trivial
      · rintro i x σ H2 H2' hi ⟨v3, rfl, rfl⟩ ⟨rfl, c, hc, rfl⟩
        refine ⟨_, rfl, _, rfl, d, _, rfl, DGet.k (k := Sum.inr (L1 c)) hd, _, rfl, ?_⟩
        rw [valV_enc]
        cases e : lookT t c with
        | none =>
          refine iteF ?_
          exact ⟨_, rfl, rfl⟩
        | some s =>
          refine iteT ?_
          refine ⟨_, rfl, _, rfl, d, V.str (Sx s), rfl, .inl ⟨_, Sum.inr (L1 c), .inl hd, rfl, by rw [valV_enc, e]; rfl⟩, s, rfl, ⟨(G.img _ (look_in e)).1, (G.img _ (look_in e)).2.1, fun z hz => hlt z ((G.img _ (look_in e)).2.2 z hz)⟩, true, rfl, ?_⟩
          exact ⟨_, rfl, rfl⟩
      · rintro σ H2 ⟨v3, rfl, rfl⟩
        -- is_text(keeps)
        refine ⟨_, rfl, st, rfl, fun c hc => hlt c (hst c hc), by omega, true, rfl, iteF ?_⟩
        -- kept
        refine ⟨_, rfl, Sx st, rfl, fun D nD => dc_it walk_str (fun i H3 => H3 = upd H D (.dK (encT (mergeT [] ((st.take i).map fun c => (c, [c])))))) ?_ ?_ ?_ ?_⟩
        · rfl
        · rintro i H3 hi _
          trivial
        · rintro i x H3 H3' hi rfl ⟨rfl, c, hc, rfl⟩
          have hc' := sx_at hc
          rw [sx_size] at hi
          have gk := keep_take (cs := cs) hst hlt i
          refine ⟨rfl, _, rfl, _, rfl, _, Sum.inr (L1 c), rfl, upd_same, by rw [encT_len]; have := gk.len; exact small1000 (by omega), ?_⟩
          rw [upd_upd]
          have ep : putK (encT (mergeT [] ((st.take i).map fun c => (c, [c])))) (Sum.inr (L1 c)) (V.str ⟨#[c]⟩) = encT (mergeT [] ((st.take (i + 1)).map fun c => (c, [c]))) := by
            rw [keep_succ hc']
            exact putK_enc _ c [c]
          rw [ep]
        · rintro H3 rfl
          rw [sx_size, List.take_length]
          have gk := keepT_good hst hlt
          have lk := gk.len
          have hdD : d ≠ D := ne_of_none hd nD
          -- {**kept, **images}
          have em : mergeK [] (encT (keepT st)) = encT (mergeT [] (keepT st)) := mergeK_enc (keepT st) []
          have gm : GoodT cs (mergeT [] (keepT st)) := GoodT.merge GoodT.nil fun x hx => ⟨gk.key x hx, gk.img x hx⟩
          have lm := gm.len
          refine fun r nr => ?_
          have hDr : D ≠ r := ne_of_none (H := upd H D (.dK (encT (keepT st)))) upd_same nr
          have hdr : d ≠ r := by
            refine ne_of_none (H := upd H D (.dK (encT (keepT st)))) (o := .dK (encT t)) ?_ nr
            rw [upd_ne hdD]
            exact hd
          refine ⟨_, rfl, D, encT (keepT st), rfl, hDr, upd_same, .inl ?_, by rw [encT_len]; omega, ?_⟩
          · rw [upd_ne hDr, upd_same]
            rfl
          · rw [em]
            refine ⟨_, rfl, d, encT (mergeT [] (keepT st)), encT t, rfl, hdr, upd_same, by rw [encT_len]; omega, .inl ?_, by rw [encT_len]; omega, ?_⟩
            · rw [upd_ne hdr, upd_ne hdr, upd_ne hdD]
              exact hd
            · rw [mergeK_enc]
              have s1 : Same H (upd H D (.dK (encT (keepT st)))) := fun b o e => by
                rw [upd_ne (ne_of_none e nD)]
                exact e
              have nrH : H r = none := s1.free nr
              refine q r _ (fun b o e => ?_) nrH upd_same
              have hb := ne_of_none e nrH
              rw [upd_ne hb, upd_ne hb, upd_ne hb]
              exact s1 b o e
end
end V8

set_option Elab.async false
set_option linter.all false
set_option maxRecDepth 100000
set_option maxHeartbeats 8000000
/-! The class Misreading, as far as the law asks it. -/
namespace V8
open PySem PySem.Spec PyProof.Rows L2
abbrev s_Misreading_init : Stmt := inClass (topS 32) 0
abbrev n_Misreading_init : List Str := ["self", "images", "keeps", "told", "letter"]
theorem sc_Misreading_init : FnScope ["self", "images", "keeps", "told", "letter"] ["self", "images", "keeps"] (defScope s_Misreading_init) := ⟨rfl, rfl, rfl, by decide +kernel, rfl, by decide +kernel, by decide +kernel⟩
abbrev s_Misreading_contains : Stmt := inClass (topS 32) 1
abbrev n_Misreading_contains : List Str := ["self", "x"]
theorem sc_Misreading_contains : FnScope ["self", "x"] ["self", "x"] (defScope s_Misreading_contains) := ⟨rfl, rfl, rfl, by decide +kernel, rfl, by decide +kernel, by decide +kernel⟩
abbrev s_Misreading_len : Stmt := inClass (topS 32) 2
abbrev n_Misreading_len : List Str := ["self"]
theorem sc_Misreading_len : FnScope ["self"] ["self"] (defScope s_Misreading_len) := ⟨rfl, rfl, rfl, by decide +kernel, rfl, by decide +kernel, by decide +kernel⟩
abbrev s_Misreading_iter : Stmt := inClass (topS 32) 3
abbrev n_Misreading_iter : List Str := ["self"]
theorem sc_Misreading_iter : FnScope ["self"] ["self"] (defScope s_Misreading_iter) := ⟨rfl, rfl, rfl, by decide +kernel, rfl, by decide +kernel, by decide +kernel⟩
abbrev s_Misreading_getitem : Stmt := inClass (topS 32) 4
abbrev n_Misreading_getitem : List Str := ["self", "at"]
theorem sc_Misreading_getitem : FnScope ["self", "at"] ["self", "at"] (defScope s_Misreading_getitem) := ⟨rfl, rfl, rfl, by decide +kernel, rfl, by decide +kernel, by decide +kernel⟩
abbrev s_Misreading_eq : Stmt := inClass (topS 32) 13
abbrev n_Misreading_eq : List Str := ["self", "other"]
theorem sc_Misreading_eq : FnScope ["self", "other"] ["self", "other"] (defScope s_Misreading_eq) := ⟨rfl, rfl, rfl, by decide +kernel, rfl, by decide +kernel, by decide +kernel⟩
abbrev s_Misreading_same : Stmt := inClass (topS 32) 15
abbrev n_Misreading_same : List Str := ["letters"]
theorem sc_Misreading_same : FnScope ["letters"] ["letters"] (defScope s_Misreading_same) := ⟨rfl, rfl, rfl, by decide +kernel, rfl, by decide +kernel, by decide +kernel⟩
abbrev s_Misreading_str : Stmt := inClass (topS 32) 16
abbrev n_Misreading_str : List Str := ["self", "letter"]
theorem sc_Misreading_str : FnScope ["self", "letter"] ["self"] (defScope s_Misreading_str) := ⟨rfl, rfl, rfl, by decide +kernel, rfl, by decide +kernel, by decide +kernel⟩
def keysOf (u : Tab) : List Nat := abc.filter fun c => (lookT u c).isSome
def ims (u : Tab) : Tab := (keysOf u).map fun c => (c, (lookT u c).getD [])
def chg (u : Tab) : List Nat := (keysOf u).filter fun c => decide (lookT u c ≠ some [c])
theorem kLI : ¬ (("_letters" : Str) = "_images") := by decide +kernel
theorem kLC : ¬ (("_letters" : Str) = "changed") := by decide +kernel
theorem kIC : ¬ (("_images" : Str) = "changed") := by decide +kernel
def f1 (a : Addr) : List (Str × V) := putF "_letters" (.ref a) []
def f2 (a b : Addr) : List (Str × V) := putF "_images" (.ref b) (f1 a)
def f3 (a b c : Addr) : List (Str × V) := putF "changed" (.ref c) (f2 a b)
theorem f1_L (a : Addr) : (f1 a).lookup ("_letters" : Str) = some (.ref a) := by
  unfold f1
  rw [lookup_putF, if_pos rfl]
theorem f2_L (a b : Addr) : (f2 a b).lookup ("_letters" : Str) = some (.ref a) := by
  unfold f2
  rw [lookup_putF, if_neg kLI]
  exact f1_L a
theorem f3_L (a b c : Addr) : (f3 a b c).lookup ("_letters" : Str) = some (.ref a) := by
  unfold f3
  rw [lookup_putF, if_neg kLC]
  exact f2_L a b
theorem f3_I (a b c : Addr) : (f3 a b c).lookup ("_images" : Str) = some (.ref b) := by
  unfold f3 f2
  rw [lookup_putF, if_neg kIC, lookup_putF, if_pos rfl]
theorem f3_C (a b c : Addr) : (f3 a b c).lookup ("changed" : Str) = some (.ref c) := by
  unfold f3
  rw [lookup_putF, if_pos rfl]
theorem f1_len (a : Addr) : (f1 a).length < 1000 := by
  show 1 < 1000
  decide
theorem f2_len (a b : Addr) : (f2 a b).length < 1000 := by
  have e : f2 a b = [(("_letters" : Str), V.ref a), ("_images", V.ref b)] := by
    show (if ("_letters" : Str) = "_images" then [(("_letters" : Str), V.ref b)] else (("_letters" : Str), V.ref a) :: [(("_images" : Str), V.ref b)]) = _
    rw [if_neg kLI]
  rw [e]
  show 2 < 1000
  decide
/-- a Misreading stands at x: its images are those of the table u, letters ascending -/
structure MisAt (C : Addr) (H : Hp) (x : Addr) (u : Tab) : Prop where
  at_ : ∃ dx a b c, H x = some (.ins C dx (f3 a b c)) ∧ H a = some (.tup (lets (keysOf u))) ∧ H b = some (.dK (encT (ims u))) ∧ H c = some (.tup (lets (chg u)))
theorem MisAt.mono {C : Addr} {H H' : Hp} {x : Addr} {u : Tab} (m : MisAt C H x u) (k : ∀ b o, H b = some o → (∀ xs, o ≠ .lst xs) → H' b = some o) : MisAt C H' x u := by
  obtain ⟨dx, a, b, c, h1, h2, h3, h4⟩ := m.at_
  exact ⟨dx, a, b, c, k _ _ h1 (fun _ z => nomatch z), k _ _ h2 (fun _ z => nomatch z), k _ _ h3 (fun _ z => nomatch z), k _ _ h4 (fun _ z => nomatch z)⟩
/-- .. made of what is new behind H0 -/
structure MisN (C : Addr) (H0 H : Hp) (x : Addr) (u : Tab) : Prop where
  at_ : ∃ dx a b c, H x = some (.ins C dx (f3 a b c)) ∧ H a = some (.tup (lets (keysOf u))) ∧ H b = some (.dK (encT (ims u))) ∧ H c = some (.tup (lets (chg u))) ∧ H0 a = none ∧ H0 b = none ∧ H0 c = none
theorem MisN.mis {C : Addr} {H0 H : Hp} {x : Addr} {u : Tab} (m : MisN C H0 H x u) : MisAt C H x u := by
  obtain ⟨dx, a, b, c, h1, h2, h3, h4, _⟩ := m.at_
  exact ⟨dx, a, b, c, h1, h2, h3, h4⟩
/-- what stood there is written -/
theorem MisN.write {C d : Addr} {H0 H : Hp} {x : Addr} {u : Tab} {o o' : HO} (m : MisN C H0 H x u) (h : H0 d = some o) (hx : H0 x = none) : MisAt C (upd H d o') x u := by
  obtain ⟨dx, a, b, c, h1, h2, h3, h4, n1, n2, n3⟩ := m.at_
  exact ⟨dx, a, b, c, by rw [upd_ne (ne_of_none h hx).symm]; exact h1, by rw [upd_ne (ne_of_none h n1).symm]; exact h2, by rw [upd_ne (ne_of_none h n2).symm]; exact h3, by rw [upd_ne (ne_of_none h n3).symm]; exact h4⟩
theorem keysOf_sub (u : Tab) : ∀ c ∈ keysOf u, isLt c := fun c h => abc_mem.mp (List.mem_filter.mp h).1
theorem keysOf_len (u : Tab) : (keysOf u).length ≤ 26 := by
  have := List.length_filter_le (fun c => (lookT u c).isSome) abc
  rw [abc_len] at this
  exact this
theorem keysOf_nd (u : Tab) : (keysOf u).Nodup := abc_nd.filter _
def spInit (CM : Addr) : Sp := fun vs H Q _ => ∃ (x dx d : Addr) (cs st : List Nat) (t : Tab), vs = [.ref x, .ref d, .str (Sx st)] ∧ H x = some (.ins CM dx []) ∧ H d = some (.dK (encT t)) ∧ GoodT cs t ∧ ((toldT st t).length ≤ 12 ∧ cs.length ≤ 26) ∧ (∀ c ∈ cs, isLt c) ∧ (∀ c ∈ st, c ∈ cs) ∧ st.length ≤ 500 ∧
  ∀ H', MisN CM H H' x (toldT st t) → (∀ b o, H b = some o → b ≠ x → H' b = some o) → Q .non H'
section
variable {P : Program} {w : World} {K : PySem.W.Frag} {mg : Str → Option Value} {base : Heap} {CM CJ : Addr}
theorem some_put (u : Tab) (i : Nat) (c : Nat) (h : abc[i]? = some c) : (abc.take (i + 1)).filter (fun c => (lookT u c).isSome) = (abc.take i).filter (fun c => (lookT u c).isSome) ++ (if (lookT u c).isSome = true then [c] else []) := by
  rw [List.take_add_one, h, List.filter_append]
  congr 1
  show List.filter _ [c] = _
  by_cases e : (lookT u c).isSome = true
  · rw [if_pos e]
    exact List.filter_eq_self.mpr (fun x hx => by rw [List.mem_singleton.mp hx]; exact e)
  · rw [if_neg e]
    simp [e]
theorem ims_succ {ks : List Nat} {u : Tab} {i : Nat} {s : List Nat} (nd : ks.Nodup) (hi : i < ks.length) (e : (lookT u ks[i]).getD [] = s) : putT ((ks.take i).map fun c => (c, (lookT u c).getD [])) ks[i] s = (ks.take (i + 1)).map fun c => (c, (lookT u c).getD []) := by
  have hn : ¬ (((ks.take i).map fun c => (c, (lookT u c).getD [])).any fun q => decide (q.1 = ks[i])) = true := by
    intro h
    obtain ⟨q, hq, e1⟩ := List.any_eq_true.mp h
    obtain ⟨c, hc, rfl⟩ := List.mem_map.mp hq
    have e2 : c = ks[i] := by simpa using e1
    obtain ⟨j, hj, ej⟩ := List.getElem_of_mem hc
    rw [List.length_take] at hj
    rw [List.getElem_take] at ej
    have : j = i := (List.getElem_inj nd).mp (ej.trans e2)
    omega
  unfold putT
  rw [if_neg hn, List.take_add_one, List.getElem?_eq_getElem hi, List.map_append]
  show _ = _ ++ [(ks[i], (lookT u ks[i]).getD [])]
  rw [e]
theorem chg_succ {u : Tab} {i : Nat} {ks : List Nat} (hi : i < ks.length) : (ks.take (i + 1)).filter (fun c => decide (lookT u c ≠ some [c])) = (ks.take i).filter (fun c => decide (lookT u c ≠ some [c])) ++ (if decide (lookT u ks[i] ≠ some [ks[i]]) = true then [ks[i]] else []) := by
  rw [List.take_add_one, List.getElem?_eq_getElem hi, List.filter_append]
  congr 1
  show List.filter _ [ks[i]] = _
  rw [List.filter_cons]
  rfl
theorem ok_init {f : Addr} {fd : FuncData} {dvs : List V} (F : FunD K "__init__" "Misreading.__init__" (defArgs s_Misreading_init) (defBody s_Misreading_init) (defScope s_Misreading_init) dvs [] f fd) (T : Tx K mg CM CJ) (D_told_images : Df P w K mg base 4 "told_images" spTold) : FnOk P w K mg base CX0 5 f fd ["self", "images", "keeps"] (spInit CM) := by
  refine F.ok sc_Misreading_init (fun vs H Q E h => ?_) (fun cdv A outer s H vs Q E hr h => ?_)
  · obtain ⟨x, dx, d, cs, st, t, rfl, _⟩ := h
    rfl
  · obtain ⟨x, dx, d, cs, st, t, rfl, hx, hd, G, ⟨h12, h26⟩, hlt, hst, hs5, q⟩ := h
    refine ⟨_, (pss_cons (ps_set (i := 3) sc_Misreading_init.nd rfl (.inr rfl) (pe_ifExp (pt_val (pe_callB call_isi (by rfl) T.isinstance (by decide +kernel) (pa_cons (pv 1) (pa_cons (pe_gv T.gJoined (by rfl)) pa_nil)))) (pe_fldK (K := K) rfl (pv 1) rfl) (pe_c D_told_images hr (by decide) (by rfl) (pa_cons (pv 1) (pa_cons (pv 2) pa_nil)))))
      (pss_cons (ps_if (pt_cmpR op_gt (pe_callB call_lenD (by rfl) T.len (by decide +kernel) (pa_cons (pv 3) pa_nil)) (pe_gv T.gMOST_LETTERS (by rfl)) (nomark _))
        (pss_one ps_never)
        pss_nil)
      (pss_cons (ps_fld (pv 0) (pe_callTy (call_tuple_ofK (K := K) rfl) (by rfl) T.tuple (by decide +kernel) (pa_cons (pe_lc (own := [("letter", 4)]) (g := gName 4) (by rfl) sc_Misreading_init.nd (pi_str (pe_gv T.gLETTERS (by rfl))) (blkOk_by (own := [("letter", 4)]) (N := n_Misreading_init) (sc := defScope s_Misreading_init) (by decide +kernel)) (fun _ _ _ _ _ => (pg_name (i := 4) sc_Misreading_init.nd rfl (.inl rfl))) (fun _ _ _ _ _ => (pts_one (pt_cmp (pc_din (hu_of hr) (pv 4) (pv 3))))) (fun _ _ _ _ _ => (pv 4))) pa_nil)) rfl)
      (pss_cons (ps_fld (pv 0) (pe_dc (own := [("letter", 4)]) (g := gName 4) (by rfl) sc_Misreading_init.nd (pi_tup (pe_fldK (K := K) rfl (pv 0) rfl)) (blkOk_by (own := [("letter", 4)]) (N := n_Misreading_init) (sc := defScope s_Misreading_init) (by decide +kernel)) (fun _ _ _ _ _ => (pg_name (i := 4) sc_Misreading_init.nd rfl (.inl rfl))) (fun _ _ _ _ _ => pts_nil) (fun _ _ _ _ _ => (pv 4)) (fun _ _ _ _ _ => (pe_dget (hu_of hr) (pv 3) (pv 4) (fun _ _ => rfl)))) rfl)
      (pss_one (ps_fld (pv 0) (pe_callTy (call_tuple_ofK (K := K) rfl) (by rfl) T.tuple (by decide +kernel) (pa_cons (pe_lc (own := [("letter", 4)]) (g := gName 4) (by rfl) sc_Misreading_init.nd (pi_tup (pe_fldK (K := K) rfl (pv 0) rfl)) (blkOk_by (own := [("letter", 4)]) (N := n_Misreading_init) (sc := defScope s_Misreading_init) (by decide +kernel)) (fun _ _ _ _ _ => (pg_name (i := 4) sc_Misreading_init.nd rfl (.inl rfl))) (fun _ _ _ _ _ => (pts_one (pt_cmpR op_ne (pe_dget (hu_of hr) (pv 3) (pv 4) (fun _ _ => rfl)) (pv 4) (nomark _)))) (fun _ _ _ _ _ => (pv 4))) pa_nil)) rfl)))))), ?_⟩
    have gu := toldT_good hst hlt G
    have lu := h12
    -- told
    refine ⟨_, rfl, _, .ref CJ, .type "dict", .ref CJ, false, rfl, .own _, .base (.dK hd), T.dJ, false, rfl, ?_⟩
    refine iteF ?_
    refine ⟨_, rfl, _, rfl, d, cs, st, t, rfl, hd, G, by omega, hlt, hst, hs5, fun r H1 sm nr hr1 => ?_⟩
    generalize toldT st t = u at gu lu q hr1 ⊢
    have hx1 := sm _ _ hx
    -- len(told) > 12
    refine ⟨_, rfl, r, _, rfl, hr1, _, _, rfl, rfl, _, rfl, ?_⟩
    rw [encT_len, decide_eq_false (by show ¬ ((12 : Int) < (u.length : Int)); omega)]
    refine iteF ?_
    have hx0 : ∀ b o, H b = some o → b ≠ x → H1 b = some o := fun b o e _ => sm b o e
    -- self._letters
    refine ⟨abcS, rfl, fun D nD => lc_it walk_str (fun i H2 => H2 = upd H1 D (.lst (lets ((abc.take i).filter fun c => (lookT u c).isSome)))) rfl (fun _ _ _ _ => trivial) ?_ ?_⟩
    · rintro i z H2 H2' hi rfl ⟨rfl, c, hc, rfl⟩
      have hc' : abc[i]? = some c := by
        rw [← abcS_cps]
        simpa using hc
      have hrD : r ≠ D := ne_of_none hr1 nD
      refine ⟨rfl, _, rfl, _, rfl, r, _, rfl, DGet.k (k := Sum.inr (L1 c)) (by rw [upd_ne hrD]; exact hr1), _, rfl, ?_⟩
      rw [valV_enc]
      have hs := some_put u i c hc'
      by_cases e : (lookT u c).isSome = true
      · have e2 : (Option.map (fun s => V.str (Sx s)) (lookT u c)).isSome = true := by rw [Option.isSome_map]; exact e
        rw [e2]
        refine iteT ?_
        rw [if_pos e] at hs
        refine ⟨_, rfl, lets ((abc.take i).filter fun c => (lookT u c).isSome), upd_same, ?_, ?_⟩
        · rw [lets_len]
          have h1 := List.length_filter_le (fun c => (lookT u c).isSome) (abc.take i)
          have h2 : (abc.take i).length ≤ 26 := by rw [List.length_take, abc_len]; omega
          exact small1000 (by omega)
        · rw [upd_upd, hs, lets_snoc]
          rfl
      · have e2 : (Option.map (fun s => V.str (Sx s)) (lookT u c)).isSome = false := by
          rw [Option.isSome_map]
          exact Bool.eq_false_iff.mpr e
        rw [e2]
        refine iteF ?_
        rw [if_neg e, List.append_nil] at hs
        rw [hs]
    · rintro H2 rfl
      have hsz : abcS.cps.size = 26 := by decide +kernel
      rw [hsz]
      have ek : (abc.take 26).filter (fun c => (lookT u c).isSome) = keysOf u := by
        rw [List.take_of_length_le (by rw [abc_len]; exact Nat.le_refl _)]
        rfl
      rw [ek]
      refine ⟨D, _, rfl, .inl ⟨SqL.of upd_same, fun a na => ?_⟩⟩
      have hxD : x ≠ D := ne_of_none hx1 nD
      have hxa : x ≠ a := ne_of_none (H := upd H1 D (.lst (lets (keysOf u)))) (o := .ins CM dx []) (by rw [upd_ne hxD]; exact hx1) na
      have hrD : r ≠ D := ne_of_none hr1 nD
      have hra : r ≠ a := ne_of_none (H := upd H1 D (.lst (lets (keysOf u)))) (o := .dK (encT u)) (by rw [upd_ne hrD]; exact hr1) na
      have hrx : r ≠ x := ne_of hr1 hx1 (fun z => nomatch z)
      refine ⟨_, rfl, x, CM, dx, [], rfl, by rw [upd_ne hxa, upd_ne hxD]; exact hx1, T.cl, T.nL, by show 0 < 1000; decide, ?_⟩
      have fr3 : ∀ b o, H b = some o → b ≠ x → upd (upd (upd H1 D (.lst (lets (keysOf u)))) a (.tup (lets (keysOf u)))) x (.ins CM dx (f1 a)) b = some o := fun b o e hb => by
        have e1 := sm b o e
        have hbD := ne_of_none e1 nD
        rw [upd_ne hb, upd_ne (ne_of_none (H := upd H1 D (.lst (lets (keysOf u)))) (o := o) (by rw [upd_ne hbD]; exact e1) na), upd_ne hbD]
        exact e1
      have hx3 : upd (upd (upd H1 D (.lst (lets (keysOf u)))) a (.tup (lets (keysOf u)))) x (.ins CM dx (f1 a)) x = some (.ins CM dx (f1 a)) := upd_same
      have ha3 : upd (upd (upd H1 D (.lst (lets (keysOf u)))) a (.tup (lets (keysOf u)))) x (.ins CM dx (f1 a)) a = some (.tup (lets (keysOf u))) := by rw [upd_ne (Ne.symm hxa), upd_same]
      have hr3 : upd (upd (upd H1 D (.lst (lets (keysOf u)))) a (.tup (lets (keysOf u)))) x (.ins CM dx (f1 a)) r = some (.dK (encT u)) := by rw [upd_ne hrx, upd_ne hra, upd_ne hrD]; exact hr1
      show tSeq _ _ _ _ (upd (upd (upd H1 D (.lst (lets (keysOf u)))) a (.tup (lets (keysOf u)))) x (.ins CM dx (f1 a)))
      generalize upd (upd (upd H1 D (.lst (lets (keysOf u)))) a (.tup (lets (keysOf u)))) x (.ins CM dx (f1 a)) = H3 at fr3 hx3 ha3 hr3 ⊢
      have naH : H a = none := by
        cases e : H a with
        | none => rfl
        | some o =>
          have e1 := sm _ _ e
          have e2 : upd H1 D (.lst (lets (keysOf u))) a = some o := by rw [upd_ne (ne_of_none e1 nD)]; exact e1
          rw [e2] at na
          cases na
      clear na nD hxD hxa hrD hra
      -- self._images
      refine ⟨_, rfl, x, CM, dx, _, _, rfl, hx3, T.cl, T.nL, f1_L a, a, rfl, ⟨_, .inl (.inl ha3)⟩, fun D2 nD2 => dc_it (walk_tup (K := K) (a := a) (xs := lets (keysOf u))) (fun i H4 => H4 = upd H3 D2 (.dK (encT (((keysOf u).take i).map fun c => (c, (lookT u c).getD []))))) rfl ?_ ?_ ?_⟩
      · rintro i H4 hi rfl
        exact .inl (.inl (by rw [upd_ne (ne_of_none ha3 nD2)]; exact ha3))
      · rintro i z H4 H4' hi rfl ⟨rfl, hz⟩
        obtain ⟨hik, rfl⟩ := lets_get hz
        obtain ⟨s, es⟩ := Option.isSome_iff_exists.mp (List.mem_filter.mp (List.getElem_mem hik)).2
        refine ⟨rfl, _, rfl, _, rfl, _, rfl, r, V.str (Sx s), rfl, .inl ⟨_, Sum.inr (L1 (keysOf u)[i]), .inl (by rw [upd_ne (ne_of_none hr3 nD2)]; exact hr3), rfl, by rw [valV_enc, es]; rfl⟩, _, Sum.inr (L1 (keysOf u)[i]), rfl, upd_same, ?_, ?_⟩
        · rw [encT_len, List.length_map, List.length_take]
          have := keysOf_len u
          exact small1000 (by omega)
        · rw [upd_upd, putK_enc]
          congr 3
          exact ims_succ (keysOf_nd u) hik (by rw [es]; rfl)
      · rintro H4 rfl
        rw [lets_len, List.take_length]
        have hxD2 : x ≠ D2 := ne_of_none hx3 nD2
        have haD2 : a ≠ D2 := ne_of_none ha3 nD2
        have hrD2 : r ≠ D2 := ne_of_none hr3 nD2
        refine ⟨_, rfl, x, CM, dx, f1 a, rfl, by rw [upd_ne hxD2]; exact hx3, T.cl, T.nI, f1_len a, ?_⟩
        have hax : a ≠ x := ne_of ha3 hx3 (fun z => nomatch z)
        have nbH : H D2 = none := by
          cases e : H D2 with
          | none => rfl
          | some o =>
            have e1 := fr3 _ _ e (Ne.symm hxD2)
            rw [e1] at nD2
            cases nD2
        have fr5 : ∀ b o, H b = some o → b ≠ x → upd (upd H3 D2 (.dK (encT (ims u)))) x (.ins CM dx (f2 a D2)) b = some o := fun b o e hb => by
          have e1 := fr3 b o e hb
          rw [upd_ne hb, upd_ne (ne_of_none e1 nD2)]
          exact e1
        have hx5 : upd (upd H3 D2 (.dK (encT (ims u)))) x (.ins CM dx (f2 a D2)) x = some (.ins CM dx (f2 a D2)) := upd_same
        have ha5 : upd (upd H3 D2 (.dK (encT (ims u)))) x (.ins CM dx (f2 a D2)) a = some (.tup (lets (keysOf u))) := by rw [upd_ne hax, upd_ne haD2]; exact ha3
        have hr5 : upd (upd H3 D2 (.dK (encT (ims u)))) x (.ins CM dx (f2 a D2)) r = some (.dK (encT u)) := by rw [upd_ne hrx, upd_ne hrD2]; exact hr3
        have hd5 : upd (upd H3 D2 (.dK (encT (ims u)))) x (.ins CM dx (f2 a D2)) D2 = some (.dK (encT (ims u))) := by rw [upd_ne (Ne.symm hxD2), upd_same]
        show Ends.nx _ _ (upd (upd H3 D2 (.dK (encT (ims u)))) x (.ins CM dx (f2 a D2)))
        generalize upd (upd H3 D2 (.dK (encT (ims u)))) x (.ins CM dx (f2 a D2)) = H5 at fr5 hx5 ha5 hr5 hd5 ⊢
        -- self.changed
        refine ⟨_, rfl, x, CM, dx, _, _, rfl, hx5, T.cl, T.nL, f2_L a D2, a, rfl, ⟨_, .inl (.inl ha5)⟩, fun D3 nD3 => lc_it (walk_tup (K := K) (a := a) (xs := lets (keysOf u))) (fun i H6 => H6 = upd H5 D3 (.lst (lets (((keysOf u).take i).filter fun c => decide (lookT u c ≠ some [c]))))) rfl ?_ ?_ ?_⟩
        · rintro i H6 hi rfl
          exact .inl (.inl (by rw [upd_ne (ne_of_none ha5 nD3)]; exact ha5))
        · rintro i z H6 H6' hi rfl ⟨rfl, hz⟩
          obtain ⟨hik, rfl⟩ := lets_get hz
          obtain ⟨s, es⟩ := Option.isSome_iff_exists.mp (List.mem_filter.mp (List.getElem_mem hik)).2
          refine ⟨rfl, _, rfl, _, rfl, r, V.str (Sx s), rfl, .inl ⟨_, Sum.inr (L1 (keysOf u)[i]), .inl (by rw [upd_ne (ne_of_none hr5 nD3)]; exact hr5), rfl, by rw [valV_enc, es]; rfl⟩, _, rfl, rfl, _, rfl, ?_⟩
          have hs := chg_succ (u := u) hik
          by_cases e : s = [(keysOf u)[i]]
          · have e1 : lookT u (keysOf u)[i] = some [(keysOf u)[i]] := by rw [es, e]
            rw [if_neg (by simp [e1]), List.append_nil] at hs
            rw [decide_eq_true (show V.str (Sx s) = V.str (L1 (keysOf u)[i]) by rw [e]; rfl)]
            refine iteF ?_
            rw [hs]
          · have e1 : ¬ lookT u (keysOf u)[i] = some [(keysOf u)[i]] := by
              rw [es]
              exact fun z => e (Option.some.inj z)
            rw [if_pos (by simpa using e1)] at hs
            rw [decide_eq_false (show ¬ V.str (Sx s) = V.str (L1 (keysOf u)[i]) from fun z => e (Sx_inj (V.str.inj z)))]
            refine iteT ?_
            refine ⟨_, rfl, _, upd_same, ?_, ?_⟩
            · rw [lets_len]
              have h1 := List.length_filter_le (fun c => decide (lookT u c ≠ some [c])) ((keysOf u).take i)
              have h2 := keysOf_len u
              have h3 : ((keysOf u).take i).length ≤ (keysOf u).length := by rw [List.length_take]; omega
              exact small1000 (by omega)
            · rw [upd_upd, hs, lets_snoc]
        · rintro H6 rfl
          rw [lets_len, List.take_length]
          refine ⟨D3, _, rfl, .inl ⟨SqL.of upd_same, fun c nc => ?_⟩⟩
          have hxD3 : x ≠ D3 := ne_of_none hx5 nD3
          have up : ∀ b o, H5 b = some o → upd (upd H5 D3 (.lst (lets (chg u)))) c (.tup (lets (chg u))) b = some o := fun b o e => by
            have hb := ne_of_none e nD3
            rw [upd_ne (ne_of_none (H := upd H5 D3 (.lst (lets (chg u)))) (o := o) (by rw [upd_ne hb]; exact e) nc), upd_ne hb]
            exact e
          have hxc : x ≠ c := ne_of_none (H := upd H5 D3 (.lst (lets (chg u)))) (o := .ins CM dx (f2 a D2)) (by rw [upd_ne hxD3]; exact hx5) nc
          refine ⟨_, rfl, x, CM, dx, f2 a D2, rfl, up _ _ hx5, T.cl, T.nC, f2_len a D2, ?_⟩
          have ncH : H c = none := by
            have nc' : upd H5 D3 (.lst (lets (chg u))) c = none := nc
            cases e : H c with
            | none => rfl
            | some o =>
              have e3 := fr5 _ _ e (Ne.symm hxc)
              have e2 : upd H5 D3 (.lst (lets (chg u))) c = some o := by
                rw [upd_ne (ne_of_none e3 nD3)]
                exact e3
              rw [e2] at nc'
              cases nc'
          have hD2x : D2 ≠ x := ne_of hd5 hx5 (fun z => nomatch z)
          refine q _ ⟨dx, a, D2, c, upd_same, ?_, ?_, ?_, naH, nbH, ncH⟩ fun b o e hb => ?_
          · rw [upd_ne hax]
            exact up _ _ ha5
          · rw [upd_ne hD2x]
            exact up _ _ hd5
          · rw [upd_ne (Ne.symm hxc)]
            exact upd_same
          · rw [upd_ne hb]
            exact up _ _ (fr5 b o e hb)
end
end V8

set_option Elab.async false
set_option linter.all false
set_option maxRecDepth 100000
set_option maxHeartbeats 8000000
/-! Misreading: in, len, iteration, [ ]. -/
namespace V8
open PySem PySem.Spec PyProof.Rows L2
theorem lookT_map (f : Nat → List Nat) (c : Nat) : ∀ ks : List Nat, lookT (ks.map fun c => (c, f c)) c = if c ∈ ks then some (f c) else none
  | [] => by rw [if_neg List.not_mem_nil]; rfl
  | k :: ks => by
    have ih := lookT_map f c ks
    unfold lookT at ih ⊢
    rw [List.map_cons, List.find?_cons]
    by_cases h : k = c
    · subst h
      simp
    · simp only [h, decide_false]
      have e : (c ∈ k :: ks) ↔ c ∈ ks := by
        simp [Ne.symm h]
      rw [ih]
      by_cases h2 : c ∈ ks
      · rw [if_pos h2, if_pos (e.mpr h2)]
      · rw [if_neg h2, if_neg (fun z => h2 (e.mp z))]
theorem look_ims (u : Tab) (c : Nat) : lookT (ims u) c = if c ∈ keysOf u then some ((lookT u c).getD []) else none := lookT_map _ c _
theorem keysOf_mem {u : Tab} {c : Nat} : c ∈ keysOf u ↔ c ∈ abc ∧ (lookT u c).isSome = true := List.mem_filter
theorem look_ims_some {u : Tab} {c : Nat} (h : c ∈ keysOf u) : lookT (ims u) c = lookT u c := by
  rw [look_ims, if_pos h]
  obtain ⟨s, e⟩ := Option.isSome_iff_exists.mp (keysOf_mem.mp h).2
  rw [e]
  rfl
structure Ty (K : PySem.W.Frag) (mg : Str → Option Value) (CM CJ : Addr) : Prop extends Tx K mg CM CJ where
  mM : PySem.W.kitOne K (.ref CM) (.ref CM) = some true
  MJ : PySem.W.kitOne K (.ref CM) (.ref CJ) = some false
  Ms : PySem.W.kitOne K (.ref CM) (.type "str") = some false
  ls : PySem.W.kitOne K (.type "list") (.type "str") = some false
def spIn (K : PySem.W.Frag) (CM : Addr) : Sp := fun vs H Q _ => ∃ (x : Addr) (u : Tab) (y : V), vs = [.ref x, y] ∧ MisAt CM H x u ∧ ((∃ c, y = .str (L1 c) ∧ Q (.bl (decide (c ∈ keysOf u))) H) ∨ (∃ z, y = .str z ∧ z.length ≤ sizeLine ∧ z.length ≠ 1 ∧ Q (.bl false) H) ∨
  (∃ t, TyX K H y t ∧ PySem.W.kitOne K t (.type "str") = some false ∧ Q (.bl false) H))
def spLen (CM : Addr) : Sp := fun vs H Q _ => ∃ (x : Addr) (u : Tab), vs = [.ref x] ∧ MisAt CM H x u ∧ Q (.int (keysOf u).length) H
def spGet (CM : Addr) : Sp := fun vs H Q _ => ∃ (x : Addr) (u : Tab) (c : Nat) (s : List Nat), vs = [.ref x, .str (L1 c)] ∧ MisAt CM H x u ∧ c ∈ keysOf u ∧ lookT u c = some s ∧ Q (.str (Sx s)) H
def snIter (CM : Addr) : Nat → Sp := fun n vs H Q _ => ∃ (x : Addr) (u : Tab), vs = [.ref x] ∧ MisAt CM H x u ∧ ∀ it a, H it = none → n ≤ it → H a = some (.tup (lets (keysOf u))) → Q (.ref it) (upd H it (ItT a it))
section
variable {P : Program} {w : World} {K : PySem.W.Frag} {mg : Str → Option Value} {base : Heap} {CM CJ : Addr}
theorem ok_in {f : Addr} {fd : FuncData} (F : Fun K "__contains__" "Misreading.__contains__" s_Misreading_contains f fd) (T : Tx K mg CM CJ) (D_is_letter : Df P w K mg base 1 "is_letter" (spIsLetter K)) : FnOk P w K mg base CX0 2 f fd ["self", "x"] (spIn K CM) := by
  refine F.ok sc_Misreading_contains (fun vs H Q E h => ?_) (fun cdv A outer s H vs Q E hr h => ?_)
  · obtain ⟨x, u, y, rfl, _⟩ := h
    rfl
  · obtain ⟨x, u, y, rfl, ⟨dx, a, b, c', hx, ha, hb, hc⟩, h⟩ := h
    refine ⟨_, (pss_one (ps_ret (pe_and (pe_c D_is_letter hr (by decide) (by rfl) (pa_cons (pv 1) pa_nil)) (pe_one (pe_cmp (pc_din (hu_of hr) (pv 1) (pe_fldK (K := K) rfl (pv 0) rfl)) rfl))))), ?_⟩
    rcases h with ⟨c, rfl, q⟩ | ⟨z, rfl, hz, h1, q⟩ | ⟨t, ty, e, q⟩
    · refine ⟨_, rfl, _, rfl, .inl ⟨c, rfl, _, rfl, ?_⟩⟩
      by_cases e : c ∈ abc
      · rw [decide_eq_true e]
        refine iteT ?_
        refine ⟨_, rfl, _, rfl, x, CM, dx, _, _, rfl, hx, T.cl, T.nI, f3_I a b c', b, _, rfl, DGet.k (k := Sum.inr (L1 c)) hb, ?_⟩
        rw [valV_enc, Option.isSome_map, look_ims]
        by_cases h : c ∈ keysOf u
        · rw [if_pos h]
          rw [decide_eq_true h] at q
          exact q
        · rw [if_neg h]
          rw [decide_eq_false h] at q
          exact q
      · rw [decide_eq_false e]
        refine iteF ?_
        rw [decide_eq_false (fun h => e (keysOf_mem.mp h).1)] at q
        exact q
    · refine ⟨_, rfl, _, rfl, .inr (.inl ⟨z, rfl, hz, h1, _, rfl, ?_⟩)⟩
      exact q
    · refine ⟨_, rfl, _, rfl, .inr (.inr ⟨t, ty, e, _, rfl, ?_⟩)⟩
      exact q
theorem ok_len {f : Addr} {fd : FuncData} (F : Fun K "__len__" "Misreading.__len__" s_Misreading_len f fd) (T : Tx K mg CM CJ) : FnOk P w K mg base CX0 1 f fd ["self"] (spLen CM) := by
  refine F.ok sc_Misreading_len (fun vs H Q E h => ?_) (fun cdv A outer s H vs Q E hr h => ?_)
  · obtain ⟨x, u, rfl, _⟩ := h
    rfl
  · obtain ⟨x, u, rfl, ⟨dx, a, b, c, hx, ha, hb, hc⟩, q⟩ := h
    refine ⟨_, (pss_one (ps_ret (pe_callB (call_len_seqK (K := K) rfl) (by rfl) T.len (by decide +kernel) (pa_cons (pe_fldK (K := K) rfl (pv 0) rfl) pa_nil)))), ?_⟩
    refine ⟨_, rfl, x, CM, dx, _, _, rfl, hx, T.cl, T.nL, f3_L a b c, a, _, rfl, .inr (.inl (.inl ha)), ?_⟩
    rw [lets_len]
    exact q
theorem ok_get {f : Addr} {fd : FuncData} (F : Fun K "__getitem__" "Misreading.__getitem__" s_Misreading_getitem f fd) (T : Tx K mg CM CJ) (D_is_letter : Df P w K mg base 1 "is_letter" (spIsLetter K)) : FnOk P w K mg base CX0 2 f fd ["self", "at"] (spGet CM) := by
  refine F.ok sc_Misreading_getitem (fun vs H Q E h => ?_) (fun cdv A outer s H vs Q E hr h => ?_)
  · obtain ⟨x, u, c, z, rfl, _⟩ := h
    rfl
  · obtain ⟨x, u, c, z, rfl, ⟨dx, a, b, c', hx, ha, hb, hc⟩, hm, hl, q⟩ := h
    refine ⟨_, (pss_cons (ps_if (pt_not (pt_val (pe_c D_is_letter hr (by decide) (by rfl) (pa_cons (pv 1) pa_nil))))
        (pss_one ps_never)
        pss_nil)
      (pss_cons (ps_if (pt_cmp (pc_dnotin (hu_of hr) (pv 1) (pe_fldK (K := K) rfl (pv 0) rfl)))
        (pss_one ps_never)
        pss_nil)
      (pss_one (ps_ret (pe_dget (hu_of hr) (pe_fldK (K := K) rfl (pv 0) rfl) (pv 1) (fun _ _ => rfl)))))), ?_⟩
    refine ⟨_, rfl, _, rfl, .inl ⟨c, rfl, ?_⟩⟩
    rw [decide_eq_true (keysOf_mem.mp hm).1]
    refine ⟨true, rfl, iteF ?_⟩
    refine ⟨_, rfl, _, rfl, x, CM, dx, _, _, rfl, hx, T.cl, T.nI, f3_I a b c', b, _, rfl, DGet.k (k := Sum.inr (L1 c)) hb, _, rfl, ?_⟩
    rw [valV_enc, Option.isSome_map, look_ims_some hm, hl]
    refine iteF ?_
    refine ⟨_, rfl, x, CM, dx, _, _, rfl, hx, T.cl, T.nI, f3_I a b c', _, rfl, b, V.str (Sx z), rfl, .inl ⟨_, Sum.inr (L1 c), .inl hb, rfl, by rw [valV_enc, look_ims_some hm, hl]; rfl⟩, ?_⟩
    exact q
end
end V8

set_option Elab.async false
set_option linter.all false
set_option maxRecDepth 100000
set_option maxHeartbeats 8000000
/-! Misreading: iteration, ==, str. -/
namespace V8
open PySem PySem.Spec PyProof.Rows L2
/-- the same images -/
def eqM (u v : Tab) : Prop := ∀ c ∈ abc, lookT u c = lookT v c
instance (u v : Tab) : Decidable (eqM u v) := inferInstanceAs (Decidable (∀ c ∈ abc, lookT u c = lookT v c))
theorem strs_enc (t : Tab) : Strs (encT t) := fun p hp => by
  obtain ⟨q, _, rfl⟩ := List.mem_map.mp hp
  exact ⟨_, rfl⟩
theorem keysOf_congr {u v : Tab} (h : eqM u v) : keysOf u = keysOf v := List.filter_congr fun c hc => by rw [h c hc]
theorem ims_len (u : Tab) : (ims u).length = (keysOf u).length := List.length_map ..
theorem sameD_ims (u v : Tab) : sameD (encT (ims u)) (encT (ims v)) = decide (eqM u v) := by
  unfold sameD
  rw [encT_len, encT_len, ims_len, ims_len]
  have e1 : ((encT (ims u)).all fun p => decide (valV (encT (ims v)) p.1 = some p.2)) = decide (∀ c ∈ keysOf u, lookT (ims v) c = lookT u c) := by
    rw [Bool.eq_iff_iff, List.all_eq_true, decide_eq_true_iff]
    constructor
    · intro h c hc
      obtain ⟨s, es⟩ := Option.isSome_iff_exists.mp (keysOf_mem.mp hc).2
      have hm : ((Sum.inr (L1 c) : Key), V.str (Sx s)) ∈ encT (ims u) := List.mem_map.mpr ⟨(c, (lookT u c).getD []), List.mem_map.mpr ⟨c, hc, rfl⟩, by rw [es]; rfl⟩
      have z := of_decide_eq_true (h _ hm)
      rw [valV_enc] at z
      cases e : lookT (ims v) c with
      | none =>
        rw [e] at z
        cases z
      | some s2 =>
        rw [e] at z
        have z2 : V.str (Sx s2) = V.str (Sx s) := Option.some.inj z
        rw [es, Sx_inj (V.str.inj z2)]
    · intro h p hp
      obtain ⟨q, hq, rfl⟩ := List.mem_map.mp hp
      obtain ⟨c, hc, rfl⟩ := List.mem_map.mp hq
      obtain ⟨s, es⟩ := Option.isSome_iff_exists.mp (keysOf_mem.mp hc).2
      rw [decide_eq_true_iff]
      show valV (encT (ims v)) (Sum.inr (L1 c)) = _
      rw [valV_enc, h c hc, es]
      rfl
  rw [e1]
  by_cases h : eqM u v
  · rw [decide_eq_true h, keysOf_congr h, beq_self_eq_true, Bool.true_and, decide_eq_true_iff]
    intro c hc
    have h2 := h c (keysOf_mem.mp hc).1
    rw [look_ims_some hc, h2]
  · rw [decide_eq_false h]
    rw [Bool.and_eq_false_iff]
    by_cases l : (keysOf u).length = (keysOf v).length
    · right
      rw [decide_eq_false]
      intro z
      refine h fun c hc => ?_
      have sub : ∀ c ∈ keysOf u, c ∈ keysOf v := fun c hc => by
        have e := z c hc
        rw [look_ims] at e
        by_cases m : c ∈ keysOf v
        · exact m
        · rw [if_neg m] at e
          have := (keysOf_mem.mp hc).2
          rw [← e] at this
          cases this
      have ek : (keysOf v).filter (fun c => (lookT u c).isSome) = keysOf u := by
        unfold keysOf
        rw [List.filter_filter]
        refine List.filter_congr fun c hc => ?_
        by_cases m : (lookT u c).isSome = true
        · have := (keysOf_mem.mp (sub c (keysOf_mem.mpr ⟨hc, m⟩))).2
          rw [m, this]
          rfl
        · rw [Bool.eq_false_iff.mpr m]
          rfl
      have es : (keysOf v).filter (fun c => (lookT u c).isSome) = keysOf v := List.filter_sublist.eq_of_length (by rw [ek, l])
      have ee : keysOf u = keysOf v := ek.symm.trans es
      by_cases m : c ∈ keysOf u
      · rw [← z c m, look_ims_some (ee ▸ m)]
      · have m2 : ¬ c ∈ keysOf v := ee ▸ m
        have n1 : lookT u c = none := by
          cases e : lookT u c with
          | none => rfl
          | some s => exact absurd (keysOf_mem.mpr ⟨hc, by rw [e]; rfl⟩) m
        have n2 : lookT v c = none := by
          cases e : lookT v c with
          | none => rfl
          | some s => exact absurd (keysOf_mem.mpr ⟨hc, by rw [e]; rfl⟩) m2
        rw [n1, n2]
    · left
      exact beq_eq_false_iff_ne.mpr l
def spEq (K : PySem.W.Frag) (CM : Addr) : Sp := fun vs H Q _ => ∃ (x : Addr) (u : Tab) (y : V), vs = [.ref x, y] ∧ MisAt CM H x u ∧ ((∃ z v, y = .ref z ∧ MisAt CM H z v ∧ Q (.bl (decide (eqM u v))) H) ∨ (∃ t, TyX K H y t ∧ PySem.W.kitOne K t (.ref CM) = some false ∧ Q (.bl false) H))
section
variable {P : Program} {w : World} {K : PySem.W.Frag} {mg : Str → Option Value} {base : Heap} {CM CJ : Addr}
theorem ok_iter {f : Addr} {fd : FuncData} (F : Fun K "__iter__" "Misreading.__iter__" s_Misreading_iter f fd) (T : Tx K mg CM CJ) : FnN P w K mg base CX0 1 f fd ["self"] (snIter CM) := by
  refine fnN_mk F sc_Misreading_iter (fun n vs H Q E h => ?_) (fun cdv A outer s H vs Q E hr h => ?_)
  · obtain ⟨x, u, rfl, _⟩ := h
    rfl
  · obtain ⟨x, u, rfl, ⟨dx, a, b, c, hx, ha, hb, hc⟩, q⟩ := h
    refine ⟨_, (pss_one (ps_ret (pe_callB call_iterT (by rfl) T.iter (by decide +kernel) (pa_cons (pe_fldK (K := K) rfl (pv 0) rfl) pa_nil)))), ?_⟩
    refine ⟨_, rfl, x, CM, dx, _, _, rfl, hx, T.cl, T.nL, f3_L a b c, a, _, rfl, .inl (.inl ha), fun it ni hi => ?_⟩
    exact q it a ni hi ha
theorem ok_eq {f : Addr} {fd : FuncData} (F : Fun K "__eq__" "Misreading.__eq__" s_Misreading_eq f fd) (T : Ty K mg CM CJ) : FnOk P w K mg base CX0 1 f fd ["self", "other"] (spEq K CM) := by
  refine F.ok sc_Misreading_eq (fun vs H Q E h => ?_) (fun cdv A outer s H vs Q E hr h => ?_)
  · obtain ⟨x, u, y, rfl, _⟩ := h
    rfl
  · obtain ⟨x, u, y, rfl, ⟨dx, a, b, c', hx, ha, hb, hc⟩, h⟩ := h
    refine ⟨_, (pss_one (ps_ret (pe_and (pe_callB call_isi (by rfl) T.isinstance (by decide +kernel) (pa_cons (pv 1) (pa_cons (pe_gv T.gMisreading (by rfl)) pa_nil))) (pe_one (pe_cmpR (op_eqDT (hu_of hr)) (pe_fldK (K := K) rfl (pv 0) rfl) (pe_fldK (K := K) rfl (pv 1) rfl) (nomark _)))))), ?_⟩
    rcases h with ⟨z, v, rfl, ⟨dx2, a2, b2, c2, hx2, ha2, hb2, hc2⟩, q⟩ | ⟨t, ty, e, q⟩
    · refine ⟨_, rfl, _, .ref CM, .ref CM, .ref CM, true, rfl, .own _, .base (.ins hx2 T.cl T.tA T.tB T.tC T.tD), T.mM, true, rfl, ?_⟩
      refine iteT ?_
      refine ⟨_, rfl, x, CM, dx, _, _, rfl, hx, T.cl, T.nI, f3_I a b c', _, rfl, z, CM, dx2, _, _, rfl, hx2, T.cl, T.nI, f3_I a2 b2 c2, b, b2, _, _, rfl, rfl, .inl hb, .inl hb2, strs_enc _, strs_enc _, ?_⟩
      rw [sameD_ims]
      exact q
    · refine ⟨_, rfl, y, .ref CM, t, .ref CM, false, rfl, .own _, ty, e, false, rfl, ?_⟩
      exact iteF q
end
end V8

set_option Elab.async false
set_option linter.all false
set_option maxRecDepth 100000
set_option maxHeartbeats 8000000
/-! The pen made; what is due. -/
namespace V8
open PySem PySem.Spec PyProof.Rows L2
def spPen (K : PySem.W.Frag) : Sp := fun vs H Q _ => ∃ (a : Addr) (ns : List Int), vs = [.ref a] ∧ SqL K H a (ns.map V.int) ∧ ns.length ≤ 63 ∧ ∀ (p l : Addr) (H' : Hp), H p = none → Same H H' → PenAt H' p l ns 1000000 → Q (.ref p) H'
section
variable {P : Program} {w : World} {K : PySem.W.Frag} {mg : Str → Option Value} {base : Heap} {CM CJ : Addr}
theorem ok_pen {f : Addr} {fd : FuncData} (F : Fun K "_law_pen" "_law_pen" s_pen f fd) (T : Blt mg) : FnOk P w K mg base CX0 1 f fd ["_law_script"] (spPen K) := by
  refine F.ok sc_pen (fun vs H Q E h => ?_) (fun cdv A outer s H vs Q E hr h => ?_)
  · obtain ⟨a, ns, rfl, _⟩ := h
    rfl
  · obtain ⟨a, ns, rfl, hS, hn, q⟩ := h
    refine ⟨_, (pss_one (ps_ret (pe_lst (pa_cons (pe_callTy (call_list_ofK (K := K) rfl) (by rfl) T.list (by decide +kernel) (pa_cons (pe_slice (sl_listK (K := K) rfl) (pv 0) po_none (po_some pe_int)) pa_nil)) (pa_cons pe_int (pa_cons pe_int pa_nil)))))), ?_⟩
    refine ⟨_, rfl, 63, rfl, a, ns.map V.int, rfl, hS, fun l1 n1 => ?_⟩
    have hc : cutV (ns.map V.int) none (some 63) = ns.map V.int := by
      have e : HT.sIx (ns.map V.int).length (ns.map V.int).length (some 63) = (ns.map V.int).length := by
        show HT.sIx _ _ (some ((63 : Nat) : Int)) = _
        rw [HT.sIx_nat, List.length_map]
        omega
      unfold cutV
      rw [HT.sIx_none, List.drop_zero, e]
      exact List.take_of_length_le (Nat.le_refl _)
    rw [hc]
    refine ⟨l1, ns.map V.int, rfl, .inl (SqL.of upd_same), fun l n2 => ⟨by show 3 ≤ sizeLine; decide, fun p n3 => ?_⟩⟩
    have h1 : l1 ≠ l := ne_of_none upd_same n2
    have hl : l ≠ p := ne_of_none upd_same n3
    have n2H : upd H l1 (.lst (ns.map V.int)) l = none := n2
    have sm : Same H (upd (upd (upd H l1 (.lst (ns.map V.int))) l (.lst (ns.map V.int))) p (.lst [.ref l, .int 0, .int 0])) := fun b o e => by
      have b1 := ne_of_none e n1
      have e1 : upd H l1 (.lst (ns.map V.int)) b = some o := by rw [upd_ne b1]; exact e
      have b2 := ne_of_none e1 n2
      have e2 : upd (upd H l1 (.lst (ns.map V.int))) l (.lst (ns.map V.int)) b = some o := by rw [upd_ne b2]; exact e1
      rw [upd_ne (ne_of_none e2 n3)]
      exact e2
    refine q p l _ ?_ sm ⟨⟨0, 0, upd_same, by omega, by omega, by omega⟩, by rw [upd_ne hl]; exact upd_same, hl, hn⟩
    cases e : H p with
    | none => rfl
    | some o =>
      have b1 := ne_of_none e n1
      have e1 : upd H l1 (.lst (ns.map V.int)) p = some o := by rw [upd_ne b1]; exact e
      have b2 := ne_of_none e1 n2
      rw [upd_ne b2, e1] at n3
      cases n3
end
end V8

set_option Elab.async false
set_option linter.all false
set_option maxRecDepth 100000
set_option maxHeartbeats 8000000
/-! Misreadings made by the class's name; same. -/
namespace V8
open PySem PySem.Spec PyProof.Rows L2
def mkR (CM : Addr) : List V → Hp → VK → Prop := fun vs H Q => ∃ (d : Addr) (cs st : List Nat) (t : Tab), vs = [.ref d, .str (Sx st)] ∧ H d = some (.dK (encT t)) ∧ GoodT cs t ∧ ((toldT st t).length ≤ 12 ∧ cs.length ≤ 26) ∧ (∀ c ∈ cs, isLt c) ∧ (∀ c ∈ st, c ∈ cs) ∧ st.length ≤ 500 ∧
  ∀ x H', H x = none → MisN CM H H' x (toldT st t) → Same H H' → Q (.ref x) H'
theorem misn_of {C : Addr} {H H' : Hp} {x dx : Addr} {u : Tab} {o o' : HO} (m : MisN C (upd (upd H dx o) x o') H' x u) (hx : H x = none) (hdx : H dx = none) : MisN C H H' x u := by
  obtain ⟨ex, a, b, c, h1, h2, h3, h4, n1, n2, n3⟩ := m.at_
  have back : ∀ b, upd (upd H dx o) x o' b = none → H b = none := fun b n => by
    cases e : H b with
    | none => rfl
    | some z =>
      rw [upd_ne (ne_of_none e hx), upd_ne (ne_of_none e hdx), e] at n
      cases n
  exact ⟨ex, a, b, c, h1, h2, h3, h4, back _ n1, back _ n2, back _ n3⟩
theorem mk_of {CM : Addr} {vs : List V} {H : Hp} {Q : VK} {E : XK} (h : mkR CM vs H Q) : ∀ x dx, H x = none → H dx = none → dx ≠ x → spInit CM (.ref x :: vs) (upd (upd H dx (.own x)) x (.ins CM dx [])) (fun v H2 => v = .non ∧ Q (.ref x) H2) E := by
  obtain ⟨d, cs, st, t, rfl, hd, G, h12, hlt, hst, hs5, q⟩ := h
  intro x dx hx hdx ne
  have hd2 : upd (upd H dx (.own x)) x (.ins CM dx []) d = some (.dK (encT t)) := by
    rw [upd_ne (ne_of_none hd hx), upd_ne (ne_of_none hd hdx)]
    exact hd
  refine ⟨x, dx, d, cs, st, t, rfl, upd_same, hd2, G, h12, hlt, hst, hs5, fun H' m fr => ⟨rfl, q x H' hx (misn_of m hx hdx) fun b o e => ?_⟩⟩
  have bx := ne_of_none e hx
  refine fr b o ?_ bx
  rw [upd_ne bx, upd_ne (ne_of_none e hdx)]
  exact e
def pI : List Str := ["self", "images", "keeps"]
/-- the class by its name -/
structure Mkr (P : Program) (w : World) (K : PySem.W.Frag) (mg : Str → Option Value) (base : Heap) (CM : Addr) : Prop where
  ex : ∃ (f : Addr) (fd : FuncData), Mk K CM f ∧ FnOk P w K mg base CX0 5 f fd pI (spInit CM) ∧ mg "Misreading" = some (.ref CM) ∧ Binds K fd pI [] ∧ (∃ ds, Vals [.str (Sx [])] ds ∧ Binds K fd pI ds) ∧
    KBn K fd pI 1 ["keeps", "images"] (fun us ws => us ++ ws.reverse) (fun vs zs => vs ++ zs.reverse) ∧ (∃ its : List Value, KBn K fd pI 1 ["images"] (fun us ws => us ++ ws ++ its) (fun vs zs => vs ++ zs ++ [.str (Sx [])])) ∧
    KBn K fd pI 2 ["keeps"] (fun us ws => us ++ ws) (fun vs zs => vs ++ zs)
def tMk2 (CM : Addr) (t : TA) : TE := fun σ H Q => t σ H fun vs H1 => mkR CM vs H1 Q
def tMk1 (CM : Addr) (t : TA) : TE := fun σ H Q => t σ H fun vs H1 => mkR CM (vs ++ [.str (Sx [])]) H1 Q
def tMkKI (CM : Addr) (tk : TA) : TE := fun σ H Q => tk σ H fun zs H1 => zs.length = 2 ∧ mkR CM zs.reverse H1 Q
def tMkI (CM : Addr) (tk : TA) : TE := fun σ H Q => tk σ H fun zs H1 => zs.length = 1 ∧ mkR CM (zs ++ [.str (Sx [])]) H1 Q
def tMk1K (CM : Addr) (t tk : TA) : TE := fun σ H Q => t σ H fun vs H1 => tk σ H1 fun zs H2 => vs.length = 1 ∧ zs.length = 1 ∧ mkR CM (vs ++ zs) H2 Q
section
variable {X : Cx} {j : Nat} {CM : Addr} {p pos : Pos} {e : Expr} {es : List Expr} {kws : List Keyword} {t tk : TA}
theorem pe_mk2 (M : Mkr X.prog X.w X.K X.mg X.base CM) (hr : Room j X.A) (hj : 6 ≤ j) (hg : Gl X "Misreading") (ha : PA X (e :: es) t) (he : starEach (e :: es) X.env = (false, eval e X.env) :: starEach es X.env := by rfl) (hpl : (backTo pos (starEach es X.env)).any (·.1) = false := by rfl) :
    PE X (.Call (.Name "Misreading" p) (e :: es) [] pos) (tMk2 CM t) := by
  obtain ⟨f, fd, M, F, hm, b0, b1, k2, k1, k11⟩ := M.ex
  refine ⟨fun pins s σ H Q I h => ?_⟩
  refine wpAny_Call_Name_kw (ld_glob I hg hm ?_ (by decide))
  refine PySem.W.callWith_K (h₀ := X.base) I.ok.mod.kin M.kp (thn (ha.run pos pins s σ H _ I h) fun us s1 ⟨vs, H1, I1, r, q⟩ => ⟨I1.kIn, ?_⟩) he hpl
  exact run_make (dvs := []) (ds := []) M F (hr.mono hj) b0 .nil pass0 I1 r (by rw [List.append_nil]; exact mk_of q)
theorem pe_mk1 (M : Mkr X.prog X.w X.K X.mg X.base CM) (hr : Room j X.A) (hj : 6 ≤ j) (hg : Gl X "Misreading") (ha : PA X (e :: es) t) (he : starEach (e :: es) X.env = (false, eval e X.env) :: starEach es X.env := by rfl) (hpl : (backTo pos (starEach es X.env)).any (·.1) = false := by rfl) :
    PE X (.Call (.Name "Misreading" p) (e :: es) [] pos) (tMk1 CM t) := by
  obtain ⟨f, fd, M, F, hm, b0, ⟨ds, hd, b1⟩, k2, k1, k11⟩ := M.ex
  refine ⟨fun pins s σ H Q I h => ?_⟩
  refine wpAny_Call_Name_kw (ld_glob I hg hm ?_ (by decide))
  refine PySem.W.callWith_K (h₀ := X.base) I.ok.mod.kin M.kp (thn (ha.run pos pins s σ H _ I h) fun us s1 ⟨vs, H1, I1, r, q⟩ => ⟨I1.kIn, ?_⟩) he hpl
  exact run_make M F (hr.mono hj) b1 hd pass0 I1 r (mk_of q)
theorem pe_mkKI (M : Mkr X.prog X.w X.K X.mg X.base CM) (hr : Room j X.A) (hj : 6 ≤ j) (hg : Gl X "Misreading") (hkw : PK X kws tk) (hall : (backToKw pos (keywordEach kws X.env)).all (·.1.isSome) = true := by rfl) (hks : (backToKw pos (keywordEach kws X.env)).filterMap (·.1) = (["keeps", "images"] : List Str) := by rfl)
    (hpl : ((backTo pos (starEach [] X.env)).any (·.1) || (backToKw pos (keywordEach kws X.env)).any (·.1.isNone)) = false := by rfl) : PE X (.Call (.Name "Misreading" p) [] kws pos) (tMkKI CM tk) := by
  obtain ⟨f, fd, M, F, hm, b0, b1, k2, k1, k11⟩ := M.ex
  refine ⟨fun pins s σ H Q I h => ?_⟩
  refine wpAny_Call_Name_kw (ld_glob I hg hm ?_ (by decide))
  refine PySem.W.callWith_KW0 (h₀ := X.base) I.ok.mod.kin M.kp hall ?_ hpl
  refine thn (hkw.run pos pins s σ H _ I h) fun ws s2 ⟨zs, H2, I2, rz, l2, q2⟩ => ⟨I2.kIn, ?_⟩
  rw [hks]
  exact run_makeK (us := []) (vs := []) M F (hr.mono hj) k2 pass0 I2 .nil rz rfl l2 (mk_of q2)
theorem pe_mkI (M : Mkr X.prog X.w X.K X.mg X.base CM) (hr : Room j X.A) (hj : 6 ≤ j) (hg : Gl X "Misreading") (hkw : PK X kws tk) (hall : (backToKw pos (keywordEach kws X.env)).all (·.1.isSome) = true := by rfl) (hks : (backToKw pos (keywordEach kws X.env)).filterMap (·.1) = (["images"] : List Str) := by rfl)
    (hpl : ((backTo pos (starEach [] X.env)).any (·.1) || (backToKw pos (keywordEach kws X.env)).any (·.1.isNone)) = false := by rfl) : PE X (.Call (.Name "Misreading" p) [] kws pos) (tMkI CM tk) := by
  obtain ⟨f, fd, M, F, hm, b0, b1, k2, ⟨its, k1⟩, k11⟩ := M.ex
  refine ⟨fun pins s σ H Q I h => ?_⟩
  refine wpAny_Call_Name_kw (ld_glob I hg hm ?_ (by decide))
  refine PySem.W.callWith_KW0 (h₀ := X.base) I.ok.mod.kin M.kp hall ?_ hpl
  refine thn (hkw.run pos pins s σ H _ I h) fun ws s2 ⟨zs, H2, I2, rz, l2, q2⟩ => ⟨I2.kIn, ?_⟩
  rw [hks]
  exact run_makeK (us := []) (vs := []) M F (hr.mono hj) k1 pass0 I2 .nil rz rfl l2 (mk_of q2)
theorem pe_mk1K (M : Mkr X.prog X.w X.K X.mg X.base CM) (hr : Room j X.A) (hj : 6 ≤ j) (hg : Gl X "Misreading") (ha : PA X (e :: es) t) (hkw : PK X kws tk) (hall : (backToKw pos (keywordEach kws X.env)).all (·.1.isSome) = true := by rfl) (hks : (backToKw pos (keywordEach kws X.env)).filterMap (·.1) = (["keeps"] : List Str) := by rfl)
    (he : starEach (e :: es) X.env = (false, eval e X.env) :: starEach es X.env := by rfl) (hpl : ((backTo pos (starEach (e :: es) X.env)).any (·.1) || (backToKw pos (keywordEach kws X.env)).any (·.1.isNone)) = false := by rfl) :
    PE X (.Call (.Name "Misreading" p) (e :: es) kws pos) (tMk1K CM t tk) := by
  obtain ⟨f, fd, M, F, hm, b0, b1, k2, k1, k11⟩ := M.ex
  refine ⟨fun pins s σ H Q I h => ?_⟩
  refine wpAny_Call_Name_kw (ld_glob I hg hm ?_ (by decide))
  refine PySem.W.callWith_KW (h₀ := X.base) I.ok.mod.kin M.kp hall (thn (ha.run pos pins s σ H _ I h) fun us s1 ⟨vs, H1, I1, r, q⟩ => ?_) hpl he
  refine thn (hkw.run pos pins s1 σ H1 _ I1 q) fun ws s2 ⟨zs, H2, I2, rz, l1, l2, q2⟩ => ⟨I2.kIn, ?_⟩
  rw [hks]
  exact run_makeK (n := 1) M F (hr.mono hj) k11 pass0 I2 r rz l1 l2 (mk_of q2)
end
theorem vals_rev : ∀ {xs : List V} {us : List Value}, Vals xs us → Vals xs.reverse us.reverse
  | _, _, .nil => .nil
  | _, _, .cons h r => by
    rw [List.reverse_cons, List.reverse_cons]
    exact (vals_rev r).append (.cons h .nil)
/-- what K holds of the def, as the rules above want it -/
theorem mkr_of {P : Program} {w : World} {K : PySem.W.Frag} {mg : Str → Option Value} {base : Heap} {CM CJ f : Addr} {fd : FuncData} (F : FunD K "__init__" "Misreading.__init__" (defArgs s_Misreading_init) (defBody s_Misreading_init) (defScope s_Misreading_init) [.str (Sx [])] [] f fd) (T : Tx K mg CM CJ)
    (D_told_images : Df P w K mg base 4 "told_images" spTold) (M : Mk K CM f) (hm : mg "Misreading" = some (.ref CM)) : Mkr P w K mg base CM := by
  refine ⟨f, fd, M, ok_init F T D_told_images, hm, ?_, ?_, ?_, ?_, ?_⟩
  · obtain ⟨ds, h1, h2⟩ := F.binds1 (ps := pI) 3 1 (fun z => nomatch z) rfl (fun T kV doc pm an cdv ct us its h1 h2 => match us, its, h1, h2 with | [_, _, _], [_], _, _ => ⟨_, rfl, rfl⟩)
    cases h1
    exact h2
  · obtain ⟨ds, h1, h2⟩ := F.binds1 (ps := pI) 2 0 (fun z => nomatch z) rfl (fun T kV doc pm an cdv ct us its h1 h2 => match us, its, h1, h2 with | [_, _], [_], _, _ => ⟨_, rfl, rfl⟩)
    exact ⟨ds, h1, h2⟩
  · obtain ⟨its, h⟩ := F.kbindsD (ps := pI) 1 ["keeps", "images"] (fun us _ ws => us ++ ws.reverse) (fun z => nomatch z) (fun r1 _ r3 => r1.append (vals_rev r3)) (fun T kV doc pm an cdv ct us its ws h1 h2 h3 => match us, its, ws, h1, h2, h3 with | [_], [_], [_, _], _, _, _ => ⟨_, rfl, rfl⟩)
    exact h
  · obtain ⟨its, h⟩ := F.kbindsD (ps := pI) 1 ["images"] (fun us ds ws => us ++ ws ++ ds) (fun z => nomatch z) (fun r1 r2 r3 => (r1.append r3).append r2) (fun T kV doc pm an cdv ct us its ws h1 h2 h3 => match us, its, ws, h1, h2, h3 with | [_], [_], [_], _, _, _ => ⟨_, rfl, rfl⟩)
    exact ⟨its, h⟩
  · obtain ⟨its, h⟩ := F.kbindsD (ps := pI) 2 ["keeps"] (fun us _ ws => us ++ ws) (fun z => nomatch z) (fun r1 _ r3 => r1.append r3) (fun T kV doc pm an cdv ct us its ws h1 h2 h3 => match us, its, ws, h1, h2, h3 with | [_, _], [_], [_], _, _, _ => ⟨_, rfl, rfl⟩)
    exact h
end V8

set_option Elab.async false
set_option linter.all false
set_option maxRecDepth 100000
set_option maxHeartbeats 16000000
/-! Helps: lists compared, lists gathered, an own class iterated. -/
namespace V8
open PySem PySem.Spec PyProof.Rows L2
theorem dp_map {K : PySem.W.Frag} {H : Hp} {α : Type} (f : α → V) (g : α → PyData) (h : ∀ a, Dp K H (f a) (g a)) : ∀ l : List α, DpAll K H (l.map f) (l.map g)
  | [] => .nil
  | a :: r => .cons (h a) (dp_map f g h r)
theorem lay_map {α : Type} (g : α → PyData) : ∀ l : List α, (∀ a ∈ l, (g a).canLay0 = true) → PyData.canLayAll0 (l.map g) = true
  | [], _ => by simp [PyData.canLayAll0]
  | a :: r, h => by
    have ih := lay_map g r fun x hx => h x (List.mem_cons_of_mem _ hx)
    simp only [List.map_cons, PyData.canLayAll0, h a (List.mem_cons_self ..), Bool.true_and]
    exact ih
theorem depth_map {α : Type} (g : α → PyData) (h : ∀ a, (g a).depth = 0) : ∀ l : List α, PyData.depthAll (l.map g) = 0
  | [] => by simp [PyData.depthAll]
  | a :: r => by
    have ih := depth_map g h r
    simp only [List.map_cons, PyData.depthAll, h a]
    omega
theorem shaped_map {α : Type} (g : α → PyData) (l : List α) (h1 : ∀ a ∈ l, (g a).canLay0 = true) (h2 : ∀ a, (g a).depth = 0) : SeqAt.shaped (.list (l.map g)) = true := by
  have h3 : PyData.depth (.list (l.map g)) ≤ 64 := by
    simp only [PyData.depth, depth_map g h2]
    omega
  show (PyData.canLay0 (.list (l.map g)) && decide (PyData.depth (.list (l.map g)) ≤ 64)) = true
  rw [Bool.and_eq_true]
  exact ⟨by simp only [PyData.canLay0]; exact lay_map g l h1, decide_eq_true h3⟩
theorem shaped_mapT {α : Type} (g : α → PyData) (l : List α) (h1 : ∀ a ∈ l, (g a).canLay0 = true) (h2 : ∀ a, (g a).depth = 0) : SeqAt.shaped (.tuple (l.map g)) = true := by
  have h3 : PyData.depth (.tuple (l.map g)) ≤ 64 := by
    simp only [PyData.depth, depth_map g h2]
    omega
  show (PyData.canLay0 (.tuple (l.map g)) && decide (PyData.depth (.tuple (l.map g)) ≤ 64)) = true
  rw [Bool.and_eq_true]
  exact ⟨by simp only [PyData.canLay0]; exact lay_map g l h1, decide_eq_true h3⟩
theorem lay_of {d : PyData} (h : SeqAt.shaped d = true) : d.canLay0 = true := by
  have h' : (PyData.canLay0 d && decide (PyData.depth d ≤ 64)) = true := h
  exact (Bool.and_eq_true _ _ ▸ h').1
section
variable {K : PySem.W.Frag} {H : Hp} {a b : Addr} {Q : VK} {CM : Addr} {u : Tab}
theorem ne_same {x y : V} {d : PyData} (hx : Dp K H x d) (hy : Dp K H y d) (sh : SeqAt.shaped d = true) (q : Q (.bl false) H) : rNeD K x y H Q := by
  refine ⟨d, d, hx, hy, sh, sh, ?_⟩
  rw [SeqAt.eqv_refl d (lay_of sh)]
  exact q
def dS : Str → PyData := PyData.str
theorem ne_strs {ss : List Str} (ok : ∀ z ∈ ss, PyData.strOk z = true) (ha : SqL K H a (ss.map V.str)) (hb : SqL K H b (ss.map V.str)) (q : Q (.bl false) H) : rNeD K (.ref a) (.ref b) H Q :=
  ne_same (.lst ha (dp_map _ PyData.str (fun s => .str s) ss)) (.lst hb (dp_map _ PyData.str (fun s => .str s) ss)) (shaped_map _ ss (fun z hz => by simp only [PyData.canLay0]; exact ok z hz) (fun _ => by simp [PyData.depth])) q
theorem ne_strsT {ss : List Str} (ok : ∀ z ∈ ss, PyData.strOk z = true) (ha : SqT K H a (ss.map V.str)) (hb : SqT K H b (ss.map V.str)) (q : Q (.bl false) H) : rNeD K (.ref a) (.ref b) H Q :=
  ne_same (.tup ha (dp_map _ PyData.str (fun s => .str s) ss)) (.tup hb (dp_map _ PyData.str (fun s => .str s) ss)) (shaped_mapT _ ss (fun z hz => by simp only [PyData.canLay0]; exact ok z hz) (fun _ => by simp [PyData.depth])) q
theorem ne_bls {ss : List Bool} (ha : SqL K H a (ss.map V.bl)) (hb : SqL K H b (ss.map V.bl)) (q : Q (.bl false) H) : rNeD K (.ref a) (.ref b) H Q :=
  ne_same (.lst ha (dp_map _ PyData.bool (fun s => .bl s) ss)) (.lst hb (dp_map _ PyData.bool (fun s => .bl s) ss)) (shaped_map _ ss (fun _ _ => by simp [PyData.canLay0]) (fun _ => by simp [PyData.depth])) q
theorem acc_ok {D : Addr} {zs : List V} {i : Nat} {y : V} (hz : zs[i]? = some y) (sm : zs.length < 1000) :
    ∃ acc, upd H D (.lst (zs.take i)) D = some (.lst acc) ∧ acc.length < sizeLine ∧ upd (upd H D (.lst (zs.take i))) D (.lst (acc ++ [y])) = upd H D (.lst (zs.take (i + 1))) := by
  refine ⟨_, upd_same, ?_, ?_⟩
  · rw [List.length_take]
    exact small1000 (by omega)
  · rw [upd_upd, List.take_add_one, hz]
    rfl
theorem same_put {H H' : Hp} {D : Addr} {o : HO} (s : Same H H') (n : H' D = none) : Same H (upd H' D o) := fun b u e => by
  rw [upd_ne (ne_of_none (s b u e) n)]
  exact s b u e
theorem same_over {H H' : Hp} {D : Addr} {o : HO} (s : Same H H') (n : H D = none) : Same H (upd H' D o) := fun b u e => by
  rw [upd_ne (ne_of_none e n)]
  exact s b u e
theorem same_none {H H' : Hp} {D : Addr} (s : Same H H') (n : H' D = none) : H D = none := by
  cases e : H D with
  | none => rfl
  | some o =>
    rw [s _ _ e] at n
    cases n
theorem MisAt.same {C : Addr} {H H' : Hp} {x : Addr} {u : Tab} (m : MisAt C H x u) (s : Same H H') : MisAt C H' x u := m.mono fun b o e _ => s b o e
theorem dropH_upd {H : Hp} {it : Addr} {o : HO} (n : H it = none) : ItX.dropH (upd H it o) it = H := by
  funext b
  unfold ItX.dropH
  by_cases h : b = it
  · rw [if_pos h, h, n]
  · rw [if_neg h, upd_ne h]
theorem own_mis {m i : Nat} {E : XK} {σ : L2.St} {R : It → Hp → Prop} {x : Addr} (hs : σ[i]? = some (some (.ref x))) (M : MisAt CM H x u) (h : ∀ a, H a = some (.tup (lets (keysOf u))) → R (Itt K a) H) : iOwn K CM m (snIter CM) E (tVar i) σ H R := by
  obtain ⟨dx, a, b, c, h1, h2, h3, h4⟩ := id M.at_
  refine ⟨_, hs, x, dx, _, rfl, h1, fun k hk => ⟨x, u, rfl, M, fun it a' ni hi ha => ⟨it, a', rfl, hi, upd_same, ?_⟩⟩⟩
  rw [dropH_upd ni]
  exact h a' ha
end
end V8

set_option Elab.async false
set_option linter.all false
set_option maxRecDepth 100000
set_option maxHeartbeats 8000000
/-! Misreading: str. -/
namespace V8
open PySem PySem.Spec PyProof.Rows L2
theorem sx_add (a b : List Nat) : Sx a ++ Sx b = Sx (a ++ b) := by
  show (Str.mk (a.toArray ++ b.toArray)) = Str.mk _
  rw [List.append_toArray]
theorem colon : (":" : Str) = Sx [58] := by decide +kernel
theorem emp : Str.empty = Sx [] := rfl
def wordM (c : Nat) (s : List Nat) : Str := Sx (c :: 58 :: s)
def wordsM (u : Tab) (ks : List Nat) : List Str := ks.map fun c => wordM c ((lookT u c).getD [])
def strM (u : Tab) : Str := if keysOf u = [] then "-" else Txt.join " " (wordsM u (keysOf u))
def SmallT (u : Tab) : Prop := ∀ c s, lookT u c = some s → s.length ≤ 64
def spStr (CM : Addr) : Sp := fun vs H Q _ => ∃ (x : Addr) (u : Tab), vs = [.ref x] ∧ MisAt CM H x u ∧ SmallT u ∧ ∀ H', Same H H' → Q (.str (strM u)) H'
theorem sum_le (f : Str → Nat) (k : Nat) : ∀ l : List Str, (∀ x ∈ l, f x ≤ k) → (l.map f).sum ≤ k * l.length
  | [], _ => Nat.le_refl _
  | a :: r, h => by
    rw [List.map_cons, List.sum_cons, List.length_cons]
    have h1 := h a (List.mem_cons_self ..)
    have h2 := sum_le f k r fun x hx => h x (List.mem_cons_of_mem _ hx)
    rw [Nat.mul_succ]
    omega
theorem lets_isEmpty (cs : List Nat) : (lets cs).isEmpty = cs.isEmpty := by cases cs <;> rfl
section
variable {P : Program} {w : World} {K : PySem.W.Frag} {mg : Str → Option Value} {base : Heap} {CM CJ : Addr}
theorem ok_str {f : Addr} {fd : FuncData} (F : Fun K "__str__" "Misreading.__str__" s_Misreading_str f fd) (T : Ty K mg CM CJ) : FnOk P w K mg base CX0 1 f fd ["self"] (spStr CM) := by
  refine F.ok sc_Misreading_str (fun vs H Q E h => ?_) (fun cdv A outer s H vs Q E hr h => ?_)
  · obtain ⟨x, u, rfl, _⟩ := h
    rfl
  · obtain ⟨x, u, rfl, ⟨dx, a, b, c', hx, ha, hb, hc⟩, sm, q⟩ := h
    refine ⟨_, (pss_cons (ps_if (pt_not (pt_truth (pe_fldK (K := K) rfl (pv 0) rfl) (by intro _; rfl)))
        (pss_one (ps_ret pe_str))
        pss_nil)
      (pss_one (ps_ret (pe_joinK (K := K) rfl pe_str (pe_lc (own := [("letter", 1)]) (g := gName 1) (by rfl) sc_Misreading_str.nd (pi_tup (pe_fldK (K := K) rfl (pv 0) rfl)) (blkOk_by (own := [("letter", 1)]) (N := n_Misreading_str) (sc := defScope s_Misreading_str) (by decide +kernel)) (fun _ _ _ _ _ => (pg_name (i := 1) sc_Misreading_str.nd rfl (.inl rfl))) (fun _ _ _ _ _ => pts_nil) (fun _ _ _ _ _ => (pe_joinedT (pj_cons (pe_fmt (pv 1)) (pj_cons pe_str (pj_cons (pe_fmt (pe_dget (hu_of hr) (pe_fldK (K := K) rfl (pv 0) rfl) (pv 1) (fun _ _ => rfl))) pj_nil)))))))))), ?_⟩
    refine ⟨_, rfl, x, CM, dx, _, _, rfl, hx, T.cl, T.nL, f3_L a b c', _, .inr (.inl ⟨_, .inl (.inl ha), rfl⟩), ?_⟩
    rw [lets_isEmpty]
    by_cases e : keysOf u = []
    · have es : strM u = "-" := if_pos e
      rw [e]
      refine iteT ?_
      show Q (V.str "-") H
      rw [← es]
      exact q H (Same.refl H)
    · have es : strM u = Txt.join " " (wordsM u (keysOf u)) := if_neg e
      have ee : (keysOf u).isEmpty = false := by
        cases h : keysOf u with
        | nil => exact absurd h e
        | cons a r => rfl
      rw [ee]
      refine iteF ?_
      refine ⟨⟨_, rfl⟩, _, rfl, x, CM, dx, _, _, rfl, hx, T.cl, T.nL, f3_L a b c', a, rfl, ⟨_, .inl (.inl ha)⟩, fun D nD => lc_it (walk_tup (K := K) (a := a) (xs := lets (keysOf u))) (fun i H2 => H2 = upd H D (.lst ((wordsM u ((keysOf u).take i)).map V.str))) rfl ?_ ?_ ?_⟩
      · rintro i H2 hi rfl
        exact .inl (.inl (by rw [upd_ne (ne_of_none ha nD)]; exact ha))
      · rintro i z H2 H2' hi rfl ⟨rfl, hz⟩
        obtain ⟨hik, rfl⟩ := lets_get hz
        obtain ⟨s2, e2⟩ := Option.isSome_iff_exists.mp (List.mem_filter.mp (List.getElem_mem hik)).2
        have hx2 : upd H D (.lst ((wordsM u ((keysOf u).take i)).map V.str)) x = some (.ins CM dx (f3 a b c')) := by rw [upd_ne (ne_of_none hx nD)]; exact hx
        have hb2 : upd H D (.lst ((wordsM u ((keysOf u).take i)).map V.str)) b = some (.dK (encT (ims u))) := by rw [upd_ne (ne_of_none hb nD)]; exact hb
        have s64 := sm _ _ e2
        have l1 : (Str.empty ++ L1 (keysOf u)[i]) = Sx [(keysOf u)[i]] := by rw [emp, L1_Sx, sx_add]; rfl
        have l2 : ((Str.empty ++ L1 (keysOf u)[i]) ++ (":" : Str)) = Sx [(keysOf u)[i], 58] := by rw [l1, colon, sx_add]; rfl
        have l3 : (((Str.empty ++ L1 (keysOf u)[i]) ++ (":" : Str)) ++ Sx s2) = wordM (keysOf u)[i] s2 := by rw [l2, sx_add]; rfl
        refine ⟨rfl, _, rfl, .inl ⟨L1 (keysOf u)[i], rfl, by show 1 ≤ sizeLine; decide, L1 (keysOf u)[i], rfl, ?_, _, rfl, ?_, ?_⟩⟩
        · rw [l1]
          show 1 ≤ sizeLine
          decide
        · rw [l2]
          show 2 ≤ sizeLine
          decide
        · refine ⟨_, rfl, x, CM, dx, _, _, rfl, hx2, T.cl, T.nI, f3_I a b c', _, rfl, b, V.str (Sx s2), rfl, .inl ⟨_, Sum.inr (L1 (keysOf u)[i]), .inl hb2, rfl, by rw [valV_enc, look_ims_some (List.getElem_mem hik), e2]; rfl⟩, .inl ⟨Sx s2, rfl, ?_, Sx s2, rfl, ?_, _, upd_same, ?_, ?_⟩⟩
          · rw [Sx_len]
            exact Nat.le_of_lt (small1000 (by omega))
          · rw [l3]
            show (Sx _).length ≤ _
            rw [Sx_len, List.length_cons, List.length_cons]
            exact Nat.le_of_lt (small1000 (by omega))
          · rw [List.length_map]
            unfold wordsM
            rw [List.length_map, List.length_take]
            have := keysOf_len u
            exact small1000 (by omega)
          · rw [upd_upd, l3]
            congr 2
            unfold wordsM
            rw [List.take_add_one, List.getElem?_eq_getElem hik, List.map_append, List.map_append]
            show _ ++ [V.str (wordM (keysOf u)[i] s2)] = _ ++ [V.str (wordM (keysOf u)[i] ((lookT u (keysOf u)[i]).getD []))]
            rw [e2]
            rfl
      · rintro H2 rfl
        rw [lets_len, List.take_length]
        refine ⟨_, D, wordsM u (keysOf u), rfl, rfl, .inl (SqL.of upd_same), ?_, ?_⟩
        · have hk := keysOf_len u
          have h1 : ((wordsM u (keysOf u)).map fun x => x.length).sum ≤ _ := sum_le (fun x => x.length) 66 (wordsM u (keysOf u)) fun x hx => by
            obtain ⟨c, hc, rfl⟩ := List.mem_map.mp hx
            obtain ⟨s2, e2⟩ := Option.isSome_iff_exists.mp (keysOf_mem.mp hc).2
            rw [e2]
            show (Sx _).length ≤ _
            rw [Sx_len, List.length_cons, List.length_cons]
            have := sm _ _ e2
            show s2.length + 1 + 1 ≤ _
            omega
          have h2 : (wordsM u (keysOf u)).length = (keysOf u).length := List.length_map ..
          rw [h2] at h1 ⊢
          show _ + _ * 1 ≤ _
          have h3 : 66 * (keysOf u).length ≤ 66 * 26 := Nat.mul_le_mul_left _ hk
          omega
        · rw [← es]
          exact q _ fun b o e => by
            rw [upd_ne (ne_of_none e nD)]
            exact e
end
end V8

set_option Elab.async false
set_option linter.all false
set_option maxRecDepth 100000
set_option maxHeartbeats 16000000
/-! Whether a misreading is right. -/
namespace V8
open PySem PySem.Spec PyProof.Rows L2
theorem lets_ss (ks : List Nat) : lets ks = (ks.map L1).map V.str := by
  rw [List.map_map]
  rfl
theorem ok_sx {cs : List Nat} (h : ∀ c ∈ cs, isLt c) : PyData.strOk (Sx cs) = true := by
  have e : (Sx cs).cps = cs.toArray := rfl
  unfold PyData.strOk
  rw [e, List.all_toArray, List.all_eq_true]
  intro c hc
  have := (h c hc).2
  exact decide_eq_true (show c < 0x110000 by omega)
theorem ok_lets {ks : List Nat} (h : ∀ c ∈ ks, isLt c) : ∀ z ∈ ks.map L1, PyData.strOk z = true := fun z hz => by
  obtain ⟨c, hc, rfl⟩ := List.mem_map.mp hz
  exact ok_sx (cs := [c]) fun a ha => by
    rw [List.mem_singleton.mp ha]
    exact h c hc
def imgS (u : Tab) (ks : List Nat) : List Str := ks.map fun c => Sx ((lookT u c).getD [])
theorem imgS_at {u : Tab} {ks : List Nat} {i : Nat} {s : List Nat} (hi : i < ks.length) (e : lookT u ks[i] = some s) : ((imgS u ks).map V.str)[i]? = some (.str (Sx s)) := by
  unfold imgS
  rw [List.getElem?_map, List.getElem?_map, List.getElem?_eq_getElem hi]
  show some (V.str (Sx ((lookT u ks[i]).getD []))) = _
  rw [e]
  rfl
theorem len_app (a b : Str) : (a ++ b).length = a.length + b.length := Array.size_append
theorem join_Sx : ∀ ss : List (List Nat), Txt.join Str.empty (ss.map Sx) = Sx ss.flatten := by
  intro ss
  rw [TL.join_eq]
  have h : TL.tl (Str.join Str.empty (ss.map Sx)) = ss.flatten := by
    rw [TL.tl_join]
    have : ∀ l : List (List Nat), TL.joinL (TL.tl Str.empty) ((l.map Sx).map TL.tl) = l.flatten := by
      intro l
      induction l with
      | nil => rfl
      | cons c r ih =>
        cases r with
        | nil =>
          show TL.tl (Sx c) = [c].flatten
          simp
          rfl
        | cons d r =>
          show TL.tl (Sx c) ++ (TL.tl Str.empty ++ TL.joinL (TL.tl Str.empty) ((((d :: r).map Sx).map TL.tl))) = _
          rw [ih]
          rfl
    exact this ss
  have e2 : (Str.join Str.empty (ss.map Sx)).cps.toList = ss.flatten := h
  show Str.join Str.empty (ss.map Sx) = Sx _
  unfold Sx at e2 ⊢
  cases hx : Str.join Str.empty (ss.map fun cs => (⟨cs.toArray⟩ : Str)) with
  | mk a =>
    rw [hx] at e2
    have e3 : a.toList = ss.flatten := e2
    rw [← e3]
/-- iteration of the class's own -/
structure ItM (P : Program) (w : World) (K : PySem.W.Frag) (mg : Str → Option Value) (base : Heap) (k : Nat) (C : Addr) (sn : Nat → Sp) : Prop where
  ex : ∃ (f : Addr) (fd : FuncData) (ps : List Str), FnN P w K mg base CX0 k f fd ps sn ∧ Own K C "__iter__" f ∧ Binds K fd ps []
theorem pi_ownI {X : Cx} {k j : Nat} {C : Addr} {sn : Nat → Sp} {tg l : Expr} {tl : TE} (c : ItM X.prog X.w X.K X.mg X.base k C sn) (hr : Room j X.A) (hk : k ≤ j) (hl : PE X l tl) : PI X tg l (iOwn X.K C X.s_0.heap.objs.size sn E0 tl) := by
  obtain ⟨f, fd, ps, F, o, b⟩ := c.ex
  exact pi_own F b pass0 o (hr.mono hk) hl
end V8

set_option Elab.async false
set_option linter.all false
set_option maxRecDepth 100000
set_option maxHeartbeats 16000000
/-! same; whether a misreading is equal to what has the same images, and to nothing else. -/
namespace V8
open PySem PySem.Spec PyProof.Rows L2
def spSame (CM : Addr) : Sp := fun vs H Q _ => ∃ (cs st : List Nat), vs = [.str (Sx st)] ∧ cs.length ≤ 12 ∧ (∀ c ∈ cs, isLt c) ∧ (∀ c ∈ st, c ∈ cs) ∧ st.length ≤ 500 ∧ ∀ x H', H x = none → MisAt CM H' x (toldT st []) → Same H H' → Q (.ref x) H'
structure Sms (P : Program) (w : World) (K : PySem.W.Frag) (mg : Str → Option Value) (base : Heap) (CM : Addr) : Prop where
  ex : ∃ (p g : Addr) (fd : FuncData) (mc : Value), ClX.CRead K CM mc ∧ SMet K CM mc "same" p g ∧ FnOk P w K mg base CX0 7 g fd ["letters"] (spSame CM) ∧ Binds K fd ["letters"] [] ∧ KBinds K fd ["letters"] ["letters"] (fun us ws => us ++ ws) (fun vs zs => vs ++ zs)
section
variable {X : Cx} {j : Nat} {CM : Addr} {o e : Expr} {es : List Expr} {pos apos : Pos} {ta : TE} {t : TA} {pl : Sem Bool}
theorem pe_sm (c : Sms X.prog X.w X.K X.mg X.base CM) (hr : Room j X.A) (hj : 7 ≤ j) (he : PE X o ta) (ha : PA X (e :: es) t)
    (hst : starEach (e :: es) X.env = (false, eval e X.env) :: starEach es X.env := by rfl) (hpl : (backTo pos (starEach es X.env)).any (·.1) = false := by rfl)
    (ht : eval (.Call (.Attribute o "same" apos) (e :: es) [] pos) X.env = (do
      let ov ← eval o X.env
      standAt apos.atName
      let (f, first) ← holding [ov] (getMethod ov "same" pl)
      callWith pos f first (backTo pos (starEach (e :: es) X.env)) (backToKw pos (keywordEach [] X.env))) := by rfl) :
    PE X (.Call (.Attribute o "same" apos) (e :: es) [] pos) (tSMeth CM (spSame CM) E0 ta t) := by
  obtain ⟨p, g, fd, mc, r, m, F, b, kb⟩ := c.ex
  exact pe_smeth (pl := pl) he r m F (hr.mono hj) b pass0 ha hst hpl ht
theorem pe_smK {kws : List Keyword} {tk : TA} (c : Sms X.prog X.w X.K X.mg X.base CM) (hr : Room j X.A) (hj : 7 ≤ j) (he : PE X o ta) (hkw : PK X kws tk)
    (hall : (backToKw pos (keywordEach kws X.env)).all (·.1.isSome) = true := by rfl) (hks : (backToKw pos (keywordEach kws X.env)).filterMap (·.1) = (["letters"] : List Str) := by rfl)
    (hpl : ((backTo pos (starEach [] X.env)).any (·.1) || (backToKw pos (keywordEach kws X.env)).any (·.1.isNone)) = false := by rfl)
    (ht : eval (.Call (.Attribute o "same" apos) [] kws pos) X.env = (do
      let ov ← eval o X.env
      standAt apos.atName
      let (f, first) ← holding [ov] (getMethod ov "same" pl)
      callWith pos f first (backTo pos (starEach [] X.env)) (backToKw pos (keywordEach kws X.env))) := by rfl) :
    PE X (.Call (.Attribute o "same" apos) [] kws pos) (tSMethK CM (spSame CM) (fun vs zs => vs ++ zs) E0 ta tk) := by
  obtain ⟨p, g, fd, mc, r, m, F, b, kb⟩ := c.ex
  exact pe_smethK0 (pl := pl) he r m F (hr.mono hj) kb pass0 hkw hall hks hpl ht
end
/-! ### tables -/
theorem putT_new {t : Tab} {c : Nat} {s : List Nat} (h : c ∉ t.map (·.1)) : putT t c s = t ++ [(c, s)] := by
  unfold putT
  rw [if_neg]
  intro z
  obtain ⟨q, hq, e⟩ := List.any_eq_true.mp z
  have e' : q.1 = c := by simpa using e
  exact h (List.mem_map.mpr ⟨q, hq, e'⟩)
theorem mergeT_app : ∀ {t a : Tab}, ((a ++ t).map (·.1)).Nodup → mergeT a t = a ++ t
  | [], a, _ => by rw [List.append_nil]; rfl
  | q :: t, a, h => by
    have hq : q.1 ∉ a.map (·.1) := by
      rw [List.map_append, List.nodup_append] at h
      intro z
      exact h.2.2 _ z q.1 (by simp) rfl
    show mergeT (putT a q.1 q.2) t = _
    rw [putT_new hq, mergeT_app (t := t) (a := a ++ [(q.1, q.2)])]
    · rw [List.append_assoc]
      rfl
    · rw [List.append_assoc]
      exact h
theorem mergeT_nil {t : Tab} (h : (t.map (·.1)).Nodup) : mergeT [] t = t := mergeT_app (a := []) h
theorem toldT_nil {t : Tab} (h : (t.map (·.1)).Nodup) : toldT [] t = t := mergeT_nil h
theorem look_mem : ∀ {t : Tab} {c : Nat} {s : List Nat}, (t.map (·.1)).Nodup → (c, s) ∈ t → lookT t c = some s := by
  intro t c s nd h
  obtain ⟨i, hi, e⟩ := List.getElem_of_mem h
  have z := look_at nd hi
  rw [e] at z
  exact z
theorem look_ext {t t' : Tab} (n : (t.map (·.1)).Nodup) (n' : (t'.map (·.1)).Nodup) (h : ∀ q, q ∈ t ↔ q ∈ t') (c : Nat) : lookT t c = lookT t' c := by
  cases e : lookT t c with
  | some s => exact (look_mem n' ((h _).mp (look_in e))).symm
  | none =>
    cases e' : lookT t' c with
    | none => rfl
    | some s =>
      rw [look_mem n ((h _).mpr (look_in e'))] at e
      cases e
theorem rev_nd {t : Tab} (n : (t.map (·.1)).Nodup) : (t.reverse.map (·.1)).Nodup := by
  rw [List.map_reverse]
  exact (List.reverse_perm _).nodup_iff.mpr n
theorem look_rev {t : Tab} (n : (t.map (·.1)).Nodup) (c : Nat) : lookT t.reverse c = lookT t c := look_ext (rev_nd n) n (fun q => List.mem_reverse) c
theorem GoodT.rev {cs : List Nat} {t : Tab} (g : GoodT cs t) : GoodT cs t.reverse := ⟨rev_nd g.nd, fun q h => g.key q (List.mem_reverse.mp h), fun q h => g.img q (List.mem_reverse.mp h)⟩
def dropT (t : Tab) (c : Nat) : Tab := t.filter fun q => decide (q.1 ≠ c)
theorem GoodT.drop {cs : List Nat} {t : Tab} (g : GoodT cs t) (c : Nat) : GoodT cs (dropT t c) := ⟨(List.filter_sublist.map _).nodup g.nd, fun q h => g.key q (List.mem_filter.mp h).1, fun q h => g.img q (List.mem_filter.mp h).1⟩
theorem look_drop (t : Tab) (c : Nat) : lookT (dropT t c) c = none := by
  cases e : lookT (dropT t c) c with
  | none => rfl
  | some s =>
    have := (List.mem_filter.mp (look_in e)).2
    simp at this
theorem enc_inj {a b : Option (List Nat)} (h : a.map (fun s => V.str (Sx s)) = b.map fun s => V.str (Sx s)) : a = b := by
  cases a with
  | none =>
    cases b with
    | none => rfl
    | some y => cases h
  | some x =>
    cases b with
    | none => cases h
    | some y => rw [Sx_inj (V.str.inj (Option.some.inj h))]
theorem look_put (t : Tab) (c : Nat) (s : List Nat) (c' : Nat) : lookT (putT t c s) c' = if c' = c then some s else lookT t c' := by
  have e := valV_put (encT t) (Sum.inr (L1 c)) (Sum.inr (L1 c')) (V.str (Sx s))
  rw [putK_enc, valV_enc, valV_enc] at e
  refine enc_inj ?_
  rw [e]
  by_cases h : c' = c
  · rw [if_pos h, if_pos ((key_iff _ _).mpr h)]
    rfl
  · rw [if_neg h, if_neg fun z => h ((key_iff _ _).mp z)]
theorem drop_enc (t : Tab) (c : Nat) : dropK (encT t) (Sum.inr (L1 c)) = encT (dropT t c) := by
  unfold dropK encT dropT
  rw [List.filter_map]
  congr 1
  refine List.filter_congr fun q _ => ?_
  show decide ((Sum.inr (L1 q.1) : Key) ≠ Sum.inr (L1 c)) = decide (q.1 ≠ c)
  by_cases h : q.1 = c
  · rw [h]
    simp
  · rw [decide_eq_true h, decide_eq_true]
    exact fun z => h ((key_iff _ _).mp z)
theorem eqM_symm {u v : Tab} (h : eqM u v) : eqM v u := fun c hc => (h c hc).symm
theorem fr_same {p : Addr} {H H' : Hp} (s : Same H H') : Fr p H H' := fun b o e _ => s b o e
theorem pen_same {H H' : Hp} {p l : Addr} {ns : List Int} {n : Nat} (P : PenAt H p l ns n) (s : Same H H') : PenAt H' p l ns n := by
  obtain ⟨⟨a, g, h1, h2, h3, h4⟩, i, e, sh⟩ := P
  exact ⟨⟨a, g, s _ _ h1, h2, h3, h4⟩, s _ _ i, e, sh⟩
theorem mis_fr {C : Addr} {H H' : Hp} {x p l : Addr} {u : Tab} {ns : List Int} {n : Nat} (m : MisAt C H x u) (P : PenAt H p l ns n) (f : Fr p H H') : MisAt C H' x u := m.mono fun b o e hl => f b o e fun z => by
  obtain ⟨xs, hp⟩ := P.pen
  rw [z] at e
  rw [hp] at e
  exact hl xs (Option.some.inj e).symm
section
variable {P : Program} {w : World} {K : PySem.W.Frag} {mg : Str → Option Value} {base : Heap} {CM CJ : Addr}
theorem nf_self {K : PySem.W.Frag} {C : Addr} : PySem.W.notFirst K C (.ref C) = true := by
  unfold PySem.W.notFirst
  simp
theorem MisAt.ins {C : Addr} {H : Hp} {x : Addr} {u : Tab} (m : MisAt C H x u) : ∃ dx fs, H x = some (.ins C dx fs) := by
  obtain ⟨dx, a, b, c, h, _⟩ := m.at_
  exact ⟨dx, _, h⟩
/-- two misreadings compared -/
theorem eq_mis (T : Ty K mg CM CJ) {H : Hp} {Q : VK} {g : Bool → Bool} {x y : Addr} {u v : Tab} (mx : MisAt CM H x u) (my : MisAt CM H y v) (q : Q (.bl (g (decide (eqM u v)))) H) : rEqOwn K CM (spEq K CM) E0 g (.ref x) (.ref y) H Q := by
  obtain ⟨dx, fs, hx⟩ := mx.ins
  obtain ⟨dy, gs, hy⟩ := my.ins
  exact ⟨x, dx, fs, .ref CM, rfl, hx, .base (.ins hy T.cl T.tA T.tB T.tC T.tD), nf_self, x, u, .ref y, rfl, mx, .inl ⟨y, v, rfl, my, _, rfl, q⟩⟩
theorem eq_else {H : Hp} {Q : VK} {g : Bool → Bool} {x : Addr} {u : Tab} {y : V} {t : Value} (mx : MisAt CM H x u) (ty : TyX K H y t) (nf : PySem.W.notFirst K CM t = true) (kt : PySem.W.kitOne K t (.ref CM) = some false) (q : Q (.bl (g false)) H) : rEqOwn K CM (spEq K CM) E0 g (.ref x) y H Q := by
  obtain ⟨dx, fs, hx⟩ := mx.ins
  exact ⟨x, dx, fs, t, rfl, hx, ty, nf, x, u, y, rfl, mx, .inr ⟨t, ty, kt, _, rfl, q⟩⟩
end
end V8

set_option Elab.async false
set_option linter.all false
set_option maxRecDepth 100000
set_option maxHeartbeats 8000000
/-! Misreadings as functions from letters to images. -/
namespace V8
open PySem PySem.Spec PyProof.Rows L2
/-! functions from letters to images -/
abbrev Fu := Nat → Option (List Nat)
def imF (f : Fu) : List Nat → Option (List Nat)
  | [] => some []
  | c :: cs => (f c).bind fun a => (imF f cs).map (a ++ ·)
theorem imF_app (f : Fu) : ∀ a b : List Nat, imF f (a ++ b) = (imF f a).bind fun x => (imF f b).map (x ++ ·)
  | [], b => by
    show imF f b = (imF f b).map ([] ++ ·)
    cases imF f b <;> rfl
  | c :: a, b => by
    show (f c).bind (fun z => (imF f (a ++ b)).map (z ++ ·)) = ((f c).bind fun z => (imF f a).map (z ++ ·)).bind _
    rw [imF_app f a b]
    cases f c with
    | none => rfl
    | some z =>
      cases imF f a with
      | none => rfl
      | some x =>
        cases imF f b with
        | none => rfl
        | some y =>
          show some (z ++ (x ++ y)) = some ((z ++ x) ++ y)
          rw [List.append_assoc]
def cF (f g : Fu) : Fu := fun c => (f c).bind (imF g)
theorem imF_cF (f g : Fu) : ∀ w : List Nat, imF (cF f g) w = (imF f w).bind (imF g)
  | [] => rfl
  | c :: w => by
    show ((f c).bind (imF g)).bind (fun a => (imF (cF f g) w).map (a ++ ·)) = ((f c).bind fun a => (imF f w).map (a ++ ·)).bind (imF g)
    rw [imF_cF f g w]
    cases f c with
    | none => rfl
    | some z =>
      cases h : imF f w with
      | none =>
        show (imF g z).bind (fun a => Option.map (a ++ ·) none) = none
        cases imF g z <;> rfl
      | some x =>
        show (imF g z).bind (fun a => (imF g x).map (a ++ ·)) = imF g (z ++ x)
        rw [imF_app]
theorem cF_assoc (f g h : Fu) : cF (cF f g) h = cF f (cF g h) := by
  funext c
  show ((f c).bind (imF g)).bind (imF h) = (f c).bind (imF (cF g h))
  cases f c with
  | none => rfl
  | some z => exact (imF_cF g h z).symm
/-- letters that stay -/
def idF (cs : List Nat) : Fu := fun c => if c ∈ cs then some [c] else none
theorem imF_id {cs : List Nat} : ∀ {w : List Nat}, (∀ c ∈ w, c ∈ cs) → imF (idF cs) w = some w
  | [], _ => rfl
  | c :: w, h => by
    show (if c ∈ cs then some [c] else none).bind (fun a => (imF (idF cs) w).map (a ++ ·)) = _
    rw [if_pos (h c (List.mem_cons_self ..)), imF_id fun x hx => h x (List.mem_cons_of_mem _ hx)]
    rfl
/-- over letters cs alone, in images too -/
structure Ovr (cs : List Nat) (f : Fu) : Prop where
  key : ∀ c s, f c = some s → c ∈ cs
  img : ∀ c s, f c = some s → ∀ d ∈ s, d ∈ cs
theorem cF_id {cs : List Nat} {f : Fu} (o : Ovr cs f) : cF f (idF cs) = f := by
  funext c
  show (f c).bind (imF (idF cs)) = f c
  cases h : f c with
  | none => rfl
  | some s => exact imF_id (o.img c s h)
theorem cF_id' {cs : List Nat} {f : Fu} (o : Ovr cs f) : cF (idF cs) f = f := by
  funext c
  show (if c ∈ cs then some [c] else none).bind (imF f) = f c
  by_cases h : c ∈ cs
  · rw [if_pos h]
    show (f c).bind (fun a => (some []).map (a ++ ·)) = f c
    cases f c with
    | none => rfl
    | some s =>
      show some (s ++ []) = some s
      rw [List.append_nil]
  · rw [if_neg h]
    cases e : f c with
    | none => rfl
    | some s => exact absurd (o.key c s e) h
theorem imF_over {cs : List Nat} {f : Fu} (o : Ovr cs f) : ∀ {w s : List Nat}, imF f w = some s → ∀ d ∈ s, d ∈ cs
  | [], s, h, d, hd => by
    cases Option.some.inj h
    cases hd
  | c :: w, s, h, d, hd => by
    have h' : (f c).bind (fun a => (imF f w).map (a ++ ·)) = some s := h
    cases e : f c with
    | none =>
      rw [e] at h'
      cases h'
    | some z =>
      cases e2 : imF f w with
      | none =>
        rw [e, e2] at h'
        cases h'
      | some x =>
        rw [e, e2] at h'
        have h3 : z ++ x = s := Option.some.inj h'
        rw [← h3] at hd
        rcases List.mem_append.mp hd with q | q
        · exact o.img c z e d q
        · exact imF_over o e2 d q
theorem Ovr.comp {cs : List Nat} {f g : Fu} (o : Ovr cs f) (p : Ovr cs g) : Ovr cs (cF f g) := by
  refine ⟨fun c s h => ?_, fun c s h d hd => ?_⟩
  · have h' : (f c).bind (imF g) = some s := h
    cases e : f c with
    | none =>
      rw [e] at h'
      cases h'
    | some z => exact o.key c z e
  · have h' : (f c).bind (imF g) = some s := h
    cases e : f c with
    | none =>
      rw [e] at h'
      cases h'
    | some z =>
      rw [e] at h'
      exact imF_over p h' d hd
/-- images of at most n letters -/
def Bnd (n : Nat) (f : Fu) : Prop := ∀ c s, f c = some s → s.length ≤ n
theorem imF_len {n : Nat} {f : Fu} (b : Bnd n f) : ∀ {w s : List Nat}, imF f w = some s → s.length ≤ n * w.length
  | [], s, h => by
    cases Option.some.inj h
    exact Nat.zero_le _
  | c :: w, s, h => by
    have h' : (f c).bind (fun a => (imF f w).map (a ++ ·)) = some s := h
    cases e : f c with
    | none =>
      rw [e] at h'
      cases h'
    | some z =>
      cases e2 : imF f w with
      | none =>
        rw [e, e2] at h'
        cases h'
      | some x =>
        rw [e, e2] at h'
        have h3 : z ++ x = s := Option.some.inj h'
        have h1 := b c z e
        have h2 := imF_len b e2
        rw [← h3, List.length_append, List.length_cons, Nat.mul_succ]
        omega
theorem Bnd.comp {a b : Nat} {f g : Fu} (hf : Bnd a f) (hg : Bnd b g) : Bnd (b * a) (cF f g) := fun c s h => by
  have h' : (f c).bind (imF g) = some s := h
  cases e : f c with
  | none =>
    rw [e] at h'
    cases h'
  | some z =>
    rw [e] at h'
    exact Nat.le_trans (imF_len hg h') (Nat.mul_le_mul_left _ (hf c z e))
theorem Bnd.le {a b : Nat} {f : Fu} (h : Bnd a f) (l : a ≤ b) : Bnd b f := fun c s e => Nat.le_trans (h c s e) l
theorem Bnd.id {cs : List Nat} : Bnd 1 (idF cs) := fun c s h => by
  have h' : (if c ∈ cs then some [c] else none) = some s := h
  by_cases e : c ∈ cs
  · rw [if_pos e] at h'
    cases Option.some.inj h'
    exact Nat.le_refl _
  · rw [if_neg e] at h'
    cases h'
theorem Ovr.id {cs : List Nat} : Ovr cs (idF cs) := by
  refine ⟨fun c s h => ?_, fun c s h d hd => ?_⟩ <;>
  · have h' : (if c ∈ cs then some [c] else none) = some s := h
    by_cases e : c ∈ cs
    · first
      | exact e
      | rw [if_pos e] at h'
        cases Option.some.inj h'
        rw [List.mem_singleton.mp hd]
        exact e
    · rw [if_neg e] at h'
      cases h'
/-- powers -/
def pF (f : Fu) : Nat → Fu
  | 0 => f
  | n + 1 => cF (pF f n) f
theorem pF_id {cs : List Nat} : ∀ n, pF (idF cs) n = idF cs
  | 0 => rfl
  | n + 1 => by
    show cF (pF (idF cs) n) (idF cs) = _
    rw [pF_id n, cF_id Ovr.id]
/-- cut to the letters of a text -/
def oF (f : Fu) (w : List Nat) : Fu := fun c => if c ∈ w then f c else none
theorem imF_oF (f : Fu) (w : List Nat) : ∀ {ws : List Nat}, (∀ c ∈ ws, c ∈ w) → imF (oF f w) ws = imF f ws
  | [], _ => rfl
  | c :: ws, h => by
    show (if c ∈ w then f c else none).bind (fun a => (imF (oF f w) ws).map (a ++ ·)) = (f c).bind (fun a => (imF f ws).map (a ++ ·))
    rw [if_pos (h c (List.mem_cons_self ..)), imF_oF f w fun x hx => h x (List.mem_cons_of_mem _ hx)]
theorem oF_oF (f : Fu) (w : List Nat) : oF (oF f w) w = oF f w := by
  funext c
  show (if c ∈ w then (if c ∈ w then f c else none) else none) = if c ∈ w then f c else none
  by_cases h : c ∈ w
  · rw [if_pos h]
  · rw [if_neg h, if_neg h]
theorem oF_all {cs : List Nat} {f : Fu} (o : Ovr cs f) : oF f cs = f := by
  funext c
  show (if c ∈ cs then f c else none) = f c
  by_cases h : c ∈ cs
  · rw [if_pos h]
  · rw [if_neg h]
    cases e : f c with
    | none => rfl
    | some s => exact absurd (o.key c s e) h
theorem oF_nil (f : Fu) : oF f [] = fun _ => none := by
  funext c
  show (if c ∈ ([] : List Nat) then f c else none) = none
  rw [if_neg List.not_mem_nil]
theorem oF_twice (f : Fu) (w : List Nat) : oF f (w ++ w) = oF f w := by
  funext c
  show (if c ∈ w ++ w then f c else none) = if c ∈ w then f c else none
  by_cases h : c ∈ w
  · rw [if_pos h, if_pos (List.mem_append_left _ h)]
  · rw [if_neg h, if_neg fun z => (List.mem_append.mp z).elim h h]
theorem Bnd.only {n : Nat} {f : Fu} (b : Bnd n f) (w : List Nat) : Bnd n (oF f w) := fun c s h => by
  have h' : (if c ∈ w then f c else none) = some s := h
  by_cases e : c ∈ w
  · rw [if_pos e] at h'
    exact b c s h'
  · rw [if_neg e] at h'
    cases h'
theorem Ovr.only {cs : List Nat} {f : Fu} (o : Ovr cs f) (w : List Nat) : Ovr cs (oF f w) := by
  have h : ∀ c s, oF f w c = some s → f c = some s := fun c s h => by
    have h' : (if c ∈ w then f c else none) = some s := h
    by_cases e : c ∈ w
    · rw [if_pos e] at h'
      exact h'
    · rw [if_neg e] at h'
      cases h'
  exact ⟨fun c s e => o.key c s (h c s e), fun c s e => o.img c s (h c s e)⟩
/-- each letter of the one has the same image by the other -/
def leF (f g : Fu) : Prop := ∀ c s, f c = some s → g c = some s
theorem oF_le (f : Fu) (w : List Nat) : leF (oF f w) f := fun c s h => by
  have h' : (if c ∈ w then f c else none) = some s := h
  by_cases e : c ∈ w
  · rw [if_pos e] at h'
    exact h'
  · rw [if_neg e] at h'
    cases h'
theorem cF_le {f f' : Fu} (g : Fu) (h : leF f f') : leF (cF f g) (cF f' g) := fun c s e => by
  have e' : (f c).bind (imF g) = some s := e
  show (f' c).bind (imF g) = some s
  cases z : f c with
  | none =>
    rw [z] at e'
    cases e'
  | some x =>
    rw [h c x z]
    rw [z] at e'
    exact e'
/-- both together -/
def uF (f g : Fu) : Fu := fun c => (g c).orElse fun _ => f c
theorem uF_le {f g : Fu} (h : leF f g) : uF f g = g := by
  funext c
  show (g c).orElse (fun _ => f c) = g c
  cases e : g c with
  | some s => rfl
  | none =>
    show f c = none
    cases e2 : f c with
    | none => rfl
    | some s =>
      rw [h c s e2] at e
      cases e
theorem imF_none {f : Fu} : ∀ {w : List Nat}, imF f w = none ↔ ∃ c ∈ w, f c = none
  | [] => by
    constructor
    · intro h
      cases h
    · rintro ⟨c, h, _⟩
      cases h
  | c :: w => by
    have ih := imF_none (f := f) (w := w)
    show (f c).bind (fun a => (imF f w).map (a ++ ·)) = none ↔ _
    cases e : f c with
    | none => exact ⟨fun _ => ⟨c, List.mem_cons_self .., e⟩, fun _ => rfl⟩
    | some z =>
      constructor
      · intro h
        cases e2 : imF f w with
        | some x =>
          rw [e2] at h
          cases h
        | none =>
          obtain ⟨d, h1, h2⟩ := ih.mp e2
          exact ⟨d, List.mem_cons_of_mem _ h1, h2⟩
      · rintro ⟨d, h1, h2⟩
        rcases List.mem_cons.mp h1 with q | q
        · rw [q, e] at h2
          cases h2
        · rw [ih.mpr ⟨d, q, h2⟩]
          rfl
theorem imF_some {f : Fu} : ∀ {w : List Nat}, (∀ c ∈ w, (f c).isSome = true) → imF f w = some ((w.map fun c => (f c).getD []).flatten)
  | [], _ => rfl
  | c :: w, h => by
    show (f c).bind (fun a => (imF f w).map (a ++ ·)) = _
    rw [imF_some fun x hx => h x (List.mem_cons_of_mem _ hx)]
    have h1 := h c (List.mem_cons_self ..)
    cases e : f c with
    | none =>
      rw [e] at h1
      cases h1
    | some z =>
      show some (z ++ _) = _
      rw [List.map_cons, List.flatten_cons, e]
      rfl

/-! what a Misreading's table tells -/
def lk (u : Tab) : Fu := fun c => if c ∈ abc then lookT u c else none
theorem lk_mem {u : Tab} {c : Nat} : c ∈ keysOf u ↔ (lk u c).isSome = true := by
  rw [keysOf_mem]
  show _ ↔ (if c ∈ abc then lookT u c else none).isSome = true
  by_cases h : c ∈ abc
  · rw [if_pos h]
    exact ⟨fun z => z.2, fun z => ⟨h, z⟩⟩
  · rw [if_neg h]
    exact ⟨fun z => absurd z.1 h, fun z => by cases z⟩
theorem lk_look {u : Tab} {c : Nat} (h : c ∈ keysOf u) : lookT u c = lk u c := by
  show _ = (if c ∈ abc then lookT u c else none)
  rw [if_pos (keysOf_mem.mp h).1]
theorem lk_some {u : Tab} {c : Nat} {s : List Nat} (h : lk u c = some s) : c ∈ keysOf u ∧ lookT u c = some s := by
  have m : c ∈ keysOf u := lk_mem.mpr (by rw [h]; rfl)
  exact ⟨m, (lk_look m).trans h⟩
theorem lk_not {u : Tab} {c : Nat} (h : c ∉ keysOf u) : lk u c = none := by
  cases e : lk u c with
  | none => rfl
  | some s => exact absurd (lk_some e).1 h
theorem eqM_lk {u v : Tab} : eqM u v ↔ lk u = lk v := by
  constructor
  · intro h
    funext c
    show (if c ∈ abc then lookT u c else none) = (if c ∈ abc then lookT v c else none)
    by_cases m : c ∈ abc
    · rw [if_pos m, if_pos m, h c m]
    · rw [if_neg m, if_neg m]
  · intro h c m
    have e := congrFun h c
    have e' : (if c ∈ abc then lookT u c else none) = (if c ∈ abc then lookT v c else none) := e
    rw [if_pos m, if_pos m] at e'
    exact e'
theorem lk_nil : lk [] = fun _ => none := by
  funext c
  show (if c ∈ abc then lookT [] c else none) = none
  by_cases m : c ∈ abc
  · rw [if_pos m]
    rfl
  · rw [if_neg m]
theorem keys_abc {u : Tab} {c : Nat} (h : c ∈ keysOf u) : c ∈ abc := (keysOf_mem.mp h).1
/-- a table told over letters cs -/
theorem good_over {cs : List Nat} {t : Tab} (g : GoodT cs t) : Ovr cs (lk t) := ⟨fun c s h => g.key _ (look_in (lk_some h).2), fun c s h => (g.img _ (look_in (lk_some h).2)).2.2⟩
theorem good_bnd {cs : List Nat} {t : Tab} (g : GoodT cs t) : Bnd 4 (lk t) := fun c s h => (g.img _ (look_in (lk_some h).2)).2.1
theorem imF_look {u : Tab} {cs : List Nat} (h : ∀ c ∈ cs, c ∈ keysOf u) : imF (lk u) cs = some ((cs.map fun c => (lookT u c).getD []).flatten) := by
  rw [imF_some fun c hc => lk_mem.mp (h c hc)]
  have e : (cs.map fun c => (lk u c).getD []) = cs.map fun c => (lookT u c).getD [] := List.map_congr_left fun c hc => by rw [lk_look (h c hc)]
  rw [e]
theorem imF_keys {u : Tab} {cs r : List Nat} (h : imF (lk u) cs = some r) : ∀ c ∈ cs, c ∈ keysOf u := fun c hc => by
  by_cases m : c ∈ keysOf u
  · exact m
  · have e := imF_none.mpr ⟨c, hc, lk_not m⟩
    rw [h] at e
    cases e
theorem imF_bar {u : Tab} {cs : List Nat} (h : imF (lk u) cs = none) : ¬ ∀ c ∈ cs, c ∈ keysOf u := fun z => by
  rw [imF_look z] at h
  cases h
/-- tables put together letter by letter -/
theorem look_app {t : Tab} {c : Nat} {s : List Nat} (h : c ∉ t.map (·.1)) (c' : Nat) : lookT (t ++ [(c, s)]) c' = if c' = c then some s else lookT t c' := by
  rw [← putT_new h, look_put]
/-- the table that f makes of the letters ks -/
def mkT (f : Fu) (ks : List Nat) : Tab := ks.filterMap fun c => (f c).map fun s => (c, s)
theorem mkT_keys (f : Fu) (ks : List Nat) : ∀ c ∈ (mkT f ks).map (·.1), c ∈ ks := fun c h => by
  obtain ⟨q, hq, rfl⟩ := List.mem_map.mp h
  obtain ⟨d, hd, e⟩ := List.mem_filterMap.mp hq
  cases z : f d with
  | none =>
    rw [z] at e
    cases e
  | some s =>
    rw [z] at e
    have e' : (d, s) = q := Option.some.inj e
    rw [← e']
    exact hd
theorem mkT_len (f : Fu) (ks : List Nat) : (mkT f ks).length ≤ ks.length := List.length_filterMap_le _ _
theorem mkT_snoc (f : Fu) (ks : List Nat) (c : Nat) : mkT f (ks ++ [c]) = mkT f ks ++ (match f c with | some s => [(c, s)] | none => []) := by
  unfold mkT
  rw [List.filterMap_append]
  congr 1
  cases e : f c with
  | none => simp [e]
  | some s => simp [e]
theorem look_cons (k : Nat) (s : List Nat) (t : Tab) (c : Nat) : lookT ((k, s) :: t) c = if k = c then some s else lookT t c := by
  unfold lookT
  rw [List.find?_cons]
  by_cases h : k = c
  · rw [if_pos h]
    simp [h]
  · rw [if_neg h]
    simp [h]
theorem mkT_cons (f : Fu) (k : Nat) (ks : List Nat) : mkT f (k :: ks) = (match f k with | some s => [(k, s)] | none => []) ++ mkT f ks := by
  unfold mkT
  rw [List.filterMap_cons]
  cases e : f k with
  | none => rfl
  | some s => rfl
theorem mkT_look (f : Fu) : ∀ {ks : List Nat}, ks.Nodup → ∀ c, lookT (mkT f ks) c = if c ∈ ks then f c else none
  | [], _, c => by rw [if_neg List.not_mem_nil]; rfl
  | k :: ks, nd, c => by
    have nd1 := List.nodup_cons.mp nd
    have ih' := mkT_look f nd1.2 c
    rw [mkT_cons]
    cases e : f k with
    | none =>
      show lookT (mkT f ks) c = _
      rw [ih']
      by_cases h2 : c = k
      · rw [h2, if_neg nd1.1, if_pos (List.mem_cons_self ..), e]
      · by_cases h : c ∈ ks
        · rw [if_pos h, if_pos (List.mem_cons_of_mem _ h)]
        · rw [if_neg h, if_neg (fun z => (List.mem_cons.mp z).elim h2 h)]
    | some s =>
      show lookT ((k, s) :: mkT f ks) c = _
      rw [look_cons, ih']
      by_cases h2 : k = c
      · rw [if_pos h2, ← h2, if_pos (List.mem_cons_self ..), e]
      · rw [if_neg h2]
        by_cases h : c ∈ ks
        · rw [if_pos h, if_pos (List.mem_cons_of_mem _ h)]
        · rw [if_neg h, if_neg (fun z => (List.mem_cons.mp z).elim (fun y => h2 y.symm) h)]
theorem mkT_lk {f : Fu} {ks : List Nat} (nd : ks.Nodup) (h : ∀ c s, f c = some s → c ∈ ks ∧ c ∈ abc) : lk (mkT f ks) = f := by
  funext c
  show (if c ∈ abc then lookT (mkT f ks) c else none) = f c
  rw [mkT_look f nd]
  cases e : f c with
  | none => by_cases a : c ∈ abc <;> by_cases b : c ∈ ks <;> simp [a, b, e]
  | some s =>
    obtain ⟨a, b⟩ := h c s e
    rw [if_pos b, if_pos a]
theorem keys12 {u : Tab} {n : Nat} (h : (keysOf u).length ≤ n) (f : Fu) : (mkT f (keysOf u)).length ≤ n := Nat.le_trans (mkT_len _ _) h
end V8

set_option Elab.async false
set_option linter.all false
set_option maxRecDepth 100000
set_option maxHeartbeats 4000000
/-! Signs of an own class by its own methods, by an address; a ** k. -/
namespace L2
open PySem PySem.Spec PyProof.Rows
/-- an own method that a sign of two calls -/
structure Bo (P : Program) (w : World) (K : PySem.W.Frag) (mg : Str → Option Value) (base : Heap) (k : Nat) (C : Addr) (m : Str) (sp : Sp) : Prop where
  ex : ∃ (f : Addr) (fd : FuncData) (ps : List Str), FnOk P w K mg base CX0 k f fd ps sp ∧ Binds K fd ps [] ∧ PySem.W.findIn K (.ref C) m = some (some (.ref f)) ∧ PySem.W.isFn K (.ref f) = true ∧ PySem.W.selfFirst K C = true
/-- what the sign of the power asks of int -/
structure IntP (K : PySem.W.Frag) (C : Addr) : Prop where
  rp : PySem.W.findIn K (.ref C) "__rpow__" = some none
  h1 : ∃ fo, PySem.W.findIn K (.type "int") "__pow__" = some fo
  h2 : ∃ ro, PySem.W.findIn K (.type "int") "__rpow__" = some ro
  sub : PySem.W.subIn K (.type "int") (.ref C) = some false
def rPowOwn (K : PySem.W.Frag) (C : Addr) (sp : Sp) (E : XK) : R2 := fun x y H Q => ∃ a dx fs i, x = .ref a ∧ H a = some (.ins C dx fs) ∧ y = .int i ∧ sp [.ref a, .int i] H Q E
section
variable {X : Cx} {k j : Nat} {C : Addr} {sp : Sp}
theorem op_bin {op : Operator} {m : Str} (c : Bo X.prog X.w X.K X.mg X.base k C m sp) (hr : Room j X.A) (hk : k ≤ j) (hm : PySem.dunder op.info.2 = m := by rfl) : OpR X (binaryOp op) (rBinOwn X.K C sp E0) := by
  obtain ⟨f, fd, ps, F, b, h1, h2, h3⟩ := c.ex
  subst hm
  exact op_binOwn F b pass0 h1 h2 h3 (hr.mono hk)
theorem op_powO {m : Str} (c : Bo X.prog X.w X.K X.mg X.base k C m sp) (ip : IntP X.K C) (hr : Room j X.A) (hk : k ≤ j) (hm : PySem.dunder (Operator.info .Pow).2 = m := by rfl) : OpR X (binaryOp .Pow) (rPowOwn X.K C sp E0) := by
  obtain ⟨f, fd, ps, F, b, h1, h2, h3⟩ := c.ex
  subst hm
  intro pins s σ H x y v u Q I rx ry h
  obtain ⟨a, dx, fs, i, rfl, ha, rfl, hsp⟩ := h
  obtain rfl : v = Value.ref a := rx
  obtain ⟨od, J⟩ := inst_at I ha
  obtain ⟨m, hF⟩ := I.fr
  obtain ⟨fo, e1⟩ := ip.h1
  obtain ⟨ro, e2⟩ := ip.h2
  have hb : typeOf u = pure (.type "int") := by
    obtain ⟨t, rfl⟩ := (show ∃ t, u = Value.int i t from ry)
    rfl
  refine PySem.W.ksp_binT hF I.ok.mod.kin J hb h3 h1 h2 ip.rp (.inl rfl) e1 e2 ip.sub (thn (run_own (Sub.here (hr.mono hk)) F b pass0 I (show Vals [V.ref a, V.int i] [Value.ref a, u] from .cons rfl (.cons ry .nil)) hsp) fun r s' q => ?_)
  obtain ⟨z, H', I', rz, q⟩ := q
  exact notNI rz ⟨z, H', I', rz, q⟩
theorem pe_mt {pl : Sem Bool} {m : Str} {o e : Expr} {es : List Expr} {apos pos : Pos} {ta : TE} {t : TA} (c : Cls X.K C) (D : Mf X.prog X.w X.K X.mg X.base k C m sp) (hr : Room j X.A) (hk : k ≤ j) (he : PE X o ta) (ha : PA X (e :: es) t)
    (hst : starEach (e :: es) X.env = (false, eval e X.env) :: starEach es X.env := by rfl) (hpl : (backTo pos (starEach es X.env)).any (·.1) = false := by rfl)
    (ht : eval (.Call (.Attribute o m apos) (e :: es) [] pos) X.env = (do
      let ov ← eval o X.env
      standAt apos.atName
      let (f, first) ← holding [ov] (getMethod ov m pl)
      callWith pos f first (backTo pos (starEach (e :: es) X.env)) (backToKw pos (keywordEach [] X.env))) := by rfl) :
    PE X (.Call (.Attribute o m apos) (e :: es) [] pos) (tMeth C m sp [] E0 ta t) := by
  obtain ⟨f, fd, ps, F, hm, _, _, b⟩ := D.ex
  exact pe_meth (pl := pl) he c hm F (hr.mono hk) b .nil pass0 ha hst hpl ht
theorem op_leM (c : Bo X.prog X.w X.K X.mg X.base k C "__le__" sp) (hr : Room j X.A) (hk : k ≤ j) : OpR X (compareOp .LtE) (rLeOwn X.K C sp E0) := by
  obtain ⟨f, fd, ps, F, b, h1, h2, h3⟩ := c.ex
  exact op_leOwn F b pass0 ⟨h1, h2⟩ (hr.mono hk)
end
end L2

set_option Elab.async false
set_option linter.all false
set_option maxRecDepth 100000
set_option maxHeartbeats 8000000
/-! The program's small tests; a Misreading of what other ones have joined. -/
namespace V8
open PySem PySem.Spec PyProof.Rows L2
abbrev s_check_text : Stmt := topS 25
abbrev n_check_text : List Str := ["value"]
theorem sc_check_text : FnScope ["value"] ["value"] (defScope s_check_text) := ⟨rfl, rfl, rfl, by decide +kernel, rfl, by decide +kernel, by decide +kernel⟩
abbrev s_bounded : Stmt := topS 26
abbrev n_bounded : List Str := ["string"]
theorem sc_bounded : FnScope ["string"] ["string"] (defScope s_bounded) := ⟨rfl, rfl, rfl, by decide +kernel, rfl, by decide +kernel, by decide +kernel⟩
abbrev s_check_other : Stmt := topS 36
abbrev n_check_other : List Str := ["other"]
theorem sc_check_other : FnScope ["other"] ["other"] (defScope s_check_other) := ⟨rfl, rfl, rfl, by decide +kernel, rfl, by decide +kernel, by decide +kernel⟩
abbrev s_is_integer : Stmt := topS 22
abbrev n_is_integer : List Str := ["value"]
theorem sc_is_integer : FnScope ["value"] ["value"] (defScope s_is_integer) := ⟨rfl, rfl, rfl, by decide +kernel, rfl, by decide +kernel, by decide +kernel⟩
abbrev s_is_between : Stmt := topS 23
abbrev n_is_between : List Str := ["value", "least", "most"]
theorem sc_is_between : FnScope ["value", "least", "most"] ["value", "least", "most"] (defScope s_is_between) := ⟨rfl, rfl, rfl, by decide +kernel, rfl, by decide +kernel, by decide +kernel⟩
abbrev s_Joined_init : Stmt := inClass (topS 31) 0
abbrev n_Joined_init : List Str := ["self", "images"]
theorem sc_Joined_init : FnScope ["self", "images"] ["self", "images"] (defScope s_Joined_init) := ⟨rfl, rfl, rfl, by decide +kernel, rfl, by decide +kernel, by decide +kernel⟩
abbrev s_Misreading_first_barred : Stmt := inClass (topS 32) 7
abbrev n_Misreading_first_barred : List Str := ["self", "text", "at", "letter"]
theorem sc_Misreading_first_barred : FnScope ["self", "text", "at", "letter"] ["self", "text"] (defScope s_Misreading_first_barred) := ⟨rfl, rfl, rfl, by decide +kernel, rfl, by decide +kernel, by decide +kernel⟩
abbrev s_Misreading_image : Stmt := inClass (topS 32) 8
abbrev n_Misreading_image : List Str := ["self", "text", "letter"]
theorem sc_Misreading_image : FnScope ["self", "text", "letter"] ["self", "text"] (defScope s_Misreading_image) := ⟨rfl, rfl, rfl, by decide +kernel, rfl, by decide +kernel, by decide +kernel⟩
structure Tz (K : PySem.W.Frag) (mg : Str → Option Value) (CM CJ : Addr) : Prop extends Ty K mg CM CJ where
  enumerate : mg "enumerate" = none
  all : mg "all" = none
  bool : mg "bool" = none
  gLONGEST_JOINED : GV mg "LONGEST_JOINED" (.int 64)
  clJ : Cls K CJ
  nJ : NoAttr K CJ "images"
  jA : PySem.W.findIn K (.ref CJ) "__class__" = some (some (.builtin "object.__class__"))
  jD : PySem.W.mroIn K CJ (.type "object") = some true
  ip : IntP K CM
  JJ : PySem.W.kitOne K (.ref CJ) (.ref CJ) = some true
def spChkT : Sp := fun vs H Q _ => ∃ cs : List Nat, vs = [.str (Sx cs)] ∧ (∀ c ∈ cs, isLt c) ∧ cs.length ≤ 2000 ∧ Q .non H
def spBound : Sp := fun vs H Q _ => ∃ cs : List Nat, vs = [.str (Sx cs)] ∧ cs.length ≤ 2000 ∧ Q (.str (Sx cs)) H
def spChkO (CM : Addr) : Sp := fun vs H Q _ => ∃ z u, vs = [.ref z] ∧ MisAt CM H z u ∧ Q .non H
def spInt : Sp := fun vs H Q _ => ∃ i, vs = [.int i] ∧ Q (.bl true) H
def spBtw : Sp := fun vs H Q _ => ∃ i a b : Int, vs = [.int i, .int a, .int b] ∧ a ≤ i ∧ i ≤ b ∧ Q (.bl true) H
def fJ (d : Addr) : List (Str × V) := putF "images" (.ref d) []
theorem fJ_i (d : Addr) : (fJ d).lookup ("images" : Str) = some (.ref d) := by
  unfold fJ
  rw [lookup_putF, if_pos rfl]
def spJ (CJ : Addr) : Sp := fun vs H Q _ => ∃ (j dj d : Addr), vs = [.ref j, .ref d] ∧ H j = some (.ins CJ dj []) ∧ Q .non (upd H j (.ins CJ dj (fJ d)))
def spInitJ (CM CJ : Addr) : Sp := fun vs H Q _ => ∃ (x dx j dj d : Addr) (t : Tab), vs = [.ref x, .ref j, .str (Sx [])] ∧ H x = some (.ins CM dx []) ∧ H j = some (.ins CJ dj (fJ d)) ∧ H d = some (.dK (encT t)) ∧ t.length ≤ 12 ∧
  ∀ H', MisN CM H H' x t → (∀ b o, H b = some o → b ≠ x → H' b = some o) → Q .non H'
def spFB (CM : Addr) : Sp := fun vs H Q _ => ∃ (x : Addr) (u : Tab) (cs : List Nat), vs = [.ref x, .str (Sx cs)] ∧ MisAt CM H x u ∧ cs.length ≤ 4000 ∧ (∀ r H', imF (lk u) cs = some r → Same H H' → Q .non H') ∧ (∀ (i : Nat) H', i < cs.length → imF (lk u) cs = none → Same H H' → Q (.int i) H')
def spImg (CM : Addr) : Sp := fun vs H Q _ => ∃ (x : Addr) (u : Tab) (cs r : List Nat), vs = [.ref x, .str (Sx cs)] ∧ MisAt CM H x u ∧ Bnd 64 (lk u) ∧ imF (lk u) cs = some r ∧ cs.length ≤ 2000 ∧ ∀ H', Same H H' → Q (.str (Sx r)) H'
section
variable {P : Program} {w : World} {K : PySem.W.Frag} {mg : Str → Option Value} {base : Heap} {CM CJ : Addr}
theorem ok_check_text {f : Addr} {fd : FuncData} (F : Fun K "check_text" "check_text" s_check_text f fd) (T : Tx K mg CM CJ) (D_is_text : Df P w K mg base 2 "is_text" spIsText) : FnOk P w K mg base CX0 3 f fd ["value"] spChkT := by
  refine F.ok sc_check_text (fun vs H Q E h => ?_) (fun cdv A outer s H vs Q E hr h => ?_)
  · obtain ⟨cs, rfl, _⟩ := h
    rfl
  · obtain ⟨cs, rfl, hl, hn, q⟩ := h
    refine ⟨_, (pss_one (ps_if (pt_not (pt_val (pe_c D_is_text hr (by decide) (by rfl) (pa_cons (pv 0) pa_nil))))
        (pss_one ps_never)
        pss_nil)), ?_⟩
    exact ⟨_, rfl, cs, rfl, hl, hn, true, rfl, iteF q⟩
theorem ok_bounded {f : Addr} {fd : FuncData} (F : Fun K "bounded" "bounded" s_bounded f fd) (T : Tx K mg CM CJ) : FnOk P w K mg base CX0 1 f fd ["string"] spBound := by
  refine F.ok sc_bounded (fun vs H Q E h => ?_) (fun cdv A outer s H vs Q E hr h => ?_)
  · obtain ⟨cs, rfl, _⟩ := h
    rfl
  · obtain ⟨cs, rfl, hn, q⟩ := h
    refine ⟨_, (pss_cons (ps_if (pt_cmpR op_gt (pe_callB call_len_str (by rfl) T.len (by decide +kernel) (pa_cons (pv 0) pa_nil)) (pe_gv T.gLONGEST (by rfl)) (nomark _))
        (pss_one ps_never)
        pss_nil)
      (pss_one (ps_ret (pv 0)))), ?_⟩
    have hz : (Sx cs).length ≤ sizeLine := by rw [Sx_len, sizeLine_eq]; omega
    refine ⟨_, rfl, _, rfl, hz, _, _, rfl, rfl, _, rfl, ?_⟩
    rw [Sx_len, decide_eq_false (by show ¬ ((2000 : Int) < (cs.length : Int)); omega)]
    exact iteF ⟨_, rfl, q⟩
theorem ok_check_other {f : Addr} {fd : FuncData} (F : Fun K "check_other" "check_other" s_check_other f fd) (T : Ty K mg CM CJ) : FnOk P w K mg base CX0 1 f fd ["other"] (spChkO CM) := by
  refine F.ok sc_check_other (fun vs H Q E h => ?_) (fun cdv A outer s H vs Q E hr h => ?_)
  · obtain ⟨z, u, rfl, _⟩ := h
    rfl
  · obtain ⟨z, u, rfl, M, q⟩ := h
    refine ⟨_, (pss_one (ps_if (pt_not (pt_val (pe_callB call_isi (by rfl) T.isinstance (by decide +kernel) (pa_cons (pv 0) (pa_cons (pe_gv T.gMisreading (by rfl)) pa_nil)))))
        (pss_one ps_never)
        pss_nil)), ?_⟩
    obtain ⟨dx, fs, hx⟩ := M.ins
    exact ⟨_, rfl, _, .ref CM, .ref CM, .ref CM, true, rfl, .own _, .base (.ins hx T.cl T.tA T.tB T.tC T.tD), T.mM, true, rfl, iteF q⟩
theorem ok_is_integer {f : Addr} {fd : FuncData} (F : Fun K "is_integer" "is_integer" s_is_integer f fd) (T : Tz K mg CM CJ) : FnOk P w K mg base CX0 1 f fd ["value"] spInt := by
  refine F.ok sc_is_integer (fun vs H Q E h => ?_) (fun cdv A outer s H vs Q E hr h => ?_)
  · obtain ⟨i, rfl, _⟩ := h
    rfl
  · obtain ⟨i, rfl, q⟩ := h
    refine ⟨_, (pss_one (ps_ret (pe_and (pe_callB call_isi (by rfl) T.isinstance (by decide +kernel) (pa_cons (pv 0) (pa_cons (pe_bltn (v := .ty "int") (by rfl) T.int (by decide +kernel) rfl) pa_nil))) (pe_one (pe_not (pe_callB call_isi (by rfl) T.isinstance (by decide +kernel) (pa_cons (pv 0) (pa_cons (pe_bltn (v := .ty "bool") (by rfl) T.bool (by decide +kernel) rfl) pa_nil)))))))), ?_⟩
    refine ⟨_, rfl, _, .ty "int", .type "int", .type "int", true, rfl, .ty _, .base (.int i), kit_ty (by decide +kernel), true, rfl, ?_⟩
    refine ⟨_, rfl, _, .ty "bool", .type "int", .type "bool", false, rfl, .ty _, .base (.int i), kit_ty (by decide +kernel), ?_⟩
    exact ⟨_, rfl, q⟩
theorem ok_is_between {f : Addr} {fd : FuncData} (F : Fun K "is_between" "is_between" s_is_between f fd) (T : Tz K mg CM CJ) (D_is_integer : Df P w K mg base 1 "is_integer" spInt) : FnOk P w K mg base CX0 2 f fd ["value", "least", "most"] spBtw := by
  refine F.ok sc_is_between (fun vs H Q E h => ?_) (fun cdv A outer s H vs Q E hr h => ?_)
  · obtain ⟨i, a, b, rfl, _⟩ := h
    rfl
  · obtain ⟨i, a, b, rfl, ha, hb, q⟩ := h
    refine ⟨_, (pss_one (ps_ret (pe_and (pe_c D_is_integer hr (by decide) (by rfl) (pa_cons (pv 0) pa_nil)) (pe_one (pe_chain op_le op_le (pv 1) (pv 0) (pv 2)))))), ?_⟩
    refine ⟨_, rfl, i, rfl, true, rfl, iteT ?_⟩
    refine ⟨_, rfl, _, rfl, _, _, rfl, rfl, true, dec_t ha, ?_⟩
    refine ⟨_, rfl, _, _, rfl, rfl, ?_⟩
    show Q (V.bl (decide (i ≤ b))) H
    rw [decide_eq_true hb]
    exact q
theorem ok_Joined {f : Addr} {fd : FuncData} (F : Fun K "__init__" "Joined.__init__" s_Joined_init f fd) (T : Tz K mg CM CJ) : FnOk P w K mg base CX0 1 f fd ["self", "images"] (spJ CJ) := by
  refine F.ok sc_Joined_init (fun vs H Q E h => ?_) (fun cdv A outer s H vs Q E hr h => ?_)
  · obtain ⟨j, dj, d, rfl, _⟩ := h
    rfl
  · obtain ⟨j, dj, d, rfl, hj, q⟩ := h
    refine ⟨_, (pss_one (ps_fld (pv 0) (pv 1) rfl)), ?_⟩
    exact ⟨_, rfl, _, rfl, j, CJ, dj, [], rfl, hj, T.clJ, T.nJ, by decide, q⟩
theorem ok_initJ {f : Addr} {fd : FuncData} {dvs : List V} (F : FunD K "__init__" "Misreading.__init__" (defArgs s_Misreading_init) (defBody s_Misreading_init) (defScope s_Misreading_init) dvs [] f fd) (T : Tz K mg CM CJ) (D_told_images : Df P w K mg base 4 "told_images" spTold) : FnOk P w K mg base CX0 5 f fd ["self", "images", "keeps"] (spInitJ CM CJ) := by
  refine F.ok sc_Misreading_init (fun vs H Q E h => ?_) (fun cdv A outer s H vs Q E hr h => ?_)
  · obtain ⟨x, dx, j, dj, d, t, rfl, _⟩ := h
    rfl
  · obtain ⟨x, dx, j, dj, r, u, rfl, hx, hj, hr1, lu, q⟩ := h
    refine ⟨_, (pss_cons (ps_set (i := 3) sc_Misreading_init.nd rfl (.inr rfl) (pe_ifExp (pt_val (pe_callB call_isi (by rfl) T.isinstance (by decide +kernel) (pa_cons (pv 1) (pa_cons (pe_gv T.gJoined (by rfl)) pa_nil)))) (pe_fldK (K := K) rfl (pv 1) rfl) (pe_c D_told_images hr (by decide) (by rfl) (pa_cons (pv 1) (pa_cons (pv 2) pa_nil)))))
      (pss_cons (ps_if (pt_cmpR op_gt (pe_callB call_lenD (by rfl) T.len (by decide +kernel) (pa_cons (pv 3) pa_nil)) (pe_gv T.gMOST_LETTERS (by rfl)) (nomark _))
        (pss_one ps_never)
        pss_nil)
      (pss_cons (ps_fld (pv 0) (pe_callTy (call_tuple_ofK (K := K) rfl) (by rfl) T.tuple (by decide +kernel) (pa_cons (pe_lc (own := [("letter", 4)]) (g := gName 4) (by rfl) sc_Misreading_init.nd (pi_str (pe_gv T.gLETTERS (by rfl))) (blkOk_by (own := [("letter", 4)]) (N := n_Misreading_init) (sc := defScope s_Misreading_init) (by decide +kernel)) (fun _ _ _ _ _ => (pg_name (i := 4) sc_Misreading_init.nd rfl (.inl rfl))) (fun _ _ _ _ _ => (pts_one (pt_cmp (pc_din (hu_of hr) (pv 4) (pv 3))))) (fun _ _ _ _ _ => (pv 4))) pa_nil)) rfl)
      (pss_cons (ps_fld (pv 0) (pe_dc (own := [("letter", 4)]) (g := gName 4) (by rfl) sc_Misreading_init.nd (pi_tup (pe_fldK (K := K) rfl (pv 0) rfl)) (blkOk_by (own := [("letter", 4)]) (N := n_Misreading_init) (sc := defScope s_Misreading_init) (by decide +kernel)) (fun _ _ _ _ _ => (pg_name (i := 4) sc_Misreading_init.nd rfl (.inl rfl))) (fun _ _ _ _ _ => pts_nil) (fun _ _ _ _ _ => (pv 4)) (fun _ _ _ _ _ => (pe_dget (hu_of hr) (pv 3) (pv 4) (fun _ _ => rfl)))) rfl)
      (pss_one (ps_fld (pv 0) (pe_callTy (call_tuple_ofK (K := K) rfl) (by rfl) T.tuple (by decide +kernel) (pa_cons (pe_lc (own := [("letter", 4)]) (g := gName 4) (by rfl) sc_Misreading_init.nd (pi_tup (pe_fldK (K := K) rfl (pv 0) rfl)) (blkOk_by (own := [("letter", 4)]) (N := n_Misreading_init) (sc := defScope s_Misreading_init) (by decide +kernel)) (fun _ _ _ _ _ => (pg_name (i := 4) sc_Misreading_init.nd rfl (.inl rfl))) (fun _ _ _ _ _ => (pts_one (pt_cmpR op_ne (pe_dget (hu_of hr) (pv 3) (pv 4) (fun _ _ => rfl)) (pv 4) (nomark _)))) (fun _ _ _ _ _ => (pv 4))) pa_nil)) rfl)))))), ?_⟩
    refine ⟨_, rfl, _, .ref CJ, .ref CJ, .ref CJ, true, rfl, .own _, .base (.ins hj T.clJ T.jA T.tB T.tC T.jD), T.JJ, true, rfl, ?_⟩
    refine iteT ?_
    refine ⟨_, rfl, j, CJ, dj, _, _, rfl, hj, T.clJ, T.nJ, fJ_i r, ?_⟩
    obtain ⟨H1, e1⟩ : ∃ H1, H1 = H := ⟨H, rfl⟩
    have sm : Same H H1 := by
      rw [e1]
      exact Same.refl H
    have hx1 := sm _ _ hx
    replace hr1 := sm _ _ hr1
    have h12 : (12 : Nat) ≤ 12 := Nat.le_refl _
    show tSeq _ _ _ _ H
    rw [show tSeq _ _ _ _ H = tSeq _ _ _ _ H1 from by rw [e1]]
    clear e1
    -- len(told) > 12
    refine ⟨_, rfl, r, _, rfl, hr1, _, _, rfl, rfl, _, rfl, ?_⟩
    rw [encT_len, decide_eq_false (by show ¬ ((12 : Int) < (u.length : Int)); omega)]
    refine iteF ?_
    have hx0 : ∀ b o, H b = some o → b ≠ x → H1 b = some o := fun b o e _ => sm b o e
    -- self._letters
    refine ⟨abcS, rfl, fun D nD => lc_it walk_str (fun i H2 => H2 = upd H1 D (.lst (lets ((abc.take i).filter fun c => (lookT u c).isSome)))) rfl (fun _ _ _ _ => trivial) ?_ ?_⟩
    · rintro i z H2 H2' hi rfl ⟨rfl, c, hc, rfl⟩
      have hc' : abc[i]? = some c := by
        rw [← abcS_cps]
        simpa using hc
      have hrD : r ≠ D := ne_of_none hr1 nD
      refine ⟨rfl, _, rfl, _, rfl, r, _, rfl, DGet.k (k := Sum.inr (L1 c)) (by rw [upd_ne hrD]; exact hr1), _, rfl, ?_⟩
      rw [valV_enc]
      have hs := some_put u i c hc'
      by_cases e : (lookT u c).isSome = true
      · have e2 : (Option.map (fun s => V.str (Sx s)) (lookT u c)).isSome = true := by rw [Option.isSome_map]; exact e
        rw [e2]
        refine iteT ?_
        rw [if_pos e] at hs
        refine ⟨_, rfl, lets ((abc.take i).filter fun c => (lookT u c).isSome), upd_same, ?_, ?_⟩
        · rw [lets_len]
          have h1 := List.length_filter_le (fun c => (lookT u c).isSome) (abc.take i)
          have h2 : (abc.take i).length ≤ 26 := by rw [List.length_take, abc_len]; omega
          exact small1000 (by omega)
        · rw [upd_upd, hs, lets_snoc]
          rfl
      · have e2 : (Option.map (fun s => V.str (Sx s)) (lookT u c)).isSome = false := by
          rw [Option.isSome_map]
          exact Bool.eq_false_iff.mpr e
        rw [e2]
        refine iteF ?_
        rw [if_neg e, List.append_nil] at hs
        rw [hs]
    · rintro H2 rfl
      have hsz : abcS.cps.size = 26 := by decide +kernel
      rw [hsz]
      have ek : (abc.take 26).filter (fun c => (lookT u c).isSome) = keysOf u := by
        rw [List.take_of_length_le (by rw [abc_len]; exact Nat.le_refl _)]
        rfl
      rw [ek]
      refine ⟨D, _, rfl, .inl ⟨SqL.of upd_same, fun a na => ?_⟩⟩
      have hxD : x ≠ D := ne_of_none hx1 nD
      have hxa : x ≠ a := ne_of_none (H := upd H1 D (.lst (lets (keysOf u)))) (o := .ins CM dx []) (by rw [upd_ne hxD]; exact hx1) na
      have hrD : r ≠ D := ne_of_none hr1 nD
      have hra : r ≠ a := ne_of_none (H := upd H1 D (.lst (lets (keysOf u)))) (o := .dK (encT u)) (by rw [upd_ne hrD]; exact hr1) na
      have hrx : r ≠ x := ne_of hr1 hx1 (fun z => nomatch z)
      refine ⟨_, rfl, x, CM, dx, [], rfl, by rw [upd_ne hxa, upd_ne hxD]; exact hx1, T.cl, T.nL, by show 0 < 1000; decide, ?_⟩
      have fr3 : ∀ b o, H b = some o → b ≠ x → upd (upd (upd H1 D (.lst (lets (keysOf u)))) a (.tup (lets (keysOf u)))) x (.ins CM dx (f1 a)) b = some o := fun b o e hb => by
        have e1 := sm b o e
        have hbD := ne_of_none e1 nD
        rw [upd_ne hb, upd_ne (ne_of_none (H := upd H1 D (.lst (lets (keysOf u)))) (o := o) (by rw [upd_ne hbD]; exact e1) na), upd_ne hbD]
        exact e1
      have hx3 : upd (upd (upd H1 D (.lst (lets (keysOf u)))) a (.tup (lets (keysOf u)))) x (.ins CM dx (f1 a)) x = some (.ins CM dx (f1 a)) := upd_same
      have ha3 : upd (upd (upd H1 D (.lst (lets (keysOf u)))) a (.tup (lets (keysOf u)))) x (.ins CM dx (f1 a)) a = some (.tup (lets (keysOf u))) := by rw [upd_ne (Ne.symm hxa), upd_same]
      have hr3 : upd (upd (upd H1 D (.lst (lets (keysOf u)))) a (.tup (lets (keysOf u)))) x (.ins CM dx (f1 a)) r = some (.dK (encT u)) := by rw [upd_ne hrx, upd_ne hra, upd_ne hrD]; exact hr1
      show tSeq _ _ _ _ (upd (upd (upd H1 D (.lst (lets (keysOf u)))) a (.tup (lets (keysOf u)))) x (.ins CM dx (f1 a)))
      generalize upd (upd (upd H1 D (.lst (lets (keysOf u)))) a (.tup (lets (keysOf u)))) x (.ins CM dx (f1 a)) = H3 at fr3 hx3 ha3 hr3 ⊢
      have naH : H a = none := by
        cases e : H a with
        | none => rfl
        | some o =>
          have e1 := sm _ _ e
          have e2 : upd H1 D (.lst (lets (keysOf u))) a = some o := by rw [upd_ne (ne_of_none e1 nD)]; exact e1
          rw [e2] at na
          cases na
      clear na nD hxD hxa hrD hra
      -- self._images
      refine ⟨_, rfl, x, CM, dx, _, _, rfl, hx3, T.cl, T.nL, f1_L a, a, rfl, ⟨_, .inl (.inl ha3)⟩, fun D2 nD2 => dc_it (walk_tup (K := K) (a := a) (xs := lets (keysOf u))) (fun i H4 => H4 = upd H3 D2 (.dK (encT (((keysOf u).take i).map fun c => (c, (lookT u c).getD []))))) rfl ?_ ?_ ?_⟩
      · rintro i H4 hi rfl
        exact .inl (.inl (by rw [upd_ne (ne_of_none ha3 nD2)]; exact ha3))
      · rintro i z H4 H4' hi rfl ⟨rfl, hz⟩
        obtain ⟨hik, rfl⟩ := lets_get hz
        obtain ⟨s, es⟩ := Option.isSome_iff_exists.mp (List.mem_filter.mp (List.getElem_mem hik)).2
        refine ⟨rfl, _, rfl, _, rfl, _, rfl, r, V.str (Sx s), rfl, .inl ⟨_, Sum.inr (L1 (keysOf u)[i]), .inl (by rw [upd_ne (ne_of_none hr3 nD2)]; exact hr3), rfl, by rw [valV_enc, es]; rfl⟩, _, Sum.inr (L1 (keysOf u)[i]), rfl, upd_same, ?_, ?_⟩
        · rw [encT_len, List.length_map, List.length_take]
          have := keysOf_len u
          exact small1000 (by omega)
        · rw [upd_upd, putK_enc]
          congr 3
          exact ims_succ (keysOf_nd u) hik (by rw [es]; rfl)
      · rintro H4 rfl
        rw [lets_len, List.take_length]
        have hxD2 : x ≠ D2 := ne_of_none hx3 nD2
        have haD2 : a ≠ D2 := ne_of_none ha3 nD2
        have hrD2 : r ≠ D2 := ne_of_none hr3 nD2
        refine ⟨_, rfl, x, CM, dx, f1 a, rfl, by rw [upd_ne hxD2]; exact hx3, T.cl, T.nI, f1_len a, ?_⟩
        have hax : a ≠ x := ne_of ha3 hx3 (fun z => nomatch z)
        have nbH : H D2 = none := by
          cases e : H D2 with
          | none => rfl
          | some o =>
            have e1 := fr3 _ _ e (Ne.symm hxD2)
            rw [e1] at nD2
            cases nD2
        have fr5 : ∀ b o, H b = some o → b ≠ x → upd (upd H3 D2 (.dK (encT (ims u)))) x (.ins CM dx (f2 a D2)) b = some o := fun b o e hb => by
          have e1 := fr3 b o e hb
          rw [upd_ne hb, upd_ne (ne_of_none e1 nD2)]
          exact e1
        have hx5 : upd (upd H3 D2 (.dK (encT (ims u)))) x (.ins CM dx (f2 a D2)) x = some (.ins CM dx (f2 a D2)) := upd_same
        have ha5 : upd (upd H3 D2 (.dK (encT (ims u)))) x (.ins CM dx (f2 a D2)) a = some (.tup (lets (keysOf u))) := by rw [upd_ne hax, upd_ne haD2]; exact ha3
        have hr5 : upd (upd H3 D2 (.dK (encT (ims u)))) x (.ins CM dx (f2 a D2)) r = some (.dK (encT u)) := by rw [upd_ne hrx, upd_ne hrD2]; exact hr3
        have hd5 : upd (upd H3 D2 (.dK (encT (ims u)))) x (.ins CM dx (f2 a D2)) D2 = some (.dK (encT (ims u))) := by rw [upd_ne (Ne.symm hxD2), upd_same]
        show Ends.nx _ _ (upd (upd H3 D2 (.dK (encT (ims u)))) x (.ins CM dx (f2 a D2)))
        generalize upd (upd H3 D2 (.dK (encT (ims u)))) x (.ins CM dx (f2 a D2)) = H5 at fr5 hx5 ha5 hr5 hd5 ⊢
        -- self.changed
        refine ⟨_, rfl, x, CM, dx, _, _, rfl, hx5, T.cl, T.nL, f2_L a D2, a, rfl, ⟨_, .inl (.inl ha5)⟩, fun D3 nD3 => lc_it (walk_tup (K := K) (a := a) (xs := lets (keysOf u))) (fun i H6 => H6 = upd H5 D3 (.lst (lets (((keysOf u).take i).filter fun c => decide (lookT u c ≠ some [c]))))) rfl ?_ ?_ ?_⟩
        · rintro i H6 hi rfl
          exact .inl (.inl (by rw [upd_ne (ne_of_none ha5 nD3)]; exact ha5))
        · rintro i z H6 H6' hi rfl ⟨rfl, hz⟩
          obtain ⟨hik, rfl⟩ := lets_get hz
          obtain ⟨s, es⟩ := Option.isSome_iff_exists.mp (List.mem_filter.mp (List.getElem_mem hik)).2
          refine ⟨rfl, _, rfl, _, rfl, r, V.str (Sx s), rfl, .inl ⟨_, Sum.inr (L1 (keysOf u)[i]), .inl (by rw [upd_ne (ne_of_none hr5 nD3)]; exact hr5), rfl, by rw [valV_enc, es]; rfl⟩, _, rfl, rfl, _, rfl, ?_⟩
          have hs := chg_succ (u := u) hik
          by_cases e : s = [(keysOf u)[i]]
          · have e1 : lookT u (keysOf u)[i] = some [(keysOf u)[i]] := by rw [es, e]
            rw [if_neg (by simp [e1]), List.append_nil] at hs
            rw [decide_eq_true (show V.str (Sx s) = V.str (L1 (keysOf u)[i]) by rw [e]; rfl)]
            refine iteF ?_
            rw [hs]
          · have e1 : ¬ lookT u (keysOf u)[i] = some [(keysOf u)[i]] := by
              rw [es]
              exact fun z => e (Option.some.inj z)
            rw [if_pos (by simpa using e1)] at hs
            rw [decide_eq_false (show ¬ V.str (Sx s) = V.str (L1 (keysOf u)[i]) from fun z => e (Sx_inj (V.str.inj z)))]
            refine iteT ?_
            refine ⟨_, rfl, _, upd_same, ?_, ?_⟩
            · rw [lets_len]
              have h1 := List.length_filter_le (fun c => decide (lookT u c ≠ some [c])) ((keysOf u).take i)
              have h2 := keysOf_len u
              have h3 : ((keysOf u).take i).length ≤ (keysOf u).length := by rw [List.length_take]; omega
              exact small1000 (by omega)
            · rw [upd_upd, hs, lets_snoc]
        · rintro H6 rfl
          rw [lets_len, List.take_length]
          refine ⟨D3, _, rfl, .inl ⟨SqL.of upd_same, fun c nc => ?_⟩⟩
          have hxD3 : x ≠ D3 := ne_of_none hx5 nD3
          have up : ∀ b o, H5 b = some o → upd (upd H5 D3 (.lst (lets (chg u)))) c (.tup (lets (chg u))) b = some o := fun b o e => by
            have hb := ne_of_none e nD3
            rw [upd_ne (ne_of_none (H := upd H5 D3 (.lst (lets (chg u)))) (o := o) (by rw [upd_ne hb]; exact e) nc), upd_ne hb]
            exact e
          have hxc : x ≠ c := ne_of_none (H := upd H5 D3 (.lst (lets (chg u)))) (o := .ins CM dx (f2 a D2)) (by rw [upd_ne hxD3]; exact hx5) nc
          refine ⟨_, rfl, x, CM, dx, f2 a D2, rfl, up _ _ hx5, T.cl, T.nC, f2_len a D2, ?_⟩
          have ncH : H c = none := by
            have nc' : upd H5 D3 (.lst (lets (chg u))) c = none := nc
            cases e : H c with
            | none => rfl
            | some o =>
              have e3 := fr5 _ _ e (Ne.symm hxc)
              have e2 : upd H5 D3 (.lst (lets (chg u))) c = some o := by
                rw [upd_ne (ne_of_none e3 nD3)]
                exact e3
              rw [e2] at nc'
              cases nc'
          have hD2x : D2 ≠ x := ne_of hd5 hx5 (fun z => nomatch z)
          refine q _ ⟨dx, a, D2, c, upd_same, ?_, ?_, ?_, naH, nbH, ncH⟩ fun b o e hb => ?_
          · rw [upd_ne hax]
            exact up _ _ ha5
          · rw [upd_ne hD2x]
            exact up _ _ hd5
          · rw [upd_ne (Ne.symm hxc)]
            exact upd_same
          · rw [upd_ne hb]
            exact up _ _ (fr5 b o e hb)
end
end V8

set_option Elab.async false
set_option linter.all false
set_option maxRecDepth 100000
set_option maxHeartbeats 8000000
/-! first_barred, image. -/
namespace V8
open PySem PySem.Spec PyProof.Rows L2
section
variable {P : Program} {w : World} {K : PySem.W.Frag} {mg : Str → Option Value} {base : Heap} {CM CJ : Addr}
theorem ok_first_barred {f : Addr} {fd : FuncData} (F : Fun K "first_barred" "Misreading.first_barred" s_Misreading_first_barred f fd) (T : Tz K mg CM CJ) : FnOk P w K mg base CX0 1 f fd ["self", "text"] (spFB CM) := by
  refine F.ok sc_Misreading_first_barred (fun vs H Q E h => ?_) (fun cdv A outer s H vs Q E hr h => ?_)
  · obtain ⟨x, u, cs, rfl, _⟩ := h
    rfl
  · obtain ⟨x, u, cs, rfl, ⟨dx, a, b, c', hx, ha, hb, hc⟩, h4, q1, q2⟩ := h
    refine ⟨_, (pss_cons (ps_for PassesOwn.never rfl (pi_enumS (by rfl) T.enumerate (pa_cons (pv 1) pa_nil)) (pg_tup (by rfl) (pgs_cons (pg_name (i := 2) sc_Misreading_first_barred.nd rfl (.inl rfl)) (pgs_cons (pg_name (i := 3) sc_Misreading_first_barred.nd rfl (.inl rfl)) pgs_nil)))
        (pss_one (ps_if (pt_cmp (pc_dnotin (hu_of hr) (pv 3) (pe_fldK (K := K) rfl (pv 0) rfl)))
          (pss_one (ps_ret (pv 2)))
          pss_nil)))
      (pss_one (ps_ret pe_non))), ?_⟩
    refine ⟨_, rfl, Sx cs, rfl, for_it walk_enumS (fun i σ H2 => (∃ v2 v3 : Option V, σ = [some (.ref x), some (.str (Sx cs)), v2, v3]) ∧ Same H H2 ∧ ∀ c ∈ cs.take i, c ∈ keysOf u) ⟨⟨none, none, rfl⟩, Same.refl H, fun c h => by simp at h⟩ (fun _ _ _ _ _ => trivial) ?_ ?_⟩
    · rintro i z σ H2 H2' hi ⟨⟨v2, v3, rfl⟩, s2, hk⟩ ⟨tq, c, rfl, ntq, rfl, hc0⟩
      have hc1 := sx_at hc0
      obtain ⟨hi', ec⟩ := List.getElem?_eq_some_iff.mp hc1
      refine ⟨tq, _, rfl, .inl (.inl upd_same), rfl, _, _, rfl, _, _, rfl, rfl, ?_⟩
      have s3 := same_put (s := s2) (o := .tup [.int (i : Nat), .str ⟨#[c]⟩]) ntq
      refine ⟨_, rfl, _, rfl, x, CM, dx, _, _, rfl, s3 _ _ hx, T.cl, T.nI, f3_I a b c', b, _, rfl, DGet.k (k := Sum.inr (L1 c)) (s3 _ _ hb), _, rfl, ?_⟩
      rw [valV_enc, Option.isSome_map, look_ims]
      by_cases m : c ∈ keysOf u
      · rw [if_pos m]
        refine iteF ⟨⟨_, _, rfl⟩, s3, fun d hd => ?_⟩
        rw [List.take_add_one, hc1] at hd
        rcases List.mem_append.mp hd with h | h
        · exact hk d h
        · rw [List.mem_singleton.mp h]
          exact m
      · rw [if_neg m]
        refine iteT ⟨_, rfl, q2 i _ hi' ?_ s3⟩
        exact imF_none.mpr ⟨c, ec ▸ List.getElem_mem hi', lk_not m⟩
    · rintro σ H2 ⟨⟨v2, v3, rfl⟩, s2, hk⟩
      rw [sx_size, List.take_length] at hk
      exact q1 _ H2 (imF_look hk) s2
theorem ok_image {f : Addr} {fd : FuncData} (F : Fun K "image" "Misreading.image" s_Misreading_image f fd) (T : Tz K mg CM CJ) : FnOk P w K mg base CX0 1 f fd ["self", "text"] (spImg CM) := by
  refine F.ok sc_Misreading_image (fun vs H Q E h => ?_) (fun cdv A outer s H vs Q E hr h => ?_)
  · obtain ⟨x, u, cs, r, rfl, _⟩ := h
    rfl
  · obtain ⟨x, u, cs, r, rfl, ⟨dx, a, b, c', hx, ha, hb, hc⟩, sm, er, h2, q⟩ := h
    refine ⟨_, (pss_one (ps_ret (pe_joinK (K := K) rfl pe_str (pe_lc (own := [("letter", 2)]) (g := gName 2) (by rfl) sc_Misreading_image.nd (pi_str (pv 1)) (blkOk_by (own := [("letter", 2)]) (N := n_Misreading_image) (sc := defScope s_Misreading_image) (by decide +kernel)) (fun _ _ _ _ _ => (pg_name (i := 2) sc_Misreading_image.nd rfl (.inl rfl))) (fun _ _ _ _ _ => pts_nil) (fun _ _ _ _ _ => (pe_dget (hu_of hr) (pe_fldK (K := K) rfl (pv 0) rfl) (pv 2) (fun _ _ => rfl))))))), ?_⟩
    have hin := imF_keys er
    have e0 := imF_look hin
    rw [e0] at er
    have e1 := Option.some.inj er
    obtain ⟨ss, ess⟩ : ∃ ss, ss = cs.map fun c => (lookT u c).getD [] := ⟨_, rfl⟩
    rw [← ess] at e1
    have hz : ∀ (i : Nat) (hi : i < cs.length), ((ss.map Sx).map V.str)[i]? = some (V.str (Sx ((lookT u cs[i]).getD []))) := fun i hi => by
      rw [ess, List.getElem?_map, List.getElem?_map, List.getElem?_map, List.getElem?_eq_getElem hi]
      rfl
    have hl : ((ss.map Sx).map V.str).length = cs.length := by
      rw [ess, List.length_map, List.length_map, List.length_map]
    refine ⟨⟨_, rfl⟩, _, rfl, Sx cs, rfl, fun D nD => lc_it walk_str (fun i H2 => H2 = upd H D (.lst (((ss.map Sx).map V.str).take i))) rfl (fun _ _ _ _ => trivial) ?_ ?_⟩
    · rintro i z H2 H2' hi rfl ⟨rfl, c, hc0, rfl⟩
      have hc1 := sx_at hc0
      obtain ⟨hi', ec⟩ := List.getElem?_eq_some_iff.mp hc1
      have hm : c ∈ keysOf u := hin c (ec ▸ List.getElem_mem hi')
      obtain ⟨s2, e2⟩ := Option.isSome_iff_exists.mp (keysOf_mem.mp hm).2
      have s1 : Same H (upd H D (.lst (((ss.map Sx).map V.str).take i))) := same_put (s := fun _ _ e => e) nD
      have hz2 := hz i hi'
      rw [ec, e2] at hz2
      refine ⟨rfl, _, rfl, x, CM, dx, _, _, rfl, s1 _ _ hx, T.cl, T.nI, f3_I a b c', _, rfl, b, V.str (Sx s2), rfl, .inl ⟨_, Sum.inr (L1 c), .inl (s1 _ _ hb), rfl, by rw [valV_enc, look_ims_some hm, e2]; rfl⟩, ?_⟩
      refine ⟨_, upd_same, ?_, ?_⟩
      · rw [List.length_take, sizeLine_eq]
        omega
      · rw [upd_upd, List.take_add_one, hz2]
        rfl
    · rintro H2 rfl
      rw [sx_size, List.take_of_length_le (by rw [hl]; exact Nat.le_refl _)]
      refine ⟨Str.empty, D, ss.map Sx, rfl, rfl, .inl (SqL.of upd_same), ?_, ?_⟩
      · have h1 : ((ss.map Sx).map fun x => x.length).sum ≤ _ := sum_le (fun x => x.length) 64 _ fun y hy => by
          obtain ⟨s3, hs3, rfl⟩ := List.mem_map.mp hy
          rw [ess] at hs3
          obtain ⟨c, hc, rfl⟩ := List.mem_map.mp hs3
          obtain ⟨s2, e2⟩ := Option.isSome_iff_exists.mp (keysOf_mem.mp (hin c hc)).2
          rw [Sx_len, e2]
          exact sm c _ (by rw [← lk_look (hin c hc)]; exact e2)
        have h3 : (ss.map Sx).length = cs.length := by
          rw [ess, List.length_map, List.length_map]
        rw [h3] at h1 ⊢
        show _ + _ * 0 ≤ _
        have h4 : 64 * cs.length ≤ 64 * 2000 := Nat.mul_le_mul_left _ h2
        omega
      · rw [join_Sx, e1]
        exact q _ (same_put (s := fun _ _ e => e) nD)
end
end V8

set_option Elab.async false
set_option linter.all false
set_option maxRecDepth 100000
set_option maxHeartbeats 8000000
/-! Joined and Misreadings of it made. -/
namespace V8
open PySem PySem.Spec PyProof.Rows L2
structure MkrJ (P : Program) (w : World) (K : PySem.W.Frag) (mg : Str → Option Value) (base : Heap) (CJ : Addr) : Prop where
  ex : ∃ (f : Addr) (fd : FuncData), Mk K CJ f ∧ FnOk P w K mg base CX0 1 f fd ["self", "images"] (spJ CJ) ∧ mg "Joined" = some (.ref CJ) ∧ Binds K fd ["self", "images"] []
structure MkrM (P : Program) (w : World) (K : PySem.W.Frag) (mg : Str → Option Value) (base : Heap) (CM CJ : Addr) : Prop where
  ex : ∃ (f : Addr) (fd : FuncData), Mk K CM f ∧ FnOk P w K mg base CX0 5 f fd pI (spInitJ CM CJ) ∧ mg "Misreading" = some (.ref CM) ∧ ∃ ds, Vals [.str (Sx [])] ds ∧ Binds K fd pI ds
def tMkJ (CJ : Addr) (t : TA) : TE := fun σ H Q => t σ H fun vs H1 => ∃ d, vs = [.ref d] ∧ ∀ j dj H', H1 j = none → H' j = some (.ins CJ dj (fJ d)) → Same H1 H' → Q (.ref j) H'
def tMkMJ (CM CJ : Addr) (t : TA) : TE := fun σ H Q => t σ H fun vs H1 => ∃ j dj d tb, vs = [.ref j] ∧ H1 j = some (.ins CJ dj (fJ d)) ∧ H1 d = some (.dK (encT tb)) ∧ tb.length ≤ 12 ∧ ∀ x H', H1 x = none → MisAt CM H' x tb → Same H1 H' → Q (.ref x) H'
section
variable {X : Cx} {j : Nat} {CM CJ : Addr} {p pos : Pos} {e : Expr} {es : List Expr} {t : TA}
theorem pe_mkJ (M : MkrJ X.prog X.w X.K X.mg X.base CJ) (hr : Room j X.A) (hj : 2 ≤ j) (hg : Gl X "Joined") (ha : PA X (e :: es) t) (he : starEach (e :: es) X.env = (false, eval e X.env) :: starEach es X.env := by rfl) (hpl : (backTo pos (starEach es X.env)).any (·.1) = false := by rfl) :
    PE X (.Call (.Name "Joined" p) (e :: es) [] pos) (tMkJ CJ t) := by
  obtain ⟨f, fd, M, F, hm, b0⟩ := M.ex
  refine ⟨fun pins s σ H Q I h => ?_⟩
  refine wpAny_Call_Name_kw (ld_glob I hg hm ?_ (by decide))
  refine PySem.W.callWith_K (h₀ := X.base) I.ok.mod.kin M.kp (thn (ha.run pos pins s σ H _ I h) fun us s1 ⟨vs, H1, I1, r, q⟩ => ⟨I1.kIn, ?_⟩) he hpl
  obtain ⟨d, rfl, q⟩ := q
  refine run_make (dvs := []) (ds := []) M F (hr.mono hj) b0 .nil pass0 I1 r fun x dx hx hdx ne => ?_
  rw [List.append_nil]
  refine ⟨x, dx, d, rfl, upd_same, rfl, q x dx _ hx upd_same fun b o eo => ?_⟩
  have b1 := ne_of_none eo hx
  rw [upd_ne b1, upd_ne b1, upd_ne (ne_of_none eo hdx)]
  exact eo
theorem pe_mkMJ (M : MkrM X.prog X.w X.K X.mg X.base CM CJ) (hr : Room j X.A) (hj : 6 ≤ j) (hg : Gl X "Misreading") (ha : PA X (e :: es) t) (he : starEach (e :: es) X.env = (false, eval e X.env) :: starEach es X.env := by rfl) (hpl : (backTo pos (starEach es X.env)).any (·.1) = false := by rfl) :
    PE X (.Call (.Name "Misreading" p) (e :: es) [] pos) (tMkMJ CM CJ t) := by
  obtain ⟨f, fd, M, F, hm, ds, hd, b1⟩ := M.ex
  refine ⟨fun pins s σ H Q I h => ?_⟩
  refine wpAny_Call_Name_kw (ld_glob I hg hm ?_ (by decide))
  refine PySem.W.callWith_K (h₀ := X.base) I.ok.mod.kin M.kp (thn (ha.run pos pins s σ H _ I h) fun us s1 ⟨vs, H1, I1, r, q⟩ => ⟨I1.kIn, ?_⟩) he hpl
  obtain ⟨j, dj, d, tb, rfl, hj1, hd1, l12, q⟩ := q
  refine run_make M F (hr.mono hj) b1 hd pass0 I1 r fun x dx hx hdx ne => ?_
  have up : ∀ b o, H1 b = some o → upd (upd H1 dx (.own x)) x (.ins CM dx []) b = some o := fun b o eo => by
    rw [upd_ne (ne_of_none eo hx), upd_ne (ne_of_none eo hdx)]
    exact eo
  refine ⟨x, dx, j, dj, d, tb, rfl, upd_same, up _ _ hj1, up _ _ hd1, l12, fun H' m fr => ⟨rfl, q x H' hx m.mis fun b o eo => fr b o (up _ _ eo) (ne_of_none eo hx)⟩⟩
end
/-- what K holds of the def, as the rule above wants it -/
theorem mkrM_of {P : Program} {w : World} {K : PySem.W.Frag} {mg : Str → Option Value} {base : Heap} {CM CJ f : Addr} {fd : FuncData} (F : FunD K "__init__" "Misreading.__init__" (defArgs s_Misreading_init) (defBody s_Misreading_init) (defScope s_Misreading_init) [.str (Sx [])] [] f fd) (T : Tz K mg CM CJ)
    (D_told_images : Df P w K mg base 4 "told_images" spTold) (M : Mk K CM f) (hm : mg "Misreading" = some (.ref CM)) : MkrM P w K mg base CM CJ := by
  refine ⟨f, fd, M, ok_initJ F T D_told_images, hm, ?_⟩
  obtain ⟨ds, h1, h2⟩ := F.binds1 (ps := pI) 2 0 (fun z => nomatch z) rfl (fun T kV doc pm an cdv ct us its h1 h2 => match us, its, h1, h2 with | [_, _], [_], _, _ => ⟨_, rfl, rfl⟩)
  exact ⟨ds, h1, h2⟩
end V8

set_option Elab.async false
set_option linter.all false
set_option maxRecDepth 100000
set_option maxHeartbeats 8000000
/-! one >> other. -/
namespace V8
open PySem PySem.Spec PyProof.Rows L2
abbrev s_Misreading_rshift : Stmt := inClass (topS 32) 9
abbrev n_Misreading_rshift : List Str := ["self", "other", "images", "letter", "middle"]
theorem sc_Misreading_rshift : FnScope ["self", "other", "images", "letter", "middle"] ["self", "other"] (defScope s_Misreading_rshift) := ⟨rfl, rfl, rfl, by decide +kernel, rfl, by decide +kernel, by decide +kernel⟩
theorem f3_no {a b c : Addr} {m : Str} (h1 : ¬ m = "_letters") (h2 : ¬ m = "_images") (h3 : ¬ m = "changed") : (f3 a b c).lookup m = none := by
  unfold f3 f2 f1
  rw [lookup_putF, if_neg h3, lookup_putF, if_neg h2, lookup_putF, if_neg h1]
  rfl
theorem keys_le {u : Tab} {cs : List Nat} (o : Ovr cs (lk u)) : (keysOf u).length ≤ cs.length := nd_len (keysOf_nd u) fun c hc => by
  obtain ⟨s, e⟩ := Option.isSome_iff_exists.mp (lk_mem.mp hc)
  exact o.key c s e
/-- a Misreading made anew of f -/
def Makes (CM : Addr) (H : Hp) (f : Fu) (Q : VK) : Prop := ∀ z H' t, H z = none → MisAt CM H' z t → lk t = f → Same H H' → Q (.ref z) H'
def spRsh (CM : Addr) : Sp := fun vs H Q _ => ∃ (x y : Addr) (u v : Tab) (cs : List Nat), vs = [.ref x, .ref y] ∧ MisAt CM H x u ∧ MisAt CM H y v ∧ Bnd 64 (lk u) ∧ Bnd 64 (lk v) ∧ Bnd 64 (cF (lk u) (lk v)) ∧ Ovr cs (lk u) ∧ cs.length ≤ 12 ∧ Makes CM H (cF (lk u) (lk v)) Q
section
variable {P : Program} {w : World} {K : PySem.W.Frag} {mg : Str → Option Value} {base : Heap} {CM CJ : Addr}
theorem ok_rshift {f : Addr} {fd : FuncData} (F : Fun K "__rshift__" "Misreading.__rshift__" s_Misreading_rshift f fd) (T : Tz K mg CM CJ) (D_check_other : Df P w K mg base 1 "check_other" (spChkO CM)) (D_first_barred : Mf P w K mg base 1 CM "first_barred" (spFB CM)) (D_image : Mf P w K mg base 1 CM "image" (spImg CM))
    (D_mkJ : MkrJ P w K mg base CJ) (D_mkMJ : MkrM P w K mg base CM CJ) : FnOk P w K mg base CX0 7 f fd ["self", "other"] (spRsh CM) := by
  refine F.ok sc_Misreading_rshift (fun vs H Q E h => ?_) (fun cdv A outer s H vs Q E hr h => ?_)
  · obtain ⟨x, y, u, v, cs, rfl, _⟩ := h
    rfl
  · obtain ⟨x, y, u, v, cs, rfl, mx, my, bu, bv, bc, ov, h12, q⟩ := h
    refine ⟨_, (pss_cons (ps_expr (pe_c D_check_other hr (by decide) (by rfl) (pa_cons (pv 1) pa_nil)))
      (pss_cons (ps_set (i := 2) sc_Misreading_rshift.nd rfl (.inl rfl) pe_dnewK)
      (pss_cons (ps_for PassesOwn.never rfl (pi_tup (pe_fldK (K := K) rfl (pv 0) rfl)) (pg_name (i := 3) sc_Misreading_rshift.nd rfl (.inl rfl))
        (pss_cons (ps_set (i := 4) sc_Misreading_rshift.nd rfl (.inl rfl) (pe_dget (hu_of hr) (pe_fldK (K := K) rfl (pv 0) rfl) (pv 3) (fun _ _ => rfl)))
        (pss_one (ps_if (pt_cmpR op_isN (pe_mt T.cl D_first_barred hr (by decide) (pv 1) (pa_cons (pv 4) pa_nil)) pe_non (nomark _))
          (pss_cons (ps_dput (hu_of hr) (pv 2) (pv 3) (pe_mt T.cl D_image hr (by decide) (pv 1) (pa_cons (pv 4) pa_nil)) rfl)
          (pss_one (ps_if (pt_cmpR op_gt (pe_callB call_len_str (by rfl) T.len (by decide +kernel) (pa_cons (pe_dget (hu_of hr) (pv 2) (pv 3) (fun _ _ => rfl)) pa_nil)) (pe_gv T.gLONGEST_JOINED (by rfl)) (nomark _))
            (pss_one ps_never)
            pss_nil)))
          pss_nil))))
      (pss_one (ps_ret (pe_mkMJ D_mkMJ hr (by decide) (by rfl) (pa_cons (pe_mkJ D_mkJ hr (by decide) (by rfl) (pa_cons (pv 2) pa_nil)) pa_nil))))))), ?_⟩
    have kl := keys_le ov
    obtain ⟨dx, a, b, c', hx, ha, hb, hc⟩ := id mx.at_
    refine ⟨_, rfl, y, v, rfl, my, fun D nD => ?_⟩
    have s0 := same_put (s := Same.refl H) (o := .dK (encT [])) nD
    refine ⟨_, rfl, x, CM, dx, _, _, rfl, s0 _ _ hx, T.cl, T.nL, f3_L a b c', a, rfl, ⟨_, .inl (.inl (s0 _ _ ha))⟩, for_it (walk_tup (K := K) (a := a) (xs := lets (keysOf u))) (fun i σ H2 => (∃ v3 v4 : Option V, σ = [some (.ref x), some (.ref y), some (.ref D), v3, v4]) ∧ Same H H2 ∧ H2 D = some (.dK (encT (mkT (cF (lk u) (lk v)) ((keysOf u).take i))))) ⟨⟨none, none, rfl⟩, s0, upd_same⟩ ?_ ?_ ?_⟩
    · rintro i σ H2 hi ⟨_, s2, _⟩
      exact .inl (.inl (s2 _ _ ha))
    · rintro i z σ H2 H2' hi ⟨⟨v3, v4, rfl⟩, s2, hD⟩ ⟨rfl, hz⟩
      obtain ⟨hik, rfl⟩ := lets_get hz
      have hm := List.getElem_mem hik
      obtain ⟨s, e2⟩ := Option.isSome_iff_exists.mp (keysOf_mem.mp hm).2
      have e3 : lk u (keysOf u)[i] = some s := by rw [← lk_look hm]; exact e2
      have s64 := bu _ _ e3
      refine ⟨_, rfl, x, CM, dx, _, _, rfl, s2 _ _ hx, T.cl, T.nI, f3_I a b c', _, rfl, b, V.str (Sx s), rfl, .inl ⟨_, Sum.inr (L1 (keysOf u)[i]), .inl (s2 _ _ hb), rfl, by rw [valV_enc, look_ims_some hm, e2]; rfl⟩, ?_⟩
      obtain ⟨dy, a2, b2, c2, hy, ha2, hb2, hc2⟩ := id my.at_
      refine ⟨_, rfl, y, dy, _, rfl, s2 _ _ hy, f3_no (by decide +kernel) (by decide +kernel) (by decide +kernel), _, rfl, y, v, s, rfl, my.same s2, by omega, fun r H3 er s3 => ?_, fun k H3 hk en s3 => ?_⟩
      · -- the image is let
        have hn2 := mkT_snoc (cF (lk u) (lk v)) ((keysOf u).take i) (keysOf u)[i]
        have hcf : cF (lk u) (lk v) (keysOf u)[i] = some r := by
          show (lk u (keysOf u)[i]).bind (imF (lk v)) = some r
          rw [e3]
          exact er
        have r64 := bc _ _ hcf
        rw [hcf] at hn2
        refine ⟨rfl, true, rfl, iteT ?_⟩
        refine ⟨_, rfl, y, dy, _, rfl, s3 _ _ (s2 _ _ hy), f3_no (by decide +kernel) (by decide +kernel) (by decide +kernel), _, rfl, y, v, s, r, rfl, (my.same s2).same s3, bv, er, by omega, fun H4 s4 => ?_⟩
        have hD4 := s4 _ _ (s3 _ _ hD)
        have tl := mkT_len (cF (lk u) (lk v)) ((keysOf u).take i)
        rw [List.length_take] at tl
        refine ⟨_, rfl, _, rfl, D, _, rfl, DPut.k (k := Sum.inr (L1 (keysOf u)[i])) hD4 (by rw [encT_len]; exact small1000 (by omega)), ?_⟩
        have eT : (keysOf u).take (i + 1) = (keysOf u).take i ++ [(keysOf u)[i]] := by
          rw [List.take_add_one, List.getElem?_eq_getElem hik]
          rfl
        have nk : (keysOf u)[i] ∉ (mkT (cF (lk u) (lk v)) ((keysOf u).take i)).map (·.1) := fun z => by
          have h1 := mkT_keys _ _ _ z
          have nd := keysOf_nd u
          rw [← List.take_append_drop (i + 1) (keysOf u), eT] at nd
          exact (List.nodup_append.mp (List.nodup_append.mp nd).1).2.2 _ h1 _ (by simp) rfl
        have ep : putK (encT (mkT (cF (lk u) (lk v)) ((keysOf u).take i))) (Sum.inr (L1 (keysOf u)[i])) (V.str (Sx r)) = encT (mkT (cF (lk u) (lk v)) ((keysOf u).take (i + 1))) := by
          rw [putK_enc, putT_new nk, eT, hn2]
        rw [ep]
        have s5 : Same H (upd H4 D (.dK (encT (mkT (cF (lk u) (lk v)) ((keysOf u).take (i + 1)))))) := same_over (s := fun b o e => s4 _ _ (s3 _ _ (s2 _ _ e))) nD
        have hD5 : upd H4 D (.dK (encT (mkT (cF (lk u) (lk v)) ((keysOf u).take (i + 1))))) D = some (.dK (encT (mkT (cF (lk u) (lk v)) ((keysOf u).take (i + 1))))) := upd_same
        have lkn : lookT (mkT (cF (lk u) (lk v)) ((keysOf u).take (i + 1))) (keysOf u)[i] = some r := by
          rw [eT, hn2, look_app nk, if_pos rfl]
        refine ⟨_, rfl, _, rfl, D, V.str (Sx r), rfl, .inl ⟨_, Sum.inr (L1 (keysOf u)[i]), .inl hD5, rfl, by rw [valV_enc, lkn]; rfl⟩, _, rfl, by rw [Sx_len, sizeLine_eq]; omega, _, _, rfl, rfl, _, rfl, ?_⟩
        rw [Sx_len, decide_eq_false (by show ¬ ((64 : Int) < (r.length : Int)); omega)]
        exact iteF ⟨⟨_, _, rfl⟩, s5, hD5⟩
      · -- it is barred
        refine ⟨rfl, false, rfl, iteF ⟨⟨_, _, rfl⟩, fun b o e => s3 _ _ (s2 _ _ e), ?_⟩⟩
        have hcf : cF (lk u) (lk v) (keysOf u)[i] = none := by
          show (lk u (keysOf u)[i]).bind (imF (lk v)) = none
          rw [e3]
          exact en
        rw [List.take_add_one, List.getElem?_eq_getElem hik]
        show H3 D = some (.dK (encT (mkT _ ((keysOf u).take i ++ [(keysOf u)[i]]))))
        rw [mkT_snoc, hcf]
        show H3 D = some (.dK (encT (mkT _ ((keysOf u).take i) ++ [])))
        rw [List.append_nil]
        exact s3 _ _ hD
    · rintro σ H2 ⟨⟨v3, v4, rfl⟩, s2, hD⟩
      rw [lets_len, List.take_length] at hD
      have tl := mkT_len (cF (lk u) (lk v)) (keysOf u)
      refine ⟨_, rfl, D, rfl, fun j dj H3 nj hj s3 => ?_⟩
      refine ⟨j, dj, D, _, rfl, hj, s3 _ _ hD, by omega, fun z H4 nz mz s4 => ?_⟩
      refine q z H4 _ (same_none (s := fun b o e => s3 _ _ (s2 _ _ e)) nz) mz (mkT_lk (keysOf_nd u) fun c s h => ?_) fun b o e => s4 _ _ (s3 _ _ (s2 _ _ e))
      have hm : c ∈ keysOf u := lk_mem.mpr (by
        have h' : (lk u c).bind (imF (lk v)) = some s := h
        cases e : lk u c with
        | none =>
          rw [e] at h'
          cases h'
        | some z => rfl)
      exact ⟨hm, keys_abc hm⟩
end
end V8

set_option Elab.async false
set_option linter.all false
set_option maxRecDepth 100000
set_option maxHeartbeats 4000000
/-! try: .. except E as n: k = n, where k is read later: the caught exception becomes a thing of the abstract heap. -/
namespace L2
open PySem PySem.Spec PyProof.Rows
/-- an exception that was caught and is kept: its class, its dict -/
def CaughtO (cls : Value) (d : Option Addr) (a : Addr) : HO := .ext fun h => ∃ (oe : Obj) (vs : Array Value), h.get? a = some oe ∧ Zc cls d oe ∧ oe.data = .fields vs
/-- a caught exception stands on the ground of X, and nothing of X has known it before -/
structure Down (X : Cx) (pins : List (Addr × Obj)) (σ : St) (H : Hp) (cls : Value) (d : Option Addr) (a : Addr) (B : Heap) (s : Shared) : Prop where
  inv : Inv X pins σ H s
  fly : HandSPX.FlyingZ B X.stack a (Zc cls d) s.heap
  unk : H a = none
  notL : a ≠ X.env.locals
  notF : a ∉ X.fs
  notS : ∀ o, X.s_0.heap.get? a = some o → a ∉ X.ex → False
  notP : ∀ p ∈ X.pn ++ pins, p.1 ≠ a
  gnd : ∃ s0 : Shared, Inv X pins σ H s0 ∧ (∀ c o, s0.heap.get? c = some o → c ∉ frs X.stack → B.get? c = some o) ∧ s0.heap.UpToSlots s.heap ∧ s.os = s0.os ∧ AllBare s.gens
section
variable {X : Cx} {pins : List (Addr × Obj)} {σ : St} {H : Hp} {cls : Value} {d : Option Addr} {a : Addr} {B : Heap} {s : Shared}
theorem Down.obj (W : Down X pins σ H cls d a B s) : ∃ (oe : Obj) (vs : Array Value), s.heap.get? a = some oe ∧ Zc cls d oe ∧ oe.data = .fields vs := W.fly.there
/-- from now on it is tracked -/
theorem Down.tracked (W : Down X pins σ H cls d a B s) : Inv X pins σ (upd H a (CaughtO cls d a)) s := by
  obtain ⟨oe, vs, q1, q2, q3⟩ := W.obj
  obtain ⟨i1, i2, i3, i4, i5, i6, i7, i8, i9, i10, i11⟩ := W.inv
  have off : ∀ c, c ≠ a → upd H a (CaughtO cls d a) c = H c := fun c h => upd_ne h
  have off' : ∀ c u, H c = some u → upd H a (CaughtO cls d a) c = some u := fun c u h => (off c (ne_of_none h W.unk)).trans h
  have tell : ObjOk X.prog X.w (upd H a (CaughtO cls d a)) s.heap a (CaughtO cls d a) := by
    refine ⟨⟨oe, vs, q1, q2, q3⟩, ⟨oe, q1⟩, fun g g' hg keep => ?_⟩
    obtain ⟨o, v, r1, r2⟩ := hg
    exact ⟨o, v, keep o r1, r2⟩
  refine ⟨i1, i2, i3, ⟨i4.keep, i4.slot, fun c o e n x => ?_, i4.there, fun c xs e => off' c _ (i4.tups c xs e), fun c o u e => off' c _ (i4.frzs c o u e), fun c ps e => ?_⟩, i5, i6, (off _ (Ne.symm W.notL)).trans i7, fun y c e => ?_, fun p hp => ?_, i10.laidN (fun _ _ z => z) W.unk tell, i11⟩
  · by_cases hc : c = a
    · rw [hc] at e x
      exact (W.notS o e x).elim
    · exact (off c hc).trans (i4.free c o e n x)
  · obtain ⟨more, z⟩ := i4.tbls c ps e
    exact ⟨more, off' c _ z⟩
  · have hc : c ≠ a := fun z => by
      obtain ⟨v, o, r1, r2⟩ := i6 y c e
      rw [z, q1] at r1
      rw [← Option.some.inj r1, q3] at r2
      cases r2
    exact (off c hc).trans (i8 y c e)
  · obtain ⟨p1, p2, p3⟩ := i9 p hp
    exact ⟨p1, (off _ (W.notP p hp)).trans p2, p3⟩
/-- an exception that X lets through lands -/
theorem down_of {M : Model} {x' : Value → Shared → Prop} {pn : List (Addr × Obj)} {W : WX} {u : Value} {E : Value → Shared → Prop} {Q : Shared → Prop} (ok : X.Ok) (hst : X.stack = X.env :: X.outer) (hfl : X.env.frame = some X.env.locals) (xx : XE (X.tr (X.pn ++ pn) x') W u s)
    (hQ : ∀ (a : Addr) (B : Heap) (cls : Value) (d : Option Addr) (σ : St) (H : Hp) (s' : Shared), u = .ref a → W cls d σ H → Down X pn σ H cls d a B s' → Q s') : wpAny M X.A (noteFrame u X.env) (fun _ s1 => wpAny M X.A (setFlight u none) (fun _ s2 => Q s2) E s1) E s := by
  obtain ⟨a, B, sI, more, σ1, H1, cls, d, rfl, IT, gr, ups, sky, none1, eos, bar, wish⟩ := xx
  have I1 : Inv X pn σ1 H1 sI := Inv.ofTry IT ok
  have frameEq : X.A.frames = some (X.env :: X.outer) := ok.frames.trans (by rw [hst])
  have sky1 : Sky B (X.env :: X.outer) a (Zc cls d) X.env.locals s.heap := hst ▸ sky
  refine Sky.land (Q := fun _ => Q) Zc.steady frameEq hfl sky1 fun hL fly up2 => ?_
  obtain ⟨oe, vs, r1, _, r3⟩ := HandSPX.FlyingZ.there fly
  have out : a ∉ frs X.stack := fun hm => by
    rw [hst] at hm
    obtain ⟨_, o, eo, no⟩ := fly.2.2.1.mem hm
    rw [r1] at eo
    exact no vs (by rw [← Option.some.inj eo]; exact r3)
  have never : ∀ o, sI.heap.get? a = some o → False := fun o e => by
    have q := gr a o e out
    rw [fly.2.1] at q
    cases q
  refine hQ a B cls d σ1 H1 { s with heap := hL } rfl wish ⟨I1.landed gr fly.1 (ups.trans up2) eos bar, by rw [hst]; exact fly, none1, fun z => ?_, fun z => ?_, fun o e x => ?_, fun p hp z => ?_, sI, I1, gr, ups.trans up2, eos, bar⟩
  · exact out (by rw [hst]; exact List.mem_filterMap.mpr ⟨X.env, List.mem_cons_self, by rw [hfl, z]⟩)
  · obtain ⟨e, he, q⟩ := List.mem_filterMap.mp z
    exact out (by rw [hst]; exact List.mem_filterMap.mpr ⟨e, List.mem_cons_of_mem _ he, q⟩)
  · obtain ⟨o2, q⟩ := I1.base.there a o e x
    exact never o2 q
  · exact never _ (z ▸ (I1.pin p hp).1)
/-- .. and once more, when the suite begins -/
theorem Down.again {M : Model} {A : Around} {Q : Shared → Prop} {E : Value → Shared → Prop} (W : Down X pins σ H cls d a B s) (h : ∀ s', Down X pins σ H cls d a B s' → Q s') : wpAny M A (setFlight (.ref a) none) (fun _ => Q) E s := by
  obtain ⟨s0, J, gr, ups, eos, bar⟩ := W.gnd
  exact HandSPX.lands_againZ (Q := fun _ => Q) W.fly fun hL fly up2 => h { s with heap := hL } ⟨J.landed gr fly.1 (ups.trans up2) eos bar, fly, W.unk, W.notL, W.notF, W.notS, W.notP, s0, J, gr, ups.trans up2, eos, bar⟩
/-- its class is what the clause names -/
theorem Down.meets {A : Around} {E : Value → Shared → Prop} {c : Value} {Q : Bool → Shared → Prop} (W : Down X pins σ H cls d a B s) (hm : PySem.W.exmOne X.K cls c = some true) (h : Q true s) : wpAny (model X.prog X.w) A (excMatches (.ref a) c) Q E s := by
  obtain ⟨oe, vs, q1, q2, _⟩ := W.obj
  refine (PySem.W.exm_one (M := model X.prog X.w) W.inv.kIn (cls := cls) ?_ hm).here h
  intro A1 Q1 E1 s1 keep q
  exact wpAny_typeOf_ref (keep _ _ q1) (q2.1 ▸ q)
/-- the suite's context, the exception tracked -/
theorem Down.suite (W : Down X pins σ H cls d a B s) (ok : X.Ok) : Inv (X.suite a (X.pn ++ pins)) [] σ (upd H a (CaughtO cls d a)) s := by
  have I := W.tracked
  exact ⟨ok.suite _ _, I.os, I.bare, I.base, I.loc, I.cell, I.free, I.freeC, fun p hp => I.pin p (List.append_nil (X.pn ++ pins) ▸ hp), I.hok, I.len⟩
theorem unsuite_inv {σ' : St} {H' : Hp} {s' : Shared} (ok : X.Ok) (I : Inv (X.suite a (X.pn ++ pins)) [] σ' H' s') : Inv X pins σ' H' s' :=
  ⟨ok, I.os, I.bare, I.base, I.loc, I.cell, I.free, I.freeC, fun p hp => I.pin p ((List.append_nil (X.pn ++ pins)).symm ▸ hp), I.hok, I.len⟩
end
/-- what the clause wishes of an exception of the body, which is one of c: slot i is n's -/
def wKeep (K : PySem.W.Frag) (k : Nat) (c : Value) (i : Nat) (ts : Addr → TS) (D : Ends) : WX := fun cls d σ H =>
  PySem.W.exmOne K cls c = some true ∧ (σ.length = k → ∀ a, H a = none → ts a { nx := fun σ' H' => D.nx (σ'.set i none) H', rt := D.rt, bk := fun _ _ => False, ct := fun _ _ => False } (σ.set i (some (.ref a))) (upd H a (CaughtO cls d a)))
section
variable {X : Cx} {x n : Str} {c : Value} {i : Nat} {body suite : List Stmt} {b₀ : Stmt} {np pos pos' : Pos} {tb : WX → TS} {ts : Addr → TS}
theorem ps_try_keep (hst : X.stack = X.env :: X.outer) (hfl : X.env.frame = some X.env.locals) (nd : X.N.Nodup) (hi : X.N[i]? = some n) (hn : X.env.kindOf n = some .local) (nm : Names X x c)
    (hb : ∀ (W : WX) (pn : List (Addr × Obj)) (xe : Value → Shared → Prop), Takes (X.tr pn xe) W → PassesOwn (model X.prog X.w) X.A X.env xe → PSs (X.tr pn xe) body (tb W)) (hs : ∀ (a : Addr) (pn : List (Addr × Obj)), PSs (X.suite a pn) (b₀ :: suite) (ts a)) :
    PS X (.Try body [.ExceptHandler (some (.Name x np)) (some n) (b₀ :: suite) pos'] [] [] pos) (fun D σ H => tb (wKeep X.K X.N.length c i ts D) D σ H) := by
  constructor
  intro pins s σ H D I0 reading
  have ok := I0.ok
  apply wpAny_Try_except
  -- what a landed exception meets
  have clause : ∀ (a : Addr) (B : Heap) (cls : Value) (d : Option Addr) (σ1 : St) (H1 : Hp) (s1 : Shared), wKeep X.K X.N.length c i ts D cls d σ1 H1 → Down X pins σ1 H1 cls d a B s1 → wpAny (model X.prog X.w) X.A (handleBy (.ref a) X.env [.ExceptHandler (some (.Name x np)) (some n) (b₀ :: suite) pos']) (SP X pins D) X.xe s1 := by
    rintro a B cls d σ1 H1 s1 ⟨hm, go⟩ W
    apply wpAny_handleBy_cons
    · apply codeAny_handlers_test
      have named : ∀ {Q1 : Value → Shared → Prop} {E1 : Value → Shared → Prop}, Q1 c s1 → wpAny (model X.prog X.w) (X.suite a (X.pn ++ pins)).A (eval (.Name x np) X.env) Q1 E1 s1 := fun {Q1 E1} q => by
        have I := W.suite ok
        rcases nm with ⟨g, db, m | ⟨m, v, w⟩⟩
        · exact ld_glob (X := X.suite a (X.pn ++ pins)) I g m q db
        · exact ld_blt (X := X.suite a (X.pn ++ pins)) I g m v q w db
      refine named (W.meets hm ?_)
      apply codeAny_handlers_suite_as
      refine W.again fun s2 W2 => ?_
      refine store_ok (X := X.suite a (X.pn ++ pins)) (v := .ref a) (W2.suite ok) nd hi (.inl hn) rfl (fun s3 I3 => ?_) (.inr hn)
      refine wpAny_mono ((hs a (X.pn ++ pins)).run [] s3 _ _ _ I3 (go W.inv.len a W.unk)) (fun f s4 sp => ?_) fun _ _ z => False.elim z
      -- the clause's name goes
      have away : ∀ {σ5 : St} {H5 : Hp} {Q5 : Shared → Prop}, Inv (X.suite a (X.pn ++ pins)) [] σ5 H5 s4 → (∀ s6, Inv X pins (σ5.set i none) H5 s6 → Q5 s6) → wpAny (model X.prog X.w) X.A (do bindName X.env n .none; unbindBehindTheSuite X.env n pos') (fun _ => Q5) X.xe s4 :=
        fun I5 h5 => gone_ok (unsuite_inv ok I5) nd hi hn h5
      match f, sp with
      | .next, ⟨σ5, H5, I5, q5⟩ => exact away I5 fun s6 I6 => ⟨_, _, I6, q5⟩
      | .ret u, ⟨v, σ5, H5, I5, r5, q5⟩ => exact away I5 fun s6 I6 => ⟨_, _, _, I6, r5, q5⟩
      | .brk, ⟨_, _, _, z⟩ => exact z.elim
      | .cont, ⟨_, _, _, z⟩ => exact z.elim
    · intro z
      cases z
  refine wpAny_mono ((hb (wKeep X.K X.N.length c i ts D) (X.pn ++ pins) _ (fun u s' xx => down_of ok hst hfl xx fun a B cls d σ1 H1 s1 e wish W => e ▸ clause a B cls d σ1 H1 s1 wish W) PassesOwn.looking).run [] s σ H D (I0.toTry _) reading) (fun f s1 sp => ?_) fun _ _ z => z
  match f, sp with
  | .next, ⟨σ1, H1, I1, q1⟩ => exact wpAny_execs_nil ⟨σ1, H1, Inv.ofTry I1 ok, q1⟩
  | .ret u, ⟨v, σ1, H1, I1, r1, q1⟩ => exact ⟨v, σ1, H1, Inv.ofTry I1 ok, r1, q1⟩
  | .brk, ⟨σ1, H1, I1, q1⟩ => exact ⟨σ1, H1, Inv.ofTry I1 ok, q1⟩
  | .cont, ⟨σ1, H1, I1, q1⟩ => exact ⟨σ1, H1, Inv.ofTry I1 ok, q1⟩
end
end L2

set_option Elab.async false
set_option linter.all false
set_option maxRecDepth 100000
set_option maxHeartbeats 4000000
/-! A kept exception: isinstance, its fields. -/
namespace L2
open PySem PySem.Spec PyProof.Rows
/-- at a a kept exception of the own class D, with these fields -/
structure KeptX (K : PySem.W.Frag) (H : Hp) (a D : Addr) (fs : List (Str × V)) : Prop where
  ex : ∃ d, H a = some (CaughtO (.ref D) (some d) a) ∧ H d = some (.xd fs)
  cl : ExcC K D
section
variable {X : Cx} {pins : List (Addr × Obj)} {σ : St} {H : Hp} {s : Shared} {a D : Addr} {fs : List (Str × V)}
theorem kept_inst (I : Inv X pins σ H s) (k : KeptX X.K H a D fs) : ∃ (oe : Obj) (od : Obj), PySem.W.InstAt s.heap a oe D (some od) ∧ ∀ f, ∃ o, PySem.W.lookIn f od = some o ∧ RelO (fs.lookup f) o := by
  obtain ⟨d, h1, h2⟩ := k.ex
  obtain ⟨⟨oe, vs, q1, ⟨q2, q3⟩, q4⟩, _, _⟩ := I.hok a _ h1
  obtain ⟨m, ns, rel⟩ := I.hok d _ h2
  obtain ⟨od, ho, hl⟩ := lookIn_ns ns
  refine ⟨oe, od, ⟨q1, q2, ?_, ?_⟩, fun f => ⟨m f, hl f, rel f⟩⟩
  · unfold PySem.W.notCls
    rw [q4]
  · rw [q3]
    exact ho
/-- isinstance(e, c) -/
def rIsK (K : PySem.W.Frag) : List V → Hp → VK → Prop := fun xs H Q => ∃ (a D : Addr) (fs : List (Str × V)) (c : V) (cv : Value) (b : Bool), xs = [.ref a, c] ∧ KeptX K H a D fs ∧ (∀ u, RelV c u → u = cv) ∧ PySem.W.kitOne K (.ref D) cv = some b ∧ Q (.bl b) H
theorem call_isK : CallR X (.builtin "isinstance") (rIsK X.K) := by
  intro pins s σ H xs us Q I r h
  obtain ⟨a, D, fs, c, cv, b, rfl, k, hc, e, q⟩ := h
  match us, r with
  | [u1, u2], .cons r1 (.cons r2 .nil) =>
    obtain rfl : u1 = Value.ref a := r1
    rw [hc _ r2]
    obtain ⟨oe, od, J, _⟩ := kept_inst I k
    have C := k.cl
    obtain ⟨cd, e1, _⟩ := PySem.W.any_some C.hd
    exact PySem.W.kia_one (PySem.W.kitx_exc (by rw [e1]; rfl) C.hg C.hk C.hs C.ha C.hn C.ht C.hm) I.kIn J e (fun z => nomatch z) fun tk => ⟨.bl b, H, I.tok _, rfl, q⟩
/-- e.f -/
def tKeptF (K : PySem.W.Frag) (f : Str) (te : TE) : TE := fun σ H Q => te σ H fun x H1 => ∃ (a D : Addr) (fs : List (Str × V)) (v : V), x = .ref a ∧ KeptX K H1 a D fs ∧ PySem.W.findIn K (.ref D) f = some none ∧ fs.lookup f = some v ∧ Q v H1
theorem pe_keptF {e : Expr} {f : Str} {te : TE} {pos : Pos} (he : PE X e te) (hb : attributeBase e f X.env (eval e X.env) = eval e X.env := by rfl) : PE X (.Attribute e f pos) (tKeptF X.K f te) := by
  refine ⟨fun pins s σ H Q I h => attr_of hb (thn (he.run pins s σ H _ I h) fun u s1 hh => ?_)⟩
  obtain ⟨x, H1, I1, rx, a, D, fs, v, rfl, k, no, hl, q⟩ := hh
  obtain rfl : u = Value.ref a := rx
  obtain ⟨oe, od, J, look⟩ := kept_inst I1 k
  obtain ⟨o, l1, l2⟩ := look f
  obtain ⟨w', ew, rw'⟩ := RelO.some_of (v := v) (o := o) (hl ▸ l2)
  exact HandSPX.exc_get I1.kIn J k.cl.hg k.cl.hk k.cl.hs (PySem.W.findObj_own k.cl.hd no rfl (by rw [l1, ew])) (handed_of rw') ⟨v, H1, I1.tok _, rw', q⟩
end
end L2

set_option Elab.async false
set_option linter.all false
set_option maxRecDepth 100000
set_option maxHeartbeats 8000000
/-! What an error keeps of a flat value. -/
namespace V8
open PySem PySem.Spec PyProof.Rows L2
abbrev s_copied : Stmt := topS 2
abbrev n_copied : List Str := ["value", "part", "key"]
theorem sc_copied : FnScope ["value", "part", "key"] ["value"] (defScope s_copied) := ⟨rfl, rfl, rfl, by decide +kernel, rfl, by decide +kernel, by decide +kernel⟩
/-- a flat value is handed back as it is -/
def spCopied (K : PySem.W.Frag) : Sp := fun vs H Q _ => ∃ (x : V) (t : Value), vs = [x] ∧ TyX K H x t ∧ PySem.W.kitOne K t (.type "list") = some false ∧ PySem.W.kitOne K t (.type "tuple") = some false ∧ PySem.W.kitOne K t (.type "dict") = some false ∧ Q x H
section
variable {P : Program} {w : World} {K : PySem.W.Frag} {mg : Str → Option Value} {base : Heap} {CM CJ : Addr}
theorem ok_copied {f : Addr} {fd : FuncData} (F : Fun K "copied" "copied" s_copied f fd) (T : Tx K mg CM CJ) : FnOk P w K mg base CX0 1 f fd ["value"] (spCopied K) := by
  refine F.ok sc_copied (fun vs H Q E h => ?_) (fun cdv A outer s H vs Q E hr h => ?_)
  · obtain ⟨x, t, rfl, _⟩ := h
    rfl
  · obtain ⟨x, t, rfl, ty, e1, e2, e3, q⟩ := h
    refine ⟨_, (pss_cons (ps_if (pt_val (pe_callB call_isi (by rfl) T.isinstance (by decide +kernel) (pa_cons (pv 0) (pa_cons (pe_bltn (v := .ty "list") (by rfl) T.list (by decide +kernel) rfl) pa_nil))))
        (pss_one ps_never)
        pss_nil)
      (pss_cons (ps_if (pt_val (pe_callB call_isi (by rfl) T.isinstance (by decide +kernel) (pa_cons (pv 0) (pa_cons (pe_bltn (v := .ty "tuple") (by rfl) T.tuple (by decide +kernel) rfl) pa_nil))))
        (pss_one ps_never)
        pss_nil)
      (pss_cons (ps_if (pt_val (pe_callB call_isi (by rfl) T.isinstance (by decide +kernel) (pa_cons (pv 0) (pa_cons (pe_bltn (v := .ty "dict") (by rfl) T.dict (by decide +kernel) rfl) pa_nil))))
        (pss_one ps_never)
        pss_nil)
      (pss_one (ps_ret (pv 0)))))), ?_⟩
    refine ⟨_, rfl, _, .ty "list", t, .type "list", false, rfl, .ty _, ty, e1, false, rfl, iteF ?_⟩
    refine ⟨_, rfl, _, .ty "tuple", t, .type "tuple", false, rfl, .ty _, ty, e2, false, rfl, iteF ?_⟩
    refine ⟨_, rfl, _, .ty "dict", t, .type "dict", false, rfl, .ty _, ty, e3, false, rfl, iteF ?_⟩
    exact ⟨_, rfl, q⟩
end
end V8

set_option Elab.async false
set_option linter.all false
set_option maxRecDepth 100000
set_option maxHeartbeats 8000000
/-! An own error made: its one field. -/
namespace V8
open PySem PySem.Spec PyProof.Rows L2
abbrev s_Barred_init : Stmt := inClass (topS 10) 0
abbrev n_Barred_init : List Str := ["self", "at"]
theorem sc_Barred_init : FnScope ["self", "at"] ["self", "at"] (defScope s_Barred_init) := ⟨rfl, rfl, rfl, by decide +kernel, rfl, by decide +kernel, by decide +kernel⟩
/-- the base of the errors, by its name -/
structure Tb (K : PySem.W.Frag) (mg : Str → Option Value) (CR : Addr) : Prop where
  bE : mg "RepairError" = some (.ref CR)
  bR : ClX.CRead K CR (.type "type")
  bV : PySem.W.findCls K (.ref CR) (.type "type") "__init__" = some (.val (.builtin "ValueError.__init__"))
/-- what repr makes of a text or a number -/
def ReprV (x : V) (r : Str) : Prop := (∃ y, x = .str y ∧ r = reprText y) ∨ ∃ i : Int, x = .int i ∧ i.natAbs.log2 < 1920 ∧ r = toString i
theorem fmtR_of {te : TE} {σ : L2.St} {H H1 : Hp} {Q : VK} {x : V} {r : Str} (hr : ReprV x r) (h8 : r.length ≤ 8000000) (ev : ∀ R : VK, R x H1 → te σ H R) (q : Q (.str r) H1) : tFmtR te σ H Q := by
  rcases hr with ⟨y, rfl, rfl⟩ | ⟨i, rfl, hi, rfl⟩
  · exact ev _ (.inl ⟨y, rfl, by rw [sizeLine_eq]; omega, q⟩)
  · exact ev _ (.inr ⟨i, rfl, hi, q⟩)
def spErr1 (K : PySem.W.Frag) (C : Addr) (fld : Str) : Sp := fun vs H Q _ => ∃ (a : Addr) (x : V) (t : Value) (r : Str), vs = [.ref a, x] ∧ H a = some (exo a C none) ∧ OexC K C ∧ PySem.W.findIn K (.ref C) fld = some none ∧ ReprV x r ∧ r.length ≤ 8000000 ∧
  TyX K H x t ∧ PySem.W.kitOne K t (.type "list") = some false ∧ PySem.W.kitOne K t (.type "tuple") = some false ∧ PySem.W.kitOne K t (.type "dict") = some false ∧
  ∀ dx, H dx = none → dx ≠ a → Q .non (upd (upd H dx (exd dx [(fld, x)])) a (exo a C (some dx)))
section
variable {P : Program} {w : World} {K : PySem.W.Frag} {mg : Str → Option Value} {base : Heap} {CR C : Addr}
theorem ok_Barred {f : Addr} {fd : FuncData} (F : Fun K "__init__" "Barred.__init__" s_Barred_init f fd) (T : Tb K mg CR) (D_copied : Df P w K mg base 1 "copied" (spCopied K)) : FnOk P w K mg base CX0 2 f fd ["self", "at"] (spErr1 K C "at") := by
  refine F.ok sc_Barred_init (fun vs H Q E h => ?_) (fun cdv A outer s H vs Q E hr h => ?_)
  · obtain ⟨a, x, t, r, rfl, _⟩ := h
    rfl
  · obtain ⟨a, x, t, r, rfl, ha, oc, no, rx, r8, ty, e1, e2, e3, q⟩ := h
    refine ⟨_, (pss_cons (ps_expr (pe_baseinit (by rfl) T.bE T.bR T.bV (pa_cons (pv 0) (pa_cons (pe_joinedT (pj_cons pe_str (pj_cons (pe_fmtR (pv 1)) pj_nil))) pa_nil))))
      (pss_one (ps_ost (pv 0) (pe_c D_copied hr (by decide) (by rfl) (pa_cons (pv 1) pa_nil)) rfl))), ?_⟩
    have hh : (Str.empty ++ ("the misreading cannot happen, because of what stands at " : Str)).length ≤ 1000 := by decide +kernel
    refine ⟨_, rfl, _, rfl, ?_, fmtR_of rx r8 (fun R h => ⟨_, rfl, h⟩) ⟨r, rfl, ?_, a, C, _, rfl, (by show 1 ≤ 1000; decide), oc, ha, ?_⟩⟩
    · rw [sizeLine_eq]
      omega
    · rw [len_app, sizeLine_eq]
      omega
    · exact ⟨_, rfl, x, t, rfl, ty, e1, e2, e3, _, rfl, a, C, rfl, oc, no, .inl ⟨ha, fun dx n ne => q dx n ne⟩⟩
end
end V8

set_option Elab.async false
set_option linter.all false
set_option maxRecDepth 100000
set_option maxHeartbeats 8000000
/-! The errors of one field, and TooMany. -/
namespace V8
open PySem PySem.Spec PyProof.Rows L2
abbrev s_BadTable_init : Stmt := inClass (topS 9) 0
abbrev n_BadTable_init : List Str := ["self", "part"]
theorem sc_BadTable_init : FnScope ["self", "part"] ["self", "part"] (defScope s_BadTable_init) := ⟨rfl, rfl, rfl, by decide +kernel, rfl, by decide +kernel, by decide +kernel⟩
abbrev s_Unlike_init : Stmt := inClass (topS 11) 0
abbrev n_Unlike_init : List Str := ["self", "letter"]
theorem sc_Unlike_init : FnScope ["self", "letter"] ["self", "letter"] (defScope s_Unlike_init) := ⟨rfl, rfl, rfl, by decide +kernel, rfl, by decide +kernel, by decide +kernel⟩
section
variable {P : Program} {w : World} {K : PySem.W.Frag} {mg : Str → Option Value} {base : Heap} {CR C : Addr}
theorem ok_BadTable {f : Addr} {fd : FuncData} (F : Fun K "__init__" "BadTable.__init__" s_BadTable_init f fd) (T : Tb K mg CR) (D_copied : Df P w K mg base 1 "copied" (spCopied K)) : FnOk P w K mg base CX0 2 f fd ["self", "part"] (spErr1 K C "part") := by
  refine F.ok sc_BadTable_init (fun vs H Q E h => ?_) (fun cdv A outer s H vs Q E hr h => ?_)
  · obtain ⟨a, x, t, r, rfl, _⟩ := h
    rfl
  · obtain ⟨a, x, t, r, rfl, ha, oc, no, rx, r8, ty, e1, e2, e3, q⟩ := h
    refine ⟨_, (pss_cons (ps_expr (pe_baseinit (by rfl) T.bE T.bR T.bV (pa_cons (pv 0) (pa_cons (pe_joinedT (pj_cons (pe_fmtR (pv 1)) (pj_cons pe_str pj_nil))) pa_nil))))
      (pss_one (ps_ost (pv 0) (pe_c D_copied hr (by decide) (by rfl) (pa_cons (pv 1) pa_nil)) rfl))), ?_⟩
    have hh : Str.empty.length ≤ 1000 := by decide +kernel
    have ht : (" is not of the kind that it should be" : Str).length ≤ 1000 := by decide +kernel
    rcases rx with ⟨y, rfl, rfl⟩ | ⟨i, rfl, hi, rfl⟩
    · refine ⟨_, rfl, _, rfl, .inl ⟨y, rfl, ?_, reprText y, rfl, ?_, _, rfl, ?_, a, C, _, rfl, (by show 1 ≤ 1000; decide), oc, ha, ?_⟩⟩
      · rw [sizeLine_eq]
        omega
      · rw [len_app, sizeLine_eq]
        omega
      · rw [len_app, len_app, sizeLine_eq]
        omega
      · exact ⟨_, rfl, _, t, rfl, ty, e1, e2, e3, _, rfl, a, C, rfl, oc, no, .inl ⟨ha, fun dx n ne => q dx n ne⟩⟩
    · refine ⟨_, rfl, _, rfl, .inr ⟨i, rfl, hi, toString i, rfl, ?_, _, rfl, ?_, a, C, _, rfl, (by show 1 ≤ 1000; decide), oc, ha, ?_⟩⟩
      · rw [len_app, sizeLine_eq]
        omega
      · rw [len_app, len_app, sizeLine_eq]
        omega
      · exact ⟨_, rfl, _, t, rfl, ty, e1, e2, e3, _, rfl, a, C, rfl, oc, no, .inl ⟨ha, fun dx n ne => q dx n ne⟩⟩
theorem ok_Unlike {f : Addr} {fd : FuncData} (F : Fun K "__init__" "Unlike.__init__" s_Unlike_init f fd) (T : Tb K mg CR) (D_copied : Df P w K mg base 1 "copied" (spCopied K)) : FnOk P w K mg base CX0 2 f fd ["self", "letter"] (spErr1 K C "letter") := by
  refine F.ok sc_Unlike_init (fun vs H Q E h => ?_) (fun cdv A outer s H vs Q E hr h => ?_)
  · obtain ⟨a, x, t, r, rfl, _⟩ := h
    rfl
  · obtain ⟨a, x, t, r, rfl, ha, oc, no, rx, r8, ty, e1, e2, e3, q⟩ := h
    refine ⟨_, (pss_cons (ps_expr (pe_baseinit (by rfl) T.bE T.bR T.bV (pa_cons (pv 0) (pa_cons (pe_joinedT (pj_cons (pe_fmtR (pv 1)) (pj_cons pe_str pj_nil))) pa_nil))))
      (pss_one (ps_ost (pv 0) (pe_c D_copied hr (by decide) (by rfl) (pa_cons (pv 1) pa_nil)) rfl))), ?_⟩
    have hh : Str.empty.length ≤ 1000 := by decide +kernel
    have ht : (" is told in two unlike ways" : Str).length ≤ 1000 := by decide +kernel
    rcases rx with ⟨y, rfl, rfl⟩ | ⟨i, rfl, hi, rfl⟩
    · refine ⟨_, rfl, _, rfl, .inl ⟨y, rfl, ?_, reprText y, rfl, ?_, _, rfl, ?_, a, C, _, rfl, (by show 1 ≤ 1000; decide), oc, ha, ?_⟩⟩
      · rw [sizeLine_eq]
        omega
      · rw [len_app, sizeLine_eq]
        omega
      · rw [len_app, len_app, sizeLine_eq]
        omega
      · exact ⟨_, rfl, _, t, rfl, ty, e1, e2, e3, _, rfl, a, C, rfl, oc, no, .inl ⟨ha, fun dx n ne => q dx n ne⟩⟩
    · refine ⟨_, rfl, _, rfl, .inr ⟨i, rfl, hi, toString i, rfl, ?_, _, rfl, ?_, a, C, _, rfl, (by show 1 ≤ 1000; decide), oc, ha, ?_⟩⟩
      · rw [len_app, sizeLine_eq]
        omega
      · rw [len_app, len_app, sizeLine_eq]
        omega
      · exact ⟨_, rfl, _, t, rfl, ty, e1, e2, e3, _, rfl, a, C, rfl, oc, no, .inl ⟨ha, fun dx n ne => q dx n ne⟩⟩
end
end V8

set_option Elab.async false
set_option linter.all false
set_option maxRecDepth 100000
set_option maxHeartbeats 8000000
/-! A def that raises an own error of one field. -/
namespace V8
open PySem PySem.Spec PyProof.Rows L2
/-- an own error by its name: what makes it -/
structure Erm (P : Program) (w : World) (K : PySem.W.Frag) (mg : Str → Option Value) (base : Heap) (x fld : Str) (C : Addr) : Prop where
  oc : OexC K C
  no : PySem.W.findIn K (.ref C) fld = some none
  ex : ∃ (fI : Addr) (fd : FuncData) (ps : List Str), PySem.W.findIn K (.ref C) "__init__" = some (some (.ref fI)) ∧ PySem.W.typeIn K (.ref fI) = some (.type "function") ∧ FnOk P w K mg base CX0 2 fI fd ps (spErr1 K C fld) ∧ Binds K fd ps [] ∧ mg x = some (.ref C)
section
variable {X : Cx} {x fld : Str} {C : Addr} {j : Nat} {p pos pos2 : Pos} {e : Expr} {es : List Expr} {ta : TA} {W : WX}
theorem ps_raise1 (M : Erm X.prog X.w X.K X.mg X.base x fld C) (hc : X.calm = true) (tk : Takes X W) (hr : Room j X.A) (hj : 3 ≤ j) (hg : Gl X x) (ha : PA X (e :: es) ta)
    (hdb : (x == ("__debug__" : Str)) = false := by decide) (he : starEach (e :: es) X.env = (false, eval e X.env) :: starEach es X.env := by rfl) (hpl : (backTo pos (starEach es X.env)).any (·.1) = false := by rfl) :
    PS X (.Raise (some (.Call (.Name x p) (e :: es) [] pos)) none pos2) (fun _ σ H => tMkO C (spErr1 X.K C fld) [] ta σ H fun cls d H' => W cls d σ H') := by
  obtain ⟨fI, fd, ps, iC, tI, F, b, hm⟩ := M.ex
  exact ps_raise hc tk (pmk_oex M.oc iC tI F (hr.mono hj) b .nil pass0 hg hm ha hdb he hpl)
/-- what the making of such an error asks -/
theorem made1 {K : PySem.W.Frag} {C : Addr} {fld : Str} {H : Hp} {Q : XK} {x : V} {t : Value} {r : Str} (oc : OexC K C) (no : PySem.W.findIn K (.ref C) fld = some none) (rx : ReprV x r) (r8 : r.length ≤ 8000000) (ty : ∀ a, H a = none → TyX K (upd H a (exo a C none)) x t)
    (e1 : PySem.W.kitOne K t (.type "list") = some false) (e2 : PySem.W.kitOne K t (.type "tuple") = some false) (e3 : PySem.W.kitOne K t (.type "dict") = some false) (q : ∀ d H', H d = none → Same H H' → H' d = some (.xd [(fld, x)]) → Q (.ref C) (some d) H') (a : Addr) (na : H a = none) :
    spErr1 K C fld (.ref a :: ([x] ++ [])) (upd H a (exo a C none)) (fun v H2 => v = .non ∧ ∃ (d : Addr) (fs : List (Str × V)), H2 a = some (exo a C (some d)) ∧ H2 d = some (exd d fs) ∧ H d = none ∧ Q (.ref C) (some d) (upd (del H2 a) d (.xd fs))) (fun _ _ _ => False) := by
  refine ⟨a, x, t, r, rfl, upd_same, oc, no, rx, r8, ty a na, e1, e2, e3, fun dx n ne => ⟨rfl, dx, [(fld, x)], upd_same, ?_, ?_, ?_⟩⟩
  · rw [upd_ne ne]
    exact upd_same
  · rw [upd_ne ne] at n
    exact n
  · rw [upd_ne ne] at n
    refine q dx _ n (fun b o e => ?_) upd_same
    have hb := ne_of_none e n
    have hba := ne_of_none e na
    rw [upd_ne hb, del_ne hba, upd_ne hba, upd_ne hb, upd_ne hba]
    exact e
end
def spCheck (K : PySem.W.Frag) (CM CB : Addr) : Sp := fun vs H Q E => ∃ y, vs = [y] ∧ ((∃ z u, y = .ref z ∧ MisAt CM H z u ∧ Q .non H) ∨ (∃ t, TyX K H y t ∧ PySem.W.kitOne K t (.ref CM) = some false ∧ ∀ d H', H d = none → Same H H' → H' d = some (.xd [("part", .str "other")]) → E (.ref CB) (some d) H'))
section
variable {P : Program} {w : World} {K : PySem.W.Frag} {mg : Str → Option Value} {base : Heap} {CM CJ CB : Addr}
theorem ok_check_otherX {f : Addr} {fd : FuncData} (F : Fun K "check_other" "check_other" s_check_other f fd) (T : Ty K mg CM CJ) (E_BadTable : Erm P w K mg base "BadTable" "part" CB) : FnOk P w K mg base (L2.CX P w) 4 f fd ["other"] (spCheck K CM CB) := by
  refine F.okX sc_check_other (fun vs H Q E h => ?_) (fun cdv A outer s H vs Q E hr h => ?_)
  · obtain ⟨y, rfl, _⟩ := h
    rfl
  · obtain ⟨y, rfl, h⟩ := h
    refine ⟨_, (pss_one (ps_if (pt_not (pt_val (pe_callB call_isi (by rfl) T.isinstance (by decide +kernel) (pa_cons (pv 0) (pa_cons (pe_gv T.gMisreading (by rfl)) pa_nil)))))
        (pss_one (ps_raise1 E_BadTable rfl (takes_of rfl rfl rfl rfl) hr (by decide) (by rfl) (pa_cons pe_str pa_nil)))
        pss_nil)), ?_⟩
    rcases h with ⟨z, u, rfl, M, q⟩ | ⟨t, ty, e, q⟩
    · obtain ⟨dx, fs, hx⟩ := M.ins
      exact ⟨_, rfl, _, .ref CM, .ref CM, .ref CM, true, rfl, .own _, .base (.ins hx T.cl T.tA T.tB T.tC T.tD), T.mM, true, rfl, iteF q⟩
    · refine ⟨_, rfl, y, .ref CM, t, .ref CM, false, rfl, .own _, ty, e, false, rfl, iteT ⟨by show 1 ≤ 1000; decide, fun a na => ?_⟩⟩
      exact made1 E_BadTable.oc E_BadTable.no (.inl ⟨_, rfl, rfl⟩) (by decide +kernel) (fun _ _ => ty_str _) (kit_ty (by decide +kernel)) (kit_ty (by decide +kernel)) (kit_ty (by decide +kernel)) q a na
end
end V8

set_option Elab.async false
set_option linter.all false
set_option maxRecDepth 100000
set_option maxHeartbeats 8000000
/-! TooMany. -/
namespace V8
open PySem PySem.Spec PyProof.Rows L2
abbrev s_TooMany_init : Stmt := inClass (topS 14) 0
abbrev n_TooMany_init : List Str := ["self", "what", "most"]
theorem sc_TooMany_init : FnScope ["self", "what", "most"] ["self", "what", "most"] (defScope s_TooMany_init) := ⟨rfl, rfl, rfl, by decide +kernel, rfl, by decide +kernel, by decide +kernel⟩
def spTooMany (K : PySem.W.Frag) (C : Addr) : Sp := fun vs H Q _ => ∃ (a : Addr) (y : Str) (i : Int), vs = [.ref a, .str y, .int i] ∧ H a = some (exo a C none) ∧ OexC K C ∧ PySem.W.findIn K (.ref C) "what" = some none ∧ PySem.W.findIn K (.ref C) "most" = some none ∧ (reprText y).length ≤ 8000000 ∧ i.natAbs.log2 < 1920 ∧ (toString i : Str).length ≤ 8000 ∧
  ∀ dx, H dx = none → dx ≠ a → Q .non (upd (upd (upd H dx (exd dx [("what", .str y)])) a (exo a C (some dx))) dx (exd dx [("most", .int i), ("what", .str y)]))
section
variable {P : Program} {w : World} {K : PySem.W.Frag} {mg : Str → Option Value} {base : Heap} {CR C : Addr}
theorem ok_TooMany {f : Addr} {fd : FuncData} (F : Fun K "__init__" "TooMany.__init__" s_TooMany_init f fd) (T : Tb K mg CR) (D_copied : Df P w K mg base 1 "copied" (spCopied K)) : FnOk P w K mg base CX0 2 f fd ["self", "what", "most"] (spTooMany K C) := by
  refine F.ok sc_TooMany_init (fun vs H Q E h => ?_) (fun cdv A outer s H vs Q E hr h => ?_)
  · obtain ⟨a, y, i, rfl, _⟩ := h
    rfl
  · obtain ⟨a, y, i, rfl, ha, oc, n1, n2, ly, hi, li, q⟩ := h
    refine ⟨_, (pss_cons (ps_expr (pe_baseinit (by rfl) T.bE T.bR T.bV (pa_cons (pv 0) (pa_cons (pe_joinedT (pj_cons pe_str (pj_cons (pe_fmtR (pv 1)) (pj_cons pe_str (pj_cons (pe_fmtR (pv 2)) pj_nil))))) pa_nil))))
      (pss_cons (ps_ost (pv 0) (pe_c D_copied hr (by decide) (by rfl) (pa_cons (pv 1) pa_nil)) rfl)
      (pss_one (ps_ost (pv 0) (pe_c D_copied hr (by decide) (by rfl) (pa_cons (pv 2) pa_nil)) rfl)))), ?_⟩
    have h1 : (Str.empty ++ ("too many: " : Str)).length ≤ 1000 := by decide +kernel
    have h2 : (", of which there can be " : Str).length ≤ 1000 := by decide +kernel
    refine ⟨_, rfl, _, rfl, ?_, _, rfl, .inl ⟨y, rfl, ?_, reprText y, rfl, ?_, _, rfl, ?_, _, rfl, .inr ⟨i, rfl, hi, toString i, rfl, ?_, a, C, _, rfl, (by show 1 ≤ 1000; decide), oc, ha, ?_⟩⟩⟩
    · rw [sizeLine_eq]
      omega
    · rw [sizeLine_eq]
      omega
    · rw [len_app, sizeLine_eq]
      omega
    · rw [len_app, len_app, sizeLine_eq]
      omega
    · rw [len_app, len_app, len_app, sizeLine_eq]
      omega
    · refine ⟨_, rfl, _, _, rfl, ty_str _, kit_ty (by decide +kernel), kit_ty (by decide +kernel), kit_ty (by decide +kernel), _, rfl, a, C, rfl, oc, n1, .inl ⟨ha, fun dx n ne => ?_⟩⟩
      refine ⟨_, rfl, _, _, rfl, .base (.int i), kit_ty (by decide +kernel), kit_ty (by decide +kernel), kit_ty (by decide +kernel), _, rfl, a, C, rfl, oc, n2, .inr ⟨dx, [("what", .str y)], upd_same, ?_, (by show 1 ≤ 900; decide), q dx n ne⟩⟩
      rw [upd_ne ne]
      exact upd_same
end
end V8

set_option Elab.async false
set_option linter.all false
set_option maxRecDepth 100000
set_option maxHeartbeats 8000000
/-! Powers; steps. -/
namespace V8
open PySem PySem.Spec PyProof.Rows L2
abbrev s_Misreading_pow : Stmt := inClass (topS 32) 10
abbrev n_Misreading_pow : List Str := ["self", "other", "made", "_"]
theorem sc_Misreading_pow : FnScope ["self", "other", "made", "_"] ["self", "other"] (defScope s_Misreading_pow) := ⟨rfl, rfl, rfl, by decide +kernel, rfl, by decide +kernel, by decide +kernel⟩
/-- a Misreading of f, perhaps an old one -/
def Gives (CM : Addr) (H : Hp) (f : Fu) (Q : VK) : Prop := ∀ z H' t, MisAt CM H' z t → lk t = f → Same H H' → Q (.ref z) H'
def spPow (CM : Addr) : Sp := fun vs H Q _ => ∃ (x : Addr) (u : Tab) (cs : List Nat) (k : Nat), vs = [.ref x, .int ((k + 1 : Nat) : Int)] ∧ k ≤ 98 ∧ MisAt CM H x u ∧ Ovr cs (lk u) ∧ cs.length ≤ 12 ∧ (∀ j, j ≤ k → Bnd 64 (pF (lk u) j)) ∧ Gives CM H (pF (lk u) k) Q
theorem Ovr.pow {cs : List Nat} {f : Fu} (o : Ovr cs f) : ∀ n, Ovr cs (pF f n)
  | 0 => o
  | n + 1 => (Ovr.pow o n).comp o
/-- what a step leads to, as a value -/
def stepV (o : Option (List Nat)) (cs : List Nat) : V := match o with
  | none => .non
  | some r => if r = cs then .non else .str (Sx r)
def spStep (CM : Addr) : Sp := fun vs H Q _ => ∃ (x : Addr) (u : Tab) (cs : List Nat), vs = [.ref x, .str (Sx cs)] ∧ MisAt CM H x u ∧ (∀ c ∈ cs, isLt c) ∧ cs.length ≤ 2000 ∧ Bnd 64 (lk u) ∧ (∀ r, imF (lk u) cs = some r → r.length ≤ 2000) ∧ ∀ H', Same H H' → Q (stepV (imF (lk u) cs) cs) H'
section
variable {P : Program} {w : World} {K : PySem.W.Frag} {mg : Str → Option Value} {base : Heap} {CM CJ : Addr}
theorem ok_pow {f : Addr} {fd : FuncData} (F : Fun K "__pow__" "Misreading.__pow__" s_Misreading_pow f fd) (T : Tz K mg CM CJ) (D_is_between : Df P w K mg base 2 "is_between" spBtw) (D_rshift : Bo P w K mg base 7 CM "__rshift__" (spRsh CM)) : FnOk P w K mg base CX0 8 f fd ["self", "other"] (spPow CM) := by
  refine F.ok sc_Misreading_pow (fun vs H Q E h => ?_) (fun cdv A outer s H vs Q E hr h => ?_)
  · obtain ⟨x, u, cs, k, rfl, _⟩ := h
    rfl
  · obtain ⟨x, u, cs, k, rfl, k98, mx, ou, h12, bp, q⟩ := h
    refine ⟨_, (pss_cons (ps_if (pt_not (pt_val (pe_c D_is_between hr (by decide) (by rfl) (pa_cons (pv 1) (pa_cons pe_int (pa_cons pe_int pa_nil))))))
        (pss_one ps_never)
        pss_nil)
      (pss_cons (ps_set (i := 2) sc_Misreading_pow.nd rfl (.inl rfl) (pv 0))
      (pss_cons (ps_for PassesOwn.never rfl (pi_range1 (by rfl) T.range (pa_cons (pe_op op_sub (pv 1) pe_int) pa_nil)) (pg_name (i := 3) sc_Misreading_pow.nd rfl (.inl rfl))
        (pss_one (ps_set (i := 2) sc_Misreading_pow.nd rfl (.inl rfl) (pe_op (op_bin D_rshift hr (by decide)) (pv 2) (pv 0)))))
      (pss_one (ps_ret (pv 2)))))), ?_⟩
    refine ⟨_, rfl, _, 1, 99, rfl, by omega, by omega, true, rfl, iteF ?_⟩
    refine ⟨_, rfl, ?_⟩
    refine ⟨_, rfl, _, _, rfl, rfl, k, ?_, by omega, by omega, for_it (walk_range (lo := 0) (n := k)) (fun i σ H2 => (∃ (m : Addr) (t : Tab) (v3 : Option V), σ = [some (.ref x), some (.int ((k + 1 : Nat) : Int)), some (.ref m), v3] ∧ MisAt CM H2 m t ∧ lk t = pF (lk u) i) ∧ Same H H2) ⟨⟨x, u, none, rfl, mx, rfl⟩, Same.refl H⟩ (fun _ _ _ _ _ => trivial) ?_ ?_⟩
    · have e : ((k + 1 : Nat) : Int) - 1 = (k : Int) := by omega
      show [V.int (((k + 1 : Nat) : Int) - 1)] = [V.int (k : Int)]
      rw [e]
    · rintro i z σ H2 H2' hi ⟨⟨m, t, v3, rfl, mt, et⟩, s2⟩ ⟨rfl, rfl⟩
      obtain ⟨dm, am, bm, cm, hm, _⟩ := id mt.at_
      obtain ⟨dx, a, b, c', hx, ha, hb, hc⟩ := id (mx.same s2).at_
      refine ⟨_, rfl, _, rfl, m, dm, _, x, dx, _, rfl, hm, rfl, hx, m, x, t, u, cs, rfl, mt, mx.same s2, ?_, bp 0 (by omega), ?_, ?_, h12, fun z H3 t3 nz mz ez s3 => ⟨⟨z, t3, _, rfl, mz, ?_⟩, fun b o e => s3 _ _ (s2 _ _ e)⟩⟩
      · rw [et]
        exact bp i (by omega)
      · rw [et]
        exact bp (i + 1) (by omega)
      · rw [et]
        exact ou.pow i
      · rw [ez, et]
        rfl
    · rintro σ H2 ⟨⟨m, t, v3, rfl, mt, et⟩, s2⟩
      exact ⟨_, rfl, q m H2 t mt et s2⟩
end
end V8

set_option Elab.async false
set_option linter.all false
set_option maxRecDepth 100000
set_option maxHeartbeats 4000000
/-! Signs of an own class: with a value of any other kind on the right; x >= y, where y's own <= answers; x |= y, where there is no __ior__. -/
namespace PySem.W
open PySem PySem.Spec PySem.Calls PyProof.Rows
theorem slot_obj_ge : Slot "object" "__ge__" "object.__ge__" := by
  refine .of (owner := "object") (n := "__ge__") ?_ (by decide +kernel) (by decide +kernel) (by decide +kernel) (.inl (by decide +kernel)) ?_
  · rw [typeLookup_type, builtinLookup_eq_fast]
    kernel_rfl
  · rw [isSubtype_type]
    kernel_rfl
theorem entry_obj_ge : entryFor table "object.__ge__" = some Builtin.«object.__ge__» := entryFor_of_tree (by kernel_rfl)
theorem args_obj_ge (u v : Value) : argsOk "object.__ge__" ⟨[u, v], []⟩ := by
  unfold argsOk
  kernel_rfl
section
variable {prog : Program} {w : World} {A : Around} {E : Value → Shared → Prop} {s : Shared} {K : Frag} {m : Str → Option Value} {h₀ : Heap} {L x y C f : Addr} {ox oy : Obj} {od od2 : Option Obj}
/-- object's own >= says that it does not know -/
theorem obj_ge_none {b : Value} {Q : Value → Shared → Prop} (X : K.In s.heap) (I : InstAt s.heap x ox C od) (hm : mroIn K C (.type "object") = some true) (q : Q .notImplemented s) : wpAny (model prog w) A (call (.builtin "object.__ge__") [.ref x, b]) Q E s := by
  refine wpAny_call (codeAny_call_builtin slot_obj_ge.plain entry_obj_ge (check_slot (n := "__ge__") (by decide +kernel) (by decide +kernel) (I.type.andThen (looks_mroIn X hm)) (args_obj_ge _ _) ?_))
  have e : Builtin.«object.__ge__» ⟨[.ref x, b], []⟩ = (do
      let _ ← slotArgs "__ge__" 1 ⟨[.ref x, b], []⟩
      ret .notImplemented) := rfl
  rw [e]
  repeat wp_step
  exact q
theorem try_ge {b : Value} {Q : Option Value → Shared → Prop} (X : K.In s.heap) (I : InstAt s.heap x ox C od) (hm : mroIn K C (.type "object") = some true) (no : findIn K (.ref C) "__ge__" = some (some (.builtin "object.__ge__"))) (q : Q none s) : wpAny (model prog w) A (tryCompare (.ref x) "__ge__" b) Q E s := by
  unfold tryCompare
  have told : wpAny (model prog w) A (callSpecialIfBound? (.ref x) "__ge__" [b]) (fun r s' => r = some .notImplemented ∧ s' = s) E s := by
    simp only [callSpecialIfBound?, bindSpecialIfBound?]
    refine wpAny_holding (wpAny_bind (wpAny_bind (wpAny_bind (I.type.here ((looks_findIn X no).here (wpAny_bind (wpAny_askSetting (wpAny_ite ?_))))))))
    have last : wpAny (model prog w) A (call (.builtin "object.__ge__") ([.ref x] ++ [b]) >>= fun v => pure (some v)) (fun r s' => r = some .notImplemented ∧ s' = s) E s :=
      wpAny_bind (obj_ge_none X I hm (wpAny_pure ⟨rfl, rfl⟩))
    split
    · exact wpAny_bind (wpAny_of_eq (slot_obj_ge.bind _) (wpAny_pure last))
    · exact wpAny_tryCatch (wpAny_bind (wpAny_of_eq (slot_obj_ge.bind _) (wpAny_pure last)))
  refine wpAny_bind (wpAny_mono told (fun r s' z => ?_) fun _ _ e => e)
  obtain ⟨rfl, rfl⟩ := z
  exact wpAny_pure q
/-- x >= y -/
theorem ge_back {Q : Value → Shared → Prop} (hu : A.units < cLine) (F : Fr h₀ L s.heap m) (X₀ : K.In h₀) (I : InstAt s.heap x ox C od) (J : InstAt s.heap y oy C od2) (hm : mroIn K C (.type "object") = some true) (no : findIn K (.ref C) "__ge__" = some (some (.builtin "object.__ge__")))
    (hs : findIn K (.ref C) "__le__" = some (some (.ref f))) (hf : isFn K (.ref f) = true) (h : wpAny (model prog w) A (call (.ref f) [.ref y, .ref x]) (CmpBack Q) E s) : wpAny (model prog w) A (richCompare .GtE (.ref x) (.ref y)) Q E s := by
  have X := X₀.keeps F.keep
  have own : wpAny (model prog w) A (tryCompare (.ref y) "__le__" (.ref x)) (fun r s' => ∃ v, r = some v ∧ Q v s') E s := by
    unfold tryCompare
    refine wpAny_bind (ifBound_K X J hs hf (wpAny_mono h (fun v s' hv => ?_) fun _ _ e => e))
    cases v <;> first
      | exact hv.elim
      | exact wpAny_pure ⟨_, rfl, hv⟩
  unfold richCompare
  simp only [oneThing_ref, cmpInfo]
  refine wpAny_holding (wpAny_bind (wpAny_cRoomFor hu (wpAny_bind (I.type.here (wpAny_bind (J.type.here ?_))))))
  rw [if_neg (by simp)]
  refine wpAny_bind (wpAny_pure ?_)
  simp only [Bool.false_eq_true, if_false, Bool.not_false, if_true]
  refine wpAny_bind (try_ge X I hm no ?_)
  refine wpAny_bind (wpAny_mono own (fun r s' z => ?_) fun _ _ e => e)
  obtain ⟨v, rfl, q⟩ := z
  exact wpAny_pure q
/-- x op b, b of a built-in type T -/
theorem bin_any {op : Operator} {T : String} {b : Value} {fo ro rc : Option Value} {Q : Value → Shared → Prop} (F : Fr h₀ L s.heap m) (X₀ : K.In h₀) (I : InstAt s.heap x ox C od) (hb : Looks (model prog w) s.heap (typeOf b) (.type T)) (hc : selfFirst K C = true)
    (hs : findIn K (.ref C) (PySem.dunder op.info.2) = some (some (.ref f))) (hf : isFn K (.ref f) = true) (hr : findIn K (.ref C) (dunderR op.info.2) = some rc) (hp : rc = none ∨ ∃ g : Addr, rc = some (.ref g))
    (h1 : findIn K (.type T) (PySem.dunder op.info.2) = some fo) (h2 : findIn K (.type T) (dunderR op.info.2) = some ro) (hsub : subIn K (.type T) (.ref C) = some false) (h : wpAny (model prog w) A (call (.ref f) [.ref x, b]) (CmpBack Q) E s) :
    wpAny (model prog w) A (binaryOp op (.ref x) b) Q E s := by
  have X := X₀.keeps F.keep
  obtain ⟨cd, more, e1, e2⟩ := ksp_first hc
  rcases hi : op.info with ⟨sg, nm⟩
  rw [hi] at hs hr h1 h2
  dsimp only at hs hr h1 h2
  have go := ksp_try X I hs hf h
  have tx := I.type (M := model prog w)
  have lf := fills_K (M := model prog w) X e1 e2 hs
  have rf := ksp_fillsT (M := model prog w) X h1 h2
  have su := looks_subIn (M := model prog w) X hsub
  have py := ksp_inPy (M := model prog w) X hs hr hp
  have nopy : Looks (model prog w) s.heap (numberSlotInPython (.type T) nm) false := Looks.of_pure rfl
  have rl := looks_findIn (M := model prog w) X h2
  have ne : (Value.ref C == Value.type T) = false := rfl
  obtain ⟨hh, g, d, tt, os⟩ := s
  simp only [binaryOp, hi]
  refine wpAny_holding (wpAny_bind ?_)
  unfold binaryOp1
  refine wpAny_bind (tx.at (wpAny_bind (hb.at (wpAny_bind (lf.at ?_)))))
  simp only [ne, Bool.false_eq_true, if_false]
  cases hri : ((fo.isSome && !isSeqSlot fo) || (ro.isSome && !isSeqSlot ro)) <;> rw [hri] at rf
  all_goals
    ksp_lk
    refine wpAny_mono go (fun r s' z => ?_) fun _ _ e => e
    obtain ⟨v, rfl, q⟩ := z
    ksp_lk
    exact q
end
end PySem.W

set_option Elab.async false
set_option linter.all false
set_option maxRecDepth 100000
set_option maxHeartbeats 4000000
/-! x op= y of one own class, which has no method for it in place. -/
namespace PySem.W
open PySem PySem.Spec PySem.Calls PyProof.Rows
section
variable {prog : Program} {w : World} {A : Around} {E : Value → Shared → Prop} {s : Shared} {K : Frag} {m : Str → Option Value} {h₀ : Heap} {L x y C f : Addr} {ox oy : Obj} {od od2 : Option Obj}
theorem no_inplace {M : Model} {h : Heap} {nm : String} {add : Bool} {cd : ClassData} (X : K.In h) (hc : clsIn K C = some cd) (hm : cd.mro = [.ref C, .type "object"]) (n1 : findIn K (.ref C) (dunderI nm) = some none) (n2 : typeLookup (.type "object") (dunderI nm) = pure none) : Looks M h (fillsInplaceSlot (.ref C) nm add) false := by
  intro A Q E s k q
  have Lm := ((looks_clsIn (M := M) X hc).andThen (f := fun cd => pure cd.mro) .now).keeps k
  obtain ⟨hh, g, d, tt, os⟩ := s
  have X' : K.In hh := X.keeps k
  have t1 : Looks M hh (typeLookup (.ref C) (dunderI nm)) none := looks_findIn X' n1
  have t2 : Looks M hh (typeLookup (.type "object") (dunderI nm)) none := Looks.of_pure n2
  unfold fillsInplaceSlot
  refine wpAny_bind (Lm.at ?_)
  rw [hm, List.anyM_cons]
  refine wpAny_bind ?_
  repeat lk
  exact q
theorem in_own {op : Operator} {b : Value} {cd : ClassData} {Q : Value → Shared → Prop} (F : Fr h₀ L s.heap m) (X₀ : K.In h₀) (I : InstAt s.heap x ox C od) (hb : Looks (model prog w) s.heap (typeOf b) (.ref C)) (hc : clsIn K C = some cd) (hm : cd.mro = [.ref C, .type "object"])
    (n1 : findIn K (.ref C) (dunderI op.info.2) = some none) (n2 : typeLookup (.type "object") (dunderI op.info.2) = pure none) (hs : findIn K (.ref C) (PySem.dunder op.info.2) = some (some (.ref f))) (hf : isFn K (.ref f) = true)
    (h : wpAny (model prog w) A (call (.ref f) [.ref x, b]) (CmpBack Q) E s) : wpAny (model prog w) A (inplaceOp op (.ref x) b) Q E s := by
  have X := X₀.keeps F.keep
  have go := ksp_try X I hs hf h
  have tx := I.type (M := model prog w)
  have lf := fills_K (M := model prog w) X hc hm hs
  have ni := no_inplace (M := model prog w) (add := op == .Add) X hc hm n1 n2
  obtain ⟨hh, g, d, tt, os⟩ := s
  unfold inplaceOp
  refine wpAny_holding (wpAny_bind (tx.at (wpAny_bind (ni.at ?_))))
  simp only [Bool.false_eq_true, if_false]
  refine wpAny_bind (m := binaryOp1 op.info.2 (.ref x) b) ?_
  unfold binaryOp1
  refine wpAny_bind (tx.at (wpAny_bind (hb.at (wpAny_bind (lf.at ?_)))))
  simp only [beq_self_eq_true, if_true]
  ksp_lk
  refine wpAny_mono go (fun r s' z => ?_) fun _ _ e => e
  obtain ⟨v, rfl, q⟩ := z
  ksp_lk
  exact q
end
end PySem.W

set_option Elab.async false
set_option linter.all false
set_option maxRecDepth 100000
set_option maxHeartbeats 4000000
/-! The rules for these signs. -/
namespace L2
open PySem PySem.Spec PyProof.Rows
section
variable {X : Cx} {n : Nat} {CX : CXT} {C f : Addr} {fd : FuncData} {ps : List Str} {sp : Sp} {E : XK}
/-- what a built-in type says of a sign, beside an own class -/
structure BesideT (K : PySem.W.Frag) (C : Addr) (nm : String) (t : Value) : Prop where
  ex : ∃ (T : String) (fo ro : Option Value), t = .type T ∧ PySem.W.findIn K (.type T) (PySem.dunder nm) = some fo ∧ PySem.W.findIn K (.type T) (PySem.dunderR nm) = some ro ∧ PySem.W.subIn K (.type T) (.ref C) = some false
def rBinAny (K : PySem.W.Frag) (C : Addr) (nm : String) (sp : Sp) (E : XK) : R2 := fun x y H Q => ∃ a dx fs t, x = .ref a ∧ H a = some (.ins C dx fs) ∧ TyX K H y t ∧ BesideT K C nm t ∧ sp [.ref a, y] H Q E
theorem op_binAny {op : Operator} (F : FnOk X.prog X.w X.K X.mg X.base CX n f fd ps sp) (hb : Binds X.K fd ps []) (hx : Passes CX X E) (hs : PySem.W.findIn X.K (.ref C) (PySem.dunder op.info.2) = some (some (.ref f))) (hf : PySem.W.isFn X.K (.ref f) = true) (hc : PySem.W.selfFirst X.K C = true)
    (hr : PySem.W.findIn X.K (.ref C) (PySem.dunderR op.info.2) = some none) (hm : Room n X.A) : OpR X (binaryOp op) (rBinAny X.K C op.info.2 sp E) := by
  intro pins s σ H x y v u Q I rx ry h
  obtain ⟨a, dx, fs, t, rfl, ha, ty, bt, hsp⟩ := h
  cases rx
  obtain ⟨od, J⟩ := inst_at I ha
  obtain ⟨m, hF⟩ := I.fr
  obtain ⟨P, Z, p, _⟩ := kit_of I ry ty
  obtain ⟨T, fo, ro, rfl, h1, h2, h3⟩ := bt.ex
  refine PySem.W.bin_any hF I.ok.mod.kin J (Z.ty _ _ I.kIn p) hc hs hf hr (.inl rfl) h1 h2 h3 (thn (run_own (Sub.here hm) F hb hx I (show Vals [V.ref a, y] [Value.ref a, u] from .cons rfl (.cons ry .nil)) hsp) fun r s' q => ?_)
  obtain ⟨z, H', I', rz, q⟩ := q
  exact notNI rz ⟨z, H', I', rz, q⟩
def rGeOwn (C : Addr) (sp : Sp) (E : XK) : R2 := fun x y H Q => ∃ a dx fs b dy gs, x = .ref a ∧ H a = some (.ins C dx fs) ∧ y = .ref b ∧ H b = some (.ins C dy gs) ∧ sp [.ref b, .ref a] H Q E
theorem op_geOwn (F : FnOk X.prog X.w X.K X.mg X.base CX n f fd ps sp) (hb : Binds X.K fd ps []) (hx : Passes CX X E) (o : Own X.K C "__le__" f) (no : PySem.W.findIn X.K (.ref C) "__ge__" = some (some (.builtin "object.__ge__"))) (hm : PySem.W.mroIn X.K C (.type "object") = some true) (hr : Room n X.A) : OpR X (compareOp .GtE) (rGeOwn C sp E) := by
  intro pins s σ H x y v u Q I rx ry h
  obtain ⟨a, dx, fs, b, dy, gs, rfl, ha, rfl, hb2, hsp⟩ := h
  cases rx
  cases ry
  obtain ⟨od, J⟩ := inst_at I ha
  obtain ⟨od2, J2⟩ := inst_at I hb2
  obtain ⟨m, hF⟩ := I.fr
  refine PySem.W.ge_back hr.units0 hF I.ok.mod.kin J J2 hm no o.find o.fn (thn (run_own (Sub.here hr) F hb hx I (show Vals [V.ref b, V.ref a] [Value.ref b, Value.ref a] from .cons rfl (.cons rfl .nil)) hsp) fun r s' q => ?_)
  obtain ⟨z, H', I', rz, q⟩ := q
  exact notNI rz ⟨z, H', I', rz, q⟩
theorem op_inOwnP {op : Operator} {cd : ClassData} (F : FnOk X.prog X.w X.K X.mg X.base CX n f fd ps sp) (hb : Binds X.K fd ps []) (hx : Passes CX X E) (hs : PySem.W.findIn X.K (.ref C) (PySem.dunder op.info.2) = some (some (.ref f))) (hf : PySem.W.isFn X.K (.ref f) = true) (hc : PySem.W.clsIn X.K C = some cd) (hm : cd.mro = [.ref C, .type "object"])
    (n1 : PySem.W.findIn X.K (.ref C) (PySem.dunderI op.info.2) = some none) (n2 : typeLookup (.type "object") (PySem.dunderI op.info.2) = pure none) (hr : Room n X.A) : OpR X (inplaceOp op) (rBinOwn X.K C sp E) := by
  intro pins s σ H x y v u Q I rx ry h
  obtain ⟨a, dx, fs, b, dy, gs, rfl, ha, rfl, hb2, hsp⟩ := h
  cases rx
  cases ry
  obtain ⟨od, J⟩ := inst_at I ha
  obtain ⟨od2, J2⟩ := inst_at I hb2
  obtain ⟨m, hF⟩ := I.fr
  refine PySem.W.in_own hF I.ok.mod.kin J J2.type hc hm n1 n2 hs hf (thn (run_own (Sub.here hr) F hb hx I (show Vals [V.ref a, V.ref b] [Value.ref a, Value.ref b] from .cons rfl (.cons rfl .nil)) hsp) fun r s' q => ?_)
  obtain ⟨z, H', I', rz, q⟩ := q
  exact notNI rz ⟨z, H', I', rz, q⟩
end
theorem no_ior : typeLookup (.type "object") (PySem.dunderI (Operator.info .BitOr).2) = pure none := by
  rw [typeLookup_type, builtinLookup_eq_fast]
  kernel_rfl
end L2

set_option Elab.async false
set_option linter.all false
set_option maxRecDepth 100000
set_option maxHeartbeats 8000000
/-! Defs, signs and makers that may raise. -/
namespace V8
open PySem PySem.Spec PyProof.Rows L2
/-- a def of the text that may raise, by its name -/
structure DfX (P : Program) (w : World) (K : PySem.W.Frag) (mg : Str → Option Value) (base : Heap) (k : Nat) (x : Str) (sp : Sp) : Prop where
  ex : ∃ (f : Addr) (fd : FuncData) (ps : List Str), FnOk P w K mg base (L2.CX P w) k f fd ps sp ∧ mg x = some (.ref f) ∧ PySem.W.keepIn K (.ref f) = true ∧ Binds K fd ps []
/-- a sign's method that may raise -/
structure BoX (P : Program) (w : World) (K : PySem.W.Frag) (mg : Str → Option Value) (base : Heap) (k : Nat) (C : Addr) (m : Str) (sp : Sp) : Prop where
  ex : ∃ (f : Addr) (fd : FuncData) (ps : List Str), FnOk P w K mg base (L2.CX P w) k f fd ps sp ∧ Binds K fd ps [] ∧ PySem.W.findIn K (.ref C) m = some (some (.ref f)) ∧ PySem.W.isFn K (.ref f) = true ∧ PySem.W.selfFirst K C = true
/-- what a context lets through -/
theorem passTk {X : Cx} {E : XK} (tk : Takes X fun cls d _ H => E cls d H) : Passes (L2.CX X.prog X.w) X E := passes_call tk fun _ _ _ _ h => h
section
variable {X : Cx} {k j : Nat} {C : Addr} {x : Str} {sp : Sp} {p pos : Pos} {e : Expr} {es : List Expr} {t : TA} {E : XK}
theorem pe_cX (c : DfX X.prog X.w X.K X.mg X.base k x sp) (hx : Passes (L2.CX X.prog X.w) X E) (hr : Room j X.A) (hk : k ≤ j) (hg : Gl X x) (ha : PA X (e :: es) t)
    (hdb : (x == ("__debug__" : Str)) = false := by decide) (he : starEach (e :: es) X.env = (false, eval e X.env) :: starEach es X.env := by rfl) (hpl : (backTo pos (starEach es X.env)).any (·.1) = false := by rfl) : PE X (.Call (.Name x p) (e :: es) [] pos) (tCall sp [] E t) := by
  obtain ⟨f, fd, ps, F, hm, kp, b⟩ := c.ex
  exact pe_call F (hr.mono hk) hg hm kp b .nil hx ha hdb he hpl
theorem op_binX {op : Operator} {m : Str} (c : BoX X.prog X.w X.K X.mg X.base k C m sp) (hx : Passes (L2.CX X.prog X.w) X E) (hr : Room j X.A) (hk : k ≤ j) (hm : PySem.dunder op.info.2 = m := by rfl) : OpR X (binaryOp op) (rBinOwn X.K C sp E) := by
  obtain ⟨f, fd, ps, F, b, h1, h2, h3⟩ := c.ex
  subst hm
  exact op_binOwn F b hx h1 h2 h3 (hr.mono hk)
theorem op_anyX {op : Operator} {m : Str} (c : BoX X.prog X.w X.K X.mg X.base k C m sp) (hx : Passes (L2.CX X.prog X.w) X E) (hn : PySem.W.findIn X.K (.ref C) (PySem.dunderR op.info.2) = some none) (hr : Room j X.A) (hk : k ≤ j) (hm : PySem.dunder op.info.2 = m := by rfl) : OpR X (binaryOp op) (rBinAny X.K C op.info.2 sp E) := by
  obtain ⟨f, fd, ps, F, b, h1, h2, h3⟩ := c.ex
  subst hm
  exact op_binAny F b hx h1 h2 h3 hn (hr.mono hk)
theorem op_leX (c : BoX X.prog X.w X.K X.mg X.base k C "__le__" sp) (hx : Passes (L2.CX X.prog X.w) X E) (hr : Room j X.A) (hk : k ≤ j) : OpR X (compareOp .LtE) (rLeOwn X.K C sp E) := by
  obtain ⟨f, fd, ps, F, b, h1, h2, h3⟩ := c.ex
  exact op_leOwn F b hx ⟨h1, h2⟩ (hr.mono hk)
theorem op_geX (c : BoX X.prog X.w X.K X.mg X.base k C "__le__" sp) (hx : Passes (L2.CX X.prog X.w) X E) (no : PySem.W.findIn X.K (.ref C) "__ge__" = some (some (.builtin "object.__ge__"))) (hm : PySem.W.mroIn X.K C (.type "object") = some true) (hr : Room j X.A) (hk : k ≤ j) : OpR X (compareOp .GtE) (rGeOwn C sp E) := by
  obtain ⟨f, fd, ps, F, b, h1, h2, h3⟩ := c.ex
  exact op_geOwn F b hx ⟨h1, h2⟩ no hm (hr.mono hk)
/-- what | in place asks of the class -/
structure NoIn (K : PySem.W.Frag) (C : Addr) : Prop where
  ex : ∃ cd, PySem.W.clsIn K C = some cd ∧ cd.mro = [.ref C, .type "object"]
  n1 : PySem.W.findIn K (.ref C) "__ior__" = some none
theorem ip_orX (c : BoX X.prog X.w X.K X.mg X.base k C "__or__" sp) (hx : Passes (L2.CX X.prog X.w) X E) (ni : NoIn X.K C) (hr : Room j X.A) (hk : k ≤ j) : PIp X .BitOr (rBinOwn X.K C sp E) := by
  obtain ⟨f, fd, ps, F, b, h1, h2, h3⟩ := c.ex
  obtain ⟨cd, e1, e2⟩ := ni.ex
  intro pins s σ H x y v u Q I r1 r2 h
  exact op_inOwnP (op := .BitOr) F b hx h1 h2 e1 e2 ni.n1 no_ior (hr.mono hk) pins s σ H x y v u Q I r1 r2 h
end
/-- TooMany by its name -/
structure ErmT (P : Program) (w : World) (K : PySem.W.Frag) (mg : Str → Option Value) (base : Heap) (C : Addr) : Prop where
  oc : OexC K C
  n1 : PySem.W.findIn K (.ref C) "what" = some none
  n2 : PySem.W.findIn K (.ref C) "most" = some none
  ex : ∃ (fI : Addr) (fd : FuncData) (ps : List Str), PySem.W.findIn K (.ref C) "__init__" = some (some (.ref fI)) ∧ PySem.W.typeIn K (.ref fI) = some (.type "function") ∧ FnOk P w K mg base CX0 2 fI fd ps (spTooMany K C) ∧ Binds K fd ps [] ∧ mg "TooMany" = some (.ref C)
section
variable {X : Cx} {C : Addr} {j : Nat} {p pos pos2 : Pos} {e : Expr} {es : List Expr} {ta : TA} {W : WX}
theorem ps_raise2 (M : ErmT X.prog X.w X.K X.mg X.base C) (hc : X.calm = true) (tk : Takes X W) (hr : Room j X.A) (hj : 3 ≤ j) (hg : Gl X "TooMany") (ha : PA X (e :: es) ta)
    (hdb : (("TooMany" : Str) == ("__debug__" : Str)) = false := by decide) (he : starEach (e :: es) X.env = (false, eval e X.env) :: starEach es X.env := by rfl) (hpl : (backTo pos (starEach es X.env)).any (·.1) = false := by rfl) :
    PS X (.Raise (some (.Call (.Name "TooMany" p) (e :: es) [] pos)) none pos2) (fun _ σ H => tMkO C (spTooMany X.K C) [] ta σ H fun cls d H' => W cls d σ H') := by
  obtain ⟨fI, fd, ps, iC, tI, F, b, hm⟩ := M.ex
  exact ps_raise hc tk (pmk_oex M.oc iC tI F (hr.mono hj) b .nil pass0 hg hm ha hdb he hpl)
theorem made2 {K : PySem.W.Frag} {C : Addr} {H : Hp} {Q : XK} {y : Str} {i : Int} (oc : OexC K C) (n1 : PySem.W.findIn K (.ref C) "what" = some none) (n2 : PySem.W.findIn K (.ref C) "most" = some none) (l1 : (reprText y).length ≤ 8000000) (l2 : i.natAbs.log2 < 1920) (l3 : (toString i : Str).length ≤ 8000)
    (q : ∀ d H', H d = none → Same H H' → H' d = some (.xd [("most", .int i), ("what", .str y)]) → Q (.ref C) (some d) H') (a : Addr) (na : H a = none) :
    spTooMany K C (.ref a :: ([.str y, .int i] ++ [])) (upd H a (exo a C none)) (fun v H2 => v = .non ∧ ∃ (d : Addr) (fs : List (Str × V)), H2 a = some (exo a C (some d)) ∧ H2 d = some (exd d fs) ∧ H d = none ∧ Q (.ref C) (some d) (upd (del H2 a) d (.xd fs))) (fun _ _ _ => False) := by
  refine ⟨a, y, i, rfl, upd_same, oc, n1, n2, l1, l2, l3, fun dx n ne => ⟨rfl, dx, [("most", .int i), ("what", .str y)], ?_, upd_same, ?_, ?_⟩⟩
  · rw [upd_ne (Ne.symm ne)]
    exact upd_same
  · rw [upd_ne ne] at n
    exact n
  · rw [upd_ne ne] at n
    refine q dx _ n (fun b o e => ?_) upd_same
    have hb := ne_of_none e n
    have hba := ne_of_none e na
    rw [upd_ne hb, del_ne hba, upd_ne hb, upd_ne hba, upd_ne hb, upd_ne hba]
    exact e
end
end V8

set_option Elab.async false
set_option linter.all false
set_option maxRecDepth 100000
set_option maxHeartbeats 8000000
/-! A Misreading of joined images, or TooMany. -/
namespace V8
open PySem PySem.Spec PyProof.Rows L2
/-- two promises of one def, of which the one raises nothing -/
theorem FnOk.either {P : Program} {w : World} {K : PySem.W.Frag} {mg : Str → Option Value} {base : Heap} {k : Nat} {f : Addr} {fd : FuncData} {ps : List Str} {sp1 sp2 : Sp} {CXa : CXT} (F1 : FnOk P w K mg base CX0 k f fd ps sp1) (F2 : FnOk P w K mg base CXa k f fd ps sp2) :
    FnOk P w K mg base CXa k f fd ps (fun vs H Q E => sp1 vs H Q E0 ∨ sp2 vs H Q E) := by
  refine ⟨fun vs H Q E h => h.elim (F1.len _ _ _ _) (F2.len _ _ _ _), fun A outer s H args us vs Q E hr e0 b r h => ?_⟩
  rcases h with h | h
  · refine codeAny_mono (F1.run A outer s H args us vs Q E0 hr e0 b r h) fun x s' q => ?_
    cases x with
    | error e => exact (show False from q).elim
    | ok fl => cases fl <;> exact q
  · exact F2.run A outer s H args us vs Q E hr e0 b r h
/-- the way out of TooMany(what, most) -/
def OutT (CT : Addr) (H : Hp) (y : Str) (i : Int) (E : XK) : Prop := ∀ d H', H d = none → Same H H' → H' d = some (.xd [("most", .int i), ("what", .str y)]) → E (.ref CT) (some d) H'
def spInitT (CM CJ CT : Addr) : Sp := fun vs H _ E => ∃ (x dx j dj d : Addr) (t : Tab), vs = [.ref x, .ref j, .str (Sx [])] ∧ H x = some (.ins CM dx []) ∧ H j = some (.ins CJ dj (fJ d)) ∧ H d = some (.dK (encT t)) ∧ 12 < t.length ∧ t.length ≤ 100 ∧ OutT CT H "letters" 12 E
def spInitJX (CM CJ CT : Addr) : Sp := fun vs H Q E => spInitJ CM CJ vs H Q E0 ∨ spInitT CM CJ CT vs H Q E
structure MkrMX (P : Program) (w : World) (K : PySem.W.Frag) (mg : Str → Option Value) (base : Heap) (CM CJ CT : Addr) : Prop where
  ex : ∃ (f : Addr) (fd : FuncData), Mk K CM f ∧ FnOk P w K mg base (L2.CX P w) 5 f fd pI (spInitJX CM CJ CT) ∧ mg "Misreading" = some (.ref CM) ∧ ∃ ds, Vals [.str (Sx [])] ds ∧ Binds K fd pI ds
/-- Misreading(Joined(t)), made or refused -/
def tMkMJX (CM CJ CT : Addr) (E : XK) (t : TA) : TE := fun σ H Q => t σ H fun vs H1 => ∃ j dj d tb, vs = [.ref j] ∧ H1 j = some (.ins CJ dj (fJ d)) ∧ H1 d = some (.dK (encT tb)) ∧ ((tb.length ≤ 12 ∧ ∀ x H', H1 x = none → MisAt CM H' x tb → Same H1 H' → Q (.ref x) H') ∨ (12 < tb.length ∧ tb.length ≤ 100 ∧ OutT CT H1 "letters" 12 E))
section
variable {P : Program} {w : World} {K : PySem.W.Frag} {mg : Str → Option Value} {base : Heap} {CM CJ CT : Addr}
theorem ok_initT {f : Addr} {fd : FuncData} {dvs : List V} (F : FunD K "__init__" "Misreading.__init__" (defArgs s_Misreading_init) (defBody s_Misreading_init) (defScope s_Misreading_init) dvs [] f fd) (T : Tz K mg CM CJ) (D_told_images : Df P w K mg base 4 "told_images" spTold) (E_TooMany : ErmT P w K mg base CT) : FnOk P w K mg base (L2.CX P w) 5 f fd ["self", "images", "keeps"] (spInitT CM CJ CT) := by
  refine F.ok sc_Misreading_init (fun vs H Q E h => ?_) (fun cdv A outer s H vs Q E hr h => ?_)
  · obtain ⟨x, dx, j, dj, d, t, rfl, _⟩ := h
    rfl
  · obtain ⟨x, dx, j, dj, r, u, rfl, hx, hj, hr1, l1, l2, q⟩ := h
    refine ⟨_, (pss_cons (ps_set (i := 3) sc_Misreading_init.nd rfl (.inr rfl) (pe_ifExp (pt_val (pe_callB call_isi (by rfl) T.isinstance (by decide +kernel) (pa_cons (pv 1) (pa_cons (pe_gv T.gJoined (by rfl)) pa_nil)))) (pe_fldK (K := K) rfl (pv 1) rfl) (pe_c D_told_images hr (by decide) (by rfl) (pa_cons (pv 1) (pa_cons (pv 2) pa_nil)))))
      (pss_cons (ps_if (pt_cmpR op_gt (pe_callB call_lenD (by rfl) T.len (by decide +kernel) (pa_cons (pv 3) pa_nil)) (pe_gv T.gMOST_LETTERS (by rfl)) (nomark _))
        (pss_one (ps_raise2 E_TooMany rfl (takes_of rfl rfl rfl rfl) hr (by decide) (by rfl) (pa_cons pe_str (pa_cons (pe_gv T.gMOST_LETTERS (by rfl)) pa_nil))))
        pss_nil)
      (pss_cons (ps_fld (pv 0) (pe_callTy (call_tuple_ofK (K := K) rfl) (by rfl) T.tuple (by decide +kernel) (pa_cons (pe_lc (own := [("letter", 4)]) (g := gName 4) (by rfl) sc_Misreading_init.nd (pi_str (pe_gv T.gLETTERS (by rfl))) (blkOk_by (own := [("letter", 4)]) (N := n_Misreading_init) (sc := defScope s_Misreading_init) (by decide +kernel)) (fun _ _ _ _ _ => (pg_name (i := 4) sc_Misreading_init.nd rfl (.inl rfl))) (fun _ _ _ _ _ => (pts_one (pt_cmp (pc_din (hu_of hr) (pv 4) (pv 3))))) (fun _ _ _ _ _ => (pv 4))) pa_nil)) rfl)
      (pss_cons (ps_fld (pv 0) (pe_dc (own := [("letter", 4)]) (g := gName 4) (by rfl) sc_Misreading_init.nd (pi_tup (pe_fldK (K := K) rfl (pv 0) rfl)) (blkOk_by (own := [("letter", 4)]) (N := n_Misreading_init) (sc := defScope s_Misreading_init) (by decide +kernel)) (fun _ _ _ _ _ => (pg_name (i := 4) sc_Misreading_init.nd rfl (.inl rfl))) (fun _ _ _ _ _ => pts_nil) (fun _ _ _ _ _ => (pv 4)) (fun _ _ _ _ _ => (pe_dget (hu_of hr) (pv 3) (pv 4) (fun _ _ => rfl)))) rfl)
      (pss_one (ps_fld (pv 0) (pe_callTy (call_tuple_ofK (K := K) rfl) (by rfl) T.tuple (by decide +kernel) (pa_cons (pe_lc (own := [("letter", 4)]) (g := gName 4) (by rfl) sc_Misreading_init.nd (pi_tup (pe_fldK (K := K) rfl (pv 0) rfl)) (blkOk_by (own := [("letter", 4)]) (N := n_Misreading_init) (sc := defScope s_Misreading_init) (by decide +kernel)) (fun _ _ _ _ _ => (pg_name (i := 4) sc_Misreading_init.nd rfl (.inl rfl))) (fun _ _ _ _ _ => (pts_one (pt_cmpR op_ne (pe_dget (hu_of hr) (pv 3) (pv 4) (fun _ _ => rfl)) (pv 4) (nomark _)))) (fun _ _ _ _ _ => (pv 4))) pa_nil)) rfl)))))), ?_⟩
    refine ⟨_, rfl, _, .ref CJ, .ref CJ, .ref CJ, true, rfl, .own _, .base (.ins hj T.clJ T.jA T.tB T.tC T.jD), T.JJ, true, rfl, ?_⟩
    refine iteT ?_
    refine ⟨_, rfl, j, CJ, dj, _, _, rfl, hj, T.clJ, T.nJ, fJ_i r, ?_⟩
    refine ⟨_, rfl, r, _, rfl, hr1, _, _, rfl, rfl, _, rfl, ?_⟩
    rw [encT_len, decide_eq_true (by show (12 : Int) < (u.length : Int); omega)]
    refine iteT ⟨by show 2 ≤ 1000; decide, fun a na => ?_⟩
    exact made2 E_TooMany.oc E_TooMany.n1 E_TooMany.n2 (by decide +kernel) (by decide) (by decide +kernel) q a na
theorem mkrMX_of {CXa : CXT} {f : Addr} {fd : FuncData} (F : FunD K "__init__" "Misreading.__init__" (defArgs s_Misreading_init) (defBody s_Misreading_init) (defScope s_Misreading_init) [.str (Sx [])] [] f fd) (T : Tz K mg CM CJ)
    (D_told_images : Df P w K mg base 4 "told_images" spTold) (E_TooMany : ErmT P w K mg base CT) (M : Mk K CM f) (hm : mg "Misreading" = some (.ref CM)) : MkrMX P w K mg base CM CJ CT := by
  refine ⟨f, fd, M, FnOk.either (ok_initJ F T D_told_images) (ok_initT F T D_told_images E_TooMany), hm, ?_⟩
  obtain ⟨ds, h1, h2⟩ := F.binds1 (ps := pI) 2 0 (fun z => nomatch z) rfl (fun T kV doc pm an cdv ct us its h1 h2 => match us, its, h1, h2 with | [_, _], [_], _, _ => ⟨_, rfl, rfl⟩)
  exact ⟨ds, h1, h2⟩
end
section
variable {X : Cx} {j : Nat} {CM CJ CT : Addr} {p pos : Pos} {e : Expr} {es : List Expr} {t : TA} {E : XK}
theorem pe_mkMJX (M : MkrMX X.prog X.w X.K X.mg X.base CM CJ CT) (hx : Passes (L2.CX X.prog X.w) X E) (hr : Room j X.A) (hj : 6 ≤ j) (hg : Gl X "Misreading") (ha : PA X (e :: es) t) (he : starEach (e :: es) X.env = (false, eval e X.env) :: starEach es X.env := by rfl) (hpl : (backTo pos (starEach es X.env)).any (·.1) = false := by rfl) :
    PE X (.Call (.Name "Misreading" p) (e :: es) [] pos) (tMkMJX CM CJ CT E t) := by
  obtain ⟨f, fd, M, F, hm, ds, hd, b1⟩ := M.ex
  refine ⟨fun pins s σ H Q I h => ?_⟩
  refine wpAny_Call_Name_kw (ld_glob I hg hm ?_ (by decide))
  refine PySem.W.callWith_K (h₀ := X.base) I.ok.mod.kin M.kp (thn (ha.run pos pins s σ H _ I h) fun us s1 ⟨vs, H1, I1, r, q⟩ => ⟨I1.kIn, ?_⟩) he hpl
  obtain ⟨j, dj, d, tb, rfl, hj1, hd1, q⟩ := q
  refine run_make M F (hr.mono hj) b1 hd hx I1 r fun x dx hx1 hdx ne => ?_
  have up : ∀ b o, H1 b = some o → upd (upd H1 dx (.own x)) x (.ins CM dx []) b = some o := fun b o eo => by
    rw [upd_ne (ne_of_none eo hx1), upd_ne (ne_of_none eo hdx)]
    exact eo
  rcases q with ⟨l12, q⟩ | ⟨l1, l2, q⟩
  · exact .inl ⟨x, dx, j, dj, d, tb, rfl, upd_same, up _ _ hj1, up _ _ hd1, l12, fun H' m fr => ⟨rfl, q x H' hx1 m.mis fun b o eo => fr b o (up _ _ eo) (ne_of_none eo hx1)⟩⟩
  · refine .inr ⟨x, dx, j, dj, d, tb, rfl, upd_same, up _ _ hj1, up _ _ hd1, l1, l2, fun d2 H' n2 sm h2 => q d2 H' ?_ (fun b o eo => sm b o (up _ _ eo)) h2⟩
    cases e2 : H1 d2 with
    | none => rfl
    | some o =>
      rw [up _ _ e2] at n2
      cases n2
end
end V8

set_option Elab.async false
set_option linter.all false
set_option maxRecDepth 100000
set_option maxHeartbeats 8000000
/-! Texts of any signs: whether they are letters alone; words of a letter and its image. -/
namespace V8
open PySem PySem.Spec PyProof.Rows L2
abbrev s_is_told : Stmt := topS 34
abbrev n_is_told : List Str := ["word"]
theorem sc_is_told : FnScope ["word"] ["word"] (defScope s_is_told) := ⟨rfl, rfl, rfl, by decide +kernel, rfl, by decide +kernel, by decide +kernel⟩
def okL (s : List Nat) : Bool := s.all fun c => decide (isLt c)
theorem okL_iff {s : List Nat} : okL s = true ↔ ∀ c ∈ s, isLt c := by
  unfold okL
  rw [List.all_eq_true]
  exact ⟨fun h c hc => of_decide_eq_true (h c hc), fun h c hc => decide_eq_true (h c hc)⟩
def imgB (s : List Nat) : Bool := okL s && decide (1 ≤ s.length ∧ s.length ≤ 4)
def toldB : List Nat → Bool
  | c :: d :: s => decide (isLt c) && (d == 58) && imgB s
  | _ => false
theorem abc_has (c : Nat) : abcS.cps.contains c = decide (isLt c) := by
  have h : abcS.cps.contains c = true ↔ isLt c := by
    rw [Array.contains_iff_mem, ← Array.mem_toList_iff, abcS_cps]
    exact abc_mem
  by_cases e : isLt c
  · rw [decide_eq_true e, h.mpr e]
  · rw [decide_eq_false e]
    cases z : abcS.cps.contains c with
    | false => rfl
    | true => exact absurd (h.mp z) e
theorem mem_tw {p : Nat → Bool} {c : Nat} : ∀ {m : List Nat}, c ∈ m.takeWhile p → p c = true
  | [], h => by cases h
  | a :: m, h => by
    rw [List.takeWhile_cons] at h
    by_cases q : p a = true
    · rw [if_pos q] at h
      rcases List.mem_cons.mp h with rfl | h
      · exact q
      · exact mem_tw h
    · rw [if_neg q] at h
      cases h
theorem tw_less {p : Nat → Bool} {l : List Nat} {c : Nat} (hc : c ∈ l) (hp : p c = false) : (l.takeWhile p).length < l.length := by
  rcases Nat.lt_or_ge (l.takeWhile p).length l.length with h | h
  · exact h
  · have e := (List.takeWhile_prefix p (l := l)).eq_of_length_le h
    rw [← e] at hc
    rw [mem_tw hc] at hp
    cases hp
theorem strip_some {z : List Nat} {c : Nat} (hc : c ∈ z) (hn : ¬ isLt c) : (Txt.stripChars (Sx z) abcS).length ≠ 0 := by
  have hp : abcS.cps.contains c = false := by rw [abc_has, decide_eq_false hn]
  have hl : stripLo abcS.cps.contains true (Sx z) = (z.takeWhile abcS.cps.contains).length := by
    unfold stripLo
    rw [if_pos rfl]
    rfl
  unfold Txt.stripChars
  rw [stripBy_eq, hl]
  have e := TL.tl_strSub (Sx z) (z.takeWhile abcS.cps.contains).length (stripHi abcS.cps.contains true (Sx z) (z.takeWhile abcS.cps.contains).length)
  have e2 : TL.tl (Sx z) = z := rfl
  rw [e2] at e
  have e3 := congrArg List.length e
  have ed : z.drop (z.takeWhile abcS.cps.contains).length = z.dropWhile abcS.cps.contains := by
    conv => lhs; arg 2; rw [← List.takeWhile_append_dropWhile (p := abcS.cps.contains) (l := z)]
    rw [List.drop_left]
  have hh : stripHi abcS.cps.contains true (Sx z) (z.takeWhile abcS.cps.contains).length = z.length - ((z.dropWhile abcS.cps.contains).reverse.takeWhile abcS.cps.contains).length := by
    unfold stripHi
    rw [if_pos rfl, ← ed]
    rfl
  have hm : c ∈ (z.dropWhile abcS.cps.contains).reverse := by
    rw [List.mem_reverse]
    have h1 := hc
    rw [← List.takeWhile_append_dropWhile (p := abcS.cps.contains) (l := z)] at h1
    rcases List.mem_append.mp h1 with h | h
    · exfalso
      rw [mem_tw h] at hp
      cases hp
    · exact h
  have hw := tw_less hm hp
  have hs : (z.takeWhile abcS.cps.contains).length + (z.dropWhile abcS.cps.contains).length = z.length := by
    rw [← List.length_append, List.takeWhile_append_dropWhile]
  rw [List.length_reverse] at hw
  rw [ed, hh, List.length_take] at e3
  rw [hh]
  intro h0
  have e4 := e3.symm.trans h0
  omega
theorem cut_take (w : List Nat) (n : Nat) : cutS (Sx w) none (some (n : Int)) = Sx (w.take n) := by
  unfold cutS
  rw [HT.sIx_none, HT.sIx_nat]
  show (⟨((w.drop 0).take (_ - 0)).toArray⟩ : Str) = ⟨_⟩
  rw [List.drop_zero, Nat.sub_zero]
  congr 2
  have : (Sx w).length = w.length := Sx_len w
  rw [this]
  rcases Nat.le_total n w.length with h | h
  · rw [Nat.min_eq_left h]
  · rw [Nat.min_eq_right h, List.take_of_length_le (Nat.le_refl _), List.take_of_length_le h]
theorem cut_drop (w : List Nat) (n : Nat) : cutS (Sx w) (some (n : Int)) none = Sx (w.drop n) := by
  unfold cutS
  rw [HT.sIx_none, HT.sIx_nat]
  have : (Sx w).length = w.length := Sx_len w
  rw [this]
  show (⟨((w.drop _).take _).toArray⟩ : Str) = ⟨_⟩
  congr 2
  rcases Nat.le_total n w.length with h | h
  · rw [Nat.min_eq_left h, List.take_of_length_le (by rw [List.length_drop]; exact Nat.le_refl _)]
  · rw [Nat.min_eq_right h, List.drop_length, List.drop_of_length_le h, List.take_nil]
theorem cut_one (w : List Nat) : cutS (Sx w) (some 1) (some 2) = Sx ((w.drop 1).take 1) := by
  unfold cutS
  have h1 : HT.sIx (Sx w).length 0 (some 1) = min 1 (Sx w).length := HT.sIx_nat _ _ 1
  have h2 : HT.sIx (Sx w).length (Sx w).length (some 2) = min 2 (Sx w).length := HT.sIx_nat _ _ 2
  rw [h1, h2, Sx_len]
  match w with
  | [] => rfl
  | [x] => rfl
  | x :: y :: r =>
    have a1 : min 1 (x :: y :: r).length = 1 := by
      rw [List.length_cons, List.length_cons]
      omega
    have a2 : min 2 (x :: y :: r).length = 2 := by
      rw [List.length_cons, List.length_cons]
      omega
    rw [a1, a2]
    rfl
def spAllG : Sp := fun vs H Q _ => ∃ z : List Nat, vs = [.str (Sx z)] ∧ z.length ≤ 2000 ∧ Q (.bl (okL z)) H
def spImageG : Sp := fun vs H Q _ => ∃ z : List Nat, vs = [.str (Sx z)] ∧ z.length ≤ 2000 ∧ Q (.bl (imgB z)) H
def spTold1 : Sp := fun vs H Q _ => ∃ z : List Nat, vs = [.str (Sx z)] ∧ z.length ≤ 2000 ∧ Q (.bl (toldB z)) H
section
variable {P : Program} {w : World} {K : PySem.W.Frag} {mg : Str → Option Value} {base : Heap} {CM CJ : Addr}
theorem ok_all_lettersG {f : Addr} {fd : FuncData} (F : Fun K "all_letters" "all_letters" s_all_letters f fd) (T : Tx K mg CM CJ) : FnOk P w K mg base CX0 1 f fd ["string"] spAllG := by
  refine F.ok sc_all_letters (fun vs H Q E h => ?_) (fun cdv A outer s H vs Q E hr h => ?_)
  · obtain ⟨z, rfl, _⟩ := h
    rfl
  · obtain ⟨z, rfl, h2, q⟩ := h
    refine ⟨_, (pss_one (ps_ret (pe_notTK (K := K) rfl (pe_bmK (K := K) rfl PySem.F.plainAttrs_str PySem.F.slot_str_strip PySem.F.type_str_strip mt_stripChars (pv 0) (pa_cons (pe_gv T.gLETTERS (by rfl)) pa_nil))))), ?_⟩
    have hz : (Sx z).length ≤ sizeLine := by rw [Sx_len, sizeLine_eq]; omega
    refine ⟨_, rfl, rfl, _, abcS, rfl, rfl, hz, !okL z, ⟨?_, ?_⟩, ?_⟩
    · exact Nat.le_trans (len_stripChars _ _) hz
    · by_cases e : okL z = true
      · rw [strip_all (okL_iff.mp e), e]
        rfl
      · have e' : okL z = false := by simpa using e
        rw [e']
        have : ∃ c ∈ z, ¬ isLt c := by
          apply Classical.byContradiction
          intro n
          refine e (okL_iff.mpr fun c hc => ?_)
          apply Classical.byContradiction
          intro m
          exact n ⟨c, hc, m⟩
        obtain ⟨c, hc, hn⟩ := this
        have z3 : ((Txt.stripChars (Sx z) abcS).length : Int) ≠ 0 := by
          have := strip_some hc hn
          omega
        exact (bne_iff_ne.mpr z3).symm
    · rw [Bool.not_not]
      exact q
theorem ok_is_textG {f : Addr} {fd : FuncData} (F : Fun K "is_text" "is_text" s_is_text f fd) (T : Tx K mg CM CJ) (D_all_letters : Df P w K mg base 1 "all_letters" spAllG) : FnOk P w K mg base CX0 2 f fd ["value"] spAllG := by
  refine F.ok sc_is_text (fun vs H Q E h => ?_) (fun cdv A outer s H vs Q E hr h => ?_)
  · obtain ⟨z, rfl, _⟩ := h
    rfl
  · obtain ⟨z, rfl, h2, q⟩ := h
    refine ⟨_, (pss_one (ps_ret (pe_and (pe_callB call_isi (by rfl) T.isinstance (by decide +kernel) (pa_cons (pv 0) (pa_cons (pe_bltn (v := .ty "str") (by rfl) T.str (by decide +kernel) rfl) pa_nil))) (pe_and (pe_cmpR op_le (pe_callB call_len_str (by rfl) T.len (by decide +kernel) (pa_cons (pv 0) pa_nil)) (pe_gv T.gLONGEST (by rfl)) (nomark _)) (pe_one (pe_c D_all_letters hr (by decide) (by rfl) (pa_cons (pv 0) pa_nil))))))), ?_⟩
    have hz : (Sx z).length ≤ sizeLine := by rw [Sx_len, sizeLine_eq]; omega
    refine ⟨_, rfl, _, .ty "str", .type "str", .type "str", true, rfl, .ty _, ty_str _, kit_ty (by decide +kernel), true, rfl, ?_⟩
    refine ⟨_, rfl, _, rfl, hz, _, _, rfl, rfl, true, ?_, ?_⟩
    · rw [Sx_len]
      exact dec_t (show (z.length : Int) ≤ 2000 by omega)
    · exact ⟨_, rfl, z, rfl, h2, q⟩
theorem ok_is_imageG {f : Addr} {fd : FuncData} (F : Fun K "is_image" "is_image" s_is_image f fd) (T : Tx K mg CM CJ) (D_is_text : Df P w K mg base 2 "is_text" spAllG) : FnOk P w K mg base CX0 3 f fd ["value"] spImageG := by
  refine F.ok sc_is_image (fun vs H Q E h => ?_) (fun cdv A outer s H vs Q E hr h => ?_)
  · obtain ⟨z, rfl, _⟩ := h
    rfl
  · obtain ⟨z, rfl, h2, q⟩ := h
    refine ⟨_, (pss_one (ps_ret (pe_and (pe_c D_is_text hr (by decide) (by rfl) (pa_cons (pv 0) pa_nil)) (pe_one (pe_chain op_le op_le pe_int (pe_callB call_len_str (by rfl) T.len (by decide +kernel) (pa_cons (pv 0) pa_nil)) (pe_gv T.gLONGEST_TOLD (by rfl))))))), ?_⟩
    have hz : (Sx z).length ≤ sizeLine := by rw [Sx_len, sizeLine_eq]; omega
    refine ⟨_, rfl, z, rfl, h2, okL z, rfl, ?_⟩
    unfold imgB at q
    cases e : okL z with
    | false =>
      rw [e] at q
      exact q
    | true =>
      rw [e, Bool.true_and] at q
      refine ⟨_, rfl, _, rfl, hz, _, _, rfl, rfl, decide (1 ≤ z.length), ?_, ?_⟩
      · show V.bl (decide ((1 : Int) ≤ ((Sx z).length : Int))) = _
        rw [Sx_len]
        congr 1
        exact decide_eq_decide.mpr (by omega)
      by_cases g : 1 ≤ z.length
      · rw [decide_eq_true g]
        refine ⟨_, _, rfl, rfl, ?_⟩
        show Q (V.bl (decide (((Sx z).length : Int) ≤ 4))) H
        rw [Sx_len]
        have e5 : decide ((z.length : Int) ≤ 4) = decide (1 ≤ z.length ∧ z.length ≤ 4) := decide_eq_decide.mpr (by omega)
        rw [e5]
        exact q
      · rw [decide_eq_false g]
        rw [decide_eq_false (fun h => g h.1)] at q
        exact q
theorem ok_is_told {f : Addr} {fd : FuncData} (F : Fun K "is_told" "is_told" s_is_told f fd) (T : Tx K mg CM CJ) (D_is_letter : Df P w K mg base 1 "is_letter" (spIsLetter K)) (D_is_image : Df P w K mg base 3 "is_image" spImageG) : FnOk P w K mg base CX0 4 f fd ["word"] spTold1 := by
  refine F.ok sc_is_told (fun vs H Q E h => ?_) (fun cdv A outer s H vs Q E hr h => ?_)
  · obtain ⟨z, rfl, _⟩ := h
    rfl
  · obtain ⟨z, rfl, h2, q⟩ := h
    refine ⟨_, (pss_one (ps_ret (pe_and (pe_c D_is_letter hr (by decide) (by rfl) (pa_cons (pe_slice sl_str (pv 0) po_none (po_some pe_int)) pa_nil)) (pe_and (pe_cmpR op_eq (pe_slice sl_str (pv 0) (po_some pe_int) (po_some pe_int)) pe_str (nomark _)) (pe_one (pe_c D_is_image hr (by decide) (by rfl) (pa_cons (pe_slice sl_str (pv 0) (po_some pe_int) po_none) pa_nil))))))), ?_⟩
    have hz : (Sx z).length ≤ sizeLine := by rw [Sx_len, sizeLine_eq]; omega
    have t1 : cutS (Sx z) none (some 1) = Sx (z.take 1) := cut_take z 1
    have t2 : cutS (Sx z) (some 2) none = Sx (z.drop 2) := cut_drop z 2
    refine ⟨_, rfl, 1, rfl, Sx z, rfl, hz, _, rfl, ?_⟩
    rw [t1]
    match z, hz, h2, q, t2 with
    | [], _, _, q, _ => exact .inr (.inl ⟨_, rfl, by decide, by decide, false, rfl, q⟩)
    | c :: s, hz, h2, q, t2 =>
      refine .inl ⟨c, rfl, decide (c ∈ abc), rfl, ?_⟩
      by_cases hc : isLt c
      · rw [decide_eq_true (abc_mem.mpr hc)]
        refine ⟨_, rfl, 1, rfl, 2, rfl, Sx (c :: s), rfl, hz, ?_⟩
        rw [cut_one]
        match s, hz, h2, q, t2 with
        | [], _, _, q, _ => exact ⟨rfl, false, (show V.bl (decide (V.str (Sx []) = V.str ":")) = V.bl false from by decide +kernel), q⟩
        | d :: s, hz, h2, q, t2 =>
          have e1 : decide (V.str (Sx ((List.drop 1 (c :: d :: s)).take 1)) = V.str ":") = (d == 58) := by
            rw [colon]
            show decide (V.str (Sx [d]) = V.str (Sx [58])) = _
            by_cases e : d = 58
            · rw [e]
              rfl
            · rw [decide_eq_false (fun z => e (by have := Sx_inj (V.str.inj z); simpa using this))]
              exact (beq_eq_false_iff_ne.mpr e).symm
          refine ⟨rfl, (d == 58), by rw [e1], ?_⟩
          have q' : Q (.bl (decide (isLt c) && (d == 58) && imgB s)) H := q
          rw [decide_eq_true hc, Bool.true_and] at q'
          cases e : (d == 58) with
          | false =>
            rw [e] at q'
            exact q'
          | true =>
            rw [e, Bool.true_and] at q'
            exact ⟨_, rfl, 2, rfl, Sx (c :: d :: s), rfl, hz, s, by rw [t2]; rfl, by rw [List.length_cons, List.length_cons] at h2; omega, q'⟩
      · rw [decide_eq_false (fun z => hc (abc_mem.mp z))]
        cases s with
        | nil => exact q
        | cons d s =>
          have q' : Q (.bl (decide (isLt c) && (d == 58) && imgB s)) H := q
          rw [decide_eq_false hc] at q'
          exact q'
end
end V8

set_option Elab.async false
set_option linter.all false
set_option maxRecDepth 100000
set_option maxHeartbeats 4000000
/-! A classmethod called by the class's name, with keywords. -/
namespace L2
open PySem PySem.Spec PyProof.Rows ClX
section
variable {X : Cx} {CX : CXT} {k : Nat} {C p g f : Addr} {mc : Value} {sp : Sp} {E : XK} {o : Expr} {kws : List Keyword} {m : Str} {pos apos : Pos} {ta : TE} {tk : TA} {pl : Sem Bool} {fd : FuncData} {ps ks : List Str} {gg : List Value → List Value → List Value} {gV : List V → List V → List V}
theorem run_fnkC {pins : List (Addr × Obj)} {σ : L2.St} {H : Hp} {s : Shared} {Q : VK} {us ws : List Value} {vs zs : List V} (F : FnOk X.prog X.w X.K X.mg X.base CX k f fd ps sp) (hr : Room k X.A) (hb : KBinds X.K fd ps ks gg gV) (hx : Passes CX X E)
    (I : Inv X pins σ H s) (r : Vals vs us) (rz : Vals zs ws) (h : sp (gV vs zs) H Q E) : codeAny (model X.prog X.w) X.A (.call (.ref f) ⟨us, ks.zip ws⟩) (fun r s' => match r with | .ok (.ret v) => EP X pins σ Q v s' | .ok _ => False | .error e => X.xe e s') s := by
  have r2 := hb.rel r rz
  have hl : (gg us ws).length = ps.length := by rw [← r2.length]; exact F.len _ _ _ _ h
  refine codeAny_mono (F.run X.A X.stack s H ⟨us, ks.zip ws⟩ (gg us ws) (gV vs zs) Q E hr I.env0 (hb.to s us ws I.kIn hl) r2 h) fun r s' hq => ?_
  cases r with
  | error e => exact hx pins σ H s e s' I hq
  | ok fl =>
    cases fl with
    | ret u => exact I.after hq
    | next => exact False.elim hq
    | brk => exact False.elim hq
    | cont => exact False.elim hq
def tCMethK (C : Addr) (sp : Sp) (gV : List V → List V → List V) (E : XK) (ta : TE) (tk : TA) : TE := fun σ H Q => ta σ H fun x H1 => x = .ref C ∧ tk σ H1 fun zs H2 => sp (gV [.ref C] zs) H2 Q E
theorem pe_cmethK (he : PE X o ta) (r : CRead X.K C mc) (c : CMet X.K C mc m p g) (F : FnOk X.prog X.w X.K X.mg X.base CX k g fd ps sp) (hr : Room k X.A) (hb : KBinds X.K fd ps ks gg gV) (hx : Passes CX X E) (hkw : PK X kws tk)
    (hall : (backToKw pos (keywordEach kws X.env)).all (·.1.isSome) = true := by rfl) (hks : (backToKw pos (keywordEach kws X.env)).filterMap (·.1) = ks := by rfl)
    (hpl : ((backTo pos (starEach [] X.env)).any (·.1) || (backToKw pos (keywordEach kws X.env)).any (·.1.isNone)) = false := by rfl)
    (ht : eval (.Call (.Attribute o m apos) [] kws pos) X.env = (do
      let ov ← eval o X.env
      standAt apos.atName
      let (f, first) ← holding [ov] (getMethod ov m pl)
      callWith pos f first (backTo pos (starEach [] X.env)) (backToKw pos (keywordEach kws X.env))) := by rfl) :
    PE X (.Call (.Attribute o m apos) [] kws pos) (tCMethK C sp gV E ta tk) := by
  refine ⟨fun pins s σ H Q I h => ?_⟩
  refine PySem.W.methodCall_KW (pl := pl) (thn (he.run pins s σ H _ I h) fun u s1 ⟨x, H1, I1, rx, ex, q⟩ => ?_) ht
  subst ex
  obtain rfl : u = Value.ref C := rx
  refine getmethcm_ok I1 r c fun s2 I2 => ?_
  refine PySem.W.callWith_of hpl (PySem.W.keeps_M (K := X.K) (self := .ref C) c.fi) (PyProof.Rows.evalArgs_kw2_nil hall (thn (hkw.run pos _ s2 σ H1 _ I2 q) fun ws s3 ⟨zs, H2, I3, rz, q2⟩ => ⟨⟨pin_at I3, I3.kIn⟩, ?_⟩))
  rw [hks]
  have z : wpAny (model X.prog X.w) X.A (call (.ref s1.heap.objs.size) ([] ++ []) (ks.zip ws)) (EP X ((s1.heap.objs.size, PySem.W.methodObj (.ref g) (.ref C)) :: pins) σ Q) X.xe s3 :=
    wpAny_call (PySem.W.method_call (pin_at I3) (run_fnkC (us := [.ref C]) (vs := [.ref C]) F hr hb hx I3 (.cons rfl .nil) rz q2))
  exact thn z fun _ _ y => unpinE y
end
end L2

set_option Elab.async false
set_option linter.all false
set_option maxRecDepth 100000
set_option maxHeartbeats 4000000
/-! Lambdas as values: made, kept in lists, called later by a def that gets them. -/
namespace LamX
open PySem PySem.Spec PyProof.Rows L2
/-- the object at f is known -/
def FnO (f : Addr) (o : Obj) : HO := .ext fun h => h.get? f = some o
/-- the object that a lambda of X makes -/
abbrev lamObj (X : Cx) (params : Arguments) (body : Expr) (scope : Scope) (pm ctv : Value) (c' : Addr) : Obj :=
  PySem.W.kla_obj "<lambda>" (X.env.qual ++ "<lambda>") params body scope (cloFrom X.env.cells scope.names []) pm c' ctv
/-- at f stands a lambda of X -/
def LamO (X : Cx) (H : Hp) (f : Addr) (params : Arguments) (body : Expr) (scope : Scope) : Prop :=
  ∃ (c' : Addr) (pm ctv : Value), H f = some (FnO f (lamObj X params body scope pm ctv c')) ∧ H c' = some (CodeO c' (X.env.qual ++ "<lambda>"))
theorem fnO_ne {f : Addr} {o : Obj} (ps : Array Value) : FnO f o ≠ .tbl ps := fun z => by
  unfold FnO at z
  cases z
theorem LamO.ext {X : Cx} {H H' : Hp} {f : Addr} {params : Arguments} {body : Expr} {scope : Scope} (l : LamO X H f params body scope) (e : ExtN H H') : LamO X H' f params body scope := by
  obtain ⟨c', pm, ctv, h1, h2⟩ := l
  exact ⟨c', pm, ctv, e _ _ h1 fnO_ne, e _ _ h2 codeO_ne⟩
theorem fnO_ok {P : Program} {w : World} {H : Hp} {h : Heap} {f : Addr} {o : Obj} (e : h.get? f = some o) : ObjOk P w H h f (FnO f o) :=
  ⟨e, ⟨o, e⟩, fun _ _ p k => k _ p⟩
section
variable {X : Cx} {pins : List (Addr × Obj)} {σ : L2.St} {H : Hp} {s : Shared}
/-- a lambda is made, and its object is known from now on -/
theorem lam_made {T : List (Addr × Str)} {c P : Addr} {params : Arguments} {body : Expr} {scope : Scope} {pos : Pos} {E : Value → Shared → Prop} {Q : Value → Shared → Prop} (I : Inv X pins σ H s) (TB : TabB X.base X.mg c P) (hcode : X.env.code = .ref c)
    (hm : (P, X.env.qual ++ "<lambda>") ∈ T) (hu : ∀ p ∈ T, p.1 = P → p.2 = X.env.qual ++ "<lambda>") (hT : Tabs T H) (hdef : defaultsOf params X.env = ([], []))
    (hfree : ∀ y ∈ scope.names, y.2 = .free → ∃ c, X.env.cells.lookup y.1 = some c)
    (k : ∀ (f : Addr) (H1 : Hp) (s' : Shared), Inv X pins σ H1 s' → ExtN H H1 → Tabs T H1 → H f = none → LamO X H1 f params body scope → Q (.ref f) s') :
    wpAny (model X.prog X.w) X.A (eval (.Lambda params body scope pos) X.env) Q E s := by
  have here := hT _ hm
  obtain ⟨ps, hP, trip, among⟩ := here
  have oP : s.heap.get? P = some { cls := .none, data := .fields ps } := I.hok P _ hP
  have gl := I.mod.glob.keeps I.bk
  have cd := TB.code.keeps I.bk
  have bP := TB.bm.keeps I.bk
  refine PySem.W.kla_eval hdef ?_
  cases hc : codeAmong pos ps.toList with
  | some cv =>
    obtain ⟨c1, rfl, known⟩ := among pos cv hc
    refine PySem.W.kla_makeFunctionHit (mg := X.mg) (c := c) (P := P) (ps := ps) (closure_ok hfree) I.ok.glob gl hcode cd oP trip hc bP fun ctv h1 tk hx hsz => ?_
    have J : Inv X pins σ H { s with heap := h1, toks := tk } := I.kept fun b o e => hx b o e
    have new : H h1.objs.size = none := I.hok.fresh hsz
    have J2 := J.laid (a := h1.objs.size) (t' := tk) (h' := h1.push (lamObj X params body scope ((X.mg "__name__").getD .none) ctv c1)) (o := FnO h1.objs.size (lamObj X params body scope ((X.mg "__name__").getD .none) ctv c1))
      (fun b u e => Heap.get?_push_of_some _ e) (Nat.le_refl _) (fnO_ok (Heap.get?_push_size _ rfl))
    have eN : ExtN H (upd H h1.objs.size (FnO h1.objs.size (lamObj X params body scope ((X.mg "__name__").getD .none) ctv c1))) := fun b o e _ => by
      rw [upd_ne (ne_of_none e new)]
      exact e
    exact k _ _ _ J2 eN (hT.ext fun b o e => by rw [upd_ne (ne_of_none e new)]; exact e) new ⟨c1, _, _, upd_same, eN _ _ known codeO_ne⟩
  | none =>
    refine PySem.W.kla_makeFunction (mg := X.mg) (c := c) (P := P) (ps := ps) (closure_ok hfree) I.ok.glob gl hcode cd oP trip hc TB.gP bP fun c1 ctv h1 tk hx hge hlt hrec htb => ?_
    obtain ⟨c2, oc, vs, t, e2, hoc, hd, hv⟩ := hrec
    cases e2
    have nC : H c1 = none := I.hok.fresh hge
    have J := inv_table (t' := tk) (more := #[rawInt pos.line, rawInt pos.col, .ref c1]) (h' := h1) I hP hx htb hge ⟨oc, vs, t, hoc, hd, hv⟩
    have hsz : s.heap.objs.size ≤ h1.objs.size := Nat.le_trans hge (Nat.le_of_lt hlt)
    have new0 : H h1.objs.size = none := I.hok.fresh hsz
    have new : upd (upd H P (.tbl (ps ++ #[rawInt pos.line, rawInt pos.col, .ref c1]))) c1 (CodeO c1 (X.env.qual ++ "<lambda>")) h1.objs.size = none := J.hok.fresh (Nat.le_refl _)
    have J2 := J.laid (a := h1.objs.size) (t' := tk) (h' := h1.push (lamObj X params body scope ((X.mg "__name__").getD .none) ctv c1)) (o := FnO h1.objs.size (lamObj X params body scope ((X.mg "__name__").getD .none) ctv c1))
      (fun b u e => Heap.get?_push_of_some _ e) (Nat.le_refl _) (fnO_ok (Heap.get?_push_size _ rfl))
    have eA : ExtN H (upd (upd H P (.tbl (ps ++ #[rawInt pos.line, rawInt pos.col, .ref c1]))) c1 (CodeO c1 (X.env.qual ++ "<lambda>"))) := fun b o e n => by
      have h1 : b ≠ P := fun z => by
        rw [z, hP] at e
        exact n ps (Option.some.inj e).symm
      rw [upd_ne (ne_of_none e nC), upd_ne h1]
      exact e
    have known : upd (upd H P (.tbl (ps ++ #[rawInt pos.line, rawInt pos.col, .ref c1]))) c1 (CodeO c1 (X.env.qual ++ "<lambda>")) c1 = some (CodeO c1 (X.env.qual ++ "<lambda>")) := upd_same
    have tA : Tabs T (upd (upd H P (.tbl (ps ++ #[rawInt pos.line, rawInt pos.col, .ref c1]))) c1 (CodeO c1 (X.env.qual ++ "<lambda>"))) := fun p hp => by
      by_cases hb : p.1 = P
      · rw [hu p hp hb, hb]
        refine ⟨ps ++ #[rawInt pos.line, rawInt pos.col, .ref c1], by rw [upd_ne (ne_of_none hP nC), upd_same], ?_, fun p2 cv hcv => ?_⟩
        · rw [Array.toList_append]
          exact PySem.TriplesOk_snoc _ _ _ _ trip
        · rw [Array.toList_append] at hcv
          rcases among_app _ trip hcv with z | z
          · obtain ⟨c0, e1, e3⟩ := among p2 cv z
            exact ⟨c0, e1, eA _ _ e3 codeO_ne⟩
          · exact ⟨c1, z, known⟩
      · obtain ⟨qs, a1, a2, a3⟩ := hT p hp
        refine ⟨qs, by rw [upd_ne (ne_of_none a1 nC), upd_ne hb]; exact a1, a2, fun p2 cv hcv => ?_⟩
        obtain ⟨c0, e1, e3⟩ := a3 p2 cv hcv
        exact ⟨c0, e1, eA _ _ e3 codeO_ne⟩
    generalize upd (upd H P (.tbl (ps ++ #[rawInt pos.line, rawInt pos.col, .ref c1]))) c1 (CodeO c1 (X.env.qual ++ "<lambda>")) = HA at J J2 new eA known tA
    have st : ∀ b o, HA b = some o → upd HA h1.objs.size (FnO h1.objs.size (lamObj X params body scope ((X.mg "__name__").getD .none) ctv c1)) b = some o := fun b o e => by
      rw [upd_ne (ne_of_none e new)]
      exact e
    exact k _ _ _ J2 (eA.trans (ExtN.of st)) (tA.ext st) new0 ⟨c1, _, _, upd_same, st _ _ known⟩
/-- a lambda as a value -/
theorem pe_lamV {T : List (Addr × Str)} {c P : Addr} {params : Arguments} {body : Expr} {scope : Scope} {pos : Pos} (TB : TabB X.base X.mg c P) (hcode : X.env.code = .ref c) (hm : (P, X.env.qual ++ "<lambda>") ∈ T)
    (hu : ∀ p ∈ T, p.1 = P → p.2 = X.env.qual ++ "<lambda>") (L : LamS X.env.scope scope) (hdef : defaultsOf params X.env = ([], [])) :
    PE X (.Lambda params body scope pos) (fun _ H Q => Tabs T H ∧ ∀ f H1, ExtN H H1 → Tabs T H1 → H f = none → LamO X H1 f params body scope → Q (.ref f) H1) := by
  refine ⟨fun pins s σ H Q I h => ?_⟩
  obtain ⟨hT, h⟩ := h
  exact lam_made I TB hcode hm hu hT hdef (L.has I.ok) fun f H1 s' J eN tA nf l => ⟨.ref f, H1, J, rfl, h f H1 eN tA nf l⟩
end
end LamX

set_option Elab.async false
set_option linter.all false
set_option maxRecDepth 100000
set_option maxHeartbeats 4000000
/-! A def that calls what it got, where what it got is a lambda kept before. -/
namespace LamX
open PySem PySem.Spec PyProof.Rows L2
/-- what a lambda of X must be -/
structure LamOk (X : Cx) (k : Nat) (params : Arguments) (body : Expr) (scope : Scope) (t : XK → TE) : Prop where
  own : LamS X.env.scope scope
  bind : ∀ (q : Str) (cl : List (Str × Addr)) (pm cv ctv : Value), bindArgs (PySem.W.kla_fn "<lambda>" q params body scope cl pm cv ctv) ⟨[], []⟩ = pure []
  reads : ∀ (A : Around) (outer : List Env) (s : Shared) (H : Hp) (E : XK) (f c' : Addr), Room k (A.deeper (lamEnv X scope s.heap.objs.size f c')) → PE (lamCx X A outer s H E scope f c') body (t E)
/-- a def x(a) that calls a: f stands for what it got, Kn is what is known of f -/
def GivesK (X : Cx) (Ng : List Str) (x : Str) (sg : Scope) (g : Addr) (cdg : Value) (bg : List Stmt) (a : Str) (TT : (XK → Hp → VK → Prop) → Hp → VK → Prop) : Prop :=
  ∀ (f : Addr) (Kn : Hp → Prop) (s : Shared) (H : Hp) (Q : VK) (tl : XK → Hp → VK → Prop), (∀ H H' : Hp, Kn H → (∀ b o, H b = some o → H' b = some o) → Kn H') →
    (∀ (W : WX) (pn : List (Addr × Obj)) (xe : Value → Shared → Prop) (E : XK) (p1 p2 : Pos), Takes ((cxOf C8.CX0 X.prog X.w X.K X.mg X.base Ng x sg g cdg X.A X.stack s H C8.E0).tr pn xe) W → (∀ cls d σ' H', E cls d H' → W cls d σ' H') →
      PE ((cxOf C8.CX0 X.prog X.w X.K X.mg X.base Ng x sg g cdg X.A X.stack s H C8.E0).tr pn xe) (.Call (.Name a p1) [] [] p2) (fun σZ HZ Q => σZ[0]? = some (some (.ref f)) ∧ Kn HZ ∧ tl E HZ Q)) →
    Kn H → TT tl H Q →
    ∃ t, PSs (cxOf C8.CX0 X.prog X.w X.K X.mg X.base Ng x sg g cdg X.A X.stack s H C8.E0).nox bg t ∧ t { nx := fun _ H' => Q .non H', rt := Q } (L2.start Ng [.ref f]) H
theorem GivesK.to {X : Cx} {Ng : List Str} {x a q : Str} {sg : Scope} {g : Addr} {cdg : Value} {bg : List Stmt} {TT : (XK → Hp → VK → Prop) → Hp → VK → Prop} (G : GivesK X Ng x sg g cdg bg a TT) : GivesTo X Ng x sg g cdg bg a q TT :=
  fun f c' s H Q tl act hc h => G f (fun HZ => HZ c' = some (CodeO c' q)) s H Q tl (fun _ _ z e => e _ _ z) act hc h
section
variable {X : Cx} {pins : List (Addr × Obj)} {σ : L2.St} {H : Hp} {s : Shared}
/-- a() in the def that got a kept lambda -/
theorem act_kept {CXg : CXT} {Eg : XK} {Ng : List Str} {qg : Str} {sg : Scope} {g f c1 : Addr} {cdg pm ctv : Value} {params : Arguments} {body : Expr} {scope : Scope} {k i : Nat} {a : Str} {pn : List (Addr × Obj)} {xe : Value → Shared → Prop} {W : WX} {E : XK} {t : XK → TE} {p1 p2 : Pos}
    (I : Inv X pins σ H s) (l : LamOk X k params body scope t) (tk : Takes ((cxOf CXg X.prog X.w X.K X.mg X.base Ng qg sg g cdg X.A X.stack s H Eg).tr pn xe) W) (hW : ∀ cls d σ' H', E cls d H' → W cls d σ' H')
    (room : Room (k + 1) (X.A.deeper (envOfC qg sg s.heap.objs.size g cdg))) (hN : Ng[i]? = some a) (hv : Vis sg a) (hd : (a == ("__debug__" : Str)) = false := by decide) (hcd : (a == ("__classdict__" : Str)) = false := by decide) :
    PE ((cxOf CXg X.prog X.w X.K X.mg X.base Ng qg sg g cdg X.A X.stack s H Eg).tr pn xe) (.Call (.Name a p1) [] [] p2)
      (fun σZ HZ Q => σZ[i]? = some (some (.ref f)) ∧ (HZ f = some (FnO f (lamObj X params body scope pm ctv c1)) ∧ HZ c1 = some (CodeO c1 (X.env.qual ++ "<lambda>"))) ∧ t E σ HZ Q) := by
  have own := l.own
  refine ⟨fun pinsZ sZ σZ HZ Q IZ h => ?_⟩
  obtain ⟨at_, ⟨kf, kc⟩, rest⟩ := h
  have name := (pe_var (pos := p1) (i := i) hN hv hd hcd).run pinsZ sZ σZ HZ (fun v H1 => v = .ref f ∧ H1 = HZ) IZ ⟨.ref f, at_, rfl, rfl⟩
  refine wpAny_Call_Name_kw (thn name fun u s1 z => ?_)
  obtain ⟨v, H1, J, rel, rfl, rfl⟩ := z
  obtain rfl : u = Value.ref f := rel
  have obj : s1.heap.get? f = some (lamObj X params body scope pm ctv c1) := (J.hok f _ kf).1
  have code := (J.hok c1 _ kc).1
  obtain ⟨oc, vs, tt, code1, code2, code3⟩ := code
  refine PySem.W.callWith_F0 ⟨_, _, _, _, obj⟩ ?_
  have ran : codeAny (model X.prog X.w) (X.A.deeper (envOfC qg sg s.heap.objs.size g cdg)) (.call (.ref f) ⟨[], []⟩) (CR (L2.CX X.prog X.w) (envOfC qg sg s.heap.objs.size g cdg :: X.stack) X.prog X.w H1 s1 Q E) s1 := by
    refine PySem.W.kla_callFunE room.depth obj rfl own.co own.gen rfl ⟨c1, oc, vs, tt, rfl, code1, code2, code3⟩ ?_
    rw [l.bind]
    refine wpAny_pure (wpAny_newFunctionEnv (fun y hy => (own.own y hy).2) (fun y hy => absurd hy (by simp)) (fun h₁ hns hsb => ?_) own.kind)
    refine ⟨J.nolimit.fresh _ hsb, ?_⟩
    have stay : ∀ b o, s1.heap.get? b = some o → h₁.get? b = some o := fun b o e => hsb.extBut b o (Nat.ne_of_lt (Heap.lt_size e)) (Heap.get?_push_of_some _ e)
    have start : Inv (lamCx X (X.A.deeper (envOfC qg sg s.heap.objs.size g cdg)) (envOfC qg sg s.heap.objs.size g cdg :: X.stack) s1 H1 E scope f c1) [] σ H1 { s1 with heap := h₁, toks := s1.toks + ([] : List (Str × Value)).length } :=
      lam_start2 I own J.env0 room.hd J.base hns stay
    have go := (l.reads _ _ s1 H1 E f c1 (room.deeper _)).run [] _ _ H1 Q start rest
    refine PySem.W.kla_codeExpr (wpAny_mono go (fun v s' hq => ?_) fun e s' hq => hq)
    obtain ⟨w', H', J', rv, q⟩ := hq
    exact ⟨w', H', J'.os, J'.bare, J'.base, J'.hok, rv, q⟩
  have out : Passes (L2.CX X.prog X.w) ((cxOf CXg X.prog X.w X.K X.mg X.base Ng qg sg g cdg X.A X.stack s H Eg).tr pn xe) E := passes_call tk hW
  refine wpAny_call (codeAny_mono ran fun r s' hq => ?_)
  match r, hq with
  | .error e, hq => exact out pinsZ σZ H1 s1 e s' J hq
  | .ok (.ret u), hq => exact J.after hq
  | .ok .next, hq => exact False.elim hq
  | .ok .brk, hq => exact False.elim hq
  | .ok .cont, hq => exact False.elim hq
/-- a kept lambda, handed on -/
def tLamV (X : Cx) (k : Nat) (TT : (XK → Hp → VK → Prop) → Hp → VK → Prop) (ta : TA) : TE := fun σ H Q => ta σ H fun vs H1 =>
  ∃ (f : Addr) (params : Arguments) (body : Expr) (scope : Scope) (t : XK → TE), vs = [.ref f] ∧ LamOk X k params body scope t ∧ LamO X H1 f params body scope ∧ TT (fun E H' Q' => t E σ H' Q') H1 Q
theorem pe_keptcall {TT : (XK → Hp → VK → Prop) → Hp → VK → Prop} {x a : Str} {g : Addr} {k : Nat} {pg : Arguments} {bg : List Stmt} {sg : Scope} {dV kV doc pm cdv ct oc : Value} {an od : Option Addr} {osl : Array (Option Value)} {Ng : List Str} {e : Expr} {ta : TA} {p pos : Pos}
    (hg : Gl X x) (hm : X.mg x = some (.ref g)) (hk : PySem.W.keepIn X.K (.ref g) = true) (lk : X.K.lookup g = some ⟨oc, od, .func (PySem.W.fnOf x x pg bg sg dV kV doc pm an cdv ct), osl⟩) (hcg : PySem.W.codeIn X.K cdv x = true)
    (hb : L2.Binds X.K (PySem.W.fnOf x x pg bg sg dV kV doc pm an cdv ct) [a] []) (Sg : FnScope Ng [a] sg) (hNg : Ng[0]? = some a) (hva : Vis sg a) (hG : GivesK X Ng x sg g cdv bg a TT) (hr : Room (k + 2) X.A) (ha : PA X [e] ta)
    (he : starEach [e] X.env = (false, eval e X.env) :: starEach [] X.env := by rfl) (hpl : (backTo pos (starEach [] X.env)).any (·.1) = false := by rfl) (hdb : (x == ("__debug__" : Str)) = false := by decide) (hd : (a == ("__debug__" : Str)) = false := by decide) (hcd : (a == ("__classdict__" : Str)) = false := by decide) :
    PE X (.Call (.Name x p) [e] [] pos) (tLamV X k TT ta) := by
  refine ⟨fun pins s σ H Q I h => ?_⟩
  refine wpAny_Call_Name_kw (ld_glob I hg hm ?_ hdb)
  refine PySem.W.callWith_K (h₀ := X.base) I.ok.mod.kin hk (thn (ha.run pos pins s σ H _ I h) fun us s1 z => ?_) he hpl
  obtain ⟨vs, H1, J, rel, f, params, body, scope, t, rfl, ok, ⟨c1, pmf, ctf, kf, kc⟩, q⟩ := z
  obtain ⟨u, rfl, ru⟩ : ∃ u, us = [u] ∧ RelV (.ref f) u := by
    cases rel with
    | cons r rr =>
      cases rr
      exact ⟨_, rfl, r⟩
  obtain rfl : u = Value.ref f := ru
  refine ⟨J.kIn, ?_⟩
  have ran : codeAny (model X.prog X.w) X.A (.call (.ref g) ⟨[.ref f], []⟩) (CR C8.CX0 X.stack X.prog X.w H1 s1 Q C8.E0) s1 := by
    refine run_ofS (N := Ng) (ps := [a]) (us := [.ref f]) (vs := [.ref f]) lk hcg Sg hr J.env0 (hb s1 [.ref f] J.kIn rfl) (.cons rfl .nil) rfl fun room => ?_
    obtain ⟨t1, ht1, hq1⟩ := hG f (fun HZ => HZ f = some (FnO f (lamObj X params body scope pmf ctf c1)) ∧ HZ c1 = some (CodeO c1 (X.env.qual ++ "<lambda>"))) s1 H1 Q (fun E H' Q' => t E σ H' Q')
      (fun _ _ z e => ⟨e _ _ z.1, e _ _ z.2⟩) (fun W pn xe E p1 p2 tk hW => act_kept (i := 0) J ok tk hW room hNg hva hd hcd) ⟨kf, kc⟩ q
    exact ⟨t1, ht1.nox, hq1⟩
  refine wpAny_call (codeAny_mono ran fun r s2 hq => ?_)
  match r, hq with
  | .error e, hq => exact (show False from hq).elim
  | .ok (.ret u), hq => exact J.after hq
  | .ok .next, hq => exact False.elim hq
  | .ok .brk, hq => exact False.elim hq
  | .ok .cont, hq => exact False.elim hq
end
end LamX

set_option Elab.async false
set_option linter.all false
set_option maxRecDepth 100000
set_option maxHeartbeats 4000000
/-! zip(text, text). -/
namespace L2
open PySem PySem.Spec PyProof.Rows
/-- the signs of two texts of one length, in new pairs -/
def ItSz (x y : Str) (n : Nat) : It :=
  ⟨fun i _ => i < n, fun i H v H' => ∃ T c d, v = .ref T ∧ H T = none ∧ H' = upd H T (.tup [.str ⟨#[c]⟩, .str ⟨#[d]⟩]) ∧ x.cps[i]? = some c ∧ y.cps[i]? = some d, fun i _ => i = n⟩
theorem turn_zipS {P : Program} {w : World} {K : PySem.W.Frag} {elts : List Expr} {kk : Nat} {tpos : Pos} {n : Nat} (x y : Str) (t t2 : Tok) {z TI TO i1 i2 : Addr} (S : ZipSep2 z TI TO i1 i2 [i1] [i2]) (ex : x.cps.size = n) (ey : y.cps.size = n) :
    Turn P w K (.Tuple elts kk tpos) (ItSz x y n) [z, TI, TO, i1, i2] z (fun i h => IsZip h z TI TO .none ∧ IsTupOf2 h TI (.ref i1) (.ref i2) ∧ (∃ a b, IsTupOf2 h TO a b) ∧ h.IsStrIter i1 (strIterType x) x t i ∧ h.IsStrIter i2 (strIterType y) y t2 i) where
  mem := by simp
  obj := fun i h st c hc => by
    obtain ⟨hz, hTI, ⟨a, b, hTO⟩, ⟨o1, e1, _, d1⟩, ⟨o2, e2, _, d2⟩⟩ := st
    have e' : c = z ∨ c = TI ∨ c = TO ∨ c = i1 ∨ c = i2 := by simpa using hc
    rcases e' with q | q | q | q | q
    · rw [q]; exact ⟨_, hz, fun v q => nomatch q⟩
    · rw [q]; exact ⟨_, hTI, fun v q => nomatch q⟩
    · rw [q]; exact ⟨_, hTO, fun v q => nomatch q⟩
    · rw [q]; exact ⟨o1, e1, fun v q => by rw [d1] at q; cases q⟩
    · rw [q]; exact ⟨o2, e2, fun v q => by rw [d2] at q; cases q⟩
  keep := fun i h h' st k => by
    obtain ⟨hz, hTI, ⟨a, b, hTO⟩, ⟨o1, q1, r1⟩, ⟨o2, q2, r2⟩⟩ := st
    exact ⟨k z (by simp) _ hz, k TI (by simp) _ hTI, ⟨a, b, k TO (by simp) _ hTO⟩, ⟨o1, k i1 (by simp) _ q1, r1⟩, ⟨o2, k i2 (by simp) _ q2, r2⟩⟩
  item := by
    intro X hP hw hK hc i pins s σ H E I hf st hg
    subst hP hw hK
    obtain ⟨hz, hTI, ⟨a0, b0, hTO⟩, h1, h2⟩ := st
    have hzl : z < s.heap.objs.size := Heap.lt_size hz
    have hl1 : i < x.cps.size := by rw [ex]; exact hg
    have hl2 : i < y.cps.size := by rw [ey]; exact hg
    refine wpAny_pyNext_zipD2_item S (Draws.text (A := X.A.in1) (I.ok.hd hc) i1 x t) (Draws.text (A := X.A.in1) (I.ok.hd hc) i2 y t2) hz hTI hTO h1 h2 hl1 hl2 fun x1 x2 h' tk hx1 hx2 z' TO' h1' h2' hT hsz hk => ?_
    obtain ⟨c, u, hcx, rfl⟩ := hx1
    obtain ⟨d, u2, hdx, rfl⟩ := hx2
    refine ⟨_, rfl, wpAny_letOwnedTupleGo_zip (s := { s with heap := h', toks := tk }) z' fun h'' z'' sb => ?_⟩
    have hT2 : h''.get? s.heap.objs.size = some { cls := .type "tuple", data := .seq #[.str ⟨#[c]⟩ u, .str ⟨#[d]⟩ u2] } := (sb.2 _ (Nat.ne_of_gt hzl)).trans hT
    have new : ObjOk X.prog X.w (upd H s.heap.objs.size (.tup [.str ⟨#[c]⟩, .str ⟨#[d]⟩])) h'' s.heap.objs.size (.tup [.str ⟨#[c]⟩, .str ⟨#[d]⟩]) :=
      ⟨by show 2 ≤ sizeLine; decide, [.str ⟨#[c]⟩ u, .str ⟨#[d]⟩ u2], .cons ⟨_, rfl⟩ (.cons ⟨_, rfl⟩ .nil), ⟨_, hT2, rfl, _, rfl⟩⟩
    have I1 : Inv X pins σ (upd H s.heap.objs.size (.tup [.str ⟨#[c]⟩, .str ⟨#[d]⟩])) { s with heap := h'', toks := tk } :=
      I.turnedNew (t' := tk) (ch := [z, TI, TO, i1, i2]) (fun c o hb q => (sb.2 c (fun q' => hb (by simp [q']))).trans (hk c o (fun q' => hb (by simp [q'])) (fun q' => hb (by simp [q'])) (fun q' => hb (by simp [q'])) (fun q' => hb (by simp [q'])) q)) hf (Nat.le_refl _) new
    refine ⟨.ref s.heap.objs.size, _, I1, rfl, ⟨_, c, d, rfl, I.hok.fresh (Nat.le_refl _), rfl, hcx, hdx⟩, ⟨z'', ?_, ⟨.str ⟨#[c]⟩ u, .str ⟨#[d]⟩ u2, ?_⟩, ?_, ?_⟩, fun c hcm => ?_⟩
    · exact (sb.2 _ S.TIz).trans (hk _ _ S.TIz S.TITO S.TIi1 S.TIi2 hTI)
    · exact (sb.2 _ S.TOz).trans TO'
    · obtain ⟨o, q, r⟩ := h1'
      exact ⟨o, (sb.2 _ (Ne.symm S.zi1)).trans q, r⟩
    · obtain ⟨o, q, r⟩ := h2'
      exact ⟨o, (sb.2 _ (Ne.symm S.zi2)).trans q, r⟩
    · have hlt : c < s.heap.objs.size := by
        have e' : c = z ∨ c = TI ∨ c = TO ∨ c = i1 ∨ c = i2 := by simpa using hcm
        rcases e' with q | q | q | q | q
        · rw [q]; exact hzl
        · rw [q]; exact Heap.lt_size hTI
        · rw [q]; exact Heap.lt_size hTO
        · rw [q]; obtain ⟨_, e1, _⟩ := h1; exact Heap.lt_size e1
        · rw [q]; obtain ⟨_, e2, _⟩ := h2; exact Heap.lt_size e2
      rw [upd_ne (Nat.ne_of_lt hlt)]
      exact (hf c hcm).1
  done := by
    intro X hP hw hK hc i pins s σ H E I hf st hg
    subst hP hw hK
    obtain ⟨hz, hTI, ⟨a0, b0, hTO⟩, h1, h2⟩ := st
    have hi : i = n := hg
    exact wpAny_pyNext_zipD2_end S (Draws.text (A := X.A.in1) (I.ok.hd hc) i1 x t) (Draws.text (A := X.A.in1) (I.ok.hd hc) i2 y t2) hz hTI hTO h1 h2 (by omega) (by omega) (.inl (by omega)) fun h' tk hk => ⟨rfl, I.turnedL (t' := tk) (ch := [z, TI, TO, i1, i2]) (fun c o hb q =>
      hk c o (fun q' => hb (by simp [q'])) (fun q' => hb (by simp [q'])) (fun q' => hb (by simp [q'])) (fun q' => hb (by simp [q'])) q) hf⟩
  self := fun A i s Q E st h => wpAny_pyIter_zip st.1 h
theorem zsep (n : Nat) : ZipSep2 (n + 4) (n + 2) (n + 3) n (n + 1) [n] [n + 1] where
  TIz := by show (n + 2 : Nat) ≠ n + 4; omega
  TOz := by show (n + 3 : Nat) ≠ n + 4; omega
  TITO := by show (n + 2 : Nat) ≠ n + 3; omega
  TIi1 := by show (n + 2 : Nat) ≠ n; omega
  mem1 := List.mem_singleton.mpr rfl
  zf1 := fun h => by have : (n + 4 : Nat) = n := List.mem_singleton.mp h; omega
  Tf1 := fun h => by have : (n + 3 : Nat) = n := List.mem_singleton.mp h; omega
  TIi2 := by show (n + 2 : Nat) ≠ n + 1; omega
  mem2 := List.mem_singleton.mpr rfl
  zf2 := fun h => by have : (n + 4 : Nat) = n + 1 := List.mem_singleton.mp h; omega
  Tf2 := fun h => by have : (n + 3 : Nat) = n + 1 := List.mem_singleton.mp h; omega
  sep1_2 := fun h => by have : (n : Nat) = n + 1 := List.mem_singleton.mp h; omega
  sep2_1 := fun h => by have : (n + 1 : Nat) = n := List.mem_singleton.mp h; omega
def iZipS (ta : TA) : TI := fun σ H R => ta σ H fun vs H1 => ∃ x y n, vs = [.str x, .str y] ∧ x.cps.size = n ∧ y.cps.size = n ∧ R (ItSz x y n) H1
theorem pi_zipS {X : Cx} {e e2 : Expr} {ta : TA} {p pos tpos : Pos} {elts : List Expr} {kk : Nat} (hg : Gl X "zip") (hm : X.mg "zip" = none) (ha : PA X [e, e2] ta)
    (hs : starEach [e, e2] X.env = (false, eval e X.env) :: starEach [e2] X.env := by rfl) (hpl : (backTo pos (starEach [e2] X.env)).any (·.1) = false := by rfl) :
    PI X (.Tuple elts kk tpos) (.Call (.Name "zip" p) [e, e2] [] pos) (iZipS ta) := by
  refine ⟨fun pins s σ H R I h => ?_⟩
  refine Call_ (ld_blt I hg hm PyProof.Rows.boot_zip (PyProof.Rows.callWith_type1 (thn (ha.run pos pins s σ H _ I h) fun us s1 ⟨vs, H1, I1, r1, q1⟩ => ?_) hs hpl))
  obtain ⟨x, y, n, rfl, ex, ey, q⟩ := q1
  cases r1 with
  | cons r rr =>
    cases rr with
    | cons r' rr =>
      cases rr
      obtain ⟨t, rfl⟩ := r
      obtain ⟨t2, rfl⟩ := r'
      have fresh5 : ∀ c, c ∈ [s1.heap.objs.size + 4, s1.heap.objs.size + 2, s1.heap.objs.size + 3, s1.heap.objs.size, s1.heap.objs.size + 1] → FpOk X pins H1 c := fun c hcm => by
        have e' : c = s1.heap.objs.size + 4 ∨ c = s1.heap.objs.size + 2 ∨ c = s1.heap.objs.size + 3 ∨ c = s1.heap.objs.size ∨ c = s1.heap.objs.size + 1 := by simpa using hcm
        have hle : s1.heap.objs.size ≤ c := by
          rcases e' with z | z | z | z | z
          · rw [z]; exact Nat.le_add_right _ _
          · rw [z]; exact Nat.le_add_right _ _
          · rw [z]; exact Nat.le_add_right _ _
          · rw [z]; exact Nat.le_refl _
          · rw [z]; exact Nat.le_add_right _ _
        exact I1.fpOk hle (I1.hok.fresh hle)
      refine zip_begins2 (begins_text x t) (begins_text y t2) trivial trivial fun h' hz hTI hTO h1 h2 hsz hk => wpAny_pyIter_zip hz ?_
      have I2 : Inv X pins σ H1 { s1 with heap := h' } := I1.kept (t' := s1.toks) hk
      refine ⟨s1.heap.objs.size + 4, [s1.heap.objs.size + 4, s1.heap.objs.size + 2, s1.heap.objs.size + 3, s1.heap.objs.size, s1.heap.objs.size + 1], _, _, H1, rfl, I2, turn_zipS x y t t2 (zsep _) ex ey, ⟨hz, hTI, ⟨_, _, hTO⟩, ⟨_, h1, rfl, rfl⟩, ⟨_, h2, rfl, rfl⟩⟩, fresh5, q⟩
theorem walk_zipS {x y : Str} {n : Nat} : Walk (ItSz x y n) n (fun _ => True) (fun i H v H' => ∃ T c d, v = .ref T ∧ H T = none ∧ H' = upd H T (.tup [.str ⟨#[c]⟩, .str ⟨#[d]⟩]) ∧ x.cps[i]? = some c ∧ y.cps[i]? = some d) :=
  ⟨fun _ _ hi _ => hi, fun _ _ => rfl, fun _ _ _ _ _ _ y => y⟩
end L2

set_option Elab.async false
set_option linter.all false
set_option maxRecDepth 100000
set_option maxHeartbeats 4000000
/-! text * k. -/
namespace L2
open PySem PySem.Spec PyProof.Rows
theorem op_repS {X : Cx} : OpR X (binaryOp .Mult) (fun x y H Q => ∃ z k, x = .str z ∧ y = .int k ∧ z.length ≤ 1000 ∧ 0 ≤ k ∧ k ≤ 1000 ∧ Q (.str (Txt.mul z k)) H) := by
  intro pins s σ H x y v u Q I rx ry h
  obtain ⟨z, k, rfl, rfl, hz, k0, k1, q⟩ := h
  obtain ⟨t, rfl⟩ := rx
  obtain ⟨t', rfl⟩ := ry
  exact SB.mul (PyProof.Rows.mulOk_of 1000 1000 hz k1 (by omega) (by decide) (by decide)) fun t' tk => ⟨.str _, H, I.tok _, ⟨_, rfl⟩, q⟩
end L2

set_option Elab.async false
set_option linter.all false
set_option maxRecDepth 100000
set_option maxHeartbeats 4000000
/-! Equal dicts, whose values are data of any depth; iter(a dict) and loops by it. -/
namespace L2
open PySem PySem.Spec PyProof.Rows ItX
section
variable {X : Cx} {pins : List (Addr × Obj)} {σ : L2.St} {H : Hp} {s : Shared}
/-- each of the one has an equal one behind the same key -/
def AlikeD (K : PySem.W.Frag) (H : Hp) (ks ls : List (Key × V)) : Prop := ∀ p ∈ ks, ∃ y d, valV ls p.1 = some y ∧ Dp K H p.2 d ∧ Dp K H y d ∧ SeqAt.shaped d = true
theorem hits_data {A : Around} (I : Inv X pins σ H s) (hA : A.units + 64 < cLine) {ls : List (Key × V)} {vb : List (Key × Value)} (rb : KV ls vb) {ks : List (Key × V)} {va : List (Key × Value)} (ra : KV ks va) : AlikeD X.K H ks ls → PySem.W.KeqHits A s vb va true := by
  unfold KV at ra
  induction ra with
  | nil => intro _; exact .nil
  | @cons p q ps qs h t ih =>
    intro hp
    obtain ⟨y, d, e, d1, d2, sh⟩ := hp p List.mem_cons_self
    obtain ⟨h1, h2⟩ := h
    obtain ⟨k, v⟩ := q
    have h1' : p.1 = k := h1
    have rr : RelO (valV ls p.1) (valueAt vb p.1) := rb.val p.1
    rw [e] at rr
    obtain ⟨y', hy, ry⟩ := rr.some_of
    rw [h1'] at hy
    obtain ⟨as, r1⟩ := Dp.reads I d p.2 v d1 h2
    obtain ⟨bs, r2⟩ := Dp.reads I d y y' d2 ry
    have sh' : (d.canLay0 && decide (d.depth ≤ 64)) = true := sh
    rw [Bool.and_eq_true] at sh'
    have dep := of_decide_eq_true sh'.2
    have hh := SeqAt.eqAt_reads d d A s v y' as bs r1 r2 sh'.1 sh'.1 (by omega)
    rw [SeqAt.eqv_refl d sh'.1] at hh
    exact .hit hy hh (ih fun p' hm => hp p' (List.mem_cons_of_mem _ hm))
def rEqDD (K : PySem.W.Frag) : R2 := fun x y H Q => ∃ a b ks ls, x = .ref a ∧ y = .ref b ∧ Rd H a (.dK ks) ∧ Rd H b (.dK ls) ∧ ks.length = ls.length ∧ AlikeD K H ks ls ∧ Q (.bl true) H
theorem op_eqDD {K : PySem.W.Frag} {j : Nat} (hK : X.K = K) (hr : Room j X.A) : OpR X (compareOp .Eq) (rEqDD K) := by
  subst hK
  intro pins s σ H x y v u Q I rx ry h
  obtain ⟨a, b, ks, ls, rfl, rfl, ea, eb, hl, al, q⟩ := h
  obtain rfl : v = Value.ref a := rx
  obtain rfl : u = Value.ref b := ry
  obtain ⟨_, ya, va, ra, da⟩ := dk_rd I.hok ea
  obtain ⟨_, yb, vb, rb, db⟩ := dk_rd I.hok eb
  have h1 : va.length = ks.length := (Paired.length ra).symm
  have h2 : vb.length = ls.length := (Paired.length rb).symm
  have hu := hr.un
  refine PySem.W.keq_eq (knd := mixKind X.prog X.w) (r := true) ya yb da db (by omega) (fun _ => hits_data I (by show X.A.units + 1 + 64 < cLine; omega) rb ra al) (fin_bl I q ?_)
  rw [h1, h2, hl]
  simp
end
/-- at it a fresh iterator of the keys of the dict at d, whose object is o -/
def ItK (d : Addr) (o : Obj) (n : Nat) (it : Addr) : HO := .ext fun h => ∃ es ep, o.data = .dict es ep ∧ h.IsKeyIter it d 0 n ep
theorem itK_ok {P : Program} {w : World} {H : Hp} {h : Heap} {d it : Addr} {o : Obj} {n : Nat} {es : Array DictEntry} {ep : Nat} (e : o.data = .dict es ep) (k : h.IsKeyIter it d 0 n ep) : ObjOk P w H h it (ItK d o n it) := by
  obtain ⟨oi, e1, e2, e3⟩ := id k
  exact ⟨⟨es, ep, e, k⟩, ⟨oi, e1⟩, fun h1 h2 q st => by
    obtain ⟨es', ep', e', k'⟩ := q
    exact ⟨es', ep', e', k'.at fun oi e => st oi e⟩⟩
section
variable {X : Cx}
theorem call_iterK : CallR X (.builtin "iter") (fun xs H Q => ∃ (d : Addr) (o : Obj) (kvs : List (Key × V)), xs = [.ref d] ∧ H d = some (.frz o (.dK kvs)) ∧ ∀ it, H it = none → X.s_0.heap.objs.size ≤ it → Q (.ref it) (upd H it (ItK d o kvs.length it))) := by
  intro pins s σ H xs us Q I r h
  obtain ⟨d, o, kvs, rfl, hd, q⟩ := h
  obtain rfl := Vals.ref1 r
  obtain ⟨hs, hgd, hx, es, ep, vs, hdt, hsz, kv, hm⟩ := I.frzK hd
  refine Calls.call_function_entry (by decide +kernel) (by decide +kernel) PySem.W.kdk_entry_iter (PySem.W.kdk_args_iter _) ?_
  unfold Builtin.«iter»
  refine wpAny_bind (m := someArgs "iter" 1 2 _) (wpAny_of_eq (a := [Value.ref d]) (by first | rfl | kernel_rfl!) ?_)
  show wpAny _ _ (pyIter (.ref d) >>= _) _ _ _
  refine wpAny_bind (iter_keys hs hgd hx hdt ?_)
  have key : (s.heap.push { cls := .type "dict_keyiterator", data := .fields #[.ref d, .int 0 0, .int es.size 0, .int ep 0] }).IsKeyIter s.heap.objs.size d 0 kvs.length ep := by
    refine ⟨_, Heap.get?_push_size _ rfl, rfl, ?_⟩
    rw [hsz] <;> rfl
  exact wpAny_pure ⟨_, rfl, .ref s.heap.objs.size, _, I.laid (t' := s.toks) (fun b u e => Heap.get?_push_of_some _ e) (Nat.le_refl _) (itK_ok hdt key), rfl, q _ (I.hok.fresh (Nat.le_refl _)) I.sz⟩
variable {n : Nat} {CX : CXT} {C f : Addr} {fd : FuncData} {ps : List Str} {sp : Sp} {E : XK} {sn : Nat → Sp}
/-- a loop by the class's own __iter__, which gives iter(a dict) -/
def iOwnK (K : PySem.W.Frag) (C : Addr) (m : Nat) (sn : Nat → Sp) (E : XK) (tl : TE) : TI := fun σ H R => tl σ H fun x H1 => ∃ a dx fs, x = .ref a ∧ H1 a = some (.ins C dx fs) ∧
  ∀ k, m ≤ k → sn k [.ref a] H1 (fun v H' => ∃ it d o kvs, v = .ref it ∧ k ≤ it ∧ H' it = some (ItK d o kvs.length it) ∧ H' d = some (.frz o (.dK kvs)) ∧ R (Itk d o kvs) (dropH H' it)) E
theorem pi_ownK {tg l : Expr} {tl : TE} (F : FnN X.prog X.w X.K X.mg X.base CX n f fd ps sn) (hb : Binds X.K fd ps []) (hx : Passes CX X E) (o : Own X.K C "__iter__" f) (hr : Room n X.A) (hl : PE X l tl) : PI X tg l (iOwnK X.K C X.s_0.heap.objs.size sn E tl) := by
  refine ⟨fun pins s σ H R I h => ?_⟩
  refine thn (hl.run pins s σ H _ I h) fun v s1 ⟨x, H1, I1, r1, q1⟩ => ?_
  obtain ⟨a, dx, fs, rfl, ha, hs⟩ := q1
  cases r1
  obtain ⟨od, J⟩ := inst_at I1 ha
  obtain ⟨m, hF⟩ := I1.fr
  refine PySem.W.owit_iter hF I1.ok.mod.kin J o.find o.fn (thn (run_N (Sub.here hr) F hb hx I1 (show Vals [V.ref a] [Value.ref a] from .cons rfl .nil) (hs s1.heap.objs.size I1.sz)) fun v s' q => ?_)
  obtain ⟨y, H', I', ry, ⟨it, d, ob, kvs, rfl, hn, hi, hd, q⟩⟩ := q
  cases ry
  have hy := Nat.le_trans I1.sz hn
  obtain ⟨es, ep, e1, k1⟩ := (I'.hok it _ hi).1
  obtain ⟨oi, e2, c2, d2⟩ := id k1
  have nd : d ≠ it := fun z => by
    rw [z, hi] at hd
    cases hd
  unfold PySem.W.OwitIt
  refine wpAny_specialOf (T := "dict_keyiterator") (v := .ref it) ⟨_, e2, c2⟩ PySem.F.slot_dict_keyiterator_next.lookup ?_
  refine ⟨it, [it], _, _, dropH H' it, rfl, inv_drop I' hi, turn_keys it e1, k1, fun b hb => ?_, q⟩
  have e : b = it := by simpa using hb
  subst e
  exact inv_fp I' hi hy
end
end L2

set_option Elab.async false
set_option linter.all false
set_option maxRecDepth 100000
set_option maxHeartbeats 4000000
/-! enumerate(a tuple). -/
namespace PySem
/-- enumerate's cells over what begins as B tells -/
theorem enumNewB {v : Value} {o : Obj} {H : Heap → Prop} (B : Begins v o H) :
    Meets (Builtin.«enumerate.__new__» ⟨[.type "enumerate", v], []⟩) (fun _ R s => H s.heap ∧
      R (.ok (.ret (.ref (s.heap.push o).objs.size))) { s with heap := (s.heap.push o).push { cls := .type "enumerate", data := .fields #[.none, .bool false, .ref s.heap.objs.size, rawInt 0, .none, .none] } }) :=
  .of_wp fun prog w A R s h => by
    obtain ⟨hp, g, d, tk, os⟩ := s
    obtain ⟨h1, h⟩ := h
    have sb := sub_enumerate
    have bg : ∀ {A' : Around} {E : Value → Shared → Prop} {Q : Value → Shared → Prop}, Q (.ref hp.objs.size) ⟨hp.push o, g, d, tk, os⟩ → wpAny (model prog w) A' (pyIter v) Q E ⟨hp, g, d, tk, os⟩ :=
      fun q => B.iter prog w _ _ ⟨hp, g, d, tk, os⟩ _ h1 q
    wp_walk using bg
    refine wpAny_stack_any fun _ => wpAny_pure ?_
    split
    · rename_i c _ _ _ _ _
      by_cases hc : (c == Value.type "enumerate") = true
      all_goals
        simp only [hc]
        wp_walk using bg
        exact ⟨_, rfl, h⟩
    · wp_walk using bg
      exact ⟨_, rfl, h⟩
theorem enumCall {prog : Program} {w : World} {A : Around} {E : Value → Shared → Prop} {s : Shared} {v : Value} {o : Obj} {H : Heap → Prop} {Q : Value → Shared → Prop} (B : Begins v o H) (h1 : H s.heap)
    (h : ∀ h', IsEnum h' (s.heap.objs.size + 1) s.heap.objs.size 0 .none → h'.get? s.heap.objs.size = some o → (∀ b o, s.heap.get? b = some o → h'.get? b = some o) → Q (.ref (s.heap.objs.size + 1)) { s with heap := h' }) :
    wpAny (model prog w) A (call (.type "enumerate") [v]) Q E s := by
  have sz : (s.heap.push o).objs.size = s.heap.objs.size + 1 := Heap.size_push ..
  refine callType_new F.called_enumerate (by decide) (F.typeCall_enumerate_1 _) (F.newCall_enumerate_1 _) (fun obj => F.args_object_init_2 obj _) F.entry_enumerate_new (enumNewB B) ⟨h1, ?_⟩
  show _ ∧ _
  have e1 := Heap.get?_push_size (s.heap.push o) (o := { cls := .type "enumerate", data := .fields #[.none, .bool false, .ref s.heap.objs.size, rawInt 0, .none, .none] }) rfl
  rw [sz] at e1 ⊢
  exact ⟨⟨_, e1, rfl⟩, h _ e1 (Heap.get?_push_of_some _ (Heap.get?_push_size _ B.free)) fun b u e => Heap.get?_push_of_some _ (Heap.get?_push_of_some _ e)⟩
end PySem
namespace L2
open PySem PySem.Spec PyProof.Rows
/-- the items of the tuple at a, each in a new pair behind its number -/
def ItTe (K : PySem.W.Frag) (a : Addr) : It :=
  ⟨fun i H => ∃ (xs : List V) (x : V), SqT K H a xs ∧ xs[i]? = some x, fun i H v H' => ∃ T x, v = .ref T ∧ H T = none ∧ H' = upd H T (.tup [.int (i : Nat), x]) ∧ ∀ xs, SqT K H a xs → xs[i]? = some x, fun i H => ∃ xs : List V, SqT K H a xs ∧ xs.length = i⟩
theorem turn_enumT {P : Program} {w : World} {K : PySem.W.Frag} {elts : List Expr} {kk : Nat} {tpos : Pos} (a e it : Addr) :
    Turn P w K (.Tuple elts kk tpos) (ItTe K a) [e, it] e (fun i h => (∃ old, IsEnum h e it ((i : Nat) : Int) old) ∧ h.IsTupleIter it a i ∧ e ≠ it) where
  mem := by simp
  obj := fun i h st b hb => by
    obtain ⟨⟨old, he⟩, ⟨o, ho, hc, hd⟩, _⟩ := st
    rcases (show b = e ∨ b = it by simpa using hb) with z | z
    · rw [z]; exact ⟨_, he, fun v q => nomatch q⟩
    · rw [z]; exact ⟨o, ho, fun v q => by rw [hd] at q; cases q⟩
  keep := fun i h h' st k => by
    obtain ⟨⟨old, he⟩, ⟨o, ho, r⟩, hne⟩ := st
    exact ⟨⟨old, k e (by simp) _ he⟩, ⟨o, k it (by simp) o ho, r⟩, hne⟩
  item := by
    intro X hP hw hK hc i pins s σ H E I hf st hg
    subst hP hw hK
    obtain ⟨⟨old, he⟩, hit, hne⟩ := st
    obtain ⟨xs, x, hq, hx⟩ := hg
    obtain ⟨its, rv, p, hz⟩ := I.tuple hq
    obtain ⟨u, hu, ru⟩ := rv.get hx
    have hi : i < its.toArray.size := by
      obtain ⟨hh, _⟩ := List.getElem?_eq_some_iff.mp hu
      simpa using hh
    have hel : e < s.heap.objs.size := Heap.lt_size he
    have hil : it < s.heap.objs.size := by obtain ⟨_, q, _⟩ := hit; exact Heap.lt_size q
    have pt : s.heap.IsTuple a its.toArray := p
    have nat : a ≠ it := by
      intro z
      obtain ⟨o1, q1, c1, _⟩ := pt
      obtain ⟨o2, q2, c2, _⟩ := hit
      rw [z, q2] at q1
      cases q1
      rw [c1] at c2
      exact absurd (Value.type.inj c2) (by decide)
    have nae : e ≠ a := by
      intro z
      obtain ⟨o1, q1, c1, _⟩ := pt
      have he' : s.heap.get? e = some _ := he
      rw [z, q1] at he'
      have z2 := Option.some.inj he'
      rw [z2] at c1
      have c3 : Value.type "enumerate" = .type "tuple" := c1
      exact absurd (Value.type.inj c3) (by decide)
    refine wpAny_pyNext_enum_itemD (Draws.tuple (A := X.A.in1) (I.ok.hd hc) it a nat its.toArray) he ⟨hit, pt⟩ hi hne (by simp [hne, nae]) fun y h' tk hy ho hit' hT hsz hk => ?_
    have ey : y = u := by
      have hy' : its[i]? = some y := by simpa using hy
      rw [hu] at hy'
      exact (Option.some.inj hy').symm
    subst ey
    refine ⟨_, rfl, wpAny_letOwnedTupleGo_enum (s := { s with heap := h', toks := tk + 1 }) ho fun h'' he' sb => ?_⟩
    have hT2 : h''.get? s.heap.objs.size = some { cls := .type "tuple", data := .seq #[.int i tk, y] } := (sb.2 _ (Nat.ne_of_gt hel)).trans hT
    have new : ObjOk X.prog X.w (upd H s.heap.objs.size (.tup [.int (i : Nat), x])) h'' s.heap.objs.size (.tup [.int (i : Nat), x]) :=
      ⟨by show 2 ≤ sizeLine; decide, [.int i tk, y], .cons ⟨_, rfl⟩ (.cons ru .nil), ⟨_, hT2, rfl, _, rfl⟩⟩
    have I1 : Inv X pins σ (upd H s.heap.objs.size (.tup [.int (i : Nat), x])) { s with heap := h'', toks := tk + 1 } :=
      I.turnedNew (ch := [e, it]) (fun b ob hb q => (sb.2 b (fun z => hb (by simp [z]))).trans (hk b ob (fun z => hb (by simp [z])) (fun z => hb (by simp [z])) q)) hf (Nat.le_refl _) new
    refine ⟨.ref s.heap.objs.size, _, I1, rfl, ⟨_, x, rfl, I.hok.fresh (Nat.le_refl _), rfl, fun ys hy => by rw [I.tuple_inj hy hq]; exact hx⟩, ⟨⟨y, ?_⟩, ?_, hne⟩, fun b hb => ?_⟩
    · have e1 : ((i + 1 : Nat) : Int) = (i : Int) + 1 := by omega
      rw [e1]; exact he'
    · obtain ⟨o, q, r⟩ := hit'.1
      exact ⟨o, (sb.2 it (Ne.symm hne)).trans q, r⟩
    · have hb' : b < s.heap.objs.size := by
        rcases (show b = e ∨ b = it by simpa using hb) with z | z
        · rw [z]; exact hel
        · rw [z]; exact hil
      rw [upd_ne (Nat.ne_of_lt hb')]
      exact (hf b hb).1
  done := by
    intro X hP hw hK hc i pins s σ H E I hf st hg
    subst hP hw hK
    obtain ⟨⟨old, he⟩, hit, hne⟩ := st
    obtain ⟨xs, hq, hx⟩ := hg
    obtain ⟨its, rv, p, hz⟩ := I.tuple hq
    have hl := rv.length
    have pt : s.heap.IsTuple a its.toArray := p
    have nat : a ≠ it := by
      intro z
      obtain ⟨o1, q1, c1, _⟩ := pt
      obtain ⟨o2, q2, c2, _⟩ := hit
      rw [z, q2] at q1
      cases q1
      rw [c1] at c2
      exact absurd (Value.type.inj c2) (by decide)
    have hi : its.toArray.size = i := by
      rw [List.size_toArray]
      omega
    obtain ⟨f0, f1, f2, f3, f4, f5⟩ := hf it (by simp)
    exact wpAny_pyNext_enum_endD (Draws.tuple (A := X.A.in1) (I.ok.hd hc) it a nat its.toArray) he (by rw [hi]; exact ⟨hit, pt⟩) fun h' eb => ⟨rfl, I.turned (t' := s.toks) (fun b o hb q => eb b o hb q) f0 f1 f3 f4 f5⟩
  self := fun A i s Q E st h => let ⟨⟨_, he⟩, _⟩ := st; wpAny_pyIter_enum he h
def iEnumT (K : PySem.W.Frag) (ta : TA) : TI := fun σ H R => ta σ H fun vs H1 => ∃ a xs, vs = [.ref a] ∧ SqT K H1 a xs ∧ R (ItTe K a) H1
theorem pi_enumT {X : Cx} {e : Expr} {ta : TA} {p pos tpos : Pos} {elts : List Expr} {kk : Nat} (hg : Gl X "enumerate") (hm : X.mg "enumerate" = none) (ha : PA X [e] ta) (hs : starEach [e] X.env = [(false, eval e X.env)] := by rfl) :
    PI X (.Tuple elts kk tpos) (.Call (.Name "enumerate" p) [e] [] pos) (iEnumT X.K ta) := by
  refine ⟨fun pins s σ H R I h => ?_⟩
  refine Call_ (ld_blt I hg hm boot_enumerate (PyProof.Rows.callWith_type1 (thn (ha.run pos pins s σ H _ I h) fun us s1 ⟨vs, H1, I1, r1, q1⟩ => ?_) hs rfl))
  obtain ⟨a, xs, ex, hq, q⟩ := q1
  subst ex
  obtain rfl := Vals.ref1 r1
  obtain ⟨its, rv, p', hz⟩ := I1.tuple hq
  refine enumCall (begins_tuple a its.toArray) (show s1.heap.IsTuple a its.toArray from p') fun h' he hit hk => wpAny_pyIter_enum he ?_
  have I2 : Inv X pins σ H1 { s1 with heap := h' } := I1.kept (t' := s1.toks) hk
  refine ⟨s1.heap.objs.size + 1, [s1.heap.objs.size + 1, s1.heap.objs.size], _, _, H1, rfl, I2, turn_enumT a (s1.heap.objs.size + 1) s1.heap.objs.size, ⟨⟨.none, he⟩, ⟨_, hit, rfl, rfl⟩, Nat.succ_ne_self _⟩, fun b hb => ?_, q⟩
  have hle : s1.heap.objs.size ≤ b := by
    rcases (show b = s1.heap.objs.size + 1 ∨ b = s1.heap.objs.size by simpa using hb) with z | z
    · rw [z]; exact Nat.le_add_right _ _
    · rw [z]; exact Nat.le_refl _
  exact I1.fpOk hle (I1.hok.fresh hle)
theorem walk_enumT {K : PySem.W.Frag} {a : Addr} {xs : List V} : Walk (ItTe K a) xs.length (fun H => SqT K H a xs) (fun i H v H' => ∃ T x, v = .ref T ∧ H T = none ∧ H' = upd H T (.tup [.int (i : Nat), x]) ∧ xs[i]? = some x) :=
  ⟨fun i _ hi q => ⟨xs, xs[i], q, by simp [hi]⟩, fun _ q => ⟨xs, q, rfl⟩, fun _ _ _ _ _ q y => by
    obtain ⟨T, x, e1, e2, e3, e4⟩ := y
    exact ⟨T, x, e1, e2, e3, e4 xs q⟩⟩
end L2

set_option Elab.async false
set_option linter.all false
set_option maxRecDepth 100000
set_option maxHeartbeats 4000000
/-! repr of a text or an integer. -/
namespace L2
open PySem PySem.Spec PyProof.Rows
theorem call_reprV {X : Cx} : CallR X (.builtin "repr") (fun xs H Q => (∃ z, xs = [.str z] ∧ (reprText z).length ≤ sizeLine ∧ Q (.str (reprText z)) H) ∨ ∃ i, xs = [.int i] ∧ i.natAbs.log2 < 1920 ∧ Q (.str (toString i)) H) := by
  intro pins s σ H xs us Q I r h
  rcases h with ⟨z, rfl, hz, q⟩ | ⟨i, rfl, hz, q⟩
  · obtain ⟨u, rfl, t, rfl⟩ := vals1 r
    exact PySem.P.repr_of_str ⟨.str _, H, I.tok _, ⟨_, rfl⟩, q⟩ hz
  · exact SkE.call_repr_int pins s σ H _ us Q I r ⟨i, rfl, hz, q⟩
end L2

set_option Elab.async false
set_option linter.all false
set_option maxRecDepth 100000
set_option maxHeartbeats 4000000
/-! repr of a bool. -/
namespace L2
open PySem PySem.Spec PyProof.Rows
theorem call_reprB {X : Cx} : CallR X (.builtin "repr") (fun xs H Q => ∃ b, xs = [.bl b] ∧ Q (.str (if b = true then "True" else "False")) H) := by
  intro pins s σ H xs us Q I r h
  obtain ⟨b, rfl, q⟩ := h
  match us, r with
  | [u], .cons r1 .nil =>
    obtain rfl : u = Value.bool b := r1
    refine PySem.P.repr_of_bool ?_
    exact ⟨.str _, H, I.tok _, ⟨_, by cases b <;> rfl⟩, q⟩
end L2

set_option Elab.async false
set_option linter.all false
set_option maxRecDepth 100000
set_option maxHeartbeats 4000000
/-! Where no repr is under way: what defs promise there; repr of lists and tuples. -/
namespace L2
open PySem PySem.Spec PyProof.Rows
mutual
/-- x is laid in H as the datum d -/
inductive PyV (H : Hp) : V → PyData → Prop
  | non : PyV H .non .none
  | bl (b : Bool) : PyV H (.bl b) (.bool b)
  | int (i : Int) : PyV H (.int i) (.int i)
  | str (z : Str) : PyV H (.str z) (.str z)
  | tup {a : Addr} {xs : List V} {ds : List PyData} : H a = some (.tup xs) → PyVs H xs ds → PyV H (.ref a) (.tuple ds)
  | lst {a : Addr} {xs : List V} {ds : List PyData} : H a = some (.lst xs) → PyVs H xs ds → PyV H (.ref a) (.list ds)
inductive PyVs (H : Hp) : List V → List PyData → Prop
  | nil : PyVs H [] []
  | cons {x : V} {d : PyData} {xs : List V} {ds : List PyData} : PyV H x d → PyVs H xs ds → PyVs H (x :: xs) (d :: ds)
end
mutual
theorem PyV.same {H H2 : Hp} (s : ∀ b o, H b = some o → H2 b = some o) : ∀ {x : V} {d : PyData}, PyV H x d → PyV H2 x d
  | _, _, .non => .non
  | _, _, .bl b => .bl b
  | _, _, .int i => .int i
  | _, _, .str z => .str z
  | _, _, .tup h r => .tup (s _ _ h) (PyVs.same s r)
  | _, _, .lst h r => .lst (s _ _ h) (PyVs.same s r)
theorem PyVs.same {H H2 : Hp} (s : ∀ b o, H b = some o → H2 b = some o) : ∀ {xs : List V} {ds : List PyData}, PyVs H xs ds → PyVs H2 xs ds
  | _, _, .nil => .nil
  | _, _, .cons h r => .cons (PyV.same s h) (PyVs.same s r)
end
mutual
theorem PyV.keep {H H2 : Hp} (s : ∀ b o, H b = some o → ((∃ xs, o = .tup xs) ∨ ∃ xs, o = .lst xs) → H2 b = some o) : ∀ {x : V} {d : PyData}, PyV H x d → PyV H2 x d
  | _, _, .non => .non
  | _, _, .bl b => .bl b
  | _, _, .int i => .int i
  | _, _, .str z => .str z
  | _, _, .tup h r => .tup (s _ _ h (.inl ⟨_, rfl⟩)) (PyVs.keep s r)
  | _, _, .lst h r => .lst (s _ _ h (.inr ⟨_, rfl⟩)) (PyVs.keep s r)
theorem PyVs.keep {H H2 : Hp} (s : ∀ b o, H b = some o → ((∃ xs, o = .tup xs) ∨ ∃ xs, o = .lst xs) → H2 b = some o) : ∀ {xs : List V} {ds : List PyData}, PyVs H xs ds → PyVs H2 xs ds
  | _, _, .nil => .nil
  | _, _, .cons h r => .cons (PyV.keep s h) (PyVs.keep s r)
end
theorem PyV.but {H H2 : Hp} {a : Addr} {x : V} {d : PyData} {f : Heap → Prop} (p : PyV H x d) (s : ∀ b o, H b = some o → b ≠ a → H2 b = some o) (ha : H a = some (.ext f)) : PyV H2 x d :=
  p.keep fun b o e k => s b o e fun z => by
    rw [z, ha] at e
    cases e
    rcases k with ⟨xs, k⟩ | ⟨xs, k⟩ <;> cases k
mutual
theorem PyV.noDict {H : Hp} : ∀ {x : V} {d : PyData}, PyV H x d → d.hasDict = false
  | _, _, .non => by simp only [PyData.hasDict]
  | _, _, .bl b => by simp only [PyData.hasDict]
  | _, _, .int i => by simp only [PyData.hasDict]
  | _, _, .str z => by simp only [PyData.hasDict]
  | _, _, .tup h r => by simp only [PyData.hasDict]; exact PyVs.noDict r
  | _, _, .lst h r => by simp only [PyData.hasDict]; exact PyVs.noDict r
theorem PyVs.noDict {H : Hp} : ∀ {xs : List V} {ds : List PyData}, PyVs H xs ds → PyData.hasDictAll ds = false
  | _, _, .nil => by simp only [PyData.hasDictAll]
  | _, _, .cons h r => by simp only [PyData.hasDictAll, PyV.noDict h, PyVs.noDict r, Bool.or_false]
end
mutual
theorem PyV.reads {P : Program} {w : World} {H : Hp} {h : Heap} (ok : HOk P w H h) : ∀ {x : V} {d : PyData} {u : Value}, PyV H x d → RelV x u → ∃ as, Reads h u d as
  | _, _, u, .non, r => by
    obtain rfl : u = Value.none := r
    exact ⟨_, .none⟩
  | _, _, u, .bl b, r => by
    obtain rfl : u = Value.bool b := r
    exact ⟨_, .bool b⟩
  | _, _, u, .int i, r => by
    obtain ⟨t, rfl⟩ : ∃ t, u = Value.int i t := r
    exact ⟨_, .int i t⟩
  | _, _, u, .str z, r => by
    obtain ⟨t, rfl⟩ : ∃ t, u = Value.str z t := r
    exact ⟨_, .str z t⟩
  | _, _, u, .tup (a := a) h1 h2, r => by
    obtain rfl : u = Value.ref a := r
    obtain ⟨_, its, rel, o, e1, e2, n, e3⟩ := ok a _ h1
    obtain ⟨as, q⟩ := PyVs.reads ok h2 rel
    exact ⟨_, .tuple e1 e2 e3 q⟩
  | _, _, u, .lst (a := a) h1 h2, r => by
    obtain rfl : u = Value.ref a := r
    obtain ⟨_, its, n, rel, e1⟩ := ok a _ h1
    obtain ⟨as, q⟩ := PyVs.reads ok h2 rel
    exact ⟨_, .list e1 rfl rfl q⟩
theorem PyVs.reads {P : Program} {w : World} {H : Hp} {h : Heap} (ok : HOk P w H h) : ∀ {xs : List V} {ds : List PyData} {us : List Value}, PyVs H xs ds → Vals xs us → ∃ as, ReadsAll h us ds as
  | _, _, _, .nil, r => by
    cases r
    exact ⟨_, .nil⟩
  | _, _, _, .cons h1 h2, r => by
    cases r with
    | cons r1 r2 =>
      obtain ⟨a1, q1⟩ := PyV.reads ok h1 r1
      obtain ⟨a2, q2⟩ := PyVs.reads ok h2 r2
      exact ⟨_, .cons q1 q2⟩
end
/-- a datum that can be told: its text is not too long -/
structure Tells (d : PyData) : Prop where
  sh : d.showable = true
  dp : d.depth ≤ 4
  sz : d.shown.length ≤ 8000000
theorem Tells.size {d : PyData} (t : Tells d) : d.shown.length ≤ sizeLine := by
  have := t.sz
  rw [sizeLine_eq]
  omega
theorem shown_str (z : Str) : (PyData.str z).shown = reprText z := by simp only [PyData.shown]
theorem shown_none : PyData.none.shown = "None" := by simp only [PyData.shown]
section
variable {X : Cx} {j : Nat}
/-- repr of a datum, as its text -/
theorem repr_any {pins : List (Addr × Obj)} {σ : St} {H : Hp} {s : Shared} {Q : VK} {x : V} {u : Value} {d : PyData} (quiet : X.A.guards = some []) (room : X.A.units + 64 < cLine) (I : Inv X pins σ H s) (r : RelV x u) (p : PyV H x d) (t : Tells d) (q : Q (.str d.shown) H) :
    wpAny (model X.prog X.w) X.A (pyReprObj u) (EP X pins σ Q) X.xe s := by
  have out : ∀ (h2 : Heap) (k tk : Nat), (∀ b o, s.heap.get? b = some o → h2.get? b = some o) → EP X pins σ Q (.str d.shown k) { s with heap := h2, toks := tk } := fun h2 k tk kp => ⟨.str d.shown, H, I.kept kp, ⟨k, rfl⟩, q⟩
  have dp := t.dp
  have un : X.A.units + d.depth < cLine := by omega
  obtain ⟨as, rd⟩ := p.reads I.hok r
  cases p with
  | non =>
    obtain rfl : u = Value.none := r
    rw [shown_none] at out
    exact pyReprObj_none (out _ _ _ fun _ _ e => e)
  | bl b =>
    obtain rfl : u = Value.bool b := r
    have e : (PyData.bool b).shown = if b = true then "True" else "False" := by cases b <;> simp [PyData.shown]
    rw [e] at out
    refine pyReprObj_bool ?_
    have o2 := out s.heap s.toks (s.toks + 1) fun _ _ e => e
    cases b <;> exact o2
  | int i =>
    obtain ⟨tt, rfl⟩ : ∃ t, u = Value.int i t := r
    have e : (PyData.int i).shown = toString i := by simp only [PyData.shown]
    have hz : i.natAbs.log2 < 1920 := by simpa [PyData.showable] using t.sh
    rw [e] at out
    exact pyReprObj_int hz (out _ _ _ fun _ _ e => e)
  | str z =>
    obtain ⟨tt, rfl⟩ : ∃ t, u = Value.str z t := r
    have sz := t.size
    rw [shown_str] at out sz
    exact pyReprObj_str (out _ _ _ fun _ _ e => e) sz
  | tup h1 h2 =>
    obtain rfl := r
    exact pyReprObj_of_reads rd t.sh (PyData.noDict_hsm (PyV.noDict (.tup h1 h2))) quiet un (fun _ _ e => e) out t.size
  | lst h1 h2 =>
    obtain rfl := r
    exact pyReprObj_of_reads rd t.sh (PyData.noDict_hsm (PyV.noDict (.lst h1 h2))) quiet un (fun _ _ e => e) out t.size
/-- repr(x) -/
theorem call_reprG (quiet : X.A.guards = some []) (room : Room j X.A) : CallR X (.builtin "repr") (fun xs H Q => ∃ x d, xs = [x] ∧ PyV H x d ∧ Tells d ∧ Q (.str d.shown) H) := by
  intro pins s σ H xs us Q I rel h
  obtain ⟨x, d, rfl, p, t, q⟩ := h
  match us, rel with
  | [u], .cons r .nil =>
    have out : ∀ (h2 : Heap) (k tk : Nat), (∀ b o, s.heap.get? b = some o → h2.get? b = some o) → EP X pins σ Q (.str d.shown k) { s with heap := h2, toks := tk } := fun h2 k tk kp => ⟨.str d.shown, H, I.kept kp, ⟨k, rfl⟩, q⟩
    have dp := t.dp
    have ru := room.units
    have un : X.A.units + (d.depth + 1) < cLine := by omega
    obtain ⟨as, rd⟩ := p.reads I.hok r
    cases p with
    | non =>
      obtain rfl : u = Value.none := r
      rw [shown_none] at out
      exact PySem.P.repr_of_none (out _ _ _ fun _ _ e => e)
    | bl b =>
      exact call_reprB pins s σ H _ _ Q I (.cons r .nil) ⟨b, rfl, by
        have e : (PyData.bool b).shown = if b = true then "True" else "False" := by cases b <;> simp [PyData.shown]
        rw [e] at q
        cases b <;> exact q⟩
    | int i =>
      have e : (PyData.int i).shown = toString i := by simp only [PyData.shown]
      have hz : i.natAbs.log2 < 1920 := by simpa [PyData.showable] using t.sh
      rw [e] at q
      exact call_reprV pins s σ H _ _ Q I (.cons r .nil) (.inr ⟨i, rfl, hz, q⟩)
    | str z =>
      have sz := t.size
      rw [shown_str] at q sz
      exact call_reprV pins s σ H _ _ Q I (.cons r .nil) (.inl ⟨z, rfl, sz, q⟩)
    | tup h1 h2 =>
      obtain rfl := r
      exact repr_of_reads' rd t.sh (PyData.noDict_hsm (PyV.noDict (.tup h1 h2))) quiet un (fun _ _ e => e) out t.size
    | lst h1 h2 =>
      obtain rfl := r
      exact repr_of_reads' rd t.sh (PyData.noDict_hsm (PyV.noDict (.lst h1 h2))) quiet un (fun _ _ e => e) out t.size
/-- {x!r} of a datum -/
def tFmtG (te : TE) : TE := fun σ H Q => te σ H fun x H1 => ∃ d, PyV H1 x d ∧ Tells d ∧ Q (.str d.shown) H1
theorem pe_fmtG {e : Expr} {te : TE} {pos : Pos} (quiet : X.A.guards = some []) (room : Room j X.A) (he : PE X e te) : PE X (.FormattedValue e 114 none pos) (tFmtG te) := by
  refine ⟨fun pins s σ H Q I h => wpAny_FormattedValue_repr (thn (he.run pins s σ H _ I h) fun v s1 hv => ?_)⟩
  obtain ⟨x, H1, J, rel, d, p, t, q⟩ := hv
  refine thn (repr_any (Q := fun y H2 => y = .str d.shown ∧ H2 = H1) quiet room.units J rel p t ⟨rfl, rfl⟩) fun u s2 z => ?_
  obtain ⟨y, H2, J2, r2, ey, eH⟩ := z
  subst ey
  subst eH
  obtain ⟨k, rfl⟩ := r2
  exact wpAny_formatField_str ⟨.str d.shown, _, J2, ⟨_, rfl⟩, q⟩ ⟨.str d.shown, _, J2.tok _, ⟨_, rfl⟩, q⟩ t.size
end
end L2

set_option Elab.async false
set_option linter.all false
set_option maxRecDepth 100000
set_option maxHeartbeats 4000000
/-! Where no repr is under way: calls of defs, own errors made, lambdas called. -/
namespace L2
open PySem PySem.Spec PyProof.Rows
/-- no repr is under way -/
abbrev Quiet (A : Around) : Prop := A.guards = some []
/-- what a def promises where no repr is under way -/
structure FnG (P : Program) (w : World) (K : PySem.W.Frag) (mg : Str → Option Value) (base : Heap) (C : CXT) (k : Nat) (f : Addr) (fd : FuncData) (ps : List Str) (sp : Sp) : Prop where
  count : ∀ (xs : List V) (H : Hp) (Q : VK) (E : XK), sp xs H Q E → xs.length = ps.length
  runs : ∀ (A : Around) (outer : List Env) (s : Shared) (H : Hp) (args : Args) (us : List Value) (xs : List V) (Q : VK) (E : XK), Quiet A → Room k A → Env0 P w K mg base A outer s H → BindsTo s fd args (ps.zip us) → Vals xs us → sp xs H Q E →
    codeAny (model P w) A (.call (.ref f) args) (CR C outer P w H s Q E) s
section
variable {P : Program} {w : World} {K : PySem.W.Frag} {mg : Str → Option Value} {base : Heap} {C : CXT} {k j : Nat} {f : Addr} {fd : FuncData} {ps : List Str} {sp : Sp}
theorem FnOk.quiet (F : FnOk P w K mg base C k f fd ps sp) : FnG P w K mg base C k f fd ps sp := ⟨fun xs H Q E h => F.len xs H Q E h, fun A outer s H args us xs Q E _ r e b v h => F.run A outer s H args us xs Q E r e b v h⟩
theorem FnG.more (F : FnG P w K mg base C j f fd ps sp) (h : j ≤ k) : FnG P w K mg base C k f fd ps sp := ⟨F.count, fun A outer s H args us xs Q E g r => F.runs A outer s H args us xs Q E g (r.mono h)⟩
/-- two promises of one def -/
theorem FnG.both {sp2 : Sp} (F1 : FnG P w K mg base C k f fd ps sp) (F2 : FnG P w K mg base C k f fd ps sp2) : FnG P w K mg base C k f fd ps (fun xs H Q E => sp xs H Q E ∨ sp2 xs H Q E) := by
  refine ⟨fun xs H Q E h => h.elim (F1.count _ _ _ _) (F2.count _ _ _ _), fun A outer s H args us xs Q E g r e b v h => ?_⟩
  rcases h with h | h
  · exact F1.runs A outer s H args us xs Q E g r e b v h
  · exact F2.runs A outer s H args us xs Q E g r e b v h
/-- a def by its body -/
theorem Fun.okG {x qual : Str} {st : Stmt} {N : List Str} (F : Fun K x qual st f fd) (S : FnScope N ps (defScope st)) (count : ∀ (xs : List V) (H : Hp) (Q : VK) (E : XK), sp xs H Q E → xs.length = ps.length)
    (body : ∀ (cdv : Value) (A : Around) (outer : List Env) (s : Shared) (H : Hp) (xs : List V) (Q : VK) (E : XK), Quiet A → Room k (A.deeper (envOfC qual (defScope st) s.heap.objs.size f cdv)) → sp xs H Q E →
      ∃ t, PSs (cxOf CX0 P w K mg base N qual (defScope st) f cdv A outer s H E).nox (defBody st) t ∧ t { nx := fun _ H2 => Q .non H2, rt := Q } (start N xs) H) : FnG P w K mg base CX0 (k + 1) f fd ps sp := by
  obtain ⟨oc, od, kV, doc, pm, an, cdv, ct, osl, e, look, ci⟩ := F.ex
  subst e
  refine ⟨count, fun A outer s H args us xs Q E g r e0 b v h => LamX.run_ofS look ci S r e0 b v (count _ _ _ _ h) fun r2 => ?_⟩
  obtain ⟨t, h1, h2⟩ := body cdv A outer s H xs Q E g r2 h
  exact ⟨t, h1.nox, h2⟩
theorem Fun.okXG {x qual : Str} {st : Stmt} {N : List Str} (F : Fun K x qual st f fd) (S : FnScope N ps (defScope st)) (count : ∀ (xs : List V) (H : Hp) (Q : VK) (E : XK), sp xs H Q E → xs.length = ps.length)
    (body : ∀ (cdv : Value) (A : Around) (outer : List Env) (s : Shared) (H : Hp) (xs : List V) (Q : VK) (E : XK), Quiet A → Room k (A.deeper (envOfC qual (defScope st) s.heap.objs.size f cdv)) → sp xs H Q E →
      ∃ t, PSs (cxOf (L2.CX P w) P w K mg base N qual (defScope st) f cdv A outer s H E) (defBody st) t ∧ t { nx := fun _ H2 => Q .non H2, rt := Q } (start N xs) H) : FnG P w K mg base (L2.CX P w) (k + 1) f fd ps sp := by
  obtain ⟨oc, od, kV, doc, pm, an, cdv, ct, osl, e, look, ci⟩ := F.ex
  subst e
  exact ⟨count, fun A outer s H args us xs Q E g r e0 b v h => LamX.run_ofS look ci S r e0 b v (count _ _ _ _ h) fun r2 => body cdv A outer s H xs Q E g r2 h⟩
end
section
variable {X : Cx} {C : CXT} {k j : Nat} {f : Addr} {fd : FuncData} {ps : List Str} {sp : Sp} {dvs : List V} {ds : List Value} {E : XK} {x : Str} {p pos pos2 : Pos} {e : Expr} {es : List Expr} {t ta : TA} {W : WX}
/-- the def runs -/
theorem runG {pins : List (Addr × Obj)} {σ : St} {H : Hp} {s : Shared} {Q : VK} {us : List Value} {xs : List V} (F : FnG X.prog X.w X.K X.mg X.base C k f fd ps sp) (g : Quiet X.A) (r : Room k X.A) (b : Binds X.K fd ps ds) (d : Vals dvs ds) (out : Passes C X E)
    (I : Inv X pins σ H s) (v : Vals xs us) (h : sp (xs ++ dvs) H Q E) : wpAny (model X.prog X.w) X.A (call (.ref f) us) (EP X pins σ Q) X.xe s := by
  have v2 := v.append d
  have n : (us ++ ds).length = ps.length := by
    rw [← v2.length]
    exact F.count _ _ _ _ h
  have ran := F.runs X.A X.stack s H ⟨us, []⟩ (us ++ ds) (xs ++ dvs) Q E g r I.env0 (b s us I.kIn n) v2 h
  refine wpAny_call (codeAny_mono ran fun a s2 z => ?_)
  match a, z with
  | .error er, z => exact out pins σ H s er s2 I z
  | .ok (.ret u), z => exact I.after z
  | .ok .next, z => exact z.elim
  | .ok .brk, z => exact z.elim
  | .ok .cont, z => exact z.elim
/-- a def of the text, by its name, where no repr is under way -/
structure DfG (P : Program) (w : World) (K : PySem.W.Frag) (mg : Str → Option Value) (base : Heap) (C : CXT) (k : Nat) (x : Str) (sp : Sp) : Prop where
  ex : ∃ (f : Addr) (fd : FuncData) (ps : List Str), FnG P w K mg base C k f fd ps sp ∧ mg x = some (.ref f) ∧ PySem.W.keepIn K (.ref f) = true ∧ Binds K fd ps []
theorem pe_cG (c : DfG X.prog X.w X.K X.mg X.base C k x sp) (g : Quiet X.A) (out : Passes C X E) (r : Room j X.A) (hk : k ≤ j) (hg : Gl X x) (ha : PA X (e :: es) t)
    (hdb : (x == ("__debug__" : Str)) = false := by decide) (he : starEach (e :: es) X.env = (false, eval e X.env) :: starEach es X.env := by rfl) (hpl : (backTo pos (starEach es X.env)).any (·.1) = false := by rfl) :
    PE X (.Call (.Name x p) (e :: es) [] pos) (tCall sp [] E t) := by
  obtain ⟨f, fd, ps, F, hm, kp, b⟩ := c.ex
  refine ⟨fun pins s σ H Q I h => ?_⟩
  refine wpAny_Call_Name_kw (ld_glob I hg hm ?_ hdb)
  refine PySem.W.callWith_K (h₀ := X.base) I.ok.mod.kin kp (thn (ha.run pos pins s σ H _ I h) fun us s1 z => ?_) he hpl
  obtain ⟨xs, H1, J, v, q⟩ := z
  exact ⟨J.kIn, runG F g (r.mono hk) b .nil out J v q⟩
/-- an expression that makes an error whose record has its six fields -/
def PMk6 (X : Cx) (e : Expr) (t : St → Hp → XK → Prop) : Prop :=
  ∀ (pins : List (Addr × Obj)) (s : Shared) (σ : St) (H : Hp) (Q : XK), Inv X pins σ H s → t σ H Q → wpAny (model X.prog X.w) X.A (eval e X.env) (fun u s2 => MkP X pins σ Q u s2 ∧ ∀ (a : Addr) (oe : Obj) (vs : Array Value), u = .ref a → s2.heap.get? a = some oe → oe.data = .fields vs → 4 < vs.size) X.xe s
theorem PMk6.pmk {X : Cx} {e : Expr} {t : St → Hp → XK → Prop} (h : PMk6 X e t) : PMk X e t := fun pins s σ H Q I q => thn (h pins s σ H Q I q) fun _ _ z => z.1
theorem under_quiet {A : Around} {Cl : Addr} {us : List Value} {kw : List (Str × Value)} (g : Quiet A) : Quiet (A.under (.builtin "type.__call__" ⟨.ref Cl :: us, kw⟩)) := by
  have e : A.guards = some [] := g
  show (A.under (.builtin "type.__call__" ⟨.ref Cl :: us, kw⟩)).guards = some []
  simp [Around.under, e, Code.guards, Code.isGuard, pushGuards, guardIds]
/-- an own error, made -/
theorem pmk_oexG {Cl fI : Addr} (T : OexC X.K Cl) (iC : PySem.W.findIn X.K (.ref Cl) "__init__" = some (some (.ref fI))) (tI : PySem.W.typeIn X.K (.ref fI) = some (.type "function"))
    (Fn : FnG X.prog X.w X.K X.mg X.base C k fI fd ps sp) (g : Quiet X.A) (r : Room (k + 1) X.A) (b : Binds X.K fd ps []) (none_out : Passes C X (fun _ _ _ => False)) (hg : Gl X x) (hm : X.mg x = some (.ref Cl)) (ha : PA X (e :: es) ta)
    (hdb : (x == ("__debug__" : Str)) = false := by decide) (he : starEach (e :: es) X.env = (false, eval e X.env) :: starEach es X.env := by rfl) (hpl : (backTo pos (starEach es X.env)).any (·.1) = false := by rfl) :
    PMk6 X (.Call (.Name x p) (e :: es) [] pos) (tMkO Cl sp [] ta) := by
  intro pins s σ H Q I h
  obtain ⟨nm, qn, NN, bs, bm, sn, sub, ab, col, dd, k0, k1, k2, k3, k5, isC, isB⟩ := T.cls
  refine wpAny_Call_Name_kw (ld_glob I hg hm ?_ hdb)
  refine PySem.W.callWith_K (h₀ := X.base) I.ok.mod.kin T.kC (thn (ha.run pos pins s σ H _ I h) fun us s1 z => ?_) he hpl
  obtain ⟨xs, H1, J, v, small, q⟩ := z
  refine ⟨J.kIn, ?_⟩
  obtain ⟨hp, gn, dr, tk, os⟩ := s1
  -- the tuple of the arguments, then the error
  have up : hp.objs.size ≤ hp.objs.size + 1 := Nat.le_succ _
  have new : H1 (hp.objs.size + 1) = none := J.hok.fresh up
  have q2 := q _ new
  generalize hG : (hp.push (PySem.W.kdv_tup us)).push (PySem.HandSPX.excO Cl hp.objs.size) = G
  have keep : ∀ c o, hp.get? c = some o → G.get? c = some o := fun c o z => by
    rw [← hG]
    exact Heap.get?_push_of_some _ (Heap.get?_push_of_some _ z)
  have here : G.get? (hp.objs.size + 1) = some (PySem.HandSPX.excO Cl hp.objs.size) := by
    rw [← hG]
    heap_get
  have J2 : Inv X pins σ (upd H1 (hp.objs.size + 1) (exo (hp.objs.size + 1) Cl none)) ⟨G, gn, dr, tk, os⟩ := J.laid (t' := tk) keep up (exo_ok here)
  have v2 : Vals (V.ref (hp.objs.size + 1) :: (xs ++ [])) (Value.ref (hp.objs.size + 1) :: (us ++ [])) := .cons rfl (v.append .nil)
  have n2 : (Value.ref (hp.objs.size + 1) :: us ++ []).length = ps.length := by
    have z := v2.length
    rw [Fn.count _ _ _ _ q2] at z
    exact z.symm
  have short : us.length ≤ sizeLine := by
    have z := v.length
    rw [← z, sizeLine_eq]
    omega
  have bb : BindsTo ⟨G, gn, dr, tk, os⟩ fd ⟨Value.ref (hp.objs.size + 1) :: us, []⟩ (ps.zip (Value.ref (hp.objs.size + 1) :: (us ++ []))) := by
    have z := b ⟨G, gn, dr, tk, os⟩ (Value.ref (hp.objs.size + 1) :: us) J2.kIn n2
    rw [List.cons_append] at z
    exact z
  have ran := Fn.runs _ X.stack _ _ ⟨Value.ref (hp.objs.size + 1) :: us, []⟩ (Value.ref (hp.objs.size + 1) :: (us ++ [])) _ _ (fun _ _ _ => False) (under_quiet g) (r.make Cl us []) (J2.env0.make Cl us []) bb v2 q2
  have isC2 := J.kIn _ _ isC
  subst hG
  refine wpAny_call (PySem.HandSPX.call_own PySem.F.excBase_ValueError (fun Y => PySem.HandSPX.refsVE_contains Y bm isB) isC2 (PySem.W.looks_findIn J.kIn iC) (fun self => PySem.W.bind_fn J.kIn self tI) short (codeAny_mono ran fun a s2 z => ?_))
  match a, z with
  | .error er, z => exact none_out pins σ _ _ er s2 J2 z
  | .ok .next, z => exact z.elim
  | .ok .brk, z => exact z.elim
  | .ok .cont, z => exact z.elim
  | .ok (.ret u), z =>
    obtain ⟨y, H2, os2, bare2, un2, hok2, rv, ey, d, fs, ea, ed, nd, q3⟩ := z
    subst ey
    obtain ⟨h2, g2, d2, t2, os3⟩ := s2
    have six : ∀ (y : Addr) (oe : Obj) (ws : Array Value), Value.ref (hp.objs.size + 1) = .ref y → h2.get? y = some oe → oe.data = .fields ws → 4 < ws.size := fun y oe ws e1 e2 e3 => by
      cases e1
      obtain ⟨t0, e4⟩ := exo_at hok2 ea
      rw [e4] at e2
      cases e2
      cases e3
      show (4 : Nat) < 6
      decide
    exact ⟨rv, mk_end (raises_own T.exC T.tyC) J up keep un2 hok2 os2 bare2 ea ed nd q3, six⟩
end
end L2

set_option Elab.async false
set_option linter.all false
set_option maxRecDepth 100000
set_option maxHeartbeats 4000000
/-! raise X(..) from Y(..), where nothing is being handled. -/
namespace L2
open PySem PySem.Spec PyProof.Rows
/-- the object of an error of which another one is the cause -/
def withCause (b : Addr) (o : Obj) : Obj := (o.mapFields (·.setIfInBounds 3 (.ref b))).mapFields (·.setIfInBounds 4 (.bool true))
/-- the heap in which the error at a has the one at b as its cause -/
def caused (h : Heap) (a b : Addr) : Heap := (h.update a (Obj.mapFields (·.setIfInBounds 3 (.ref b)))).update a (Obj.mapFields (·.setIfInBounds 4 (.bool true)))
theorem set_get {vs : Array Value} {i j : Nat} {x y : Value} (ne : i ≠ j) (h : vs[j]? = some y) : (vs.setIfInBounds i x)[j]? = some y := by
  first
  | (rw [Array.getElem?_setIfInBounds_ne ne]; exact h)
  | (simp [Array.getElem?_setIfInBounds, ne, h])
theorem caused_at {h : Heap} {a b : Addr} {oe : Obj} {vs : Array Value} (e : h.get? a = some oe) (d : oe.data = .fields vs) :
    (caused h a b).get? a = some (withCause b oe) ∧ (withCause b oe).data = .fields ((vs.setIfInBounds 3 (.ref b)).setIfInBounds 4 (.bool true)) := by
  have d3 := Obj.data_mapFields d (·.setIfInBounds 3 (.ref b))
  have e3 := Heap.get?_update_self (Obj.mapFields (·.setIfInBounds 3 (.ref b))) e (Obj.isFreed_of_fields d3)
  have d4 := Obj.data_mapFields d3 (·.setIfInBounds 4 (.bool true))
  exact ⟨Heap.get?_update_self (Obj.mapFields (·.setIfInBounds 4 (.bool true))) e3 (Obj.isFreed_of_fields d4), d4⟩
theorem caused_ne {h : Heap} {a b c : Addr} (ne : a ≠ c) : (caused h a b).get? c = h.get? c := by
  unfold caused
  rw [Heap.get?_update_other _ _ ne, Heap.get?_update_other _ _ ne]
theorem raise_from {P : Program} {w : World} {A : Around} {E : Value → Shared → Prop} {env : Env} {s : Shared} {x c : Sem Value} {Q : Flow → Shared → Prop} (calm : A.handled = none)
    (h : wpAny (model P w) A x (fun v s1 => ∃ a, v = .ref a ∧ wpAny (model P w) A c (fun u s2 => ∃ b oe ob vs ws cls cb, u = .ref b ∧ s2.heap.get? a = some oe ∧ oe.cls = cls ∧ oe.data = .fields vs ∧ vs[1]? = some .none ∧ 4 < vs.size ∧
      s2.heap.get? b = some ob ∧ ob.cls = cb ∧ ob.data = .fields ws ∧ PySem.W.Looks (model P w) s2.heap (isSubtype cls (.type "BaseException")) true ∧ PySem.W.Looks (model P w) s2.heap (isSubtype cb (.type "BaseException")) true ∧
      PySem.W.Looks (model P w) (caused s2.heap a b) (typeOf cls) (.type "type") ∧ E (.ref a) { s2 with heap := caused s2.heap a b }) E s1) E s) :
    wpAny (model P w) A (raiseStmt env (some x) (some c)) Q E s := by
  unfold raiseStmt
  dsimp only
  refine wpAny_bind (wpAny_mono h (fun v s1 z => ?_) fun _ _ y => y)
  obtain ⟨a, rfl, z⟩ := z
  refine wpAny_bind (wpAny_holding (wpAny_mono z (fun u s2 y => ?_) fun _ _ y => y))
  obtain ⟨b, oe, ob, vs, ws, cls, cb, rfl, ea, hcls, da, h1, big, eb, hcb, db, sub, subB, ty, out⟩ := y
  have type_a : PySem.W.Looks (model P w) s2.heap (typeOf (.ref a)) cls := fun A Q E s k q => wpAny_typeOf_ref (k _ _ ea) (by rw [hcls]; exact q)
  have type_b : PySem.W.Looks (model P w) s2.heap (typeOf (.ref b)) cb := fun A Q E s k q => wpAny_typeOf_ref (k _ _ eb) (by rw [hcb]; exact q)
  have inst_a : PySem.W.Looks (model P w) s2.heap (isInstance (.ref a) (.type "BaseException")) true := type_a.andThen sub
  have inst_b : PySem.W.Looks (model P w) s2.heap (isInstance (.ref b) (.type "BaseException")) true := type_b.andThen subB
  have no_type : ∀ {y : Addr} {oy : Obj} {us : Array Value} {s' : Shared} {R : Bool → Shared → Prop}, s'.heap.get? y = some oy → oy.data = .fields us → R false s' → wpAny (model P w) A (isType (.ref y)) R E s' := fun {y oy us s' R} e d q => by
    simp only [isType, loadHead]
    refine wpAny_bind (wpAny_loadPart e ?_)
    rw [d]
    exact wpAny_pure q
  have d3 := Obj.data_mapFields da (·.setIfInBounds 3 (.ref b))
  have e3 := Heap.get?_update_self (Obj.mapFields (·.setIfInBounds 3 (.ref b))) ea (Obj.isFreed_of_fields d3)
  obtain ⟨e4, d4⟩ := caused_at (b := b) ea da
  have n3 : 3 < vs.size := by omega
  have n4 : 4 < (vs.setIfInBounds 3 (Value.ref b)).size := by simpa using big
  have h4 : ((vs.setIfInBounds 3 (Value.ref b)).setIfInBounds 4 (Value.bool true))[1]? = some Value.none := set_get (by decide) (set_get (by decide) h1)
  have type4 : PySem.W.Looks (model P w) (caused s2.heap a b) (typeOf (.ref a)) cls := fun A Q E s k q => wpAny_typeOf_ref (k _ _ e4) (by
    have : (withCause b oe).cls = cls := by
      unfold withCause
      rw [Obj.cls_mapFields, Obj.cls_mapFields]
      exact hcls
    rw [this]
    exact q)
  have rest : wpAny (model P w) A (do
      let y ← isType (.ref a)
      if y = true then do
        let e ← holding [.ref a] (raisedFor (.ref a) (.ref a))
        setFlight e none
        raiseNew e
      else do
        let e ← raisedInstance (.ref a)
        setFlight e none
        raiseNew e : Sem Flow) Q E { s2 with heap := caused s2.heap a b } := by
    refine wpAny_bind (no_type e4 d4 ?_)
    simp only [Bool.false_eq_true, if_false]
    unfold raisedInstance
    refine wpAny_bind (wpAny_bind (type4.here (wpAny_bind (ty.here ?_))))
    rw [if_pos (beq_self_eq_true _)]
    refine wpAny_pure ?_
    unfold setFlight raiseNew
    refine wpAny_bind (wpAny_bind (wpAny_field e4 d4 h4 ?_))
    rw [if_neg (by decide)]
    refine wpAny_pure (wpAny_bind (wpAny_handled ?_))
    rw [calm]
    first
      | exact wpAny_throw out
      | exact wpAny_bind (wpAny_pure (wpAny_throw out))
  refine wpAny_bind (wpAny_pure ?_)
  dsimp only
  have told : ∀ {y : Addr} {oy : Obj} {us : Array Value} {m : String} {R : Value → Shared → Prop}, s2.heap.get? y = some oy → oy.data = .fields us → PySem.W.Looks (model P w) s2.heap (isInstance (.ref y) (.type "BaseException")) true → R (.ref y) s2 →
      wpAny (model P w) A (excFromValue (.ref y) m) R E s2 := fun {y oy us m R} e d i q => by
    unfold excFromValue isExcClass
    refine wpAny_bind (wpAny_bind (no_type e d ?_))
    simp only [Bool.false_eq_true, if_false]
    refine wpAny_pure ?_
    simp only [Bool.false_eq_true, if_false]
    refine wpAny_bind (i.here ?_)
    simp only [if_true]
    exact wpAny_pure q
  refine wpAny_bind (wpAny_holding (told ea da inst_a ?_))
  rw [if_neg (show ¬ (Value.ref b == Value.none) = true from fun z => nomatch z)]
  refine wpAny_bind (wpAny_holding (told eb db inst_b ?_))
  refine wpAny_bind (wpAny_setField ea da n3 (wpAny_bind (wpAny_setField e3 d3 n4 ?_)))
  exact rest
end L2

set_option Elab.async false
set_option linter.all false
set_option maxRecDepth 100000
set_option maxHeartbeats 4000000
/-! raise X(..) from Y(..): the rule. -/
namespace L2
open PySem PySem.Spec PyProof.Rows
section
variable {X : Cx} {pins : List (Addr × Obj)} {σ : St} {H : Hp} {s : Shared}
/-- the same, where only what is not the heap's has changed, and more is there -/
theorem Inv.grown {s2 : Shared} (I : Inv X pins σ H s) (k : ∀ b o, s.heap.get? b = some o → s2.heap.get? b = some o) (os : s2.os = s.os) (bare : AllBare s2.gens) : Inv X pins σ H s2 := by
  obtain ⟨h2, g2, d2, t2, o2⟩ := s2
  have J := I.kept (h' := h2) (t' := t2) k
  exact ⟨J.ok, by show o2 = _; exact Eq.trans os I.os, bare, J.base, J.loc, J.cell, J.free, J.freeC, J.pin, J.hok, J.len⟩
/-- one more object that is held fast -/
theorem Inv.hold {a : Addr} {o : Obj} (I : Inv X pins σ H s) (e : s.heap.get? a = some o) (n : H a = none) (l : a ≠ X.env.locals) (f : a ∉ X.fs) (c : ∀ v, o.data ≠ .cell v) : Inv X ((a, o) :: pins) σ H s := by
  refine ⟨I.ok, I.os, I.bare, I.base, I.loc, I.cell, I.free, I.freeC, fun p hp => ?_, I.hok, I.len⟩
  rcases List.mem_append.mp hp with h | h
  · exact I.pin p (List.mem_append_left _ h)
  · rcases List.mem_cons.mp h with h | h
    · rw [h]
      exact ⟨e, n, l, f, c⟩
    · exact I.pin p (List.mem_append_right _ h)
/-- without an object that is not tracked, nor a frame's nor a cell -/
theorem Inv.less {a : Addr} {o : Obj} {G : Heap} (I : Inv X ((a, o) :: pins) σ H s) (new : X.s_0.heap.get? a = none) (c : ∀ v, o.data ≠ .cell v) (away : ∀ p ∈ X.pn ++ pins, p.1 ≠ a) (gk : ∀ b, b ≠ a → G.get? b = s.heap.get? b) : Inv X pins σ H { s with heap := G } := by
  obtain ⟨ea, na, la, fa, _⟩ := I.pin (a, o) (List.mem_append_right _ (List.mem_cons_self ..))
  have old : ∀ {b : Addr} {u : Obj}, X.s_0.heap.get? b = some u → b ≠ a := fun {b u} e z => by
    rw [z, new] at e
    cases e
  have look : ∀ {b : Addr} {v : Option Value}, s.heap.IsCell b v → G.IsCell b v := fun {b v} ⟨u, hu, hd⟩ => by
    refine ⟨u, ?_, hd⟩
    rw [gk b fun z => ?_]
    · exact hu
    · rw [z, ea] at hu
      cases hu
      exact c _ hd
  refine ⟨I.ok, I.os, I.bare, ?_, ?_, fun x b e => ?_, I.free, I.freeC, fun p hp => ?_, ?_, I.len⟩
  · refine { keep := fun b u e n h1 h2 => ?_, slot := fun b u e n h1 h2 => ?_, free := I.base.free, there := fun b u e h => ?_, tups := I.base.tups, frzs := I.base.frzs, tbls := I.base.tbls }
    · show G.get? b = _
      rw [gk b (old e)]
      exact I.base.keep b u e n h1 h2
    · show ∃ sl, G.get? b = _
      rw [gk b (old e)]
      exact I.base.slot b u e n h1 h2
    · show ∃ q, G.get? b = some q
      rw [gk b (old e)]
      exact I.base.there b u e h
  · obtain ⟨m, ⟨u, es, ep, e, d, r⟩, q⟩ := I.loc
    refine ⟨m, ⟨u, es, ep, ?_, d, r⟩, fun i x v h1 h2 h3 => ?_⟩
    · show G.get? _ = _
      rw [gk _ (Ne.symm la)]
      exact e
    · obtain ⟨w, rv, lk⟩ := q i x v h1 h2 h3
      refine ⟨w, rv, ?_⟩
      rcases lk with lk | ⟨k1, b, k2, k3⟩
      · exact .inl lk
      · exact .inr ⟨k1, b, k2, look k3⟩
  · obtain ⟨v, hv⟩ := I.cell x b e
    exact ⟨v, look hv⟩
  · obtain ⟨e, r⟩ := I.pin p (by
      rcases List.mem_append.mp hp with h | h
      · exact List.mem_append_left _ h
      · exact List.mem_append_right _ (List.mem_cons_of_mem _ h))
    refine ⟨?_, r⟩
    show G.get? _ = _
    rw [gk _ (away p hp)]
    exact e
  · intro b u e
    have nb : b ≠ a := fun z => by
      rw [z, na] at e
      cases e
    refine (I.hok b u e).stay (fun d v hd q => ?_) (fun d q => q) fun d xs q => q
    rw [gk d ?_]
    · exact q
    · rcases hd with z | z
      · rw [z]
        exact nb
      · exact fun y => by
          rw [y, na] at z
          cases z
end
section
variable {X : Cx} {C : Addr} {e c : Expr} {te tc : St → Hp → XK → Prop} {pos : Pos} {W : WX}
theorem ps_from (hex : X.ex = []) (hc : X.calm = true) (tk : Takes X W) (he : PMk6 X e te) (hcs : PMk X c tc) : PS X (.Raise (some e) (some c) pos) (fun _ σ H => te σ H fun cls d H1 => tc σ H1 fun _ _ H2 => W cls d σ H2) := by
  refine ⟨fun pins s σ H D I h => ?_⟩
  show wpAny _ _ (do standAt pos; raiseStmt X.env (some (do let v ← eval e X.env; standAt pos; pure v)) (some (do let v ← eval c X.env; standAt pos; pure v))) _ _ _
  refine wpAny_bind (wpAny_standAt (raise_from (I.ok.hd hc) (wpAny_bind (wpAny_mono (he pins s σ H _ I h) (fun u s1 hu => wpAny_bind (wpAny_standAt (wpAny_pure ?_))) fun _ _ x => x))))
  obtain ⟨⟨a, oe, vs, sI, H1, cls, d, rfl, J, k, gone, ea, za, da, first, na, os, bare, r, q⟩, six⟩ := hu
  have big := six a oe vs rfl ea da
  have nocell : ∀ v, oe.data ≠ .cell v := fun v z => by
    rw [da] at z
    cases z
  have other : ∀ {b : Addr} {o : Obj}, sI.heap.get? b = some o → b ≠ a := fun {b o} e z => by
    rw [z, gone] at e
    cases e
  have new : X.s_0.heap.get? a = none := by
    cases z : X.s_0.heap.get? a with
    | none => rfl
    | some o =>
      obtain ⟨o2, e2⟩ := J.base.there a o z (by rw [hex]; exact List.not_mem_nil)
      exact absurd rfl (other e2)
  have aloc : a ≠ X.env.locals := fun z => by
    obtain ⟨m, ⟨u, es, ep, e1, _⟩, _⟩ := J.loc
    exact other e1 z.symm
  have afs : a ∉ X.fs := fun z => by
    obtain ⟨_, o, ho, _⟩ := J.ok.funs.mem z
    rw [new] at ho
    cases ho
  have J2 := (J.grown k os bare).hold ea na aloc afs nocell
  refine ⟨a, rfl, wpAny_bind (wpAny_mono (hcs _ s1 σ H1 _ J2 q) (fun u s2 hu => wpAny_bind (wpAny_standAt (wpAny_pure ?_))) fun _ _ x => x)⟩
  obtain ⟨b, ob, ws, sI2, H2, cls2, d2, rfl, J3, k2, gone2, eb, zb, db, first2, nb, os2, bare2, r2, q2⟩ := hu
  obtain ⟨ea2, na2, _⟩ := J3.pin (a, oe) (List.mem_append_right _ (List.mem_cons_self ..))
  have ea3 := k2 _ _ ea2
  have kin2 := J3.kIn.keeps k2
  have inK : ∀ {y : Addr} {o : Obj}, X.K.lookup y = some o → y ≠ a := fun {y o} e => other (J.kIn _ _ e)
  obtain ⟨c1, c2⟩ := caused_at (b := b) ea3 da
  have kin3 : X.K.In (caused s2.heap a b) := fun y o e => by
    rw [caused_ne (Ne.symm (inK e))]
    exact kin2 _ _ e
  obtain ⟨l1, _⟩ := r (model X.prog X.w) s2.heap kin2
  obtain ⟨_, l3⟩ := r (model X.prog X.w) (caused s2.heap a b) kin3
  obtain ⟨l2, _⟩ := r2 (model X.prog X.w) s2.heap kin2
  obtain ⟨G, g1, g2⟩ := restrict sI2.heap fun y => decide (y ≠ a)
  have gk : ∀ y, y ≠ a → G.get? y = sI2.heap.get? y := fun y hy => g1 y (decide_eq_true hy)
  have ga : G.get? a = none := g2 a (by simp)
  have J4 := J3.less (G := G) new nocell (fun p hp => other (J.pin p hp).1) gk
  refine ⟨b, oe, ob, vs, ws, cls, cls2, rfl, ea3, za.1, da, first, big, eb, zb.1, db, l1, l2, l3, tk _ _ ?_⟩
  refine XE.new (s' := { s2 with heap := caused s2.heap a b }) J4 (fun y o e => ?_) ga c1 ?_ c2 ?_ na2 os2 bare2 q2
  · have ne : y ≠ a := fun z => by
      rw [z] at e
      rw [show G.get? a = some o from e] at ga
      cases ga
    show (caused s2.heap a b).get? y = _
    rw [caused_ne (Ne.symm ne)]
    exact k2 _ _ ((gk y ne).symm.trans e)
  · unfold withCause
    exact Zc.steady _ _ (Zc.steady _ _ za)
  · exact set_get (by decide) (set_get (by decide) first)
end
end L2

set_option Elab.async false
set_option linter.all false
set_option maxRecDepth 100000
set_option maxHeartbeats 8000000
/-! Values of any kind: copied, told by errors, no texts. -/
namespace V8
open PySem PySem.Spec PyProof.Rows L2
abbrev s_BadWord_init : Stmt := inClass (topS 6) 0
abbrev n_BadWord_init : List Str := ["self", "value"]
theorem sc_BadWord_init : FnScope ["self", "value"] ["self", "value"] (defScope s_BadWord_init) := ⟨rfl, rfl, rfl, by decide +kernel, rfl, by decide +kernel, by decide +kernel⟩
abbrev s_BadList_init : Stmt := inClass (topS 12) 0
abbrev n_BadList_init : List Str := ["self", "at"]
theorem sc_BadList_init : FnScope ["self", "at"] ["self", "at"] (defScope s_BadList_init) := ⟨rfl, rfl, rfl, by decide +kernel, rfl, by decide +kernel, by decide +kernel⟩
abbrev s_BadRow_init : Stmt := inClass (topS 13) 0
abbrev n_BadRow_init : List Str := ["self", "at"]
theorem sc_BadRow_init : FnScope ["self", "at"] ["self", "at"] (defScope s_BadRow_init) := ⟨rfl, rfl, rfl, by decide +kernel, rfl, by decide +kernel, by decide +kernel⟩
/-- no list, tuple, dict, object -/
def Flat (x : V) : Prop := (∃ z, x = .str z) ∨ (∃ i, x = .int i) ∨ x = .non ∨ ∃ b, x = .bl b
theorem Flat.ty {K : PySem.W.Frag} {x : V} (f : Flat x) : ∃ t, (∀ H : Hp, TyX K H x t) ∧ PySem.W.kitOne K t (.type "list") = some false ∧ PySem.W.kitOne K t (.type "tuple") = some false ∧ PySem.W.kitOne K t (.type "dict") = some false := by
  rcases f with ⟨z, rfl⟩ | ⟨i, rfl⟩ | rfl | ⟨b, rfl⟩
  · exact ⟨_, fun _ => ty_str _, kit_ty (by decide +kernel), kit_ty (by decide +kernel), kit_ty (by decide +kernel)⟩
  · exact ⟨_, fun _ => .base (.int i), kit_ty (by decide +kernel), kit_ty (by decide +kernel), kit_ty (by decide +kernel)⟩
  · exact ⟨_, fun _ => .base .non, kit_ty (by decide +kernel), kit_ty (by decide +kernel), kit_ty (by decide +kernel)⟩
  · exact ⟨_, fun _ => .base (.bl b), kit_ty (by decide +kernel), kit_ty (by decide +kernel), kit_ty (by decide +kernel)⟩
theorem Flat.pyv {H H2 : Hp} {x : V} {d : PyData} (f : Flat x) (p : PyV H x d) : PyV H2 x d := by
  rcases f with ⟨z, rfl⟩ | ⟨i, rfl⟩ | rfl | ⟨b, rfl⟩ <;> cases p <;> constructor
theorem flats_pyv {H H2 : Hp} : ∀ {xs : List V} {ds : List PyData}, (∀ y ∈ xs, Flat y) → PyVs H xs ds → PyVs H2 xs ds
  | _, _, _, .nil => .nil
  | _, _, f, .cons h r => .cons ((f _ (List.mem_cons_self ..)).pyv h) (flats_pyv (fun y hy => f y (List.mem_cons_of_mem _ hy)) r)
/-- a value that an error can be told: flat, or a tuple of such -/
def Told1 (H : Hp) (x : V) : Prop := Flat x ∨ ∃ a xs, x = .ref a ∧ H a = some (.tup xs) ∧ xs.length ≤ 100 ∧ ∀ y ∈ xs, Flat y
theorem Told1.same {H H2 : Hp} {x : V} (t : Told1 H x) (s : Same H H2) : Told1 H2 x := by
  rcases t with f | ⟨a, xs, e, h, l, g⟩
  · exact .inl f
  · exact .inr ⟨a, xs, e, s _ _ h, l, g⟩
def spCopyA : Sp := fun vs H Q _ => ∃ (x : V) (d : PyData), vs = [x] ∧ Told1 H x ∧ PyV H x d ∧ ∀ y H', Same H H' → PyV H' y d → Q y H'
section
variable {P : Program} {w : World} {K : PySem.W.Frag} {mg : Str → Option Value} {base : Heap} {CM CJ : Addr}
theorem ok_copyA {f : Addr} {fd : FuncData} (F : Fun K "copied" "copied" s_copied f fd) (T : Tx K mg CM CJ) (D_copied : Df P w K mg base 1 "copied" (spCopied K)) : FnOk P w K mg base CX0 2 f fd ["value"] spCopyA := by
  refine F.ok sc_copied (fun vs H Q E h => ?_) (fun cdv A outer s H vs Q E hr h => ?_)
  · obtain ⟨x, d, rfl, _⟩ := h
    rfl
  · obtain ⟨x, d, rfl, tl, pv0, q⟩ := h
    refine ⟨_, (pss_cons (ps_if (pt_val (pe_callB call_isi (by rfl) T.isinstance (by decide +kernel) (pa_cons (pv 0) (pa_cons (pe_bltn (v := .ty "list") (by rfl) T.list (by decide +kernel) rfl) pa_nil))))
        (pss_one ps_never)
        pss_nil)
      (pss_cons (ps_if (pt_val (pe_callB call_isi (by rfl) T.isinstance (by decide +kernel) (pa_cons (pv 0) (pa_cons (pe_bltn (v := .ty "tuple") (by rfl) T.tuple (by decide +kernel) rfl) pa_nil))))
        (pss_one (ps_ret (pe_callTy (call_tuple_ofK (K := K) rfl) (by rfl) T.tuple (by decide +kernel) (pa_cons (pe_lc (own := [("part", 1)]) (g := gName 1) (by rfl) sc_copied.nd (pi_tup (pv 0)) (blkOk_by (own := [("part", 1)]) (N := n_copied) (sc := defScope s_copied) (by decide +kernel)) (fun _ _ _ _ _ => (pg_name (i := 1) sc_copied.nd rfl (.inl rfl))) (fun _ _ _ _ _ => pts_nil) (fun _ _ _ _ _ => (pe_c D_copied hr (by decide) (by rfl) (pa_cons (pv 1) pa_nil)))) pa_nil))))
        pss_nil)
      (pss_cons (ps_if (pt_val (pe_callB call_isi (by rfl) T.isinstance (by decide +kernel) (pa_cons (pv 0) (pa_cons (pe_bltn (v := .ty "dict") (by rfl) T.dict (by decide +kernel) rfl) pa_nil))))
        (pss_one ps_never)
        pss_nil)
      (pss_one (ps_ret (pv 0)))))), ?_⟩
    rcases tl with f | ⟨a, xs, rfl, ha, l, fl⟩
    · obtain ⟨t, ty, e1, e2, e3⟩ := f.ty (K := K)
      refine ⟨_, rfl, _, .ty "list", t, .type "list", false, rfl, .ty _, ty _, e1, false, rfl, iteF ?_⟩
      refine ⟨_, rfl, _, .ty "tuple", t, .type "tuple", false, rfl, .ty _, ty _, e2, false, rfl, iteF ?_⟩
      refine ⟨_, rfl, _, .ty "dict", t, .type "dict", false, rfl, .ty _, ty _, e3, false, rfl, iteF ?_⟩
      exact ⟨_, rfl, q _ _ (Same.refl H) pv0⟩
    · refine ⟨_, rfl, _, .ty "list", .type "tuple", .type "list", false, rfl, .ty _, .base (.tup ha), kit_ty (by decide +kernel), false, rfl, iteF ?_⟩
      refine ⟨_, rfl, _, .ty "tuple", .type "tuple", .type "tuple", true, rfl, .ty _, .base (.tup ha), kit_ty (by decide +kernel), true, rfl, iteT ?_⟩
      refine ⟨_, rfl, a, rfl, ⟨_, .inl (.inl ha)⟩, fun D nD => lc_it (walk_tup (K := K) (a := a) (xs := xs)) (fun i H2 => H2 = upd H D (.lst (xs.take i))) rfl ?_ ?_ ?_⟩
      · rintro i H2 hi rfl
        exact .inl (.inl (by rw [upd_ne (ne_of_none ha nD)]; exact ha))
      · rintro i y H2 H3 hi rfl ⟨rfl, hy⟩
        obtain ⟨hi', ey⟩ := List.getElem?_eq_some_iff.mp hy
        obtain ⟨t, ty, e1, e2, e3⟩ := (fl y (ey ▸ List.getElem_mem hi')).ty (K := K)
        refine ⟨rfl, _, rfl, y, t, rfl, ty _, e1, e2, e3, _, upd_same, ?_, ?_⟩
        · rw [List.length_take, sizeLine_eq]
          omega
        · rw [upd_upd, List.take_add_one, hy]
          rfl
      · rintro H2 rfl
        rw [List.take_length]
        refine ⟨D, xs, rfl, .inl ⟨SqL.of upd_same, fun b nb => ?_⟩⟩
        cases pv0 with
        | tup h r =>
          rw [ha] at h
          cases h
          exact q _ _ (same_put (s := same_put (s := Same.refl H) nD) nb) (.tup upd_same (flats_pyv fl r))
        | lst h r =>
          rw [ha] at h
          cases h
end
/-- what an error of one field promises, whatever is told -/
def spErrG (K : PySem.W.Frag) (C : Addr) (fld : Str) : Sp := fun vs H Q _ => ∃ (a : Addr) (x : V) (d : PyData), vs = [.ref a, x] ∧ H a = some (exo a C none) ∧ OexC K C ∧ PySem.W.findIn K (.ref C) fld = some none ∧ Told1 H x ∧ PyV H x d ∧ Tells d ∧ d.shown.length ≤ 7000000 ∧
  ∀ y dx H1, Same H H1 → PyV H1 y d → H1 dx = none → dx ≠ a → Q .non (upd (upd H1 dx (exd dx [(fld, y)])) a (exo a C (some dx)))
section
variable {P : Program} {w : World} {K : PySem.W.Frag} {mg : Str → Option Value} {base : Heap} {CE C : Addr}
theorem ok_BadWordG {f : Addr} {fd : FuncData} (F : Fun K "__init__" "BadWord.__init__" s_BadWord_init f fd) (T : Tb K mg CE) (D_copied : Df P w K mg base 2 "copied" spCopyA) : FnG P w K mg base CX0 3 f fd ["self", "value"] (spErrG K C "value") := by
  refine F.okG sc_BadWord_init (fun vs H Q E h => ?_) (fun cdv A outer s H vs Q E quiet hr h => ?_)
  · obtain ⟨a, x, d, rfl, _⟩ := h
    rfl
  · obtain ⟨a, x, d, rfl, ha, oc, no, tl, p, t, sz, q⟩ := h
    refine ⟨_, (pss_cons (ps_expr (pe_baseinit (by rfl) T.bE T.bR T.bV (pa_cons (pv 0) (pa_cons (pe_joinedT (pj_cons (pe_fmtG quiet hr (pv 1)) (pj_cons pe_str pj_nil))) pa_nil))))
      (pss_one (ps_ost (pv 0) (pe_c D_copied hr (by decide) (by rfl) (pa_cons (pv 1) pa_nil)) rfl))), ?_⟩
    have h1 : (" is no text that can stand here" : Str).length ≤ 1000 := by decide +kernel
    have h0 : Str.empty.length ≤ 1000 := by decide +kernel
    refine ⟨_, rfl, _, rfl, d, p, t, d.shown, rfl, ?_, _, rfl, ?_, a, C, _, rfl, (by show 1 ≤ 1000; decide), oc, ha, ?_⟩
    · rw [len_app, sizeLine_eq]
      omega
    · rw [len_app, len_app, sizeLine_eq]
      omega
    · refine ⟨_, rfl, x, d, rfl, tl, p, fun y H1 s1 p1 => ⟨_, rfl, a, C, rfl, oc, no, .inl ⟨s1 _ _ ha, fun dx n ne => q y dx H1 s1 p1 n ne⟩⟩⟩
theorem ok_BadListG {f : Addr} {fd : FuncData} (F : Fun K "__init__" "BadList.__init__" s_BadList_init f fd) (T : Tb K mg CE) (D_copied : Df P w K mg base 2 "copied" spCopyA) : FnG P w K mg base CX0 3 f fd ["self", "at"] (spErrG K C "at") := by
  refine F.okG sc_BadList_init (fun vs H Q E h => ?_) (fun cdv A outer s H vs Q E quiet hr h => ?_)
  · obtain ⟨a, x, d, rfl, _⟩ := h
    rfl
  · obtain ⟨a, x, d, rfl, ha, oc, no, tl, p, t, sz, q⟩ := h
    refine ⟨_, (pss_cons (ps_expr (pe_baseinit (by rfl) T.bE T.bR T.bV (pa_cons (pv 0) (pa_cons (pe_joinedT (pj_cons pe_str (pj_cons (pe_fmtG quiet hr (pv 1)) pj_nil))) pa_nil))))
      (pss_one (ps_ost (pv 0) (pe_c D_copied hr (by decide) (by rfl) (pa_cons (pv 1) pa_nil)) rfl))), ?_⟩
    have h1 : (Str.empty ++ ("this is no list of misreadings: " : Str)).length ≤ 1000 := by decide +kernel
    refine ⟨_, rfl, _, rfl, ?_, _, rfl, d, p, t, d.shown, rfl, ?_, a, C, _, rfl, (by show 1 ≤ 1000; decide), oc, ha, ?_⟩
    · rw [sizeLine_eq]
      omega
    · rw [len_app, sizeLine_eq]
      omega
    · refine ⟨_, rfl, x, d, rfl, tl, p, fun y H1 s1 p1 => ⟨_, rfl, a, C, rfl, oc, no, .inl ⟨s1 _ _ ha, fun dx n ne => q y dx H1 s1 p1 n ne⟩⟩⟩
theorem ok_BadRowG {f : Addr} {fd : FuncData} (F : Fun K "__init__" "BadRow.__init__" s_BadRow_init f fd) (T : Tb K mg CE) (D_copied : Df P w K mg base 2 "copied" spCopyA) : FnG P w K mg base CX0 3 f fd ["self", "at"] (spErrG K C "at") := by
  refine F.okG sc_BadRow_init (fun vs H Q E h => ?_) (fun cdv A outer s H vs Q E quiet hr h => ?_)
  · obtain ⟨a, x, d, rfl, _⟩ := h
    rfl
  · obtain ⟨a, x, d, rfl, ha, oc, no, tl, p, t, sz, q⟩ := h
    refine ⟨_, (pss_cons (ps_expr (pe_baseinit (by rfl) T.bE T.bR T.bV (pa_cons (pv 0) (pa_cons (pe_joinedT (pj_cons pe_str (pj_cons (pe_fmtG quiet hr (pv 1)) pj_nil))) pa_nil))))
      (pss_one (ps_ost (pv 0) (pe_c D_copied hr (by decide) (by rfl) (pa_cons (pv 1) pa_nil)) rfl))), ?_⟩
    have h1 : (Str.empty ++ ("this is no row of misreadings: " : Str)).length ≤ 1000 := by decide +kernel
    refine ⟨_, rfl, _, rfl, ?_, _, rfl, d, p, t, d.shown, rfl, ?_, a, C, _, rfl, (by show 1 ≤ 1000; decide), oc, ha, ?_⟩
    · rw [sizeLine_eq]
      omega
    · rw [len_app, sizeLine_eq]
      omega
    · refine ⟨_, rfl, x, d, rfl, tl, p, fun y H1 s1 p1 => ⟨_, rfl, a, C, rfl, oc, no, .inl ⟨s1 _ _ ha, fun dx n ne => q y dx H1 s1 p1 n ne⟩⟩⟩
end
/-- an own error by its name, where no repr is under way -/
structure ErmG (P : Program) (w : World) (K : PySem.W.Frag) (mg : Str → Option Value) (base : Heap) (x fld : Str) (C : Addr) (sp : Sp) : Prop where
  oc : OexC K C
  no : PySem.W.findIn K (.ref C) fld = some none
  ex : ∃ (fI : Addr) (fd : FuncData) (ps : List Str), PySem.W.findIn K (.ref C) "__init__" = some (some (.ref fI)) ∧ PySem.W.typeIn K (.ref fI) = some (.type "function") ∧ FnG P w K mg base CX0 3 fI fd ps sp ∧ Binds K fd ps [] ∧ mg x = some (.ref C)
theorem Erm.quiet {P : Program} {w : World} {K : PySem.W.Frag} {mg : Str → Option Value} {base : Heap} {x fld : Str} {C : Addr} (e : Erm P w K mg base x fld C) : ErmG P w K mg base x fld C (spErr1 K C fld) := by
  obtain ⟨oc, no, fI, fd, ps, h1, h2, F, b, h3⟩ := e
  exact ⟨oc, no, fI, fd, ps, h1, h2, F.quiet.more (by decide), b, h3⟩
section
variable {X : Cx} {x fld : Str} {C : Addr} {sp : Sp} {j : Nat} {p pos pos2 : Pos} {e : Expr} {es : List Expr} {ta : TA} {W : WX}
theorem ps_raiseG (M : ErmG X.prog X.w X.K X.mg X.base x fld C sp) (quiet : Quiet X.A) (hc : X.calm = true) (tk : Takes X W) (hr : Room j X.A) (hj : 4 ≤ j) (hg : Gl X x) (ha : PA X (e :: es) ta)
    (hdb : (x == ("__debug__" : Str)) = false := by decide) (he : starEach (e :: es) X.env = (false, eval e X.env) :: starEach es X.env := by rfl) (hpl : (backTo pos (starEach es X.env)).any (·.1) = false := by rfl) :
    PS X (.Raise (some (.Call (.Name x p) (e :: es) [] pos)) none pos2) (fun _ σ H => tMkO C sp [] ta σ H fun cls d H' => W cls d σ H') := by
  obtain ⟨fI, fd, ps, iC, tI, F, b, hm⟩ := M.ex
  exact ps_raise hc tk (pmk_oexG M.oc iC tI F quiet (hr.mono hj) b pass0 hg hm ha hdb he hpl).pmk
end
/-- the way out of an error of one field, whatever is told -/
def OutG (C : Addr) (H : Hp) (fld : Str) (d : PyData) (E : XK) : Prop := ∀ (dd : Addr) (y : V) (H' : Hp), H dd = none → Same H H' → H' dd = some (.xd [(fld, y)]) → PyV H' y d → E (.ref C) (some dd) H'
theorem madeG {K : PySem.W.Frag} {C : Addr} {fld : Str} {H : Hp} {Q : XK} {x : V} {d : PyData} (oc : OexC K C) (no : PySem.W.findIn K (.ref C) fld = some none) (tl : Told1 H x) (p : PyV H x d) (t : Tells d) (sz : d.shown.length ≤ 7000000) (q : OutG C H fld d Q) (a : Addr) (na : H a = none) :
    spErrG K C fld (.ref a :: ([x] ++ [])) (upd H a (exo a C none)) (fun v H2 => v = .non ∧ ∃ (d : Addr) (fs : List (Str × V)), H2 a = some (exo a C (some d)) ∧ H2 d = some (exd d fs) ∧ H d = none ∧ Q (.ref C) (some d) (upd (del H2 a) d (.xd fs))) (fun _ _ _ => False) := by
  have s0 : Same H (upd H a (exo a C none)) := same_put (s := Same.refl H) na
  refine ⟨a, x, d, rfl, upd_same, oc, no, tl.same s0, p.same s0, t, sz, fun y dx H1 s1 p1 n ne => ⟨rfl, dx, [(fld, y)], upd_same, ?_, ?_, ?_⟩⟩
  · rw [upd_ne ne]
    exact upd_same
  · exact same_none (fun b o e => s1 _ _ (s0 _ _ e)) n
  · have sH : Same H H1 := fun b o e => s1 _ _ (s0 _ _ e)
    have ha1 : H1 a = some (exo a C none) := s1 _ _ upd_same
    have keep : ∀ b o, H1 b = some o → b ≠ a → upd (del (upd (upd H1 dx (exd dx [(fld, y)])) a (exo a C (some dx))) a) dx (.xd [(fld, y)]) b = some o := fun b o e hb => by
      rw [upd_ne (ne_of_none e n), del_ne hb, upd_ne hb, upd_ne (ne_of_none e n)]
      exact e
    refine q dx y _ (same_none sH n) (fun b o e => keep b o (sH _ _ e) (ne_of_none e na)) upd_same ?_
    exact p1.but keep ha1
end V8

set_option Elab.async false
set_option linter.all false
set_option maxRecDepth 100000
set_option maxHeartbeats 16000000
/-! Texts looked at, misreadings called, errors told. -/
namespace V8
open PySem PySem.Spec PyProof.Rows L2 ItX
abbrev s_Misreading_call : Stmt := inClass (topS 32) 5
abbrev n_Misreading_call : List Str := ["self", "text", "at"]
theorem sc_Misreading_call : FnScope ["self", "text", "at"] ["self", "text"] (defScope s_Misreading_call) := ⟨rfl, rfl, rfl, by decide +kernel, rfl, by decide +kernel, by decide +kernel⟩
theorem OutT.same {CT : Addr} {H H1 : Hp} {y : Str} {i : Int} {E : XK} (o : OutT CT H y i E) (s : Same H H1) : OutT CT H1 y i E := fun d H' n s2 h => o d H' (same_none s n) (fun b u e => s2 _ _ (s _ _ e)) h
/-- what is no text -/
def NoText (K : PySem.W.Frag) (H : Hp) (x : V) : Prop := (∃ z : List Nat, x = .str (Sx z) ∧ z.length ≤ 3000 ∧ (decide (z.length ≤ 2000) && okL z) = false) ∨ ∃ t, TyX K H x t ∧ PySem.W.kitOne K t (.type "str") = some false
def spTxtA (K : PySem.W.Frag) : Sp := fun vs H Q _ => ∃ x, vs = [x] ∧ ((∃ z : List Nat, x = .str (Sx z) ∧ z.length ≤ 3000 ∧ Q (.bl (decide (z.length ≤ 2000) && okL z)) H) ∨ (∃ t, TyX K H x t ∧ PySem.W.kitOne K t (.type "str") = some false ∧ Q (.bl false) H))
def spChkA (K : PySem.W.Frag) (CO : Addr) : Sp := fun vs H Q E => ∃ x, vs = [x] ∧ ((∃ z : List Nat, x = .str (Sx z) ∧ (∀ c ∈ z, isLt c) ∧ z.length ≤ 2000 ∧ Q .non H) ∨ (∃ d, Told1 H x ∧ PyV H x d ∧ Tells d ∧ d.shown.length ≤ 7000000 ∧ NoText K H x ∧ OutG CO H "value" d E))
def spBndX (CT : Addr) : Sp := fun vs H Q E => ∃ cs : List Nat, vs = [.str (Sx cs)] ∧ cs.length ≤ 10000 ∧ (cs.length ≤ 2000 → Q (.str (Sx cs)) H) ∧ (2000 < cs.length → OutT CT H "signs" 2000 E)
section
variable {P : Program} {w : World} {K : PySem.W.Frag} {mg : Str → Option Value} {base : Heap} {CM CJ CO CT CD CE : Addr}
theorem ok_is_textA {f : Addr} {fd : FuncData} (F : Fun K "is_text" "is_text" s_is_text f fd) (T : Tx K mg CM CJ) (D_all_letters : Df P w K mg base 1 "all_letters" spAllG) : FnOk P w K mg base CX0 2 f fd ["value"] (spTxtA K) := by
  refine F.ok sc_is_text (fun vs H Q E h => ?_) (fun cdv A outer s H vs Q E hr h => ?_)
  · obtain ⟨x, rfl, _⟩ := h
    rfl
  · obtain ⟨x, rfl, h⟩ := h
    refine ⟨_, (pss_one (ps_ret (pe_and (pe_callB call_isi (by rfl) T.isinstance (by decide +kernel) (pa_cons (pv 0) (pa_cons (pe_bltn (v := .ty "str") (by rfl) T.str (by decide +kernel) rfl) pa_nil))) (pe_and (pe_cmpR op_le (pe_callB call_len_str (by rfl) T.len (by decide +kernel) (pa_cons (pv 0) pa_nil)) (pe_gv T.gLONGEST (by rfl)) (nomark _)) (pe_one (pe_c D_all_letters hr (by decide) (by rfl) (pa_cons (pv 0) pa_nil))))))), ?_⟩
    rcases h with ⟨z, rfl, h3, q⟩ | ⟨t, ty, e, q⟩
    · have hz : (Sx z).length ≤ sizeLine := by rw [Sx_len, sizeLine_eq]; omega
      refine ⟨_, rfl, _, .ty "str", .type "str", .type "str", true, rfl, .ty _, ty_str _, kit_ty (by decide +kernel), true, rfl, ?_⟩
      refine ⟨_, rfl, _, rfl, hz, _, _, rfl, rfl, decide (z.length ≤ 2000), ?_, ?_⟩
      · show V.bl (decide (((Sx z).length : Int) ≤ 2000)) = _
        rw [Sx_len]
        congr 1
        by_cases h : z.length ≤ 2000
        · rw [decide_eq_true h, decide_eq_true (by omega)]
        · rw [decide_eq_false h, decide_eq_false (by omega)]
      · by_cases h : z.length ≤ 2000
        · rw [decide_eq_true h, Bool.true_and] at q
          rw [decide_eq_true h]
          exact ⟨_, rfl, z, rfl, h, q⟩
        · rw [decide_eq_false h, Bool.false_and] at q
          rw [decide_eq_false h]
          exact q
    · exact ⟨_, rfl, _, .ty "str", t, .type "str", false, rfl, .ty _, ty, e, false, rfl, q⟩
theorem ok_check_textG {f : Addr} {fd : FuncData} (F : Fun K "check_text" "check_text" s_check_text f fd) (T : Tx K mg CM CJ) (D_is_text : Df P w K mg base 2 "is_text" (spTxtA K)) (E_BadWord : ErmG P w K mg base "BadWord" "value" CO (spErrG K CO "value")) : FnG P w K mg base (L2.CX P w) 5 f fd ["value"] (spChkA K CO) := by
  refine F.okXG sc_check_text (fun vs H Q E h => ?_) (fun cdv A outer s H vs Q E quiet hr h => ?_)
  · obtain ⟨x, rfl, _⟩ := h
    rfl
  · obtain ⟨x, rfl, h⟩ := h
    refine ⟨_, (pss_one (ps_if (pt_not (pt_val (pe_c D_is_text hr (by decide) (by rfl) (pa_cons (pv 0) pa_nil))))
        (pss_one (ps_raiseG E_BadWord quiet rfl (takes_of rfl rfl rfl rfl) hr (by decide) (by rfl) (pa_cons (pv 0) pa_nil)))
        pss_nil)), ?_⟩
    rcases h with ⟨z, rfl, hl, hn, q⟩ | ⟨d, tl, p, t, sz, no, q⟩
    · refine ⟨_, rfl, _, rfl, .inl ⟨z, rfl, by omega, ?_⟩⟩
      rw [decide_eq_true hn, okL_iff.mpr hl]
      exact ⟨true, rfl, iteF q⟩
    · refine ⟨_, rfl, x, rfl, ?_⟩
      rcases no with ⟨z, rfl, h3, e⟩ | ⟨ty, h1, h2⟩
      · refine .inl ⟨z, rfl, h3, ?_⟩
        rw [e]
        refine ⟨false, rfl, iteT ⟨_, rfl, by show 1 ≤ 1000; decide, fun a na => ?_⟩⟩
        exact madeG E_BadWord.oc E_BadWord.no tl p t sz q a na
      · refine .inr ⟨ty, h1, h2, false, rfl, iteT ⟨_, rfl, by show 1 ≤ 1000; decide, fun a na => ?_⟩⟩
        exact madeG E_BadWord.oc E_BadWord.no tl p t sz q a na
theorem ok_boundedX {f : Addr} {fd : FuncData} (F : Fun K "bounded" "bounded" s_bounded f fd) (T : Tx K mg CM CJ) (E_TooMany : ErmT P w K mg base CT) : FnOk P w K mg base (L2.CX P w) 4 f fd ["string"] (spBndX CT) := by
  refine F.okX sc_bounded (fun vs H Q E h => ?_) (fun cdv A outer s H vs Q E hr h => ?_)
  · obtain ⟨cs, rfl, _⟩ := h
    rfl
  · obtain ⟨cs, rfl, hn, q1, q2⟩ := h
    refine ⟨_, (pss_cons (ps_if (pt_cmpR op_gt (pe_callB call_len_str (by rfl) T.len (by decide +kernel) (pa_cons (pv 0) pa_nil)) (pe_gv T.gLONGEST (by rfl)) (nomark _))
        (pss_one (ps_raise2 E_TooMany rfl (takes_of rfl rfl rfl rfl) hr (by decide) (by rfl) (pa_cons pe_str (pa_cons (pe_gv T.gLONGEST (by rfl)) pa_nil))))
        pss_nil)
      (pss_one (ps_ret (pv 0)))), ?_⟩
    have hz : (Sx cs).length ≤ sizeLine := by rw [Sx_len, sizeLine_eq]; omega
    refine ⟨_, rfl, _, rfl, hz, _, _, rfl, rfl, _, rfl, ?_⟩
    rw [Sx_len]
    by_cases h : cs.length ≤ 2000
    · rw [decide_eq_false (by show ¬ ((2000 : Int) < (cs.length : Int)); omega)]
      exact iteF ⟨_, rfl, q1 h⟩
    · rw [decide_eq_true (by show (2000 : Int) < (cs.length : Int); omega)]
      refine iteT ⟨by show 2 ≤ 1000; decide, fun a na => ?_⟩
      exact made2 E_TooMany.oc E_TooMany.n1 E_TooMany.n2 (by decide +kernel) (by decide) (by decide +kernel) (q2 (by omega)) a na
end
/-- the way out of an error that tells an index -/
def OutA (CD : Addr) (H : Hp) (i : Nat) (E : XK) : Prop := ∀ (d : Addr) (H' : Hp), H d = none → Same H H' → H' d = some (.xd [("at", .int (i : Nat))]) → E (.ref CD) (some d) H'
theorem OutA.same {CD : Addr} {H H1 : Hp} {i : Nat} {E : XK} (o : OutA CD H i E) (s : Same H H1) : OutA CD H1 i E := fun d H' n s2 h => o d H' (same_none s n) (fun b u e => s2 _ _ (s _ _ e)) h
/-- what becomes of a text by two tables -/
def ReEnd (CD CT : Addr) (H : Hp) (f : Fu) (w : List Nat) (Q : VK) (E : XK) : Prop :=
  (∀ (i c : Nat), w[i]? = some c → f c = none → (∀ d ∈ w.take i, (f d).isSome = true) → OutA CD H i E) ∧
  ∀ r, imF f w = some r → (r.length ≤ 2000 ∧ ∀ H', Same H H' → Q (.str (Sx r)) H') ∨ (2000 < r.length ∧ OutT CT H "signs" 2000 E)
theorem idx_log {k : Nat} (h : k ≤ 2100) : ((k : Nat) : Int).natAbs.log2 < 1920 := by
  rw [Int.natAbs_natCast]
  by_cases z : k = 0
  · rw [z]
    decide
  · exact Nat.lt_of_lt_of_le ((Nat.log2_lt z).mpr (show k < 2 ^ 12 by omega)) (by decide)
def spFB2 (CM : Addr) : Sp := fun vs H Q _ => ∃ (x : Addr) (u : Tab) (cs : List Nat), vs = [.ref x, .str (Sx cs)] ∧ MisAt CM H x u ∧ cs.length ≤ 4000 ∧ (∀ r H', imF (lk u) cs = some r → Same H H' → Q .non H') ∧
  (∀ (i c : Nat) H', cs[i]? = some c → lk u c = none → (∀ d ∈ cs.take i, (lk u d).isSome = true) → Same H H' → Q (.int i) H')
def spCaMX (CM CD CT : Addr) : Sp := fun vs H Q E => ∃ (x : Addr) (u : Tab) (cs : List Nat), vs = [.ref x, .str (Sx cs)] ∧ MisAt CM H x u ∧ (∀ c ∈ cs, isLt c) ∧ cs.length ≤ 2000 ∧ (∃ n, n ≤ 64 ∧ Bnd n (lk u) ∧ n * cs.length ≤ 10000) ∧ ReEnd CD CT H (lk u) cs Q E
section
variable {P : Program} {w : World} {K : PySem.W.Frag} {mg : Str → Option Value} {base : Heap} {CM CJ CD CT : Addr}
theorem ok_first_barred2 {f : Addr} {fd : FuncData} (F : Fun K "first_barred" "Misreading.first_barred" s_Misreading_first_barred f fd) (T : Tz K mg CM CJ) : FnOk P w K mg base CX0 1 f fd ["self", "text"] (spFB2 CM) := by
  refine F.ok sc_Misreading_first_barred (fun vs H Q E h => ?_) (fun cdv A outer s H vs Q E hr h => ?_)
  · obtain ⟨x, u, cs, rfl, _⟩ := h
    rfl
  · obtain ⟨x, u, cs, rfl, ⟨dx, a, b, c', hx, ha, hb, hc⟩, h4, q1, q2⟩ := h
    refine ⟨_, (pss_cons (ps_for PassesOwn.never rfl (pi_enumS (by rfl) T.enumerate (pa_cons (pv 1) pa_nil)) (pg_tup (by rfl) (pgs_cons (pg_name (i := 2) sc_Misreading_first_barred.nd rfl (.inl rfl)) (pgs_cons (pg_name (i := 3) sc_Misreading_first_barred.nd rfl (.inl rfl)) pgs_nil)))
        (pss_one (ps_if (pt_cmp (pc_dnotin (hu_of hr) (pv 3) (pe_fldK (K := K) rfl (pv 0) rfl)))
          (pss_one (ps_ret (pv 2)))
          pss_nil)))
      (pss_one (ps_ret pe_non))), ?_⟩
    refine ⟨_, rfl, Sx cs, rfl, for_it walk_enumS (fun i σ H2 => (∃ v2 v3 : Option V, σ = [some (.ref x), some (.str (Sx cs)), v2, v3]) ∧ Same H H2 ∧ ∀ c ∈ cs.take i, c ∈ keysOf u) ⟨⟨none, none, rfl⟩, Same.refl H, fun c h => by simp at h⟩ (fun _ _ _ _ _ => trivial) ?_ ?_⟩
    · rintro i z σ H2 H2' hi ⟨⟨v2, v3, rfl⟩, s2, hk⟩ ⟨tq, c, rfl, ntq, rfl, hc0⟩
      have hc1 := sx_at hc0
      obtain ⟨hi', ec⟩ := List.getElem?_eq_some_iff.mp hc1
      refine ⟨tq, _, rfl, .inl (.inl upd_same), rfl, _, _, rfl, _, _, rfl, rfl, ?_⟩
      have s3 := same_put (s := s2) (o := .tup [.int (i : Nat), .str ⟨#[c]⟩]) ntq
      refine ⟨_, rfl, _, rfl, x, CM, dx, _, _, rfl, s3 _ _ hx, T.cl, T.nI, f3_I a b c', b, _, rfl, DGet.k (k := Sum.inr (L1 c)) (s3 _ _ hb), _, rfl, ?_⟩
      rw [valV_enc, Option.isSome_map, look_ims]
      by_cases m : c ∈ keysOf u
      · rw [if_pos m]
        refine iteF ⟨⟨_, _, rfl⟩, s3, fun d hd => ?_⟩
        rw [List.take_add_one, hc1] at hd
        rcases List.mem_append.mp hd with h | h
        · exact hk d h
        · rw [List.mem_singleton.mp h]
          exact m
      · rw [if_neg m]
        exact iteT ⟨_, rfl, q2 i c _ hc1 (lk_not m) (fun d hd => lk_mem.mp (hk d hd)) s3⟩
    · rintro σ H2 ⟨⟨v2, v3, rfl⟩, s2, hk⟩
      rw [sx_size, List.take_length] at hk
      exact q1 _ H2 (imF_look hk) s2
theorem ok_callMX {f : Addr} {fd : FuncData} (F : Fun K "__call__" "Misreading.__call__" s_Misreading_call f fd) (T : Tz K mg CM CJ) (D_check_text : Df P w K mg base 3 "check_text" spChkT) (D_bounded : DfX P w K mg base 4 "bounded" (spBndX CT)) (D_first_barred : Mf P w K mg base 1 CM "first_barred" (spFB2 CM)) (D_image : Mf P w K mg base 1 CM "image" (spImg CM))
    (E_Barred : Erm P w K mg base "Barred" "at" CD) : FnOk P w K mg base (L2.CX P w) 5 f fd ["self", "text"] (spCaMX CM CD CT) := by
  refine F.okX sc_Misreading_call (fun vs H Q E h => ?_) (fun cdv A outer s H vs Q E hr h => ?_)
  · obtain ⟨x, u, cs, rfl, _⟩ := h
    rfl
  · obtain ⟨x, u, cs, rfl, mx, hl, h2, ⟨n, n64, bn, hn⟩, q1, q2⟩ := h
    refine ⟨_, (pss_cons (ps_expr (pe_c D_check_text hr (by decide) (by rfl) (pa_cons (pv 1) pa_nil)))
      (pss_cons (ps_set (i := 2) sc_Misreading_call.nd rfl (.inl rfl) (pe_mt T.cl D_first_barred hr (by decide) (pv 0) (pa_cons (pv 1) pa_nil)))
      (pss_cons (ps_if (pt_cmpR op_notN (pv 2) pe_non (nomark _))
        (pss_one (ps_raise1 E_Barred rfl (takes_of rfl rfl rfl rfl) hr (by decide) (by rfl) (pa_cons (pv 2) pa_nil)))
        pss_nil)
      (pss_one (ps_ret (pe_cX D_bounded (passTk (takes_of rfl rfl rfl rfl)) hr (by decide) (by rfl) (pa_cons (pe_mt T.cl D_image hr (by decide) (pv 0) (pa_cons (pv 1) pa_nil)) pa_nil))))))), ?_⟩
    obtain ⟨dx, a, b, c', hx, ha, hb, hc⟩ := id mx.at_
    have bu : Bnd 64 (lk u) := fun c s e => Nat.le_trans (bn c s e) n64
    refine ⟨_, rfl, cs, rfl, hl, by omega, ?_⟩
    refine ⟨_, rfl, x, dx, _, rfl, hx, f3_no (by decide +kernel) (by decide +kernel) (by decide +kernel), _, rfl, x, u, cs, rfl, mx, by omega, fun r H3 er s3 => ?_, fun k c H3 hk en known s3 => ?_⟩
    · refine ⟨_, rfl, rfl, false, rfl, iteF ?_⟩
      have lr := imF_len bn er
      refine ⟨_, rfl, x, dx, _, rfl, s3 _ _ hx, f3_no (by decide +kernel) (by decide +kernel) (by decide +kernel), _, rfl, x, u, cs, r, rfl, mx.same s3, bu, er, by omega, fun H4 s4 => ?_⟩
      have s04 : Same H H4 := fun b o e => s4 _ _ (s3 _ _ e)
      refine ⟨r, rfl, by omega, fun l => ?_, fun l => ?_⟩
      · rcases q2 r er with ⟨_, q⟩ | ⟨l2, _⟩
        · exact q _ s04
        · omega
      · rcases q2 r er with ⟨l2, _⟩ | ⟨_, q⟩
        · omega
        · exact q.same s04
    · refine ⟨_, rfl, rfl, true, rfl, iteT ?_⟩
      obtain ⟨hi', _⟩ := List.getElem?_eq_some_iff.mp hk
      have hl := idx_log (k := k) (by omega)
      have out := (q1 k c hk en known).same s3
      refine ⟨_, rfl, by show 1 ≤ 1000; decide, fun a na => ?_⟩
      exact made1 E_Barred.oc E_Barred.no (.inr ⟨_, rfl, hl, rfl⟩) (Nat.le_trans (PyProof.Rows.int_text_len_1921 hl) (by decide)) (fun _ _ => .base (.int _)) (kit_ty (by decide +kernel)) (kit_ty (by decide +kernel)) (kit_ty (by decide +kernel)) out a na
end
end V8

set_option Elab.async false
set_option linter.all false
set_option maxRecDepth 100000
set_option maxHeartbeats 16000000
/-! Indexes, rows, lists of misreadings looked at. -/
namespace V8
open PySem PySem.Spec PyProof.Rows L2 ItX
abbrev s_is_index : Stmt := topS 24
abbrev n_is_index : List Str := ["value", "size"]
theorem sc_is_index : FnScope ["value", "size"] ["value", "size"] (defScope s_is_index) := ⟨rfl, rfl, rfl, by decide +kernel, rfl, by decide +kernel, by decide +kernel⟩
abbrev s_check_row : Stmt := topS 42
abbrev n_check_row : List Str := ["row", "size", "at", "index"]
theorem sc_check_row : FnScope ["row", "size", "at", "index"] ["row", "size"] (defScope s_check_row) := ⟨rfl, rfl, rfl, by decide +kernel, rfl, by decide +kernel, by decide +kernel⟩
abbrev s_check_misreadings : Stmt := topS 39
abbrev n_check_misreadings : List Str := ["value", "at", "item"]
theorem sc_check_misreadings : FnScope ["value", "at", "item"] ["value"] (defScope s_check_misreadings) := ⟨rfl, rfl, rfl, by decide +kernel, rfl, by decide +kernel, by decide +kernel⟩
def isI : V → Bool
  | .int _ => true
  | _ => false
def inB (x : V) (a b : Int) : Bool := match x with
  | .int i => decide (a ≤ i) && decide (i ≤ b)
  | _ => false
def spIntA : Sp := fun vs H Q _ => ∃ x, vs = [x] ∧ Flat x ∧ Q (.bl (isI x)) H
def spBtwA : Sp := fun vs H Q _ => ∃ (x : V) (a b : Int), vs = [x, .int a, .int b] ∧ Flat x ∧ Q (.bl (inB x a b)) H
def spIdx : Sp := fun vs H Q _ => ∃ (x : V) (n : Int), vs = [x, .int n] ∧ Flat x ∧ Q (.bl (inB x 0 (n - 1))) H
section
variable {P : Program} {w : World} {K : PySem.W.Frag} {mg : Str → Option Value} {base : Heap} {CM CJ CL CO CT CD CE CY : Addr}
theorem ok_is_integerA {f : Addr} {fd : FuncData} (F : Fun K "is_integer" "is_integer" s_is_integer f fd) (T : Tz K mg CM CJ) : FnOk P w K mg base CX0 1 f fd ["value"] spIntA := by
  refine F.ok sc_is_integer (fun vs H Q E h => ?_) (fun cdv A outer s H vs Q E hr h => ?_)
  · obtain ⟨x, rfl, _⟩ := h
    rfl
  · obtain ⟨x, rfl, fx, q⟩ := h
    refine ⟨_, (pss_one (ps_ret (pe_and (pe_callB call_isi (by rfl) T.isinstance (by decide +kernel) (pa_cons (pv 0) (pa_cons (pe_bltn (v := .ty "int") (by rfl) T.int (by decide +kernel) rfl) pa_nil))) (pe_one (pe_not (pe_callB call_isi (by rfl) T.isinstance (by decide +kernel) (pa_cons (pv 0) (pa_cons (pe_bltn (v := .ty "bool") (by rfl) T.bool (by decide +kernel) rfl) pa_nil)))))))), ?_⟩
    rcases fx with ⟨z, rfl⟩ | ⟨i, rfl⟩ | rfl | ⟨b, rfl⟩
    · exact ⟨_, rfl, _, .ty "int", .type "str", .type "int", false, rfl, .ty _, ty_str _, kit_ty (by decide +kernel), false, rfl, q⟩
    · refine ⟨_, rfl, _, .ty "int", .type "int", .type "int", true, rfl, .ty _, .base (.int i), kit_ty (by decide +kernel), true, rfl, ?_⟩
      refine ⟨_, rfl, _, .ty "bool", .type "int", .type "bool", false, rfl, .ty _, .base (.int i), kit_ty (by decide +kernel), ?_⟩
      exact ⟨_, rfl, q⟩
    · exact ⟨_, rfl, _, .ty "int", .type "NoneType", .type "int", false, rfl, .ty _, .base .non, kit_ty (by decide +kernel), false, rfl, q⟩
    · refine ⟨_, rfl, _, .ty "int", .type "bool", .type "int", true, rfl, .ty _, .base (.bl b), kit_ty (by decide +kernel), true, rfl, ?_⟩
      refine ⟨_, rfl, _, .ty "bool", .type "bool", .type "bool", true, rfl, .ty _, .base (.bl b), kit_ty (by decide +kernel), ?_⟩
      exact ⟨_, rfl, q⟩
theorem ok_is_betweenA {f : Addr} {fd : FuncData} (F : Fun K "is_between" "is_between" s_is_between f fd) (T : Tz K mg CM CJ) (D_is_integer : Df P w K mg base 1 "is_integer" spIntA) : FnOk P w K mg base CX0 2 f fd ["value", "least", "most"] spBtwA := by
  refine F.ok sc_is_between (fun vs H Q E h => ?_) (fun cdv A outer s H vs Q E hr h => ?_)
  · obtain ⟨x, a, b, rfl, _⟩ := h
    rfl
  · obtain ⟨x, a, b, rfl, fx, q⟩ := h
    refine ⟨_, (pss_one (ps_ret (pe_and (pe_c D_is_integer hr (by decide) (by rfl) (pa_cons (pv 0) pa_nil)) (pe_one (pe_chain op_le op_le (pv 1) (pv 0) (pv 2)))))), ?_⟩
    refine ⟨_, rfl, x, rfl, fx, ?_⟩
    rcases fx with ⟨z, rfl⟩ | ⟨i, rfl⟩ | rfl | ⟨y, rfl⟩
    · exact ⟨false, rfl, iteF q⟩
    · refine ⟨true, rfl, iteT ⟨_, rfl, _, rfl, _, _, rfl, rfl, decide (a ≤ i), rfl, ?_⟩⟩
      have q1 : Q (.bl (decide (a ≤ i) && decide (i ≤ b))) H := q
      by_cases h : a ≤ i
      · rw [decide_eq_true h] at q1 ⊢
        refine ⟨_, rfl, _, _, rfl, rfl, ?_⟩
        rw [Bool.true_and] at q1
        exact q1
      · rw [decide_eq_false h] at q1 ⊢
        rw [Bool.false_and] at q1
        exact q1
    · exact ⟨false, rfl, iteF q⟩
    · exact ⟨false, rfl, iteF q⟩
theorem ok_is_index {f : Addr} {fd : FuncData} (F : Fun K "is_index" "is_index" s_is_index f fd) (D_is_between : Df P w K mg base 2 "is_between" spBtwA) : FnOk P w K mg base CX0 3 f fd ["value", "size"] spIdx := by
  refine F.ok sc_is_index (fun vs H Q E h => ?_) (fun cdv A outer s H vs Q E hr h => ?_)
  · obtain ⟨x, n, rfl, _⟩ := h
    rfl
  · obtain ⟨x, n, rfl, fx, q⟩ := h
    refine ⟨_, (pss_one (ps_ret (pe_c D_is_between hr (by decide) (by rfl) (pa_cons (pv 0) (pa_cons pe_int (pa_cons (pe_op op_sub (pv 1) pe_int) pa_nil)))))), ?_⟩
    exact ⟨_, rfl, _, rfl, n, 1, rfl, rfl, x, 0, n - 1, rfl, fx, q⟩
end
end V8

set_option Elab.async false
set_option linter.all false
set_option maxRecDepth 100000
set_option maxHeartbeats 16000000
/-! Rows looked at. -/
namespace V8
open PySem PySem.Spec PyProof.Rows L2 ItX
theorem OutG.same {C : Addr} {H H1 : Hp} {fld : Str} {d : PyData} {E : XK} (o : OutG C H fld d E) (s : Same H H1) : OutG C H1 fld d E := fun dd y H' n s2 h p => o dd y H' (same_none s n) (fun b u e => s2 _ _ (s _ _ e)) h p
def spCkRow (K : PySem.W.Frag) (CY : Addr) : Sp := fun vs H Q E => ∃ (x : V) (n : Nat), vs = [x, .int (n : Nat)] ∧
  ((∃ t, TyX K H x t ∧ PySem.W.kitOne K t (.type "tuple") = some false ∧ OutG CY H "at" .none E) ∨
   (∃ a xs, x = .ref a ∧ H a = some (.tup xs) ∧ xs.length ≤ 100 ∧ (∀ y ∈ xs, Flat y) ∧
     ((∀ y ∈ xs, inB y 0 ((n : Int) - 1) = true) → ∀ H', Same H H' → Q .non H') ∧
     (∀ (i : Nat) y, xs[i]? = some y → inB y 0 ((n : Int) - 1) = false → (∀ z ∈ xs.take i, inB z 0 ((n : Int) - 1) = true) → OutG CY H "at" (.int (i : Nat)) E)))
theorem told_none {H : Hp} : Told1 H .non := .inl (.inr (.inr (.inl rfl)))
theorem told_int {H : Hp} (i : Int) : Told1 H (.int i) := .inl (.inr (.inl ⟨i, rfl⟩))
theorem tells_none : Tells PyData.none := ⟨by decide, by decide, by rw [shown_none]; decide⟩
theorem shown_int (i : Int) : (PyData.int i).shown = toString i := by simp only [PyData.shown]
theorem nat_len {i : Nat} (h : i ≤ 2100) : (toString ((i : Nat) : Int) : Str).length ≤ 7000000 := Nat.le_trans (PyProof.Rows.int_text_len_1921 (idx_log h)) (by decide)
theorem tells_nat {i : Nat} (h : i ≤ 2100) : Tells (.int ((i : Nat) : Int)) := ⟨by simpa [PyData.showable] using idx_log h, by show 0 ≤ 4; decide, by rw [shown_int]; exact Nat.le_trans (nat_len h) (by decide)⟩
section
variable {P : Program} {w : World} {K : PySem.W.Frag} {mg : Str → Option Value} {base : Heap} {CM CJ CL CO CT CD CE CY : Addr}
theorem ok_check_row {f : Addr} {fd : FuncData} (F : Fun K "check_row" "check_row" s_check_row f fd) (T : Tz K mg CM CJ) (D_is_index : Df P w K mg base 3 "is_index" spIdx) (E_BadRow : ErmG P w K mg base "BadRow" "at" CY (spErrG K CY "at")) : FnG P w K mg base (L2.CX P w) 5 f fd ["row", "size"] (spCkRow K CY) := by
  refine F.okXG sc_check_row (fun vs H Q E h => ?_) (fun cdv A outer s H vs Q E quiet hr h => ?_)
  · obtain ⟨x, n, rfl, _⟩ := h
    rfl
  · obtain ⟨x, n, rfl, h⟩ := h
    refine ⟨_, (pss_cons (ps_if (pt_not (pt_val (pe_callB call_isi (by rfl) T.isinstance (by decide +kernel) (pa_cons (pv 0) (pa_cons (pe_bltn (v := .ty "tuple") (by rfl) T.tuple (by decide +kernel) rfl) pa_nil)))))
        (pss_one (ps_raiseG E_BadRow quiet rfl (takes_of rfl rfl rfl rfl) hr (by decide) (by rfl) (pa_cons pe_non pa_nil)))
        pss_nil)
      (pss_one (ps_for (passes_of rfl) rfl (pi_enumT (by rfl) T.enumerate (pa_cons (pv 0) pa_nil)) (pg_tup (by rfl) (pgs_cons (pg_name (i := 2) sc_check_row.nd rfl (.inl rfl)) (pgs_cons (pg_name (i := 3) sc_check_row.nd rfl (.inl rfl)) pgs_nil)))
        (pss_one (ps_if (pt_not (pt_val (pe_c D_is_index hr (by decide) (by rfl) (pa_cons (pv 3) (pa_cons (pv 1) pa_nil)))))
          (pss_one (ps_raiseG E_BadRow quiet rfl (takes_of rfl rfl rfl rfl) hr (by decide) (by rfl) (pa_cons (pv 2) pa_nil)))
          pss_nil))))), ?_⟩
    rcases h with ⟨t, ty, e, q⟩ | ⟨a, xs, rfl, ha, l, fl, q1, q2⟩
    · refine ⟨_, rfl, _, .ty "tuple", t, .type "tuple", false, rfl, .ty _, ty, e, false, rfl, iteT ⟨by show 1 ≤ 1000; decide, fun b nb => ?_⟩⟩
      exact madeG E_BadRow.oc E_BadRow.no told_none .non tells_none (by rw [shown_none]; decide) q b nb
    · refine ⟨_, rfl, _, .ty "tuple", .type "tuple", .type "tuple", true, rfl, .ty _, .base (.tup ha), kit_ty (by decide +kernel), true, rfl, iteF ?_⟩
      refine ⟨_, rfl, a, xs, rfl, .inl (.inl ha), for_it walk_enumT (fun i σ H2 => (∃ v2 v3 : Option V, σ = [some (.ref a), some (.int (n : Nat)), v2, v3]) ∧ Same H H2 ∧ ∀ z ∈ xs.take i, inB z 0 ((n : Int) - 1) = true) ⟨⟨none, none, rfl⟩, Same.refl H, fun c h => by simp at h⟩ (fun _ _ _ _ h => .inl (.inl (h.2.1 _ _ ha))) ?_ ?_⟩
      · rintro i z σ H2 H3 hi ⟨⟨v2, v3, rfl⟩, s2, known⟩ ⟨tq, y, rfl, ntq, rfl, hy⟩
        obtain ⟨hi', ey⟩ := List.getElem?_eq_some_iff.mp hy
        refine ⟨tq, _, rfl, .inl (.inl upd_same), rfl, _, _, rfl, _, _, rfl, rfl, ?_⟩
        have s3 := same_put (s := s2) (o := .tup [.int (i : Nat), y]) ntq
        refine ⟨_, rfl, _, rfl, y, n, rfl, fl y (ey ▸ List.getElem_mem hi'), ?_⟩
        cases hb : inB y 0 ((n : Int) - 1) with
        | true =>
          refine ⟨true, rfl, iteF ⟨⟨_, _, rfl⟩, s3, fun z hz => ?_⟩⟩
          rw [List.take_add_one, hy] at hz
          rcases List.mem_append.mp hz with h | h
          · exact known z h
          · rw [List.mem_singleton.mp h]
            exact hb
        | false =>
          refine ⟨false, rfl, iteT ⟨_, rfl, by show 1 ≤ 1000; decide, fun b nb => ?_⟩⟩
          exact madeG E_BadRow.oc E_BadRow.no (told_int _) (.int _) (tells_nat (by omega)) (by rw [shown_int]; exact nat_len (by omega)) ((q2 i y hy hb known).same s3) b nb
      · rintro σ H2 ⟨⟨v2, v3, rfl⟩, s2, known⟩
        rw [List.take_length] at known
        exact q1 known _ s2
end
end V8

set_option Elab.async false
set_option linter.all false
set_option maxRecDepth 100000
set_option maxHeartbeats 16000000
/-! Lists of misreadings looked at. -/
namespace V8
open PySem PySem.Spec PyProof.Rows L2 ItX
structure Ta (K : PySem.W.Frag) (mg : Str → Option Value) (CM CJ : Addr) : Prop extends Tz K mg CM CJ where
  gMOST_MISREADINGS : GV mg "MOST_MISREADINGS" (.int 4)
  kNM : PySem.W.kitOne K (.type "NoneType") (.ref CM) = some false
  kIM : PySem.W.kitOne K (.type "int") (.ref CM) = some false
/-- a misreading, or None, or an integer -/
def Item (CM : Addr) (H : Hp) (y : V) : Prop := (∃ z dx fs, y = .ref z ∧ H z = some (.ins CM dx fs)) ∨ y = .non ∨ ∃ i, y = .int i
theorem Item.same {CM : Addr} {H H1 : Hp} {y : V} (o : Item CM H y) (s : Same H H1) : Item CM H1 y := by
  rcases o with ⟨z, dx, fs, e, h⟩ | o
  · exact .inl ⟨z, dx, fs, e, s _ _ h⟩
  · exact .inr o
def isM : V → Bool
  | .ref _ => true
  | _ => false
def CkMs (CM CL : Addr) (H : Hp) (xs : List V) (Q : VK) (E : XK) : Prop := xs.length ≤ 100 ∧
  (((xs.length = 0 ∨ 4 < xs.length) ∧ OutG CL H "at" .none E) ∨
   (1 ≤ xs.length ∧ xs.length ≤ 4 ∧ (∀ y ∈ xs, Item CM H y) ∧ ((∀ y ∈ xs, isM y = true) → ∀ H', Same H H' → Q .non H') ∧
     (∀ (i : Nat) y, xs[i]? = some y → isM y = false → (∀ z ∈ xs.take i, isM z = true) → OutG CL H "at" (.int (i : Nat)) E)))
def spCkML (K : PySem.W.Frag) (CM CL : Addr) : Sp := fun vs H Q E => ∃ x, vs = [x] ∧
  ((Flat x ∧ OutG CL H "at" .none E) ∨ (∃ a xs, x = .ref a ∧ H a = some (.lst xs) ∧ CkMs CM CL H xs Q E))
def spCkMT (CM CL : Addr) : Sp := fun vs H Q E => ∃ a xs, vs = [.ref a] ∧ H a = some (.tup xs) ∧ CkMs CM CL H xs Q E
def spCkMs (K : PySem.W.Frag) (CM CL : Addr) : Sp := fun vs H Q E => spCkML K CM CL vs H Q E ∨ spCkMT CM CL vs H Q E
theorem chain14 {n : Nat} : (decide ((1 : Int) ≤ (n : Int)) && decide ((n : Int) ≤ 4)) = decide (1 ≤ n ∧ n ≤ 4) := by
  rw [Bool.eq_iff_iff, Bool.and_eq_true, decide_eq_true_iff, decide_eq_true_iff, decide_eq_true_iff]
  omega
section
variable {P : Program} {w : World} {K : PySem.W.Frag} {mg : Str → Option Value} {base : Heap} {CM CJ CL CO CT CD CE CY : Addr}
theorem ok_ckML {f : Addr} {fd : FuncData} (F : Fun K "check_misreadings" "check_misreadings" s_check_misreadings f fd) (T : Ta K mg CM CJ) (E_BadList : ErmG P w K mg base "BadList" "at" CL (spErrG K CL "at")) : FnG P w K mg base (L2.CX P w) 5 f fd ["value"] (spCkML K CM CL) := by
  refine F.okXG sc_check_misreadings (fun vs H Q E h => ?_) (fun cdv A outer s H vs Q E quiet hr h => ?_)
  · obtain ⟨x, rfl, _⟩ := h
    rfl
  · obtain ⟨x, rfl, h⟩ := h
    refine ⟨_, (pss_cons (ps_if (PW.pt (pw_or (pt_not (pt_val (pe_callB call_isiT (by rfl) T.isinstance (by decide +kernel) (pa_cons (pv 0) (pa_cons (pe_tup (pa_cons (pe_bltn (v := .ty "list") (by rfl) T.list (by decide +kernel) rfl) (pa_cons (pe_bltn (v := .ty "tuple") (by rfl) T.tuple (by decide +kernel) rfl) pa_nil))) pa_nil))))) (pw_or1 (pt_not (pt_chain op_le op_le pe_int (pe_callB (call_len_seqK (K := K) rfl) (by rfl) T.len (by decide +kernel) (pa_cons (pv 0) pa_nil)) (pe_gv T.gMOST_MISREADINGS (by rfl)))))))
        (pss_one (ps_raiseG E_BadList quiet rfl (takes_of rfl rfl rfl rfl) hr (by decide) (by rfl) (pa_cons pe_non pa_nil)))
        pss_nil)
      (pss_one (ps_for (passes_of rfl) rfl (pi_enum (by rfl) T.enumerate (pa_cons (pv 0) pa_nil)) (pg_tup (by rfl) (pgs_cons (pg_name (i := 1) sc_check_misreadings.nd rfl (.inl rfl)) (pgs_cons (pg_name (i := 2) sc_check_misreadings.nd rfl (.inl rfl)) pgs_nil)))
        (pss_one (ps_if (pt_not (pt_val (pe_callB call_isi (by rfl) T.isinstance (by decide +kernel) (pa_cons (pv 2) (pa_cons (pe_gv T.gMisreading (by rfl)) pa_nil)))))
          (pss_one (ps_raiseG E_BadList quiet rfl (takes_of rfl rfl rfl rfl) hr (by decide) (by rfl) (pa_cons (pv 1) pa_nil)))
          pss_nil))))), ?_⟩
    refine ⟨_, rfl, by show 2 ≤ sizeLine; decide, fun tq ntq => ?_⟩
    rcases h with ⟨fx, q⟩ | ⟨a, xs, rfl, ha, l, h⟩
    · obtain ⟨t, ty, e1, e2, _⟩ := fx.ty (K := K)
      refine ⟨x, tq, _, t, _, false, rfl, upd_same, .cons (.ty _) (.cons (.ty _) .nil), ty _, kitAny_cons e1 (fun _ => kitAny_cons e2 (fun _ => kitAny_nil) (fun z => nomatch z)) (fun z => nomatch z), false, rfl, iteT (iteT ⟨by show 1 ≤ 1000; decide, fun b nb => ?_⟩)⟩
      exact madeG E_BadList.oc E_BadList.no told_none .non tells_none (by rw [shown_none]; decide) (q.same (same_put (s := Same.refl H) ntq)) b nb
    · have s1 := same_put (s := Same.refl H) (o := .tup [V.ty "list", V.ty "tuple"]) ntq
      refine ⟨_, tq, _, .type "list", _, true, rfl, upd_same, .cons (.ty _) (.cons (.ty _) .nil), .base (.lst (s1 _ _ ha)), kitAny_cons (b := true) (kit_ty (by decide +kernel)) (fun z => nomatch z) (fun _ => rfl), true, rfl, iteF ?_⟩
      clear ntq
      have ha1 := s1 _ _ ha
      generalize upd H tq (.tup [V.ty "list", V.ty "tuple"]) = H1 at s1 ha1 ⊢
      refine ⟨_, rfl, a, xs, rfl, .inl (SqL.of ha1), _, _, rfl, rfl, decide ((1 : Int) ≤ (xs.length : Int)), rfl, ?_⟩
      rcases h with ⟨bad, q⟩ | ⟨g1, g4, its, q1, q2⟩
      · by_cases g : 1 ≤ xs.length
        · rw [decide_eq_true (show (1 : Int) ≤ (xs.length : Int) by omega)]
          refine ⟨_, _, rfl, rfl, decide ((xs.length : Int) ≤ 4), rfl, ?_⟩
          rw [decide_eq_false (show ¬ (xs.length : Int) ≤ 4 by omega)]
          refine iteT ⟨by show 1 ≤ 1000; decide, fun b nb => ?_⟩
          exact madeG E_BadList.oc E_BadList.no told_none .non tells_none (by rw [shown_none]; decide) (q.same s1) b nb
        · rw [decide_eq_false (show ¬ (1 : Int) ≤ (xs.length : Int) by omega)]
          refine ⟨false, rfl, iteT ⟨by show 1 ≤ 1000; decide, fun b nb => ?_⟩⟩
          exact madeG E_BadList.oc E_BadList.no told_none .non tells_none (by rw [shown_none]; decide) (q.same s1) b nb
      · rw [decide_eq_true (show (1 : Int) ≤ (xs.length : Int) by omega)]
        refine ⟨_, _, rfl, rfl, decide ((xs.length : Int) ≤ 4), rfl, ?_⟩
        rw [decide_eq_true (show (xs.length : Int) ≤ 4 by omega)]
        refine iteF ?_
        refine ⟨_, rfl, a, xs, rfl, SqL.of ha1, for_it walk_enum (fun i σ H2 => (∃ v1 v2 : Option V, σ = [some (.ref a), v1, v2]) ∧ Same H H2 ∧ ∀ z ∈ xs.take i, isM z = true) ⟨⟨none, none, rfl⟩, s1, fun c h => by simp at h⟩ (fun _ _ _ _ h => SqL.of (h.2.1 _ _ ha)) ?_ ?_⟩
        · rintro i z σ H2 H3 hi ⟨⟨v1, v2, rfl⟩, s2, known⟩ ⟨tq2, x, y, rfl, nt2, rfl, ex, hy⟩
          cases ex
          have hy : xs[i]? = some y := hy
          obtain ⟨hi', ey⟩ := List.getElem?_eq_some_iff.mp hy
          have it := (its y (ey ▸ List.getElem_mem hi')).same s2
          have s3 := same_put (s := Same.refl H2) (o := .tup [.int (i : Nat), y]) nt2
          refine ⟨tq2, _, rfl, .inl (.inl upd_same), rfl, _, _, rfl, _, _, rfl, rfl, ?_⟩
          rcases it with ⟨z, dx, fs, rfl, hz⟩ | rfl | ⟨k, rfl⟩
          · refine ⟨_, rfl, _, .ref CM, .ref CM, .ref CM, true, rfl, .own _, .base (.ins (s3 _ _ hz) T.cl T.tA T.tB T.tC T.tD), T.mM, true, rfl, iteF ⟨⟨_, _, rfl⟩, fun b o e => s3 _ _ (s2 _ _ e), fun z hz => ?_⟩⟩
            rw [List.take_add_one, hy] at hz
            rcases List.mem_append.mp hz with h | h
            · exact known z h
            · rw [List.mem_singleton.mp h]
              rfl
          · refine ⟨_, rfl, _, .ref CM, .type "NoneType", .ref CM, false, rfl, .own _, .base .non, T.kNM, false, rfl, iteT ⟨_, rfl, by show 1 ≤ 1000; decide, fun b nb => ?_⟩⟩
            exact madeG E_BadList.oc E_BadList.no (told_int _) (.int _) (tells_nat (by omega)) (by rw [shown_int]; exact nat_len (by omega)) ((q2 i _ hy rfl known).same fun b o e => s3 _ _ (s2 _ _ e)) b nb
          · refine ⟨_, rfl, _, .ref CM, .type "int", .ref CM, false, rfl, .own _, .base (.int _), T.kIM, false, rfl, iteT ⟨_, rfl, by show 1 ≤ 1000; decide, fun b nb => ?_⟩⟩
            exact madeG E_BadList.oc E_BadList.no (told_int _) (.int _) (tells_nat (by omega)) (by rw [shown_int]; exact nat_len (by omega)) ((q2 i _ hy rfl known).same fun b o e => s3 _ _ (s2 _ _ e)) b nb
        · rintro σ H2 ⟨⟨v1, v2, rfl⟩, s2, known⟩
          rw [List.take_length] at known
          exact q1 known _ s2
theorem ok_ckMT {f : Addr} {fd : FuncData} (F : Fun K "check_misreadings" "check_misreadings" s_check_misreadings f fd) (T : Ta K mg CM CJ) (E_BadList : ErmG P w K mg base "BadList" "at" CL (spErrG K CL "at")) : FnG P w K mg base (L2.CX P w) 5 f fd ["value"] (spCkMT CM CL) := by
  refine F.okXG sc_check_misreadings (fun vs H Q E h => ?_) (fun cdv A outer s H vs Q E quiet hr h => ?_)
  · obtain ⟨a, xs, rfl, _⟩ := h
    rfl
  · obtain ⟨a, xs, rfl, ha, l, h⟩ := h
    refine ⟨_, (pss_cons (ps_if (PW.pt (pw_or (pt_not (pt_val (pe_callB call_isiT (by rfl) T.isinstance (by decide +kernel) (pa_cons (pv 0) (pa_cons (pe_tup (pa_cons (pe_bltn (v := .ty "list") (by rfl) T.list (by decide +kernel) rfl) (pa_cons (pe_bltn (v := .ty "tuple") (by rfl) T.tuple (by decide +kernel) rfl) pa_nil))) pa_nil))))) (pw_or1 (pt_not (pt_chain op_le op_le pe_int (pe_callB (call_len_seqK (K := K) rfl) (by rfl) T.len (by decide +kernel) (pa_cons (pv 0) pa_nil)) (pe_gv T.gMOST_MISREADINGS (by rfl)))))))
        (pss_one (ps_raiseG E_BadList quiet rfl (takes_of rfl rfl rfl rfl) hr (by decide) (by rfl) (pa_cons pe_non pa_nil)))
        pss_nil)
      (pss_one (ps_for (passes_of rfl) rfl (pi_enumT (by rfl) T.enumerate (pa_cons (pv 0) pa_nil)) (pg_tup (by rfl) (pgs_cons (pg_name (i := 1) sc_check_misreadings.nd rfl (.inl rfl)) (pgs_cons (pg_name (i := 2) sc_check_misreadings.nd rfl (.inl rfl)) pgs_nil)))
        (pss_one (ps_if (pt_not (pt_val (pe_callB call_isi (by rfl) T.isinstance (by decide +kernel) (pa_cons (pv 2) (pa_cons (pe_gv T.gMisreading (by rfl)) pa_nil)))))
          (pss_one (ps_raiseG E_BadList quiet rfl (takes_of rfl rfl rfl rfl) hr (by decide) (by rfl) (pa_cons (pv 1) pa_nil)))
          pss_nil))))), ?_⟩
    refine ⟨_, rfl, by show 2 ≤ sizeLine; decide, fun tq ntq => ?_⟩
    · have s1 := same_put (s := Same.refl H) (o := .tup [V.ty "list", V.ty "tuple"]) ntq
      refine ⟨_, tq, _, .type "tuple", _, true, rfl, upd_same, .cons (.ty _) (.cons (.ty _) .nil), .base (.tup (s1 _ _ ha)), kitAny_cons (b := false) (kit_ty (by decide +kernel)) (fun _ => kitAny_cons (b := true) (kit_ty (by decide +kernel)) (fun z => nomatch z) (fun _ => rfl)) (fun z => nomatch z), true, rfl, iteF ?_⟩
      clear ntq
      have ha1 := s1 _ _ ha
      generalize upd H tq (.tup [V.ty "list", V.ty "tuple"]) = H1 at s1 ha1 ⊢
      refine ⟨_, rfl, a, xs, rfl, .inr (.inl (.inl ha1)), _, _, rfl, rfl, decide ((1 : Int) ≤ (xs.length : Int)), rfl, ?_⟩
      rcases h with ⟨bad, q⟩ | ⟨g1, g4, its, q1, q2⟩
      · by_cases g : 1 ≤ xs.length
        · rw [decide_eq_true (show (1 : Int) ≤ (xs.length : Int) by omega)]
          refine ⟨_, _, rfl, rfl, decide ((xs.length : Int) ≤ 4), rfl, ?_⟩
          rw [decide_eq_false (show ¬ (xs.length : Int) ≤ 4 by omega)]
          refine iteT ⟨by show 1 ≤ 1000; decide, fun b nb => ?_⟩
          exact madeG E_BadList.oc E_BadList.no told_none .non tells_none (by rw [shown_none]; decide) (q.same s1) b nb
        · rw [decide_eq_false (show ¬ (1 : Int) ≤ (xs.length : Int) by omega)]
          refine ⟨false, rfl, iteT ⟨by show 1 ≤ 1000; decide, fun b nb => ?_⟩⟩
          exact madeG E_BadList.oc E_BadList.no told_none .non tells_none (by rw [shown_none]; decide) (q.same s1) b nb
      · rw [decide_eq_true (show (1 : Int) ≤ (xs.length : Int) by omega)]
        refine ⟨_, _, rfl, rfl, decide ((xs.length : Int) ≤ 4), rfl, ?_⟩
        rw [decide_eq_true (show (xs.length : Int) ≤ 4 by omega)]
        refine iteF ?_
        refine ⟨_, rfl, a, xs, rfl, .inl (.inl ha1), for_it walk_enumT (fun i σ H2 => (∃ v1 v2 : Option V, σ = [some (.ref a), v1, v2]) ∧ Same H H2 ∧ ∀ z ∈ xs.take i, isM z = true) ⟨⟨none, none, rfl⟩, s1, fun c h => by simp at h⟩ (fun _ _ _ _ h => .inl (.inl (h.2.1 _ _ ha))) ?_ ?_⟩
        · rintro i z σ H2 H3 hi ⟨⟨v1, v2, rfl⟩, s2, known⟩ ⟨tq2, y, rfl, nt2, rfl, hy⟩
          obtain ⟨hi', ey⟩ := List.getElem?_eq_some_iff.mp hy
          have it := (its y (ey ▸ List.getElem_mem hi')).same s2
          have s3 := same_put (s := Same.refl H2) (o := .tup [.int (i : Nat), y]) nt2
          refine ⟨tq2, _, rfl, .inl (.inl upd_same), rfl, _, _, rfl, _, _, rfl, rfl, ?_⟩
          rcases it with ⟨z, dx, fs, rfl, hz⟩ | rfl | ⟨k, rfl⟩
          · refine ⟨_, rfl, _, .ref CM, .ref CM, .ref CM, true, rfl, .own _, .base (.ins (s3 _ _ hz) T.cl T.tA T.tB T.tC T.tD), T.mM, true, rfl, iteF ⟨⟨_, _, rfl⟩, fun b o e => s3 _ _ (s2 _ _ e), fun z hz => ?_⟩⟩
            rw [List.take_add_one, hy] at hz
            rcases List.mem_append.mp hz with h | h
            · exact known z h
            · rw [List.mem_singleton.mp h]
              rfl
          · refine ⟨_, rfl, _, .ref CM, .type "NoneType", .ref CM, false, rfl, .own _, .base .non, T.kNM, false, rfl, iteT ⟨_, rfl, by show 1 ≤ 1000; decide, fun b nb => ?_⟩⟩
            exact madeG E_BadList.oc E_BadList.no (told_int _) (.int _) (tells_nat (by omega)) (by rw [shown_int]; exact nat_len (by omega)) ((q2 i _ hy rfl known).same fun b o e => s3 _ _ (s2 _ _ e)) b nb
          · refine ⟨_, rfl, _, .ref CM, .type "int", .ref CM, false, rfl, .own _, .base (.int _), T.kIM, false, rfl, iteT ⟨_, rfl, by show 1 ≤ 1000; decide, fun b nb => ?_⟩⟩
            exact madeG E_BadList.oc E_BadList.no (told_int _) (.int _) (tells_nat (by omega)) (by rw [shown_int]; exact nat_len (by omega)) ((q2 i _ hy rfl known).same fun b o e => s3 _ _ (s2 _ _ e)) b nb
        · rintro σ H2 ⟨⟨v1, v2, rfl⟩, s2, known⟩
          rw [List.take_length] at known
          exact q1 known _ s2
theorem ok_check_misreadings {f : Addr} {fd : FuncData} (F : Fun K "check_misreadings" "check_misreadings" s_check_misreadings f fd) (T : Ta K mg CM CJ) (E_BadList : ErmG P w K mg base "BadList" "at" CL (spErrG K CL "at")) : FnG P w K mg base (L2.CX P w) 5 f fd ["value"] (spCkMs K CM CL) :=
  (ok_ckML F T E_BadList).both (ok_ckMT F T E_BadList)
end
end V8

set_option Elab.async false
set_option linter.all false
set_option maxRecDepth 100000
set_option maxHeartbeats 4000000
/-! ~ by an own __invert__. -/
namespace L2
open PySem PySem.Spec PyProof.Rows
theorem un_invO {X : Cx} {k j : Nat} {C : Addr} {sp : Sp} (c : Mf X.prog X.w X.K X.mg X.base k C "__invert__" sp) (hr : Room j X.A) (hk : k ≤ j) : UnR X (unaryOp .Invert) (fun x H Q => ∃ a dx fs, x = .ref a ∧ H a = some (.ins C dx fs) ∧ sp [.ref a] H Q E0) := by
  obtain ⟨f, fd, ps, F, _, o, _, b⟩ := c.ex
  intro pins s σ H x v Q I rx h
  obtain ⟨a, dx, fs, rfl, ha, hs⟩ := h
  cases rx
  obtain ⟨od, J⟩ := inst_at I ha
  obtain ⟨m, hF⟩ := I.fr
  exact PySem.W.ksp_inv hF I.ok.mod.kin J o.find o.fn (run_own (Sub.here (hr.mono hk)) F b pass0 I (show Vals [V.ref a] [Value.ref a] from .cons rfl .nil) hs)
end L2

set_option Elab.async false
set_option linter.all false
set_option maxRecDepth 100000
set_option maxHeartbeats 16000000
/-! along. -/
namespace V8
open PySem PySem.Spec PyProof.Rows L2 ItX
abbrev s_along : Stmt := topS 41
abbrev n_along : List Str := ["misreadings", "text", "row", "reached", "at", "index", "misreading"]
theorem sc_along : FnScope ["misreadings", "text", "row", "reached", "at", "index", "misreading"] ["misreadings", "text", "row"] (defScope s_along) := ⟨rfl, rfl, rfl, by decide +kernel, rfl, by decide +kernel, by decide +kernel⟩
structure MfX (P : Program) (w : World) (K : PySem.W.Frag) (mg : Str → Option Value) (base : Heap) (k : Nat) (C : Addr) (m : Str) (sp : Sp) : Prop where
  ex : ∃ (f : Addr) (fd : FuncData) (ps : List Str), FnOk P w K mg base (L2.CX P w) k f fd ps sp ∧ Own K C m f ∧ PySem.W.fnIn K f = true ∧ Binds K fd ps []
def tCallIX (C : Addr) (sp : Sp) (E : XK) (tf : TE) (t : TA) : TE := fun σ H Q => tf σ H fun y H1 => ∃ a, y = V.ref a ∧ t σ H1 fun vs H2 => (∃ dx fs, H2 a = some (.ins C dx fs)) ∧ sp (V.ref a :: vs) H2 Q E
theorem pe_callX {X : Cx} {j k : Nat} {C : Addr} {sp : Sp} {pos : Pos} {fe e : Expr} {es : List Expr} {tf : TE} {t : TA} {E : XK} (hf : PE X fe tf) (c : MfX X.prog X.w X.K X.mg X.base k C "__call__" sp) (hx : Passes (L2.CX X.prog X.w) X E) (hr : Room j X.A) (hk : k ≤ j) (ha : PA X (e :: es) t)
    (ht : eval (.Call fe (e :: es) [] pos) X.env = (do callWith pos (← eval fe X.env) [] (backTo pos (starEach (e :: es) X.env)) (backToKw pos (keywordEach [] X.env))) := by rfl)
    (he : starEach (e :: es) X.env = (false, eval e X.env) :: starEach es X.env := by rfl) (hpl : (backTo pos (starEach es X.env)).any (·.1) = false := by rfl) : PE X (.Call fe (e :: es) [] pos) (tCallIX C sp E tf t) := by
  obtain ⟨f, fd, ps, F, o, fi, b⟩ := c.ex
  have R := (F.raw b .nil).imp fun vs H Q E h => by
    rw [List.append_nil]
    exact h
  refine ⟨fun pins s σ H Q I h => Call_ (thn (hf.run pins s σ H _ I h) fun u s1 ⟨y, H1, I1, ry, a, ey, q⟩ => ?_) ht⟩
  subst ey
  obtain rfl : u = Value.ref a := ry
  refine StX.callO_with (thn (ha.run pos pins s1 σ H1 _ I1 q) fun us s2 ⟨vs, H2, I2, r, ⟨dx, fs, hi⟩, q2⟩ => ?_) he hpl
  have hi2 : StX.InsC X H2 a C := .inr ⟨dx, fs, hi⟩
  obtain ⟨ox, od, J, hd⟩ := StX.insC_at I2 hi2
  exact ⟨⟨C, ox, od, J, hd⟩, StX.run_callO ⟨o.find, o.fn, fi⟩ R (hr.mono hk) hx I2 hi2 r q2⟩
/-- a row along a text: barred at an index of it, too many letters, or a text -/
inductive Out where
  | barred (i : Nat)
  | many
  | ok (r : List Nat)
def alF (us : List Tab) : List Nat → Nat → List Nat → Out
  | [], _, w => .ok w
  | i :: r, k, w => match imF (lk (us.getD i [])) w with
    | none => .barred k
    | some z => if z.length ≤ 2000 then alF us r (k + 1) z else .many
def AlEnd (CD CT : Addr) (H : Hp) (Q : VK) (E : XK) : Out → Prop
  | .barred k => OutA CD H k E
  | .many => OutT CT H "signs" 2000 E
  | .ok r => ∀ H', Same H H' → Q (.str (Sx r)) H'
/-- misreadings in a list -/
def MisL (CM : Addr) (H : Hp) (ps : List (Addr × Tab)) : Prop := ∀ p ∈ ps, MisAt CM H p.1 p.2 ∧ Bnd 4 (lk p.2) ∧ ∀ c s, lk p.2 c = some s → ∀ d ∈ s, isLt d
def refs (ps : List (Addr × Tab)) : List V := ps.map fun p => V.ref p.1
def idxs (row : List Nat) : List V := row.map fun i => V.int (i : Nat)
theorem MisL.same {CM : Addr} {H H1 : Hp} {ps : List (Addr × Tab)} (m : MisL CM H ps) (s : Same H H1) : MisL CM H1 ps := fun p hp => ⟨(m p hp).1.same s, (m p hp).2⟩
theorem MisL.items {CM : Addr} {H : Hp} {ps : List (Addr × Tab)} (m : MisL CM H ps) : ∀ y ∈ refs ps, Item CM H y := fun y hy => by
  obtain ⟨p, hp, rfl⟩ := List.mem_map.mp hy
  obtain ⟨dx, a, b, c', hx, _⟩ := id (m p hp).1.at_
  exact .inl ⟨p.1, dx, _, rfl, hx⟩
theorem refs_isM (ps : List (Addr × Tab)) : ∀ y ∈ refs ps, isM y = true := fun y hy => by
  obtain ⟨p, hp, rfl⟩ := List.mem_map.mp hy
  rfl
def BadMs (K : PySem.W.Frag) (CM CL : Addr) (H : Hp) (mv : V) (E : XK) : Prop := (Flat mv ∧ OutG CL H "at" .none E) ∨
  ∃ a xs, mv = .ref a ∧ (H a = some (.lst xs) ∨ H a = some (.tup xs)) ∧ xs.length ≤ 100 ∧ (((xs.length = 0 ∨ 4 < xs.length) ∧ OutG CL H "at" .none E) ∨
    (1 ≤ xs.length ∧ xs.length ≤ 4 ∧ (∀ y ∈ xs, Item CM H y) ∧ ∃ (i : Nat) (y : V), xs[i]? = some y ∧ isM y = false ∧ (∀ z ∈ xs.take i, isM z = true) ∧ OutG CL H "at" (.int (i : Nat)) E))
theorem first_bad {p : V → Bool} {xs : List V} {i k : Nat} {y z : V} (hy : xs[i]? = some y) (fy : p y = false) (ky : ∀ z ∈ xs.take i, p z = true) (hz : xs[k]? = some z) (fz : p z = false) (kz : ∀ z ∈ xs.take k, p z = true) : i = k := by
  have step : ∀ {i k : Nat} {y : V}, xs[i]? = some y → p y = false → (∀ z ∈ xs.take k, p z = true) → k ≤ i := fun {i k y} h f t => by
    by_cases l : k ≤ i
    · exact l
    · have hm : y ∈ xs.take k := List.mem_of_getElem? (i := i) (by rw [List.getElem?_take, if_pos (by omega)]; exact h)
      rw [t y hm] at f
      cases f
  exact Nat.le_antisymm (step hz fz ky) (step hy fy kz)
theorem BadMs.ck {K : PySem.W.Frag} {CM CL : Addr} {H : Hp} {mv : V} {Q : VK} {E : XK} (b : BadMs K CM CL H mv E) : spCkMs K CM CL [mv] H Q E := by
  have go : ∀ (xs : List V), xs.length ≤ 100 → (((xs.length = 0 ∨ 4 < xs.length) ∧ OutG CL H "at" .none E) ∨ (1 ≤ xs.length ∧ xs.length ≤ 4 ∧ (∀ y ∈ xs, Item CM H y) ∧ ∃ (i : Nat) (y : V), xs[i]? = some y ∧ isM y = false ∧ (∀ z ∈ xs.take i, isM z = true) ∧ OutG CL H "at" (.int (i : Nat)) E)) → CkMs CM CL H xs Q E := fun xs l h => by
    refine ⟨l, ?_⟩
    rcases h with h | ⟨g1, g4, its, i, y, hy, fy, ky, o⟩
    · exact .inl h
    · refine .inr ⟨g1, g4, its, fun all => ?_, fun k z hz fz kz => ?_⟩
      · rw [all y (List.mem_of_getElem? hy)] at fy
        cases fy
      · obtain rfl := first_bad hy fy ky hz fz kz
        exact o
  rcases b with ⟨f, o⟩ | ⟨a, xs, rfl, h | h, l, g⟩
  · exact .inl ⟨mv, rfl, .inl ⟨f, o⟩⟩
  · exact .inl ⟨_, rfl, .inr ⟨a, xs, rfl, h, go xs l g⟩⟩
  · exact .inr ⟨a, xs, rfl, h, go xs l g⟩
theorem atName {i : Nat} {v : V} {σ : L2.St} {H : Hp} {Q : L2.St → Hp → Prop} (h : Q (σ.set i (some v)) H) : gName i v σ H Q := h
theorem refs_len (ps : List (Addr × Tab)) : (refs ps).length = ps.length := List.length_map ..
theorem idxs_len (row : List Nat) : (idxs row).length = row.length := List.length_map ..
theorem us_at {ps : List (Addr × Tab)} {k : Nat} {p : Addr × Tab} (h : ps[k]? = some p) : (ps.map (·.2)).getD k [] = p.2 := by
  rw [List.getD_eq_getElem?_getD, List.getElem?_map, h]
  rfl
theorem alF_step {us : List Tab} {row w : List Nat} {i k : Nat} {u : Tab} (h : row[i]? = some k) (hu : us.getD k [] = u) : alF us (row.drop i) i w = match imF (lk u) w with
    | none => .barred i
    | some z => if z.length ≤ 2000 then alF us (row.drop (i + 1)) (i + 1) z else .many := by
  obtain ⟨hi, e⟩ := List.getElem?_eq_some_iff.mp h
  rw [List.drop_eq_getElem_cons hi, e]
  show (match imF (lk (us.getD k [])) w with | none => Out.barred i | some z => if z.length ≤ 2000 then alF us (row.drop (i + 1)) (i + 1) z else .many) = _
  rw [hu]
theorem imF_lets {f : Fu} (h : ∀ c s, f c = some s → ∀ d ∈ s, isLt d) : ∀ {w r : List Nat}, imF f w = some r → ∀ d ∈ r, isLt d
  | [], r, e => by
    cases e
    exact fun d hd => absurd hd (List.not_mem_nil)
  | c :: w, r, e => by
    have e1 : ((f c).bind fun z => (imF f w).map (z ++ ·)) = some r := e
    cases hc : f c with
    | none => rw [hc] at e1; cases e1
    | some z =>
      rw [hc] at e1
      have e2 : (imF f w).map (z ++ ·) = some r := e1
      cases hw : imF f w with
      | none => rw [hw] at e2; cases e2
      | some q =>
        rw [hw] at e2
        cases e2
        exact fun d hd => (List.mem_append.mp hd).elim (h c z hc d) (imF_lets h hw d)
def RowBad (K : PySem.W.Frag) (CY : Addr) (H : Hp) (rv : V) (n : Nat) (E : XK) : Prop := (∃ t, (∀ H', Same H H' → TyX K H' rv t) ∧ PySem.W.kitOne K t (.type "tuple") = some false ∧ OutG CY H "at" .none E) ∨
  ∃ a xs, rv = .ref a ∧ H a = some (.tup xs) ∧ xs.length ≤ 100 ∧ (∀ y ∈ xs, Flat y) ∧ ∃ (i : Nat) (y : V), xs[i]? = some y ∧ inB y 0 ((n : Int) - 1) = false ∧ (∀ z ∈ xs.take i, inB z 0 ((n : Int) - 1) = true) ∧ OutG CY H "at" (.int (i : Nat)) E
theorem RowBad.ck {K : PySem.W.Frag} {CY : Addr} {H H1 : Hp} {rv : V} {n : Nat} {Q : VK} {E : XK} (b : RowBad K CY H rv n E) (s : Same H H1) : spCkRow K CY [rv, .int (n : Nat)] H1 Q E := by
  refine ⟨rv, n, rfl, ?_⟩
  rcases b with ⟨t, ty, e, o⟩ | ⟨a, xs, rfl, ha, l, fl, i, y, hy, fy, ky, o⟩
  · exact .inl ⟨t, ty _ s, e, o.same s⟩
  · refine .inr ⟨a, xs, rfl, s _ _ ha, l, fl, fun all => ?_, fun k z hz fz kz => ?_⟩
    · rw [all y (List.mem_of_getElem? hy)] at fy
      cases fy
    · obtain rfl := first_bad (p := fun v => inB v 0 ((n : Int) - 1)) hy fy ky hz fz kz
      exact o.same s
theorem row_in {row : List Nat} {n : Nat} (h : ∀ i ∈ row, i < n) : ∀ y ∈ idxs row, inB y 0 ((n : Int) - 1) = true := fun y hy => by
  obtain ⟨i, hi, rfl⟩ := List.mem_map.mp hy
  have := h i hi
  show (decide ((0 : Int) ≤ (i : Nat)) && decide (((i : Nat) : Int) ≤ (n : Int) - 1)) = true
  rw [decide_eq_true (by omega), decide_eq_true (by omega)]
  rfl
theorem idxs_flat (row : List Nat) : ∀ y ∈ idxs row, Flat y := fun y hy => by
  obtain ⟨i, hi, rfl⟩ := List.mem_map.mp hy
  exact .inr (.inl ⟨_, rfl⟩)
def AlR (K : PySem.W.Frag) (CO CY CD CT : Addr) (H : Hp) (tv rv : V) (ps : List (Addr × Tab)) (Q : VK) (E : XK) : Prop :=
  (∃ d, Told1 H tv ∧ PyV H tv d ∧ Tells d ∧ d.shown.length ≤ 7000000 ∧ (∀ H', Same H H' → NoText K H' tv) ∧ OutG CO H "value" d E) ∨
  (∃ w : List Nat, tv = .str (Sx w) ∧ (∀ c ∈ w, isLt c) ∧ w.length ≤ 2000 ∧ (RowBad K CY H rv ps.length E ∨
    ∃ a row, rv = .ref a ∧ H a = some (.tup (idxs row)) ∧ row.length ≤ 100 ∧ (∀ i ∈ row, i < ps.length) ∧ AlEnd CD CT H Q E (alF (ps.map (·.2)) row 0 w)))
def spAlL (K : PySem.W.Frag) (CM CL CO CY CD CT : Addr) : Sp := fun vs H Q E => ∃ mv tv rv, vs = [mv, tv, rv] ∧
  (BadMs K CM CL H mv E ∨ ∃ a ps, mv = .ref a ∧ H a = some (.lst (refs ps)) ∧ 1 ≤ ps.length ∧ ps.length ≤ 4 ∧ MisL CM H ps ∧ AlR K CO CY CD CT H tv rv ps Q E)
def spAlT (K : PySem.W.Frag) (CM CO CY CD CT : Addr) : Sp := fun vs H Q E => ∃ a tv rv ps, vs = [.ref a, tv, rv] ∧ H a = some (.tup (refs ps)) ∧ 1 ≤ ps.length ∧ ps.length ≤ 4 ∧ MisL CM H ps ∧ AlR K CO CY CD CT H tv rv ps Q E
def spAlong (K : PySem.W.Frag) (CM CL CO CY CD CT : Addr) : Sp := fun vs H Q E => spAlL K CM CL CO CY CD CT vs H Q E ∨ spAlT K CM CO CY CD CT vs H Q E
theorem AlEnd.same {CD CT : Addr} {H H1 : Hp} {Q : VK} {E : XK} {o : Out} (h : AlEnd CD CT H Q E o) (s : Same H H1) : AlEnd CD CT H1 Q E o := by
  cases o with
  | barred i => exact OutA.same h s
  | many => exact OutT.same h s
  | ok r => exact fun H' s2 => h H' fun b o e => s2 _ _ (s _ _ e)
section
variable {P : Program} {w : World} {K : PySem.W.Frag} {mg : Str → Option Value} {base : Heap} {CM CJ CL CO CT CD CE CY : Addr}
theorem ok_alL {f : Addr} {fd : FuncData} (F : Fun K "along" "along" s_along f fd) (T : Ta K mg CM CJ) (D_check_misreadings : DfG P w K mg base (L2.CX P w) 5 "check_misreadings" (spCkMs K CM CL)) (D_check_text : DfG P w K mg base (L2.CX P w) 5 "check_text" (spChkA K CO)) (D_check_row : DfG P w K mg base (L2.CX P w) 5 "check_row" (spCkRow K CY))
    (D_first_barred : Mf P w K mg base 1 CM "first_barred" (spFB CM)) (D_callM : MfX P w K mg base 5 CM "__call__" (spCaMX CM CD CT)) (E_Barred : ErmG P w K mg base "Barred" "at" CD (spErr1 K CD "at")) : FnG P w K mg base (L2.CX P w) 6 f fd ["misreadings", "text", "row"] (spAlL K CM CL CO CY CD CT) := by
  refine F.okXG sc_along (fun vs H Q E h => ?_) (fun cdv A outer s H vs Q E quiet hr h => ?_)
  · obtain ⟨mv, tv, rv, rfl, _⟩ := h
    rfl
  · obtain ⟨mv, tv, rv, rfl, h⟩ := h
    refine ⟨_, (pss_cons (ps_expr (pe_cG D_check_misreadings quiet (passTk (takes_of rfl rfl rfl rfl)) hr (by decide) (by rfl) (pa_cons (pv 0) pa_nil)))
      (pss_cons (ps_expr (pe_cG D_check_text quiet (passTk (takes_of rfl rfl rfl rfl)) hr (by decide) (by rfl) (pa_cons (pv 1) pa_nil)))
      (pss_cons (ps_expr (pe_cG D_check_row quiet (passTk (takes_of rfl rfl rfl rfl)) hr (by decide) (by rfl) (pa_cons (pv 2) (pa_cons (pe_callB (call_len_seqK (K := K) rfl) (by rfl) T.len (by decide +kernel) (pa_cons (pv 0) pa_nil)) pa_nil))))
      (pss_cons (ps_set (i := 3) sc_along.nd rfl (.inl rfl) (pv 1))
      (pss_cons (ps_for (passes_of rfl) rfl (pi_enumT (by rfl) T.enumerate (pa_cons (pv 2) pa_nil)) (pg_tup (by rfl) (pgs_cons (pg_name (i := 4) sc_along.nd rfl (.inl rfl)) (pgs_cons (pg_name (i := 5) sc_along.nd rfl (.inl rfl)) pgs_nil)))
        (pss_cons (ps_set (i := 6) sc_along.nd rfl (.inl rfl) (pe_ix (ix_listK (K := K) rfl) (pv 0) (pv 5) (fun _ _ => rfl)))
        (pss_cons (ps_if (pt_cmpR op_notN (pe_mt T.cl D_first_barred hr (by decide) (pv 6) (pa_cons (pv 3) pa_nil)) pe_non (nomark _))
          (pss_one (ps_raiseG E_Barred quiet rfl (takes_of rfl rfl rfl rfl) hr (by decide) (by rfl) (pa_cons (pv 4) pa_nil)))
          pss_nil)
        (pss_one (ps_set (i := 3) sc_along.nd rfl (.inl rfl) (pe_callX (pv 6) D_callM (passTk (takes_of rfl rfl rfl rfl)) hr (by decide) (pa_cons (pv 3) pa_nil)))))))
      (pss_one (ps_ret (pv 3)))))))), ?_⟩
    rcases h with bad | ⟨a, ps, rfl, ha, g1, g4, ml, h⟩
    · exact ⟨_, rfl, bad.ck⟩
    · refine ⟨_, rfl, .inl ⟨_, rfl, .inr ⟨a, _, rfl, ha, by rw [refs_len]; omega, .inr ⟨by rw [refs_len]; omega, by rw [refs_len]; omega, ml.items, fun _ H1 s1 => ?_, fun i y hy fy _ => ?_⟩⟩⟩⟩
      rotate_left
      · rw [refs_isM ps y (List.mem_of_getElem? hy)] at fy
        cases fy
      rcases h with ⟨d, tl, pv0, te, sz, no, o⟩ | ⟨w0, rfl, lt, lw, h⟩
      · exact ⟨_, rfl, tv, rfl, .inr ⟨d, tl.same s1, pv0.same s1, te, sz, no _ s1, o.same s1⟩⟩
      refine ⟨_, rfl, _, rfl, .inl ⟨w0, rfl, lt, lw, ?_⟩⟩
      refine ⟨_, rfl, _, rfl, a, refs ps, rfl, .inl (SqL.of (s1 _ _ ha)), ?_⟩
      rw [refs_len]
      dsimp only [tNil]
      rcases h with rb | ⟨b, row, rfl, hb, lr, hin, h⟩
      · exact rb.ck s1
      refine ⟨_, ps.length, rfl, .inr ⟨b, _, rfl, s1 _ _ hb, by rw [idxs_len]; omega, idxs_flat row, fun _ H2 s2 => ?_, fun i y hy fy _ => ?_⟩⟩
      rotate_left
      · rw [row_in hin y (List.mem_of_getElem? hy)] at fy
        cases fy
      have s02 : Same H H2 := fun b o e => s2 _ _ (s1 _ _ e)
      replace ml := ml.same s02
      replace ha := s02 _ _ ha
      replace hb := s02 _ _ hb
      replace h := h.same s02
      clear s1 s2 s02
      refine ⟨_, rfl, ?_⟩
      refine atName ?_
      try dsimp only
      refine ⟨_, rfl, b, idxs row, rfl, .inl (.inl hb), for_it walk_enumT (fun i σ H3 => (∃ (cur : List Nat) (v4 v5 v6 : Option V), σ = [some (.ref a), some (.str (Sx w0)), some (.ref b), some (.str (Sx cur)), v4, v5, v6] ∧ (∀ c ∈ cur, isLt c) ∧ cur.length ≤ 2000 ∧ alF (ps.map (·.2)) row 0 w0 = alF (ps.map (·.2)) (row.drop i) i cur) ∧ Same H2 H3) ⟨⟨w0, none, none, none, rfl, lt, lw, rfl⟩, Same.refl H2⟩ (fun _ _ _ _ h => .inl (.inl (h.2 _ _ hb))) ?_ ?_⟩
      · rintro i z σ H3 H4 hi ⟨⟨cur, v4, v5, v6, rfl, ltc, lc, eq⟩, s3⟩ ⟨tq, y, rfl, ntq, rfl, hy⟩
        obtain ⟨hi', ey⟩ := List.getElem?_eq_some_iff.mp hy
        have ir : i < row.length := by
          rw [idxs_len] at hi'
          exact hi'
        obtain ⟨k, hk⟩ : ∃ k, row[i]? = some k := ⟨row[i], List.getElem?_eq_getElem ir⟩
        have yk : y = V.int (k : Nat) := by
          have z := hy
          rw [idxs, List.getElem?_map, hk] at z
          exact (Option.some.inj z).symm
        subst yk
        have kl : k < ps.length := hin k (List.mem_of_getElem? hk)
        obtain ⟨p, hp⟩ : ∃ p, ps[k]? = some p := ⟨ps[k], List.getElem?_eq_getElem kl⟩
        have eq2 := eq.trans (alF_step (us := ps.map (·.2)) (w := cur) hk (us_at hp))
        refine ⟨tq, _, rfl, .inl (.inl upd_same), rfl, _, _, rfl, _, _, rfl, rfl, ?_⟩
        have s4 := same_put (s := s3) (o := .tup [.int (i : Nat), .int (k : Nat)]) ntq
        obtain ⟨mp, bp, lp⟩ := ml p (List.mem_of_getElem? hp)
        have mp4 := mp.same s4
        obtain ⟨dx, aa, bb, cc, hx, _⟩ := id mp4.at_
        refine ⟨_, rfl, _, rfl, a, refs ps, _, .ref p.1, rfl, rfl, SqL.of (s4 _ _ ha), atI_nat (by rw [refs, List.getElem?_map, hp]; rfl), ?_⟩
        refine atName ?_
        try dsimp only
        refine ⟨_, rfl, p.1, dx, _, rfl, hx, f3_no (by decide +kernel) (by decide +kernel) (by decide +kernel), _, rfl, p.1, p.2, cur, rfl, mp4, by omega, fun r H5 er s5 => ?_, fun n H5 hn en s5 => ?_⟩
        · refine ⟨rfl, false, rfl, iteF ?_⟩
          rw [er] at eq2
          refine ⟨_, rfl, p.1, rfl, _, rfl, ⟨dx, _, s5 _ _ hx⟩, p.1, p.2, cur, rfl, mp4.same s5, ltc, lc, ⟨4, by decide, bp, by omega⟩, fun n c hc hn _ => ?_, fun r2 er2 => ?_⟩
          · rw [imF_none.mpr ⟨c, List.mem_of_getElem? hc, hn⟩] at er
            cases er
          · rw [er] at er2
            cases er2
            by_cases l : r.length ≤ 2000
            · dsimp only at eq2
              rw [if_pos l] at eq2
              exact .inl ⟨l, fun H6 s6 => ⟨⟨r, _, _, _, rfl, imF_lets lp er, l, eq2⟩, fun b o e => s6 _ _ (s5 _ _ (s4 _ _ e))⟩⟩
            · dsimp only at eq2
              rw [if_neg l] at eq2
              rw [eq2] at h
              exact .inr ⟨by omega, (OutT.same (show OutT CT H2 "signs" 2000 E from h) s4).same s5⟩
        · refine ⟨rfl, true, rfl, iteT ?_⟩
          rw [en] at eq2
          dsimp only at eq2
          rw [eq2] at h
          have hl := idx_log (k := i) (by omega)
          refine ⟨_, rfl, by show 1 ≤ 1000; decide, fun a0 na => ?_⟩
          exact made1 E_Barred.oc E_Barred.no (.inr ⟨_, rfl, hl, rfl⟩) (Nat.le_trans (PyProof.Rows.int_text_len_1921 hl) (by decide)) (fun _ _ => .base (.int _)) (kit_ty (by decide +kernel)) (kit_ty (by decide +kernel)) (kit_ty (by decide +kernel)) ((OutA.same (show OutA CD H2 i E from h) s4).same s5) a0 na
      · rintro σ H3 ⟨⟨cur, v4, v5, v6, rfl, ltc, lc, eq⟩, s3⟩
        rw [idxs_len, List.drop_length] at eq
        rw [eq] at h
        exact ⟨_, rfl, h H3 s3⟩
theorem ok_alT {f : Addr} {fd : FuncData} (F : Fun K "along" "along" s_along f fd) (T : Ta K mg CM CJ) (D_check_misreadings : DfG P w K mg base (L2.CX P w) 5 "check_misreadings" (spCkMs K CM CL)) (D_check_text : DfG P w K mg base (L2.CX P w) 5 "check_text" (spChkA K CO)) (D_check_row : DfG P w K mg base (L2.CX P w) 5 "check_row" (spCkRow K CY))
    (D_first_barred : Mf P w K mg base 1 CM "first_barred" (spFB CM)) (D_callM : MfX P w K mg base 5 CM "__call__" (spCaMX CM CD CT)) (E_Barred : ErmG P w K mg base "Barred" "at" CD (spErr1 K CD "at")) : FnG P w K mg base (L2.CX P w) 6 f fd ["misreadings", "text", "row"] (spAlT K CM CO CY CD CT) := by
  refine F.okXG sc_along (fun vs H Q E h => ?_) (fun cdv A outer s H vs Q E quiet hr h => ?_)
  · obtain ⟨a, tv, rv, ps, rfl, _⟩ := h
    rfl
  · obtain ⟨a, tv, rv, ps, rfl, ha, g1, g4, ml, h⟩ := h
    refine ⟨_, (pss_cons (ps_expr (pe_cG D_check_misreadings quiet (passTk (takes_of rfl rfl rfl rfl)) hr (by decide) (by rfl) (pa_cons (pv 0) pa_nil)))
      (pss_cons (ps_expr (pe_cG D_check_text quiet (passTk (takes_of rfl rfl rfl rfl)) hr (by decide) (by rfl) (pa_cons (pv 1) pa_nil)))
      (pss_cons (ps_expr (pe_cG D_check_row quiet (passTk (takes_of rfl rfl rfl rfl)) hr (by decide) (by rfl) (pa_cons (pv 2) (pa_cons (pe_callB (call_len_seqK (K := K) rfl) (by rfl) T.len (by decide +kernel) (pa_cons (pv 0) pa_nil)) pa_nil))))
      (pss_cons (ps_set (i := 3) sc_along.nd rfl (.inl rfl) (pv 1))
      (pss_cons (ps_for (passes_of rfl) rfl (pi_enumT (by rfl) T.enumerate (pa_cons (pv 2) pa_nil)) (pg_tup (by rfl) (pgs_cons (pg_name (i := 4) sc_along.nd rfl (.inl rfl)) (pgs_cons (pg_name (i := 5) sc_along.nd rfl (.inl rfl)) pgs_nil)))
        (pss_cons (ps_set (i := 6) sc_along.nd rfl (.inl rfl) (pe_ix (ix_tupK (K := K) rfl) (pv 0) (pv 5) (fun _ _ => rfl)))
        (pss_cons (ps_if (pt_cmpR op_notN (pe_mt T.cl D_first_barred hr (by decide) (pv 6) (pa_cons (pv 3) pa_nil)) pe_non (nomark _))
          (pss_one (ps_raiseG E_Barred quiet rfl (takes_of rfl rfl rfl rfl) hr (by decide) (by rfl) (pa_cons (pv 4) pa_nil)))
          pss_nil)
        (pss_one (ps_set (i := 3) sc_along.nd rfl (.inl rfl) (pe_callX (pv 6) D_callM (passTk (takes_of rfl rfl rfl rfl)) hr (by decide) (pa_cons (pv 3) pa_nil)))))))
      (pss_one (ps_ret (pv 3)))))))), ?_⟩
    · refine ⟨_, rfl, .inr ⟨a, _, rfl, ha, by rw [refs_len]; omega, .inr ⟨by rw [refs_len]; omega, by rw [refs_len]; omega, ml.items, fun _ H1 s1 => ?_, fun i y hy fy _ => ?_⟩⟩⟩
      rotate_left
      · rw [refs_isM ps y (List.mem_of_getElem? hy)] at fy
        cases fy
      rcases h with ⟨d, tl, pv0, te, sz, no, o⟩ | ⟨w0, rfl, lt, lw, h⟩
      · exact ⟨_, rfl, tv, rfl, .inr ⟨d, tl.same s1, pv0.same s1, te, sz, no _ s1, o.same s1⟩⟩
      refine ⟨_, rfl, _, rfl, .inl ⟨w0, rfl, lt, lw, ?_⟩⟩
      refine ⟨_, rfl, _, rfl, a, refs ps, rfl, .inr (.inl (.inl (s1 _ _ ha))), ?_⟩
      rw [refs_len]
      dsimp only [tNil]
      rcases h with rb | ⟨b, row, rfl, hb, lr, hin, h⟩
      · exact rb.ck s1
      refine ⟨_, ps.length, rfl, .inr ⟨b, _, rfl, s1 _ _ hb, by rw [idxs_len]; omega, idxs_flat row, fun _ H2 s2 => ?_, fun i y hy fy _ => ?_⟩⟩
      rotate_left
      · rw [row_in hin y (List.mem_of_getElem? hy)] at fy
        cases fy
      have s02 : Same H H2 := fun b o e => s2 _ _ (s1 _ _ e)
      replace ml := ml.same s02
      replace ha := s02 _ _ ha
      replace hb := s02 _ _ hb
      replace h := h.same s02
      clear s1 s2 s02
      refine ⟨_, rfl, ?_⟩
      refine atName ?_
      try dsimp only
      refine ⟨_, rfl, b, idxs row, rfl, .inl (.inl hb), for_it walk_enumT (fun i σ H3 => (∃ (cur : List Nat) (v4 v5 v6 : Option V), σ = [some (.ref a), some (.str (Sx w0)), some (.ref b), some (.str (Sx cur)), v4, v5, v6] ∧ (∀ c ∈ cur, isLt c) ∧ cur.length ≤ 2000 ∧ alF (ps.map (·.2)) row 0 w0 = alF (ps.map (·.2)) (row.drop i) i cur) ∧ Same H2 H3) ⟨⟨w0, none, none, none, rfl, lt, lw, rfl⟩, Same.refl H2⟩ (fun _ _ _ _ h => .inl (.inl (h.2 _ _ hb))) ?_ ?_⟩
      · rintro i z σ H3 H4 hi ⟨⟨cur, v4, v5, v6, rfl, ltc, lc, eq⟩, s3⟩ ⟨tq, y, rfl, ntq, rfl, hy⟩
        obtain ⟨hi', ey⟩ := List.getElem?_eq_some_iff.mp hy
        have ir : i < row.length := by
          rw [idxs_len] at hi'
          exact hi'
        obtain ⟨k, hk⟩ : ∃ k, row[i]? = some k := ⟨row[i], List.getElem?_eq_getElem ir⟩
        have yk : y = V.int (k : Nat) := by
          have z := hy
          rw [idxs, List.getElem?_map, hk] at z
          exact (Option.some.inj z).symm
        subst yk
        have kl : k < ps.length := hin k (List.mem_of_getElem? hk)
        obtain ⟨p, hp⟩ : ∃ p, ps[k]? = some p := ⟨ps[k], List.getElem?_eq_getElem kl⟩
        have eq2 := eq.trans (alF_step (us := ps.map (·.2)) (w := cur) hk (us_at hp))
        refine ⟨tq, _, rfl, .inl (.inl upd_same), rfl, _, _, rfl, _, _, rfl, rfl, ?_⟩
        have s4 := same_put (s := s3) (o := .tup [.int (i : Nat), .int (k : Nat)]) ntq
        obtain ⟨mp, bp, lp⟩ := ml p (List.mem_of_getElem? hp)
        have mp4 := mp.same s4
        obtain ⟨dx, aa, bb, cc, hx, _⟩ := id mp4.at_
        refine ⟨_, rfl, _, rfl, a, refs ps, _, .ref p.1, rfl, rfl, .inl (.inl (s4 _ _ ha)), atI_nat (by rw [refs, List.getElem?_map, hp]; rfl), ?_⟩
        refine atName ?_
        try dsimp only
        refine ⟨_, rfl, p.1, dx, _, rfl, hx, f3_no (by decide +kernel) (by decide +kernel) (by decide +kernel), _, rfl, p.1, p.2, cur, rfl, mp4, by omega, fun r H5 er s5 => ?_, fun n H5 hn en s5 => ?_⟩
        · refine ⟨rfl, false, rfl, iteF ?_⟩
          rw [er] at eq2
          refine ⟨_, rfl, p.1, rfl, _, rfl, ⟨dx, _, s5 _ _ hx⟩, p.1, p.2, cur, rfl, mp4.same s5, ltc, lc, ⟨4, by decide, bp, by omega⟩, fun n c hc hn _ => ?_, fun r2 er2 => ?_⟩
          · rw [imF_none.mpr ⟨c, List.mem_of_getElem? hc, hn⟩] at er
            cases er
          · rw [er] at er2
            cases er2
            by_cases l : r.length ≤ 2000
            · dsimp only at eq2
              rw [if_pos l] at eq2
              exact .inl ⟨l, fun H6 s6 => ⟨⟨r, _, _, _, rfl, imF_lets lp er, l, eq2⟩, fun b o e => s6 _ _ (s5 _ _ (s4 _ _ e))⟩⟩
            · dsimp only at eq2
              rw [if_neg l] at eq2
              rw [eq2] at h
              exact .inr ⟨by omega, (OutT.same (show OutT CT H2 "signs" 2000 E from h) s4).same s5⟩
        · refine ⟨rfl, true, rfl, iteT ?_⟩
          rw [en] at eq2
          dsimp only at eq2
          rw [eq2] at h
          have hl := idx_log (k := i) (by omega)
          refine ⟨_, rfl, by show 1 ≤ 1000; decide, fun a0 na => ?_⟩
          exact made1 E_Barred.oc E_Barred.no (.inr ⟨_, rfl, hl, rfl⟩) (Nat.le_trans (PyProof.Rows.int_text_len_1921 hl) (by decide)) (fun _ _ => .base (.int _)) (kit_ty (by decide +kernel)) (kit_ty (by decide +kernel)) (kit_ty (by decide +kernel)) ((OutA.same (show OutA CD H2 i E from h) s4).same s5) a0 na
      · rintro σ H3 ⟨⟨cur, v4, v5, v6, rfl, ltc, lc, eq⟩, s3⟩
        rw [idxs_len, List.drop_length] at eq
        rw [eq] at h
        exact ⟨_, rfl, h H3 s3⟩
theorem ok_along {f : Addr} {fd : FuncData} (F : Fun K "along" "along" s_along f fd) (T : Ta K mg CM CJ) (D_check_misreadings : DfG P w K mg base (L2.CX P w) 5 "check_misreadings" (spCkMs K CM CL)) (D_check_text : DfG P w K mg base (L2.CX P w) 5 "check_text" (spChkA K CO)) (D_check_row : DfG P w K mg base (L2.CX P w) 5 "check_row" (spCkRow K CY))
    (D_first_barred : Mf P w K mg base 1 CM "first_barred" (spFB CM)) (D_callM : MfX P w K mg base 5 CM "__call__" (spCaMX CM CD CT)) (E_Barred : ErmG P w K mg base "Barred" "at" CD (spErr1 K CD "at")) : FnG P w K mg base (L2.CX P w) 6 f fd ["misreadings", "text", "row"] (spAlong K CM CL CO CY CD CT) :=
  (ok_alL F T D_check_misreadings D_check_text D_check_row D_first_barred D_callM E_Barred).both (ok_alT F T D_check_misreadings D_check_text D_check_row D_first_barred D_callM E_Barred)
end
end V8

set_option Elab.async false
set_option linter.all false
set_option maxRecDepth 100000
set_option maxHeartbeats 4000000
/-! Where no repr is under way: lambdas, kept or written on the spot, called by the def that gets them. -/
namespace LamX
open PySem PySem.Spec PyProof.Rows L2
/-- what a lambda of X must be there -/
structure LamG (X : Cx) (k : Nat) (params : Arguments) (body : Expr) (scope : Scope) (t : XK → TE) : Prop where
  own : LamS X.env.scope scope
  bind : ∀ (q : Str) (cl : List (Str × Addr)) (pm cv ctv : Value), bindArgs (PySem.W.kla_fn "<lambda>" q params body scope cl pm cv ctv) ⟨[], []⟩ = pure []
  reads : ∀ (A : Around) (outer : List Env) (s : Shared) (H : Hp) (E : XK) (f c' : Addr), Quiet A → Room k (A.deeper (lamEnv X scope s.heap.objs.size f c')) → PE (lamCx X A outer s H E scope f c') body (t E)
section
variable {X : Cx} {pins : List (Addr × Obj)} {σ : L2.St} {H : Hp} {s : Shared}
/-- a() in the def that got the lambda -/
theorem act_quiet {CXg : CXT} {Eg : XK} {Ng : List Str} {qg : Str} {sg : Scope} {g f c1 : Addr} {cdg pm ctv : Value} {params : Arguments} {body : Expr} {scope : Scope} {k i : Nat} {a : Str} {pn : List (Addr × Obj)} {xe : Value → Shared → Prop} {W : WX} {E : XK} {t : XK → TE} {p1 p2 : Pos}
    (I : Inv X pins σ H s) (qu : Quiet X.A) (l : LamG X k params body scope t) (tk : Takes ((cxOf CXg X.prog X.w X.K X.mg X.base Ng qg sg g cdg X.A X.stack s H Eg).tr pn xe) W) (hW : ∀ cls d σ' H', E cls d H' → W cls d σ' H')
    (room : Room (k + 1) (X.A.deeper (envOfC qg sg s.heap.objs.size g cdg))) (hN : Ng[i]? = some a) (hv : Vis sg a) (hd : (a == ("__debug__" : Str)) = false := by decide) (hcd : (a == ("__classdict__" : Str)) = false := by decide) :
    PE ((cxOf CXg X.prog X.w X.K X.mg X.base Ng qg sg g cdg X.A X.stack s H Eg).tr pn xe) (.Call (.Name a p1) [] [] p2)
      (fun σZ HZ Q => σZ[i]? = some (some (.ref f)) ∧ (HZ f = some (FnO f (lamObj X params body scope pm ctv c1)) ∧ HZ c1 = some (CodeO c1 (X.env.qual ++ "<lambda>"))) ∧ t E σ HZ Q) := by
  have own := l.own
  refine ⟨fun pinsZ sZ σZ HZ Q IZ h => ?_⟩
  obtain ⟨at_, ⟨kf, kc⟩, rest⟩ := h
  have name := (pe_var (pos := p1) (i := i) hN hv hd hcd).run pinsZ sZ σZ HZ (fun v H1 => v = .ref f ∧ H1 = HZ) IZ ⟨.ref f, at_, rfl, rfl⟩
  refine wpAny_Call_Name_kw (thn name fun u s1 z => ?_)
  obtain ⟨v, H1, J, rel, rfl, rfl⟩ := z
  obtain rfl : u = Value.ref f := rel
  have obj : s1.heap.get? f = some (lamObj X params body scope pm ctv c1) := (J.hok f _ kf).1
  have code := (J.hok c1 _ kc).1
  obtain ⟨oc, vs, tt, code1, code2, code3⟩ := code
  refine PySem.W.callWith_F0 ⟨_, _, _, _, obj⟩ ?_
  have ran : codeAny (model X.prog X.w) (X.A.deeper (envOfC qg sg s.heap.objs.size g cdg)) (.call (.ref f) ⟨[], []⟩) (CR (L2.CX X.prog X.w) (envOfC qg sg s.heap.objs.size g cdg :: X.stack) X.prog X.w H1 s1 Q E) s1 := by
    refine PySem.W.kla_callFunE room.depth obj rfl own.co own.gen rfl ⟨c1, oc, vs, tt, rfl, code1, code2, code3⟩ ?_
    rw [l.bind]
    refine wpAny_pure (wpAny_newFunctionEnv (fun y hy => (own.own y hy).2) (fun y hy => absurd hy (by simp)) (fun h₁ hns hsb => ?_) own.kind)
    refine ⟨J.nolimit.fresh _ hsb, ?_⟩
    have stay : ∀ b o, s1.heap.get? b = some o → h₁.get? b = some o := fun b o e => hsb.extBut b o (Nat.ne_of_lt (Heap.lt_size e)) (Heap.get?_push_of_some _ e)
    have start : Inv (lamCx X (X.A.deeper (envOfC qg sg s.heap.objs.size g cdg)) (envOfC qg sg s.heap.objs.size g cdg :: X.stack) s1 H1 E scope f c1) [] σ H1 { s1 with heap := h₁, toks := s1.toks + ([] : List (Str × Value)).length } :=
      lam_start2 I own J.env0 room.hd J.base hns stay
    have go := (l.reads (X.A.deeper (envOfC qg sg s.heap.objs.size g cdg)) (envOfC qg sg s.heap.objs.size g cdg :: X.stack) s1 H1 E f c1 (show Quiet (X.A.deeper _) from qu) (room.deeper _)).run [] _ _ H1 Q start rest
    refine PySem.W.kla_codeExpr (wpAny_mono go (fun v s' hq => ?_) fun e s' hq => hq)
    obtain ⟨w', H', J', rv, q⟩ := hq
    exact ⟨w', H', J'.os, J'.bare, J'.base, J'.hok, rv, q⟩
  have out : Passes (L2.CX X.prog X.w) ((cxOf CXg X.prog X.w X.K X.mg X.base Ng qg sg g cdg X.A X.stack s H Eg).tr pn xe) E := passes_call tk hW
  refine wpAny_call (codeAny_mono ran fun r s' hq => ?_)
  match r, hq with
  | .error e, hq => exact out pinsZ σZ H1 s1 e s' J hq
  | .ok (.ret u), hq => exact J.after hq
  | .ok .next, hq => exact False.elim hq
  | .ok .brk, hq => exact False.elim hq
  | .ok .cont, hq => exact False.elim hq
/-- a lambda written where it is handed on -/
def tLamG (T : List (Addr × Str)) (TT : (XK → Hp → VK → Prop) → Hp → VK → Prop) (t : XK → TE) : TE := fun σ H Q => Tabs T H ∧ ∀ H1, ExtN H H1 → Tabs T H1 → TT (fun E H' Q' => t E σ H' Q') H1 Q
theorem pe_lamcallG {T : List (Addr × Str)} {TT : (XK → Hp → VK → Prop) → Hp → VK → Prop} {x a : Str} {g c P : Addr} {k : Nat} {pg : Arguments} {bg : List Stmt} {sg : Scope} {dV kV doc pm cdv ct oc : Value} {an od : Option Addr} {osl : Array (Option Value)} {Ng : List Str}
    {params : Arguments} {body : Expr} {scope : Scope} {t : XK → TE} {p lpos pos : Pos} (qu : Quiet X.A) (hg : Gl X x) (hm : X.mg x = some (.ref g)) (hk : PySem.W.keepIn X.K (.ref g) = true) (lk : X.K.lookup g = some ⟨oc, od, .func (PySem.W.fnOf x x pg bg sg dV kV doc pm an cdv ct), osl⟩) (hcg : PySem.W.codeIn X.K cdv x = true)
    (hb : L2.Binds X.K (PySem.W.fnOf x x pg bg sg dV kV doc pm an cdv ct) [a] []) (Sg : FnScope Ng [a] sg) (hNg : Ng[0]? = some a) (hva : Vis sg a) (hG : GivesK X Ng x sg g cdv bg a TT) (TB : TabB X.base X.mg c P) (hcode : X.env.code = .ref c) (hmT : (P, X.env.qual ++ "<lambda>") ∈ T)
    (hu : ∀ q ∈ T, q.1 = P → q.2 = X.env.qual ++ "<lambda>") (hr : Room (k + 2) X.A) (hdef : defaultsOf params X.env = ([], [])) (l : LamG X k params body scope t)
    (hdb : (x == ("__debug__" : Str)) = false := by decide) (hd : (a == ("__debug__" : Str)) = false := by decide) (hcd : (a == ("__classdict__" : Str)) = false := by decide) :
    PE X (.Call (.Name x p) [.Lambda params body scope lpos] [] pos) (tLamG T TT t) := by
  refine ⟨fun pins s σ H Q I h => wpAny_Call_Name_kw (ld_glob I hg hm ?_ hdb)⟩
  obtain ⟨hT, h⟩ := h
  refine PySem.W.callWith_K (h₀ := X.base) I.ok.mod.kin hk ?_ (by rfl) (by rfl)
  show wpAny _ _ (spliced ((false, eval (.Lambda params body scope lpos) X.env) :: backTo pos (starEach [] X.env))) _ _ s
  refine Calls.spliced_cons (lam_made I TB hcode hmT hu hT hdef (l.own.has I.ok) fun f H1 s1 J eN tA nf lo => ?_)
  refine Calls.spliced_nil ⟨J.kIn, ?_⟩
  obtain ⟨c1, pmf, ctf, kf, kc⟩ := lo
  have ran : codeAny (model X.prog X.w) X.A (.call (.ref g) ⟨[.ref f], []⟩) (CR C8.CX0 X.stack X.prog X.w H1 s1 Q C8.E0) s1 := by
    refine run_ofS (N := Ng) (ps := [a]) (us := [.ref f]) (vs := [.ref f]) lk hcg Sg hr J.env0 (hb s1 [.ref f] J.kIn rfl) (.cons rfl .nil) rfl fun room => ?_
    have gave := hG f (fun HZ => HZ f = some (FnO f (lamObj X params body scope pmf ctf c1)) ∧ HZ c1 = some (CodeO c1 (X.env.qual ++ "<lambda>"))) s1 H1 Q (fun E H' Q' => t E σ H' Q')
      (fun _ _ z e => ⟨e _ _ z.1, e _ _ z.2⟩) (fun W pn xe E p1 p2 tk hW => act_quiet (i := 0) J qu l tk hW room hNg hva hd hcd) ⟨kf, kc⟩ (h H1 eN tA)
    obtain ⟨t1, ht1, hq1⟩ := gave
    exact ⟨t1, ht1.nox, hq1⟩
  refine wpAny_call (codeAny_mono ran fun r s2 hq => ?_)
  match r, hq with
  | .error e, hq => exact (show False from hq).elim
  | .ok (.ret u), hq => exact J.after hq
  | .ok .next, hq => exact False.elim hq
  | .ok .brk, hq => exact False.elim hq
  | .ok .cont, hq => exact False.elim hq
end
end LamX

set_option Elab.async false
set_option linter.all false
set_option maxRecDepth 100000
set_option maxHeartbeats 16000000
/-! What is heard of a call: what it returns, or one of five errors. -/
namespace V8
open PySem PySem.Spec PyProof.Rows L2 LamX
abbrev s_heard : Stmt := topS 53
abbrev n_heard : List Str := ["_law_ask", "_law_caught", "_law_found", "error"]
theorem sc_heard : FnScope ["_law_ask", "_law_caught", "_law_found", "error"] ["_law_ask"] (defScope s_heard) := ⟨rfl, rfl, rfl, by decide +kernel, rfl, by decide +kernel, by decide +kernel⟩
structure Th (K : PySem.W.Frag) (mg : Str → Option Value) (CM CJ CL CO CY CD CT CE : Addr) : Prop extends Ta K mg CM CJ where
  gBadList : GV mg "BadList" (.ref CL)
  gBadWord : GV mg "BadWord" (.ref CO)
  gBadRow : GV mg "BadRow" (.ref CY)
  gBarred : GV mg "Barred" (.ref CD)
  gTooMany : GV mg "TooMany" (.ref CT)
  gE : mg "RepairError" = some (.ref CE)
  repr : mg "repr" = none
  eL : PySem.W.exmOne K (.ref CL) (.ref CE) = some true
  eO : PySem.W.exmOne K (.ref CO) (.ref CE) = some true
  eY : PySem.W.exmOne K (.ref CY) (.ref CE) = some true
  eD : PySem.W.exmOne K (.ref CD) (.ref CE) = some true
  eT : PySem.W.exmOne K (.ref CT) (.ref CE) = some true
  kLL : PySem.W.kitOne K (.ref CL) (.ref CL) = some true
  kOL : PySem.W.kitOne K (.ref CO) (.ref CL) = some false
  kOO : PySem.W.kitOne K (.ref CO) (.ref CO) = some true
  kYL : PySem.W.kitOne K (.ref CY) (.ref CL) = some false
  kYO : PySem.W.kitOne K (.ref CY) (.ref CO) = some false
  kYY : PySem.W.kitOne K (.ref CY) (.ref CY) = some true
  kDL : PySem.W.kitOne K (.ref CD) (.ref CL) = some false
  kDO : PySem.W.kitOne K (.ref CD) (.ref CO) = some false
  kDY : PySem.W.kitOne K (.ref CD) (.ref CY) = some false
  kDD : PySem.W.kitOne K (.ref CD) (.ref CD) = some true
  kTL : PySem.W.kitOne K (.ref CT) (.ref CL) = some false
  kTO : PySem.W.kitOne K (.ref CT) (.ref CO) = some false
  kTY : PySem.W.kitOne K (.ref CT) (.ref CY) = some false
  kTD : PySem.W.kitOne K (.ref CT) (.ref CD) = some false
  kTT : PySem.W.kitOne K (.ref CT) (.ref CT) = some true
  xL : ExcC K CL
  xO : ExcC K CO
  xY : ExcC K CY
  xD : ExcC K CD
  xT : ExcC K CT
  nL_ : PySem.W.findIn K (.ref CL) "at" = some none
  nO : PySem.W.findIn K (.ref CO) "value" = some none
  nY : PySem.W.findIn K (.ref CY) "at" = some none
  nD : PySem.W.findIn K (.ref CD) "at" = some none
  n1 : PySem.W.findIn K (.ref CT) "what" = some none
  n2 : PySem.W.findIn K (.ref CT) "most" = some none
/-- heard: what is returned of an error -/
def HearE (CL CO CY CD CT : Addr) (Q : VK) : XK := fun cls d H => ∃ dd, d = some dd ∧
  ((cls = .ref CL ∧ ∃ v, (v = .non ∨ ∃ i, v = .int i) ∧ H dd = some (.xd [("at", v)]) ∧ ∀ t H2, Same H H2 → H2 t = some (.tup [.str "list", v]) → Q (.ref t) H2) ∨
   (cls = .ref CO ∧ ∃ y p, PyV H y p ∧ Tells p ∧ H dd = some (.xd [("value", y)]) ∧ ∀ t H2, Same H H2 → H2 t = some (.tup [.str "word", .str p.shown]) → Q (.ref t) H2) ∨
   (cls = .ref CY ∧ ∃ v, (v = .non ∨ ∃ i, v = .int i) ∧ H dd = some (.xd [("at", v)]) ∧ ∀ t H2, Same H H2 → H2 t = some (.tup [.str "row", v]) → Q (.ref t) H2) ∨
   (cls = .ref CD ∧ ∃ i : Int, H dd = some (.xd [("at", .int i)]) ∧ ∀ t H2, Same H H2 → H2 t = some (.tup [.str "barred", .int i]) → Q (.ref t) H2) ∨
   (cls = .ref CT ∧ ∃ y, ∃ i : Int, H dd = some (.xd [("most", .int i), ("what", .str y)]) ∧ ∀ t H2, Same H H2 → H2 t = some (.tup [.str y, .int i]) → Q (.ref t) H2))
/-- .. of a value -/
def HearV (Q : VK) : VK := fun v H => ∀ l H2, Same H H2 → H l = none → H2 l = some (.lst [v]) → Q (.ref l) H2
def TTheard (CL CO CY CD CT : Addr) : (XK → Hp → VK → Prop) → Hp → VK → Prop := fun tl H Q => ∀ (R : VK) (H1 : Hp), (∀ v H', HearV Q v H' → R v H') → Same H H1 → tl (HearE CL CO CY CD CT Q) H1 R
theorem four_of {l : L2.St} (h : l.length = 4) : ∃ a b c d, l = [a, b, c, d] := by
  match l, h with
  | [a, b, c, d], _ => exact ⟨a, b, c, d, rfl⟩
theorem heard_givesG {X : Cx} {CM CJ CL CO CY CD CT CE g : Addr} {cdg : Value} (T : Th X.K X.mg CM CJ CL CO CY CD CT CE) (quiet : Quiet X.A) (hr3 : ∀ (s : Shared), Room 1 (X.A.deeper (envOfC "_law_heard" (defScope s_heard) s.heap.objs.size g cdg))) : GivesK X n_heard "_law_heard" (defScope s_heard) g cdg (defBody s_heard) "_law_ask" (TTheard CL CO CY CD CT) := by
  intro f Kn s H Q tl stay act hc h
  have hr := hr3 s
  refine ⟨_, (pss_cons (ps_asg (pe_tup (pa_cons pe_non (pa_cons pe_non pa_nil))) (pg_tup (by rfl) (pgs_cons (pg_name (i := 1) sc_heard.nd rfl (.inl rfl)) (pgs_cons (pg_name (i := 2) sc_heard.nd rfl (.inl rfl)) pgs_nil))))
      (pss_cons (ps_try_keep (X := (cxOf C8.CX0 X.prog X.w X.K X.mg X.base n_heard "_law_heard" (defScope s_heard) g cdg X.A X.stack s H C8.E0).nox) (c := .ref CE) (i := 3) (tb := fun W D σ H => ∃ Ech : XK, (∀ cls d σ' H', Ech cls d H' → W cls d σ' H') ∧ σ[0]? = some (some (.ref f)) ∧ Kn H ∧ tl Ech H (fun v H' => D.nx (σ.set 2 (some v)) H')) rfl rfl sc_heard.nd rfl rfl ⟨by rfl, by decide, .inl T.gE⟩ (fun W pn xe tk _ => ?_) (fun a pn => pss_one (ps_set (i := 1) sc_heard.nd rfl (.inl rfl) (pv 3))))
      (pss_cons (ps_if (pt_cmpR op_isN (pv 1) pe_non (nomark _))
        (pss_one (ps_ret (pe_lst (pa_cons (pv 2) pa_nil))))
        pss_nil)
      (pss_cons (ps_if (pt_val (pe_callB call_isK (by rfl) T.isinstance (by decide +kernel) (pa_cons (pv 1) (pa_cons (pe_gv T.gBadList (by rfl)) pa_nil))))
        (pss_one (ps_ret (pe_tup (pa_cons pe_str (pa_cons (pe_keptF (pv 1)) pa_nil)))))
        pss_nil)
      (pss_cons (ps_if (pt_val (pe_callB call_isK (by rfl) T.isinstance (by decide +kernel) (pa_cons (pv 1) (pa_cons (pe_gv T.gBadWord (by rfl)) pa_nil))))
        (pss_one (ps_ret (pe_tup (pa_cons pe_str (pa_cons (pe_callB (call_reprG quiet hr) (by rfl) T.repr (by decide +kernel) (pa_cons (pe_keptF (pv 1)) pa_nil)) pa_nil)))))
        pss_nil)
      (pss_cons (ps_if (pt_val (pe_callB call_isK (by rfl) T.isinstance (by decide +kernel) (pa_cons (pv 1) (pa_cons (pe_gv T.gBadRow (by rfl)) pa_nil))))
        (pss_one (ps_ret (pe_tup (pa_cons pe_str (pa_cons (pe_keptF (pv 1)) pa_nil)))))
        pss_nil)
      (pss_cons (ps_if (pt_val (pe_callB call_isK (by rfl) T.isinstance (by decide +kernel) (pa_cons (pv 1) (pa_cons (pe_gv T.gBarred (by rfl)) pa_nil))))
        (pss_one (ps_ret (pe_tup (pa_cons pe_str (pa_cons (pe_keptF (pv 1)) pa_nil)))))
        pss_nil)
      (pss_one (ps_ret (pe_ifExp (pt_val (pe_callB call_isK (by rfl) T.isinstance (by decide +kernel) (pa_cons (pv 1) (pa_cons (pe_gv T.gTooMany (by rfl)) pa_nil)))) (pe_tup (pa_cons (pe_keptF (pv 1)) (pa_cons (pe_keptF (pv 1)) pa_nil))) (pe_tup (pa_cons pe_str (pa_cons pe_non pa_nil))))))))))))), ?_⟩
  · refine ⟨fun pins s' σ H' D I h' => ?_⟩
    obtain ⟨Ech, hW, h1, h2, h3⟩ := h'
    exact PSs.run (pss_one (ps_set (i := 2) sc_heard.nd rfl (.inl rfl) (act W pn xe Ech _ _ tk hW))) pins s' σ H' D I ⟨h1, h2, h3⟩
  · refine ⟨by show 2 ≤ sizeLine; decide, fun t0 n0 => ⟨t0, _, rfl, .inl (.inl upd_same), rfl, _, _, rfl, _, _, rfl, rfl, ?_⟩⟩
    have s0 : Same H (upd H t0 (.tup [.non, .non])) := same_put (s := Same.refl H) n0
    have hc1 := stay _ _ hc s0
    refine ⟨HearE CL CO CY CD CT Q, ?_, rfl, hc1, h _ _ (fun v H' hv => ?_) s0⟩
    · rintro cls d σ' H' ⟨dd, rfl, hh⟩
      have kept : ∀ {C : Addr} {fs : List (Str × V)} {a : Addr}, H' a = none → H' dd = some (.xd fs) → ExcC X.K C → KeptX X.K (upd H' a (CaughtO (.ref C) (some dd) a)) a C fs := fun na hx cl =>
        ⟨⟨dd, upd_same, by rw [upd_ne (ne_of_none hx na)]; exact hx⟩, cl⟩
      rcases hh with ⟨rfl, v, hv, hx, hq⟩ | ⟨rfl, y, p, py, tp, hx, hq⟩ | ⟨rfl, v, hv, hx, hq⟩ | ⟨rfl, i, hx, hq⟩ | ⟨rfl, y, i, hx, hq⟩
      · refine ⟨T.eL, fun len a na => ?_⟩
        obtain ⟨s0, s1, s2, s3, rfl⟩ := four_of len
        have k := kept na hx T.xL
        refine ⟨_, rfl, _, rfl, rfl, false, rfl, iteF ?_⟩
        refine ⟨_, rfl, a, CL, _, .ref CL, .ref CL, true, rfl, k, fun u r => r, T.kLL, true, rfl, iteT ?_⟩
        exact ⟨_, rfl, a, CL, _, v, rfl, k, T.nL_, by simp [List.lookup], by show 2 ≤ sizeLine; decide, fun t nt => hq t _ (same_put (s := same_put (s := Same.refl H') na) nt) upd_same⟩
      · refine ⟨T.eO, fun len a na => ?_⟩
        obtain ⟨s0, s1, s2, s3, rfl⟩ := four_of len
        have k := kept na hx T.xO
        refine ⟨_, rfl, _, rfl, rfl, false, rfl, iteF ?_⟩
        refine ⟨_, rfl, a, CO, _, .ref CL, .ref CL, false, rfl, k, fun u r => r, T.kOL, false, rfl, iteF ?_⟩
        refine ⟨_, rfl, a, CO, _, .ref CO, .ref CO, true, rfl, k, fun u r => r, T.kOO, true, rfl, iteT ?_⟩
        exact ⟨_, rfl, a, CO, _, y, rfl, k, T.nO, by simp [List.lookup], y, p, rfl, py.same (same_put (s := Same.refl H') na), tp, by show 2 ≤ sizeLine; decide, fun t nt => hq t _ (same_put (s := same_put (s := Same.refl H') na) nt) upd_same⟩
      · refine ⟨T.eY, fun len a na => ?_⟩
        obtain ⟨s0, s1, s2, s3, rfl⟩ := four_of len
        have k := kept na hx T.xY
        refine ⟨_, rfl, _, rfl, rfl, false, rfl, iteF ?_⟩
        refine ⟨_, rfl, a, CY, _, .ref CL, .ref CL, false, rfl, k, fun u r => r, T.kYL, false, rfl, iteF ?_⟩
        refine ⟨_, rfl, a, CY, _, .ref CO, .ref CO, false, rfl, k, fun u r => r, T.kYO, false, rfl, iteF ?_⟩
        refine ⟨_, rfl, a, CY, _, .ref CY, .ref CY, true, rfl, k, fun u r => r, T.kYY, true, rfl, iteT ?_⟩
        exact ⟨_, rfl, a, CY, _, v, rfl, k, T.nY, by simp [List.lookup], by show 2 ≤ sizeLine; decide, fun t nt => hq t _ (same_put (s := same_put (s := Same.refl H') na) nt) upd_same⟩
      · refine ⟨T.eD, fun len a na => ?_⟩
        obtain ⟨s0, s1, s2, s3, rfl⟩ := four_of len
        have k := kept na hx T.xD
        refine ⟨_, rfl, _, rfl, rfl, false, rfl, iteF ?_⟩
        refine ⟨_, rfl, a, CD, _, .ref CL, .ref CL, false, rfl, k, fun u r => r, T.kDL, false, rfl, iteF ?_⟩
        refine ⟨_, rfl, a, CD, _, .ref CO, .ref CO, false, rfl, k, fun u r => r, T.kDO, false, rfl, iteF ?_⟩
        refine ⟨_, rfl, a, CD, _, .ref CY, .ref CY, false, rfl, k, fun u r => r, T.kDY, false, rfl, iteF ?_⟩
        refine ⟨_, rfl, a, CD, _, .ref CD, .ref CD, true, rfl, k, fun u r => r, T.kDD, true, rfl, iteT ?_⟩
        exact ⟨_, rfl, a, CD, _, .int i, rfl, k, T.nD, by simp [List.lookup], by show 2 ≤ sizeLine; decide, fun t nt => hq t _ (same_put (s := same_put (s := Same.refl H') na) nt) upd_same⟩
      · refine ⟨T.eT, fun len a na => ?_⟩
        obtain ⟨s0, s1, s2, s3, rfl⟩ := four_of len
        have k := kept na hx T.xT
        refine ⟨_, rfl, _, rfl, rfl, false, rfl, iteF ?_⟩
        refine ⟨_, rfl, a, CT, _, .ref CL, .ref CL, false, rfl, k, fun u r => r, T.kTL, false, rfl, iteF ?_⟩
        refine ⟨_, rfl, a, CT, _, .ref CO, .ref CO, false, rfl, k, fun u r => r, T.kTO, false, rfl, iteF ?_⟩
        refine ⟨_, rfl, a, CT, _, .ref CY, .ref CY, false, rfl, k, fun u r => r, T.kTY, false, rfl, iteF ?_⟩
        refine ⟨_, rfl, a, CT, _, .ref CD, .ref CD, false, rfl, k, fun u r => r, T.kTD, false, rfl, iteF ?_⟩
        refine ⟨_, rfl, a, CT, _, .ref CT, .ref CT, true, rfl, k, fun u r => r, T.kTT, true, rfl, iteT ?_⟩
        exact ⟨_, rfl, a, CT, _, .str y, rfl, k, T.n1, by simp only [List.lookup, show (("what" : Str) == "most") = false from by decide +kernel, show (("what" : Str) == "what") = true from by decide +kernel], _, rfl, a, CT, _, .int i, rfl, k, T.n2, by simp [List.lookup], by show 2 ≤ sizeLine; decide, fun t nt => hq t _ (same_put (s := same_put (s := Same.refl H') na) nt) upd_same⟩
    · refine ⟨_, rfl, rfl, true, rfl, iteT ?_⟩
      exact ⟨_, rfl, by show 1 ≤ sizeLine; decide, fun l nl => hv l _ (same_put (s := Same.refl H') nl) nl upd_same⟩
/-- a def whose code object is known -/
structure FunC (K : PySem.W.Frag) (x qual : Str) (st : Stmt) (f c : Addr) (fd : FuncData) : Prop where
  ex : ∃ (oc : Value) (od : Option Addr) (kV doc pm : Value) (an : Option Addr) (ct : Value) (osl : Array (Option Value)), fd = PySem.W.fnOf x qual (defArgs st) (defBody st) (defScope st) .none kV doc pm an (.ref c) ct ∧ K.lookup f = some ⟨oc, od, .func fd, osl⟩ ∧ PySem.W.codeIn K (.ref c) qual = true
section
variable {P : Program} {w : World} {K : PySem.W.Frag} {mg : Str → Option Value} {base : Heap}
theorem FunC.ok {x qual : Str} {st : Stmt} {f c : Addr} {fd : FuncData} {N ps : List Str} {k : Nat} {sp : Sp} (F : FunC K x qual st f c fd) (S : FnScope N ps (defScope st)) (len : ∀ vs H Q E, sp vs H Q E → vs.length = ps.length)
    (body : ∀ (A : Around) (outer : List Env) (s : Shared) (H : Hp) (vs : List V) (Q : VK) (E : XK), Room k (A.deeper (envOfC qual (defScope st) s.heap.objs.size f (.ref c))) → sp vs H Q E →
      ∃ t, PSs (cxOf CX0 P w K mg base N qual (defScope st) f (.ref c) A outer s H E).nox (defBody st) t ∧ t { nx := fun _ H' => Q .non H', rt := Q } (L2.start N vs) H) : FnOk P w K mg base CX0 (k + 1) f fd ps sp := by
  obtain ⟨oc, od, kV, doc, pm, an, ct, osl, e, look, ci⟩ := F.ex
  subst e
  exact fn_of look ci S len fun A outer s H vs Q E room h => (body A outer s H vs Q E room h).imp fun t z => ⟨z.1.nox, z.2⟩
end
/-- what hears, by its name -/
structure HearD (K : PySem.W.Frag) (mg : Str → Option Value) (g : Addr) : Prop where
  hm : mg "_law_heard" = some (.ref g)
  kp : PySem.W.keepIn K (.ref g) = true
  lk : ∃ (oc : Value) (od : Option Addr) (kV doc pm : Value) (an : Option Addr) (cdv ct : Value) (osl : Array (Option Value)), K.lookup g = some ⟨oc, od, .func (PySem.W.fnOf "_law_heard" "_law_heard" (defArgs s_heard) (defBody s_heard) (defScope s_heard) .none kV doc pm an cdv ct), osl⟩ ∧ PySem.W.codeIn K cdv "_law_heard" = true
/-- the tables of code objects of those that make lambdas -/
structure TabT (base : Heap) (mg : Str → Option Value) (T : List (Addr × Str)) (q : Str) (c P : Addr) : Prop where
  tb : TabB base mg c P
  mem : (P, q ++ "<lambda>") ∈ T
  one : ∀ p ∈ T, p.1 = P → p.2 = q ++ "<lambda>"
section
variable {X : Cx} {CM CJ CL CO CY CD CT CE g c P : Addr} {T : List (Addr × Str)} {j k : Nat} {params : Arguments} {body : Expr} {scope : Scope} {t : XK → TE} {p lpos pos : Pos} {qn : Str}
/-- what is heard of a lambda written where it is handed on -/
theorem pe_heardG (th : Th X.K X.mg CM CJ CL CO CY CD CT CE) (D : HearD X.K X.mg g) (TB : TabT X.base X.mg T qn c P) (quiet : Quiet X.A) (hr : Room j X.A) (hj : k + 3 ≤ j) (hcode : X.env.code = .ref c) (hq : X.env.qual = qn) (hg : Gl X "_law_heard") (L : LamS X.env.scope scope) (hdef : defaultsOf params X.env = ([], []))
    (hbind : ∀ (q : Str) (cl : List (Str × Addr)) (pm cv ctv : Value), bindArgs (PySem.W.kla_fn "<lambda>" q params body scope cl pm cv ctv) ⟨[], []⟩ = pure [])
    (hbody : ∀ (A : Around) (outer : List Env) (s : Shared) (H : Hp) (E : XK) (f c' : Addr), Quiet A → Room k (A.deeper (lamEnv X scope s.heap.objs.size f c')) → PE (lamCx X A outer s H E scope f c') body (t E)) :
    PE X (.Call (.Name "_law_heard" p) [.Lambda params body scope lpos] [] pos) (tLamG T (TTheard CL CO CY CD CT) t) := by
  obtain ⟨oc, od, kV, doc, pm, an, cdv, ct, osl, look, ci⟩ := D.lk
  refine pe_lamcallG (k := k) (Ng := n_heard) (a := "_law_ask") quiet hg D.hm D.kp look ci ?_ sc_heard rfl (.inl rfl) (heard_givesG th quiet fun s => ?_) TB.tb hcode (by rw [hq]; exact TB.mem) (by rw [hq]; exact TB.one) (hr.mono (by omega)) hdef ⟨L, hbind, hbody⟩
  · exact .all fun us hl => match us, hl with | [_], _ => rfl
  · exact (hr.mono (show 2 ≤ j by omega)).deeper _
end
end V8

set_option Elab.async false
set_option linter.all false
set_option maxRecDepth 100000
set_option maxHeartbeats 8000000
/-! The law's own images, and what is due of a row. -/
namespace V8
open PySem PySem.Spec PyProof.Rows L2
abbrev s__law_image : Stmt := topS 51
abbrev n__law_image : List Str := ["_law_table_here", "_law_word_here", "_law_letter"]
theorem sc__law_image : FnScope ["_law_table_here", "_law_word_here", "_law_letter"] ["_law_table_here", "_law_word_here"] (defScope s__law_image) := ⟨rfl, rfl, rfl, by decide +kernel, rfl, by decide +kernel, by decide +kernel⟩
abbrev s__law_due : Stmt := topS 54
abbrev n__law_due : List Str := ["_law_tables", "_law_word_here", "_law_path", "_law_now", "_law_spot"]
theorem sc__law_due : FnScope ["_law_tables", "_law_word_here", "_law_path", "_law_now", "_law_spot"] ["_law_tables", "_law_word_here", "_law_path"] (defScope s__law_due) := ⟨rfl, rfl, rfl, by decide +kernel, rfl, by decide +kernel, by decide +kernel⟩
theorem shaped_flat {d : PyData} (h1 : d.canLay0 = true) (h2 : d.depth = 0) : SeqAt.shaped d = true := by
  show (d.canLay0 && decide (d.depth ≤ 64)) = true
  rw [h1, h2]
  rfl
theorem eqv_nil (l : List Nat) : PyData.eqv (.list (l.map fun c => .str (L1 c))) (.list []) = decide (l = []) := by
  cases l <;> rfl
/-- an image, or none -/
def optV : Option (List Nat) → V
  | none => .non
  | some s => .str (Sx s)
/-- a table of letters with images of at most n letters -/
structure TbN (n : Nat) (t : Tab) : Prop where
  nd : (t.map (·.1)).Nodup
  lt : ∀ q ∈ t, isLt q.1
  il : ∀ q ∈ t, ∀ d ∈ q.2, isLt d
  ln : ∀ q ∈ t, q.2.length ≤ n
  ct : t.length ≤ 12
theorem TbN.look {n : Nat} {t : Tab} (g : TbN n t) : lookT t = lk t := by
  funext c
  show _ = if c ∈ abc then lookT t c else none
  by_cases h : c ∈ abc
  · rw [if_pos h]
  · rw [if_neg h]
    cases e : lookT t c with
    | none => rfl
    | some s => exact absurd (abc_mem.mpr (g.lt _ (look_in e))) h
theorem TbN.bnd {n : Nat} {t : Tab} (g : TbN n t) : Bnd n (lk t) := fun c s e => by
  rw [← g.look] at e
  exact g.ln _ (look_in e)
theorem TbN.le {n m : Nat} {t : Tab} (g : TbN n t) (h : n ≤ m) : TbN m t := ⟨g.nd, g.lt, g.il, fun q hq => Nat.le_trans (g.ln q hq) h, g.ct⟩
theorem TbN.cut {n m : Nat} {t : Tab} (g : TbN n t) (h : Bnd m (lk t)) : TbN m t := ⟨g.nd, g.lt, g.il, fun q hq => by
  obtain ⟨i, hi, rfl⟩ := List.getElem_of_mem hq
  exact h _ _ (by rw [← g.look]; exact look_at g.nd hi), g.ct⟩
theorem TbN.small {t : Tab} (g : TbN 64 t) : SmallT t := fun c s e => g.ln _ (look_in e)
theorem TbN.bndIff {n m : Nat} {t : Tab} (g : TbN n t) : Bnd m (lk t) ↔ ∀ q ∈ t, q.2.length ≤ m := ⟨fun h => (g.cut h).ln, fun h => (⟨g.nd, g.lt, g.il, h, g.ct⟩ : TbN m t).bnd⟩
theorem acc_ok2 {H : Hp} {D : Addr} {zs : List V} {i : Nat} {y : V} (hz : zs[i]? = some y) (sm : zs.length ≤ 3000) :
    ∃ acc, upd H D (.lst (zs.take i)) D = some (.lst acc) ∧ acc.length < sizeLine ∧ upd (upd H D (.lst (zs.take i))) D (.lst (acc ++ [y])) = upd H D (.lst (zs.take (i + 1))) := by
  refine ⟨_, upd_same, ?_, ?_⟩
  · rw [List.length_take, sizeLine_eq]
    omega
  · rw [upd_upd, List.take_add_one, hz]
    rfl
def spLimg : Sp := fun vs H Q _ => ∃ (d : Addr) (t : Tab) (cs : List Nat), vs = [.ref d, .str (Sx cs)] ∧ Rd H d (.dK (encT t)) ∧ (∀ c ∈ cs, isLt c) ∧ cs.length ≤ 2000 ∧ (∀ q ∈ t, q.2.length ≤ 4) ∧ ∀ H', Same H H' → Q (optV (imF (lookT t) cs)) H'
theorem rd_put {H : Hp} {D d : Addr} {o x : HO} (h : Rd H d o) (n : H D = none) : Rd (upd H D x) d o := by
  rcases h with h | ⟨od, h⟩
  · exact .inl (by rw [upd_ne (ne_of_none h n)]; exact h)
  · exact .inr ⟨od, by rw [upd_ne (ne_of_none h n)]; exact h⟩
section
variable {P : Program} {w : World} {K : PySem.W.Frag} {mg : Str → Option Value} {base : Heap} {CM CJ : Addr}
theorem ok_limage {f : Addr} {fd : FuncData} (F : Fun K "_law_image" "_law_image" s__law_image f fd) (T : Tz K mg CM CJ) : FnOk P w K mg base CX0 1 f fd ["_law_table_here", "_law_word_here"] spLimg := by
  refine F.ok sc__law_image (fun vs H Q E h => ?_) (fun cdv A outer s H vs Q E hr h => ?_)
  · obtain ⟨d, t, cs, rfl, _⟩ := h
    rfl
  · obtain ⟨d, t, cs, rfl, hd, hl, h64, sm, q⟩ := h
    refine ⟨_, (pss_cons (ps_if (pt_cmpR (op_neDK (K := K) rfl hr.units) (pe_lc (own := [("_law_letter", 2)]) (g := gName 2) (by rfl) sc__law_image.nd (pi_str (pv 1)) (blkOk_by (own := [("_law_letter", 2)]) (N := n__law_image) (sc := defScope s__law_image) (by decide +kernel)) (fun _ _ _ _ _ => (pg_name (i := 2) sc__law_image.nd rfl (.inl rfl))) (fun _ _ _ _ _ => (pts_one (pt_cmp (pc_dnotin (hu_of hr) (pv 2) (pv 0))))) (fun _ _ _ _ _ => (pv 2))) (pe_lst pa_nil) (nomark _))
        (pss_one (ps_ret pe_non))
        pss_nil)
      (pss_one (ps_ret (pe_joinK (K := K) rfl pe_str (pe_lc (own := [("_law_letter", 2)]) (g := gName 2) (by rfl) sc__law_image.nd (pi_str (pv 1)) (blkOk_by (own := [("_law_letter", 2)]) (N := n__law_image) (sc := defScope s__law_image) (by decide +kernel)) (fun _ _ _ _ _ => (pg_name (i := 2) sc__law_image.nd rfl (.inl rfl))) (fun _ _ _ _ _ => pts_nil) (fun _ _ _ _ _ => (pe_dget (hu_of hr) (pv 0) (pv 2) (fun _ _ => rfl)))))))), ?_⟩
    obtain ⟨bad, eb⟩ : ∃ bad : List Nat, bad = cs.filter fun c => !(lookT t c).isSome := ⟨_, rfl⟩
    refine ⟨_, rfl, Sx cs, rfl, fun D nD => lc_it walk_str (fun i H2 => H2 = upd H D (.lst (((cs.take i).filter fun c => !(lookT t c).isSome).map fun c => V.str (L1 c)))) rfl (fun _ _ _ _ => trivial) ?_ ?_⟩
    · rintro i x H2 H2' hi rfl ⟨rfl, y, hy, rfl⟩
      have hy1 := sx_at hy
      have r1 := rd_put (x := .lst (((cs.take i).filter fun c => !(lookT t c).isSome).map fun c => V.str (L1 c))) hd nD
      refine ⟨rfl, _, rfl, _, rfl, d, _, rfl, .inl ⟨_, Sum.inr (L1 y), r1, rfl, rfl⟩, _, rfl, ?_⟩
      rw [valV_enc, Option.isSome_map]
      have et : (cs.take (i + 1)).filter (fun c => !(lookT t c).isSome) = (cs.take i).filter (fun c => !(lookT t c).isSome) ++ (if (lookT t y).isSome = true then [] else [y]) := by
        rw [List.take_add_one, hy1, List.filter_append]
        congr 1
        show List.filter _ [y] = _
        by_cases e : (lookT t y).isSome = true
        · rw [if_pos e, List.filter_cons, if_neg (by simp [e])]
          rfl
        · rw [if_neg e, List.filter_cons, if_pos (by simp [e])]
          rfl
      by_cases e : (lookT t y).isSome = true
      · rw [e]
        refine iteF ?_
        show _ = _
        rw [et, if_pos e, List.append_nil]
      · rw [Bool.eq_false_iff.mpr e]
        refine iteT ⟨_, rfl, _, upd_same, ?_, ?_⟩
        · rw [List.length_map]
          have t4 : ((cs.take i).filter fun c => !(lookT t c).isSome).length ≤ 2000 := Nat.le_trans (List.length_filter_le _ _) (by rw [List.length_take]; omega)
          rw [sizeLine_eq]
          omega
        · show _ = _
          rw [upd_upd, et, if_neg e, List.map_append]
          rfl
    · rintro H2 rfl
      rw [sx_size, List.take_length, ← eb]
      refine ⟨Nat.zero_le _, fun e ne => ?_⟩
      have nDe : D ≠ e := ne_of_none upd_same ne
      refine ⟨.list (bad.map fun c => .str (L1 c)), .list [], .lst (SqL.of (xs := bad.map fun c => V.str (L1 c)) (by rw [upd_ne nDe, upd_same])) (dp_map (fun c => V.str (L1 c)) (fun c => PyData.str (L1 c)) (fun c => .str _) bad), .lst (SqL.of upd_same) .nil, shaped_map (fun c => PyData.str (L1 c)) bad (fun x hx => ?_) (fun _ => by simp [PyData.depth]), by decide +kernel, _, rfl, ?_⟩
      · simp only [PyData.canLay0]
        rw [eb] at hx
        rw [L1_Sx]
        exact ok_sx fun d hd => by rw [List.mem_singleton.mp hd]; exact hl _ (List.mem_filter.mp hx).1
      · rw [eqv_nil]
        have s1 := same_put (s := same_put (s := Same.refl H) (o := .lst (bad.map fun c => V.str (L1 c))) nD) (o := .lst []) ne
        by_cases hb : bad = []
        · rw [decide_eq_true hb]
          refine iteF ?_
          have hd1 := rd_put (x := .lst []) (rd_put (x := .lst (bad.map fun c => V.str (L1 c))) hd nD) ne
          generalize upd (upd H D (.lst (bad.map fun c => V.str (L1 c)))) e (.lst []) = H1 at s1 hd1 ⊢
          have hin : ∀ c ∈ cs, (lookT t c).isSome = true := fun c hc => by
            apply Classical.byContradiction
            intro n
            have m : c ∈ bad := by
              rw [eb]
              exact List.mem_filter.mpr ⟨hc, by simp [n]⟩
            rw [hb] at m
            cases m
          obtain ⟨ss, ess⟩ : ∃ ss, ss = cs.map fun c => (lookT t c).getD [] := ⟨_, rfl⟩
          have er : imF (lookT t) cs = some ss.flatten := by
            rw [ess]
            clear ess eb s1 nD ne nDe q hl h64
            induction cs with
            | nil => rfl
            | cons c r ih =>
              obtain ⟨s, e⟩ := Option.isSome_iff_exists.mp (hin c List.mem_cons_self)
              show (lookT t c).bind (fun a => (imF (lookT t) r).map (a ++ ·)) = _
              rw [ih fun x hx => hin x (List.mem_cons_of_mem _ hx), List.map_cons, e]
              rfl
          have hz : ∀ (i : Nat) (hi : i < cs.length), ((ss.map Sx).map V.str)[i]? = some (V.str (Sx ((lookT t cs[i]).getD []))) := fun i hi => by
            rw [ess, List.getElem?_map, List.getElem?_map, List.getElem?_map, List.getElem?_eq_getElem hi]
            rfl
          have hlen : ((ss.map Sx).map V.str).length = cs.length := by
            rw [ess, List.length_map, List.length_map, List.length_map]
          refine ⟨⟨_, rfl⟩, _, rfl, Sx cs, rfl, fun D nD => lc_it walk_str (fun i H2 => H2 = upd H1 D (.lst (((ss.map Sx).map V.str).take i))) rfl (fun _ _ _ _ => trivial) ?_ ?_⟩
          · rintro i z H2 H2' hi rfl ⟨rfl, c, hc0, rfl⟩
            have hc1 := sx_at hc0
            obtain ⟨hi', ec⟩ := List.getElem?_eq_some_iff.mp hc1
            obtain ⟨s2, e2⟩ := Option.isSome_iff_exists.mp (hin c (ec ▸ List.getElem_mem hi'))
            have r1 := rd_put (x := .lst (((ss.map Sx).map V.str).take i)) hd1 nD
            have hz2 := hz i hi'
            rw [ec, e2] at hz2
            refine ⟨rfl, _, rfl, _, rfl, d, V.str (Sx s2), rfl, .inl ⟨_, Sum.inr (L1 c), r1, rfl, by rw [valV_enc, e2]; rfl⟩, ?_⟩
            exact acc_ok2 hz2 (by omega)
          · rintro H2 rfl
            rw [sx_size, List.take_of_length_le (by rw [hlen]; exact Nat.le_refl _)]
            refine ⟨Str.empty, D, ss.map Sx, rfl, rfl, .inl (SqL.of upd_same), ?_, ?_⟩
            · have h1 : ((ss.map Sx).map fun x => x.length).sum ≤ _ := sum_le (fun x => x.length) 4 _ fun y hy => by
                obtain ⟨s3, hs3, rfl⟩ := List.mem_map.mp hy
                rw [ess] at hs3
                obtain ⟨c, hc, rfl⟩ := List.mem_map.mp hs3
                obtain ⟨s2, e2⟩ := Option.isSome_iff_exists.mp (hin c hc)
                rw [Sx_len, e2]
                exact sm _ (look_in e2)
              have h3 : (ss.map Sx).length = cs.length := by
                rw [ess, List.length_map, List.length_map]
              rw [h3] at h1 ⊢
              show _ + _ * 0 ≤ _
              have h4 : 4 * cs.length ≤ 4 * 2000 := Nat.mul_le_mul_left _ h64
              omega
            · rw [join_Sx]
              have q1 := q _ (same_put (s := s1) (o := .lst ((ss.map Sx).map V.str)) nD)
              rw [er] at q1
              exact q1
        · rw [decide_eq_false hb]
          refine iteT ?_
          have q1 := q _ s1
          have en : imF (lookT t) cs = none := by
            obtain ⟨c, hc⟩ := List.exists_mem_of_ne_nil _ hb
            rw [eb] at hc
            have h2 := List.mem_filter.mp hc
            exact imF_none.mpr ⟨c, h2.1, by simpa using h2.2⟩
          rw [en] at q1
          exact q1
/-- what is due of a row along a text -/
def OutV (H : Hp) (b : Addr) : Out → Prop
  | .barred k => H b = some (.tup [.str "barred", .int (k : Nat)])
  | .many => H b = some (.tup [.str "signs", .int 2000])
  | .ok r => H b = some (.lst [.str (Sx r)])
/-- tables in a list -/
def TabL (H : Hp) (ts : List (Addr × Tab)) : Prop := ∀ p ∈ ts, H p.1 = some (.dK (encT p.2)) ∧ TbN 4 p.2
theorem TabL.same {H H1 : Hp} {ts : List (Addr × Tab)} (m : TabL H ts) (s : Same H H1) : TabL H1 ts := fun p hp => ⟨s _ _ (m p hp).1, (m p hp).2⟩
def spDue : Sp := fun vs H Q _ => ∃ (l b : Addr) (ts : List (Addr × Tab)) (w row : List Nat), vs = [.ref l, .str (Sx w), .ref b] ∧ H l = some (.lst (refs ts)) ∧ TabL H ts ∧ (∀ c ∈ w, isLt c) ∧ w.length ≤ 2000 ∧ H b = some (.tup (idxs row)) ∧ row.length ≤ 100 ∧ (∀ i ∈ row, i < ts.length) ∧
  ∀ x H', H x = none → Same H H' → OutV H' x (alF (ts.map (·.2)) row 0 w) → Q (.ref x) H'
theorem ok_due {f : Addr} {fd : FuncData} (F : Fun K "_law_due" "_law_due" s__law_due f fd) (T : Tz K mg CM CJ) (D_image : Df P w K mg base 1 "_law_image" spLimg) : FnOk P w K mg base CX0 2 f fd ["_law_tables", "_law_word_here", "_law_path"] spDue := by
  refine F.ok sc__law_due (fun vs H Q E h => ?_) (fun cdv A outer s H vs Q E hr h => ?_)
  · obtain ⟨l, b, ts, w0, row, rfl, _⟩ := h
    rfl
  · obtain ⟨l, b, ts, w0, row, rfl, hl, tl, lt, lw, hb, lr, hin, q⟩ := h
    refine ⟨_, (pss_cons (ps_set (i := 3) sc__law_due.nd rfl (.inl rfl) (pv 1))
      (pss_cons (ps_for PassesOwn.never rfl (pi_range1 (by rfl) T.range (pa_cons (pe_callB (call_len_seqK (K := K) rfl) (by rfl) T.len (by decide +kernel) (pa_cons (pv 2) pa_nil)) pa_nil)) (pg_name (i := 4) sc__law_due.nd rfl (.inl rfl))
        (pss_cons (ps_set (i := 3) sc__law_due.nd rfl (.inl rfl) (pe_c D_image hr (by decide) (by rfl) (pa_cons (pe_ix (ix_listK (K := K) rfl) (pv 0) (pe_ix (ix_tupK (K := K) rfl) (pv 2) (pv 4) (fun _ _ => rfl)) (fun _ _ => rfl)) (pa_cons (pv 3) pa_nil))))
        (pss_cons (ps_if (pt_cmpR op_isN (pv 3) pe_non (nomark _))
          (pss_one (ps_ret (pe_tup (pa_cons pe_str (pa_cons (pv 4) pa_nil)))))
          pss_nil)
        (pss_one (ps_if (pt_cmpR op_gt (pe_callB call_len_str (by rfl) T.len (by decide +kernel) (pa_cons (pv 3) pa_nil)) pe_int (nomark _))
          (pss_one (ps_ret (pe_tup (pa_cons pe_str (pa_cons pe_int pa_nil)))))
          pss_nil)))))
      (pss_one (ps_ret (pe_lst (pa_cons (pv 3) pa_nil)))))), ?_⟩
    refine ⟨_, rfl, ?_⟩
    refine atName ?_
    try dsimp only
    refine ⟨_, rfl, b, idxs row, rfl, .inr (.inl (.inl hb)), ?_⟩
    rw [idxs_len]
    refine ⟨(row.length : Int), rfl, by omega, by omega, for_it (walk_range (lo := 0) (n := row.length)) (fun i σ H2 => (∃ (cur : List Nat) (v4 : Option V), σ = [some (.ref l), some (.str (Sx w0)), some (.ref b), some (.str (Sx cur)), v4] ∧ (∀ c ∈ cur, isLt c) ∧ cur.length ≤ 2000 ∧ alF (ts.map (·.2)) row 0 w0 = alF (ts.map (·.2)) (row.drop i) i cur) ∧ Same H H2) ⟨⟨w0, none, rfl, lt, lw, rfl⟩, Same.refl H⟩ (fun _ _ _ _ _ => trivial) ?_ ?_⟩
    · rintro i z σ H20 H2 hi ⟨⟨cur, v4, rfl, ltc, lc, eq⟩, s2⟩ ⟨rfl, rfl⟩
      obtain ⟨k, hk⟩ : ∃ k, row[i]? = some k := ⟨row[i], List.getElem?_eq_getElem hi⟩
      have kl : k < ts.length := hin k (List.mem_of_getElem? hk)
      obtain ⟨p, hp⟩ : ∃ p, ts[k]? = some p := ⟨ts[k], List.getElem?_eq_getElem kl⟩
      have eq2 := eq.trans (alF_step (us := ts.map (·.2)) (w := cur) hk (us_at hp))
      obtain ⟨hd, gd⟩ := tl p (List.mem_of_getElem? hp)
      refine atName ?_
      try dsimp only
      rw [show V.int (0 + (i : Int)) = V.int ((i : Nat) : Int) by rw [Int.zero_add]]
      try dsimp only
      refine ⟨_, rfl, _, rfl, _, rfl, b, idxs row, _, V.int (k : Nat), rfl, rfl, .inl (.inl (s2 _ _ hb)), atI_nat (by rw [idxs, List.getElem?_map, hk]; rfl), l, refs ts, _, .ref p.1, rfl, rfl, SqL.of (s2 _ _ hl), atI_nat (by rw [refs, List.getElem?_map, hp]; rfl), _, rfl, p.1, p.2, cur, rfl, .inl (s2 _ _ hd), ltc, lc, gd.ln, fun H3 s3 => ?_⟩
      refine atName ?_
      try dsimp only
      have s13 : Same H H3 := fun b o e => s3 _ _ (s2 _ _ e)
      rw [gd.look]
      cases er : imF (lk p.2) cur with
      | none =>
        rw [er] at eq2
        dsimp only at eq2
        rw [eq2] at q
        refine ⟨_, rfl, rfl, true, rfl, iteT ⟨_, rfl, by show 2 ≤ sizeLine; decide, fun x nx => ?_⟩⟩
        exact q x _ (same_none s13 nx) (same_put (s := s13) nx) upd_same
      | some r =>
        rw [er] at eq2
        dsimp only at eq2
        have l4 := imF_len gd.bnd er
        refine ⟨_, rfl, rfl, false, rfl, iteF ?_⟩
        refine ⟨_, rfl, _, rfl, by rw [Sx_len, sizeLine_eq]; omega, _, _, rfl, rfl, decide (2000 < r.length), ?_, ?_⟩
        · show V.bl (decide ((2000 : Int) < ((Sx r).length : Int))) = _
          rw [Sx_len]
          congr 1
          by_cases h : 2000 < r.length
          · rw [decide_eq_true h, decide_eq_true (by omega)]
          · rw [decide_eq_false h, decide_eq_false (by omega)]
        by_cases h : r.length ≤ 2000
        · rw [if_pos h] at eq2
          rw [decide_eq_false (by omega)]
          refine iteF ⟨⟨r, _, rfl, imF_lets (fun c z e => ?_) er, h, eq2⟩, s13⟩
          rw [← gd.look] at e
          exact gd.il _ (look_in e)
        · rw [if_neg h] at eq2
          rw [eq2] at q
          rw [decide_eq_true (by omega)]
          refine iteT ⟨by show 2 ≤ sizeLine; decide, fun x nx => ?_⟩
          exact q x _ (same_none s13 nx) (same_put (s := s13) nx) upd_same
    · rintro σ H2 ⟨⟨cur, v4, rfl, ltc, lc, eq⟩, s2⟩
      rw [List.drop_length] at eq
      rw [eq] at q
      refine ⟨_, rfl, by show 1 ≤ sizeLine; decide, fun x nx => ?_⟩
      exact q x _ (same_none s2 nx) (same_put (s := s2) nx) upd_same
end
end V8

set_option Elab.async false
set_option linter.all false
set_option maxRecDepth 100000
set_option maxHeartbeats 8000000
/-! Drawn words; what is wrong of lists and rows. -/
namespace V8
open PySem PySem.Spec PyProof.Rows L2
abbrev s_word : Stmt := topS 52
abbrev n_word : List Str := ["_law_pen_here", "_law_some", "_law_many", "_law_k"]
theorem sc_word : FnScope ["_law_pen_here", "_law_some", "_law_many", "_law_k"] ["_law_pen_here", "_law_some", "_law_many"] (defScope s_word) := ⟨rfl, rfl, rfl, by decide +kernel, rfl, by decide +kernel, by decide +kernel⟩
def spWord : Sp := fun vs H Q _ => ∃ (p l a : Addr) (ns : List Int) (n m : Nat) (cs : List Nat), vs = [.ref p, .ref a, .int (m : Int)] ∧ m ≤ 7 ∧ PenAt H p l ns (n + 8) ∧ H a = some (.lst (lets cs)) ∧ a ≠ p ∧ cs ≠ [] ∧ cs.length ≤ 26 ∧ (∀ c ∈ cs, isLt c) ∧
  ∀ (ws : List Nat) (H' : Hp), (∀ c ∈ ws, c ∈ cs) → ws.length ≤ m → PenAt H' p l ns n → Fr p H H' → Q (.str (Sx ws)) H'
section
variable {P : Program} {w : World} {K : PySem.W.Frag} {mg : Str → Option Value} {base : Heap}
theorem ok_word {f : Addr} {fd : FuncData} (F : Fun K "_law_word" "_law_word" s_word f fd) (T : Blt mg) (D_draw : Df P w K mg base 1 "_law_draw" spDraw) (D_pick : Df P w K mg base 2 "_law_pick" (spPick K)) : FnOk P w K mg base CX0 3 f fd ["_law_pen_here", "_law_some", "_law_many"] spWord := by
  refine F.ok sc_word (fun vs H Q E h => ?_) (fun cdv A outer s H vs Q E hr h => ?_)
  · obtain ⟨p, l, a, ns, n, m, cs, rfl, _⟩ := h
    rfl
  · obtain ⟨p, l, a, ns, n, m, cs, rfl, hm, PA, ha, hap, hne, h26, hlt, q⟩ := h
    refine ⟨_, (pss_one (ps_ret (pe_joinK (K := K) rfl pe_str (pe_lc (own := [("_law_k", 3)]) (g := gName 3) (by rfl) sc_word.nd (pi_range1 (by rfl) T.range (pa_cons (pe_c D_draw hr (by decide) (by rfl) (pa_cons (pv 0) (pa_cons (pe_op op_add (pv 2) pe_int) pa_nil))) pa_nil)) (blkOk_by (own := [("_law_k", 3)]) (N := n_word) (sc := defScope s_word) (by decide +kernel)) (fun _ _ _ _ _ => (pg_name (i := 3) sc_word.nd rfl (.inl rfl))) (fun _ _ _ _ _ => pts_nil) (fun _ _ _ _ _ => (pe_c D_pick hr (by decide) (by rfl) (pa_cons (pv 0) (pa_cons (pv 1) pa_nil)))))))), ?_⟩
    have hcs : 0 < cs.length := List.length_pos_iff.mpr hne
    refine ⟨⟨_, rfl⟩, _, rfl, _, rfl, _, _, rfl, rfl, p, l, ns, n + 7, (m : Int) + 1, rfl, PA.less (by omega), by omega, by omega, fun v H1 v0 vm PA1 fr1 => ?_⟩
    obtain ⟨k, rfl⟩ := Int.eq_ofNat_of_zero_le v0
    have ha1 := fr1 _ _ ha hap
    refine ⟨k, rfl, by omega, by omega, fun D nD => lc_range (lo := 0) (n := k) (fun i H2 => ∃ got : List Nat, got.length = i ∧ (∀ d ∈ got, d ∈ cs) ∧ H2 D = some (.lst (lets got)) ∧ PenAt H2 p l ns (n + (7 - i)) ∧ Fr p H H2) ?_ ?_ ?_⟩
    · exact ⟨[], rfl, fun d h => (by cases h), upd_same, (PA1.new nD).less (by omega), fr1.trans (Fr.new nD)⟩
    · rintro i H2 hi ⟨got, hg, hin, hD, PA2, fr2⟩
      have hDp := PA1.nep nD
      have ha2 := fr2 _ _ ha hap
      refine ⟨rfl, ⟨_, rfl, _, rfl, p, l, a, ns, n + (7 - (i + 1)), lets cs, rfl, PA2.less (by omega), SqL.of ha2, by rw [lets_len]; omega, by rw [lets_len]; omega, fun H' fr => SqL.of (fr _ _ ha2 hap), fun v H3 hv PA3 fr3 => ?_⟩⟩
      obtain ⟨c, hc, rfl⟩ := lets_mem hv
      have hD3 := fr3 _ _ hD hDp
      refine ⟨lets got, hD3, by rw [lets_len]; exact small1000 (by omega), got ++ [c], by simp [hg], ?_, by rw [upd_same, lets_snoc], PA3.other hDp (PA1.nel nD), (fr2.trans fr3).put (fr1.back nD hDp)⟩
      intro d hd
      rcases List.mem_append.mp hd with h | h
      · exact hin d h
      · rw [List.mem_singleton.mp h]
        exact hc
    · rintro H2 ⟨got, hg, hin, hD, PA2, fr2⟩
      refine ⟨Str.empty, D, got.map L1, rfl, rfl, .inl (by rw [List.map_map]; exact SqL.of hD), ?_, ?_⟩
      · have e : (got.map L1).map (·.length) = got.map fun _ => 1 := by
          rw [List.map_map]
          rfl
        rw [e, List.length_map]
        rw [sum_ones]
        show got.length + got.length * 0 ≤ _
        omega
      · rw [join_L1]
        exact q got H2 hin (by omega) (PA2.less (by omega)) fr2
end
/-! lists and rows that are wrong, and where -/
def MsBad (CM : Addr) (H : Hp) (mv : V) (d : PyData) : Prop := (Flat mv ∧ d = .none) ∨
  ∃ a xs, mv = .ref a ∧ (H a = some (.lst xs) ∨ H a = some (.tup xs)) ∧ xs.length ≤ 100 ∧ (((xs.length = 0 ∨ 4 < xs.length) ∧ d = .none) ∨
    (1 ≤ xs.length ∧ xs.length ≤ 4 ∧ (∀ y ∈ xs, Item CM H y) ∧ ∃ (i : Nat) (y : V), xs[i]? = some y ∧ isM y = false ∧ (∀ z ∈ xs.take i, isM z = true) ∧ d = .int (i : Nat)))
theorem MsBad.ms {K : PySem.W.Frag} {CM CL : Addr} {H : Hp} {mv : V} {d : PyData} {E : XK} (b : MsBad CM H mv d) (o : OutG CL H "at" d E) : BadMs K CM CL H mv E := by
  rcases b with ⟨f, rfl⟩ | ⟨a, xs, e, h, l, ⟨g, rfl⟩ | ⟨g1, g4, its, i, y, hy, fy, ky, rfl⟩⟩
  · exact .inl ⟨f, o⟩
  · exact .inr ⟨a, xs, e, h, l, .inl ⟨g, o⟩⟩
  · exact .inr ⟨a, xs, e, h, l, .inr ⟨g1, g4, its, i, y, hy, fy, ky, o⟩⟩
theorem MsBad.same {CM : Addr} {H H1 : Hp} {mv : V} {d : PyData} (b : MsBad CM H mv d) (s : Same H H1) : MsBad CM H1 mv d := by
  rcases b with b | ⟨a, xs, e, h, l, g | ⟨g1, g4, its, g⟩⟩
  · exact .inl b
  · exact .inr ⟨a, xs, e, h.imp (s _ _) (s _ _), l, .inl g⟩
  · exact .inr ⟨a, xs, e, h.imp (s _ _) (s _ _), l, .inr ⟨g1, g4, fun y hy => (its y hy).same s, g⟩⟩
/-- a row's kinds: None, a text, a list, a tuple -/
def RwBad (H : Hp) (rv : V) (n : Nat) (d : PyData) : Prop := (((∃ z, rv = .str z) ∨ rv = .non ∨ ∃ a xs, rv = .ref a ∧ H a = some (.lst xs)) ∧ d = .none) ∨
  ∃ a xs, rv = .ref a ∧ H a = some (.tup xs) ∧ xs.length ≤ 100 ∧ (∀ y ∈ xs, Flat y) ∧ ∃ (i : Nat) (y : V), xs[i]? = some y ∧ inB y 0 ((n : Int) - 1) = false ∧ (∀ z ∈ xs.take i, inB z 0 ((n : Int) - 1) = true) ∧ d = .int (i : Nat)
theorem RwBad.row {K : PySem.W.Frag} {CY : Addr} {H : Hp} {rv : V} {n : Nat} {d : PyData} {E : XK} (b : RwBad H rv n d) (o : OutG CY H "at" d E) : RowBad K CY H rv n E := by
  rcases b with ⟨⟨z, rfl⟩ | rfl | ⟨a, xs, rfl, h⟩, rfl⟩ | ⟨a, xs, e, h, l, fl, i, y, hy, fy, ky, rfl⟩
  · exact .inl ⟨_, fun H' s => ty_str _, kit_ty (by decide +kernel), o⟩
  · exact .inl ⟨_, fun H' s => .base .non, kit_ty (by decide +kernel), o⟩
  · exact .inl ⟨_, fun H' s => .base (.lst (s _ _ h)), kit_ty (by decide +kernel), o⟩
  · exact .inr ⟨a, xs, e, h, l, fl, i, y, hy, fy, ky, o⟩
theorem RwBad.same {H H1 : Hp} {rv : V} {n : Nat} {d : PyData} (b : RwBad H rv n d) (s : Same H H1) : RwBad H1 rv n d := by
  rcases b with ⟨z | z | ⟨a, xs, e, h⟩, rfl⟩ | ⟨a, xs, e, h, g⟩
  · exact .inl ⟨.inl z, rfl⟩
  · exact .inl ⟨.inr (.inl z), rfl⟩
  · exact .inl ⟨.inr (.inr ⟨a, xs, e, s _ _ h⟩), rfl⟩
  · exact .inr ⟨a, xs, e, s _ _ h, g⟩
end V8

set_option Elab.async false
set_option linter.all false
set_option maxRecDepth 100000
set_option maxHeartbeats 16000000
set_option pp.maxSteps 400
/-! What stays of a heap; along by names; odd values. -/
namespace V8
open PySem PySem.Spec PyProof.Rows L2 LamX ItX
theorem Rd.ext {H H' : Hp} {b : Addr} {o : HO} (h : Rd H b o) (ho : ∀ ps, o ≠ .tbl ps) (s : ExtN H H') : Rd H' b o := by
  rcases h with h | ⟨od, h⟩
  · exact .inl (s _ _ h ho)
  · exact .inr ⟨od, s _ _ h (fun _ z => nomatch z)⟩
/-- all but the pen and the tables stays -/
def Mv (p : Addr) (H H' : Hp) : Prop := ∀ b o, H b = some o → b ≠ p → (∀ ps, o ≠ .tbl ps) → H' b = some o
theorem Mv.refl {p : Addr} {H : Hp} : Mv p H H := fun _ _ e _ _ => e
theorem Mv.trans {p : Addr} {H H1 H2 : Hp} (a : Mv p H H1) (b : Mv p H1 H2) : Mv p H H2 := fun c o e n t => b c o (a c o e n t) n t
theorem Mv.ofFr {p : Addr} {H H' : Hp} (f : Fr p H H') : Mv p H H' := fun b o e n _ => f b o e n
theorem Mv.ofExt {p : Addr} {H H' : Hp} (f : ExtN H H') : Mv p H H' := fun b o e _ t => f b o e t
theorem Mv.ofSame {p : Addr} {H H' : Hp} (f : Same H H') : Mv p H H' := fun b o e _ _ => f b o e
/-- where the pen is -/
def PenL (H : Hp) (p : Addr) : Prop := ∃ xs, H p = some (.lst xs)
theorem Mv.at {p b : Addr} {H H' : Hp} {o : HO} (m : Mv p H H') (P : PenL H p) (e : H b = some o) (l : ∀ xs, o ≠ .lst xs) (t : ∀ ps, o ≠ .tbl ps) : H' b = some o := m _ _ e (fun z => by
  obtain ⟨xs, h⟩ := P
  rw [z, h] at e
  exact l xs (Option.some.inj e).symm) t
theorem MisAt.mv {p C x : Addr} {H H' : Hp} {u : Tab} (m : MisAt C H x u) (P : PenL H p) (s : Mv p H H') : MisAt C H' x u := by
  obtain ⟨dx, a, b, c, h1, h2, h3, h4⟩ := m.at_
  exact ⟨dx, a, b, c, s.at P h1 (fun _ z => nomatch z) (fun _ z => nomatch z), s.at P h2 (fun _ z => nomatch z) (fun _ z => nomatch z), s.at P h3 (fun _ z => nomatch z) (fun _ z => nomatch z), s.at P h4 (fun _ z => nomatch z) (fun _ z => nomatch z)⟩
theorem PenAt.pl {H : Hp} {p l : Addr} {ns : List Int} {n : Nat} (P : PenAt H p l ns n) : PenL H p := P.pen
theorem tabs_fr {T : List (Addr × Str)} {p : Addr} {H H' : Hp} (t : Tabs T H) (P : PenL H p) (e : Fr p H H') : Tabs T H' := fun q hq => by
  obtain ⟨ps, h1, h2, h3⟩ := t q hq
  obtain ⟨xs, hp⟩ := P
  have off : ∀ {b : Addr} {o : HO}, H b = some o → (∀ ys, o ≠ .lst ys) → H' b = some o := fun {b o} e1 n => e b o e1 fun z => by
    rw [z, hp] at e1
    exact n _ (Option.some.inj e1).symm
  refine ⟨ps, off h1 (fun _ z => nomatch z), h2, fun pos cv hc => ?_⟩
  obtain ⟨c, e1, e2⟩ := h3 pos cv hc
  exact ⟨c, e1, off e2 (fun _ z => nomatch z)⟩
theorem pen_ext {H H' : Hp} {p l : Addr} {ns : List Int} {n : Nat} (P : PenAt H p l ns n) (s : ExtN H H') : PenAt H' p l ns n := by
  obtain ⟨⟨a, g, h1, h2, h3, h4⟩, i, e, sh⟩ := P
  exact ⟨⟨a, g, s _ _ h1 (fun _ z => nomatch z), h2, h3, h4⟩, s _ _ i (fun _ z => nomatch z), e, sh⟩
structure AlK (P : Program) (w : World) (K : PySem.W.Frag) (mg : Str → Option Value) (base : Heap) (k : Nat) (sp : Sp) : Prop where
  ex : ∃ (f : Addr) (fd : FuncData) (ps : List Str), FnG P w K mg base (L2.CX P w) k f fd ps sp ∧ mg "along" = some (.ref f) ∧ PySem.W.keepIn K (.ref f) = true ∧ KBn K fd ps 0 ["row", "text", "misreadings"] (fun us ws => us ++ ws.reverse) (fun vs zs => vs ++ zs.reverse)
def tAlK (sp : Sp) (E : XK) (tk : TA) : TE := fun σ H Q => tk σ H fun zs H1 => zs.length = 3 ∧ sp zs.reverse H1 Q E
section
variable {X : Cx} {j k : Nat} {sp : Sp} {p pos : Pos} {kws : List Keyword} {tk : TA} {E : XK}
theorem pe_alK (c : AlK X.prog X.w X.K X.mg X.base k sp) (quiet : Quiet X.A) (hx : Passes (L2.CX X.prog X.w) X E) (hr : Room j X.A) (hj : k ≤ j) (hg : Gl X "along") (hkw : PK X kws tk) (hall : (backToKw pos (keywordEach kws X.env)).all (·.1.isSome) = true := by rfl) (hks : (backToKw pos (keywordEach kws X.env)).filterMap (·.1) = (["row", "text", "misreadings"] : List Str) := by rfl)
    (hpl : ((backTo pos (starEach [] X.env)).any (·.1) || (backToKw pos (keywordEach kws X.env)).any (·.1.isNone)) = false := by rfl) : PE X (.Call (.Name "along" p) [] kws pos) (tAlK sp E tk) := by
  obtain ⟨f, fd, ps, F, hm, kp, kb⟩ := c.ex
  refine ⟨fun pins s σ H Q I h => ?_⟩
  refine wpAny_Call_Name_kw (ld_glob I hg hm ?_ (by decide))
  refine PySem.W.callWith_KW0 (h₀ := X.base) I.ok.mod.kin kp hall ?_ hpl
  refine thn (hkw.run pos pins s σ H _ I h) fun ws s2 ⟨zs, H2, I2, rz, l2, q2⟩ => ⟨I2.kIn, ?_⟩
  rw [hks]
  have r2 := kb.rel (vs := []) (us := []) .nil rz
  have ran := F.runs X.A X.stack s2 H2 ⟨[], (["row", "text", "misreadings"] : List Str).zip ws⟩ _ _ Q E quiet (hr.mono hj) I2.env0 (kb.to s2 [] ws I2.kIn rfl (rz.length.symm.trans l2)) r2 q2
  refine wpAny_call (codeAny_mono ran fun a s3 z => ?_)
  match a, z with
  | .error er, z => exact hx pins σ H2 s2 er s3 I2 z
  | .ok (.ret u), z => exact I2.after z
  | .ok .next, z => exact z.elim
  | .ok .brk, z => exact z.elim
  | .ok .cont, z => exact z.elim
end
section
variable {P : Program} {w : World} {K : PySem.W.Frag} {mg : Str → Option Value} {base : Heap}
theorem FunC.okG {x qual : Str} {st : Stmt} {f c : Addr} {fd : FuncData} {N ps : List Str} {k : Nat} {sp : Sp} (F : FunC K x qual st f c fd) (S : FnScope N ps (defScope st)) (count : ∀ (xs : List V) (H : Hp) (Q : VK) (E : XK), sp xs H Q E → xs.length = ps.length)
    (body : ∀ (A : Around) (outer : List Env) (s : Shared) (H : Hp) (xs : List V) (Q : VK) (E : XK), Quiet A → Room k (A.deeper (envOfC qual (defScope st) s.heap.objs.size f (.ref c))) → sp xs H Q E →
      ∃ t, PSs (cxOf CX0 P w K mg base N qual (defScope st) f (.ref c) A outer s H E).nox (defBody st) t ∧ t { nx := fun _ H2 => Q .non H2, rt := Q } (L2.start N xs) H) : FnG P w K mg base CX0 (k + 1) f fd ps sp := by
  obtain ⟨oc, od, kV, doc, pm, an, ct, osl, e, look, ci⟩ := F.ex
  subst e
  refine ⟨count, fun A outer s H args us xs Q E g r e0 b v h => LamX.run_ofS look ci S r e0 b v (count _ _ _ _ h) fun r2 => ?_⟩
  obtain ⟨t, h1, h2⟩ := body A outer s H xs Q E g r2 h
  exact ⟨t, h1.nox, h2⟩
end
theorem strOk_Sx {w : List Nat} (h : ∀ c ∈ w, c < 1114112) : PyData.strOk (Sx w) = true := by
  have e : (Sx w).cps = w.toArray := rfl
  unfold PyData.strOk
  rw [e, List.all_toArray, List.all_eq_true]
  intro c hc
  exact decide_eq_true (h c hc)
/-! ### what is no text -/
def OddT (H : Hp) (v : V) (d : PyData) : Prop := (v = .non ∧ d = .none) ∨ (v = .int 0 ∧ d = .int 0) ∨ (∃ z : List Nat, v = .str (Sx z) ∧ d = .str (Sx z) ∧ z.length ≤ 3000 ∧ (decide (z.length ≤ 2000) && okL z) = false ∧ (∀ c ∈ z, c < 128) ∧ PyData.strOk (reprText (Sx z)) = true) ∨ (∃ a, v = .ref a ∧ d = .tuple [.str "a"] ∧ H a = some (.tup [.str "a"]))
theorem OddT.ext {H H' : Hp} {v : V} {d : PyData} (o : OddT H v d) (e : ExtN H H') : OddT H' v d := by
  rcases o with h | h | h | ⟨a, h1, h2, h3⟩
  · exact .inl h
  · exact .inr (.inl h)
  · exact .inr (.inr (.inl h))
  · exact .inr (.inr (.inr ⟨a, h1, h2, e _ _ h3 (fun _ z => nomatch z)⟩))
theorem OddT.mv {p : Addr} {H H' : Hp} {v : V} {d : PyData} (o : OddT H v d) (P : PenL H p) (m : Mv p H H') : OddT H' v d := by
  rcases o with h | h | h | ⟨a, h1, h2, h3⟩
  · exact .inl h
  · exact .inr (.inl h)
  · exact .inr (.inr (.inl h))
  · exact .inr (.inr (.inr ⟨a, h1, h2, m.at P h3 (fun _ z => nomatch z) (fun _ z => nomatch z)⟩))
theorem OddT.told {H : Hp} {v : V} {d : PyData} (o : OddT H v d) : Told1 H v ∧ PyV H v d := by
  rcases o with ⟨rfl, rfl⟩ | ⟨rfl, rfl⟩ | ⟨z, rfl, rfl, _⟩ | ⟨a, rfl, rfl, h⟩
  · exact ⟨.inl (.inr (.inr (.inl rfl))), .non⟩
  · exact ⟨.inl (.inr (.inl ⟨0, rfl⟩)), .int 0⟩
  · exact ⟨.inl (.inl ⟨_, rfl⟩), .str _⟩
  · refine ⟨.inr ⟨a, _, rfl, h, by decide, fun y hy => ?_⟩, .tup h (.cons (.str _) .nil)⟩
    rw [List.mem_singleton.mp hy]
    exact .inl ⟨_, rfl⟩
theorem OddT.tells {H : Hp} {v : V} {d : PyData} (o : OddT H v d) : Tells d ∧ d.shown.length ≤ 7000000 := by
  rcases o with ⟨rfl, rfl⟩ | ⟨rfl, rfl⟩ | ⟨z, rfl, rfl, h3, _, hz, _⟩ | ⟨a, rfl, rfl, h⟩
  · exact ⟨⟨by simp [PyData.showable], by simp [PyData.depth], by decide +kernel⟩, by decide +kernel⟩
  · exact ⟨⟨by simp [PyData.showable], by simp [PyData.depth], by decide +kernel⟩, by decide +kernel⟩
  · have l : (reprText (Sx z)).length ≤ 10 * (Sx z).length + 2 := PySem.StrLaws.reprText_len _ fun c hc => by
      have e : (Sx z).cps.toList = z := by show z.toArray.toList = z; simp
      rw [e] at hc
      have := hz c hc
      omega
    rw [Sx_len] at l
    refine ⟨⟨by simp [PyData.showable], by simp [PyData.depth], ?_⟩, ?_⟩
    · rw [shown_str]
      omega
    · rw [shown_str]
      omega
  · exact ⟨⟨by simp [PyData.showable, PyData.showableAll], by simp [PyData.depth, PyData.depthAll], by decide +kernel⟩, by decide +kernel⟩
theorem OddT.no {K : PySem.W.Frag} {H : Hp} {v : V} {d : PyData} (o : OddT H v d) : NoText K H v := by
  rcases o with ⟨rfl, rfl⟩ | ⟨rfl, rfl⟩ | ⟨z, rfl, rfl, h3, hb, _⟩ | ⟨a, rfl, rfl, h⟩
  · exact .inr ⟨_, .base .non, kit_ty (by decide +kernel)⟩
  · exact .inr ⟨_, .base (.int 0), kit_ty (by decide +kernel)⟩
  · exact .inl ⟨z, rfl, h3, hb⟩
  · exact .inr ⟨_, .base (.tup h), kit_ty (by decide +kernel)⟩
theorem OddT.lay {H : Hp} {v : V} {d : PyData} (o : OddT H v d) : PyData.strOk d.shown = true := by
  rcases o with ⟨rfl, rfl⟩ | ⟨rfl, rfl⟩ | ⟨z, rfl, rfl, _, _, _, h⟩ | ⟨a, rfl, rfl, h⟩
  · decide +kernel
  · decide +kernel
  · rw [shown_str]
    exact h
  · decide +kernel
theorem eA : ("a" : Str) = Sx [97] := by decide +kernel
theorem eq_same {K : PySem.W.Frag} {H : Hp} {Q : VK} {x y : V} {d : PyData} (hx : Dp K H x d) (hy : Dp K H y d) (sh : SeqAt.shaped d = true) (q : Q (.bl true) H) : rEqD K x y H Q := by
  refine ⟨d, d, hx, hy, sh, sh, ?_⟩
  rw [SeqAt.eqv_refl d (lay_of sh)]
  exact q
theorem neD_same {K : PySem.W.Frag} {H : Hp} {Q : VK} {x y : V} {d : PyData} (hx : Dp K H x d) (hy : Dp K H y d) (sh : SeqAt.shaped d = true) (q : Q (.bl false) H) : rNeD K x y H Q := by
  refine ⟨d, d, hx, hy, sh, sh, ?_⟩
  rw [SeqAt.eqv_refl d (lay_of sh)]
  exact q
theorem shaped_one {r : List Nat} (h : ∀ c ∈ r, isLt c) : SeqAt.shaped (.list [.str (Sx r)]) = true := by
  have h3 : PyData.depth (.list [.str (Sx r)]) ≤ 64 := by
    simp only [PyData.depth, PyData.depthAll]
    omega
  show (PyData.canLay0 (.list [.str (Sx r)]) && decide (PyData.depth (.list [.str (Sx r)]) ≤ 64)) = true
  rw [Bool.and_eq_true]
  refine ⟨?_, decide_eq_true h3⟩
  simp only [PyData.canLay0, PyData.canLayAll0, ok_sx h, Bool.and_true]
theorem MisL.ext {CM : Addr} {H H' : Hp} {ps : List (Addr × Tab)} (m : MisL CM H ps) (s : ExtN H H') : MisL CM H' ps := fun p hp => by
  obtain ⟨dx, a, b, c, h1, h2, h3, h4⟩ := (m p hp).1.at_
  exact ⟨⟨dx, a, b, c, s _ _ h1 (fun _ z => nomatch z), s _ _ h2 (fun _ z => nomatch z), s _ _ h3 (fun _ z => nomatch z), s _ _ h4 (fun _ z => nomatch z)⟩, (m p hp).2⟩
theorem MisL.mv {CM p : Addr} {H H' : Hp} {ps : List (Addr × Tab)} (m : MisL CM H ps) (P : PenL H p) (s : Mv p H H') : MisL CM H' ps := fun q hq => ⟨(m q hq).1.mv P s, (m q hq).2⟩
/-- what the helper's first rows keep -/
structure CK (TL : List (Addr × Str)) (CM p l a : Addr) (ns : List Int) (n : Nat) (ps : List (Addr × Tab)) (H : Hp) : Prop where
  pen : PenAt H p l ns n
  made : H a = some (.lst (refs ps))
  ml : MisL CM H ps
  tb : Tabs TL H
theorem CK.same {TL : List (Addr × Str)} {CM p l a : Addr} {ns : List Int} {n : Nat} {ps : List (Addr × Tab)} {H H' : Hp} (c : CK TL CM p l a ns n ps H) (s : Same H H') : CK TL CM p l a ns n ps H' := ⟨pen_same c.pen s, s _ _ c.made, c.ml.same s, c.tb.ext s⟩
/-- where a wrong thing is told: none, or an index -/
def AtD (y : V) (d : PyData) : Prop := (y = .non ∧ d = .none) ∨ ∃ i : Nat, i ≤ 4 ∧ y = .int (i : Nat) ∧ d = .int (i : Nat)
theorem MsBad.mv {CM p : Addr} {H H1 : Hp} {mv : V} {d : PyData} (b : MsBad CM H mv d) (P : PenL H p) (s : Mv p H H1) (n : ∀ a, mv = .ref a → a ≠ p) : MsBad CM H1 mv d := by
  rcases b with b | ⟨a, xs, e, h, l, g⟩
  · exact .inl b
  · have h2 : H1 a = some (.lst xs) ∨ H1 a = some (.tup xs) := h.imp (fun h => s _ _ h (n a e) (fun _ z => nomatch z)) (fun h => s _ _ h (n a e) (fun _ z => nomatch z))
    refine .inr ⟨a, xs, e, h2, l, ?_⟩
    rcases g with g | ⟨g1, g4, its, g⟩
    · exact .inl g
    · exact .inr ⟨g1, g4, fun y hy => by
        rcases its y hy with ⟨z, dx, fs, e2, hz⟩ | o
        · exact .inl ⟨z, dx, fs, e2, s.at P hz (fun _ z => nomatch z) (fun _ z => nomatch z)⟩
        · exact .inr o, g⟩
theorem MsBad.ext {CM : Addr} {H H1 : Hp} {mv : V} {d : PyData} (b : MsBad CM H mv d) (s : ExtN H H1) : MsBad CM H1 mv d := by
  rcases b with b | ⟨a, xs, e, h, l, g⟩
  · exact .inl b
  · have h2 : H1 a = some (.lst xs) ∨ H1 a = some (.tup xs) := h.imp (fun h => s _ _ h (fun _ z => nomatch z)) (fun h => s _ _ h (fun _ z => nomatch z))
    refine .inr ⟨a, xs, e, h2, l, ?_⟩
    rcases g with g | ⟨g1, g4, its, g⟩
    · exact .inl g
    · exact .inr ⟨g1, g4, fun y hy => by
        rcases its y hy with ⟨z, dx, fs, e2, hz⟩ | o
        · exact .inl ⟨z, dx, fs, e2, s _ _ hz (fun _ z => nomatch z)⟩
        · exact .inr o, g⟩
theorem RwBad.mv {p : Addr} {H H1 : Hp} {rv : V} {n : Nat} {d : PyData} (b : RwBad H rv n d) (s : Mv p H H1) (np : ∀ a, rv = .ref a → a ≠ p) : RwBad H1 rv n d := by
  rcases b with ⟨z | z | ⟨a, xs, e, h⟩, rfl⟩ | ⟨a, xs, e, h, g⟩
  · exact .inl ⟨.inl z, rfl⟩
  · exact .inl ⟨.inr (.inl z), rfl⟩
  · exact .inl ⟨.inr (.inr ⟨a, xs, e, s _ _ h (np a e) (fun _ z => nomatch z)⟩), rfl⟩
  · exact .inr ⟨a, xs, e, s _ _ h (np a e) (fun _ z => nomatch z), g⟩
theorem RwBad.ext {H H1 : Hp} {rv : V} {n : Nat} {d : PyData} (b : RwBad H rv n d) (s : ExtN H H1) : RwBad H1 rv n d := by
  rcases b with ⟨z | z | ⟨a, xs, e, h⟩, rfl⟩ | ⟨a, xs, e, h, g⟩
  · exact .inl ⟨.inl z, rfl⟩
  · exact .inl ⟨.inr (.inl z), rfl⟩
  · exact .inl ⟨.inr (.inr ⟨a, xs, e, s _ _ h (fun _ z => nomatch z)⟩), rfl⟩
  · exact .inr ⟨a, xs, e, s _ _ h (fun _ z => nomatch z), g⟩
def NotP (p : Addr) (v : V) : Prop := ∀ a, v = .ref a → a ≠ p
theorem NotP.non {p : Addr} : NotP p .non := fun _ z => nomatch z
theorem NotP.str {p : Addr} {z : Str} : NotP p (.str z) := fun _ z => nomatch z
theorem NotP.ref {p a : Addr} (h : a ≠ p) : NotP p (.ref a) := fun b e => by
  cases e
  exact h
def WrongT (p CM : Addr) (H : Hp) (t : Addr) : Prop := ∃ v y d, H t = some (.tup [v, y]) ∧ MsBad CM H v d ∧ AtD y d ∧ NotP p v
def WrongR (p : Addr) (n : Nat) (H : Hp) (t : Addr) : Prop := ∃ v y d, H t = some (.tup [v, y]) ∧ RwBad H v n d ∧ AtD y d ∧ NotP p v
theorem WrongT.same {p CM : Addr} {H H' : Hp} {t : Addr} (w : WrongT p CM H t) (s : Same H H') : WrongT p CM H' t := by
  obtain ⟨v, y, d, h, m, e⟩ := w
  exact ⟨v, y, d, s _ _ h, m.same s, e⟩
theorem WrongR.same {p : Addr} {n : Nat} {H H' : Hp} {t : Addr} (w : WrongR p n H t) (s : Same H H') : WrongR p n H' t := by
  obtain ⟨v, y, d, h, m, e⟩ := w
  exact ⟨v, y, d, s _ _ h, m.same s, e⟩
theorem WrongT.mv {p CM : Addr} {H H' : Hp} {t : Addr} (w : WrongT p CM H t) (P : PenL H p) (s : Mv p H H') : WrongT p CM H' t := by
  obtain ⟨v, y, d, h, m, e, n⟩ := w
  exact ⟨v, y, d, s.at P h (fun _ z => nomatch z) (fun _ z => nomatch z), m.mv P s n, e, n⟩
theorem WrongR.mv {p : Addr} {n : Nat} {H H' : Hp} {t : Addr} (w : WrongR p n H t) (P : PenL H p) (s : Mv p H H') : WrongR p n H' t := by
  obtain ⟨v, y, d, h, m, e, np⟩ := w
  exact ⟨v, y, d, s.at P h (fun _ z => nomatch z) (fun _ z => nomatch z), m.mv s np, e, np⟩
theorem in0 {n : Nat} (h : 1 ≤ n) : inB (.int 0) 0 ((n : Int) - 1) = true := by
  show (decide ((0 : Int) ≤ 0) && decide ((0 : Int) ≤ (n : Int) - 1)) = true
  rw [decide_eq_true (show (0 : Int) ≤ (n : Int) - 1 by omega)]
  rfl
theorem inN {n : Nat} : inB (.int (n : Nat)) 0 ((n : Int) - 1) = false := by
  show (decide ((0 : Int) ≤ (n : Nat)) && decide (((n : Nat) : Int) ≤ (n : Int) - 1)) = false
  rw [decide_eq_false (show ¬ ((n : Nat) : Int) ≤ (n : Int) - 1 by omega), Bool.and_false]
theorem inM {n : Nat} : inB (.int (-1)) 0 ((n : Int) - 1) = false := rfl
theorem flat_int {i : Int} : Flat (.int i) := .inr (.inl ⟨_, rfl⟩)
theorem flat_non : Flat .non := .inr (.inr (.inl rfl))
theorem flat_str {z : Str} : Flat (.str z) := .inl ⟨_, rfl⟩
theorem flat_bl {b : Bool} : Flat (.bl b) := .inr (.inr (.inr ⟨_, rfl⟩))
theorem wr_at {H : Hp} {a : Addr} {xs : List V} {n i : Nat} {y : V} (h : H a = some (.tup xs)) (l : xs.length ≤ 100) (fl : ∀ y ∈ xs, Flat y) (hy : xs[i]? = some y) (fy : inB y 0 ((n : Int) - 1) = false) (ky : ∀ z ∈ xs.take i, inB z 0 ((n : Int) - 1) = true) : RwBad H (.ref a) n (.int (i : Nat)) := .inr ⟨a, xs, rfl, h, l, fl, i, y, hy, fy, ky, rfl⟩
theorem CK.ext {TL : List (Addr × Str)} {CM p l a : Addr} {ns : List Int} {n : Nat} {ps : List (Addr × Tab)} {H H' : Hp} (c : CK TL CM p l a ns n ps H) (s : ExtN H H') (tb : Tabs TL H') : CK TL CM p l a ns n ps H' := ⟨pen_ext c.pen s, s _ _ c.made (fun _ z => nomatch z), c.ml.ext s, tb⟩
theorem RwBad.fresh {H : Hp} {rv : V} {n : Nat} {d : PyData} {b : Addr} (w : RwBad H rv n d) (nb : H b = none) : ∀ a, rv = .ref a → a ≠ b := fun a e => by
  rcases w with ⟨⟨z, rfl⟩ | rfl | ⟨a2, xs, rfl, h⟩, rfl⟩ | ⟨a2, xs, rfl, h, g⟩
  · cases e
  · cases e
  · cases e
    exact ne_of_none h nb
  · cases e
    exact ne_of_none h nb
/-- a list of its own grows -/
theorem CK.grow {TL : List (Addr × Str)} {CM p l a b : Addr} {ns : List Int} {n : Nat} {ps : List (Addr × Tab)} {H : Hp} {xs ys : List V} (c : CK TL CM p l a ns n ps H) (hb : H b = some (.lst xs)) (bp : b ≠ p) (bl : b ≠ l) (ab : a ≠ b) : CK TL CM p l a ns n ps (upd H b (.lst ys)) :=
  ⟨c.pen.other bp bl, by rw [upd_ne ab]; exact c.made, c.ml.mv ⟨_, hb⟩ (Mv.ofFr Fr.at), tabs_fr c.tb ⟨_, hb⟩ Fr.at⟩
end V8

set_option Elab.async false
set_option linter.all false
set_option maxRecDepth 100000
set_option maxHeartbeats 16000000
set_option pp.maxSteps 600
/-! What is refused. -/
namespace V8
open PySem PySem.Spec PyProof.Rows L2 LamX ItX
abbrev s__law_refused_right : Stmt := topS 55
abbrev n__law_refused_right : List Str := ["_law_pen_here", "_law_made", "_law_word_here", "_law_lists", "_law_texts", "_law_rows", "_law_wrong", "_law_text_so", "_law_path", "_law_at", "_law_many", "_law_heard_here"]
theorem sc__law_refused_right : FnScope ["_law_pen_here", "_law_made", "_law_word_here", "_law_lists", "_law_texts", "_law_rows", "_law_wrong", "_law_text_so", "_law_path", "_law_at", "_law_many", "_law_heard_here"] ["_law_pen_here", "_law_made", "_law_word_here"] (defScope s__law_refused_right) := ⟨rfl, rfl, rfl, by decide +kernel, rfl, by decide +kernel, by decide +kernel⟩
theorem cut_d1 (xs : List V) : cutV xs (some 1) none = xs.drop 1 := by
  unfold cutV
  have e : HT.sIx xs.length 0 (some 1) = min 1 xs.length := by
    show HT.sIx _ _ (some ((1 : Nat) : Int)) = _
    rw [HT.sIx_nat]
  rw [e, HT.sIx_none, List.take_of_length_le (by rw [List.length_drop]; exact Nat.le_refl _)]
  cases xs with
  | nil => rfl
  | cons x r =>
    have e1 : min 1 (x :: r).length = 1 := by
      rw [List.length_cons]
      omega
    rw [e1]
theorem cut_t3 (xs : List V) : cutV xs none (some 3) = xs.take 3 := by
  unfold cutV
  have e : HT.sIx xs.length xs.length (some 3) = min 3 xs.length := by
    show HT.sIx _ _ (some ((3 : Nat) : Int)) = _
    rw [HT.sIx_nat]
  rw [e, HT.sIx_none, List.drop_zero, Nat.sub_zero, ← List.take_eq_take_min]
theorem refs_take (ps : List (Addr × Tab)) (k : Nat) : (refs ps).take k = refs (ps.take k) := List.map_take.symm
theorem refs_drop (ps : List (Addr × Tab)) (k : Nat) : (refs ps).drop k = refs (ps.drop k) := List.map_drop.symm
theorem atd_py {H : Hp} {y y2 : V} {d : PyData} (a : AtD y d) (p : PyV H y2 d) : y2 = y := by
  rcases a with ⟨rfl, rfl⟩ | ⟨i, _, rfl, rfl⟩ <;> cases p <;> rfl
theorem atd_kind {y : V} {d : PyData} (a : AtD y d) : y = .non ∨ ∃ i, y = .int i := by
  rcases a with ⟨rfl, _⟩ | ⟨i, _, rfl, _⟩
  · exact .inl rfl
  · exact .inr ⟨_, rfl⟩
theorem atd_dp {K : PySem.W.Frag} {H : Hp} {y : V} {d : PyData} (a : AtD y d) : Dp K H y d := by
  rcases a with ⟨rfl, rfl⟩ | ⟨i, _, rfl, rfl⟩
  · exact .non
  · exact .int _
section
variable {K : PySem.W.Frag} {mg : Str → Option Value} {CM CL CO CY CD CT : Addr} {TL : List (Addr × Str)} {H : Hp} {R : VK} {σ : L2.St} {v1 v2 v3 y1 y3 : V} {d1 d2 d3 : PyData} {a b1 : Addr} {ps : List (Addr × Tab)} {w : List Nat}
theorem heard_list (h6 : σ[6]? = some (some (.ref b1))) (h7 : σ[7]? = some (some v2)) (h8 : σ[8]? = some (some v3)) (tb : Tabs TL H) (hb : H b1 = some (.tup [v1, y1])) (M : MsBad CM H v1 d1) (A : AtD y1 d1) (k : ∀ l H', H' l = some (.tup [.str "list", y1]) → ExtN H H' → Tabs TL H' → R (.ref l) H') :
    tLamG TL (TTheard CL CO CY CD CT) (fun E => tCall (spAlong K CM CL CO CY CD CT) [] E (tCons (tOp (rIxT K) (tVar 6) (tC (.int 0))) (tCons (tVar 7) (tCons (tVar 8) tNil)))) σ H R := by
  refine ⟨tb, fun H1 e1 tb1 R1 H2 hR s2 => ?_⟩
  have e2 : ExtN H H2 := e1.trans (ExtN.of s2)
  refine ⟨_, h6, b1, [v1, y1], 0, v1, rfl, rfl, .inl (.inl (e2 _ _ hb (fun _ z => nomatch z))), rfl, _, h7, _, h8, .inl ⟨v1, v2, v3, rfl, .inl ((M.ext e2).ms fun dd y H3 nd s3 hd p3 => ⟨dd, rfl, .inl ⟨rfl, y, ?_, hd, fun l H4 s4 hl => k l H4 ?_ (e2.trans (ExtN.of fun b o e => s4 _ _ (s3 _ _ e))) ((tb1.ext s2).ext fun b o e => s4 _ _ (s3 _ _ e))⟩⟩)⟩⟩
  · rw [atd_py A p3]
    exact atd_kind A
  · rw [atd_py A p3] at hl
    exact hl
theorem heard_word (h1 : σ[1]? = some (some (.ref a))) (h7 : σ[7]? = some (some v2)) (h8 : σ[8]? = some (some v3)) (tb : Tabs TL H) (ha : H a = some (.lst (refs ps))) (ml : MisL CM H ps) (g1 : 1 ≤ ps.length) (g4 : ps.length ≤ 4) (O : OddT H v2 d2) (k : ∀ l H', H' l = some (.tup [.str "word", .str d2.shown]) → ExtN H H' → Tabs TL H' → R (.ref l) H') :
    tLamG TL (TTheard CL CO CY CD CT) (fun E => tCall (spAlong K CM CL CO CY CD CT) [] E (tCons (tVar 1) (tCons (tVar 7) (tCons (tVar 8) tNil)))) σ H R := by
  refine ⟨tb, fun H1 e1 tb1 R1 H2 hR s2 => ?_⟩
  have e2 : ExtN H H2 := e1.trans (ExtN.of s2)
  have O2 := O.ext e2
  refine ⟨_, h1, _, h7, _, h8, .inl ⟨_, v2, v3, rfl, .inr ⟨a, ps, rfl, e2 _ _ ha (fun _ z => nomatch z), g1, g4, ml.ext e2, .inl ⟨d2, O2.told.1, O2.told.2, O2.tells.1, O2.tells.2, fun H' s => (O2.ext (ExtN.of s)).no, fun dd y H3 nd s3 hd p3 => ⟨dd, rfl, .inr (.inl ⟨rfl, y, d2, p3, O2.tells.1, hd, fun l H4 s4 hl => k l H4 hl (e2.trans (ExtN.of fun b o e => s4 _ _ (s3 _ _ e))) ((tb1.ext s2).ext fun b o e => s4 _ _ (s3 _ _ e))⟩)⟩⟩⟩⟩⟩
theorem heard_row (h1 : σ[1]? = some (some (.ref a))) (h2 : σ[2]? = some (some (.str (Sx w)))) (h8 : σ[8]? = some (some v3)) (tb : Tabs TL H) (ha : H a = some (.lst (refs ps))) (ml : MisL CM H ps) (g1 : 1 ≤ ps.length) (g4 : ps.length ≤ 4) (lt : ∀ c ∈ w, isLt c) (lw : w.length ≤ 2000) (M : RwBad H v3 ps.length d3) (A : AtD y3 d3) (k : ∀ l H', H' l = some (.tup [.str "row", y3]) → ExtN H H' → Tabs TL H' → R (.ref l) H') :
    tLamG TL (TTheard CL CO CY CD CT) (fun E => tAlK (spAlong K CM CL CO CY CD CT) E (tCons (tVar 8) (tCons (tVar 2) (tCons (tVar 1) tNil)))) σ H R := by
  refine ⟨tb, fun H1 e1 tb1 R1 H2 hR s2 => ?_⟩
  have e2 : ExtN H H2 := e1.trans (ExtN.of s2)
  refine ⟨_, h8, _, h2, _, h1, rfl, .inl ⟨_, _, v3, rfl, .inr ⟨a, ps, rfl, e2 _ _ ha (fun _ z => nomatch z), g1, g4, ml.ext e2, .inr ⟨w, rfl, lt, lw, .inl ((M.ext e2).row fun dd y H3 nd s3 hd p3 => ⟨dd, rfl, .inr (.inr (.inl ⟨rfl, y, ?_, hd, fun l H4 s4 hl => k l H4 ?_ (e2.trans (ExtN.of fun b o e => s4 _ _ (s3 _ _ e))) ((tb1.ext s2).ext fun b o e => s4 _ _ (s3 _ _ e))⟩))⟩)⟩⟩⟩⟩
  · rw [atd_py A p3]
    exact atd_kind A
  · rw [atd_py A p3] at hl
    exact hl
end
theorem shaped_3 {y1 y3 : V} {d1 d3 : PyData} {z : Str} (a1 : AtD y1 d1) (a3 : AtD y3 d3) (h : PyData.strOk z = true) : SeqAt.shaped (.list [.tuple [.str "list", d1], .tuple [.str "word", .str z], .tuple [.str "row", d3]]) = true := by
  have c : ∀ {y : V} {d : PyData}, AtD y d → d.canLay0 = true ∧ d.depth = 0 := fun {y d} a => by
    rcases a with ⟨_, rfl⟩ | ⟨i, hi, _, rfl⟩
    · exact ⟨by simp only [PyData.canLay0], by simp only [PyData.depth]⟩
    · exact ⟨by simp only [PyData.canLay0], by simp only [PyData.depth]⟩
  have b1 : PyData.strOk ("list" : Str) = true := by decide +kernel
  have b2 : PyData.strOk ("word" : Str) = true := by decide +kernel
  have b3 : PyData.strOk ("row" : Str) = true := by decide +kernel
  obtain ⟨c1, e1⟩ := c a1
  obtain ⟨c3, e3⟩ := c a3
  have h3 : PyData.depth (.list [.tuple [.str "list", d1], .tuple [.str "word", .str z], .tuple [.str "row", d3]]) ≤ 64 := by
    simp only [PyData.depth, PyData.depthAll, e1, e3]
    omega
  show (PyData.canLay0 _ && decide (PyData.depth _ ≤ 64)) = true
  rw [Bool.and_eq_true]
  refine ⟨?_, decide_eq_true h3⟩
  simp only [PyData.canLay0, PyData.canLayAll0, h, c1, c3, b1, b2, b3, Bool.and_true]
end V8

set_option Elab.async false
set_option linter.all false
set_option maxRecDepth 100000
set_option maxHeartbeats 16000000
set_option pp.maxSteps 600
/-! What is refused, and in which order. -/
namespace V8
open PySem PySem.Spec PyProof.Rows L2 LamX ItX
theorem odd_of5 {H : Hp} {t1 : Addr} {v : V} (h1 : H t1 = some (.tup [.str "a"])) (h : v ∈ [V.non, V.int 0, V.str "A", V.str "a b", V.ref t1]) : ∃ d, OddT H v d := by
  simp only [List.mem_cons, List.not_mem_nil, or_false] at h
  rcases h with rfl | rfl | rfl | rfl | rfl
  · exact ⟨_, .inl ⟨rfl, rfl⟩⟩
  · exact ⟨_, .inr (.inl ⟨rfl, rfl⟩)⟩
  · exact ⟨_, .inr (.inr (.inl ⟨[65], by rw [show ("A" : Str) = Sx [65] from by decide +kernel], rfl, by decide, by decide, by decide, by decide +kernel⟩))⟩
  · exact ⟨_, .inr (.inr (.inl ⟨[97, 32, 98], by rw [show ("a b" : Str) = Sx [97, 32, 98] from by decide +kernel], rfl, by decide, by decide, by decide, by decide +kernel⟩))⟩
  · exact ⟨_, .inr (.inr (.inr ⟨t1, rfl, rfl, h1⟩))⟩
theorem wt_times {CM m : Addr} {H : Hp} {ps : List (Addr × Tab)} (h : H m = some (.lst (List.replicate (5 : Int).toNat (refs ps)).flatten)) (g1 : 1 ≤ ps.length) (g4 : ps.length ≤ 4) : MsBad CM H (.ref m) .none := by
  have e : ((List.replicate (5 : Int).toNat (refs ps)).flatten).length = 5 * ps.length := by
    rw [List.length_flatten, List.map_replicate, List.sum_replicate_nat, refs_len]
    rfl
  exact .inr ⟨m, _, rfl, .inl h, by rw [e]; omega, .inl ⟨by rw [e]; omega, rfl⟩⟩
theorem wt_none {CM m : Addr} {H : Hp} {ps : List (Addr × Tab)} (h : H m = some (.lst (refs (ps.take 3) ++ [.non]))) (ml : MisL CM H ps) : MsBad CM H (.ref m) (.int ((ps.take 3).length : Nat)) := by
  have l3 : (ps.take 3).length ≤ 3 := by
    rw [List.length_take]
    omega
  have ml3 : MisL CM H (ps.take 3) := fun p hp => ml p (List.mem_of_mem_take hp)
  refine .inr ⟨m, _, rfl, .inl h, by rw [List.length_append, refs_len]; show (ps.take 3).length + 1 ≤ 100; omega, .inr ⟨by rw [List.length_append]; show 1 ≤ _ + 1; omega, by rw [List.length_append, refs_len]; show (ps.take 3).length + 1 ≤ 4; omega, fun y hy => ?_, (ps.take 3).length, .non, ?_, rfl, fun z hz => ?_, rfl⟩⟩
  · rcases List.mem_append.mp hy with h | h
    · exact ml3.items y h
    · rw [List.mem_singleton.mp h]
      exact .inr (.inl rfl)
  · rw [List.getElem?_append_right (by rw [refs_len]; exact Nat.le_refl _), refs_len, Nat.sub_self]
    rfl
  · rw [List.take_append_of_le_length (by rw [refs_len]; exact Nat.le_refl _)] at hz
    exact refs_isM _ z (List.mem_of_mem_take hz)
theorem wt_zero {CM m : Addr} {H : Hp} {ps : List (Addr × Tab)} (h : H m = some (.lst ([.int 0] ++ refs (ps.drop 1)))) (ml : MisL CM H ps) (g4 : ps.length ≤ 4) : MsBad CM H (.ref m) (.int ((0 : Nat) : Int)) := by
  have ml3 : MisL CM H (ps.drop 1) := fun p hp => ml p (List.mem_of_mem_drop hp)
  have l3 : (ps.drop 1).length ≤ 3 := by
    rw [List.length_drop]
    omega
  refine .inr ⟨m, _, rfl, .inl h, by rw [List.length_append, refs_len]; show 1 + (ps.drop 1).length ≤ 100; omega, .inr ⟨by rw [List.length_append]; show 1 ≤ 1 + _; omega, by rw [List.length_append, refs_len]; show 1 + (ps.drop 1).length ≤ 4; omega, fun y hy => ?_, 0, .int 0, rfl, rfl, fun z hz => (nomatch hz), rfl⟩⟩
  rcases List.mem_append.mp hy with h | h
  · rw [List.mem_singleton.mp h]
    exact .inr (.inr ⟨0, rfl⟩)
  · exact ml3.items y h
def spRefused (TL : List (Addr × Str)) (CM : Addr) : Sp := fun vs H Q _ => ∃ (p l a : Addr) (ns : List Int) (n : Nat) (ps : List (Addr × Tab)) (w : List Nat), vs = [.ref p, .ref a, .str (Sx w)] ∧ PenAt H p l ns (n + 10) ∧ H a = some (.lst (refs ps)) ∧ a ≠ p ∧ 1 ≤ ps.length ∧ ps.length ≤ 4 ∧ MisL CM H ps ∧ (∀ c ∈ w, isLt c) ∧ w.length ≤ 100 ∧ Tabs TL H ∧
  ∀ H', PenAt H' p l ns n → Mv p H H' → Tabs TL H' → Q (.bl true) H'
section
variable {P : Program} {w : World} {K : PySem.W.Frag} {mg : Str → Option Value} {base : Heap} {CM CJ CL CO CY CD CT CE g c PT : Addr} {TL : List (Addr × Str)}
theorem ok_refused {f : Addr} {fd : FuncData} (F : FunC K "_law_refused_right" "_law_refused_right" s__law_refused_right f c fd) (T : Th K mg CM CJ CL CO CY CD CT CE) (D_pick : Df P w K mg base 2 "_law_pick" (spPick K)) (D_heard : HearD K mg g)
    (TB : TabT base mg TL (("_law_refused_right" : Str) ++ ".<locals>.") c PT) (D_along : DfG P w K mg base (L2.CX P w) 6 "along" (spAlong K CM CL CO CY CD CT)) (D_alK : AlK P w K mg base 6 (spAlong K CM CL CO CY CD CT)) : FnG P w K mg base CX0 10 f fd ["_law_pen_here", "_law_made", "_law_word_here"] (spRefused TL CM) := by
  refine F.okG sc__law_refused_right (fun vs H Q E h => ?_) (fun A outer s H vs Q E quiet hr h => ?_)
  · obtain ⟨p, l, a, ns, n, ps, w0, rfl, _⟩ := h
    rfl
  · obtain ⟨p, l, a, ns, n, ps, w0, rfl, PA, ha, ap, g1, g4, ml, lt, lw, tb0, q⟩ := h
    refine ⟨_, (pss_cons (ps_set (i := 3) sc__law_refused_right.nd rfl (.inl rfl) (pe_lst (pa_cons (pe_tup (pa_cons pe_non (pa_cons pe_non pa_nil))) (pa_cons (pe_tup (pa_cons pe_str (pa_cons pe_non pa_nil))) (pa_cons (pe_tup (pa_cons (pe_lst pa_nil) (pa_cons pe_non pa_nil))) (pa_cons (pe_tup (pa_cons (pe_op op_rep (pv 1) pe_int) (pa_cons pe_non pa_nil))) (pa_cons (pe_tup (pa_cons (pe_op op_cat (pe_slice (sl_listK (K := K) rfl) (pv 1) po_none (po_some pe_int)) (pe_lst (pa_cons pe_non pa_nil))) (pa_cons (pe_callB (call_len_seqK (K := K) rfl) (by rfl) T.len (by decide +kernel) (pa_cons (pe_slice (sl_listK (K := K) rfl) (pv 1) po_none (po_some pe_int)) pa_nil)) pa_nil))) (pa_cons (pe_tup (pa_cons (pe_op op_cat (pe_lst (pa_cons pe_int pa_nil)) (pe_slice (sl_listK (K := K) rfl) (pv 1) (po_some pe_int) po_none)) (pa_cons pe_int pa_nil))) pa_nil))))))))
      (pss_cons (ps_par (i := 4) (j := 5) (by rfl) sc__law_refused_right.nd rfl rfl (by decide) rfl rfl (pa_cons (pe_lst (pa_cons pe_non (pa_cons pe_int (pa_cons pe_str (pa_cons pe_str (pa_cons (pe_tup (pa_cons pe_str pa_nil)) pa_nil)))))) (pa_cons (pe_lst (pa_cons (pe_tup (pa_cons pe_non (pa_cons pe_non pa_nil))) (pa_cons (pe_tup (pa_cons (pe_lst (pa_cons pe_int pa_nil)) (pa_cons pe_non pa_nil))) (pa_cons (pe_tup (pa_cons (pe_tup (pa_cons pe_int (pa_cons (pe_callB (call_len_seqK (K := K) rfl) (by rfl) T.len (by decide +kernel) (pa_cons (pv 1) pa_nil)) pa_nil))) (pa_cons pe_int pa_nil))) (pa_cons (pe_tup (pa_cons (pe_tup (pa_cons pe_bl pa_nil)) (pa_cons pe_int pa_nil))) (pa_cons (pe_tup (pa_cons (pe_tup (pa_cons (pe_un un_neg pe_int) pa_nil)) (pa_cons pe_int pa_nil))) pa_nil)))))) pa_nil)) (by rfl))
      (pss_cons (ps_set (i := 5) sc__law_refused_right.nd rfl (.inl rfl) (pe_op op_cat (pv 5) (pe_lst (pa_cons (pe_tup (pa_cons (pe_tup (pa_cons pe_int (pa_cons pe_str pa_nil))) (pa_cons pe_int pa_nil))) (pa_cons (pe_tup (pa_cons pe_str (pa_cons pe_non pa_nil))) (pa_cons (pe_tup (pa_cons (pe_tup (pa_cons pe_int (pa_cons pe_int (pa_cons pe_non pa_nil)))) (pa_cons pe_int pa_nil))) (pa_cons (pe_tup (pa_cons (pe_tup (pa_cons pe_int (pa_cons pe_non (pa_cons pe_str (pa_cons (pe_un un_neg pe_int) pa_nil))))) (pa_cons pe_int pa_nil))) pa_nil)))))))
      (pss_cons (ps_asg (pe_tup (pa_cons (pe_c D_pick hr (by decide) (by rfl) (pa_cons (pv 0) (pa_cons (pv 3) pa_nil))) (pa_cons (pe_c D_pick hr (by decide) (by rfl) (pa_cons (pv 0) (pa_cons (pv 4) pa_nil))) (pa_cons (pe_c D_pick hr (by decide) (by rfl) (pa_cons (pv 0) (pa_cons (pv 5) pa_nil))) pa_nil)))) (pg_tup (by rfl) (pgs_cons (pg_name (i := 6) sc__law_refused_right.nd rfl (.inr rfl)) (pgs_cons (pg_name (i := 7) sc__law_refused_right.nd rfl (.inr rfl)) (pgs_cons (pg_tup (by rfl) (pgs_cons (pg_name (i := 8) sc__law_refused_right.nd rfl (.inr rfl)) (pgs_cons (pg_name (i := 9) sc__law_refused_right.nd rfl (.inl rfl)) pgs_nil))) pgs_nil)))))
      (pss_cons (ps_set (i := 10) sc__law_refused_right.nd rfl (.inl rfl) (pe_lst (pa_cons (pe_tup (pa_cons pe_str (pa_cons (pe_ix (ix_tupK (K := K) rfl) (pv 6) pe_int (fun _ _ => rfl)) pa_nil))) (pa_cons (pe_tup (pa_cons pe_str (pa_cons (pe_callB (call_reprG quiet hr) (by rfl) T.repr (by decide +kernel) (pa_cons (pv 7) pa_nil)) pa_nil))) (pa_cons (pe_tup (pa_cons pe_str (pa_cons (pv 9) pa_nil))) pa_nil)))))
      (pss_cons (ps_set (i := 11) sc__law_refused_right.nd rfl (.inl rfl) (pe_lst (pa_cons (pe_heardG (k := 6) T D_heard TB quiet hr (by decide) rfl rfl (by rfl) (lamS_by (sc := defScope s__law_refused_right) (by decide +kernel)) (by rfl) (fun _ _ _ _ _ => rfl) (fun A2 o2 s2 H2 E2 f2 c2 quiet2 hr2 => (pe_cG D_along quiet2 (passTk (takes_of rfl rfl rfl rfl)) hr2 (by decide) (by rfl) (pa_cons (pe_ix (ix_tupK (K := K) rfl) (pv 6) pe_int (fun _ _ => rfl)) (pa_cons (pv 7) (pa_cons (pv 8) pa_nil)))))) pa_nil)))
      (pss_cons (ps_expr (pe_bmK (K := K) rfl PySem.F.plainAttrs_list PySem.F.slot_list_append PySem.F.type_list_append mt_append (pv 11) (pa_cons (pe_heardG (k := 6) T D_heard TB quiet hr (by decide) rfl rfl (by rfl) (lamS_by (sc := defScope s__law_refused_right) (by decide +kernel)) (by rfl) (fun _ _ _ _ _ => rfl) (fun A2 o2 s2 H2 E2 f2 c2 quiet2 hr2 => (pe_cG D_along quiet2 (passTk (takes_of rfl rfl rfl rfl)) hr2 (by decide) (by rfl) (pa_cons (pv 1) (pa_cons (pv 7) (pa_cons (pv 8) pa_nil)))))) pa_nil)))
      (pss_cons (ps_expr (pe_bmK (K := K) rfl PySem.F.plainAttrs_list PySem.F.slot_list_append PySem.F.type_list_append mt_append (pv 11) (pa_cons (pe_heardG (k := 6) T D_heard TB quiet hr (by decide) rfl rfl (by rfl) (lamS_by (sc := defScope s__law_refused_right) (by decide +kernel)) (by rfl) (fun _ _ _ _ _ => rfl) (fun A2 o2 s2 H2 E2 f2 c2 quiet2 hr2 => (pe_alK D_alK quiet2 (passTk (takes_of rfl rfl rfl rfl)) hr2 (by decide) (by rfl) (pk_cons (pv 8) (pk_cons (pv 2) (pk_cons (pv 1) pk_nil)))))) pa_nil)))
      (pss_one (ps_ret (pe_cmpR (op_eqDK (K := K) rfl hr.units) (pv 11) (pv 10) (nomark _)))))))))))), ?_⟩
    have C : CK TL CM p l a ns (n + 10) ps H := ⟨PA, ha, ml, tb0⟩
    have sH : Same H H := Same.refl H
    clear PA ha ml tb0
    refine ⟨by show 2 ≤ sizeLine; decide, fun t1 nt1 => ?_⟩
    have s_ := same_put (s := Same.refl H) (o := .tup [.non, .non]) nt1
    have t1p : t1 ≠ p := C.pen.nep nt1
    have ht1 : upd H t1 (.tup [.non, .non]) t1 = some (.tup [.non, .non]) := upd_same
    replace C := C.same s_
    replace sH : Same H (upd H t1 (.tup [.non, .non])) := fun b o e => s_ _ _ (sH _ _ e)
    generalize upd H t1 (.tup [.non, .non]) = H1 at C sH ht1  ⊢
    clear s_ nt1
    have wt1 : WrongT p CM H1 t1 := ⟨.non, .non, .none, ht1, .inl ⟨.inr (.inr (.inl rfl)), rfl⟩, .inl ⟨rfl, rfl⟩, NotP.non⟩
    clear ht1
    refine ⟨by show 2 ≤ sizeLine; decide, fun t2 nt2 => ?_⟩
    have s_ := same_put (s := Same.refl H1) (o := .tup [.str "ab", .non]) nt2
    have t2p : t2 ≠ p := C.pen.nep nt2
    have ht2 : upd H1 t2 (.tup [.str "ab", .non]) t2 = some (.tup [.str "ab", .non]) := upd_same
    replace C := C.same s_
    replace sH : Same H (upd H1 t2 (.tup [.str "ab", .non])) := fun b o e => s_ _ _ (sH _ _ e)
    replace wt1 := wt1.same s_
    generalize upd H1 t2 (.tup [.str "ab", .non]) = H2 at C sH ht2 wt1 ⊢
    clear s_ nt2
    have wt2 : WrongT p CM H2 t2 := ⟨.str "ab", .non, .none, ht2, .inl ⟨.inl ⟨_, rfl⟩, rfl⟩, .inl ⟨rfl, rfl⟩, NotP.str⟩
    clear ht2
    refine ⟨Nat.zero_le _, fun e3 ne3 => ?_⟩
    have s_ := same_put (s := Same.refl H2) (o := .lst []) ne3
    have e3p : e3 ≠ p := C.pen.nep ne3
    have he3 : upd H2 e3 (.lst []) e3 = some (.lst []) := upd_same
    replace C := C.same s_
    replace sH : Same H (upd H2 e3 (.lst [])) := fun b o e => s_ _ _ (sH _ _ e)
    replace wt1 := wt1.same s_
    replace wt2 := wt2.same s_
    generalize upd H2 e3 (.lst []) = H3 at C sH he3 wt1 wt2 ⊢
    clear s_ ne3
    refine ⟨by show 2 ≤ sizeLine; decide, fun t3 nt3 => ?_⟩
    have s_ := same_put (s := Same.refl H3) (o := .tup [.ref e3, .non]) nt3
    have t3p : t3 ≠ p := C.pen.nep nt3
    have ht3 : upd H3 t3 (.tup [.ref e3, .non]) t3 = some (.tup [.ref e3, .non]) := upd_same
    replace C := C.same s_
    replace sH : Same H (upd H3 t3 (.tup [.ref e3, .non])) := fun b o e => s_ _ _ (sH _ _ e)
    replace wt1 := wt1.same s_
    replace wt2 := wt2.same s_
    replace he3 := s_ _ _ he3
    generalize upd H3 t3 (.tup [.ref e3, .non]) = H4 at C sH ht3 wt1 wt2 he3 ⊢
    clear s_ nt3
    have wt3 : WrongT p CM H4 t3 := ⟨.ref e3, .non, .none, ht3, .inr ⟨e3, [], rfl, .inl he3, by decide, .inl ⟨.inl rfl, rfl⟩⟩, .inl ⟨rfl, rfl⟩, NotP.ref e3p⟩
    clear ht3
    clear he3
    refine ⟨_, rfl, a, 5, refs ps, rfl, rfl, C.made, by decide, by decide, by rw [refs_len, sizeLine_eq]; show ps.length * 5 ≤ _; omega, fun m4 nm4 => ?_⟩
    have s_ := same_put (s := Same.refl H4) (o := .lst (List.replicate (5 : Int).toNat (refs ps)).flatten) nm4
    have m4p : m4 ≠ p := C.pen.nep nm4
    have hm4 : upd H4 m4 (.lst (List.replicate (5 : Int).toNat (refs ps)).flatten) m4 = some (.lst (List.replicate (5 : Int).toNat (refs ps)).flatten) := upd_same
    replace C := C.same s_
    replace sH : Same H (upd H4 m4 (.lst (List.replicate (5 : Int).toNat (refs ps)).flatten)) := fun b o e => s_ _ _ (sH _ _ e)
    replace wt1 := wt1.same s_
    replace wt2 := wt2.same s_
    replace wt3 := wt3.same s_
    generalize upd H4 m4 (.lst (List.replicate (5 : Int).toNat (refs ps)).flatten) = H5 at C sH hm4 wt1 wt2 wt3 ⊢
    clear s_ nm4
    refine ⟨by show 2 ≤ sizeLine; decide, fun t4 nt4 => ?_⟩
    have s_ := same_put (s := Same.refl H5) (o := .tup [.ref m4, .non]) nt4
    have t4p : t4 ≠ p := C.pen.nep nt4
    have ht4 : upd H5 t4 (.tup [.ref m4, .non]) t4 = some (.tup [.ref m4, .non]) := upd_same
    replace C := C.same s_
    replace sH : Same H (upd H5 t4 (.tup [.ref m4, .non])) := fun b o e => s_ _ _ (sH _ _ e)
    replace wt1 := wt1.same s_
    replace wt2 := wt2.same s_
    replace wt3 := wt3.same s_
    replace hm4 := s_ _ _ hm4
    generalize upd H5 t4 (.tup [.ref m4, .non]) = H6 at C sH ht4 wt1 wt2 wt3 hm4 ⊢
    clear s_ nt4
    have wt4 : WrongT p CM H6 t4 := ⟨.ref m4, .non, .none, ht4, wt_times hm4 g1 g4, .inl ⟨rfl, rfl⟩, NotP.ref m4p⟩
    clear ht4
    clear hm4
    refine ⟨_, rfl, 3, rfl, a, refs ps, rfl, SqL.of C.made, ?_⟩
    rw [cut_t3, refs_take]
    refine fun s5 ns5 => ?_
    have s_ := same_put (s := Same.refl H6) (o := .lst (refs (ps.take 3))) ns5
    have s5p : s5 ≠ p := C.pen.nep ns5
    have hs5 : upd H6 s5 (.lst (refs (ps.take 3))) s5 = some (.lst (refs (ps.take 3))) := upd_same
    replace C := C.same s_
    replace sH : Same H (upd H6 s5 (.lst (refs (ps.take 3)))) := fun b o e => s_ _ _ (sH _ _ e)
    replace wt1 := wt1.same s_
    replace wt2 := wt2.same s_
    replace wt3 := wt3.same s_
    replace wt4 := wt4.same s_
    generalize upd H6 s5 (.lst (refs (ps.take 3))) = H7 at C sH hs5 wt1 wt2 wt3 wt4 ⊢
    clear s_ ns5
    refine ⟨by show 1 ≤ sizeLine; decide, fun o5 no5 => ?_⟩
    have s_ := same_put (s := Same.refl H7) (o := .lst [.non]) no5
    have o5p : o5 ≠ p := C.pen.nep no5
    have ho5 : upd H7 o5 (.lst [.non]) o5 = some (.lst [.non]) := upd_same
    replace C := C.same s_
    replace sH : Same H (upd H7 o5 (.lst [.non])) := fun b o e => s_ _ _ (sH _ _ e)
    replace wt1 := wt1.same s_
    replace wt2 := wt2.same s_
    replace wt3 := wt3.same s_
    replace wt4 := wt4.same s_
    replace hs5 := s_ _ _ hs5
    generalize upd H7 o5 (.lst [.non]) = H8 at C sH ho5 wt1 wt2 wt3 wt4 hs5 ⊢
    clear s_ no5
    refine ⟨s5, o5, _, _, rfl, rfl, hs5, ho5, by rw [refs_len, List.length_take, sizeLine_eq]; show min 3 ps.length + 1 ≤ _; omega, fun c5 nc5 => ?_⟩
    have s_ := same_put (s := Same.refl H8) (o := .lst (refs (ps.take 3) ++ [.non])) nc5
    have c5p : c5 ≠ p := C.pen.nep nc5
    have hc5 : upd H8 c5 (.lst (refs (ps.take 3) ++ [.non])) c5 = some (.lst (refs (ps.take 3) ++ [.non])) := upd_same
    replace C := C.same s_
    replace sH : Same H (upd H8 c5 (.lst (refs (ps.take 3) ++ [.non]))) := fun b o e => s_ _ _ (sH _ _ e)
    replace wt1 := wt1.same s_
    replace wt2 := wt2.same s_
    replace wt3 := wt3.same s_
    replace wt4 := wt4.same s_
    replace hs5 := s_ _ _ hs5
    replace ho5 := s_ _ _ ho5
    generalize upd H8 c5 (.lst (refs (ps.take 3) ++ [.non])) = H9 at C sH hc5 wt1 wt2 wt3 wt4 hs5 ho5 ⊢
    clear s_ nc5
    clear hs5
    clear ho5
    refine ⟨_, rfl, 3, rfl, a, refs ps, rfl, SqL.of C.made, ?_⟩
    rw [cut_t3, refs_take]
    refine fun s6 ns6 => ?_
    have s_ := same_put (s := Same.refl H9) (o := .lst (refs (ps.take 3))) ns6
    have s6p : s6 ≠ p := C.pen.nep ns6
    have hs6 : upd H9 s6 (.lst (refs (ps.take 3))) s6 = some (.lst (refs (ps.take 3))) := upd_same
    replace C := C.same s_
    replace sH : Same H (upd H9 s6 (.lst (refs (ps.take 3)))) := fun b o e => s_ _ _ (sH _ _ e)
    replace wt1 := wt1.same s_
    replace wt2 := wt2.same s_
    replace wt3 := wt3.same s_
    replace wt4 := wt4.same s_
    replace hc5 := s_ _ _ hc5
    generalize upd H9 s6 (.lst (refs (ps.take 3))) = H10 at C sH hs6 wt1 wt2 wt3 wt4 hc5 ⊢
    clear s_ ns6
    refine ⟨s6, _, rfl, .inl (SqL.of hs6), ?_⟩
    rw [refs_len]
    refine ⟨by show 2 ≤ sizeLine; decide, fun t5 nt5 => ?_⟩
    have s_ := same_put (s := Same.refl H10) (o := .tup [.ref c5, .int ((ps.take 3).length : Nat)]) nt5
    have t5p : t5 ≠ p := C.pen.nep nt5
    have ht5 : upd H10 t5 (.tup [.ref c5, .int ((ps.take 3).length : Nat)]) t5 = some (.tup [.ref c5, .int ((ps.take 3).length : Nat)]) := upd_same
    replace C := C.same s_
    replace sH : Same H (upd H10 t5 (.tup [.ref c5, .int ((ps.take 3).length : Nat)])) := fun b o e => s_ _ _ (sH _ _ e)
    replace wt1 := wt1.same s_
    replace wt2 := wt2.same s_
    replace wt3 := wt3.same s_
    replace wt4 := wt4.same s_
    replace hc5 := s_ _ _ hc5
    replace hs6 := s_ _ _ hs6
    generalize upd H10 t5 (.tup [.ref c5, .int ((ps.take 3).length : Nat)]) = H11 at C sH ht5 wt1 wt2 wt3 wt4 hc5 hs6 ⊢
    clear s_ nt5
    have wt5 : WrongT p CM H11 t5 := ⟨.ref c5, _, _, ht5, wt_none hc5 C.ml, .inr ⟨_, by rw [List.length_take]; omega, rfl, rfl⟩, NotP.ref c5p⟩
    clear ht5
    clear hs6
    clear hc5
    refine ⟨by show 1 ≤ sizeLine; decide, fun z6 nz6 => ?_⟩
    have s_ := same_put (s := Same.refl H11) (o := .lst [.int 0]) nz6
    have z6p : z6 ≠ p := C.pen.nep nz6
    have hz6 : upd H11 z6 (.lst [.int 0]) z6 = some (.lst [.int 0]) := upd_same
    replace C := C.same s_
    replace sH : Same H (upd H11 z6 (.lst [.int 0])) := fun b o e => s_ _ _ (sH _ _ e)
    replace wt1 := wt1.same s_
    replace wt2 := wt2.same s_
    replace wt3 := wt3.same s_
    replace wt4 := wt4.same s_
    replace wt5 := wt5.same s_
    generalize upd H11 z6 (.lst [.int 0]) = H12 at C sH hz6 wt1 wt2 wt3 wt4 wt5 ⊢
    clear s_ nz6
    refine ⟨_, rfl, 1, rfl, a, refs ps, rfl, SqL.of C.made, ?_⟩
    rw [cut_d1, refs_drop]
    refine fun s7 ns7 => ?_
    have s_ := same_put (s := Same.refl H12) (o := .lst (refs (ps.drop 1))) ns7
    have s7p : s7 ≠ p := C.pen.nep ns7
    have hs7 : upd H12 s7 (.lst (refs (ps.drop 1))) s7 = some (.lst (refs (ps.drop 1))) := upd_same
    replace C := C.same s_
    replace sH : Same H (upd H12 s7 (.lst (refs (ps.drop 1)))) := fun b o e => s_ _ _ (sH _ _ e)
    replace wt1 := wt1.same s_
    replace wt2 := wt2.same s_
    replace wt3 := wt3.same s_
    replace wt4 := wt4.same s_
    replace wt5 := wt5.same s_
    replace hz6 := s_ _ _ hz6
    generalize upd H12 s7 (.lst (refs (ps.drop 1))) = H13 at C sH hs7 wt1 wt2 wt3 wt4 wt5 hz6 ⊢
    clear s_ ns7
    refine ⟨z6, s7, _, _, rfl, rfl, hz6, hs7, by rw [refs_len, List.length_drop, sizeLine_eq]; show 1 + (ps.length - 1) ≤ _; omega, fun c6 nc6 => ?_⟩
    have s_ := same_put (s := Same.refl H13) (o := .lst ([.int 0] ++ refs (ps.drop 1))) nc6
    have c6p : c6 ≠ p := C.pen.nep nc6
    have hc6 : upd H13 c6 (.lst ([.int 0] ++ refs (ps.drop 1))) c6 = some (.lst ([.int 0] ++ refs (ps.drop 1))) := upd_same
    replace C := C.same s_
    replace sH : Same H (upd H13 c6 (.lst ([.int 0] ++ refs (ps.drop 1)))) := fun b o e => s_ _ _ (sH _ _ e)
    replace wt1 := wt1.same s_
    replace wt2 := wt2.same s_
    replace wt3 := wt3.same s_
    replace wt4 := wt4.same s_
    replace wt5 := wt5.same s_
    replace hz6 := s_ _ _ hz6
    replace hs7 := s_ _ _ hs7
    generalize upd H13 c6 (.lst ([.int 0] ++ refs (ps.drop 1))) = H14 at C sH hc6 wt1 wt2 wt3 wt4 wt5 hz6 hs7 ⊢
    clear s_ nc6
    clear hz6
    clear hs7
    refine ⟨by show 2 ≤ sizeLine; decide, fun t6 nt6 => ?_⟩
    have s_ := same_put (s := Same.refl H14) (o := .tup [.ref c6, .int 0]) nt6
    have t6p : t6 ≠ p := C.pen.nep nt6
    have ht6 : upd H14 t6 (.tup [.ref c6, .int 0]) t6 = some (.tup [.ref c6, .int 0]) := upd_same
    replace C := C.same s_
    replace sH : Same H (upd H14 t6 (.tup [.ref c6, .int 0])) := fun b o e => s_ _ _ (sH _ _ e)
    replace wt1 := wt1.same s_
    replace wt2 := wt2.same s_
    replace wt3 := wt3.same s_
    replace wt4 := wt4.same s_
    replace wt5 := wt5.same s_
    replace hc6 := s_ _ _ hc6
    generalize upd H14 t6 (.tup [.ref c6, .int 0]) = H15 at C sH ht6 wt1 wt2 wt3 wt4 wt5 hc6 ⊢
    clear s_ nt6
    have wt6 : WrongT p CM H15 t6 := ⟨.ref c6, _, _, ht6, wt_zero hc6 C.ml g4, .inr ⟨0, by omega, rfl, rfl⟩, NotP.ref c6p⟩
    clear ht6
    clear hc6
    refine ⟨by show 6 ≤ sizeLine; decide, fun LL nLL => ?_⟩
    have s_ := same_put (s := Same.refl H15) (o := .lst [.ref t1, .ref t2, .ref t3, .ref t4, .ref t5, .ref t6]) nLL
    have LLp : LL ≠ p := C.pen.nep nLL
    have hLL : upd H15 LL (.lst [.ref t1, .ref t2, .ref t3, .ref t4, .ref t5, .ref t6]) LL = some (.lst [.ref t1, .ref t2, .ref t3, .ref t4, .ref t5, .ref t6]) := upd_same
    replace C := C.same s_
    replace sH : Same H (upd H15 LL (.lst [.ref t1, .ref t2, .ref t3, .ref t4, .ref t5, .ref t6])) := fun b o e => s_ _ _ (sH _ _ e)
    replace wt1 := wt1.same s_
    replace wt2 := wt2.same s_
    replace wt3 := wt3.same s_
    replace wt4 := wt4.same s_
    replace wt5 := wt5.same s_
    replace wt6 := wt6.same s_
    generalize upd H15 LL (.lst [.ref t1, .ref t2, .ref t3, .ref t4, .ref t5, .ref t6]) = H16 at C sH hLL wt1 wt2 wt3 wt4 wt5 wt6 ⊢
    clear s_ nLL
    refine atName ?_
    try dsimp only
    refine ⟨by show 1 ≤ sizeLine; decide, fun ta nta => ?_⟩
    have s_ := same_put (s := Same.refl H16) (o := .tup [.str "a"]) nta
    have tap : ta ≠ p := C.pen.nep nta
    have hta : upd H16 ta (.tup [.str "a"]) ta = some (.tup [.str "a"]) := upd_same
    replace C := C.same s_
    replace sH : Same H (upd H16 ta (.tup [.str "a"])) := fun b o e => s_ _ _ (sH _ _ e)
    replace wt1 := wt1.same s_
    replace wt2 := wt2.same s_
    replace wt3 := wt3.same s_
    replace wt4 := wt4.same s_
    replace wt5 := wt5.same s_
    replace wt6 := wt6.same s_
    replace hLL := s_ _ _ hLL
    generalize upd H16 ta (.tup [.str "a"]) = H17 at C sH hta wt1 wt2 wt3 wt4 wt5 wt6 hLL ⊢
    clear s_ nta
    refine ⟨by show 5 ≤ sizeLine; decide, fun TT nTT => ?_⟩
    have s_ := same_put (s := Same.refl H17) (o := .lst [.non, .int 0, .str "A", .str "a b", .ref ta]) nTT
    have TTp : TT ≠ p := C.pen.nep nTT
    have hTT : upd H17 TT (.lst [.non, .int 0, .str "A", .str "a b", .ref ta]) TT = some (.lst [.non, .int 0, .str "A", .str "a b", .ref ta]) := upd_same
    replace C := C.same s_
    replace sH : Same H (upd H17 TT (.lst [.non, .int 0, .str "A", .str "a b", .ref ta])) := fun b o e => s_ _ _ (sH _ _ e)
    replace wt1 := wt1.same s_
    replace wt2 := wt2.same s_
    replace wt3 := wt3.same s_
    replace wt4 := wt4.same s_
    replace wt5 := wt5.same s_
    replace wt6 := wt6.same s_
    replace hLL := s_ _ _ hLL
    replace hta := s_ _ _ hta
    generalize upd H17 TT (.lst [.non, .int 0, .str "A", .str "a b", .ref ta]) = H18 at C sH hTT wt1 wt2 wt3 wt4 wt5 wt6 hLL hta ⊢
    clear s_ nTT
    refine ⟨by show 2 ≤ sizeLine; decide, fun r1 nr1 => ?_⟩
    have s_ := same_put (s := Same.refl H18) (o := .tup [.non, .non]) nr1
    have r1p : r1 ≠ p := C.pen.nep nr1
    have hr1 : upd H18 r1 (.tup [.non, .non]) r1 = some (.tup [.non, .non]) := upd_same
    replace C := C.same s_
    replace sH : Same H (upd H18 r1 (.tup [.non, .non])) := fun b o e => s_ _ _ (sH _ _ e)
    replace wt1 := wt1.same s_
    replace wt2 := wt2.same s_
    replace wt3 := wt3.same s_
    replace wt4 := wt4.same s_
    replace wt5 := wt5.same s_
    replace wt6 := wt6.same s_
    replace hLL := s_ _ _ hLL
    replace hta := s_ _ _ hta
    replace hTT := s_ _ _ hTT
    generalize upd H18 r1 (.tup [.non, .non]) = H19 at C sH hr1 wt1 wt2 wt3 wt4 wt5 wt6 hLL hta hTT ⊢
    clear s_ nr1
    have wr1 : WrongR p ps.length H19 r1 := ⟨.non, .non, .none, hr1, .inl ⟨.inr (.inl rfl), rfl⟩, .inl ⟨rfl, rfl⟩, NotP.non⟩
    clear hr1
    refine ⟨by show 1 ≤ sizeLine; decide, fun e2 ne2 => ?_⟩
    have s_ := same_put (s := Same.refl H19) (o := .lst [.int 0]) ne2
    have e2p : e2 ≠ p := C.pen.nep ne2
    have he2 : upd H19 e2 (.lst [.int 0]) e2 = some (.lst [.int 0]) := upd_same
    replace C := C.same s_
    replace sH : Same H (upd H19 e2 (.lst [.int 0])) := fun b o e => s_ _ _ (sH _ _ e)
    replace wt1 := wt1.same s_
    replace wt2 := wt2.same s_
    replace wt3 := wt3.same s_
    replace wt4 := wt4.same s_
    replace wt5 := wt5.same s_
    replace wt6 := wt6.same s_
    replace hLL := s_ _ _ hLL
    replace hta := s_ _ _ hta
    replace hTT := s_ _ _ hTT
    replace wr1 := wr1.same s_
    generalize upd H19 e2 (.lst [.int 0]) = H20 at C sH he2 wt1 wt2 wt3 wt4 wt5 wt6 hLL hta hTT wr1 ⊢
    clear s_ ne2
    refine ⟨by show 2 ≤ sizeLine; decide, fun r2 nr2 => ?_⟩
    have s_ := same_put (s := Same.refl H20) (o := .tup [.ref e2, .non]) nr2
    have r2p : r2 ≠ p := C.pen.nep nr2
    have hr2 : upd H20 r2 (.tup [.ref e2, .non]) r2 = some (.tup [.ref e2, .non]) := upd_same
    replace C := C.same s_
    replace sH : Same H (upd H20 r2 (.tup [.ref e2, .non])) := fun b o e => s_ _ _ (sH _ _ e)
    replace wt1 := wt1.same s_
    replace wt2 := wt2.same s_
    replace wt3 := wt3.same s_
    replace wt4 := wt4.same s_
    replace wt5 := wt5.same s_
    replace wt6 := wt6.same s_
    replace hLL := s_ _ _ hLL
    replace hta := s_ _ _ hta
    replace hTT := s_ _ _ hTT
    replace wr1 := wr1.same s_
    replace he2 := s_ _ _ he2
    generalize upd H20 r2 (.tup [.ref e2, .non]) = H21 at C sH hr2 wt1 wt2 wt3 wt4 wt5 wt6 hLL hta hTT wr1 he2 ⊢
    clear s_ nr2
    have wr2 : WrongR p ps.length H21 r2 := ⟨.ref e2, .non, .none, hr2, .inl ⟨.inr (.inr ⟨e2, _, rfl, he2⟩), rfl⟩, .inl ⟨rfl, rfl⟩, NotP.ref e2p⟩
    clear hr2
    clear he2
    refine ⟨_, rfl, a, refs ps, rfl, .inl (SqL.of C.made), ?_⟩
    rw [refs_len]
    refine ⟨by show 2 ≤ sizeLine; decide, fun i3 ni3 => ?_⟩
    have s_ := same_put (s := Same.refl H21) (o := .tup [.int 0, .int (ps.length : Nat)]) ni3
    have i3p : i3 ≠ p := C.pen.nep ni3
    have hi3 : upd H21 i3 (.tup [.int 0, .int (ps.length : Nat)]) i3 = some (.tup [.int 0, .int (ps.length : Nat)]) := upd_same
    replace C := C.same s_
    replace sH : Same H (upd H21 i3 (.tup [.int 0, .int (ps.length : Nat)])) := fun b o e => s_ _ _ (sH _ _ e)
    replace wt1 := wt1.same s_
    replace wt2 := wt2.same s_
    replace wt3 := wt3.same s_
    replace wt4 := wt4.same s_
    replace wt5 := wt5.same s_
    replace wt6 := wt6.same s_
    replace hLL := s_ _ _ hLL
    replace hta := s_ _ _ hta
    replace hTT := s_ _ _ hTT
    replace wr1 := wr1.same s_
    replace wr2 := wr2.same s_
    generalize upd H21 i3 (.tup [.int 0, .int (ps.length : Nat)]) = H22 at C sH hi3 wt1 wt2 wt3 wt4 wt5 wt6 hLL hta hTT wr1 wr2 ⊢
    clear s_ ni3
    have bi3 : RwBad H22 (.ref i3) ps.length (.int ((1 : Nat) : Int)) := wr_at (y := .int (ps.length : Nat)) hi3 (by show 2 ≤ 100; decide) (fun y hy => by
      simp only [List.mem_cons, List.not_mem_nil, or_false] at hy
      rcases hy with rfl | rfl
      · exact flat_int
      · exact flat_int) rfl inN (fun z hz => by rw [List.mem_singleton.mp (show z ∈ [V.int 0] from hz)]; exact in0 g1)
    refine ⟨by show 2 ≤ sizeLine; decide, fun r3 nr3 => ?_⟩
    have s_ := same_put (s := Same.refl H22) (o := .tup [.ref i3, .int 1]) nr3
    have r3p : r3 ≠ p := C.pen.nep nr3
    have hr3 : upd H22 r3 (.tup [.ref i3, .int 1]) r3 = some (.tup [.ref i3, .int 1]) := upd_same
    replace C := C.same s_
    replace sH : Same H (upd H22 r3 (.tup [.ref i3, .int 1])) := fun b o e => s_ _ _ (sH _ _ e)
    replace wt1 := wt1.same s_
    replace wt2 := wt2.same s_
    replace wt3 := wt3.same s_
    replace wt4 := wt4.same s_
    replace wt5 := wt5.same s_
    replace wt6 := wt6.same s_
    replace hLL := s_ _ _ hLL
    replace hta := s_ _ _ hta
    replace hTT := s_ _ _ hTT
    replace wr1 := wr1.same s_
    replace wr2 := wr2.same s_
    replace hi3 := s_ _ _ hi3
    replace bi3 := bi3.same s_
    generalize upd H22 r3 (.tup [.ref i3, .int 1]) = H23 at C sH hr3 wt1 wt2 wt3 wt4 wt5 wt6 hLL hta hTT wr1 wr2 hi3 bi3 ⊢
    clear s_ nr3
    have wr3 : WrongR p ps.length H23 r3 := ⟨.ref i3, _, _, hr3, bi3, .inr ⟨1, by omega, rfl, rfl⟩, NotP.ref i3p⟩
    clear hr3
    clear hi3
    clear bi3
    refine ⟨by show 1 ≤ sizeLine; decide, fun i4 ni4 => ?_⟩
    have s_ := same_put (s := Same.refl H23) (o := .tup [.bl true]) ni4
    have i4p : i4 ≠ p := C.pen.nep ni4
    have hi4 : upd H23 i4 (.tup [.bl true]) i4 = some (.tup [.bl true]) := upd_same
    replace C := C.same s_
    replace sH : Same H (upd H23 i4 (.tup [.bl true])) := fun b o e => s_ _ _ (sH _ _ e)
    replace wt1 := wt1.same s_
    replace wt2 := wt2.same s_
    replace wt3 := wt3.same s_
    replace wt4 := wt4.same s_
    replace wt5 := wt5.same s_
    replace wt6 := wt6.same s_
    replace hLL := s_ _ _ hLL
    replace hta := s_ _ _ hta
    replace hTT := s_ _ _ hTT
    replace wr1 := wr1.same s_
    replace wr2 := wr2.same s_
    replace wr3 := wr3.same s_
    generalize upd H23 i4 (.tup [.bl true]) = H24 at C sH hi4 wt1 wt2 wt3 wt4 wt5 wt6 hLL hta hTT wr1 wr2 wr3 ⊢
    clear s_ ni4
    have bi4 : RwBad H24 (.ref i4) ps.length (.int ((0 : Nat) : Int)) := wr_at (y := .bl true) hi4 (by show 1 ≤ 100; decide) (fun y hy => by
      simp only [List.mem_cons, List.not_mem_nil, or_false] at hy
      rw [hy]
      exact flat_bl) rfl rfl (fun z hz => nomatch hz)
    refine ⟨by show 2 ≤ sizeLine; decide, fun r4 nr4 => ?_⟩
    have s_ := same_put (s := Same.refl H24) (o := .tup [.ref i4, .int 0]) nr4
    have r4p : r4 ≠ p := C.pen.nep nr4
    have hr4 : upd H24 r4 (.tup [.ref i4, .int 0]) r4 = some (.tup [.ref i4, .int 0]) := upd_same
    replace C := C.same s_
    replace sH : Same H (upd H24 r4 (.tup [.ref i4, .int 0])) := fun b o e => s_ _ _ (sH _ _ e)
    replace wt1 := wt1.same s_
    replace wt2 := wt2.same s_
    replace wt3 := wt3.same s_
    replace wt4 := wt4.same s_
    replace wt5 := wt5.same s_
    replace wt6 := wt6.same s_
    replace hLL := s_ _ _ hLL
    replace hta := s_ _ _ hta
    replace hTT := s_ _ _ hTT
    replace wr1 := wr1.same s_
    replace wr2 := wr2.same s_
    replace wr3 := wr3.same s_
    replace hi4 := s_ _ _ hi4
    replace bi4 := bi4.same s_
    generalize upd H24 r4 (.tup [.ref i4, .int 0]) = H25 at C sH hr4 wt1 wt2 wt3 wt4 wt5 wt6 hLL hta hTT wr1 wr2 wr3 hi4 bi4 ⊢
    clear s_ nr4
    have wr4 : WrongR p ps.length H25 r4 := ⟨.ref i4, _, _, hr4, bi4, .inr ⟨0, by omega, rfl, rfl⟩, NotP.ref i4p⟩
    clear hr4
    clear hi4
    clear bi4
    refine ⟨1, rfl, ⟨by show 1 ≤ sizeLine; decide, fun i5 ni5 => ?_⟩⟩
    have s_ := same_put (s := Same.refl H25) (o := .tup [.int (-1)]) ni5
    have i5p : i5 ≠ p := C.pen.nep ni5
    have hi5 : upd H25 i5 (.tup [.int (-1)]) i5 = some (.tup [.int (-1)]) := upd_same
    replace C := C.same s_
    replace sH : Same H (upd H25 i5 (.tup [.int (-1)])) := fun b o e => s_ _ _ (sH _ _ e)
    replace wt1 := wt1.same s_
    replace wt2 := wt2.same s_
    replace wt3 := wt3.same s_
    replace wt4 := wt4.same s_
    replace wt5 := wt5.same s_
    replace wt6 := wt6.same s_
    replace hLL := s_ _ _ hLL
    replace hta := s_ _ _ hta
    replace hTT := s_ _ _ hTT
    replace wr1 := wr1.same s_
    replace wr2 := wr2.same s_
    replace wr3 := wr3.same s_
    replace wr4 := wr4.same s_
    generalize upd H25 i5 (.tup [.int (-1)]) = H26 at C sH hi5 wt1 wt2 wt3 wt4 wt5 wt6 hLL hta hTT wr1 wr2 wr3 wr4 ⊢
    clear s_ ni5
    have bi5 : RwBad H26 (.ref i5) ps.length (.int ((0 : Nat) : Int)) := wr_at (y := .int (-1)) hi5 (by show 1 ≤ 100; decide) (fun y hy => by
      simp only [List.mem_cons, List.not_mem_nil, or_false] at hy
      rw [hy]
      exact flat_int) rfl inM (fun z hz => nomatch hz)
    refine ⟨by show 2 ≤ sizeLine; decide, fun r5 nr5 => ?_⟩
    have s_ := same_put (s := Same.refl H26) (o := .tup [.ref i5, .int 0]) nr5
    have r5p : r5 ≠ p := C.pen.nep nr5
    have hr5 : upd H26 r5 (.tup [.ref i5, .int 0]) r5 = some (.tup [.ref i5, .int 0]) := upd_same
    replace C := C.same s_
    replace sH : Same H (upd H26 r5 (.tup [.ref i5, .int 0])) := fun b o e => s_ _ _ (sH _ _ e)
    replace wt1 := wt1.same s_
    replace wt2 := wt2.same s_
    replace wt3 := wt3.same s_
    replace wt4 := wt4.same s_
    replace wt5 := wt5.same s_
    replace wt6 := wt6.same s_
    replace hLL := s_ _ _ hLL
    replace hta := s_ _ _ hta
    replace hTT := s_ _ _ hTT
    replace wr1 := wr1.same s_
    replace wr2 := wr2.same s_
    replace wr3 := wr3.same s_
    replace wr4 := wr4.same s_
    replace hi5 := s_ _ _ hi5
    replace bi5 := bi5.same s_
    generalize upd H26 r5 (.tup [.ref i5, .int 0]) = H27 at C sH hr5 wt1 wt2 wt3 wt4 wt5 wt6 hLL hta hTT wr1 wr2 wr3 wr4 hi5 bi5 ⊢
    clear s_ nr5
    have wr5 : WrongR p ps.length H27 r5 := ⟨.ref i5, _, _, hr5, bi5, .inr ⟨0, by omega, rfl, rfl⟩, NotP.ref i5p⟩
    clear hr5
    clear hi5
    clear bi5
    refine ⟨by show 5 ≤ sizeLine; decide, fun R1 nR1 => ?_⟩
    have s_ := same_put (s := Same.refl H27) (o := .lst [.ref r1, .ref r2, .ref r3, .ref r4, .ref r5]) nR1
    have R1p : R1 ≠ p := C.pen.nep nR1
    have hR1 : upd H27 R1 (.lst [.ref r1, .ref r2, .ref r3, .ref r4, .ref r5]) R1 = some (.lst [.ref r1, .ref r2, .ref r3, .ref r4, .ref r5]) := upd_same
    replace C := C.same s_
    replace sH : Same H (upd H27 R1 (.lst [.ref r1, .ref r2, .ref r3, .ref r4, .ref r5])) := fun b o e => s_ _ _ (sH _ _ e)
    replace wt1 := wt1.same s_
    replace wt2 := wt2.same s_
    replace wt3 := wt3.same s_
    replace wt4 := wt4.same s_
    replace wt5 := wt5.same s_
    replace wt6 := wt6.same s_
    replace hLL := s_ _ _ hLL
    replace hta := s_ _ _ hta
    replace hTT := s_ _ _ hTT
    replace wr1 := wr1.same s_
    replace wr2 := wr2.same s_
    replace wr3 := wr3.same s_
    replace wr4 := wr4.same s_
    replace wr5 := wr5.same s_
    generalize upd H27 R1 (.lst [.ref r1, .ref r2, .ref r3, .ref r4, .ref r5]) = H28 at C sH hR1 wt1 wt2 wt3 wt4 wt5 wt6 hLL hta hTT wr1 wr2 wr3 wr4 wr5 ⊢
    clear s_ nR1
    refine ⟨_, _, rfl, ?_⟩
    try dsimp only
    refine ⟨_, rfl, ?_⟩
    refine ⟨by show 2 ≤ sizeLine; decide, fun i6 ni6 => ?_⟩
    have s_ := same_put (s := Same.refl H28) (o := .tup [.int 0, .str "0"]) ni6
    have i6p : i6 ≠ p := C.pen.nep ni6
    have hi6 : upd H28 i6 (.tup [.int 0, .str "0"]) i6 = some (.tup [.int 0, .str "0"]) := upd_same
    replace C := C.same s_
    replace sH : Same H (upd H28 i6 (.tup [.int 0, .str "0"])) := fun b o e => s_ _ _ (sH _ _ e)
    replace wt1 := wt1.same s_
    replace wt2 := wt2.same s_
    replace wt3 := wt3.same s_
    replace wt4 := wt4.same s_
    replace wt5 := wt5.same s_
    replace wt6 := wt6.same s_
    replace hLL := s_ _ _ hLL
    replace hta := s_ _ _ hta
    replace hTT := s_ _ _ hTT
    replace wr1 := wr1.same s_
    replace wr2 := wr2.same s_
    replace wr3 := wr3.same s_
    replace wr4 := wr4.same s_
    replace wr5 := wr5.same s_
    replace hR1 := s_ _ _ hR1
    generalize upd H28 i6 (.tup [.int 0, .str "0"]) = H29 at C sH hi6 wt1 wt2 wt3 wt4 wt5 wt6 hLL hta hTT wr1 wr2 wr3 wr4 wr5 hR1 ⊢
    clear s_ ni6
    have bi6 : RwBad H29 (.ref i6) ps.length (.int ((1 : Nat) : Int)) := wr_at (y := .str "0") hi6 (by show 2 ≤ 100; decide) (fun y hy => by
      simp only [List.mem_cons, List.not_mem_nil, or_false] at hy
      rcases hy with rfl | rfl
      · exact flat_int
      · exact flat_str) rfl rfl (fun z hz => by rw [List.mem_singleton.mp (show z ∈ [V.int 0] from hz)]; exact in0 g1)
    refine ⟨by show 2 ≤ sizeLine; decide, fun r6 nr6 => ?_⟩
    have s_ := same_put (s := Same.refl H29) (o := .tup [.ref i6, .int 1]) nr6
    have r6p : r6 ≠ p := C.pen.nep nr6
    have hr6 : upd H29 r6 (.tup [.ref i6, .int 1]) r6 = some (.tup [.ref i6, .int 1]) := upd_same
    replace C := C.same s_
    replace sH : Same H (upd H29 r6 (.tup [.ref i6, .int 1])) := fun b o e => s_ _ _ (sH _ _ e)
    replace wt1 := wt1.same s_
    replace wt2 := wt2.same s_
    replace wt3 := wt3.same s_
    replace wt4 := wt4.same s_
    replace wt5 := wt5.same s_
    replace wt6 := wt6.same s_
    replace hLL := s_ _ _ hLL
    replace hta := s_ _ _ hta
    replace hTT := s_ _ _ hTT
    replace wr1 := wr1.same s_
    replace wr2 := wr2.same s_
    replace wr3 := wr3.same s_
    replace wr4 := wr4.same s_
    replace wr5 := wr5.same s_
    replace hR1 := s_ _ _ hR1
    replace hi6 := s_ _ _ hi6
    replace bi6 := bi6.same s_
    generalize upd H29 r6 (.tup [.ref i6, .int 1]) = H30 at C sH hr6 wt1 wt2 wt3 wt4 wt5 wt6 hLL hta hTT wr1 wr2 wr3 wr4 wr5 hR1 hi6 bi6 ⊢
    clear s_ nr6
    have wr6 : WrongR p ps.length H30 r6 := ⟨.ref i6, _, _, hr6, bi6, .inr ⟨1, by omega, rfl, rfl⟩, NotP.ref i6p⟩
    clear hr6
    clear hi6
    clear bi6
    refine ⟨by show 2 ≤ sizeLine; decide, fun r7 nr7 => ?_⟩
    have s_ := same_put (s := Same.refl H30) (o := .tup [.str "0", .non]) nr7
    have r7p : r7 ≠ p := C.pen.nep nr7
    have hr7 : upd H30 r7 (.tup [.str "0", .non]) r7 = some (.tup [.str "0", .non]) := upd_same
    replace C := C.same s_
    replace sH : Same H (upd H30 r7 (.tup [.str "0", .non])) := fun b o e => s_ _ _ (sH _ _ e)
    replace wt1 := wt1.same s_
    replace wt2 := wt2.same s_
    replace wt3 := wt3.same s_
    replace wt4 := wt4.same s_
    replace wt5 := wt5.same s_
    replace wt6 := wt6.same s_
    replace hLL := s_ _ _ hLL
    replace hta := s_ _ _ hta
    replace hTT := s_ _ _ hTT
    replace wr1 := wr1.same s_
    replace wr2 := wr2.same s_
    replace wr3 := wr3.same s_
    replace wr4 := wr4.same s_
    replace wr5 := wr5.same s_
    replace hR1 := s_ _ _ hR1
    replace wr6 := wr6.same s_
    generalize upd H30 r7 (.tup [.str "0", .non]) = H31 at C sH hr7 wt1 wt2 wt3 wt4 wt5 wt6 hLL hta hTT wr1 wr2 wr3 wr4 wr5 hR1 wr6 ⊢
    clear s_ nr7
    have wr7 : WrongR p ps.length H31 r7 := ⟨.str "0", .non, .none, hr7, .inl ⟨.inl ⟨_, rfl⟩, rfl⟩, .inl ⟨rfl, rfl⟩, NotP.str⟩
    clear hr7
    refine ⟨by show 3 ≤ sizeLine; decide, fun i8 ni8 => ?_⟩
    have s_ := same_put (s := Same.refl H31) (o := .tup [.int 0, .int 0, .non]) ni8
    have i8p : i8 ≠ p := C.pen.nep ni8
    have hi8 : upd H31 i8 (.tup [.int 0, .int 0, .non]) i8 = some (.tup [.int 0, .int 0, .non]) := upd_same
    replace C := C.same s_
    replace sH : Same H (upd H31 i8 (.tup [.int 0, .int 0, .non])) := fun b o e => s_ _ _ (sH _ _ e)
    replace wt1 := wt1.same s_
    replace wt2 := wt2.same s_
    replace wt3 := wt3.same s_
    replace wt4 := wt4.same s_
    replace wt5 := wt5.same s_
    replace wt6 := wt6.same s_
    replace hLL := s_ _ _ hLL
    replace hta := s_ _ _ hta
    replace hTT := s_ _ _ hTT
    replace wr1 := wr1.same s_
    replace wr2 := wr2.same s_
    replace wr3 := wr3.same s_
    replace wr4 := wr4.same s_
    replace wr5 := wr5.same s_
    replace hR1 := s_ _ _ hR1
    replace wr6 := wr6.same s_
    replace wr7 := wr7.same s_
    generalize upd H31 i8 (.tup [.int 0, .int 0, .non]) = H32 at C sH hi8 wt1 wt2 wt3 wt4 wt5 wt6 hLL hta hTT wr1 wr2 wr3 wr4 wr5 hR1 wr6 wr7 ⊢
    clear s_ ni8
    have bi8 : RwBad H32 (.ref i8) ps.length (.int ((2 : Nat) : Int)) := wr_at (y := .non) hi8 (by show 3 ≤ 100; decide) (fun y hy => by
      simp only [List.mem_cons, List.not_mem_nil, or_false] at hy
      rcases hy with rfl | rfl | rfl
      · exact flat_int
      · exact flat_int
      · exact flat_non) rfl rfl (fun z hz => by
      have hz : z ∈ [V.int 0, V.int 0] := hz
      simp only [List.mem_cons, List.not_mem_nil, or_false, or_self] at hz
      rw [hz]
      exact in0 g1)
    refine ⟨by show 2 ≤ sizeLine; decide, fun r8 nr8 => ?_⟩
    have s_ := same_put (s := Same.refl H32) (o := .tup [.ref i8, .int 2]) nr8
    have r8p : r8 ≠ p := C.pen.nep nr8
    have hr8 : upd H32 r8 (.tup [.ref i8, .int 2]) r8 = some (.tup [.ref i8, .int 2]) := upd_same
    replace C := C.same s_
    replace sH : Same H (upd H32 r8 (.tup [.ref i8, .int 2])) := fun b o e => s_ _ _ (sH _ _ e)
    replace wt1 := wt1.same s_
    replace wt2 := wt2.same s_
    replace wt3 := wt3.same s_
    replace wt4 := wt4.same s_
    replace wt5 := wt5.same s_
    replace wt6 := wt6.same s_
    replace hLL := s_ _ _ hLL
    replace hta := s_ _ _ hta
    replace hTT := s_ _ _ hTT
    replace wr1 := wr1.same s_
    replace wr2 := wr2.same s_
    replace wr3 := wr3.same s_
    replace wr4 := wr4.same s_
    replace wr5 := wr5.same s_
    replace hR1 := s_ _ _ hR1
    replace wr6 := wr6.same s_
    replace wr7 := wr7.same s_
    replace hi8 := s_ _ _ hi8
    replace bi8 := bi8.same s_
    generalize upd H32 r8 (.tup [.ref i8, .int 2]) = H33 at C sH hr8 wt1 wt2 wt3 wt4 wt5 wt6 hLL hta hTT wr1 wr2 wr3 wr4 wr5 hR1 wr6 wr7 hi8 bi8 ⊢
    clear s_ nr8
    have wr8 : WrongR p ps.length H33 r8 := ⟨.ref i8, _, _, hr8, bi8, .inr ⟨2, by omega, rfl, rfl⟩, NotP.ref i8p⟩
    clear hr8
    clear hi8
    clear bi8
    refine ⟨1, rfl, ⟨by show 4 ≤ sizeLine; decide, fun i9 ni9 => ?_⟩⟩
    have s_ := same_put (s := Same.refl H33) (o := .tup [.int 0, .non, .str "0", .int (-1)]) ni9
    have i9p : i9 ≠ p := C.pen.nep ni9
    have hi9 : upd H33 i9 (.tup [.int 0, .non, .str "0", .int (-1)]) i9 = some (.tup [.int 0, .non, .str "0", .int (-1)]) := upd_same
    replace C := C.same s_
    replace sH : Same H (upd H33 i9 (.tup [.int 0, .non, .str "0", .int (-1)])) := fun b o e => s_ _ _ (sH _ _ e)
    replace wt1 := wt1.same s_
    replace wt2 := wt2.same s_
    replace wt3 := wt3.same s_
    replace wt4 := wt4.same s_
    replace wt5 := wt5.same s_
    replace wt6 := wt6.same s_
    replace hLL := s_ _ _ hLL
    replace hta := s_ _ _ hta
    replace hTT := s_ _ _ hTT
    replace wr1 := wr1.same s_
    replace wr2 := wr2.same s_
    replace wr3 := wr3.same s_
    replace wr4 := wr4.same s_
    replace wr5 := wr5.same s_
    replace hR1 := s_ _ _ hR1
    replace wr6 := wr6.same s_
    replace wr7 := wr7.same s_
    replace wr8 := wr8.same s_
    generalize upd H33 i9 (.tup [.int 0, .non, .str "0", .int (-1)]) = H34 at C sH hi9 wt1 wt2 wt3 wt4 wt5 wt6 hLL hta hTT wr1 wr2 wr3 wr4 wr5 hR1 wr6 wr7 wr8 ⊢
    clear s_ ni9
    have bi9 : RwBad H34 (.ref i9) ps.length (.int ((1 : Nat) : Int)) := wr_at (y := .non) hi9 (by show 4 ≤ 100; decide) (fun y hy => by
      simp only [List.mem_cons, List.not_mem_nil, or_false] at hy
      rcases hy with rfl | rfl | rfl | rfl
      · exact flat_int
      · exact flat_non
      · exact flat_str
      · exact flat_int) rfl rfl (fun z hz => by rw [List.mem_singleton.mp (show z ∈ [V.int 0] from hz)]; exact in0 g1)
    refine ⟨by show 2 ≤ sizeLine; decide, fun r9 nr9 => ?_⟩
    have s_ := same_put (s := Same.refl H34) (o := .tup [.ref i9, .int 1]) nr9
    have r9p : r9 ≠ p := C.pen.nep nr9
    have hr9 : upd H34 r9 (.tup [.ref i9, .int 1]) r9 = some (.tup [.ref i9, .int 1]) := upd_same
    replace C := C.same s_
    replace sH : Same H (upd H34 r9 (.tup [.ref i9, .int 1])) := fun b o e => s_ _ _ (sH _ _ e)
    replace wt1 := wt1.same s_
    replace wt2 := wt2.same s_
    replace wt3 := wt3.same s_
    replace wt4 := wt4.same s_
    replace wt5 := wt5.same s_
    replace wt6 := wt6.same s_
    replace hLL := s_ _ _ hLL
    replace hta := s_ _ _ hta
    replace hTT := s_ _ _ hTT
    replace wr1 := wr1.same s_
    replace wr2 := wr2.same s_
    replace wr3 := wr3.same s_
    replace wr4 := wr4.same s_
    replace wr5 := wr5.same s_
    replace hR1 := s_ _ _ hR1
    replace wr6 := wr6.same s_
    replace wr7 := wr7.same s_
    replace wr8 := wr8.same s_
    replace hi9 := s_ _ _ hi9
    replace bi9 := bi9.same s_
    generalize upd H34 r9 (.tup [.ref i9, .int 1]) = H35 at C sH hr9 wt1 wt2 wt3 wt4 wt5 wt6 hLL hta hTT wr1 wr2 wr3 wr4 wr5 hR1 wr6 wr7 wr8 hi9 bi9 ⊢
    clear s_ nr9
    have wr9 : WrongR p ps.length H35 r9 := ⟨.ref i9, _, _, hr9, bi9, .inr ⟨1, by omega, rfl, rfl⟩, NotP.ref i9p⟩
    clear hr9
    clear hi9
    clear bi9
    refine ⟨by show 4 ≤ sizeLine; decide, fun R2 nR2 => ?_⟩
    have s_ := same_put (s := Same.refl H35) (o := .lst [.ref r6, .ref r7, .ref r8, .ref r9]) nR2
    have R2p : R2 ≠ p := C.pen.nep nR2
    have hR2 : upd H35 R2 (.lst [.ref r6, .ref r7, .ref r8, .ref r9]) R2 = some (.lst [.ref r6, .ref r7, .ref r8, .ref r9]) := upd_same
    replace C := C.same s_
    replace sH : Same H (upd H35 R2 (.lst [.ref r6, .ref r7, .ref r8, .ref r9])) := fun b o e => s_ _ _ (sH _ _ e)
    replace wt1 := wt1.same s_
    replace wt2 := wt2.same s_
    replace wt3 := wt3.same s_
    replace wt4 := wt4.same s_
    replace wt5 := wt5.same s_
    replace wt6 := wt6.same s_
    replace hLL := s_ _ _ hLL
    replace hta := s_ _ _ hta
    replace hTT := s_ _ _ hTT
    replace wr1 := wr1.same s_
    replace wr2 := wr2.same s_
    replace wr3 := wr3.same s_
    replace wr4 := wr4.same s_
    replace wr5 := wr5.same s_
    replace hR1 := s_ _ _ hR1
    replace wr6 := wr6.same s_
    replace wr7 := wr7.same s_
    replace wr8 := wr8.same s_
    replace wr9 := wr9.same s_
    generalize upd H35 R2 (.lst [.ref r6, .ref r7, .ref r8, .ref r9]) = H36 at C sH hR2 wt1 wt2 wt3 wt4 wt5 wt6 hLL hta hTT wr1 wr2 wr3 wr4 wr5 hR1 wr6 wr7 wr8 wr9 ⊢
    clear s_ nR2
    refine ⟨R1, R2, _, _, rfl, rfl, hR1, hR2, by show 9 ≤ sizeLine; decide, fun RR nRR => ?_⟩
    have s_ := same_put (s := Same.refl H36) (o := .lst ([.ref r1, .ref r2, .ref r3, .ref r4, .ref r5] ++ [.ref r6, .ref r7, .ref r8, .ref r9])) nRR
    have RRp : RR ≠ p := C.pen.nep nRR
    have hRR : upd H36 RR (.lst ([.ref r1, .ref r2, .ref r3, .ref r4, .ref r5] ++ [.ref r6, .ref r7, .ref r8, .ref r9])) RR = some (.lst ([.ref r1, .ref r2, .ref r3, .ref r4, .ref r5] ++ [.ref r6, .ref r7, .ref r8, .ref r9])) := upd_same
    replace C := C.same s_
    replace sH : Same H (upd H36 RR (.lst ([.ref r1, .ref r2, .ref r3, .ref r4, .ref r5] ++ [.ref r6, .ref r7, .ref r8, .ref r9]))) := fun b o e => s_ _ _ (sH _ _ e)
    replace wt1 := wt1.same s_
    replace wt2 := wt2.same s_
    replace wt3 := wt3.same s_
    replace wt4 := wt4.same s_
    replace wt5 := wt5.same s_
    replace wt6 := wt6.same s_
    replace hLL := s_ _ _ hLL
    replace hta := s_ _ _ hta
    replace hTT := s_ _ _ hTT
    replace wr1 := wr1.same s_
    replace wr2 := wr2.same s_
    replace wr3 := wr3.same s_
    replace wr4 := wr4.same s_
    replace wr5 := wr5.same s_
    replace hR1 := s_ _ _ hR1
    replace wr6 := wr6.same s_
    replace wr7 := wr7.same s_
    replace wr8 := wr8.same s_
    replace wr9 := wr9.same s_
    replace hR2 := s_ _ _ hR2
    generalize upd H36 RR (.lst ([.ref r1, .ref r2, .ref r3, .ref r4, .ref r5] ++ [.ref r6, .ref r7, .ref r8, .ref r9])) = H37 at C sH hRR wt1 wt2 wt3 wt4 wt5 wt6 hLL hta hTT wr1 wr2 wr3 wr4 wr5 hR1 wr6 wr7 wr8 wr9 hR2 ⊢
    clear s_ nRR
    clear hR1
    clear hR2
    refine atName ?_
    try dsimp only
    have wT : ∀ v ∈ [V.ref t1, .ref t2, .ref t3, .ref t4, .ref t5, .ref t6], ∃ b, v = .ref b ∧ WrongT p CM H37 b := fun v hv => by
      simp only [List.mem_cons, List.not_mem_nil, or_false] at hv
      rcases hv with rfl | rfl | rfl | rfl | rfl | rfl
      · exact ⟨_, rfl, wt1⟩
      · exact ⟨_, rfl, wt2⟩
      · exact ⟨_, rfl, wt3⟩
      · exact ⟨_, rfl, wt4⟩
      · exact ⟨_, rfl, wt5⟩
      · exact ⟨_, rfl, wt6⟩
    have wR : ∀ v ∈ [V.ref r1, .ref r2, .ref r3, .ref r4, .ref r5] ++ [V.ref r6, .ref r7, .ref r8, .ref r9], ∃ b, v = .ref b ∧ WrongR p ps.length H37 b := fun v hv => by
      simp only [List.cons_append, List.nil_append, List.mem_cons, List.not_mem_nil, or_false] at hv
      rcases hv with rfl | rfl | rfl | rfl | rfl | rfl | rfl | rfl | rfl
      · exact ⟨_, rfl, wr1⟩
      · exact ⟨_, rfl, wr2⟩
      · exact ⟨_, rfl, wr3⟩
      · exact ⟨_, rfl, wr4⟩
      · exact ⟨_, rfl, wr5⟩
      · exact ⟨_, rfl, wr6⟩
      · exact ⟨_, rfl, wr7⟩
      · exact ⟨_, rfl, wr8⟩
      · exact ⟨_, rfl, wr9⟩
    have oT : ∀ v ∈ [V.non, .int 0, .str "A", .str "a b", .ref ta], ∃ d, OddT H37 v d := fun v hv => odd_of5 hta hv
    have mH : Mv p H H37 := Mv.ofSame sH
    clear wt1 wt2 wt3 wt4 wt5 wt6 wr1 wr2 wr3 wr4 wr5 wr6 wr7 wr8 wr9 hta sH
    refine ⟨_, rfl, _, rfl, p, l, LL, ns, n + 9, _, rfl, C.pen.less (by omega), SqL.of hLL, by show 0 < 6; decide, by show 6 < 1000; decide, fun H' fr => SqL.of (fr _ _ hLL LLp), fun v1 Ha hv1 PAa fra => ?_⟩
    obtain ⟨b1, rfl, W1⟩ := wT v1 hv1
    have ma := Mv.ofFr fra
    replace W1 := W1.mv C.pen.pl ma
    have wRa : ∀ v ∈ _, ∃ b, v = V.ref b ∧ WrongR p ps.length Ha b := fun v hv => by
      obtain ⟨b, e, w⟩ := wR v hv
      exact ⟨b, e, w.mv C.pen.pl ma⟩
    have oTa : ∀ v ∈ _, ∃ d, OddT Ha v d := fun v hv => by
      obtain ⟨d, o⟩ := oT v hv
      exact ⟨d, o.mv C.pen.pl ma⟩
    have hTTa := fra _ _ hTT TTp
    have hRRa := fra _ _ hRR RRp
    replace mH := mH.trans ma
    have Ca : CK TL CM p l a ns (n + 9) ps Ha := ⟨PAa, fra _ _ C.made ap, C.ml.mv C.pen.pl ma, tabs_fr C.tb C.pen.pl fra⟩
    clear wR oT hTT hRR wT hv1 hLL PAa fra ma C
    refine ⟨_, rfl, _, rfl, p, l, TT, ns, n + 8, _, rfl, Ca.pen.less (by omega), SqL.of hTTa, by show 0 < 5; decide, by show 5 < 1000; decide, fun H' fr => SqL.of (fr _ _ hTTa TTp), fun v2 Hb hv2 PAb frb => ?_⟩
    obtain ⟨d2, O2⟩ := oTa v2 hv2
    have mb := Mv.ofFr frb
    replace W1 := W1.mv Ca.pen.pl mb
    replace O2 := O2.mv Ca.pen.pl mb
    have wRb : ∀ v ∈ _, ∃ b, v = V.ref b ∧ WrongR p ps.length Hb b := fun v hv => by
      obtain ⟨b, e, w⟩ := wRa v hv
      exact ⟨b, e, w.mv Ca.pen.pl mb⟩
    have hRRb := frb _ _ hRRa RRp
    replace mH := mH.trans mb
    have Cb : CK TL CM p l a ns (n + 8) ps Hb := ⟨PAb, frb _ _ Ca.made ap, Ca.ml.mv Ca.pen.pl mb, tabs_fr Ca.tb Ca.pen.pl frb⟩
    clear wRa oTa hTTa hRRa hv2 PAb frb mb Ca
    refine ⟨_, rfl, _, rfl, p, l, RR, ns, n, _, rfl, Cb.pen.less (by omega), SqL.of hRRb, by show 0 < 9; decide, by show 9 < 1000; decide, fun H' fr => SqL.of (fr _ _ hRRb RRp), fun v3 Hc hv3 PAc frc => ?_⟩
    obtain ⟨b3, rfl, W3⟩ := wRb v3 hv3
    have mc := Mv.ofFr frc
    replace W1 := W1.mv Cb.pen.pl mc
    replace O2 := O2.mv Cb.pen.pl mc
    replace W3 := W3.mv Cb.pen.pl mc
    replace mH := mH.trans mc
    have Cc : CK TL CM p l a ns n ps Hc := ⟨PAc, frc _ _ Cb.made ap, Cb.ml.mv Cb.pen.pl mc, tabs_fr Cb.tb Cb.pen.pl frc⟩
    clear wRb hRRb hv3 PAc frc mc Cb
    obtain ⟨w1, y1, d1, h1, M1, A1, N1⟩ := W1
    obtain ⟨w3, y3, d3, h3, M3, A3, N3⟩ := W3
    refine ⟨by show 3 ≤ sizeLine; decide, fun tq nq => ⟨tq, _, rfl, .inl (.inl upd_same), rfl, _, _, rfl, _, _, rfl, _, _, rfl, ?_⟩⟩
    have s_ := same_put (s := Same.refl Hc) (o := .tup [.ref b1, v2, .ref b3]) nq
    replace Cc := Cc.same s_
    replace h1 := s_ _ _ h1
    replace h3 := s_ _ _ h3
    replace M1 := M1.same s_
    replace M3 := M3.same s_
    replace O2 := O2.ext (ExtN.of s_)
    replace mH := mH.trans (Mv.ofSame s_)
    generalize upd Hc tq (.tup [.ref b1, v2, .ref b3]) = Hd at Cc h1 h3 M1 M3 O2 mH ⊢
    clear s_ nq
    refine ⟨b3, [w3, y3], rfl, .inl (.inl h3), rfl, _, _, rfl, _, _, rfl, rfl, ?_⟩
    refine ⟨rfl, ?_⟩
    try dsimp only
    clear N1 N3 h3 LLp TTp R1p R2p RRp
    refine ⟨_, rfl, b1, [w1, y1], 1, y1, rfl, rfl, .inl (.inl h1), rfl, by show 2 ≤ sizeLine; decide, fun u1 nu1 => ?_⟩
    have s_ := same_put (s := Same.refl Hd) (o := .tup [.str "list", y1]) nu1
    have hu1 : upd Hd u1 (.tup [.str "list", y1]) u1 = some (.tup [.str "list", y1]) := upd_same
    replace Cc := Cc.same s_
    replace mH := mH.trans (Mv.ofSame s_)
    replace h1 := s_ _ _ h1
    replace M1 := M1.same s_
    replace M3 := M3.same s_
    replace O2 := O2.ext (ExtN.of s_)
    generalize upd Hd u1 (.tup [.str "list", y1]) = He at Cc mH hu1 h1 M1 M3 O2 ⊢
    clear s_ nu1
    refine ⟨_, rfl, v2, d2, rfl, O2.told.2, O2.tells.1, by show 2 ≤ sizeLine; decide, fun u2 nu2 => ?_⟩
    have s_ := same_put (s := Same.refl He) (o := .tup [.str "word", .str d2.shown]) nu2
    have hu2 : upd He u2 (.tup [.str "word", .str d2.shown]) u2 = some (.tup [.str "word", .str d2.shown]) := upd_same
    replace Cc := Cc.same s_
    replace mH := mH.trans (Mv.ofSame s_)
    replace h1 := s_ _ _ h1
    replace M1 := M1.same s_
    replace M3 := M3.same s_
    replace O2 := O2.ext (ExtN.of s_)
    replace hu1 := s_ _ _ hu1
    generalize upd He u2 (.tup [.str "word", .str d2.shown]) = Hf at Cc mH hu2 h1 M1 M3 O2 hu1 ⊢
    clear s_ nu2
    refine ⟨_, rfl, by show 2 ≤ sizeLine; decide, fun u3 nu3 => ?_⟩
    have s_ := same_put (s := Same.refl Hf) (o := .tup [.str "row", y3]) nu3
    have hu3 : upd Hf u3 (.tup [.str "row", y3]) u3 = some (.tup [.str "row", y3]) := upd_same
    replace Cc := Cc.same s_
    replace mH := mH.trans (Mv.ofSame s_)
    replace h1 := s_ _ _ h1
    replace M1 := M1.same s_
    replace M3 := M3.same s_
    replace O2 := O2.ext (ExtN.of s_)
    replace hu1 := s_ _ _ hu1
    replace hu2 := s_ _ _ hu2
    generalize upd Hf u3 (.tup [.str "row", y3]) = Hg at Cc mH hu3 h1 M1 M3 O2 hu1 hu2 ⊢
    clear s_ nu3
    refine ⟨by show 3 ≤ sizeLine; decide, fun MM nMM => ?_⟩
    have s_ := same_put (s := Same.refl Hg) (o := .lst [.ref u1, .ref u2, .ref u3]) nMM
    have hMM : upd Hg MM (.lst [.ref u1, .ref u2, .ref u3]) MM = some (.lst [.ref u1, .ref u2, .ref u3]) := upd_same
    have MMp : MM ≠ p := Cc.pen.nep nMM
    have MMl : MM ≠ l := Cc.pen.nel nMM
    replace Cc := Cc.same s_
    replace mH := mH.trans (Mv.ofSame s_)
    replace h1 := s_ _ _ h1
    replace M1 := M1.same s_
    replace M3 := M3.same s_
    replace O2 := O2.ext (ExtN.of s_)
    replace hu1 := s_ _ _ hu1
    replace hu2 := s_ _ _ hu2
    replace hu3 := s_ _ _ hu3
    generalize upd Hg MM (.lst [.ref u1, .ref u2, .ref u3]) = Hh at Cc mH hMM h1 M1 M3 O2 hu1 hu2 hu3 ⊢
    clear s_ nMM
    refine atName ?_
    try dsimp only
    -- the first
    change tLamG TL (TTheard CL CO CY CD CT) _ _ Hh _
    refine heard_list rfl rfl rfl Cc.tb h1 M1 A1 fun l1 Hi hl1 ex tb_ => ?_
    clear h1 M1
    replace M3 := M3.ext ex
    replace O2 := O2.ext ex
    replace hu1 := ex _ _ hu1 (fun _ z => nomatch z)
    replace hu2 := ex _ _ hu2 (fun _ z => nomatch z)
    replace hu3 := ex _ _ hu3 (fun _ z => nomatch z)
    replace hMM := ex _ _ hMM (fun _ z => nomatch z)
    replace mH := mH.trans (Mv.ofExt ex)
    replace Cc := Cc.ext ex tb_
    clear ex tb_
    refine ⟨by show 1 ≤ sizeLine; decide, fun hh nhh => ?_⟩
    have s_ := same_put (s := Same.refl Hi) (o := .lst [.ref l1]) nhh
    have hhh : upd Hi hh (.lst [.ref l1]) hh = some (.lst [.ref l1]) := upd_same
    have hhp : hh ≠ p := Cc.pen.nep nhh
    have hhl : hh ≠ l := Cc.pen.nel nhh
    have ahh : a ≠ hh := ne_of_none Cc.made nhh
    have MMhh : MM ≠ hh := ne_of_none hMM nhh
    have fhh := M3.fresh nhh
    have oldhh : ∀ b o, H b = some o → b ≠ p → (∀ ps, o ≠ .tbl ps) → b ≠ hh := fun b o e n t => ne_of_none (mH b o e n t) nhh
    replace Cc := Cc.same s_
    replace mH := mH.trans (Mv.ofSame s_)
    replace M3 := M3.same s_
    replace O2 := O2.ext (ExtN.of s_)
    replace hu1 := s_ _ _ hu1
    replace hu2 := s_ _ _ hu2
    replace hu3 := s_ _ _ hu3
    replace hMM := s_ _ _ hMM
    replace hl1 := s_ _ _ hl1
    generalize upd Hi hh (.lst [.ref l1]) = Hj at Cc mH hhh M3 O2 hu1 hu2 hu3 hMM hl1 ⊢
    clear s_ nhh
    refine atName ?_
    try dsimp only
    -- the second
    refine ⟨_, rfl, .inl ⟨rfl, _, SqL.of hhh⟩, ?_⟩
    change tLamG TL (TTheard CL CO CY CD CT) _ _ Hj _
    refine heard_word rfl rfl rfl Cc.tb Cc.made Cc.ml g1 g4 O2 fun l2 Hk hl2 ex tb_ => ?_
    replace M3 := M3.ext ex
    replace O2 := O2.ext ex
    replace hu1 := ex _ _ hu1 (fun _ z => nomatch z)
    replace hu2 := ex _ _ hu2 (fun _ z => nomatch z)
    replace hu3 := ex _ _ hu3 (fun _ z => nomatch z)
    replace hMM := ex _ _ hMM (fun _ z => nomatch z)
    replace hl1 := ex _ _ hl1 (fun _ z => nomatch z)
    replace hhh := ex _ _ hhh (fun _ z => nomatch z)
    replace mH := mH.trans (Mv.ofExt ex)
    replace Cc := Cc.ext ex tb_
    clear ex tb_
    refine ⟨hh, _, _, rfl, rfl, hhh, by show 1 < sizeLine; decide, ?_⟩
    have P_ : PenL Hk hh := ⟨_, hhh⟩
    have m_ : Mv hh Hk (upd Hk hh (.lst ([.ref l1] ++ [.ref l2]))) := Mv.ofFr Fr.at
    replace mH : Mv p H (upd Hk hh (.lst ([.ref l1] ++ [.ref l2]))) := fun b o e n t => m_ _ _ (mH b o e n t) (oldhh b o e n t) t
    replace Cc := Cc.grow (ys := [.ref l1] ++ [.ref l2]) hhh hhp hhl ahh
    replace M3 := M3.mv m_ fhh
    replace O2 := O2.mv P_ m_
    replace hu1 := m_.at P_ hu1 (fun _ z => nomatch z) (fun _ z => nomatch z)
    replace hu2 := m_.at P_ hu2 (fun _ z => nomatch z) (fun _ z => nomatch z)
    replace hu3 := m_.at P_ hu3 (fun _ z => nomatch z) (fun _ z => nomatch z)
    replace hMM := m_ _ _ hMM MMhh (fun _ z => nomatch z)
    replace hl1 := m_.at P_ hl1 (fun _ z => nomatch z) (fun _ z => nomatch z)
    replace hl2 := m_.at P_ hl2 (fun _ z => nomatch z) (fun _ z => nomatch z)
    clear hhh
    have hhh : upd Hk hh (.lst ([.ref l1] ++ [.ref l2])) hh = some (.lst [.ref l1, .ref l2]) := upd_same
    generalize upd Hk hh (.lst ([.ref l1] ++ [.ref l2])) = Hl at m_ Cc mH hhh M3 O2 hu1 hu2 hu3 hMM hl1 hl2 ⊢
    clear m_ P_
    -- the third
    refine ⟨_, rfl, .inl ⟨rfl, _, SqL.of hhh⟩, ?_⟩
    change tLamG TL (TTheard CL CO CY CD CT) _ _ Hl _
    refine heard_row rfl rfl rfl Cc.tb Cc.made Cc.ml g1 g4 lt (by omega) M3 A3 fun l3 Hm hl3 ex tb_ => ?_
    have O2l := O2.lay
    clear M3 fhh O2
    replace hu1 := ex _ _ hu1 (fun _ z => nomatch z)
    replace hu2 := ex _ _ hu2 (fun _ z => nomatch z)
    replace hu3 := ex _ _ hu3 (fun _ z => nomatch z)
    replace hMM := ex _ _ hMM (fun _ z => nomatch z)
    replace hl1 := ex _ _ hl1 (fun _ z => nomatch z)
    replace hl2 := ex _ _ hl2 (fun _ z => nomatch z)
    replace hhh := ex _ _ hhh (fun _ z => nomatch z)
    replace mH := mH.trans (Mv.ofExt ex)
    replace Cc := Cc.ext ex tb_
    clear ex tb_
    refine ⟨hh, _, _, rfl, rfl, hhh, by show 2 < sizeLine; decide, ?_⟩
    have P_ : PenL Hm hh := ⟨_, hhh⟩
    have m_ : Mv hh Hm (upd Hm hh (.lst ([.ref l1, .ref l2] ++ [.ref l3]))) := Mv.ofFr Fr.at
    replace mH : Mv p H (upd Hm hh (.lst ([.ref l1, .ref l2] ++ [.ref l3]))) := fun b o e n t => m_ _ _ (mH b o e n t) (oldhh b o e n t) t
    replace Cc := Cc.grow (ys := [.ref l1, .ref l2] ++ [.ref l3]) hhh hhp hhl ahh
    replace hu1 := m_.at P_ hu1 (fun _ z => nomatch z) (fun _ z => nomatch z)
    replace hu2 := m_.at P_ hu2 (fun _ z => nomatch z) (fun _ z => nomatch z)
    replace hu3 := m_.at P_ hu3 (fun _ z => nomatch z) (fun _ z => nomatch z)
    replace hMM := m_ _ _ hMM MMhh (fun _ z => nomatch z)
    replace hl1 := m_.at P_ hl1 (fun _ z => nomatch z) (fun _ z => nomatch z)
    replace hl2 := m_.at P_ hl2 (fun _ z => nomatch z) (fun _ z => nomatch z)
    replace hl3 := m_.at P_ hl3 (fun _ z => nomatch z) (fun _ z => nomatch z)
    clear hhh
    have hhh : upd Hm hh (.lst ([.ref l1, .ref l2] ++ [.ref l3])) hh = some (.lst [.ref l1, .ref l2, .ref l3]) := upd_same
    generalize upd Hm hh (.lst ([.ref l1, .ref l2] ++ [.ref l3])) = Hn at m_ Cc mH hhh hu1 hu2 hu3 hMM hl1 hl2 hl3 ⊢
    clear m_ P_
    -- compared
    have dp : ∀ {b : Addr} {z : Str} {y : V} {d : PyData}, Hn b = some (.tup [.str z, y]) → Dp K Hn y d → Dp K Hn (.ref b) (.tuple [.str z, d]) := fun e h => .tup (.inl (.inl e)) (.cons (.str _) (.cons h .nil))
    refine ⟨_, rfl, _, rfl, eq_same (d := .list [.tuple [.str "list", d1], .tuple [.str "word", .str d2.shown], .tuple [.str "row", d3]])
      (.lst (SqL.of hhh) (.cons (dp hl1 (atd_dp A1)) (.cons (dp hl2 (.str _)) (.cons (dp hl3 (atd_dp A3)) .nil))))
      (.lst (SqL.of hMM) (.cons (dp hu1 (atd_dp A1)) (.cons (dp hu2 (.str _)) (.cons (dp hu3 (atd_dp A3)) .nil))))
      (shaped_3 A1 A3 O2l) (q _ Cc.pen mH Cc.tb)⟩
end
end V8

set_option Elab.async false
set_option linter.all false
set_option maxRecDepth 100000
set_option maxHeartbeats 16000000
set_option pp.maxSteps 600
/-! What is heard of a row, told; rows composed; what a turn keeps. -/
namespace V8
open PySem PySem.Spec PyProof.Rows L2 LamX ItX
theorem op_repS2 {X : Cx} : OpR X (binaryOp .Mult) (fun x y H Q => ∃ z k, x = .str z ∧ y = .int k ∧ z.length ≤ 4 ∧ 0 ≤ k ∧ k ≤ 3000 ∧ Q (.str (Txt.mul z k)) H) := by
  intro pins s σ H x y v u Q I rx ry h
  obtain ⟨z, k, rfl, rfl, hz, k0, k1, q⟩ := h
  obtain ⟨t, rfl⟩ := rx
  obtain ⟨t', rfl⟩ := ry
  exact SB.mul (PyProof.Rows.mulOk_of 4 3000 hz k1 (by omega) (by decide) (by decide)) fun t' tk => ⟨.str _, H, I.tok _, ⟨_, rfl⟩, q⟩
theorem op_repTK {X : Cx} {K : PySem.W.Frag} (hK : X.K = K) : OpR X (binaryOp .Mult) (rRepT K) := by
  subst hK
  exact op_repT
theorem passL {X : Cx} : Passes (L2.CX X.prog X.w) X E0 := fun _ _ _ _ _ _ _ ⟨_, _, _, _, _, _, _, _, _, _, _, _, h⟩ => h.elim
/-! what is due, as data -/
def outD : Out → PyData
  | .barred k => .tuple [.str "barred", .int (k : Nat)]
  | .many => .tuple [.str "signs", .int 2000]
  | .ok r => .list [.str (Sx r)]
def OkO : Out → Prop
  | .barred k => k ≤ 10
  | .many => True
  | .ok r => r.length ≤ 2000 ∧ ∀ c ∈ r, isLt c
theorem OutV.py {H : Hp} {b : Addr} {o : Out} (h : OutV H b o) : PyV H (.ref b) (outD o) := by
  cases o with
  | barred k => exact .tup h (.cons (.str _) (.cons (.int _) .nil))
  | many => exact .tup h (.cons (.str _) (.cons (.int _) .nil))
  | ok r => exact .lst h (.cons (.str _) .nil)
theorem OutV.same {H H' : Hp} {b : Addr} {o : Out} (h : OutV H b o) (s : Same H H') : OutV H' b o := by
  cases o with
  | barred k => exact s _ _ h
  | many => exact s _ _ h
  | ok r => exact s _ _ h
theorem OutV.ext {H H' : Hp} {b : Addr} {o : Out} (h : OutV H b o) (s : ExtN H H') : OutV H' b o := by
  cases o with
  | barred k => exact s _ _ h (fun _ z => nomatch z)
  | many => exact s _ _ h (fun _ z => nomatch z)
  | ok r => exact s _ _ h (fun _ z => nomatch z)
theorem barred_len : ∀ k ∈ List.range 11, (PyData.tuple [.str "barred", .int ((k : Nat) : Int)]).shown.length ≤ 8000000 := by decide +kernel
theorem outD_tells {o : Out} (h : OkO o) : Tells (outD o) := by
  cases o with
  | barred k =>
    have hk : k ≤ 10 := h
    refine ⟨?_, by simp [outD, PyData.depth, PyData.depthAll], barred_len k (List.mem_range.mpr (by omega))⟩
    have := idx_log (k := k) (by omega)
    simpa [outD, PyData.showable, PyData.showableAll] using this
  | many => exact ⟨by decide +kernel, by simp [outD, PyData.depth, PyData.depthAll], by decide +kernel⟩
  | ok r =>
    obtain ⟨h1, h2⟩ := h
    refine ⟨by simp [outD, PyData.showable, PyData.showableAll], by simp [outD, PyData.depth, PyData.depthAll], ?_⟩
    have l : (reprText (Sx r)).length ≤ 10 * (Sx r).length + 2 := PySem.StrLaws.reprText_len _ fun c hc => by
      have e : (Sx r).cps.toList = r := by show r.toArray.toList = r; simp
      rw [e] at hc
      have := h2 c hc
      obtain ⟨_, h4⟩ := this
      omega
    rw [Sx_len] at l
    have e : (outD (.ok r)).shown = listText [reprText (Sx r)] := by simp only [outD, PyData.shown, PyData.shownAll]
    have t := listText_len_le [reprText (Sx r)]
    rw [e]
    simp only [List.map_cons, List.map_nil, List.sum_cons, List.sum_nil, List.length_cons, List.length_nil] at t
    omega
theorem alF_ok {us : List Tab} (hus : ∀ i c s, lk (us.getD i []) c = some s → ∀ d ∈ s, isLt d) : ∀ (row w : List Nat) (k : Nat), k + row.length ≤ 10 → w.length ≤ 2000 → (∀ c ∈ w, isLt c) → OkO (alF us row k w)
  | [], w, k, _, l, lt => ⟨l, lt⟩
  | i :: r, w, k, h, l, lt => by
    show OkO (match imF (lk (us.getD i [])) w with | none => Out.barred k | some z => if z.length ≤ 2000 then alF us r (k + 1) z else .many)
    rw [List.length_cons] at h
    cases e : imF (lk (us.getD i [])) w with
    | none => exact show k ≤ 10 by omega
    | some z =>
      dsimp only
      by_cases l : z.length ≤ 2000
      · rw [if_pos l]
        exact alF_ok hus r z (k + 1) (by omega) l (imF_lets (hus i) e)
      · rw [if_neg l]
        exact True.intro
theorem alF_go {us : List Tab} {i k : Nat} {r w z : List Nat} (e : imF (lk (us.getD i [])) w = some z) (l : z.length ≤ 2000) : alF us (i :: r) k w = alF us r (k + 1) z := by
  show (match imF (lk (us.getD i [])) w with | none => Out.barred k | some z => if z.length ≤ 2000 then alF us r (k + 1) z else .many) = _
  rw [e]
  dsimp only
  rw [if_pos l]
theorem alF_many {us : List Tab} {i k : Nat} {r w z : List Nat} (e : imF (lk (us.getD i [])) w = some z) (l : 2000 < z.length) : alF us (i :: r) k w = .many := by
  show (match imF (lk (us.getD i [])) w with | none => Out.barred k | some z => if z.length ≤ 2000 then alF us r (k + 1) z else .many) = _
  rw [e]
  dsimp only
  rw [if_neg (by omega)]
/-! rows composed -/
def cmp (us : List Tab) (f : Fu) (l : List Nat) : Fu := l.foldl (fun g i => cF g (lk (us.getD i []))) f
theorem cmp_take {us : List Tab} {f : Fu} {l : List Nat} {i k : Nat} (h : l[i]? = some k) : cmp us f (l.take (i + 1)) = cF (cmp us f (l.take i)) (lk (us.getD k [])) := by
  unfold cmp
  rw [List.take_add_one, h, List.foldl_append]
  rfl
theorem cmp_bnd {us : List Tab} : ∀ (l : List Nat) (f : Fu) (n : Nat), (∀ i ∈ l, Bnd 4 (lk (us.getD i []))) → Bnd n f → Bnd (n * 4 ^ l.length) (cmp us f l)
  | [], f, n, _, b => by
    show Bnd (n * 1) f
    rw [Nat.mul_one]
    exact b
  | i :: r, f, n, h, b => by
    have := cmp_bnd r (cF f (lk (us.getD i []))) (4 * n) (fun j hj => h j (List.mem_cons_of_mem _ hj)) (b.comp (h i List.mem_cons_self))
    rw [List.length_cons, Nat.pow_succ, Nat.mul_comm (4 ^ r.length) 4, ← Nat.mul_assoc, Nat.mul_comm n 4]
    exact this
theorem cmp_ovr {us : List Tab} {cs : List Nat} : ∀ (l : List Nat) (f : Fu), (∀ i ∈ l, Ovr cs (lk (us.getD i []))) → Ovr cs f → Ovr cs (cmp us f l)
  | [], f, _, o => o
  | i :: r, f, h, o => cmp_ovr r _ (fun j hj => h j (List.mem_cons_of_mem _ hj)) (o.comp (h i List.mem_cons_self))
theorem cmp_al {us : List Tab} : ∀ (l : List Nat) (k : Nat) (f : Fu) (w y z : List Nat), imF f w = some y → alF us l k y = .ok z → imF (cmp us f l) w = some z
  | [], k, f, w, y, z, e, h => by
    cases h
    exact e
  | i :: r, k, f, w, y, z, e, h => by
    have h2 : (match imF (lk (us.getD i [])) y with | none => Out.barred k | some z => if z.length ≤ 2000 then alF us r (k + 1) z else .many) = .ok z := h
    cases e2 : imF (lk (us.getD i [])) y with
    | none =>
      rw [e2] at h2
      cases h2
    | some u =>
      rw [e2] at h2
      dsimp only at h2
      by_cases l : u.length ≤ 2000
      · rw [if_pos l] at h2
        refine cmp_al r (k + 1) (cF f (lk (us.getD i []))) w u z ?_ h2
        rw [imF_cF, e]
        exact e2
      · rw [if_neg l] at h2
        cases h2
theorem cmp_row {us : List Tab} {i : Nat} {r w z : List Nat} (h : alF us (i :: r) 0 w = .ok z) : imF (cmp us (lk (us.getD i [])) r) w = some z := by
  have h2 : (match imF (lk (us.getD i [])) w with | none => Out.barred 0 | some z => if z.length ≤ 2000 then alF us r (0 + 1) z else .many) = .ok z := h
  cases e2 : imF (lk (us.getD i [])) w with
  | none =>
    rw [e2] at h2
    cases h2
  | some u =>
    rw [e2] at h2
    dsimp only at h2
    by_cases l : u.length ≤ 2000
    · rw [if_pos l] at h2
      exact cmp_al r 1 _ w u z e2 h2
    · rw [if_neg l] at h2
      cases h2
/-! heard -/
section
variable {K : PySem.W.Frag} {mg : Str → Option Value} {CM CL CO CY CD CT : Addr} {TL : List (Addr × Str)} {H : Hp} {R R1 : VK} {σ : L2.St}
theorem al_end {o : Out} (hR : ∀ v H', HearV R v H' → R1 v H') (k : ∀ l H', OutV H' l o → Same H H' → R (.ref l) H') : AlEnd CD CT H R1 (HearE CL CO CY CD CT R) o := by
  cases o with
  | barred i => exact fun d H' nd s hd => ⟨d, rfl, .inr (.inr (.inr (.inl ⟨rfl, _, hd, fun t H2 s2 ht => k t H2 ht fun b o e => s2 _ _ (s _ _ e)⟩)))⟩
  | many => exact fun d H' nd s hd => ⟨d, rfl, .inr (.inr (.inr (.inr ⟨rfl, _, _, hd, fun t H2 s2 ht => k t H2 ht fun b o e => s2 _ _ (s _ _ e)⟩)))⟩
  | ok r => exact fun H' s => hR _ _ fun l H2 s2 nl hl => k l H2 hl fun b o e => s2 _ _ (s _ _ e)
theorem heard_by {us : List Tab} {row w : List Nat} {t : TA} (tb : Tabs TL H) (g1 : 1 ≤ us.length) (g4 : us.length ≤ 4) (lt : ∀ c ∈ w, isLt c) (lw : w.length ≤ 2000) (lr : row.length ≤ 100) (hin : ∀ i ∈ row, i < us.length)
    (ht : ∀ (H2 : Hp) (Q2 : List V → Hp → Prop), ExtN H H2 → (∀ (a b : Addr) (ps : List (Addr × Tab)) (H3 : Hp), Same H2 H3 → (H3 a = some (.lst (refs ps)) ∨ H3 a = some (.tup (refs ps))) → ps.map (·.2) = us → MisL CM H3 ps → H3 b = some (.tup (idxs row)) → Q2 [.ref a, .str (Sx w), .ref b] H3) → t σ H2 Q2)
    (k : ∀ l H', OutV H' l (alF us row 0 w) → ExtN H H' → Tabs TL H' → R (.ref l) H') : tLamG TL (TTheard CL CO CY CD CT) (fun E => tCall (spAlong K CM CL CO CY CD CT) [] E t) σ H R := by
  refine ⟨tb, fun H1 e1 tb1 R1 H2 hR s2 => ?_⟩
  have e2 : ExtN H H2 := e1.trans (ExtN.of s2)
  refine ht H2 _ e2 fun a b ps H3 s3 ha hp ml hb => ?_
  have e3 : ExtN H H3 := e2.trans (ExtN.of s3)
  have hl : ps.length = us.length := by rw [← hp, List.length_map]
  have en : AlEnd CD CT H3 R1 (HearE CL CO CY CD CT R) (alF (ps.map (·.2)) row 0 w) := by
    rw [hp]
    exact al_end hR fun l H' ho s => k l H' ho (e3.trans (ExtN.of s)) (((tb1.ext s2).ext s3).ext s)
  rcases ha with ha | ha
  · exact .inl ⟨.ref a, _, _, rfl, .inr ⟨a, ps, rfl, ha, by omega, by omega, ml, .inr ⟨w, rfl, lt, lw, .inr ⟨b, row, rfl, hb, lr, fun i hi => by rw [hl]; exact hin i hi, en⟩⟩⟩⟩
  · exact .inr ⟨a, _, _, ps, rfl, ha, by omega, by omega, ml, .inr ⟨w, rfl, lt, lw, .inr ⟨b, row, rfl, hb, lr, fun i hi => by rw [hl]; exact hin i hi, en⟩⟩⟩
end
section
variable {K : PySem.W.Frag} {CM : Addr}
theorem rsh_mis {H : Hp} {Q : VK} {x y : Addr} {u v : Tab} {cs : List Nat} (mx : MisAt CM H x u) (my : MisAt CM H y v) (bu : Bnd 64 (lk u)) (bv : Bnd 64 (lk v)) (bc : Bnd 64 (cF (lk u) (lk v))) (ou : Ovr cs (lk u)) (h12 : cs.length ≤ 12)
    (q : ∀ z H' t, MisAt CM H' z t → lk t = cF (lk u) (lk v) → Same H H' → Q (.ref z) H') : rBinOwn K CM (spRsh CM) E0 (.ref x) (.ref y) H Q := by
  obtain ⟨dx, fx, hx⟩ := mx.ins
  obtain ⟨dy, fy, hy⟩ := my.ins
  exact ⟨x, dx, fx, y, dy, fy, rfl, hx, rfl, hy, x, y, u, v, cs, rfl, mx, my, bu, bv, bc, ou, h12, fun z H' t _ mz ez s => q z H' t mz ez s⟩
end
/-! what a turn keeps -/
structure LawS (TL : List (Addr × Str)) (CM p l so ta ma : Addr) (ns : List Int) (n : Nat) (cs : List Nat) (ts ps : List (Addr × Tab)) (H : Hp) : Prop where
  pa : PenAt H p l ns n
  hso : H so = some (.lst (lets cs))
  sp : so ≠ p
  hta : H ta = some (.lst (refs ts))
  tp : ta ≠ p
  tl : TabL H ts
  hma : H ma = some (.lst (refs ps))
  mp : ma ≠ p
  ml : MisL CM H ps
  tb : Tabs TL H
theorem TabL.mv {p : Addr} {H H' : Hp} {ts : List (Addr × Tab)} (m : TabL H ts) (P : PenL H p) (s : Mv p H H') : TabL H' ts := fun q hq => ⟨s.at P (m q hq).1 (fun _ z => nomatch z) (fun _ z => nomatch z), (m q hq).2⟩
section
variable {TL : List (Addr × Str)} {CM p l so ta ma : Addr} {ns : List Int} {n n' : Nat} {cs : List Nat} {ts ps : List (Addr × Tab)} {H H' : Hp}
theorem LawS.mv (S : LawS TL CM p l so ta ma ns n cs ts ps H) (m : Mv p H H') (pa : PenAt H' p l ns n') (tb : Tabs TL H') : LawS TL CM p l so ta ma ns n' cs ts ps H' :=
  ⟨pa, m _ _ S.hso S.sp (fun _ z => nomatch z), S.sp, m _ _ S.hta S.tp (fun _ z => nomatch z), S.tp, S.tl.mv S.pa.pl m, m _ _ S.hma S.mp (fun _ z => nomatch z), S.mp, S.ml.mv S.pa.pl m, tb⟩
theorem LawS.same (S : LawS TL CM p l so ta ma ns n cs ts ps H) (s : Same H H') : LawS TL CM p l so ta ma ns n cs ts ps H' := S.mv (Mv.ofSame s) (pen_same S.pa s) (S.tb.ext s)
theorem LawS.fr (S : LawS TL CM p l so ta ma ns n cs ts ps H) (f : Fr p H H') (pa : PenAt H' p l ns n') : LawS TL CM p l so ta ma ns n' cs ts ps H' := S.mv (Mv.ofFr f) pa (tabs_fr S.tb S.pa.pl f)
theorem LawS.ext (S : LawS TL CM p l so ta ma ns n cs ts ps H) (e : ExtN H H') (tb : Tabs TL H') : LawS TL CM p l so ta ma ns n cs ts ps H' := S.mv (Mv.ofExt e) (pen_ext S.pa e) tb
theorem LawS.less (S : LawS TL CM p l so ta ma ns n cs ts ps H) (h : n' ≤ n) : LawS TL CM p l so ta ma ns n' cs ts ps H := S.mv Mv.refl (S.pa.less h) S.tb
/-- a list of its own grows -/
theorem LawS.grow {b : Addr} {xs ys : List V} (S : LawS TL CM p l so ta ma ns n cs ts ps H) (hb : H b = some (.lst xs)) (bp : b ≠ p) (bl : b ≠ l) (bs : so ≠ b) (bt : ta ≠ b) (bm : ma ≠ b) : LawS TL CM p l so ta ma ns n cs ts ps (upd H b (.lst ys)) :=
  ⟨S.pa.other bp bl, by rw [upd_ne bs]; exact S.hso, S.sp, by rw [upd_ne bt]; exact S.hta, S.tp, S.tl.mv ⟨_, hb⟩ (Mv.ofFr Fr.at), by rw [upd_ne bm]; exact S.hma, S.mp, S.ml.mv ⟨_, hb⟩ (Mv.ofFr Fr.at), tabs_fr S.tb ⟨_, hb⟩ Fr.at⟩
end
theorem TabL.snoc {H : Hp} {ts : List (Addr × Tab)} {q : Addr × Tab} (m : TabL H ts) (h : H q.1 = some (.dK (encT q.2))) (g : TbN 4 q.2) : TabL H (ts ++ [q]) := fun x hx => by
  rcases List.mem_append.mp hx with z | z
  · exact m x z
  · rw [List.mem_singleton.mp z]
    exact ⟨h, g⟩
theorem refs_snoc (ts : List (Addr × Tab)) (q : Addr × Tab) : refs ts ++ [V.ref q.1] = refs (ts ++ [q]) := by
  show _ = List.map _ _
  rw [List.map_append]
  rfl
theorem idxs_snoc (r : List Nat) (k : Nat) : idxs r ++ [V.int ((k : Nat) : Int)] = idxs (r ++ [k]) := by
  show _ = List.map _ _
  rw [List.map_append]
  rfl
theorem good_tbn {cs : List Nat} {t : Tab} (g : GoodT cs t) (h : cs.length ≤ 12) (lt : ∀ c ∈ cs, isLt c) : TbN 4 t := ⟨g.nd, fun q hq => lt _ (g.key q hq), fun q hq d hd => lt _ ((g.img q hq).2.2 d hd), fun q hq => (g.img q hq).2.1, Nat.le_trans g.len h⟩
theorem good_mis {cs : List Nat} {t : Tab} (g : GoodT cs t) (lt : ∀ c ∈ cs, isLt c) : ∀ c s, lk t c = some s → ∀ d ∈ s, isLt d := fun c s e d hd => lt _ ((good_over g).2 c s e d hd)
/-! the last three -/
def tw : Tab := [(97, [97, 97]), (98, [98])]
def tbc : Tab := [(98, [99])]
theorem imF_tw : ∀ n : Nat, imF (lk tw) (List.replicate n 97) = some (List.replicate (2 * n) 97)
  | 0 => rfl
  | n + 1 => by
    have e1 : imF (lk tw) (97 :: List.replicate n 97) = (lk tw 97).bind fun z => (imF (lk tw) (List.replicate n 97)).map (z ++ ·) := rfl
    have e2 : lk tw 97 = some [97, 97] := by decide +kernel
    rw [List.replicate_succ, e1, e2, imF_tw n, show 2 * (n + 1) = 2 * n + 1 + 1 by omega, List.replicate_succ, List.replicate_succ]
    rfl
theorem imF_twb (n : Nat) : imF (lk tw) (List.replicate n 97 ++ [98]) = some (List.replicate (2 * n) 97 ++ [98]) := by
  have e2 : imF (lk tw) [98] = some [98] := by decide +kernel
  rw [imF_app, imF_tw, e2]
  rfl
theorem al_1 : alF [tw] [0, 0, 0, 0] 0 (List.replicate 125 97) = .ok (List.replicate 2000 97) := by
  rw [alF_go (us := [tw]) (i := 0) (imF_tw 125) (by rw [List.length_replicate]; decide), alF_go (us := [tw]) (i := 0) (imF_tw (2 * 125)) (by rw [List.length_replicate]; decide), alF_go (us := [tw]) (i := 0) (imF_tw (2 * (2 * 125))) (by rw [List.length_replicate]; decide), alF_go (us := [tw]) (i := 0) (imF_tw (2 * (2 * (2 * 125)))) (by rw [List.length_replicate]; decide), show 2 * (2 * (2 * (2 * 125))) = 2000 from rfl]
  rfl
theorem al_2 : alF [tw] [0, 0, 0, 0] 0 (List.replicate 125 97 ++ [98]) = .many := by
  rw [alF_go (us := [tw]) (i := 0) (imF_twb 125) (by rw [List.length_append, List.length_replicate]; decide), alF_go (us := [tw]) (i := 0) (imF_twb (2 * 125)) (by rw [List.length_append, List.length_replicate]; decide), alF_go (us := [tw]) (i := 0) (imF_twb (2 * (2 * 125))) (by rw [List.length_append, List.length_replicate]; decide), alF_many (us := [tw]) (i := 0) (imF_twb (2 * (2 * (2 * 125)))) (by rw [List.length_append, List.length_replicate]; decide)]
theorem al_3 : alF [tw, tbc] [0, 0, 0, 0, 1] 0 (List.replicate 126 97) = .many := by
  rw [alF_go (us := [tw, tbc]) (i := 0) (imF_tw 126) (by rw [List.length_replicate]; decide), alF_go (us := [tw, tbc]) (i := 0) (imF_tw (2 * 126)) (by rw [List.length_replicate]; decide), alF_go (us := [tw, tbc]) (i := 0) (imF_tw (2 * (2 * 126))) (by rw [List.length_replicate]; decide), alF_many (us := [tw, tbc]) (i := 0) (imF_tw (2 * (2 * (2 * 126)))) (by rw [List.length_replicate]; decide)]
theorem gTw : GoodT abc tw := ⟨by decide, by decide +kernel, fun q hq => by
  have : q = (97, [97, 97]) ∨ q = (98, [98]) := by simpa [tw] using hq
  rcases this with rfl | rfl
  · exact ⟨by decide, by decide, by decide +kernel⟩
  · exact ⟨by decide, by decide, by decide +kernel⟩⟩
theorem gTbc : GoodT abc tbc := ⟨by decide, by decide +kernel, fun q hq => by
  have : q = (98, [99]) := by simpa [tbc] using hq
  subst this
  exact ⟨by decide, by decide, by decide +kernel⟩⟩
theorem fold_app (a : Array Nat) : ∀ (k : Nat) (acc : Array Nat), (List.replicate k a).foldl (fun x y => x ++ y) acc = acc ++ ((List.replicate k a.toList).flatten).toArray
  | 0, acc => by simp
  | k + 1, acc => by
    rw [List.replicate_succ, List.foldl_cons, fold_app a k]
    apply Array.toList_inj.mp
    simp [List.replicate_succ, List.append_assoc]
theorem mul_Sx (s : List Nat) (k : Nat) (h : 2 ≤ k) (hs : s ≠ []) : Txt.mul (Sx s) ((k : Nat) : Int) = Sx (List.replicate k s).flatten := by
  have hl : (Sx s).length ≠ 0 := by
    rw [Sx_len]
    exact fun z => hs (List.length_eq_zero_iff.mp z)
  unfold Txt.mul
  rw [if_neg (by omega), if_neg (by
    rw [Bool.or_eq_true, beq_iff_eq, beq_iff_eq]
    rintro (z | z)
    · omega
    · exact hl z)]
  have e : ((k : Nat) : Int).toNat = k := Int.toNat_natCast k
  rw [e, fold_app]
  show (⟨#[] ++ ((List.replicate k s.toArray.toList).flatten).toArray⟩ : Str) = ⟨_⟩
  congr 1
  simp
theorem flat_one (k c : Nat) : (List.replicate k [c]).flatten = List.replicate k c := by
  induction k with
  | zero => rfl
  | succ k ih => rw [List.replicate_succ, List.flatten_cons, ih, List.replicate_succ]; rfl
theorem eAx : ("a" : Str) = Sx [97] := by decide +kernel
theorem eBx : ("b" : Str) = Sx [98] := by decide +kernel
theorem mulA (k : Nat) (h : 2 ≤ k) : Txt.mul ("a" : Str) ((k : Nat) : Int) = Sx (List.replicate k 97) := by
  rw [eAx, mul_Sx _ _ h (by decide), flat_one]
theorem add125 : Sx (List.replicate 125 97) ++ ("b" : Str) = Sx (List.replicate 125 97 ++ [98]) := by
  rw [eBx, sx_add]
theorem three_laid {H : Hp} {L tq pq : Addr} {o1 o2 o3 : HO} (n1 : H L = none) (n2 : upd H L o1 tq = none) (n3 : upd (upd H L o1) tq o2 pq = none) :
    Same H (upd (upd (upd H L o1) tq o2) pq o3) ∧ upd (upd (upd H L o1) tq o2) pq o3 L = some o1 ∧ upd (upd (upd H L o1) tq o2) pq o3 pq = some o3 := by
  have h1 : upd H L o1 L = some o1 := upd_same
  have h2 : upd (upd H L o1) tq o2 L = some o1 := by
    rw [upd_ne (ne_of_none h1 n2)]
    exact h1
  exact ⟨same_put (s := same_put (s := same_put (s := Same.refl H) n1) n2) n3, by rw [upd_ne (ne_of_none h2 n3)]; exact h2, upd_same⟩
theorem two_laid {H : Hp} {L tq : Addr} {o1 o2 : HO} (n1 : H L = none) (n2 : upd H L o1 tq = none) :
    Same H (upd (upd H L o1) tq o2) ∧ upd (upd H L o1) tq o2 L = some o1 ∧ upd (upd H L o1) tq o2 tq = some o2 := by
  have h1 : upd H L o1 L = some o1 := upd_same
  exact ⟨same_put (s := same_put (s := Same.refl H) n1) n2, by rw [upd_ne (ne_of_none h1 n2)]; exact h1, upd_same⟩
theorem ltA (k : Nat) : ∀ c ∈ List.replicate k 97, isLt c := fun c hc => by
  rw [List.eq_of_mem_replicate hc]
  decide
theorem ltAb (k : Nat) : ∀ c ∈ List.replicate k 97 ++ [98], isLt c := fun c hc => by
  rcases List.mem_append.mp hc with h | h
  · exact ltA k c h
  · rw [List.mem_singleton.mp h]
    decide
theorem OutV.dp {K : PySem.W.Frag} {H : Hp} {b : Addr} {o : Out} (h : OutV H b o) : Dp K H (.ref b) (outD o) := by
  cases o with
  | barred k => exact .tup (.inl (.inl h)) (.cons (.str _) (.cons (.int _) .nil))
  | many => exact .tup (.inl (.inl h)) (.cons (.str _) (.cons (.int _) .nil))
  | ok r => exact .lst (SqL.of h) (.cons (.str _) .nil)
theorem OutV.upd {H : Hp} {b T : Addr} {o : Out} {x : HO} (h : OutV H b o) (n : b ≠ T) : OutV (upd H T x) b o := by
  cases o with
  | barred k => exact (show _ = _ by rw [upd_ne n]; exact h)
  | many => exact (show _ = _ by rw [upd_ne n]; exact h)
  | ok r => exact (show _ = _ by rw [upd_ne n]; exact h)
theorem shaped_out {R : List Nat} (h : ∀ c ∈ R, isLt c) : SeqAt.shaped (.list [outD (.ok R), outD .many, outD .many]) = true := by
  have b1 : PyData.strOk ("signs" : Str) = true := by decide +kernel
  have h3 : PyData.depth (.list [outD (.ok R), outD .many, outD .many]) ≤ 64 := by
    simp only [outD, PyData.depth, PyData.depthAll]
    omega
  show (PyData.canLay0 _ && decide (PyData.depth _ ≤ 64)) = true
  rw [Bool.and_eq_true]
  refine ⟨?_, decide_eq_true h3⟩
  simp only [outD, PyData.canLay0, PyData.canLayAll0, ok_sx h, b1, Bool.and_true]
/-! displays of tables -/
theorem heap_disp {H : Hp} {p : Addr} {t : Tab} (nd : (t.map (·.1)).Nodup) : upd (upd H p (.dK [])) p (.dK (mergeK [] (encT t))) = upd H p (.dK (encT t)) := by
  have e : mergeK [] (encT t) = encT (mergeT [] t) := mergeK_enc t []
  rw [e, mergeT_app (a := []) (by rw [List.nil_append]; exact nd), upd_upd]
  rfl
theorem pairs_const {σ : L2.St} : ∀ (kvs : List (Str × Str)) (H : Hp) (Q : List (V × V) → Hp → Prop), Q (kvs.map fun q => (V.str q.1, V.str q.2)) H → tPairs (kvs.map fun q => (tC (.str q.1), tC (.str q.2))) σ H Q
  | [], _, _, h => h
  | q :: r, H, Q, h => pairs_const r H (fun ps H' => Q ((V.str q.1, V.str q.2) :: ps) H') h
section
variable {CM : Addr} {H : Hp} {Q : VK} {σ : L2.St}
theorem disp_const {kvs : List (Str × Str)} {T : Tab} (e : (kvs.map fun q => (V.str q.1, V.str q.2)) = (encT T).map fun kv => (kV kv.1, kv.2)) (l : T.length ≤ 12) (nd : (T.map (·.1)).Nodup) (q : ∀ p, H p = none → Q (.ref p) (upd H p (.dK (encT T)))) :
    tDisp (kvs.map fun q => (tC (.str q.1), tC (.str q.2))) σ H Q := fun p np => by
  refine pairs_const kvs _ _ ?_
  refine ⟨upd_same, encT T, e, by rw [encT_len]; omega, ?_⟩
  have h := q p np
  rw [← heap_disp (H := H) (p := p) nd] at h
  exact h
theorem mk_disp {kvs : List (Str × Str)} {T : Tab} (e : (kvs.map fun q => (V.str q.1, V.str q.2)) = (encT T).map fun kv => (kV kv.1, kv.2)) (l : T.length ≤ 12) (G : GoodT abc T) (q : ∀ x H', MisAt CM H' x T → Same H H' → Q (.ref x) H') :
    tMk1 CM (tCons (tDisp (kvs.map fun q => (tC (.str q.1), tC (.str q.2)))) tNil) σ H Q := by
  refine show tDisp (kvs.map fun q => (tC (.str q.1), tC (.str q.2))) σ H (fun v H1 => mkR CM [v, .str (Sx [])] H1 Q) from disp_const e l G.nd fun p np => ?_
  refine ⟨p, abc, [], T, rfl, upd_same, G, ⟨by rw [toldT_nil G.nd]; exact l, by rw [abc_len]; omega⟩, fun c hc => abc_mem.mp hc, fun c h => (nomatch h), by decide, fun x H' nx m s => ?_⟩
  have m' := m.mis
  rw [toldT_nil G.nd] at m'
  exact q x H' m' (Same.trans (same_put (s := Same.refl H) np) s)
end
theorem enc_tw : ([(("a" : Str), ("aa" : Str)), ("b", "b")].map fun q => (V.str q.1, V.str q.2)) = (encT tw).map fun kv => (kV kv.1, kv.2) := by decide +kernel
theorem enc_tbc : ([(("b" : Str), ("c" : Str))].map fun q => (V.str q.1, V.str q.2)) = (encT tbc).map fun kv => (kV kv.1, kv.2) := by decide +kernel
end V8

set_option Elab.async false
set_option linter.all false
set_option maxRecDepth 100000
set_option maxHeartbeats 16000000
set_option pp.maxSteps 9000
/-! The law. -/
namespace V8
open PySem PySem.Spec PyProof.Rows L2 LamX ItX
abbrev s_law : Stmt := topS 56
abbrev n_law : List Str := ["_law_script", "_law_pen_here", "_law_turn", "_law_some", "_law_tables", "_law_made", "_law_again", "_law_word_here", "_law_path", "_law_due_here", "_law_whole", "_law_index", "_law_twice", "_law_told", "_law_k", "_law_table_here"]
theorem sc_law : FnScope ["_law_script", "_law_pen_here", "_law_turn", "_law_some", "_law_tables", "_law_made", "_law_again", "_law_word_here", "_law_path", "_law_due_here", "_law_whole", "_law_index", "_law_twice", "_law_told", "_law_k", "_law_table_here"] ["_law_script"] (defScope s_law) := ⟨rfl, rfl, rfl, by decide +kernel, rfl, by decide +kernel, by decide +kernel⟩
def spLaw (TL : List (Addr × Str)) (K : PySem.W.Frag) : Sp := fun vs H Q _ => ∃ (a : Addr) (ns : List Int), vs = [.ref a] ∧ SqL K H a (ns.map V.int) ∧ ns.length ≤ 63 ∧ Tabs TL H ∧ ∀ H', Q (.bl true) H'
section
variable {P : Program} {w : World} {K : PySem.W.Frag} {mg : Str → Option Value} {base : Heap} {CM CJ CL CO CY CD CT CE g c PT : Addr} {TL : List (Addr × Str)}
theorem ok_law {f : Addr} {fd : FuncData} (F : FunC K "law" "law" s_law f c fd) (T : Th K mg CM CJ CL CO CY CD CT CE) (D_pen : Df P w K mg base 1 "_law_pen" (spPen K)) (D_draw : Df P w K mg base 1 "_law_draw" spDraw) (D_some_letters : Df P w K mg base 2 "_law_some_letters" spLetters)
    (D_table : Df P w K mg base 4 "_law_table" (spTab 260)) (D_word : Df P w K mg base 3 "_law_word" spWord) (D_due : Df P w K mg base 2 "_law_due" spDue) (D_refused_right : DfG P w K mg base CX0 10 "_law_refused_right" (spRefused TL CM)) (D_mk : Mkr P w K mg base CM)
    (D_rshift : Bo P w K mg base 7 CM "__rshift__" (spRsh CM)) (D_callM : MfX P w K mg base 5 CM "__call__" (spCaMX CM CD CT)) (D_heard : HearD K mg g) (TB : TabT base mg TL (("law" : Str) ++ ".<locals>.") c PT) (D_along : DfG P w K mg base (L2.CX P w) 6 "along" (spAlong K CM CL CO CY CD CT)) : FnG P w K mg base CX0 11 f fd ["_law_script"] (spLaw TL K) := by
  refine F.okG sc_law (fun vs H Q E h => ?_) (fun A outer s H vs Q E quiet hr h => ?_)
  · obtain ⟨a, ns, rfl, _⟩ := h
    rfl
  · obtain ⟨a, ns, rfl, hS, hn0, tb0, q0⟩ := h
    refine ⟨_, (pss_cons (ps_set (i := 1) sc_law.nd rfl (.inr rfl) (pe_c D_pen hr (by decide) (by rfl) (pa_cons (pv 0) pa_nil)))
      (pss_cons (ps_for PassesOwn.never rfl (pi_range1 (by rfl) T.range (pa_cons pe_int pa_nil)) (pg_name (i := 2) sc_law.nd rfl (.inl rfl))
        (pss_cons (ps_set (i := 3) sc_law.nd rfl (.inr rfl) (pe_c D_some_letters hr (by decide) (by rfl) (pa_cons (pv 1) (pa_cons (pe_op op_add pe_int (pe_c D_draw hr (by decide) (by rfl) (pa_cons (pv 1) (pa_cons pe_int pa_nil)))) pa_nil))))
        (pss_cons (ps_setLc (i := 4) (own := [("_law_k", 14)]) (g := gName 14) (by rfl) sc_law.nd rfl rfl (sw_true rfl rfl rfl (by decide +kernel)) (pi_range1 (by rfl) T.range (pa_cons (pe_op op_add pe_int (pe_c D_draw hr (by decide) (by rfl) (pa_cons (pv 1) (pa_cons pe_int pa_nil)))) pa_nil)) (blkOk_by (own := [("_law_k", 14)]) (N := n_law) (sc := defScope s_law) (by decide +kernel)) (fun _ _ _ _ _ => (pg_name (i := 14) sc_law.nd rfl (.inl rfl))) (fun _ _ _ _ _ => pts_nil) (fun _ _ _ _ _ => (pe_c D_table hr (by decide) (by rfl) (pa_cons (pv 1) (pa_cons (pv 3) pa_nil)))))
        (pss_cons (ps_set (i := 5) sc_law.nd rfl (.inr rfl) (pe_lc (own := [("_law_table_here", 15)]) (g := gName 15) (by rfl) sc_law.nd (pi_list (pv 4)) (blkOk_by (own := [("_law_table_here", 15)]) (N := n_law) (sc := defScope s_law) (by decide +kernel)) (fun _ _ _ _ _ => (pg_name (i := 15) sc_law.nd rfl (.inl rfl))) (fun _ _ _ _ _ => pts_nil) (fun _ _ _ _ _ => (pe_mk1 D_mk hr (by decide) (by rfl) (pa_cons (pv 15) pa_nil)))))
        (pss_cons (ps_for PassesOwn.never rfl (pi_range1 (by rfl) T.range (pa_cons pe_int pa_nil)) (pg_name (i := 6) sc_law.nd rfl (.inl rfl))
          (pss_cons (ps_set (i := 7) sc_law.nd rfl (.inr rfl) (pe_c D_word hr (by decide) (by rfl) (pa_cons (pv 1) (pa_cons (pv 3) (pa_cons pe_int pa_nil)))))
          (pss_cons (ps_set (i := 8) sc_law.nd rfl (.inr rfl) (pe_callTy (call_tuple_ofK (K := K) rfl) (by rfl) T.tuple (by decide +kernel) (pa_cons (pe_lc (own := [("_law_k", 14)]) (g := gName 14) (by rfl) sc_law.nd (pi_range1 (by rfl) T.range (pa_cons (pe_c D_draw hr (by decide) (by rfl) (pa_cons (pv 1) (pa_cons pe_int pa_nil))) pa_nil)) (blkOk_by (own := [("_law_k", 14)]) (N := n_law) (sc := defScope s_law) (by decide +kernel)) (fun _ _ _ _ _ => (pg_name (i := 14) sc_law.nd rfl (.inl rfl))) (fun _ _ _ _ _ => pts_nil) (fun _ _ _ _ _ => (pe_c D_draw hr (by decide) (by rfl) (pa_cons (pv 1) (pa_cons (pe_callB (call_len_seqK (K := K) rfl) (by rfl) T.len (by decide +kernel) (pa_cons (pv 5) pa_nil)) pa_nil))))) pa_nil)))
          (pss_cons (ps_set (i := 9) sc_law.nd rfl (.inl rfl) (pe_c D_due hr (by decide) (by rfl) (pa_cons (pv 4) (pa_cons (pv 7) (pa_cons (pv 8) pa_nil)))))
          (pss_cons (ps_if (pt_cmpR op_ne (pe_callB (call_reprG quiet hr) (by rfl) T.repr (by decide +kernel) (pa_cons (pe_heardG (k := 6) T D_heard TB quiet hr (by decide) rfl rfl (by rfl) (lamS_by (sc := defScope s_law) (by decide +kernel)) (by rfl) (fun _ _ _ _ _ => rfl) (fun A2 o2 s2 H2 E2 f2 c2 quiet2 hr2 => (pe_cG D_along quiet2 (passTk (takes_of rfl rfl rfl rfl)) hr2 (by decide) (by rfl) (pa_cons (pv 5) (pa_cons (pv 7) (pa_cons (pv 8) pa_nil)))))) pa_nil)) (pe_callB (call_reprG quiet hr) (by rfl) T.repr (by decide +kernel) (pa_cons (pv 9) pa_nil)) (nomark _))
            (pss_one (ps_ret pe_bl))
            pss_nil)
          (pss_cons (ps_if (pt_cmpR op_ne (pe_callB (call_reprG quiet hr) (by rfl) T.repr (by decide +kernel) (pa_cons (pe_heardG (k := 6) T D_heard TB quiet hr (by decide) rfl rfl (by rfl) (lamS_by (sc := defScope s_law) (by decide +kernel)) (by rfl) (fun _ _ _ _ _ => rfl) (fun A2 o2 s2 H2 E2 f2 c2 quiet2 hr2 => (pe_cG D_along quiet2 (passTk (takes_of rfl rfl rfl rfl)) hr2 (by decide) (by rfl) (pa_cons (pe_callTy (call_tuple_ofK (K := K) rfl) (by rfl) T.tuple (by decide +kernel) (pa_cons (pv 5) pa_nil)) (pa_cons (pv 7) (pa_cons (pv 8) pa_nil)))))) pa_nil)) (pe_callB (call_reprG quiet hr) (by rfl) T.repr (by decide +kernel) (pa_cons (pv 9) pa_nil)) (nomark _))
            (pss_one (ps_ret pe_bl))
            pss_nil)
          (pss_one (ps_if (PW.pt (pw_and (pt_chain op_lt op_lt pe_int (pe_callB (call_len_seqK (K := K) rfl) (by rfl) T.len (by decide +kernel) (pa_cons (pv 8) pa_nil)) pe_int) (pw_and1 (pt_val (pe_callB call_isi (by rfl) T.isinstance (by decide +kernel) (pa_cons (pv 9) (pa_cons (pe_bltn (v := .ty "list") (by rfl) T.list (by decide +kernel) rfl) pa_nil)))))))
            (pss_cons (ps_set (i := 10) sc_law.nd rfl (.inl rfl) (pe_ix (ix_listK (K := K) rfl) (pv 5) (pe_ix (ix_tupK (K := K) rfl) (pv 8) pe_int (fun _ _ => rfl)) (fun _ _ => rfl)))
            (pss_cons (ps_for PassesOwn.never rfl (pi_tup (pe_slice sl_tup (pv 8) (po_some pe_int) po_none)) (pg_name (i := 11) sc_law.nd rfl (.inl rfl))
              (pss_one (ps_set (i := 10) sc_law.nd rfl (.inl rfl) (pe_op (op_bin D_rshift hr (by decide)) (pv 10) (pe_ix (ix_listK (K := K) rfl) (pv 5) (pv 11) (fun _ _ => rfl))))))
            (pss_one (ps_if (pt_cmpR (op_neDK (K := K) rfl hr.units) (pe_callX (pv 10) D_callM passL hr (by decide) (pa_cons (pv 7) pa_nil)) (pe_ix (ix_listK (K := K) rfl) (pv 9) pe_int (fun _ _ => rfl)) (nomark _))
              (pss_one (ps_ret pe_bl))
              pss_nil))))
            pss_nil))))))))
        (pss_one (ps_if (pt_not (pt_val (pe_cG D_refused_right quiet pass0 hr (by decide) (by rfl) (pa_cons (pv 1) (pa_cons (pv 5) (pa_cons (pe_c D_word hr (by decide) (by rfl) (pa_cons (pv 1) (pa_cons (pv 3) (pa_cons pe_int pa_nil)))) pa_nil))))))
          (pss_one (ps_ret pe_bl))
          pss_nil)))))))
      (pss_cons (ps_set (i := 12) sc_law.nd rfl (.inr rfl) (pe_mk1 D_mk hr (by decide) (by rfl) (pa_cons (pe_disp (pps_cons pe_str pe_str (pps_cons pe_str pe_str pps_nil)) (by rfl) (by rfl) (fun z => by cases z) (by decide)) pa_nil)))
      (pss_cons (ps_set (i := 13) sc_law.nd rfl (.inl rfl) (pe_lst (pa_cons (pe_heardG (k := 6) T D_heard TB quiet hr (by decide) rfl rfl (by rfl) (lamS_by (sc := defScope s_law) (by decide +kernel)) (by rfl) (fun _ _ _ _ _ => rfl) (fun A2 o2 s2 H2 E2 f2 c2 quiet2 hr2 => (pe_cG D_along quiet2 (passTk (takes_of rfl rfl rfl rfl)) hr2 (by decide) (by rfl) (pa_cons (pe_lst (pa_cons (pv 12) pa_nil)) (pa_cons (pe_op op_repS pe_str pe_int) (pa_cons (pe_op (op_repTK (K := K) rfl) (pe_tup (pa_cons pe_int pa_nil)) pe_int) pa_nil)))))) (pa_cons pe_non (pa_cons pe_non pa_nil)))))
      (pss_cons (ps_asg (pe_heardG (k := 6) T D_heard TB quiet hr (by decide) rfl rfl (by rfl) (lamS_by (sc := defScope s_law) (by decide +kernel)) (by rfl) (fun _ _ _ _ _ => rfl) (fun A2 o2 s2 H2 E2 f2 c2 quiet2 hr2 => (pe_cG D_along quiet2 (passTk (takes_of rfl rfl rfl rfl)) hr2 (by decide) (by rfl) (pa_cons (pe_lst (pa_cons (pv 12) pa_nil)) (pa_cons (pe_op op_add_str (pe_op op_repS pe_str pe_int) pe_str) (pa_cons (pe_op (op_repTK (K := K) rfl) (pe_tup (pa_cons pe_int pa_nil)) pe_int) pa_nil)))))) (pg_sub (pv 13) pe_int set_list))
      (pss_cons (ps_asg (pe_heardG (k := 6) T D_heard TB quiet hr (by decide) rfl rfl (by rfl) (lamS_by (sc := defScope s_law) (by decide +kernel)) (by rfl) (fun _ _ _ _ _ => rfl) (fun A2 o2 s2 H2 E2 f2 c2 quiet2 hr2 => (pe_cG D_along quiet2 (passTk (takes_of rfl rfl rfl rfl)) hr2 (by decide) (by rfl) (pa_cons (pe_lst (pa_cons (pv 12) (pa_cons (pe_mk1 D_mk hr2 (by decide) (by rfl) (pa_cons (pe_disp (pps_cons pe_str pe_str pps_nil) (by rfl) (by rfl) (fun z => by cases z) (by decide)) pa_nil)) pa_nil))) (pa_cons (pe_op op_repS pe_str pe_int) (pa_cons (pe_tup (pa_cons pe_int (pa_cons pe_int (pa_cons pe_int (pa_cons pe_int (pa_cons pe_int pa_nil)))))) pa_nil)))))) (pg_sub (pv 13) pe_int set_list))
      (pss_one (ps_ret (pe_cmpR (op_eqDK (K := K) rfl hr.units) (pv 13) (pe_lst (pa_cons (pe_lst (pa_cons (pe_op op_repS2 pe_str pe_int) pa_nil)) (pa_cons (pe_tup (pa_cons pe_str (pa_cons pe_int pa_nil))) (pa_cons (pe_tup (pa_cons pe_str (pa_cons pe_int pa_nil))) pa_nil)))) (nomark _)))))))))), ?_⟩
    -- the pen
    refine ⟨_, rfl, a, ns, rfl, hS, hn0, fun p l H1 np s1 PA1 => ?_⟩
    have tb1 := tb0.ext s1
    -- the turns
    refine ⟨_, rfl, by decide, by decide, for_it (walk_range (lo := 0) (n := 4)) (fun i σ H2 => (∃ v2 v3 v4 v5 v6 v7 v8 v9 v10 v11 : Option V, σ = [some (.ref a), some (.ref p), v2, v3, v4, v5, v6, v7, v8, v9, v10, v11, none, none, none, none]) ∧ PenAt H2 p l ns (2000 * (4 - i)) ∧ Tabs TL H2) ⟨⟨none, none, none, none, none, none, none, none, none, none, rfl⟩, PA1.less (by omega), tb1⟩ (fun _ _ _ _ _ => trivial) ?_ ?_⟩
    · rintro i z σ H20 H2 hi ⟨⟨v2, v3, v4, v5, v6, v7, v8, v9, v10, v11, rfl⟩, PA2, tb2⟩ ⟨rfl, rfl⟩
      have hb : 2000 * (4 - i) = 2000 * (4 - (i + 1)) + 2000 := by omega
      rw [hb] at PA2
      generalize 2000 * (4 - (i + 1)) = n at PA2 ⊢
      -- some
      refine ⟨_, rfl, _, rfl, p, l, ns, n + 1990, 5, rfl, PA2.less (by omega), by decide, by decide, fun v H3 w0 w1 PA3 fr3 => ?_⟩
      obtain ⟨j, rfl⟩ : ∃ j : Nat, v = j := ⟨v.toNat, by omega⟩
      refine ⟨_, _, rfl, rfl, ?_⟩
      refine ⟨p, l, ns, n + 1980, 1 + j, by rw [show ((1 + j : Nat) : Int) = 1 + (j : Int) by omega]; rfl, PA3.less (by omega), by omega, fun so cs H4 hlen hnd hlt PA4 fr4 nso hso => ?_⟩
      have h5 : cs.length ≤ 5 := by omega
      have hne : cs ≠ [] := fun z => by
        rw [z] at hlen
        simp at hlen
        omega
      have hsp : so ≠ p := PA3.nep nso
      have tb4 := tabs_fr (tabs_fr tb2 PA2.pl fr3) PA3.pl fr4
      clear fr3 fr4 PA2 PA3 nso hlen w0 w1 tb2
      refine atName ?_
      try dsimp only
      -- tables
      refine ⟨_, rfl, p, l, ns, n + 1900, 4, rfl, PA4.less (by omega), by decide, by decide, fun v H5 w0 w1 PA5 fr5 => ?_⟩
      obtain ⟨j2, rfl⟩ : ∃ j : Nat, v = j := ⟨v.toNat, by omega⟩
      refine ⟨_, _, rfl, rfl, ?_⟩
      refine ⟨((1 + j2 : Nat) : Int), by rw [show ((1 + j2 : Nat) : Int) = 1 + (j2 : Int) by omega], by omega, by omega, fun ta nta => lc_range (lo := 0) (n := 1 + j2) (fun i H2 => ∃ ts : List (Addr × Tab), ts.length = i ∧ TabL H2 ts ∧ (∀ q ∈ ts, GoodT cs q.2) ∧ H2 ta = some (.lst (refs ts)) ∧ PenAt H2 p l ns (n + 800 + 260 * (4 - i)) ∧ H2 so = some (.lst (lets cs)) ∧ Tabs TL H2) ?_ ?_ ?_⟩
      · exact ⟨[], rfl, fun q h => (by cases h), fun q h => (by cases h), upd_same, (PA5.new nta).less (by omega), by rw [upd_ne (ne_of_none (fr5 _ _ hso hsp) nta)]; exact fr5 _ _ hso hsp, (tabs_fr tb4 PA4.pl fr5).ext (same_put (s := Same.refl H5) nta)⟩
      · rintro i2 H2 hi2 ⟨ts, hl2, tl, gt, hta, PA2, hso2, tb2⟩
        have tap := PA5.nep nta
        have tal := PA5.nel nta
        have taso : so ≠ ta := ne_of_none (fr5 _ _ hso hsp) nta
        refine ⟨rfl, _, rfl, _, rfl, p, l, so, ns, n + 800 + 260 * (4 - (i2 + 1)), cs, rfl, PA2.less (by omega), hso2, hsp, hne, hnd, by omega, hlt, fun d t H6 G PA6 fr6 nd hd => ?_⟩
        have hta6 := fr6 _ _ hta tap
        have tl6 := (tl.mv PA2.pl (Mv.ofFr fr6)).snoc (q := (d, t)) hd (good_tbn G (by omega) hlt)
        refine ⟨_, hta6, by rw [refs_len]; exact small1000 (by omega), ts ++ [(d, t)], by rw [List.length_append, hl2]; rfl, tl6.mv ⟨_, hta6⟩ (Mv.ofFr Fr.at), fun q hq => ?_, by rw [upd_same, refs_snoc ts (d, t)], PA6.other tap tal, by rw [upd_ne taso]; exact fr6 _ _ hso2 hsp, tabs_fr (tabs_fr tb2 PA2.pl fr6) ⟨_, hta6⟩ Fr.at⟩
        rcases List.mem_append.mp hq with h | h
        · exact gt q h
        · rw [List.mem_singleton.mp h]
          exact G
      rintro H6 ⟨ts, hlt2, tl, gt, hta, PA6, hso6, tb6⟩
      have tap := PA5.nep nta
      have tal := PA5.nel nta
      have taso : so ≠ ta := ne_of_none (fr5 _ _ hso hsp) nta
      have t1 : 1 ≤ ts.length := by omega
      have t4 : ts.length ≤ 4 := by omega
      replace PA6 : PenAt H6 p l ns (n + 800) := PA6.less (by omega)
      clear nta fr5 PA5 PA4 hso tb4 w0 w1 hlt2
      refine atName ?_
      try dsimp only
      -- made
      refine ⟨_, rfl, ta, rfl, ⟨_, SqL.of hta⟩, fun D nD => lc_it (walk_list (xs := refs ts)) (fun i H2 => ∃ ps : List (Addr × Tab), ps.map (·.2) = (ts.take i).map (·.2) ∧ MisL CM H2 ps ∧ H2 D = some (.lst (refs ps)) ∧ Same H6 H2) ?_ ?_ ?_ ?_⟩
      · exact ⟨[], rfl, fun q h => (by cases h), upd_same, same_put (s := Same.refl H6) nD⟩
      · rintro i2 H2 hi2 ⟨ps, e2, ml, hD, s2⟩
        exact SqL.of (s2 _ _ hta)
      · rintro i2 y H2 H3 hi2 ⟨ps, e2, ml, hD, s2⟩ ⟨rfl, hy⟩
        obtain ⟨q, hq⟩ : ∃ q, ts[i2]? = some q := by
          rw [refs_len] at hi2
          exact ⟨_, List.getElem?_eq_getElem hi2⟩
        have ey : y = V.ref q.1 := by
          have z := hy
          rw [refs, List.getElem?_map, hq] at z
          exact (Option.some.inj z).symm
        subst ey
        have mq := List.mem_of_getElem? hq
        have G := gt q mq
        refine ⟨rfl, _, rfl, q.1, cs, [], q.2, rfl, s2 _ _ (tl q mq).1, G, ⟨by rw [toldT_nil G.nd]; exact (tl q mq).2.ct, by omega⟩, hlt, fun c h => (nomatch h), by decide, fun x H7 nx m7 s7 => ?_⟩
        have m8 := m7.mis
        rw [toldT_nil G.nd] at m8
        have hD7 := s7 _ _ hD
        have pl : ps.length = i2 := by
          have := congrArg List.length e2
          rw [List.length_map, List.length_map, List.length_take] at this
          rw [refs_len] at hi2
          omega
        have ml7 : MisL CM H7 (ps ++ [(x, q.2)]) := fun r hr => by
          rcases List.mem_append.mp hr with h | h
          · exact ⟨(ml r h).1.same s7, (ml r h).2⟩
          · rw [List.mem_singleton.mp h]
            exact ⟨m8, good_bnd G, good_mis G hlt⟩
        refine ⟨_, hD7, by rw [refs_len, pl]; rw [refs_len] at hi2; exact small1000 (by omega), ps ++ [(x, q.2)], ?_, ml7.mv ⟨_, hD7⟩ (Mv.ofFr Fr.at), by rw [upd_same, refs_snoc ps (x, q.2)], fun b o e => ?_⟩
        · rw [List.take_add_one, hq, List.map_append, List.map_append, e2]
          rfl
        · rw [upd_ne (ne_of_none e nD)]
          exact s7 _ _ (s2 _ _ e)
      rintro H7 ⟨ps, epp, ml, hma, s7⟩
      rw [refs_len, List.take_length] at epp
      have S : LawS TL CM p l so ta D ns (n + 800) cs ts ps H7 := ⟨pen_same PA6 s7, s7 _ _ hso6, hsp, s7 _ _ hta, tap, tl.same s7, hma, PA6.nep nD, ml, tb6.ext s7⟩
      have pl : ps.length = ts.length := by
        have := congrArg List.length epp
        rwa [List.length_map, List.length_map] at this
      clear PA6 hso6 hta tl hma tb6 s7 ml tap tal taso nD
      refine atName ?_
      try dsimp only
      -- again
      refine ⟨_, rfl, by decide, by decide, for_it (walk_range (lo := 0) (n := 5)) (fun i2 σ H2 => (∃ v6 v7 v8 v9 v10 v11 : Option V, σ = [some (.ref a), some (.ref p), some (.int (0 + (i : Nat))), some (.ref so), some (.ref ta), some (.ref D), v6, v7, v8, v9, v10, v11, none, none, none, none]) ∧ LawS TL CM p l so ta D ns (n + 100 + 50 * (5 - i2)) cs ts ps H2) ⟨⟨_, _, _, _, _, _, rfl⟩, S.less (by omega)⟩ (fun _ _ _ _ _ => trivial) ?_ ?_⟩
      · rintro i2 z σ H80 H8 hi2 ⟨⟨v6, v7, v8, v9, v10, v11, rfl⟩, S8⟩ ⟨rfl, rfl⟩
        have hb : n + 100 + 50 * (5 - i2) = (n + 100 + 50 * (5 - (i2 + 1))) + 50 := by omega
        rw [hb] at S8
        generalize n + 100 + 50 * (5 - (i2 + 1)) = m at S8 ⊢
        -- word
        refine ⟨_, rfl, _, rfl, p, l, so, ns, m + 40, 6, cs, rfl, by omega, S8.pa.less (by omega), S8.hso, S8.sp, hne, by omega, hlt, fun w0 H9 hw h6 PA9 fr9 => ?_⟩
        have S9 := S8.fr fr9 PA9
        have lw : ∀ c ∈ w0, isLt c := fun c hc => hlt c (hw c hc)
        clear S8 PA9 fr9
        refine atName ?_
        try dsimp only
        -- path
        refine ⟨_, rfl, p, l, ns, m + 20, 9, rfl, S9.pa.less (by omega), by decide, by decide, fun v H10 w0' w1' PA10 fr10 => ?_⟩
        obtain ⟨k, rfl⟩ : ∃ j : Nat, v = j := ⟨v.toNat, by omega⟩
        have S10 := S9.fr fr10 PA10
        clear S9 PA10 fr10
        refine ⟨(k : Int), rfl, by omega, by omega, fun L nL => lc_range (lo := 0) (n := k) (fun i H2 => ∃ row : List Nat, row.length = i ∧ (∀ x ∈ row, x < ps.length) ∧ H2 L = some (.lst (idxs row)) ∧ LawS TL CM p l so ta D ns (m + (12 - i)) cs ts ps H2) ?_ ?_ ?_⟩
        · exact ⟨[], rfl, fun x h => (by cases h), upd_same, (S10.same (same_put (s := Same.refl H10) nL)).less (by omega)⟩
        · rintro i3 H2 hi3 ⟨row, rl, hin, hL, S2⟩
          refine ⟨rfl, _, rfl, _, rfl, D, refs ps, rfl, .inl (SqL.of S2.hma), ?_⟩
          rw [refs_len]
          refine ⟨p, l, ns, m + (12 - (i3 + 1)), (ps.length : Int), rfl, S2.pa.less (by omega), by omega, by omega, fun v H6 v0 v1 PA6 fr6 => ?_⟩
          obtain ⟨x, rfl⟩ : ∃ j : Nat, v = j := ⟨v.toNat, by omega⟩
          have hLp := S10.pa.nep nL
          have hL6 := fr6 _ _ hL hLp
          have S6 := S2.fr fr6 PA6
          refine ⟨_, hL6, by rw [idxs_len]; exact small1000 (by omega), row ++ [x], by rw [List.length_append, rl]; rfl, fun y hy => ?_, by rw [upd_same, idxs_snoc], S6.grow hL6 hLp (S10.pa.nel nL) (ne_of_none S10.hso nL) (ne_of_none S10.hta nL) (ne_of_none S10.hma nL)⟩
          rcases List.mem_append.mp hy with h | h
          · exact hin y h
          · rw [List.mem_singleton.mp h]
            omega
        rintro H11 ⟨row, rl, hin, hL, S11⟩
        replace S11 := S11.less (n' := m) (by omega)
        clear S10
        refine ⟨L, idxs row, rfl, .inl ⟨SqL.of hL, fun b nb => ?_⟩⟩
        have s12 := same_put (s := Same.refl H11) (o := .tup (idxs row)) nb
        have hbt : upd H11 b (.tup (idxs row)) b = some (.tup (idxs row)) := upd_same
        have S12 := S11.same s12
        generalize upd H11 b (.tup (idxs row)) = H12 at S12 hbt ⊢
        clear s12 nb S11 hL nL
        have r8 : row.length ≤ 8 := by omega
        clear w0' w1' rl
        refine atName ?_
        try dsimp only
        -- due
        refine ⟨_, rfl, _, rfl, _, rfl, ta, b, ts, w0, row, rfl, S12.hta, S12.tl, lw, by omega, hbt, by omega, fun x hx => by have := hin x hx; omega, fun due H13 nd s13 od => ?_⟩
        have S13 := S12.same s13
        have hb13 := s13 _ _ hbt
        have uso : ∀ i c s, lk ((ts.map (·.2)).getD i []) c = some s → ∀ d ∈ s, isLt d := fun i c s e => by
          by_cases hi : i < ts.length
          · obtain ⟨q, hq⟩ : ∃ q, ts[i]? = some q := ⟨_, List.getElem?_eq_getElem hi⟩
            rw [us_at hq] at e
            exact good_mis (gt q (List.mem_of_getElem? hq)) hlt c s e
          · rw [List.getD_eq_getElem?_getD, List.getElem?_eq_none (by rw [List.length_map]; omega)] at e
            have e0 : lk [] c = none := by
              show (if c ∈ abc then none else none) = none
              split <;> rfl
            rw [show (none : Option Tab).getD [] = [] from rfl, e0] at e
            cases e
        have oko : OkO (alF (ts.map (·.2)) row 0 w0) := alF_ok uso row w0 0 (by omega) (by omega) lw
        have tells := outD_tells oko
        clear s13 nd S12 hbt
        refine atName ?_
        try dsimp only
        obtain ⟨o, eo⟩ : ∃ o, o = alF (ts.map (·.2)) row 0 w0 := ⟨_, rfl⟩
        rw [← eo] at od oko tells
        have u1 : 1 ≤ (ts.map (·.2)).length := by rw [List.length_map]; omega
        have u4 : (ts.map (·.2)).length ≤ 4 := by rw [List.length_map]; omega
        have uin : ∀ x ∈ row, x < (ts.map (·.2)).length := fun x hx => by rw [List.length_map]; have := hin x hx; omega
        -- heard
        change tLamG TL (TTheard CL CO CY CD CT) _ _ H13 _
        refine heard_by (us := ts.map (·.2)) (row := row) (w := w0) S13.tb u1 u4 lw (by omega) (by omega) uin (fun H2 Q2 e2 q => ⟨_, rfl, _, rfl, _, rfl, q D b ps H2 (Same.refl H2) (.inl (e2 _ _ S13.hma (fun _ z => nomatch z))) epp (S13.ml.ext e2) (e2 _ _ hb13 (fun _ z => nomatch z))⟩) fun h1 H14 o14 e14 tb14 => ?_
        rw [← eo] at o14
        have S14 := S13.ext e14 tb14
        have hb14 := e14 _ _ hb13 (fun _ z => nomatch z)
        have od14 := od.ext e14
        clear S13 hb13 od e14 tb14
        refine ⟨_, outD o, rfl, o14.py, tells, ?_⟩
        refine ⟨_, rfl, _, outD o, rfl, od14.py, tells, ?_⟩
        refine ⟨rfl, ?_⟩
        refine ⟨false, by rw [decide_eq_true rfl]; rfl, iteF ?_⟩
        -- heard of a tuple
        change tLamG TL (TTheard CL CO CY CD CT) _ _ H14 _
        refine heard_by (us := ts.map (·.2)) (row := row) (w := w0) S14.tb u1 u4 lw (by omega) (by omega) uin (fun H2 Q2 e2 q => ⟨_, rfl, D, refs ps, rfl, .inl ⟨SqL.of (e2 _ _ S14.hma (fun _ z => nomatch z)), fun tq ntq => ⟨_, rfl, _, rfl, q tq b ps _ (same_put (s := Same.refl H2) ntq) (.inr upd_same) epp ((S14.ml.ext e2).same (same_put (s := Same.refl H2) ntq)) (same_put (s := Same.refl H2) ntq _ _ (e2 _ _ hb14 (fun _ z => nomatch z)))⟩⟩⟩) fun h2 H15 o15 e15 tb15 => ?_
        rw [← eo] at o15
        have S15 := S14.ext e15 tb15
        have hb15 := e15 _ _ hb14 (fun _ z => nomatch z)
        have od15 := od14.ext e15
        clear S14 hb14 od14 o14 e15 tb15
        refine ⟨_, outD o, rfl, o15.py, tells, ?_⟩
        refine ⟨_, rfl, _, outD o, rfl, od15.py, tells, ?_⟩
        refine ⟨rfl, ?_⟩
        refine ⟨false, by rw [decide_eq_true rfl]; rfl, iteF ?_⟩
        clear o15 h1 h2 uin u1 u4 tells
        -- composed
        refine ⟨_, rfl, b, idxs row, rfl, .inr (.inl (.inl hb15)), ?_⟩
        rw [idxs_len]
        match row, eo, hin, r8, hb15 with
        | [], _, _, _, _ =>
          refine ⟨_, _, rfl, rfl, decide ((0 : Int) < ((0 : Nat) : Int)), rfl, ?_⟩
          rw [decide_eq_false (by omega)]
          refine ⟨false, rfl, iteF ⟨⟨_, _, _, _, _, _, rfl⟩, S15⟩⟩
        | k0 :: rr, eo, hin, r8, hb15 =>
          rw [List.length_cons]
          refine ⟨_, _, rfl, rfl, decide ((0 : Int) < ((rr.length + 1 : Nat) : Int)), rfl, ?_⟩
          rw [decide_eq_true (by omega)]
          by_cases r4 : rr.length + 1 < 4
          · refine ⟨_, _, rfl, rfl, decide (((rr.length + 1 : Nat) : Int) < 4), rfl, ?_⟩
            rw [decide_eq_true (by omega)]
            cases o with
            | barred kk =>
              exact ⟨_, rfl, _, .ty "list", .type "tuple", .type "list", false, rfl, .ty _, .base (.tup od15), kit_ty (by decide +kernel), false, rfl, iteF ⟨⟨_, _, _, _, _, _, rfl⟩, S15⟩⟩
            | many =>
              exact ⟨_, rfl, _, .ty "list", .type "tuple", .type "list", false, rfl, .ty _, .base (.tup od15), kit_ty (by decide +kernel), false, rfl, iteF ⟨⟨_, _, _, _, _, _, rfl⟩, S15⟩⟩
            | ok z =>
              refine ⟨_, rfl, _, .ty "list", .type "list", .type "list", true, rfl, .ty _, .base (.lst od15), kit_ty (by decide +kernel), true, rfl, iteT ?_⟩
              have lk0 : k0 < ts.length := by have := hin k0 List.mem_cons_self; omega
              have bnds : ∀ i, i < ts.length → Bnd 4 (lk ((ts.map (·.2)).getD i [])) ∧ Ovr cs (lk ((ts.map (·.2)).getD i [])) := fun i hi => by
                obtain ⟨q, hq⟩ : ∃ q, ts[i]? = some q := ⟨_, List.getElem?_eq_getElem hi⟩
                rw [us_at hq]
                have G := gt q (List.mem_of_getElem? hq)
                exact ⟨good_bnd G, good_over G⟩
              have inr : ∀ i ∈ rr, i < ts.length := fun i hi => by have := hin i (List.mem_cons_of_mem _ hi); omega
              have fin := cmp_row eo.symm
              obtain ⟨p0, hp0⟩ : ∃ q, ps[k0]? = some q := ⟨_, List.getElem?_eq_getElem (by omega)⟩
              have ek0 : p0.2 = (ts.map (·.2)).getD k0 [] := by rw [← epp, us_at hp0]
              -- the first
              refine ⟨_, rfl, _, rfl, b, idxs (k0 :: rr), 0, V.int (k0 : Nat), rfl, rfl, .inl (.inl hb15), atI_nat (j := 0) rfl, D, refs ps, _, .ref p0.1, rfl, rfl, SqL.of S15.hma, atI_nat (by rw [refs, List.getElem?_map, hp0]; rfl), ?_⟩
              refine atName ?_
              try dsimp only
              have mp0 := (S15.ml p0 (List.mem_of_getElem? hp0)).1
              -- the others
              refine ⟨_, rfl, 1, rfl, b, idxs (k0 :: rr), rfl, .inl (.inl hb15), fun z => ?_, fun c' nc => ?_⟩
              · have e := z.1
                rw [show HT.sIx (idxs (k0 :: rr)).length 0 (some 1) = min 1 (idxs (k0 :: rr)).length from by
                  show HT.sIx _ _ (some ((1 : Nat) : Int)) = _
                  rw [HT.sIx_nat], idxs_len, List.length_cons] at e
                omega
              rw [cut_d1, show (idxs (k0 :: rr)).drop 1 = idxs rr from rfl]
              have s16 := same_put (s := Same.refl H15) (o := .tup (idxs rr)) nc
              have hc16 : upd H15 c' (.tup (idxs rr)) c' = some (.tup (idxs rr)) := upd_same
              have S16 := S15.same s16
              have od16 := s16 _ _ od15
              have mp16 := mp0.same s16
              generalize upd H15 c' (.tup (idxs rr)) = H16 at S16 od16 mp16 hc16 ⊢
              clear s16 nc mp0 S15 od15 hb15
              refine ⟨c', rfl, ⟨_, .inl (.inl hc16)⟩, for_it (walk_tup (xs := idxs rr)) (fun i3 σ H2 => (∃ (x : Addr) (t : Tab) (v11 : Option V), σ = [some (.ref a), some (.ref p), some (.int (0 + (i : Nat))), some (.ref so), some (.ref ta), some (.ref D), some (.int (0 + (i2 : Nat))), some (.str (Sx w0)), some (.ref b), some (.ref due), some (.ref x), v11, none, none, none, none] ∧ MisAt CM H2 x t ∧ lk t = cmp (ts.map (·.2)) (lk ((ts.map (·.2)).getD k0 [])) (rr.take i3)) ∧ Same H16 H2) ⟨⟨p0.1, p0.2, v11, rfl, mp16, by rw [ek0]; rfl⟩, Same.refl H16⟩ (fun _ _ _ _ h => .inl (.inl (h.2 _ _ hc16))) ?_ ?_⟩
              · rintro i3 y σ H2 H3 hi3 ⟨⟨x, t, v11', rfl, mx, et⟩, s2⟩ ⟨rfl, hy⟩
                obtain ⟨k, hk⟩ : ∃ k, rr[i3]? = some k := by
                  rw [idxs_len] at hi3
                  exact ⟨_, List.getElem?_eq_getElem hi3⟩
                have ey : y = V.int (k : Nat) := by
                  have z := hy
                  rw [idxs, List.getElem?_map, hk] at z
                  exact (Option.some.inj z).symm
                subst ey
                have hkl := inr k (List.mem_of_getElem? hk)
                obtain ⟨q, hq⟩ : ∃ q, ps[k]? = some q := ⟨_, List.getElem?_eq_getElem (by omega)⟩
                have ekq : q.2 = (ts.map (·.2)).getD k [] := by rw [← epp, us_at hq]
                have S2 := S16.same s2
                have mq := (S2.ml q (List.mem_of_getElem? hq)).1
                have i31 : i3 < rr.length := by rwa [idxs_len] at hi3
                have tl1 : (rr.take i3).length = i3 := by rw [List.length_take]; omega
                have b1 : Bnd (4 * 4 ^ (rr.take i3).length) (lk t) := by
                  rw [et]
                  exact cmp_bnd _ _ _ (fun i hi => (bnds i (inr i (List.mem_of_mem_take hi))).1) (bnds k0 lk0).1
                have o1 : Ovr cs (lk t) := by
                  rw [et]
                  exact cmp_ovr _ _ (fun i hi => (bnds i (inr i (List.mem_of_mem_take hi))).2) (bnds k0 lk0).2
                have b2 : Bnd 4 (lk q.2) := by
                  rw [ekq]
                  exact (bnds k hkl).1
                have p16 : 4 * 4 ^ (rr.take i3).length ≤ 16 := by
                  rw [tl1]
                  match i3, i31 with
                  | 0, _ => decide
                  | 1, _ => decide
                  | j + 2, h => omega
                have b16 := b1.le p16
                refine atName ?_
                try dsimp only
                refine ⟨_, rfl, _, rfl, _, rfl, D, refs ps, _, .ref q.1, rfl, rfl, SqL.of S2.hma, atI_nat (by rw [refs, List.getElem?_map, hq]; rfl), rsh_mis (cs := cs) mx mq (b16.le (by omega)) (b2.le (by omega)) ((b16.comp b2).le (by omega)) o1 (by omega) fun z' H4 t' mz ez s4 => ?_⟩
                exact ⟨⟨z', t', _, rfl, mz, by rw [ez, et, ekq, cmp_take hk]⟩, fun b o e => s4 _ _ (s2 _ _ e)⟩
              rintro σ H17 ⟨⟨x, t, v11', rfl, mx, et⟩, s17⟩
              rw [idxs_len, List.take_length] at et
              have S17 := S16.same s17
              have hd17 : H17 due = some (.lst [.str (Sx z)]) := s17 _ _ od16
              clear S16 od16 mp16 hc16 s17
              obtain ⟨dx, aa, bb, cc, hx, _⟩ := id mx.at_
              have er : imF (lk t) w0 = some z := by rw [et]; exact fin
              have rr2 : rr.length = 0 ∨ rr.length = 1 ∨ rr.length = 2 := by omega
              have b64 : Bnd 64 (lk t) := by
                rw [et]
                refine (cmp_bnd _ _ _ (fun i hi => (bnds i (inr i hi)).1) (bnds k0 lk0).1).le ?_
                rcases rr2 with e | e | e
                · rw [e]; decide
                · rw [e]; decide
                · rw [e]; decide
              have lz : z.length ≤ 2000 := oko.1
              have ltz : ∀ c ∈ z, isLt c := oko.2
              refine ⟨_, rfl, x, rfl, _, rfl, ⟨dx, _, hx⟩, x, t, w0, rfl, mx, lw, by omega, ⟨64, by decide, b64, by omega⟩, fun n c hc hn _ => ?_, fun r2 er2 => ?_⟩
              · rw [imF_none.mpr ⟨c, List.mem_of_getElem? hc, hn⟩] at er
                cases er
              rw [er] at er2
              cases er2
              refine .inl ⟨lz, fun H18 s18 => ?_⟩
              refine ⟨_, rfl, due, [.str (Sx z)], 0, .str (Sx z), rfl, rfl, SqL.of (s18 _ _ hd17), atI_nat (j := 0) rfl, ?_⟩
              refine neD_same (.str _) (.str _) (shaped_flat (by simp only [PyData.canLay0]; exact ok_sx ltz) (by simp only [PyData.depth])) ⟨false, rfl, iteF ?_⟩
              exact ⟨⟨_, _, _, _, _, _, rfl⟩, S17.same s18⟩
          · refine ⟨_, _, rfl, rfl, decide (((rr.length + 1 : Nat) : Int) < 4), rfl, ?_⟩
            rw [decide_eq_false (by omega)]
            exact ⟨⟨_, _, _, _, _, _, rfl⟩, S15⟩
      rintro σ H9 ⟨⟨v6', v7', v8', v9', v10', v11', rfl⟩, S9⟩
      clear S
      -- refused
      refine ⟨_, rfl, _, rfl, _, rfl, _, rfl, p, l, so, ns, n + 50, 4, cs, rfl, by omega, S9.pa.less (by omega), S9.hso, S9.sp, hne, by omega, hlt, fun w0 H10 hw h4 PA10 fr10 => ?_⟩
      have S10 := S9.fr fr10 PA10
      clear S9 PA10 fr10
      refine ⟨p, l, D, ns, n + 40, ps, w0, rfl, S10.pa.less (by omega), S10.hma, S10.mp, by omega, by omega, S10.ml, fun c hc => hlt c (hw c hc), by omega, S10.tb, fun H11 PA11 mv tb11 => ?_⟩
      refine ⟨true, rfl, iteF ⟨⟨_, _, _, _, _, _, _, _, _, _, rfl⟩, PA11.less (by omega), tb11⟩⟩
    rintro σ H2 ⟨⟨v2, v3, v4, v5, v6, v7, v8, v9, v10, v11, rfl⟩, PA2, tb2⟩
    -- the last three
    refine mk_disp (kvs := [("a", "aa"), ("b", "b")]) (T := tw) enc_tw (by decide) gTw fun x H3 mx s3 => ?_
    have tb3 := tb2.ext s3
    clear s3 tb2 PA2
    refine atName ?_
    try dsimp only
    have mlw : ∀ {H' : Hp}, MisAt CM H' x tw → MisL CM H' [(x, tw)] := fun m q hq => by
      rw [List.mem_singleton.mp hq]
      exact ⟨m, good_bnd gTw, good_mis gTw fun c hc => abc_mem.mp hc⟩
    have ml3 := mlw mx
    clear mlw mx
    -- the first
    change tLamG TL (TTheard CL CO CY CD CT) _ _ H3 _
    refine heard_by (us := [tw]) (row := [0, 0, 0, 0]) (w := List.replicate 125 97) tb3 (by decide) (by decide) (ltA 125) (by rw [List.length_replicate]; decide) (by decide) (by decide) (fun H2 Q2 e2 q => ?_) fun l1 H4 o4 e4 tb4 => ?_
    · refine ⟨_, rfl, by show 1 ≤ sizeLine; decide, fun L nL => ⟨"a", 125, rfl, rfl, by decide +kernel, by decide, by decide, ?_⟩⟩
      rw [show Txt.mul ("a" : Str) 125 = Sx (List.replicate 125 97) from mulA 125 (by decide)]
      refine ⟨by show 1 ≤ sizeLine; decide, fun tq nt => ⟨tq, 4, [.int 0], rfl, rfl, .inl (.inl upd_same), by simp, by decide, by decide, by decide, fun pq npq => ?_⟩⟩
      obtain ⟨s_, hL, hp⟩ := three_laid (o3 := .tup (List.replicate (4 : Int).toNat [V.int 0]).flatten) nL nt npq
      exact q L pq [(x, tw)] _ s_ (.inl hL) rfl ((ml3.ext e2).same s_) hp
    rw [al_1] at o4
    have ml4 := ml3.ext e4
    clear e4 tb3 ml3
    refine ⟨by show 3 ≤ sizeLine; decide, fun TT nT => ?_⟩
    have s5 := same_put (s := Same.refl H4) (o := .lst [.ref l1, .non, .non]) nT
    have hT5 : upd H4 TT (.lst [.ref l1, .non, .non]) TT = some (.lst [.ref l1, .non, .non]) := upd_same
    have o5 := o4.same s5
    have ml5 := ml4.same s5
    have tb5 := tb4.ext s5
    generalize upd H4 TT (.lst [.ref l1, .non, .non]) = H5 at hT5 o5 ml5 tb5 ⊢
    clear s5 nT o4 ml4 tb4
    refine atName ?_
    try dsimp only
    -- the second
    change tLamG TL (TTheard CL CO CY CD CT) _ _ H5 _
    refine heard_by (us := [tw]) (row := [0, 0, 0, 0]) (w := List.replicate 125 97 ++ [98]) tb5 (by decide) (by decide) (ltAb 125) (by rw [List.length_append, List.length_replicate]; decide) (by decide) (by decide) (fun H2 Q2 e2 q => ?_) fun l2 H6 o6 e6 tb6 => ?_
    · refine ⟨_, rfl, by show 1 ≤ sizeLine; decide, fun L nL => ⟨"a", 125, rfl, rfl, by decide +kernel, by decide, by decide, ?_⟩⟩
      rw [show Txt.mul ("a" : Str) 125 = Sx (List.replicate 125 97) from mulA 125 (by decide)]
      refine ⟨Sx (List.replicate 125 97), "b", rfl, rfl, by rw [Sx_len, List.length_replicate]; decide +kernel, ?_⟩
      rw [add125]
      refine ⟨by show 1 ≤ sizeLine; decide, fun tq nt => ⟨tq, 4, [.int 0], rfl, rfl, .inl (.inl upd_same), by simp, by decide, by decide, by decide, fun pq npq => ?_⟩⟩
      obtain ⟨s_, hL, hp⟩ := three_laid (o3 := .tup (List.replicate (4 : Int).toNat [V.int 0]).flatten) nL nt npq
      exact q L pq [(x, tw)] _ s_ (.inl hL) rfl ((ml5.ext e2).same s_) hp
    rw [al_2] at o6
    have ml6 := ml5.ext e6
    have hT6 := e6 _ _ hT5 (fun _ z => nomatch z)
    have o6' := o5.ext e6
    clear e6 tb5 ml5 hT5 o5
    have n16 : l1 ≠ TT := ne_of o6' hT6 (fun z => nomatch z)
    have n26 : l2 ≠ TT := ne_of o6 hT6 (fun z => nomatch z)
    refine ⟨_, rfl, TT, [.ref l1, .non, .non], 1, 1, rfl, rfl, hT6, rfl, ?_⟩
    have p1 := o6'.upd (x := .lst [.ref l1, .ref l2, .non]) n16
    have p2 := o6.upd (x := .lst [.ref l1, .ref l2, .non]) n26
    have hT7 : upd H6 TT (.lst [.ref l1, .ref l2, .non]) TT = some (.lst [.ref l1, .ref l2, .non]) := upd_same
    have ml7 := ml6.mv ⟨_, hT6⟩ (Mv.ofFr (Fr.at (o := .lst [.ref l1, .ref l2, .non])))
    have tb7 := tabs_fr tb6 ⟨_, hT6⟩ (Fr.at (o := .lst [.ref l1, .ref l2, .non]))
    change (fun (H7 : Hp) => _) (upd H6 TT (.lst [.ref l1, .ref l2, .non]))
    generalize upd H6 TT (.lst [.ref l1, .ref l2, .non]) = H7 at p1 p2 hT7 ml7 tb7 ⊢
    clear o6' o6 hT6 ml6 tb6
    try dsimp only
    -- the third
    change tLamG TL (TTheard CL CO CY CD CT) _ _ H7 _
    refine heard_by (us := [tw, tbc]) (row := [0, 0, 0, 0, 1]) (w := List.replicate 126 97) tb7 (by decide) (by decide) (ltA 126) (by rw [List.length_replicate]; decide) (by decide) (by decide) (fun H2 Q2 e2 q => ?_) fun l3 H8 o8 e8 tb8 => ?_
    · refine ⟨_, rfl, mk_disp (kvs := [("b", "c")]) (T := tbc) enc_tbc (by decide) gTbc fun y H2' my sy => ⟨by show 2 ≤ sizeLine; decide, fun L nL => ⟨"a", 126, rfl, rfl, by decide +kernel, by decide, by decide, ?_⟩⟩⟩
      rw [show Txt.mul ("a" : Str) 126 = Sx (List.replicate 126 97) from mulA 126 (by decide)]
      refine ⟨by show 5 ≤ sizeLine; decide, fun pq npq => ?_⟩
      obtain ⟨s_, hL, hp⟩ := two_laid (o2 := .tup [.int 0, .int 0, .int 0, .int 0, .int 1]) nL npq
      have mlA : MisL CM H2' [(x, tw), (y, tbc)] := fun r hr => by
        rcases List.mem_cons.mp hr with rfl | hr
        · exact ((ml7.ext e2).same sy) _ (List.mem_singleton.mpr rfl)
        · rw [List.mem_singleton.mp hr]
          exact ⟨my, good_bnd gTbc, good_mis gTbc fun c hc => abc_mem.mp hc⟩
      exact q L pq [(x, tw), (y, tbc)] _ (fun b o e => s_ _ _ (sy _ _ e)) (.inl hL) rfl (mlA.same s_) hp
    rw [al_3] at o8
    have hT8 := e8 _ _ hT7 (fun _ z => nomatch z)
    have q1 := p1.ext e8
    have q2 := p2.ext e8
    clear e8 tb7 tb8 ml7 hT7 p1 p2
    have n38 : l3 ≠ TT := ne_of o8 hT8 (fun z => nomatch z)
    refine ⟨_, rfl, TT, [.ref l1, .ref l2, .non], 2, 2, rfl, rfl, hT8, rfl, ?_⟩
    have r1 := q1.upd (x := .lst [.ref l1, .ref l2, .ref l3]) n16
    have r2 := q2.upd (x := .lst [.ref l1, .ref l2, .ref l3]) n26
    have r3 := o8.upd (x := .lst [.ref l1, .ref l2, .ref l3]) n38
    have hT9 : upd H8 TT (.lst [.ref l1, .ref l2, .ref l3]) TT = some (.lst [.ref l1, .ref l2, .ref l3]) := upd_same
    change (fun (H7 : Hp) => _) (upd H8 TT (.lst [.ref l1, .ref l2, .ref l3]))
    generalize upd H8 TT (.lst [.ref l1, .ref l2, .ref l3]) = H9 at r1 r2 r3 hT9 ⊢
    clear o8 hT8 q1 q2
    try dsimp only
    -- what it is
    refine ⟨_, rfl, "a", 2000, rfl, rfl, by decide +kernel, by decide, by decide, ?_⟩
    rw [show Txt.mul ("a" : Str) 2000 = Sx (List.replicate 2000 97) from mulA 2000 (by decide)]
    generalize hR : List.replicate 2000 97 = R at r1 ⊢
    have ltR : ∀ c ∈ R, isLt c := hR ▸ ltA 2000
    refine ⟨by show 1 ≤ sizeLine; decide, fun z1 nz1 => ⟨by show 2 ≤ sizeLine; decide, fun z2 nz2 => ⟨by show 2 ≤ sizeLine; decide, fun z3 nz3 => ⟨by show 3 ≤ sizeLine; decide, fun zz nzz => ?_⟩⟩⟩⟩
    obtain ⟨s_, h1, h3⟩ := three_laid (o1 := .lst [.str (Sx R)]) (o2 := .tup [.str "signs", .int 2000]) (o3 := .tup [.str "signs", .int 2000]) nz1 nz2 nz3
    have h2 := same_put (s := Same.refl _) (o := .tup [.str "signs", .int 2000]) nz3 z2 _ upd_same
    have s9 := same_put (s := Same.refl _) (o := .lst [.ref z1, .ref z2, .ref z3]) nzz
    have sA : Same H9 _ := fun b o e => s9 _ _ (s_ _ _ e)
    refine eq_same (d := .list [outD (.ok R), outD .many, outD .many]) ?_ ?_ (shaped_out ltR) (q0 _)
    · exact .lst (SqL.of (sA _ _ hT9)) (.cons (r1.same sA).dp (.cons (r2.same sA).dp (.cons (r3.same sA).dp .nil)))
    · exact .lst (SqL.of upd_same) (.cons (OutV.dp (o := .ok R) (s9 _ _ h1)) (.cons (OutV.dp (o := .many) (s9 _ _ h2)) (.cons (OutV.dp (o := .many) (s9 _ _ h3)) .nil)))
end
end V8

set_option Elab.async false
set_option linter.all false
set_option maxRecDepth 100000
set_option maxHeartbeats 4000000
/-! The end of a law whose promise wants that no repr is under way. -/
namespace LamX
open PySem PySem.Spec PyProof.Rows L2
/-- tables are tracked from the beginning, and so is the script unless it stands in the text -/
def firstH (K : PySem.W.Frag) (ts : List Addr) (a : Addr) (o : Obj) (xs : List V) : Hp := fun b =>
  if b ∈ ts then some (.tbl #[]) else if b = a ∧ K.lookup a = none then some (.frz o (.lst xs)) else none
theorem firstH_tab {K : PySem.W.Frag} {ts : List Addr} {a b : Addr} {o : Obj} {xs : List V} (h : b ∈ ts) : firstH K ts a o xs b = some (.tbl #[]) := by
  unfold firstH
  rw [if_pos h]
theorem firstH_at {K : PySem.W.Frag} {ts : List Addr} {a : Addr} {o : Obj} {xs : List V} (h : a ∉ ts) (n : K.lookup a = none) : firstH K ts a o xs a = some (.frz o (.lst xs)) := by
  unfold firstH
  rw [if_neg h, if_pos ⟨rfl, n⟩]
theorem firstH_of {K : PySem.W.Frag} {ts : List Addr} {a b : Addr} {o : Obj} {xs : List V} {u : HO} (h : firstH K ts a o xs b = some u) : (b ∈ ts ∧ u = .tbl #[]) ∨ (b = a ∧ K.lookup a = none ∧ u = .frz o (.lst xs)) := by
  unfold firstH at h
  by_cases h1 : b ∈ ts
  · rw [if_pos h1] at h
    exact .inl ⟨h1, (Option.some.inj h).symm⟩
  · rw [if_neg h1] at h
    by_cases h2 : b = a ∧ K.lookup a = none
    · rw [if_pos h2] at h
      exact .inr ⟨h2.1, h2.2, (Option.some.inj h).symm⟩
    · rw [if_neg h2] at h
      cases h
theorem law_callG {P : Program} {w : World} {K : PySem.W.Frag} {mg mb : Str → Option Value} {C : CXT} {k : Nat} {fa a : Addr} {cs : List (Addr × Addr)} {fd : FuncData} {x : Str} {sp : Sp} {s : Shared} {vs : List Value} {ns : List Int}
    (kin : K.In s.heap) (glob : s.heap.Ns mainGlobals mg) (bns : s.heap.Ns builtinsNs mb) (boot : ∀ y : Str, y ≠ "__name__" → mb y = bootBuiltins y) (lim : s.heap.NoLimit) (gens : s.gens = #[])
    (tabs : ∀ p ∈ cs, s.heap.get? p.2 = some { cls := .none, data := .fields #[] }) (untold : ∀ p ∈ cs, K.lookup p.2 = none) (codes : ∀ p ∈ cs, PySem.W.CodeHd s.heap p.1 p.2)
    (bmod : ∃ (bm : Addr) (ob : Obj), mg "__builtins__" = some (.ref bm) ∧ bm ≠ builtinsNs ∧ s.heap.get? bm = some ob ∧ ob.cls = .type "module" ∧ ob.dict = some builtinsNs ∧ ob.data = .plain)
    (script : s.heap.get? a = some { cls := .type "list", data := .seq vs.toArray }) (whole : IntsAre vs ns) (short : ns.length ≤ sizeLine) (room : Room k callerA)
    (F : ∀ base : Heap, K.In base → base.Ns mainGlobals mg → (∀ p ∈ cs, TabB base mg p.1 p.2) → FnG P w K mg base C k fa fd [x] sp) (binds : ∀ (s : Shared) (u : Value), BindsTo s fd ⟨[u], []⟩ [(x, u)])
    (holds : ∀ H : Hp, (∀ p ∈ cs, H p.2 = some (.tbl #[])) → SqL K H a (ns.map V.int) → sp [.ref a] H (fun v _ => v = .bl true) fun _ _ _ => False)
    (noerr : ∀ H e s', C [] H s (fun _ _ _ => False) e s' → False) :
    codeAny (model P w) callerA (.call (.ref fa) ⟨[.ref a], []⟩) (fun r s' => r = .ok (.ret (.bool true)) ∧ OldK s.heap s'.heap ∧ s'.os = s.os ∧ AllBare s'.gens) s := by
  have rel := vals_ints whole
  have many := whole.length
  generalize hts : cs.map (·.2) = ts
  have inT : ∀ p ∈ cs, p.2 ∈ ts := fun p hp => by
    rw [← hts]
    exact List.mem_map.mpr ⟨p, hp, rfl⟩
  have ofT : ∀ b ∈ ts, ∃ p ∈ cs, p.2 = b := fun b hb => by
    rw [← hts] at hb
    exact List.mem_map.mp hb
  have emp : ∀ b ∈ ts, s.heap.get? b = some { cls := .none, data := .fields #[] } := fun b hb => by
    obtain ⟨p, hp, rfl⟩ := ofT b hb
    exact tabs p hp
  have aT : a ∉ ts := fun z => by
    have e := emp a z
    rw [script] at e
    have e2 := congrArg Obj.data (Option.some.inj e)
    cases e2
  generalize hH : firstH K ts a { cls := .type "list", data := .seq vs.toArray } (ns.map V.int) = H
  have of : ∀ {b u}, H b = some u → (b ∈ ts ∧ u = .tbl #[]) ∨ (b = a ∧ K.lookup a = none ∧ u = .frz { cls := .type "list", data := .seq vs.toArray } (.lst (ns.map V.int))) := fun {b u} z => by
    rw [← hH] at z
    exact firstH_of z
  have atT : ∀ b ∈ ts, H b = some (.tbl #[]) := fun b hb => by
    rw [← hH]
    exact firstH_tab hb
  -- what is neither a list nor an empty table is not tracked
  have off : ∀ {b : Addr} {o : Obj}, s.heap.get? b = some o → (∀ us n, o.data ≠ .seq us n) → o.data ≠ .fields #[] → H b = none := fun {b o} e n1 n2 => by
    cases z : H b with
    | none => rfl
    | some u =>
      rcases of z with ⟨m, _⟩ | ⟨m, _, _⟩
      · rw [emp b m] at e
        cases e
        exact absurd rfl n2
      · rw [m, script] at e
        cases e
        exact absurd rfl (n1 _ _)
  have dict : ∀ {b : Addr} {o : Obj} {es : Array DictEntry} {n : Nat}, s.heap.get? b = some o → o.data = .dict es n → H b = none := fun {b o es n} e d =>
    off e (fun us m z => by rw [d] at z; cases z) fun z => by rw [d] at z; cases z
  have stays : ∀ {b : Addr} {m : Str → Option Value}, s.heap.Ns b m → (hidT s.heap H).Ns b m := fun {b m} z => by
    obtain ⟨o, es, ep, e, d, r⟩ := z
    exact ⟨o, es, ep, hidT_get e (dict e d), d, r⟩
  have kin2 : K.In (hidT s.heap H) := fun b o e => by
    refine hidT_get (kin b o e) ?_
    cases z : H b with
    | none => rfl
    | some u =>
      rcases of z with ⟨m, _⟩ | ⟨m, n, _⟩
      · obtain ⟨p, hp, rfl⟩ := ofT b m
        rw [untold p hp] at e
        cases e
      · rw [m, n] at e
        cases e
  have glob2 := stays glob
  have mod : L2.Mod K mg (hidT s.heap H) := by
    refine ⟨kin2, glob2, ⟨mb, stays bns, boot⟩, ?_⟩
    obtain ⟨mc, l1, l2⟩ := lim
    exact ⟨mc, stays l1, l2⟩
  have tb : ∀ p ∈ cs, TabB (hidT s.heap H) mg p.1 p.2 := fun p hp => by
    have eT := tabs p hp
    refine ⟨?_, ?_, fun z => ?_⟩
    · obtain ⟨o, us, file, tf, flags, tg, inF, text, tt, e1, r1, r2, r3, r⟩ := codes p hp
      refine ⟨o, us, file, tf, flags, tg, inF, text, tt, hidT_get e1 (off e1 (fun ws n z => ?_) fun z => ?_), r1, r2, r3, r⟩
      · rw [r2] at z
        cases z
      · rw [r2] at z
        have z2 : us = #[] := by cases z; rfl
        rw [z2] at r3
        simp at r3
    · obtain ⟨bm, ob, b1, b2, b3, b4, b5, b6⟩ := bmod
      refine ⟨bm, ob, b1, b2, fun z => ?_, fun z => ?_, hidT_get b3 (off b3 (fun ws n z => ?_) fun z => ?_), b4, b5, b6⟩
      · obtain ⟨o, es, ep, e, hd, _⟩ := glob
        rw [z, e] at b3
        cases b3
        rw [hd] at b6
        cases b6
      · rw [z, eT] at b3
        cases b3
        cases b6
      · rw [b6] at z
        cases z
      · rw [b6] at z
        cases z
    · obtain ⟨o, es, ep, e, hd, _⟩ := glob
      rw [z, eT] at e
      cases e
      cases hd
  have held : HOk P w H s.heap := fun b u z => by
    rcases of z with ⟨m, rfl⟩ | ⟨rfl, n, rfl⟩
    · exact emp b m
    · refine ⟨script, ?_, vs, 0, rel, script⟩
      rw [List.length_map]
      exact short
  have seq : SqL K H a (ns.map V.int) := by
    cases hk : K.lookup a with
    | none =>
      refine .inl (.inr ⟨{ cls := .type "list", data := .seq vs.toArray }, ?_⟩)
      rw [← hH]
      exact firstH_at aT hk
    | some o =>
      have e := kin a o hk
      rw [script] at e
      cases e
      refine .inr ⟨_, vs.toArray, _, hk, rfl, rfl, rfl, ?_, by simpa using rel⟩
      rw [List.size_toArray, many]
      exact short
  have start : Env0 P w K mg (hidT s.heap H) callerA [] s H := by
    refine ⟨rfl, mod, fun b o e => of_hidT e, Nat.le_of_eq (hidT_size _ _), trivial, fun b z => ?_, held, .of_eq gens⟩
    exact absurd z (List.not_mem_nil)
  have ran := (F _ kin2 glob2 tb).runs callerA [] s H ⟨[.ref a], []⟩ [.ref a] [.ref a] _ _ rfl room start (binds s (.ref a)) (.cons rfl .nil) (holds H (fun p hp => atT _ (inT p hp)) seq)
  refine codeAny_mono ran fun r s2 h => ?_
  match r, h with
  | .error e, h => exact (noerr H e s2 h).elim
  | .ok .next, h => exact h.elim
  | .ok .brk, h => exact h.elim
  | .ok .cont, h => exact h.elim
  | .ok (.ret u), h =>
    obtain ⟨v, H2, os, bare, un, ok2, rv, rfl⟩ := h
    obtain rfl : u = Value.bool true := rv
    have same : ∀ b o, b ∉ ts → s.heap.get? b = some o → s2.heap.get? b = some o := fun b o nb e => by
      cases z : H b with
      | none => exact un.keep b o e z (List.not_mem_nil) (List.not_mem_nil)
      | some u =>
        rcases of z with ⟨m, _⟩ | ⟨rfl, n, rfl⟩
        · exact absurd m nb
        · obtain ⟨e2, _⟩ := ok2 b _ (un.frzs b _ _ z)
          rw [script] at e
          cases e
          exact e2
    have more : ∀ b ∈ ts, ∃ us : Array Value, s2.heap.get? b = some { cls := .none, data := .fields us } := fun b hb => by
      obtain ⟨us, z⟩ := un.tbls b #[] (atT b hb)
      exact ⟨_, ok2 b _ z⟩
    refine ⟨rfl, ⟨fun b o e => ?_, fun b o e => ?_⟩, os, bare⟩
    · by_cases hb : b ∈ ts
      · obtain ⟨us, hu⟩ := more b hb
        obtain ⟨p, hp, rfl⟩ := ofT b hb
        have eT := tabs p hp
        rw [eT] at e
        cases e
        refine .inr (.inl ⟨((codes p hp).tab eT).isCodeTable, rfl, #[], us, rfl, ?_⟩)
        rw [Array.empty_append]
        exact hu
      · exact .inl (same b o hb e)
    · by_cases hb : b ∈ ts
      · obtain ⟨us, hu⟩ := more b hb
        exact ⟨_, hu⟩
      · exact ⟨o, same b o hb e⟩
end LamX

set_option Elab.async false
set_option linter.all false
set_option maxRecDepth 100000
set_option maxHeartbeats 16000000
/-! What the top has left, taken together. -/
namespace V8
open PySem PySem.Spec PyProof.Rows L2 LamX
theorem exm_of {K : PySem.W.Frag} {S R : Addr} (h1 : PySem.W.subIn K (.ref R) (.type "BaseException") = some true) (h2 : PySem.W.isClsIn K R = true) (h3 : PySem.W.typeIn K (.ref R) = some (.type "type")) (h4 : PySem.W.subIn K (.ref S) (.ref R) = some true) : PySem.W.exmOne K (.ref S) (.ref R) = some true := by
  unfold PySem.W.isClsIn at h2
  unfold PySem.W.exmOne
  rw [h1, if_pos (show (some true == some true) = true from rfl)]
  unfold PySem.W.kitCls
  dsimp only
  rw [h2, h3, if_pos (show (true && (some (Value.type "type") == some (Value.type "type"))) = true by decide +kernel), h4]
/-- what the law promises where the script is laid -/
structure LawG (l : PySem.W.OpenLaw) (w : World) (K : PySem.W.Frag) (k : Nat) (mg : Str → Option Value) (fa : Addr) (h : Heap) (fd : FuncData) (cs : List (Addr × Addr)) (sp : Sp) : Prop where
  tabs : ∀ p ∈ cs, h.get? p.2 = some { cls := .none, data := .fields #[] }
  untold : ∀ p ∈ cs, K.lookup p.2 = none
  codes : ∀ p ∈ cs, PySem.W.CodeHd h p.1 p.2
  binds : ∀ (s : Shared) (u : Value), BindsTo s fd ⟨[u], []⟩ [("_law_script", u)]
  starts : ∀ (H : Hp) (a : Addr) (ns : List Int), ns.length ≤ 63 → (∀ z ∈ ns, Builtin.Int.intBits z ≤ 1048576) → (∀ p ∈ cs, H p.2 = some (.tbl #[])) → SqL K H a (ns.map V.int) → sp [.ref a] H (fun v _ => v = .bl true) fun _ _ _ => False
  runs : ∀ base : Heap, K.In base → base.Ns mainGlobals mg → (∀ p ∈ cs, TabB base mg p.1 p.2) → FnG l.prog w K mg base CX0 k fa fd ["_law_script"] sp
/-- the names of the lambdas, by their tables -/
def TLs (p1 p2 : Addr) : List (Addr × Str) := [(p1, (("_law_refused_right" : Str) ++ ".<locals>.") ++ "<lambda>"), (p2, (("law" : Str) ++ ".<locals>.") ++ "<lambda>")]
theorem all_mk {l : PySem.W.OpenLaw} {w : World} {K : PySem.W.Frag} {fa : Addr} {h : Heap} {mg : Str → Option Value} {CM CJ CL CO CY CD CT CE NL NO NY ND NT q1 q2 p1 p2 f0 f1 f2 f3 f4 f5 f6 f7 f8 f9 f10 f11 f12 f13 f14 f15 f16 f17 f18 f19 f20 f21 f22 f23 f24 f25 f26 f27 f28 f29 f30 f31 f32 f33 f34 f35 f36 f37 f38 TI : Addr} {od0 od1 od2 od3 od4 od5 od6 od7 od8 od9 od10 od11 od12 od13 od14 od15 od16 od17 od18 od19 od20 od21 od22 od23 od24 od25 od26 od27 od28 od29 od30 od31 od32 od33 od34 od35 od36 od37 od38 odT qd1 qd2 : Option Addr} {an0 an1 an2 an3 an4 an5 an6 an7 an8 an9 an10 an11 an12 an13 an14 an15 an16 an17 an18 an19 an20 an21 an22 an23 an24 an25 an26 an27 an28 an29 an30 an31 an32 an33 an34 an35 an36 an37 an38 : Option Addr} {sl0 sl1 sl2 sl3 sl4 sl5 sl6 sl7 sl8 sl9 sl10 sl11 sl12 sl13 sl14 sl15 sl16 sl17 sl18 sl19 sl20 sl21 sl22 sl23 sl24 sl25 sl26 sl27 sl28 sl29 sl30 sl31 sl32 sl33 sl34 sl35 sl36 sl37 sl38 slT qs1 qs2 : Array (Option Value)} {oc0 kV0 dc0 pm0 cd0 ct0 oc1 kV1 dc1 pm1 cd1 ct1 oc2 kV2 dc2 pm2 cd2 ct2 oc3 kV3 dc3 pm3 cd3 ct3 oc4 kV4 dc4 pm4 cd4 ct4 oc5 kV5 dc5 pm5 cd5 ct5 oc6 kV6 dc6 pm6 cd6 ct6 oc7 kV7 dc7 pm7 cd7 ct7 oc8 kV8 dc8 pm8 cd8 ct8 oc9 kV9 dc9 pm9 cd9 ct9 oc10 kV10 dc10 pm10 cd10 ct10 oc11 kV11 dc11 pm11 cd11 ct11 oc12 kV12 dc12 pm12 cd12 ct12 oc13 kV13 dc13 pm13 cd13 ct13 oc14 kV14 dc14 pm14 cd14 ct14 oc15 kV15 dc15 pm15 cd15 ct15 oc16 kV16 dc16 pm16 cd16 ct16 oc17 kV17 dc17 pm17 cd17 ct17 oc18 kV18 dc18 pm18 cd18 ct18 oc19 kV19 dc19 pm19 cd19 ct19 oc20 kV20 dc20 pm20 cd20 ct20 oc21 kV21 dc21 pm21 cd21 ct21 oc22 kV22 dc22 pm22 cd22 ct22 oc23 kV23 dc23 pm23 cd23 ct23 oc24 kV24 dc24 pm24 cd24 ct24 oc25 kV25 dc25 pm25 cd25 ct25 oc26 kV26 dc26 pm26 ct26 oc27 kV27 dc27 pm27 ct27 oc28 kV28 dc28 pm28 cd28 ct28 oc29 kV29 dc29 pm29 cd29 ct29 oc30 kV30 dc30 pm30 cd30 ct30 oc31 kV31 dc31 pm31 cd31 ct31 oc32 kV32 dc32 pm32 cd32 ct32 oc33 kV33 dc33 pm33 cd33 ct33 oc34 kV34 dc34 pm34 cd34 ct34 oc35 kV35 dc35 pm35 cd35 ct35 oc36 kV36 dc36 pm36 cd36 ct36 oc37 kV37 dc37 pm37 cd37 ct37 oc38 kV38 dc38 pm38 cd38 ct38 ocT : Value} {vs1 vs2 : Array Value} {bsL subL bsO subO bsY subY bsD subD bsT subT : List Value} {nT : Nat} {tkT tk1 tk2 tk3 tk4 tk5 tk6 qt1 qt2 qm1 qm2 qy1 qy2 : Tok} {ql1 ql2 qx1 qx2 : Int} {qi1 qi2 : Bool} {qf1 qf2 nmL qL nmO qO nmY qY nmD qD nmT qT : Str} {snL snO snY snD snT : List Str} {abL abO abY abD abT : Bool} {colL colO colY colD colT : Option Bool} {ddL ddO ddY ddD ddT : Option Addr} {mL0 mL1 mL2 mL3 mL5 mO0 mO1 mO2 mO3 mO5 mY0 mY1 mY2 mY3 mY5 mD0 mD1 mD2 mD3 mD5 mT0 mT1 mT2 mT3 mT5 poI roI : Option Value} (X : K.In h) (G : h.Ns mainGlobals mg) (hfa : mg "law" = some (.ref fa)) (own : OwnTab K fa h) (own2 : ∀ fb, mg "_law_refused_right" = some (.ref fb) → OwnTab K fb h)
    (aC : PySem.W.nsIn K mainGlobals "Misreading" = some (some (.ref CM)))
    (aJ : PySem.W.nsIn K mainGlobals "Joined" = some (some (.ref CJ)))
    (aL : PySem.W.nsIn K mainGlobals "BadList" = some (some (.ref CL)))
    (aO : PySem.W.nsIn K mainGlobals "BadWord" = some (some (.ref CO)))
    (aY : PySem.W.nsIn K mainGlobals "BadRow" = some (some (.ref CY)))
    (aD : PySem.W.nsIn K mainGlobals "Barred" = some (some (.ref CD)))
    (aT : PySem.W.nsIn K mainGlobals "TooMany" = some (some (.ref CT)))
    (aE : PySem.W.nsIn K mainGlobals "RepairError" = some (some (.ref CE)))
    (a0 : PySem.W.nsIn K mainGlobals "copied" = some (some (.ref f0)))
    (l0 : K.lookup f0 = some ⟨oc0, od0, .func (PySem.W.fnOf "copied" "copied" (defArgs s_copied) (defBody s_copied) (defScope s_copied) .none kV0 dc0 pm0 an0 cd0 ct0), sl0⟩) (c0 : PySem.W.codeIn K cd0 "copied" = true) (k0 : PySem.W.keepIn K (.ref f0) = true)
    (a1 : PySem.W.nsIn K mainGlobals "is_letter" = some (some (.ref f1)))
    (l1 : K.lookup f1 = some ⟨oc1, od1, .func (PySem.W.fnOf "is_letter" "is_letter" (defArgs s_is_letter) (defBody s_is_letter) (defScope s_is_letter) .none kV1 dc1 pm1 an1 cd1 ct1), sl1⟩) (c1 : PySem.W.codeIn K cd1 "is_letter" = true) (k1 : PySem.W.keepIn K (.ref f1) = true)
    (a2 : PySem.W.nsIn K mainGlobals "all_letters" = some (some (.ref f2)))
    (l2 : K.lookup f2 = some ⟨oc2, od2, .func (PySem.W.fnOf "all_letters" "all_letters" (defArgs s_all_letters) (defBody s_all_letters) (defScope s_all_letters) .none kV2 dc2 pm2 an2 cd2 ct2), sl2⟩) (c2 : PySem.W.codeIn K cd2 "all_letters" = true) (k2 : PySem.W.keepIn K (.ref f2) = true)
    (a3 : PySem.W.nsIn K mainGlobals "is_text" = some (some (.ref f3)))
    (l3 : K.lookup f3 = some ⟨oc3, od3, .func (PySem.W.fnOf "is_text" "is_text" (defArgs s_is_text) (defBody s_is_text) (defScope s_is_text) .none kV3 dc3 pm3 an3 cd3 ct3), sl3⟩) (c3 : PySem.W.codeIn K cd3 "is_text" = true) (k3 : PySem.W.keepIn K (.ref f3) = true)
    (a4 : PySem.W.nsIn K mainGlobals "is_image" = some (some (.ref f4)))
    (l4 : K.lookup f4 = some ⟨oc4, od4, .func (PySem.W.fnOf "is_image" "is_image" (defArgs s_is_image) (defBody s_is_image) (defScope s_is_image) .none kV4 dc4 pm4 an4 cd4 ct4), sl4⟩) (c4 : PySem.W.codeIn K cd4 "is_image" = true) (k4 : PySem.W.keepIn K (.ref f4) = true)
    (a5 : PySem.W.nsIn K mainGlobals "told_images" = some (some (.ref f5)))
    (l5 : K.lookup f5 = some ⟨oc5, od5, .func (PySem.W.fnOf "told_images" "told_images" (defArgs s_told_images) (defBody s_told_images) (defScope s_told_images) .none kV5 dc5 pm5 an5 cd5 ct5), sl5⟩) (c5 : PySem.W.codeIn K cd5 "told_images" = true) (k5 : PySem.W.keepIn K (.ref f5) = true)
    (a6 : PySem.W.nsIn K mainGlobals "is_integer" = some (some (.ref f6)))
    (l6 : K.lookup f6 = some ⟨oc6, od6, .func (PySem.W.fnOf "is_integer" "is_integer" (defArgs s_is_integer) (defBody s_is_integer) (defScope s_is_integer) .none kV6 dc6 pm6 an6 cd6 ct6), sl6⟩) (c6 : PySem.W.codeIn K cd6 "is_integer" = true) (k6 : PySem.W.keepIn K (.ref f6) = true)
    (a7 : PySem.W.nsIn K mainGlobals "is_between" = some (some (.ref f7)))
    (l7 : K.lookup f7 = some ⟨oc7, od7, .func (PySem.W.fnOf "is_between" "is_between" (defArgs s_is_between) (defBody s_is_between) (defScope s_is_between) .none kV7 dc7 pm7 an7 cd7 ct7), sl7⟩) (c7 : PySem.W.codeIn K cd7 "is_between" = true) (k7 : PySem.W.keepIn K (.ref f7) = true)
    (a8 : PySem.W.nsIn K mainGlobals "is_index" = some (some (.ref f8)))
    (l8 : K.lookup f8 = some ⟨oc8, od8, .func (PySem.W.fnOf "is_index" "is_index" (defArgs s_is_index) (defBody s_is_index) (defScope s_is_index) .none kV8 dc8 pm8 an8 cd8 ct8), sl8⟩) (c8 : PySem.W.codeIn K cd8 "is_index" = true) (k8 : PySem.W.keepIn K (.ref f8) = true)
    (a9 : PySem.W.nsIn K mainGlobals "bounded" = some (some (.ref f9)))
    (l9 : K.lookup f9 = some ⟨oc9, od9, .func (PySem.W.fnOf "bounded" "bounded" (defArgs s_bounded) (defBody s_bounded) (defScope s_bounded) .none kV9 dc9 pm9 an9 cd9 ct9), sl9⟩) (c9 : PySem.W.codeIn K cd9 "bounded" = true) (k9 : PySem.W.keepIn K (.ref f9) = true)
    (a10 : PySem.W.nsIn K mainGlobals "check_text" = some (some (.ref f10)))
    (l10 : K.lookup f10 = some ⟨oc10, od10, .func (PySem.W.fnOf "check_text" "check_text" (defArgs s_check_text) (defBody s_check_text) (defScope s_check_text) .none kV10 dc10 pm10 an10 cd10 ct10), sl10⟩) (c10 : PySem.W.codeIn K cd10 "check_text" = true) (k10 : PySem.W.keepIn K (.ref f10) = true)
    (a11 : PySem.W.nsIn K mainGlobals "check_other" = some (some (.ref f11)))
    (l11 : K.lookup f11 = some ⟨oc11, od11, .func (PySem.W.fnOf "check_other" "check_other" (defArgs s_check_other) (defBody s_check_other) (defScope s_check_other) .none kV11 dc11 pm11 an11 cd11 ct11), sl11⟩) (c11 : PySem.W.codeIn K cd11 "check_other" = true) (k11 : PySem.W.keepIn K (.ref f11) = true)
    (a12 : PySem.W.nsIn K mainGlobals "check_misreadings" = some (some (.ref f12)))
    (l12 : K.lookup f12 = some ⟨oc12, od12, .func (PySem.W.fnOf "check_misreadings" "check_misreadings" (defArgs s_check_misreadings) (defBody s_check_misreadings) (defScope s_check_misreadings) .none kV12 dc12 pm12 an12 cd12 ct12), sl12⟩) (c12 : PySem.W.codeIn K cd12 "check_misreadings" = true) (k12 : PySem.W.keepIn K (.ref f12) = true)
    (a13 : PySem.W.nsIn K mainGlobals "check_row" = some (some (.ref f13)))
    (l13 : K.lookup f13 = some ⟨oc13, od13, .func (PySem.W.fnOf "check_row" "check_row" (defArgs s_check_row) (defBody s_check_row) (defScope s_check_row) .none kV13 dc13 pm13 an13 cd13 ct13), sl13⟩) (c13 : PySem.W.codeIn K cd13 "check_row" = true) (k13 : PySem.W.keepIn K (.ref f13) = true)
    (a14 : PySem.W.nsIn K mainGlobals "along" = some (some (.ref f14)))
    (l14 : K.lookup f14 = some ⟨oc14, od14, .func (PySem.W.fnOf "along" "along" (defArgs s_along) (defBody s_along) (defScope s_along) .none kV14 dc14 pm14 an14 cd14 ct14), sl14⟩) (c14 : PySem.W.codeIn K cd14 "along" = true) (k14 : PySem.W.keepIn K (.ref f14) = true)
    (a15 : PySem.W.nsIn K mainGlobals "_law_pen" = some (some (.ref f15)))
    (l15 : K.lookup f15 = some ⟨oc15, od15, .func (PySem.W.fnOf "_law_pen" "_law_pen" (defArgs s_pen) (defBody s_pen) (defScope s_pen) .none kV15 dc15 pm15 an15 cd15 ct15), sl15⟩) (c15 : PySem.W.codeIn K cd15 "_law_pen" = true) (k15 : PySem.W.keepIn K (.ref f15) = true)
    (a16 : PySem.W.nsIn K mainGlobals "_law_draw" = some (some (.ref f16)))
    (l16 : K.lookup f16 = some ⟨oc16, od16, .func (PySem.W.fnOf "_law_draw" "_law_draw" (defArgs s_draw) (defBody s_draw) (defScope s_draw) .none kV16 dc16 pm16 an16 cd16 ct16), sl16⟩) (c16 : PySem.W.codeIn K cd16 "_law_draw" = true) (k16 : PySem.W.keepIn K (.ref f16) = true)
    (a17 : PySem.W.nsIn K mainGlobals "_law_pick" = some (some (.ref f17)))
    (l17 : K.lookup f17 = some ⟨oc17, od17, .func (PySem.W.fnOf "_law_pick" "_law_pick" (defArgs s_pick) (defBody s_pick) (defScope s_pick) .none kV17 dc17 pm17 an17 cd17 ct17), sl17⟩) (c17 : PySem.W.codeIn K cd17 "_law_pick" = true) (k17 : PySem.W.keepIn K (.ref f17) = true)
    (a18 : PySem.W.nsIn K mainGlobals "_law_some_letters" = some (some (.ref f18)))
    (l18 : K.lookup f18 = some ⟨oc18, od18, .func (PySem.W.fnOf "_law_some_letters" "_law_some_letters" (defArgs s_some_letters) (defBody s_some_letters) (defScope s_some_letters) .none kV18 dc18 pm18 an18 cd18 ct18), sl18⟩) (c18 : PySem.W.codeIn K cd18 "_law_some_letters" = true) (k18 : PySem.W.keepIn K (.ref f18) = true)
    (a19 : PySem.W.nsIn K mainGlobals "_law_escaped" = some (some (.ref f19)))
    (l19 : K.lookup f19 = some ⟨oc19, od19, .func (PySem.W.fnOf "_law_escaped" "_law_escaped" (defArgs s_escaped) (defBody s_escaped) (defScope s_escaped) .none kV19 dc19 pm19 an19 cd19 ct19), sl19⟩) (c19 : PySem.W.codeIn K cd19 "_law_escaped" = true) (k19 : PySem.W.keepIn K (.ref f19) = true)
    (a20 : PySem.W.nsIn K mainGlobals "_law_any_image" = some (some (.ref f20)))
    (l20 : K.lookup f20 = some ⟨oc20, od20, .func (PySem.W.fnOf "_law_any_image" "_law_any_image" (defArgs s_any_image) (defBody s_any_image) (defScope s_any_image) .none kV20 dc20 pm20 an20 cd20 ct20), sl20⟩) (c20 : PySem.W.codeIn K cd20 "_law_any_image" = true) (k20 : PySem.W.keepIn K (.ref f20) = true)
    (a21 : PySem.W.nsIn K mainGlobals "_law_table" = some (some (.ref f21)))
    (l21 : K.lookup f21 = some ⟨oc21, od21, .func (PySem.W.fnOf "_law_table" "_law_table" (defArgs s_table) (defBody s_table) (defScope s_table) .none kV21 dc21 pm21 an21 cd21 ct21), sl21⟩) (c21 : PySem.W.codeIn K cd21 "_law_table" = true) (k21 : PySem.W.keepIn K (.ref f21) = true)
    (a22 : PySem.W.nsIn K mainGlobals "_law_word" = some (some (.ref f22)))
    (l22 : K.lookup f22 = some ⟨oc22, od22, .func (PySem.W.fnOf "_law_word" "_law_word" (defArgs s_word) (defBody s_word) (defScope s_word) .none kV22 dc22 pm22 an22 cd22 ct22), sl22⟩) (c22 : PySem.W.codeIn K cd22 "_law_word" = true) (k22 : PySem.W.keepIn K (.ref f22) = true)
    (a23 : PySem.W.nsIn K mainGlobals "_law_image" = some (some (.ref f23)))
    (l23 : K.lookup f23 = some ⟨oc23, od23, .func (PySem.W.fnOf "_law_image" "_law_image" (defArgs s__law_image) (defBody s__law_image) (defScope s__law_image) .none kV23 dc23 pm23 an23 cd23 ct23), sl23⟩) (c23 : PySem.W.codeIn K cd23 "_law_image" = true) (k23 : PySem.W.keepIn K (.ref f23) = true)
    (a24 : PySem.W.nsIn K mainGlobals "_law_heard" = some (some (.ref f24)))
    (l24 : K.lookup f24 = some ⟨oc24, od24, .func (PySem.W.fnOf "_law_heard" "_law_heard" (defArgs s_heard) (defBody s_heard) (defScope s_heard) .none kV24 dc24 pm24 an24 cd24 ct24), sl24⟩) (c24 : PySem.W.codeIn K cd24 "_law_heard" = true) (k24 : PySem.W.keepIn K (.ref f24) = true)
    (a25 : PySem.W.nsIn K mainGlobals "_law_due" = some (some (.ref f25)))
    (l25 : K.lookup f25 = some ⟨oc25, od25, .func (PySem.W.fnOf "_law_due" "_law_due" (defArgs s__law_due) (defBody s__law_due) (defScope s__law_due) .none kV25 dc25 pm25 an25 cd25 ct25), sl25⟩) (c25 : PySem.W.codeIn K cd25 "_law_due" = true) (k25 : PySem.W.keepIn K (.ref f25) = true)
    (a26 : PySem.W.nsIn K mainGlobals "_law_refused_right" = some (some (.ref f26)))
    (l26 : K.lookup f26 = some ⟨oc26, od26, .func (PySem.W.fnOf "_law_refused_right" "_law_refused_right" (defArgs s__law_refused_right) (defBody s__law_refused_right) (defScope s__law_refused_right) .none kV26 dc26 pm26 an26 (.ref q1) ct26), sl26⟩) (c26 : PySem.W.codeIn K (.ref q1) "_law_refused_right" = true) (k26 : PySem.W.keepIn K (.ref f26) = true)
    (a27 : PySem.W.nsIn K mainGlobals "law" = some (some (.ref f27)))
    (l27 : K.lookup f27 = some ⟨oc27, od27, .func (PySem.W.fnOf "law" "law" (defArgs s_law) (defBody s_law) (defScope s_law) .none kV27 dc27 pm27 an27 (.ref q2) ct27), sl27⟩) (c27 : PySem.W.codeIn K (.ref q2) "law" = true) (k27 : PySem.W.keepIn K (.ref f27) = true)
    (a28 : PySem.W.findIn K (.ref CM) "__call__" = some (some (.ref f28)))
    (i28 : PySem.W.isFn K (.ref f28) = true)
    (l28 : K.lookup f28 = some ⟨oc28, od28, .func (PySem.W.fnOf "__call__" "Misreading.__call__" (defArgs s_Misreading_call) (defBody s_Misreading_call) (defScope s_Misreading_call) .none kV28 dc28 pm28 an28 cd28 ct28), sl28⟩) (c28 : PySem.W.codeIn K cd28 "Misreading.__call__" = true) (k28 : PySem.W.keepIn K (.ref f28) = true)
    (n28 : PySem.W.fnIn K f28 = true)
    (a29 : PySem.W.findIn K (.ref CM) "first_barred" = some (some (.ref f29)))
    (i29 : PySem.W.isFn K (.ref f29) = true)
    (l29 : K.lookup f29 = some ⟨oc29, od29, .func (PySem.W.fnOf "first_barred" "Misreading.first_barred" (defArgs s_Misreading_first_barred) (defBody s_Misreading_first_barred) (defScope s_Misreading_first_barred) .none kV29 dc29 pm29 an29 cd29 ct29), sl29⟩) (c29 : PySem.W.codeIn K cd29 "Misreading.first_barred" = true) (k29 : PySem.W.keepIn K (.ref f29) = true)
    (n29 : PySem.W.fnIn K f29 = true)
    (a30 : PySem.W.findIn K (.ref CM) "image" = some (some (.ref f30)))
    (i30 : PySem.W.isFn K (.ref f30) = true)
    (l30 : K.lookup f30 = some ⟨oc30, od30, .func (PySem.W.fnOf "image" "Misreading.image" (defArgs s_Misreading_image) (defBody s_Misreading_image) (defScope s_Misreading_image) .none kV30 dc30 pm30 an30 cd30 ct30), sl30⟩) (c30 : PySem.W.codeIn K cd30 "Misreading.image" = true) (k30 : PySem.W.keepIn K (.ref f30) = true)
    (n30 : PySem.W.fnIn K f30 = true)
    (a31 : PySem.W.findIn K (.ref CM) "__rshift__" = some (some (.ref f31)))
    (i31 : PySem.W.isFn K (.ref f31) = true)
    (l31 : K.lookup f31 = some ⟨oc31, od31, .func (PySem.W.fnOf "__rshift__" "Misreading.__rshift__" (defArgs s_Misreading_rshift) (defBody s_Misreading_rshift) (defScope s_Misreading_rshift) .none kV31 dc31 pm31 an31 cd31 ct31), sl31⟩) (c31 : PySem.W.codeIn K cd31 "Misreading.__rshift__" = true) (k31 : PySem.W.keepIn K (.ref f31) = true)
    (n31 : PySem.W.fnIn K f31 = true)
    (a32 : PySem.W.findIn K (.ref CM) "__init__" = some (some (.ref f32)))
    (i32 : PySem.W.isFn K (.ref f32) = true)
    (l32 : K.lookup f32 = some ⟨oc32, od32, .func (PySem.W.fnOf "__init__" "Misreading.__init__" (defArgs s_Misreading_init) (defBody s_Misreading_init) (defScope s_Misreading_init) (.ref TI) kV32 dc32 pm32 an32 cd32 ct32), sl32⟩) (c32 : PySem.W.codeIn K cd32 "Misreading.__init__" = true) (k32 : PySem.W.keepIn K (.ref f32) = true)
    (tI : K.lookup TI = some ⟨ocT, odT, .seq #[.str "" tkT] nT, slT⟩)
    (a33 : PySem.W.findIn K (.ref CJ) "__init__" = some (some (.ref f33)))
    (i33 : PySem.W.isFn K (.ref f33) = true)
    (l33 : K.lookup f33 = some ⟨oc33, od33, .func (PySem.W.fnOf "__init__" "Joined.__init__" (defArgs s_Joined_init) (defBody s_Joined_init) (defScope s_Joined_init) .none kV33 dc33 pm33 an33 cd33 ct33), sl33⟩) (c33 : PySem.W.codeIn K cd33 "Joined.__init__" = true) (k33 : PySem.W.keepIn K (.ref f33) = true)
    (a34 : PySem.W.findIn K (.ref CL) "__init__" = some (some (.ref f34)))
    (y34 : PySem.W.typeIn K (.ref f34) = some (.type "function"))
    (l34 : K.lookup f34 = some ⟨oc34, od34, .func (PySem.W.fnOf "__init__" "BadList.__init__" (defArgs s_BadList_init) (defBody s_BadList_init) (defScope s_BadList_init) .none kV34 dc34 pm34 an34 cd34 ct34), sl34⟩) (c34 : PySem.W.codeIn K cd34 "BadList.__init__" = true) (k34 : PySem.W.keepIn K (.ref f34) = true)
    (a35 : PySem.W.findIn K (.ref CO) "__init__" = some (some (.ref f35)))
    (y35 : PySem.W.typeIn K (.ref f35) = some (.type "function"))
    (l35 : K.lookup f35 = some ⟨oc35, od35, .func (PySem.W.fnOf "__init__" "BadWord.__init__" (defArgs s_BadWord_init) (defBody s_BadWord_init) (defScope s_BadWord_init) .none kV35 dc35 pm35 an35 cd35 ct35), sl35⟩) (c35 : PySem.W.codeIn K cd35 "BadWord.__init__" = true) (k35 : PySem.W.keepIn K (.ref f35) = true)
    (a36 : PySem.W.findIn K (.ref CY) "__init__" = some (some (.ref f36)))
    (y36 : PySem.W.typeIn K (.ref f36) = some (.type "function"))
    (l36 : K.lookup f36 = some ⟨oc36, od36, .func (PySem.W.fnOf "__init__" "BadRow.__init__" (defArgs s_BadRow_init) (defBody s_BadRow_init) (defScope s_BadRow_init) .none kV36 dc36 pm36 an36 cd36 ct36), sl36⟩) (c36 : PySem.W.codeIn K cd36 "BadRow.__init__" = true) (k36 : PySem.W.keepIn K (.ref f36) = true)
    (a37 : PySem.W.findIn K (.ref CD) "__init__" = some (some (.ref f37)))
    (y37 : PySem.W.typeIn K (.ref f37) = some (.type "function"))
    (l37 : K.lookup f37 = some ⟨oc37, od37, .func (PySem.W.fnOf "__init__" "Barred.__init__" (defArgs s_Barred_init) (defBody s_Barred_init) (defScope s_Barred_init) .none kV37 dc37 pm37 an37 cd37 ct37), sl37⟩) (c37 : PySem.W.codeIn K cd37 "Barred.__init__" = true) (k37 : PySem.W.keepIn K (.ref f37) = true)
    (a38 : PySem.W.findIn K (.ref CT) "__init__" = some (some (.ref f38)))
    (y38 : PySem.W.typeIn K (.ref f38) = some (.type "function"))
    (l38 : K.lookup f38 = some ⟨oc38, od38, .func (PySem.W.fnOf "__init__" "TooMany.__init__" (defArgs s_TooMany_init) (defBody s_TooMany_init) (defScope s_TooMany_init) .none kV38 dc38 pm38 an38 cd38 ct38), sl38⟩) (c38 : PySem.W.codeIn K cd38 "TooMany.__init__" = true) (k38 : PySem.W.keepIn K (.ref f38) = true)
    (xL : K.lookup CL = some (excClassObj nmL qL CL NL bsL [.ref CE, .type "ValueError", .type "Exception", .type "BaseException", .type "object"] true snL subL abL colL ddL mL0 mL1 mL2 mL3 mL5 "ValueError.__new__"))
    (sL : PySem.W.findIn K (.ref CL) "__setattr__" = some (some (.builtin "object.__setattr__")))
    (eL : PySem.W.subIn K (.ref CL) (.type "BaseException") = some true)
    (tyL : PySem.W.typeIn K (.ref CL) = some (.type "type"))
    (kL : PySem.W.keepIn K (.ref CL) = true)
    (hgL : PySem.W.findIn K (.ref CL) "__getattribute__" = some (some (.builtin "BaseException.__getattribute__")))
    (hkL : PySem.W.findIn K (.ref CL) "__getattr__" = some none)
    (hdL : PySem.W.hasDictIn K CL = true)
    (haL : PySem.W.findIn K (.ref CL) "__class__" = some (some (.builtin "object.__class__")))
    (hmL : PySem.W.mroIn K CL (.type "object") = some true)
    (srL : PySem.W.subIn K (.ref CL) (.ref CE) = some true)
    (xO : K.lookup CO = some (excClassObj nmO qO CO NO bsO [.ref CE, .type "ValueError", .type "Exception", .type "BaseException", .type "object"] true snO subO abO colO ddO mO0 mO1 mO2 mO3 mO5 "ValueError.__new__"))
    (sO : PySem.W.findIn K (.ref CO) "__setattr__" = some (some (.builtin "object.__setattr__")))
    (eO : PySem.W.subIn K (.ref CO) (.type "BaseException") = some true)
    (tyO : PySem.W.typeIn K (.ref CO) = some (.type "type"))
    (kO : PySem.W.keepIn K (.ref CO) = true)
    (hgO : PySem.W.findIn K (.ref CO) "__getattribute__" = some (some (.builtin "BaseException.__getattribute__")))
    (hkO : PySem.W.findIn K (.ref CO) "__getattr__" = some none)
    (hdO : PySem.W.hasDictIn K CO = true)
    (haO : PySem.W.findIn K (.ref CO) "__class__" = some (some (.builtin "object.__class__")))
    (hmO : PySem.W.mroIn K CO (.type "object") = some true)
    (srO : PySem.W.subIn K (.ref CO) (.ref CE) = some true)
    (xY : K.lookup CY = some (excClassObj nmY qY CY NY bsY [.ref CE, .type "ValueError", .type "Exception", .type "BaseException", .type "object"] true snY subY abY colY ddY mY0 mY1 mY2 mY3 mY5 "ValueError.__new__"))
    (sY : PySem.W.findIn K (.ref CY) "__setattr__" = some (some (.builtin "object.__setattr__")))
    (eY : PySem.W.subIn K (.ref CY) (.type "BaseException") = some true)
    (tyY : PySem.W.typeIn K (.ref CY) = some (.type "type"))
    (kY : PySem.W.keepIn K (.ref CY) = true)
    (hgY : PySem.W.findIn K (.ref CY) "__getattribute__" = some (some (.builtin "BaseException.__getattribute__")))
    (hkY : PySem.W.findIn K (.ref CY) "__getattr__" = some none)
    (hdY : PySem.W.hasDictIn K CY = true)
    (haY : PySem.W.findIn K (.ref CY) "__class__" = some (some (.builtin "object.__class__")))
    (hmY : PySem.W.mroIn K CY (.type "object") = some true)
    (srY : PySem.W.subIn K (.ref CY) (.ref CE) = some true)
    (xD : K.lookup CD = some (excClassObj nmD qD CD ND bsD [.ref CE, .type "ValueError", .type "Exception", .type "BaseException", .type "object"] true snD subD abD colD ddD mD0 mD1 mD2 mD3 mD5 "ValueError.__new__"))
    (sD : PySem.W.findIn K (.ref CD) "__setattr__" = some (some (.builtin "object.__setattr__")))
    (eD : PySem.W.subIn K (.ref CD) (.type "BaseException") = some true)
    (tyD : PySem.W.typeIn K (.ref CD) = some (.type "type"))
    (kD : PySem.W.keepIn K (.ref CD) = true)
    (hgD : PySem.W.findIn K (.ref CD) "__getattribute__" = some (some (.builtin "BaseException.__getattribute__")))
    (hkD : PySem.W.findIn K (.ref CD) "__getattr__" = some none)
    (hdD : PySem.W.hasDictIn K CD = true)
    (haD : PySem.W.findIn K (.ref CD) "__class__" = some (some (.builtin "object.__class__")))
    (hmD : PySem.W.mroIn K CD (.type "object") = some true)
    (srD : PySem.W.subIn K (.ref CD) (.ref CE) = some true)
    (xT : K.lookup CT = some (excClassObj nmT qT CT NT bsT [.ref CE, .type "ValueError", .type "Exception", .type "BaseException", .type "object"] true snT subT abT colT ddT mT0 mT1 mT2 mT3 mT5 "ValueError.__new__"))
    (sT : PySem.W.findIn K (.ref CT) "__setattr__" = some (some (.builtin "object.__setattr__")))
    (eT : PySem.W.subIn K (.ref CT) (.type "BaseException") = some true)
    (tyT : PySem.W.typeIn K (.ref CT) = some (.type "type"))
    (kT : PySem.W.keepIn K (.ref CT) = true)
    (hgT : PySem.W.findIn K (.ref CT) "__getattribute__" = some (some (.builtin "BaseException.__getattribute__")))
    (hkT : PySem.W.findIn K (.ref CT) "__getattr__" = some none)
    (hdT : PySem.W.hasDictIn K CT = true)
    (haT : PySem.W.findIn K (.ref CT) "__class__" = some (some (.builtin "object.__class__")))
    (hmT : PySem.W.mroIn K CT (.type "object") = some true)
    (srT : PySem.W.subIn K (.ref CT) (.ref CE) = some true)
    (nEL : PySem.W.findIn K (.ref CL) "at" = some none)
    (nEO : PySem.W.findIn K (.ref CO) "value" = some none)
    (nEY : PySem.W.findIn K (.ref CY) "at" = some none)
    (nED : PySem.W.findIn K (.ref CD) "at" = some none)
    (nT1 : PySem.W.findIn K (.ref CT) "what" = some none)
    (nT2 : PySem.W.findIn K (.ref CT) "most" = some none)
    (eR : PySem.W.subIn K (.ref CE) (.type "BaseException") = some true)
    (tyR : PySem.W.typeIn K (.ref CE) = some (.type "type"))
    (iR : PySem.W.isClsIn K CE = true)
    (rdR : PySem.W.readsIn K CE (.type "type") = true)
    (gaR : PySem.W.specialIn K (.ref CE) "__getattribute__" = some (some (.builtin "type.__getattribute__")))
    (vR : PySem.W.findCls K (.ref CE) (.type "type") "__init__" = some (.val (.builtin "ValueError.__init__")))
    (rd : PySem.W.readsIn K CM (.type "type") = true)
    (ga : PySem.W.specialIn K (.ref CM) "__getattribute__" = some (some (.builtin "type.__getattribute__")))
    (pg : PySem.W.plainGet K CM Str.empty = true)
    (hd : PySem.W.hasDictIn K CM = true)
    (po : PySem.W.plainOver K CM = true)
    (sa : PySem.W.findIn K (.ref CM) "__setattr__" = some (some (.builtin "object.__setattr__")))
    (mk : PySem.W.makesIn K CM = true)
    (kc : PySem.W.keepIn K (.ref CM) = true)
    (sf : PySem.W.selfFirst K CM = true)
    (nL : PySem.W.findIn K (.ref CM) "_letters" = some none)
    (nI : PySem.W.findIn K (.ref CM) "_images" = some none)
    (nC : PySem.W.findIn K (.ref CM) "changed" = some none)
    (tA : PySem.W.findIn K (.ref CM) "__class__" = some (some (.builtin "object.__class__")))
    (tB : PySem.W.specialIn K (.builtin "object.__class__") "__get__" = some (some (.builtin "getset_descriptor.__get__")))
    (tC : PySem.W.takesIn K (.builtin "object.__class__") = some true)
    (tD : PySem.W.mroIn K CM (.type "object") = some true)
    (ne : PySem.W.findIn K (.ref CM) "__ne__" = some (some (.builtin "object.__ne__")))
    (rp : PySem.W.findIn K (.ref CM) "__rpow__" = some none)
    (h1 : PySem.W.findIn K (.type "int") "__pow__" = some poI)
    (h2 : PySem.W.findIn K (.type "int") "__rpow__" = some roI)
    (mkJ : PySem.W.makesIn K CJ = true)
    (kcJ : PySem.W.keepIn K (.ref CJ) = true)
    (ow_str : PySem.W.notFirst K CM (.type "str") = true)
    (ow_int : PySem.W.notFirst K CM (.type "int") = true)
    (ow_dict : PySem.W.notFirst K CM (.type "dict") = true)
    (os_int : PySem.W.subIn K (.type "int") (.ref CM) = some false)
    (pgJ : PySem.W.plainGet K CJ Str.empty = true)
    (hdJ : PySem.W.hasDictIn K CJ = true)
    (poJ : PySem.W.plainOver K CJ = true)
    (saJ : PySem.W.findIn K (.ref CJ) "__setattr__" = some (some (.builtin "object.__setattr__")))
    (nJ : PySem.W.findIn K (.ref CJ) "images" = some none)
    (jA : PySem.W.findIn K (.ref CJ) "__class__" = some (some (.builtin "object.__class__")))
    (jD : PySem.W.mroIn K CJ (.type "object") = some true)
    (ok_str : PySem.W.kitOne K (.type "str") (.ref CM) = some false)
    (ok_int : PySem.W.kitOne K (.type "int") (.ref CM) = some false)
    (ok_dict : PySem.W.kitOne K (.type "dict") (.ref CM) = some false)
    (ok_NoneType : PySem.W.kitOne K (.type "NoneType") (.ref CM) = some false)
    (kdJ : PySem.W.kitOne K (.type "dict") (.ref CJ) = some false)
    (kMM : PySem.W.kitOne K (.ref CM) (.ref CM) = some true)
    (kMJ : PySem.W.kitOne K (.ref CM) (.ref CJ) = some false)
    (kMs : PySem.W.kitOne K (.ref CM) (.type "str") = some false)
    (kls : PySem.W.kitOne K (.type "list") (.type "str") = some false)
    (kJJ : PySem.W.kitOne K (.ref CJ) (.ref CJ) = some true)
    (eLL : PySem.W.kitOne K (.ref CL) (.ref CL) = some true)
    (eOL : PySem.W.kitOne K (.ref CO) (.ref CL) = some false)
    (eOO : PySem.W.kitOne K (.ref CO) (.ref CO) = some true)
    (eYL : PySem.W.kitOne K (.ref CY) (.ref CL) = some false)
    (eYO : PySem.W.kitOne K (.ref CY) (.ref CO) = some false)
    (eYY : PySem.W.kitOne K (.ref CY) (.ref CY) = some true)
    (eDL : PySem.W.kitOne K (.ref CD) (.ref CL) = some false)
    (eDO : PySem.W.kitOne K (.ref CD) (.ref CO) = some false)
    (eDY : PySem.W.kitOne K (.ref CD) (.ref CY) = some false)
    (eDD : PySem.W.kitOne K (.ref CD) (.ref CD) = some true)
    (eTL : PySem.W.kitOne K (.ref CT) (.ref CL) = some false)
    (eTO : PySem.W.kitOne K (.ref CT) (.ref CO) = some false)
    (eTY : PySem.W.kitOne K (.ref CT) (.ref CY) = some false)
    (eTD : PySem.W.kitOne K (.ref CT) (.ref CD) = some false)
    (eTT : PySem.W.kitOne K (.ref CT) (.ref CT) = some true)
    (g1 : PySem.W.nsIn K mainGlobals "LETTERS" = some (some (.str "abcdefghijklmnopqrstuvwxyz" tk1)))
    (g2 : PySem.W.nsIn K mainGlobals "LONGEST" = some (some (.int 2000 tk2)))
    (g3 : PySem.W.nsIn K mainGlobals "LONGEST_TOLD" = some (some (.int 4 tk3)))
    (g4 : PySem.W.nsIn K mainGlobals "MOST_LETTERS" = some (some (.int 12 tk4)))
    (g5 : PySem.W.nsIn K mainGlobals "LONGEST_JOINED" = some (some (.int 64 tk5)))
    (g6 : PySem.W.nsIn K mainGlobals "MOST_MISREADINGS" = some (some (.int 4 tk6)))
    (z_list : PySem.W.nsIn K mainGlobals "list" = some none)
    (z_int : PySem.W.nsIn K mainGlobals "int" = some none)
    (z_len : PySem.W.nsIn K mainGlobals "len" = some none)
    (z_abs : PySem.W.nsIn K mainGlobals "abs" = some none)
    (z_range : PySem.W.nsIn K mainGlobals "range" = some none)
    (z_dict : PySem.W.nsIn K mainGlobals "dict" = some none)
    (z_str : PySem.W.nsIn K mainGlobals "str" = some none)
    (z_sorted : PySem.W.nsIn K mainGlobals "sorted" = some none)
    (z_tuple : PySem.W.nsIn K mainGlobals "tuple" = some none)
    (z_isinstance : PySem.W.nsIn K mainGlobals "isinstance" = some none)
    (z_iter : PySem.W.nsIn K mainGlobals "iter" = some none)
    (z_enumerate : PySem.W.nsIn K mainGlobals "enumerate" = some none)
    (z_all : PySem.W.nsIn K mainGlobals "all" = some none)
    (z_bool : PySem.W.nsIn K mainGlobals "bool" = some none)
    (z_repr : PySem.W.nsIn K mainGlobals "repr" = some none)
    (qc1 : K.lookup q1 = some ⟨.type "code", qd1, .fields vs1, qs1⟩)
    (qv1 : vs1[11]? = some (.ref p1))
    (qa1 : vs1.getD 18 .none = .str qf1 qt1)
    (qb1 : vs1.getD 7 .none = .int ql1 qm1)
    (qe1 : vs1.getD 9 .none = .bool qi1)
    (qg1 : vs1.getD 10 .none = .int qx1 qy1)
    (qn1 : (q1 == p1) = false)
    (qk1 : K.lookup p1 = none)
    (qc2 : K.lookup q2 = some ⟨.type "code", qd2, .fields vs2, qs2⟩)
    (qv2 : vs2[11]? = some (.ref p2))
    (qa2 : vs2.getD 18 .none = .str qf2 qt2)
    (qb2 : vs2.getD 7 .none = .int ql2 qm2)
    (qe2 : vs2.getD 9 .none = .bool qi2)
    (qg2 : vs2.getD 10 .none = .int qx2 qy2)
    (qn2 : (q2 == p2) = false)
    (qk2 : K.lookup p2 = none)
    (pp : (p1 == p2) = false) :
    ∃ fd cs sp, LawG l w K 11 mg fa h fd cs sp := by
  have e := hfa.symm.trans (PySem.W.mg_of X G a27)
  cases e
  have B : Blt mg := ⟨PySem.W.mg_none_of X G z_list, PySem.W.mg_none_of X G z_int, PySem.W.mg_none_of X G z_len, PySem.W.mg_none_of X G z_abs, PySem.W.mg_none_of X G z_range, PySem.W.mg_none_of X G z_dict, PySem.W.mg_none_of X G z_str, PySem.W.mg_none_of X G z_sorted, PySem.W.mg_none_of X G z_tuple⟩
  have T1 : Tx K mg CM CJ := ⟨B, PySem.W.mg_none_of X G z_isinstance, PySem.W.mg_none_of X G z_iter, ⟨_, PySem.W.mg_of X G g1, ⟨tk1, rfl⟩⟩, ⟨_, PySem.W.mg_of X G g2, ⟨tk2, rfl⟩⟩, ⟨_, PySem.W.mg_of X G g3, ⟨tk3, rfl⟩⟩, ⟨_, PySem.W.mg_of X G g4, ⟨tk4, rfl⟩⟩,
    ⟨_, PySem.W.mg_of X G aC, rfl⟩, ⟨_, PySem.W.mg_of X G aJ, rfl⟩, kdJ, ok_dict, ok_str, ok_int, ⟨pg, hd, po, sa⟩, nL, nI, nC, tA, tB, tC, tD, ne, ow_dict, ow_str, ow_int⟩
  have T2 : Ty K mg CM CJ := ⟨T1, kMM, kMJ, kMs, kls⟩
  have T : Tz K mg CM CJ := ⟨T2, PySem.W.mg_none_of X G z_enumerate, PySem.W.mg_none_of X G z_all, PySem.W.mg_none_of X G z_bool, ⟨_, PySem.W.mg_of X G g5, ⟨tk5, rfl⟩⟩, ⟨pgJ, hdJ, poJ, saJ⟩, nJ, jA, jD, ⟨rp, ⟨_, h1⟩, ⟨_, h2⟩, os_int⟩, kJJ⟩
  have Ta1 : Ta K mg CM CJ := ⟨T, ⟨_, PySem.W.mg_of X G g6, ⟨tk6, rfl⟩⟩, ok_NoneType, ok_int⟩
  have TB : Tb K mg CE := ⟨PySem.W.mg_of X G aE, ⟨rdR, gaR⟩, vR⟩
  have OL : OexC K CL := ⟨⟨nmL, qL, NL, bsL, _, snL, subL, abL, colL, ddL, mL0, mL1, mL2, mL3, mL5, xL, show PySem.HandSPX.refsVE [.type "ValueError", .type "Exception", .type "BaseException", .type "object"] = true by decide +kernel⟩, sL, eL, tyL, kL⟩
  have XL : ExcC K CL := ⟨hgL, hkL, eL, hdL, haL, tB, tC, hmL⟩
  have OO : OexC K CO := ⟨⟨nmO, qO, NO, bsO, _, snO, subO, abO, colO, ddO, mO0, mO1, mO2, mO3, mO5, xO, show PySem.HandSPX.refsVE [.type "ValueError", .type "Exception", .type "BaseException", .type "object"] = true by decide +kernel⟩, sO, eO, tyO, kO⟩
  have XO : ExcC K CO := ⟨hgO, hkO, eO, hdO, haO, tB, tC, hmO⟩
  have OY : OexC K CY := ⟨⟨nmY, qY, NY, bsY, _, snY, subY, abY, colY, ddY, mY0, mY1, mY2, mY3, mY5, xY, show PySem.HandSPX.refsVE [.type "ValueError", .type "Exception", .type "BaseException", .type "object"] = true by decide +kernel⟩, sY, eY, tyY, kY⟩
  have XY : ExcC K CY := ⟨hgY, hkY, eY, hdY, haY, tB, tC, hmY⟩
  have OD : OexC K CD := ⟨⟨nmD, qD, ND, bsD, _, snD, subD, abD, colD, ddD, mD0, mD1, mD2, mD3, mD5, xD, show PySem.HandSPX.refsVE [.type "ValueError", .type "Exception", .type "BaseException", .type "object"] = true by decide +kernel⟩, sD, eD, tyD, kD⟩
  have XD : ExcC K CD := ⟨hgD, hkD, eD, hdD, haD, tB, tC, hmD⟩
  have OT : OexC K CT := ⟨⟨nmT, qT, NT, bsT, _, snT, subT, abT, colT, ddT, mT0, mT1, mT2, mT3, mT5, xT, show PySem.HandSPX.refsVE [.type "ValueError", .type "Exception", .type "BaseException", .type "object"] = true by decide +kernel⟩, sT, eT, tyT, kT⟩
  have XT : ExcC K CT := ⟨hgT, hkT, eT, hdT, haT, tB, tC, hmT⟩
  have Th1 : Th K mg CM CJ CL CO CY CD CT CE := ⟨Ta1, ⟨_, PySem.W.mg_of X G aL, rfl⟩, ⟨_, PySem.W.mg_of X G aO, rfl⟩, ⟨_, PySem.W.mg_of X G aY, rfl⟩, ⟨_, PySem.W.mg_of X G aD, rfl⟩, ⟨_, PySem.W.mg_of X G aT, rfl⟩, PySem.W.mg_of X G aE, PySem.W.mg_none_of X G z_repr, exm_of eR iR tyR srL, exm_of eR iR tyR srO, exm_of eR iR tyR srY, exm_of eR iR tyR srD, exm_of eR iR tyR srT, eLL, eOL, eOO, eYL, eYO, eYY, eDL, eDO, eDY, eDD, eTL, eTO, eTY, eTD, eTT, XL, XO, XY, XD, XT, nEL, nEO, nEY, nED, nT1, nT2⟩
  have F0 := fun_mk (st := s_copied) l0 c0 k0
  have b0 := F0.binds (ps := ["value"]) fun _ _ _ _ _ _ us hl => match us, hl with | [_], _ => rfl
  have F1 := fun_mk (st := s_is_letter) l1 c1 k1
  have b1 := F1.binds (ps := ["value"]) fun _ _ _ _ _ _ us hl => match us, hl with | [_], _ => rfl
  have F2 := fun_mk (st := s_all_letters) l2 c2 k2
  have b2 := F2.binds (ps := ["string"]) fun _ _ _ _ _ _ us hl => match us, hl with | [_], _ => rfl
  have F3 := fun_mk (st := s_is_text) l3 c3 k3
  have b3 := F3.binds (ps := ["value"]) fun _ _ _ _ _ _ us hl => match us, hl with | [_], _ => rfl
  have F4 := fun_mk (st := s_is_image) l4 c4 k4
  have b4 := F4.binds (ps := ["value"]) fun _ _ _ _ _ _ us hl => match us, hl with | [_], _ => rfl
  have F5 := fun_mk (st := s_told_images) l5 c5 k5
  have b5 := F5.binds (ps := ["images", "keeps"]) fun _ _ _ _ _ _ us hl => match us, hl with | [_, _], _ => rfl
  have F6 := fun_mk (st := s_is_integer) l6 c6 k6
  have b6 := F6.binds (ps := ["value"]) fun _ _ _ _ _ _ us hl => match us, hl with | [_], _ => rfl
  have F7 := fun_mk (st := s_is_between) l7 c7 k7
  have b7 := F7.binds (ps := ["value", "least", "most"]) fun _ _ _ _ _ _ us hl => match us, hl with | [_, _, _], _ => rfl
  have F8 := fun_mk (st := s_is_index) l8 c8 k8
  have b8 := F8.binds (ps := ["value", "size"]) fun _ _ _ _ _ _ us hl => match us, hl with | [_, _], _ => rfl
  have F9 := fun_mk (st := s_bounded) l9 c9 k9
  have b9 := F9.binds (ps := ["string"]) fun _ _ _ _ _ _ us hl => match us, hl with | [_], _ => rfl
  have F10 := fun_mk (st := s_check_text) l10 c10 k10
  have b10 := F10.binds (ps := ["value"]) fun _ _ _ _ _ _ us hl => match us, hl with | [_], _ => rfl
  have F11 := fun_mk (st := s_check_other) l11 c11 k11
  have b11 := F11.binds (ps := ["other"]) fun _ _ _ _ _ _ us hl => match us, hl with | [_], _ => rfl
  have F12 := fun_mk (st := s_check_misreadings) l12 c12 k12
  have b12 := F12.binds (ps := ["value"]) fun _ _ _ _ _ _ us hl => match us, hl with | [_], _ => rfl
  have F13 := fun_mk (st := s_check_row) l13 c13 k13
  have b13 := F13.binds (ps := ["row", "size"]) fun _ _ _ _ _ _ us hl => match us, hl with | [_, _], _ => rfl
  have F14 := fun_mk (st := s_along) l14 c14 k14
  have b14 := F14.binds (ps := ["misreadings", "text", "row"]) fun _ _ _ _ _ _ us hl => match us, hl with | [_, _, _], _ => rfl
  have F15 := fun_mk (st := s_pen) l15 c15 k15
  have b15 := F15.binds (ps := ["_law_script"]) fun _ _ _ _ _ _ us hl => match us, hl with | [_], _ => rfl
  have F16 := fun_mk (st := s_draw) l16 c16 k16
  have b16 := F16.binds (ps := ["_law_pen_here", "_law_many"]) fun _ _ _ _ _ _ us hl => match us, hl with | [_, _], _ => rfl
  have F17 := fun_mk (st := s_pick) l17 c17 k17
  have b17 := F17.binds (ps := ["_law_pen_here", "_law_some"]) fun _ _ _ _ _ _ us hl => match us, hl with | [_, _], _ => rfl
  have F18 := fun_mk (st := s_some_letters) l18 c18 k18
  have b18 := F18.binds (ps := ["_law_pen_here", "_law_many"]) fun _ _ _ _ _ _ us hl => match us, hl with | [_, _], _ => rfl
  have F19 := fun_mk (st := s_escaped) l19 c19 k19
  have b19 := F19.binds (ps := ["_law_pen_here", "_law_some"]) fun _ _ _ _ _ _ us hl => match us, hl with | [_, _], _ => rfl
  have F20 := fun_mk (st := s_any_image) l20 c20 k20
  have b20 := F20.binds (ps := ["_law_pen_here", "_law_some"]) fun _ _ _ _ _ _ us hl => match us, hl with | [_, _], _ => rfl
  have F21 := fun_mk (st := s_table) l21 c21 k21
  have b21 := F21.binds (ps := ["_law_pen_here", "_law_some"]) fun _ _ _ _ _ _ us hl => match us, hl with | [_, _], _ => rfl
  have F22 := fun_mk (st := s_word) l22 c22 k22
  have b22 := F22.binds (ps := ["_law_pen_here", "_law_some", "_law_many"]) fun _ _ _ _ _ _ us hl => match us, hl with | [_, _, _], _ => rfl
  have F23 := fun_mk (st := s__law_image) l23 c23 k23
  have b23 := F23.binds (ps := ["_law_table_here", "_law_word_here"]) fun _ _ _ _ _ _ us hl => match us, hl with | [_, _], _ => rfl
  have F24 := fun_mk (st := s_heard) l24 c24 k24
  have b24 := F24.binds (ps := ["_law_ask"]) fun _ _ _ _ _ _ us hl => match us, hl with | [_], _ => rfl
  have F25 := fun_mk (st := s__law_due) l25 c25 k25
  have b25 := F25.binds (ps := ["_law_tables", "_law_word_here", "_law_path"]) fun _ _ _ _ _ _ us hl => match us, hl with | [_, _, _], _ => rfl
  have F26 := fun_mk (st := s__law_refused_right) l26 c26 k26
  have b26 := F26.binds (ps := ["_law_pen_here", "_law_made", "_law_word_here"]) fun _ _ _ _ _ _ us hl => match us, hl with | [_, _, _], _ => rfl
  have F27 := fun_mk (st := s_law) l27 c27 k27
  have F28 := fun_mk (st := s_Misreading_call) l28 c28 k28
  have b28 := F28.binds (ps := ["self", "text"]) fun _ _ _ _ _ _ us hl => match us, hl with | [_, _], _ => rfl
  have F29 := fun_mk (st := s_Misreading_first_barred) l29 c29 k29
  have b29 := F29.binds (ps := ["self", "text"]) fun _ _ _ _ _ _ us hl => match us, hl with | [_, _], _ => rfl
  have F30 := fun_mk (st := s_Misreading_image) l30 c30 k30
  have b30 := F30.binds (ps := ["self", "text"]) fun _ _ _ _ _ _ us hl => match us, hl with | [_, _], _ => rfl
  have F31 := fun_mk (st := s_Misreading_rshift) l31 c31 k31
  have b31 := F31.binds (ps := ["self", "other"]) fun _ _ _ _ _ _ us hl => match us, hl with | [_, _], _ => rfl
  have ee : ("" : Str) = Sx [] := by decide +kernel
  have F32 : FunD K "__init__" "Misreading.__init__" (defArgs s_Misreading_init) (defBody s_Misreading_init) (defScope s_Misreading_init) [.str (Sx [])] [] f32 _ := ⟨⟨oc32, od32, .ref TI, kV32, dc32, pm32, an32, cd32, ct32, sl32, rfl, l32, c32, .inr ⟨(fun z => nomatch z), TI, _, [.str "" tkT], nT, rfl, tI, rfl, .cons ⟨tkT, by rw [← ee]⟩ .nil⟩, .inl rfl⟩, k32⟩
  have F33 := fun_mk (st := s_Joined_init) l33 c33 k33
  have b33 := F33.binds (ps := ["self", "images"]) fun _ _ _ _ _ _ us hl => match us, hl with | [_, _], _ => rfl
  have F34 := fun_mk (st := s_BadList_init) l34 c34 k34
  have b34 := F34.binds (ps := ["self", "at"]) fun _ _ _ _ _ _ us hl => match us, hl with | [_, _], _ => rfl
  have F35 := fun_mk (st := s_BadWord_init) l35 c35 k35
  have b35 := F35.binds (ps := ["self", "value"]) fun _ _ _ _ _ _ us hl => match us, hl with | [_, _], _ => rfl
  have F36 := fun_mk (st := s_BadRow_init) l36 c36 k36
  have b36 := F36.binds (ps := ["self", "at"]) fun _ _ _ _ _ _ us hl => match us, hl with | [_, _], _ => rfl
  have F37 := fun_mk (st := s_Barred_init) l37 c37 k37
  have b37 := F37.binds (ps := ["self", "at"]) fun _ _ _ _ _ _ us hl => match us, hl with | [_, _], _ => rfl
  have F38 := fun_mk (st := s_TooMany_init) l38 c38 k38
  have b38 := F38.binds (ps := ["self", "what", "most"]) fun _ _ _ _ _ _ us hl => match us, hl with | [_, _, _], _ => rfl
  have kb : KBn K (PySem.W.fnOf "along" "along" (defArgs s_along) (defBody s_along) (defScope s_along) .none kV14 dc14 pm14 an14 cd14 ct14) ["misreadings", "text", "row"] 0 ["row", "text", "misreadings"] (fun us ws => us ++ ws.reverse) (fun vs zs => vs ++ zs.reverse) := ⟨fun s us ws _ h0 h2 => match us, ws, h0, h2 with
    | [], [_, _, _], _, _ => .of_eq rfl, fun r1 r2 => r1.append (vals_rev r2)⟩
  have N1 : q1 ≠ p1 := fun z => by rw [z] at qn1; simp at qn1
  have hd11_1 : vs1.getD 11 .none = .ref p1 := by rw [Array.getD_eq_getD_getElem?, qv1]; rfl
  have H1 : PySem.W.CodeHd h q1 p1 := ⟨_, vs1, _, _, _, _, _, _, _, X _ _ qc1, rfl, rfl, qv1, hd11_1, qa1, qb1, qe1, qg1, N1⟩
  have N2 : q2 ≠ p2 := fun z => by rw [z] at qn2; simp at qn2
  have hd11_2 : vs2.getD 11 .none = .ref p2 := by rw [Array.getD_eq_getD_getElem?, qv2]; rfl
  have H2 : PySem.W.CodeHd h q2 p2 := ⟨_, vs2, _, _, _, _, _, _, _, X _ _ qc2, rfl, rfl, qv2, hd11_2, qa2, qb2, qe2, qg2, N2⟩
  have P1 : h.get? p1 = some { cls := .none, data := .fields #[] } := own2 f26 (PySem.W.mg_of X G a26) q1 p1 _ _ _ _ _ _ l26 rfl rfl qc1 qv1
  have P2 : h.get? p2 = some { cls := .none, data := .fields #[] } := own q2 p2 _ _ _ _ _ _ l27 rfl rfl qc2 qv2
  have pne : p1 ≠ p2 := fun z => by rw [z] at pp; simp at pp
  have two : ∀ {C : Addr × Addr → Prop}, C (q1, p1) → C (q2, p2) → ∀ p ∈ [(q1, p1), (q2, p2)], C p := fun a b p hp => by
    rcases List.mem_cons.mp hp with rfl | hp
    · exact a
    · rw [List.mem_singleton.mp hp]
      exact b
  refine ⟨PySem.W.fnOf "law" "law" (defArgs s_law) (defBody s_law) (defScope s_law) .none kV27 dc27 pm27 an27 (.ref q2) ct27, [(q1, p1), (q2, p2)], spLaw (TLs p1 p2) K, ⟨two P1 P2, two qk1 qk2, two H1 H2, fun s v => .of_eq rfl, fun Hh a ns hl _ ht hS => ⟨a, ns, rfl, hS, hl, fun p hp => ?_, fun _ => rfl⟩, fun base _ _ hb => ?_⟩⟩
  · rcases List.mem_cons.mp hp with rfl | hp
    · exact TabS.nil (ht (q1, p1) (by simp))
    · rw [List.mem_singleton.mp hp]
      exact TabS.nil (ht (q2, p2) (by simp))
  have K1 : TabT base mg (TLs p1 p2) (("_law_refused_right" : Str) ++ ".<locals>.") q1 p1 := ⟨hb (q1, p1) (by simp), by simp [TLs], fun p hp e => by
    rcases List.mem_cons.mp hp with rfl | hp
    · rfl
    · rw [List.mem_singleton.mp hp] at e
      exact absurd e.symm pne⟩
  have K2 : TabT base mg (TLs p1 p2) (("law" : Str) ++ ".<locals>.") q2 p2 := ⟨hb (q2, p2) (by simp), by simp [TLs], fun p hp e => by
    rcases List.mem_cons.mp hp with rfl | hp
    · exact absurd e pne
    · rw [List.mem_singleton.mp hp]⟩
  have FJ : FunC K "_law_refused_right" "_law_refused_right" s__law_refused_right f26 q1 _ := ⟨⟨oc26, od26, kV26, dc26, pm26, an26, ct26, sl26, rfl, l26, c26⟩⟩
  have FL : FunC K "law" "law" s_law fa q2 (PySem.W.fnOf "law" "law" (defArgs s_law) (defBody s_law) (defScope s_law) .none kV27 dc27 pm27 an27 (.ref q2) ct27) := ⟨⟨oc27, od27, kV27, dc27, pm27, an27, ct27, sl27, rfl, l27, c27⟩⟩
  have D_heard : HearD K mg f24 := ⟨PySem.W.mg_of X G a24, k24, ⟨oc24, od24, kV24, dc24, pm24, an24, cd24, ct24, sl24, l24, c24⟩⟩
  have D_draw : Df l.prog w K mg base 1 "_law_draw" spDraw := ⟨⟨f16, _, _, ok_draw (k := 0) F16 B, PySem.W.mg_of X G a16, k16, b16⟩⟩
  have D_pick : Df l.prog w K mg base 2 "_law_pick" (spPick K) := ⟨⟨f17, _, _, ok_pick F17 B D_draw, PySem.W.mg_of X G a17, k17, b17⟩⟩
  have D_some_letters : Df l.prog w K mg base 2 "_law_some_letters" spLetters := ⟨⟨f18, _, _, ok_some_letters F18 B D_draw, PySem.W.mg_of X G a18, k18, b18⟩⟩
  have D_any_image : Df l.prog w K mg base 3 "_law_any_image" spImage := ⟨⟨f20, _, _, ok_any_image F20 B D_pick, PySem.W.mg_of X G a20, k20, b20⟩⟩
  have D_escaped : Df l.prog w K mg base 2 "_law_escaped" (spTab 52) := ⟨⟨f19, _, _, ok_escaped F19 B D_draw, PySem.W.mg_of X G a19, k19, b19⟩⟩
  have D_table : Df l.prog w K mg base 4 "_law_table" (spTab 260) := ⟨⟨f21, _, _, ok_table F21 B D_draw D_escaped D_any_image, PySem.W.mg_of X G a21, k21, b21⟩⟩
  have D_word : Df l.prog w K mg base 3 "_law_word" spWord := ⟨⟨f22, _, _, ok_word F22 B D_draw D_pick, PySem.W.mg_of X G a22, k22, b22⟩⟩
  have D_limage : Df l.prog w K mg base 1 "_law_image" spLimg := ⟨⟨f23, _, _, ok_limage F23 T, PySem.W.mg_of X G a23, k23, b23⟩⟩
  have D_due : Df l.prog w K mg base 2 "_law_due" spDue := ⟨⟨f25, _, _, ok_due F25 T D_limage, PySem.W.mg_of X G a25, k25, b25⟩⟩
  have D_is_letter : Df l.prog w K mg base 1 "is_letter" (spIsLetter K) := ⟨⟨f1, _, _, ok_is_letter F1 T1, PySem.W.mg_of X G a1, k1, b1⟩⟩
  have D_all_letters : Df l.prog w K mg base 1 "all_letters" spAllLetters := ⟨⟨f2, _, _, ok_all_letters F2 T1, PySem.W.mg_of X G a2, k2, b2⟩⟩
  have D_is_text : Df l.prog w K mg base 2 "is_text" spIsText := ⟨⟨f3, _, _, ok_is_text F3 T1 D_all_letters, PySem.W.mg_of X G a3, k3, b3⟩⟩
  have D_is_image : Df l.prog w K mg base 3 "is_image" spIsImage := ⟨⟨f4, _, _, ok_is_image F4 T1 D_is_text, PySem.W.mg_of X G a4, k4, b4⟩⟩
  have D_told_images : Df l.prog w K mg base 4 "told_images" spTold := ⟨⟨f5, _, _, ok_told_images F5 T1 D_is_letter D_is_text D_is_image, PySem.W.mg_of X G a5, k5, b5⟩⟩
  have D_copied : Df l.prog w K mg base 1 "copied" (spCopied K) := ⟨⟨f0, _, _, ok_copied F0 T1, PySem.W.mg_of X G a0, k0, b0⟩⟩
  have D_copyA : Df l.prog w K mg base 2 "copied" spCopyA := ⟨⟨f0, _, _, ok_copyA F0 T1 D_copied, PySem.W.mg_of X G a0, k0, b0⟩⟩
  have D_all_lettersG : Df l.prog w K mg base 1 "all_letters" spAllG := ⟨⟨f2, _, _, ok_all_lettersG F2 T1, PySem.W.mg_of X G a2, k2, b2⟩⟩
  have D_is_textA : Df l.prog w K mg base 2 "is_text" (spTxtA K) := ⟨⟨f3, _, _, ok_is_textA F3 T1 D_all_lettersG, PySem.W.mg_of X G a3, k3, b3⟩⟩
  have D_check_textP : Df l.prog w K mg base 3 "check_text" spChkT := ⟨⟨f10, _, _, ok_check_text F10 T1 D_is_text, PySem.W.mg_of X G a10, k10, b10⟩⟩
  have D_is_integerA : Df l.prog w K mg base 1 "is_integer" spIntA := ⟨⟨f6, _, _, ok_is_integerA F6 T, PySem.W.mg_of X G a6, k6, b6⟩⟩
  have D_is_betweenA : Df l.prog w K mg base 2 "is_between" spBtwA := ⟨⟨f7, _, _, ok_is_betweenA F7 T D_is_integerA, PySem.W.mg_of X G a7, k7, b7⟩⟩
  have D_is_index : Df l.prog w K mg base 3 "is_index" spIdx := ⟨⟨f8, _, _, ok_is_index F8 D_is_betweenA, PySem.W.mg_of X G a8, k8, b8⟩⟩
  have D_check_other : Df l.prog w K mg base 1 "check_other" (spChkO CM) := ⟨⟨f11, _, _, ok_check_other F11 T2, PySem.W.mg_of X G a11, k11, b11⟩⟩
  have D_pen : Df l.prog w K mg base 1 "_law_pen" (spPen K) := ⟨⟨f15, _, _, ok_pen F15 B, PySem.W.mg_of X G a15, k15, b15⟩⟩
  have E_Barred : Erm l.prog w K mg base "Barred" "at" CD := ⟨OD, nED, f37, _, _, a37, y37, ok_Barred F37 TB D_copied, b37, PySem.W.mg_of X G aD⟩
  have E_BadList : ErmG l.prog w K mg base "BadList" "at" CL (spErrG K CL "at") := ⟨OL, nEL, f34, _, _, a34, y34, ok_BadListG F34 TB D_copyA, b34, PySem.W.mg_of X G aL⟩
  have E_BadWord : ErmG l.prog w K mg base "BadWord" "value" CO (spErrG K CO "value") := ⟨OO, nEO, f35, _, _, a35, y35, ok_BadWordG F35 TB D_copyA, b35, PySem.W.mg_of X G aO⟩
  have E_BadRow : ErmG l.prog w K mg base "BadRow" "at" CY (spErrG K CY "at") := ⟨OY, nEY, f36, _, _, a36, y36, ok_BadRowG F36 TB D_copyA, b36, PySem.W.mg_of X G aY⟩
  have E_TooMany : ErmT l.prog w K mg base CT := ⟨OT, nT1, nT2, f38, _, _, a38, y38, ok_TooMany F38 TB D_copied, b38, PySem.W.mg_of X G aT⟩
  have D_check_text : DfG l.prog w K mg base (L2.CX l.prog w) 5 "check_text" (spChkA K CO) := ⟨⟨f10, _, _, ok_check_textG F10 T1 D_is_textA E_BadWord, PySem.W.mg_of X G a10, k10, b10⟩⟩
  have D_boundedX : DfX l.prog w K mg base 4 "bounded" (spBndX CT) := ⟨⟨f9, _, _, ok_boundedX F9 T1 E_TooMany, PySem.W.mg_of X G a9, k9, b9⟩⟩
  have D_check_row : DfG l.prog w K mg base (L2.CX l.prog w) 5 "check_row" (spCkRow K CY) := ⟨⟨f13, _, _, ok_check_row F13 T D_is_index E_BadRow, PySem.W.mg_of X G a13, k13, b13⟩⟩
  have D_check_misreadings : DfG l.prog w K mg base (L2.CX l.prog w) 5 "check_misreadings" (spCkMs K CM CL) := ⟨⟨f12, _, _, ok_check_misreadings F12 Ta1 E_BadList, PySem.W.mg_of X G a12, k12, b12⟩⟩
  have D_mk : Mkr l.prog w K mg base CM := mkr_of F32 T1 D_told_images ⟨mk, a32, i32, kc⟩ (PySem.W.mg_of X G aC)
  have D_mkMJ : MkrM l.prog w K mg base CM CJ := mkrM_of F32 T D_told_images ⟨mk, a32, i32, kc⟩ (PySem.W.mg_of X G aC)
  have D_mkJ : MkrJ l.prog w K mg base CJ := ⟨f33, _, ⟨mkJ, a33, i33, kcJ⟩, ok_Joined F33 T, PySem.W.mg_of X G aJ, b33⟩
  have D_first_barred : Mf l.prog w K mg base 1 CM "first_barred" (spFB CM) := ⟨⟨f29, _, _, ok_first_barred F29 T, ⟨a29, i29, k29⟩, ⟨a29, i29⟩, n29, b29⟩⟩
  have D_fb2 : Mf l.prog w K mg base 1 CM "first_barred" (spFB2 CM) := ⟨⟨f29, _, _, ok_first_barred2 F29 T, ⟨a29, i29, k29⟩, ⟨a29, i29⟩, n29, b29⟩⟩
  have D_image : Mf l.prog w K mg base 1 CM "image" (spImg CM) := ⟨⟨f30, _, _, ok_image F30 T, ⟨a30, i30, k30⟩, ⟨a30, i30⟩, n30, b30⟩⟩
  have D_rshift : Bo l.prog w K mg base 7 CM "__rshift__" (spRsh CM) := ⟨⟨f31, _, _, ok_rshift F31 T D_check_other D_first_barred D_image D_mkJ D_mkMJ, b31, a31, i31, sf⟩⟩
  have D_callM : MfX l.prog w K mg base 5 CM "__call__" (spCaMX CM CD CT) := ⟨⟨f28, _, _, ok_callMX F28 T D_check_textP D_boundedX D_fb2 D_image E_Barred, ⟨a28, i28⟩, n28, b28⟩⟩
  have rr := ok_along F14 Ta1 D_check_misreadings D_check_text D_check_row D_first_barred D_callM E_Barred.quiet
  have D_along : DfG l.prog w K mg base (L2.CX l.prog w) 6 "along" (spAlong K CM CL CO CY CD CT) := ⟨⟨f14, _, _, rr, PySem.W.mg_of X G a14, k14, b14⟩⟩
  have D_alK : AlK l.prog w K mg base 6 (spAlong K CM CL CO CY CD CT) := ⟨⟨f14, _, _, rr, PySem.W.mg_of X G a14, k14, kb⟩⟩
  have D_refused : DfG l.prog w K mg base CX0 10 "_law_refused_right" (spRefused (TLs p1 p2) CM) := ⟨⟨f26, _, _, ok_refused FJ Th1 D_pick D_heard K1 D_along D_alK, PySem.W.mg_of X G a26, k26, b26⟩⟩
  exact ok_law FL Th1 D_pen D_draw D_some_letters D_table D_word D_due D_refused D_mk D_rshift D_callM D_heard K2 D_along
/-- the end, where the tables of two defs are known -/
theorem walk {l : PySem.W.OpenLaw} {q : Program} {loose : List Str} {XP : (Str → Option Value) → Heap → Prop} {YP : World → Heap → Prop} {d : DefRec} {K : Params → PySem.W.Frag} (hn : l.most = some 63) (hdf : d.params.defaults = []) (hrec : ((recsOf q).any fun e => e.name == d.name) = true) (hrec2 : ((recsOf q).any fun e => e.name == "_law_refused_right") = true)
    (hY : ∀ (w : World) (h : Heap), YP w h → (K w.params).In h)
    (F : ∀ (w : World) (mg : Str → Option Value) (fa : Addr) (h : Heap), (K w.params).In h → h.Ns mainGlobals mg → mg d.name = some (.ref fa) → OwnTab (K w.params) fa h → (∀ fb, mg "_law_refused_right" = some (.ref fb) → OwnTab (K w.params) fb h) → ∃ fd cs sp, LawG l w (K w.params) 11 mg fa h fd cs sp) :
    PySem.W.WalkO q loose XP YP l.row.toRowW d [] (fun f vs => PySem.call f vs) := by
  refine Att.attach_callB hn hdf fun w s₀ s₁ mg mb fa o pm cd doc a vs ns G Y ho hd hcd hmg hobj hints hlen hbits hg => ?_
  have KX := hY w _ Y
  have tab : ∀ (x : Str) (fb : Addr), ((recsOf q).any fun e => e.name == x) = true → mg x = some (.ref fb) → OwnTab (K w.params) fb s₁.heap := fun x fb hr hm0 c P o1 fd1 e dd vs1 sl k1 k2 k3 k4 k5 => by
    obtain ⟨dL, hm, hn1⟩ := List.any_eq_true.mp hr
    have hn2 : dL.name = x := beq_iff_eq.mp hn1
    obtain ⟨a', o', fd', c', P', h1, h2, h3, h4, h5, h6⟩ := G.T.tab dL hm
    rw [hn2, hm0] at h1
    cases h1
    have g1 := KX _ _ k1
    rw [g1] at h2
    cases h2
    rw [k2] at h3
    cases h3
    rw [k3] at h4
    cases h4
    obtain ⟨⟨oc, vc, e1, _, e3, e4⟩, hP⟩ := h6
    have g2 := KX _ _ k4
    rw [g2] at e1
    cases e1
    cases e3
    rw [k5] at e4
    cases e4
    exact hP
  obtain ⟨fd, cs, sp, L⟩ := F w mg fa _ KX G.T.g hmg (tab _ fa hrec hmg) fun fb hm0 => tab _ fb hrec2 hm0
  exact law_callG KX G.T.g G.T.b G.T.builtins G.T.nolimit hg L.tabs L.untold L.codes G.T.bmain hobj hints (Nat.le_trans hlen (by decide)) ⟨rfl, by decide, by decide⟩ L.runs L.binds (fun H hH hS => L.starts H a ns hlen hbits hH hS) fun _ _ _ z => z
end V8

set_option Elab.async false
set_option linter.all false
set_option maxRecDepth 100000
open PySem PySem.W PyProof.Rows
set_option maxHeartbeats 0 in
theorem PySem.Challenge.cw_blindrepair_k15_rows_of_misreadings_holds : PySem.Challenge.rw_blindrepair_k15_rows_of_misreadings.Holds := by
  w_on; o_law; k_head; (case hw => w_witness2)
  k_fill
  refine V8.walk (l := PySem.Challenge.rw_blindrepair_k15_rows_of_misreadings) rfl rfl (by decide +kernel) (by decide +kernel) (fun w h Y => PySem.W.km_in_of Y) ?F
  case F =>
    intro w mg fa h KX G hmg own own2
    refine' V8.all_mk KX G hmg own own2 ?aC ?aJ ?aL ?aO ?aY ?aD ?aT ?aE ?a0 ?l0 ?c0 ?k0 ?a1 ?l1 ?c1 ?k1 ?a2 ?l2 ?c2 ?k2 ?a3 ?l3 ?c3 ?k3 ?a4 ?l4 ?c4 ?k4 ?a5 ?l5 ?c5 ?k5 ?a6 ?l6 ?c6 ?k6 ?a7 ?l7 ?c7 ?k7 ?a8 ?l8 ?c8 ?k8 ?a9 ?l9 ?c9 ?k9 ?a10 ?l10 ?c10 ?k10 ?a11 ?l11 ?c11 ?k11 ?a12 ?l12 ?c12 ?k12 ?a13 ?l13 ?c13 ?k13 ?a14 ?l14 ?c14 ?k14 ?a15 ?l15 ?c15 ?k15 ?a16 ?l16 ?c16 ?k16 ?a17 ?l17 ?c17 ?k17 ?a18 ?l18 ?c18 ?k18 ?a19 ?l19 ?c19 ?k19 ?a20 ?l20 ?c20 ?k20 ?a21 ?l21 ?c21 ?k21 ?a22 ?l22 ?c22 ?k22 ?a23 ?l23 ?c23 ?k23 ?a24 ?l24 ?c24 ?k24 ?a25 ?l25 ?c25 ?k25 ?a26 ?l26 ?c26 ?k26 ?a27 ?l27 ?c27 ?k27 ?a28 ?i28 ?l28 ?c28 ?k28 ?n28 ?a29 ?i29 ?l29 ?c29 ?k29 ?n29 ?a30 ?i30 ?l30 ?c30 ?k30 ?n30 ?a31 ?i31 ?l31 ?c31 ?k31 ?n31 ?a32 ?i32 ?l32 ?c32 ?k32 ?tI ?a33 ?i33 ?l33 ?c33 ?k33 ?a34 ?y34 ?l34 ?c34 ?k34 ?a35 ?y35 ?l35 ?c35 ?k35 ?a36 ?y36 ?l36 ?c36 ?k36 ?a37 ?y37 ?l37 ?c37 ?k37 ?a38 ?y38 ?l38 ?c38 ?k38 ?xL ?sL ?eL ?tyL ?kL ?hgL ?hkL ?hdL ?haL ?hmL ?srL ?xO ?sO ?eO ?tyO ?kO ?hgO ?hkO ?hdO ?haO ?hmO ?srO ?xY ?sY ?eY ?tyY ?kY ?hgY ?hkY ?hdY ?haY ?hmY ?srY ?xD ?sD ?eD ?tyD ?kD ?hgD ?hkD ?hdD ?haD ?hmD ?srD ?xT ?sT ?eT ?tyT ?kT ?hgT ?hkT ?hdT ?haT ?hmT ?srT ?nEL ?nEO ?nEY ?nED ?nT1 ?nT2 ?eR ?tyR ?iR ?rdR ?gaR ?vR ?rd ?ga ?pg ?hd ?po ?sa ?mk ?kc ?sf ?nL ?nI ?nC ?tA ?tB ?tC ?tD ?ne ?rp ?h1 ?h2 ?mkJ ?kcJ ?ow_str ?ow_int ?ow_dict ?os_int ?pgJ ?hdJ ?poJ ?saJ ?nJ ?jA ?jD ?ok_str ?ok_int ?ok_dict ?ok_NoneType ?kdJ ?kMM ?kMJ ?kMs ?kls ?kJJ ?eLL ?eOL ?eOO ?eYL ?eYO ?eYY ?eDL ?eDO ?eDY ?eDD ?eTL ?eTO ?eTY ?eTD ?eTT ?g1 ?g2 ?g3 ?g4 ?g5 ?g6 ?z_list ?z_int ?z_len ?z_abs ?z_range ?z_dict ?z_str ?z_sorted ?z_tuple ?z_isinstance ?z_iter ?z_enumerate ?z_all ?z_bool ?z_repr ?qc1 ?qv1 ?qa1 ?qb1 ?qe1 ?qg1 ?qn1 ?qk1 ?qc2 ?qv2 ?qa2 ?qb2 ?qe2 ?qg2 ?qn2 ?qk2 ?pp
    (case aC => k_is)
    (case aJ => k_is)
    (case aL => k_is)
    (case aO => k_is)
    (case aY => k_is)
    (case aD => k_is)
    (case aT => k_is)
    (case aE => k_is)
    (case a0 => k_is)
    (case l0 => k_is)
    (case c0 => k_is)
    (case k0 => k_is)
    (case a1 => k_is)
    (case l1 => k_is)
    (case c1 => k_is)
    (case k1 => k_is)
    (case a2 => k_is)
    (case l2 => k_is)
    (case c2 => k_is)
    (case k2 => k_is)
    (case a3 => k_is)
    (case l3 => k_is)
    (case c3 => k_is)
    (case k3 => k_is)
    (case a4 => k_is)
    (case l4 => k_is)
    (case c4 => k_is)
    (case k4 => k_is)
    (case a5 => k_is)
    (case l5 => k_is)
    (case c5 => k_is)
    (case k5 => k_is)
    (case a6 => k_is)
    (case l6 => k_is)
    (case c6 => k_is)
    (case k6 => k_is)
    (case a7 => k_is)
    (case l7 => k_is)
    (case c7 => k_is)
    (case k7 => k_is)
    (case a8 => k_is)
    (case l8 => k_is)
    (case c8 => k_is)
    (case k8 => k_is)
    (case a9 => k_is)
    (case l9 => k_is)
    (case c9 => k_is)
    (case k9 => k_is)
    (case a10 => k_is)
    (case l10 => k_is)
    (case c10 => k_is)
    (case k10 => k_is)
    (case a11 => k_is)
    (case l11 => k_is)
    (case c11 => k_is)
    (case k11 => k_is)
    (case a12 => k_is)
    (case l12 => k_is)
    (case c12 => k_is)
    (case k12 => k_is)
    (case a13 => k_is)
    (case l13 => k_is)
    (case c13 => k_is)
    (case k13 => k_is)
    (case a14 => k_is)
    (case l14 => k_is)
    (case c14 => k_is)
    (case k14 => k_is)
    (case a15 => k_is)
    (case l15 => k_is)
    (case c15 => k_is)
    (case k15 => k_is)
    (case a16 => k_is)
    (case l16 => k_is)
    (case c16 => k_is)
    (case k16 => k_is)
    (case a17 => k_is)
    (case l17 => k_is)
    (case c17 => k_is)
    (case k17 => k_is)
    (case a18 => k_is)
    (case l18 => k_is)
    (case c18 => k_is)
    (case k18 => k_is)
    (case a19 => k_is)
    (case l19 => k_is)
    (case c19 => k_is)
    (case k19 => k_is)
    (case a20 => k_is)
    (case l20 => k_is)
    (case c20 => k_is)
    (case k20 => k_is)
    (case a21 => k_is)
    (case l21 => k_is)
    (case c21 => k_is)
    (case k21 => k_is)
    (case a22 => k_is)
    (case l22 => k_is)
    (case c22 => k_is)
    (case k22 => k_is)
    (case a23 => k_is)
    (case l23 => k_is)
    (case c23 => k_is)
    (case k23 => k_is)
    (case a24 => k_is)
    (case l24 => k_is)
    (case c24 => k_is)
    (case k24 => k_is)
    (case a25 => k_is)
    (case l25 => k_is)
    (case c25 => k_is)
    (case k25 => k_is)
    (case a26 => k_is)
    (case l26 => k_is)
    (case c26 => k_is)
    (case k26 => k_is)
    (case a27 => k_is)
    (case l27 => k_is)
    (case c27 => k_is)
    (case k27 => k_is)
    (case a28 => k_is)
    (case i28 => k_is)
    (case l28 => k_is)
    (case c28 => k_is)
    (case k28 => k_is)
    (case n28 => k_is)
    (case a29 => k_is)
    (case i29 => k_is)
    (case l29 => k_is)
    (case c29 => k_is)
    (case k29 => k_is)
    (case n29 => k_is)
    (case a30 => k_is)
    (case i30 => k_is)
    (case l30 => k_is)
    (case c30 => k_is)
    (case k30 => k_is)
    (case n30 => k_is)
    (case a31 => k_is)
    (case i31 => k_is)
    (case l31 => k_is)
    (case c31 => k_is)
    (case k31 => k_is)
    (case n31 => k_is)
    (case a32 => k_is)
    (case i32 => k_is)
    (case l32 => k_is)
    (case c32 => k_is)
    (case k32 => k_is)
    (case tI => k_is)
    (case a33 => k_is)
    (case i33 => k_is)
    (case l33 => k_is)
    (case c33 => k_is)
    (case k33 => k_is)
    (case a34 => k_is)
    (case y34 => k_is)
    (case l34 => k_is)
    (case c34 => k_is)
    (case k34 => k_is)
    (case a35 => k_is)
    (case y35 => k_is)
    (case l35 => k_is)
    (case c35 => k_is)
    (case k35 => k_is)
    (case a36 => k_is)
    (case y36 => k_is)
    (case l36 => k_is)
    (case c36 => k_is)
    (case k36 => k_is)
    (case a37 => k_is)
    (case y37 => k_is)
    (case l37 => k_is)
    (case c37 => k_is)
    (case k37 => k_is)
    (case a38 => k_is)
    (case y38 => k_is)
    (case l38 => k_is)
    (case c38 => k_is)
    (case k38 => k_is)
    (case xL => k_is)
    (case sL => k_is)
    (case eL => k_is)
    (case tyL => k_is)
    (case kL => k_is)
    (case hgL => k_is)
    (case hkL => k_is)
    (case hdL => k_is)
    (case haL => k_is)
    (case hmL => k_is)
    (case srL => first | rfl | k_is)
    (case xO => k_is)
    (case sO => k_is)
    (case eO => k_is)
    (case tyO => k_is)
    (case kO => k_is)
    (case hgO => k_is)
    (case hkO => k_is)
    (case hdO => k_is)
    (case haO => k_is)
    (case hmO => k_is)
    (case srO => first | rfl | k_is)
    (case xY => k_is)
    (case sY => k_is)
    (case eY => k_is)
    (case tyY => k_is)
    (case kY => k_is)
    (case hgY => k_is)
    (case hkY => k_is)
    (case hdY => k_is)
    (case haY => k_is)
    (case hmY => k_is)
    (case srY => first | rfl | k_is)
    (case xD => k_is)
    (case sD => k_is)
    (case eD => k_is)
    (case tyD => k_is)
    (case kD => k_is)
    (case hgD => k_is)
    (case hkD => k_is)
    (case hdD => k_is)
    (case haD => k_is)
    (case hmD => k_is)
    (case srD => first | rfl | k_is)
    (case xT => k_is)
    (case sT => k_is)
    (case eT => k_is)
    (case tyT => k_is)
    (case kT => k_is)
    (case hgT => k_is)
    (case hkT => k_is)
    (case hdT => k_is)
    (case haT => k_is)
    (case hmT => k_is)
    (case srT => first | rfl | k_is)
    (case nEL => k_is)
    (case nEO => k_is)
    (case nEY => k_is)
    (case nED => k_is)
    (case nT1 => k_is)
    (case nT2 => k_is)
    (case eR => k_is)
    (case tyR => k_is)
    (case iR => k_is)
    (case rdR => k_is)
    (case gaR => k_is)
    (case vR => k_is)
    (case rd => k_is)
    (case ga => k_is)
    (case pg => k_is)
    (case hd => k_is)
    (case po => k_is)
    (case sa => k_is)
    (case mk => k_is)
    (case kc => k_is)
    (case sf => k_is)
    (case nL => k_is)
    (case nI => k_is)
    (case nC => k_is)
    (case tA => k_is)
    (case tB => k_is)
    (case tC => k_is)
    (case tD => k_is)
    (case ne => k_is)
    (case rp => k_is)
    (case h1 => k_is)
    (case h2 => k_is)
    (case mkJ => k_is)
    (case kcJ => k_is)
    (case ow_str => k_is)
    (case ow_int => k_is)
    (case ow_dict => k_is)
    (case os_int => k_is)
    (case pgJ => k_is)
    (case hdJ => k_is)
    (case poJ => k_is)
    (case saJ => k_is)
    (case nJ => k_is)
    (case jA => k_is)
    (case jD => k_is)
    (case ok_str => first | kit_is | exact L2.kit_ty (by decide +kernel))
    (case ok_int => first | kit_is | exact L2.kit_ty (by decide +kernel))
    (case ok_dict => first | kit_is | exact L2.kit_ty (by decide +kernel))
    (case ok_NoneType => first | kit_is | exact L2.kit_ty (by decide +kernel))
    (case kdJ => first | kit_is | exact L2.kit_ty (by decide +kernel))
    (case kMM => first | kit_is | exact L2.kit_ty (by decide +kernel))
    (case kMJ => first | kit_is | exact L2.kit_ty (by decide +kernel))
    (case kMs => first | kit_is | exact L2.kit_ty (by decide +kernel))
    (case kls => first | kit_is | exact L2.kit_ty (by decide +kernel))
    (case kJJ => first | kit_is | exact L2.kit_ty (by decide +kernel))
    (case eLL => first | kit_is | exact L2.kit_ty (by decide +kernel))
    (case eOL => first | kit_is | exact L2.kit_ty (by decide +kernel))
    (case eOO => first | kit_is | exact L2.kit_ty (by decide +kernel))
    (case eYL => first | kit_is | exact L2.kit_ty (by decide +kernel))
    (case eYO => first | kit_is | exact L2.kit_ty (by decide +kernel))
    (case eYY => first | kit_is | exact L2.kit_ty (by decide +kernel))
    (case eDL => first | kit_is | exact L2.kit_ty (by decide +kernel))
    (case eDO => first | kit_is | exact L2.kit_ty (by decide +kernel))
    (case eDY => first | kit_is | exact L2.kit_ty (by decide +kernel))
    (case eDD => first | kit_is | exact L2.kit_ty (by decide +kernel))
    (case eTL => first | kit_is | exact L2.kit_ty (by decide +kernel))
    (case eTO => first | kit_is | exact L2.kit_ty (by decide +kernel))
    (case eTY => first | kit_is | exact L2.kit_ty (by decide +kernel))
    (case eTD => first | kit_is | exact L2.kit_ty (by decide +kernel))
    (case eTT => first | kit_is | exact L2.kit_ty (by decide +kernel))
    (case g1 => k_is)
    (case g2 => k_is)
    (case g3 => k_is)
    (case g4 => k_is)
    (case g5 => k_is)
    (case g6 => k_is)
    (case z_list => k_is)
    (case z_int => k_is)
    (case z_len => k_is)
    (case z_abs => k_is)
    (case z_range => k_is)
    (case z_dict => k_is)
    (case z_str => k_is)
    (case z_sorted => k_is)
    (case z_tuple => k_is)
    (case z_isinstance => k_is)
    (case z_iter => k_is)
    (case z_enumerate => k_is)
    (case z_all => k_is)
    (case z_bool => k_is)
    (case z_repr => k_is)
    (case qc1 => k_is)
    (case qv1 => first | rfl | k_is)
    (case qa1 => first | rfl | k_is)
    (case qb1 => first | rfl | k_is)
    (case qe1 => first | rfl | k_is)
    (case qg1 => first | rfl | k_is)
    (case qn1 => first | rfl | k_is)
    (case qk1 => first | rfl | k_is)
    (case qc2 => k_is)
    (case qv2 => first | rfl | k_is)
    (case qa2 => first | rfl | k_is)
    (case qb2 => first | rfl | k_is)
    (case qe2 => first | rfl | k_is)
    (case qg2 => first | rfl | k_is)
    (case qn2 => first | rfl | k_is)
    (case qk2 => first | rfl | k_is)
    (case pp => first | rfl | k_is)

