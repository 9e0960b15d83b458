import PyProof.Rows.All
import Wide.All
import OpenK.AllK
import Wide.FinOn
import HandS.ForMost
import HandS.OwnEq
import HandS.Wide
import HandS.DictComp
import HandS.IsInst
import HandS.Codes
import HandS.Flow
import PyProof.ListStr
import PyProof.InstNe
import KE.KCallOwn
import KE.KOwnIter
import KE.KFmtOwn
import HandS.Style
import HandS.IterNext
import HandS.StrMore
import HandS.MakeKw
import HandS.IterVal
import HandS.More
import PyProof.DictUpdate
import HandS.RaiseMore
import HandS.Walk
import HandS.FStr
import HandS.ClsMeth
import HandS.MakeKwOnly
import HandS.ExcInit
import KE.GoesMore
import KE.KOpsOwn
import HandS.Star
import HandS.TryOnly
import HandS.ExcValue
import HandS.ExcIs
import HandS.Lambda
import KE.KExcIs
import HandS.Zip
import KE.GoesZip
import PyProof.Rows.StrMul
import KE.KEqDict
import PyProof.P3Eq
import KE.GoesEnum
import PyProof.CallFns
import PyProof.InstEq
import PyProof.ReprRoads
import HandS.WordsExc
import HandS.RaiseFrom
import PySem.Challenge.RW_blindrepair_k09_misreadings_refused
import HandS.Defaults
import KE.KeyNested
import PyProof.DictKind
import PyProof.DictFindH
import PyProof.DictRoadsH
import HandS.Dict
import HandS.Small
import HandS.Iter
import HandS.Strs
import HandS.EndTab
import PyProof.StrLawsRepr
import HandS.TupMul
import HandS.EndOwn
import KE.RegKIsAll
set_option Elab.async false
set_option linter.all false
set_option maxRecDepth 100000
set_option maxHeartbeats 4000000
/-! Rules of our own: the methods with two underscores of a text's own class, called by Python's signs; list(text). -/
namespace L2
open PySem PySem.Spec PyProof.Rows
section
variable {X : Cx} {n : Nat} {CX : CXT} {C f : Addr} {fd : FuncData} {ps : List Str} {sp : Sp} {E : XK}
/-- a def that is called from within a built-in -/
theorem run_own {A : Around} {pins : List (Addr × Obj)} {σ : St} {H : Hp} {s : Shared} {Q : VK} {us : List Value} {vs : List V} (sb : Sub X n A) (F : FnOk X.prog X.w X.K X.mg X.base CX n f fd ps sp) (hb : Binds X.K fd ps []) (hx : Passes CX X E)
    (I : Inv X pins σ H s) (r : Vals vs us) (h : sp vs H Q E) : wpAny (model X.prog X.w) A (call (.ref f) us) (EP X pins σ Q) X.xe s := by
  have e0 : Env0 X.prog X.w X.K X.mg X.base A X.stack s H := by
    have e := I.env0
    exact ⟨by rw [sb.fr]; exact e.frames, e.mod, e.bs, e.bsz, e.funs, e.frf, e.hok, e.bare⟩
  have hl := F.len _ _ _ _ h
  have hl2 : us.length = ps.length := by rw [← r.length]; exact hl
  refine wpAny_call (codeAny_mono (F.run A X.stack s H ⟨us, []⟩ us vs Q E sb.room e0 (by
    have := hb s us I.kIn (by simpa using hl2)
    simpa using this) r h) fun r s' hq => ?_)
  cases r with
  | error e => exact hx pins σ H s e s' I hq
  | ok fl =>
    cases fl with
    | ret w => exact I.after hq
    | next => exact False.elim hq
    | brk => exact False.elim hq
    | cont => exact False.elim hq
/-- the instance that H tells, for the library's rules -/
theorem inst_at {pins : List (Addr × Obj)} {σ : St} {H : Hp} {s : Shared} {a dx : Addr} {fs : List (Str × V)} (I : Inv X pins σ H s) (ha : H a = some (.ins C dx fs)) : ∃ od, PySem.W.InstAt s.heap a (PySem.W.instObj C dx) C od := by
  obtain ⟨mA, J, _⟩ := ins_get I.hok ha
  obtain ⟨od, J, _⟩ := J.look
  exact ⟨od, J⟩
/-- where one stands in a built-in, once or twice deeper -/
theorem Sub.here (hr : Room n X.A) : Sub X n X.A := ⟨hr, rfl⟩
/-- the facts of a method that a sign calls -/
structure Own (K : PySem.W.Frag) (C : Addr) (m : Str) (f : Addr) : Prop where
  find : PySem.W.findIn K (.ref C) m = some (some (.ref f))
  fn : PySem.W.isFn K (.ref f) = true
/-- list(text) -/
theorem call_listS (hc : X.calm = true) : CallR X (.type "list") (fun xs H Q => ∃ z, xs = [.str z] ∧ z.length ≤ sizeLine ∧ ∀ l, H l = none → Q (.ref l) (upd H l (.lst (z.cps.toList.map fun c => V.str ⟨#[c]⟩)))) := by
  intro pins s σ H xs us Q I r h
  obtain ⟨z, rfl, hz, q⟩ := h
  obtain ⟨u, rfl, t, rfl⟩ := vals1 r
  refine call_list_str (I.ok.hd hc) z t (fun h' tk acc c' kp e it => ?_) hz
  have rv : ∀ (xs : List Nat) (acc : List Value), acc.length = xs.length → (∀ (j : Nat) (v : Value), acc[j]? = some v → ∃ (c : Nat) (u : Tok), xs[j]? = some c ∧ v = Value.str ⟨#[c]⟩ u) → Vals (xs.map fun c => V.str ⟨#[c]⟩) acc := by
    intro xs
    induction xs with
    | nil =>
      intro acc hl _
      cases acc with
      | nil => exact .nil
      | cons a r => cases hl
    | cons x xs ih =>
      intro acc hl hi
      cases acc with
      | nil => cases hl
      | cons a r =>
        obtain ⟨c, u, e1, e2⟩ := hi 0 a rfl
        have e1' : x = c := by simpa using e1
        subst e1'
        exact .cons ⟨u, e2⟩ (ih r (by simpa using hl) fun j v hj => by
          obtain ⟨c, u, e1, e2⟩ := hi (j + 1) v (by simpa using hj)
          exact ⟨c, u, by simpa using e1, e2⟩)
  have R : Vals (z.cps.toList.map fun c => V.str ⟨#[c]⟩) acc.toList := rv _ _ (by rw [Array.length_toList, it.1, Array.length_toList]) fun j v hj => by
    obtain ⟨c, u, e1, e2⟩ := it.2 j v (by rw [← Array.getElem?_toList]; exact hj)
    exact ⟨c, u, by rw [Array.getElem?_toList]; exact e1, e2⟩
  refine ⟨.ref s.heap.objs.size, _, I.laid (t' := tk) kp (Nat.le_refl _) (show ObjOk X.prog X.w _ h' _ (.lst _) from ⟨?_, acc.toList, c', R, by rw [Array.toArray_toList]; exact e⟩), rfl, q _ (I.hok.fresh (Nat.le_refl _))⟩
  rw [List.length_map, Array.length_toList]
  exact hz
/-- len(o) by an own __len__ -/
theorem call_lenOwn (F : FnOk X.prog X.w X.K X.mg X.base CX n f fd ps sp) (hb : Binds X.K fd ps []) (hx : Passes CX X E) (o : Own X.K C "__len__" f) (hr : Room (n + 1) X.A) :
    CallR X (.builtin "len") (fun xs H Q => ∃ a dx fs, xs = [.ref a] ∧ H a = some (.ins C dx fs) ∧ sp [.ref a] H (fun v H' => ∃ k : Nat, v = .int k ∧ k ≤ sizeLine ∧ Q (.int k) H') E) := by
  intro pins s σ H xs us Q I r h
  obtain ⟨a, dx, fs, rfl, ha, hs⟩ := h
  obtain ⟨u, rfl, rx⟩ := vals1 r
  cases rx
  obtain ⟨od, J⟩ := inst_at I ha
  obtain ⟨m, hF⟩ := I.fr
  refine PySem.W.len_K hF I.ok.mod.kin J o.find o.fn (thn (run_own (Sub.here hr).in1 F hb hx I (show Vals [V.ref a] [Value.ref a] from .cons rfl .nil) hs) fun v s' q => ?_)
  obtain ⟨y, H', I', ry, k, rfl, hk, q⟩ := q
  obtain ⟨t, rfl⟩ := ry
  have h63 := line63
  exact ⟨⟨by omega, by omega⟩, .int k, H', I'.tok _, ⟨_, rfl⟩, q⟩
/-- v in o, v not in o by an own __contains__ that gives True or False -/
theorem op_inOwn (F : FnOk X.prog X.w X.K X.mg X.base CX n f fd ps sp) (hb : Binds X.K fd ps []) (hx : Passes CX X E) (o : Own X.K C "__contains__" f) (hr : Room n X.A) :
    OpR X (compareOp .In) (fun x y H Q => ∃ a dx fs, y = .ref a ∧ H a = some (.ins C dx fs) ∧ sp [.ref a, x] H (fun v H' => ∃ b, v = .bl b ∧ Q (.bl b) H') E) := by
  intro pins s σ H x y v u Q I rx ry h
  obtain ⟨a, dx, fs, rfl, ha, hs⟩ := h
  cases ry
  obtain ⟨od, J⟩ := inst_at I ha
  obtain ⟨m, hF⟩ := I.fr
  refine PySem.W.in_K hF I.ok.mod.kin J o.find o.fn (thn (run_own (Sub.here hr) F hb hx I (show Vals [V.ref a, x] [Value.ref a, v] from .cons rfl (.cons rx .nil)) hs) fun v s' q => ?_)
  obtain ⟨y, H', I', ry, b, rfl, q⟩ := q
  cases ry
  exact wpAny_truthy_bool ⟨.bl b, H', I', rfl, q⟩
theorem op_notInOwn (F : FnOk X.prog X.w X.K X.mg X.base CX n f fd ps sp) (hb : Binds X.K fd ps []) (hx : Passes CX X E) (o : Own X.K C "__contains__" f) (hr : Room n X.A) :
    OpR X (compareOp .NotIn) (fun x y H Q => ∃ a dx fs, y = .ref a ∧ H a = some (.ins C dx fs) ∧ sp [.ref a, x] H (fun v H' => ∃ b, v = .bl b ∧ Q (.bl (!b)) H') E) := by
  intro pins s σ H x y v u Q I rx ry h
  obtain ⟨a, dx, fs, rfl, ha, hs⟩ := h
  cases ry
  obtain ⟨od, J⟩ := inst_at I ha
  obtain ⟨m, hF⟩ := I.fr
  refine PySem.W.notIn_K hF I.ok.mod.kin J o.find o.fn (thn (run_own (Sub.here hr) F hb hx I (show Vals [V.ref a, x] [Value.ref a, v] from .cons rfl (.cons rx .nil)) hs) fun v s' q => ?_)
  obtain ⟨y, H', I', ry, b, rfl, q⟩ := q
  cases ry
  exact wpAny_truthy_bool ⟨.bl (!b), H', I', rfl, q⟩
/-- o[k] by an own __getitem__ -/
theorem pe_ixOwn {a b : Expr} {ta tb : TE} {pos : Pos} (F : FnOk X.prog X.w X.K X.mg X.base CX n f fd ps sp) (hb : Binds X.K fd ps []) (hx : Passes CX X E) (o : Own X.K C "__getitem__" f) (hf : PySem.W.fnIn X.K f = true) (hr : Room (n + 1) X.A) (hA : PE X a ta) (hB : PE X b tb)
    (hsl : ∀ v u, subscripted b true v u = runValue (.builtin "lifetime.subscript" ⟨[v, u], []⟩) := by intro _ _; rfl) :
    PE X (.Subscript a b pos) (tOp (fun x y H Q => ∃ a dx fs, x = .ref a ∧ H a = some (.ins C dx fs) ∧ sp [.ref a, y] H Q E) ta tb) := by
  refine ⟨fun pins s σ H Q I h => ?_⟩
  refine Subscript_ (binT hA hB I h fun v u s2 x y H2 I2 rx ry q => ?_)
  obtain ⟨a, dx, fs, rfl, ha, hs⟩ := q
  cases rx
  obtain ⟨od, J⟩ := inst_at I2 ha
  obtain ⟨m, hF⟩ := I2.fr
  exact PySem.W.sub_K hF I2.ok.mod.kin J o.find hf o.fn (run_own (Sub.here hr).in1 F hb hx I2 (show Vals [V.ref a, y] [Value.ref a, u] from .cons rfl (.cons ry .nil)) hs) (hsl _ _)
/-- str(o) by an own __str__ -/
theorem call_strOwn (F : FnOk X.prog X.w X.K X.mg X.base CX n f fd ps sp) (hb : Binds X.K fd ps []) (hx : Passes CX X E) (o : Own X.K C "__str__" f) (hr : Room (n + 2) X.A) :
    CallR X (.type "str") (fun xs H Q => ∃ a dx fs, xs = [.ref a] ∧ H a = some (.ins C dx fs) ∧ sp [.ref a] H (fun v H' => ∃ z, v = .str z ∧ Q (.str z) H') E) := by
  intro pins s σ H xs us Q I r h
  obtain ⟨a, dx, fs, rfl, ha, hs⟩ := h
  obtain ⟨u, rfl, rx⟩ := vals1 r
  cases rx
  obtain ⟨od, J⟩ := inst_at I ha
  have sb : Sub X n X.A.in1.in1 := (Sub.in1 (Sub.in1 (Sub.here hr)))
  refine PySem.W.kso_call sb.room.units0 I.kIn J o.find o.fn (thn (run_own sb F hb hx I (show Vals [V.ref a] [Value.ref a] from .cons rfl .nil) hs) fun v s' q => ?_)
  obtain ⟨y, H', I', ry, z, rfl, q⟩ := q
  obtain ⟨t, rfl⟩ := ry
  exact ⟨.str z, H', I', ⟨_, rfl⟩, q⟩
end
end L2

set_option Elab.async false
set_option linter.all false
set_option maxRecDepth 100000
set_option maxHeartbeats 4000000
/-! == and != by an own __eq__ that gives True or False. -/
namespace PySem.W
open PySem PySem.Calls PyProof.Rows Builtin
section
variable {prog : Program} {w : World} {A : Around} {E : Value → Shared → Prop} {s : Shared} {K : Frag} {x C L f : Addr} {h₀ : Heap} {m : Str → Option Value} {ox : Obj} {od : Option Obj} {b tb : Value}
theorem ifBoundB_K {M : Model} {name : Str} {id : String} {args : List Value} {Q : Option Value → Shared → Prop} (X : K.In s.heap) (I : InstAt s.heap x ox C od) (hs : findIn K (.ref C) name = some (some (.builtin id)))
    (hb : ∀ self, bindSpecial (.builtin id) self = pure (.builtin id, [self]))
    (h : wpAny M A (call (.builtin id) (.ref x :: args)) (fun v => Q (some v)) E s) : wpAny M A (callSpecialIfBound? (.ref x) name args) Q E s := by
  simp only [callSpecialIfBound?, bindSpecialIfBound?]
  refine wpAny_holding (wpAny_bind (wpAny_bind (wpAny_bind (I.type.here ((looks_findIn X hs).here ?_)))))
  simp only [hb]
  refine wpAny_bind (wpAny_askSetting (wpAny_ite ?_))
  have fin : wpAny M A (call (.builtin id) ([.ref x] ++ args) >>= fun v => pure (some v)) Q E s := wpAny_bind (wpAny_mono h (fun v s' h' => wpAny_pure h') fun _ _ h' => h')
  split
  · exact wpAny_bind (wpAny_pure (wpAny_pure (by exact fin)))
  · exact wpAny_tryCatch (wpAny_bind (wpAny_pure (wpAny_pure (by exact fin))))
theorem neO_K {Q : Value → Shared → Prop} (hu : A.in1.units < cLine) (X : K.In s.heap) (I : InstAt s.heap x ox C od) (hm : mroIn K C (.type "object") = some true) (hs : findIn K (.ref C) "__eq__" = some (some (.ref f))) (hf : isFn K (.ref f) = true)
    (h : wpAny (model prog w) A.in1 (call (.ref f) [.ref x, b]) (fun v s' => ∃ r, v = .bool r ∧ Q (.bool (!r)) s') E s) : wpAny (model prog w) A (call (.builtin "object.__ne__") [.ref x, b]) Q E s := by
  refine wpAny_call (codeAny_call_builtin F.cmp_object.ne.plain F.cmpEntry_ne (check_slot (i := "object.__ne__") (owner := "object") (n := "__ne__") F.cmpKind_ne F.cmpSplit_ne (I.type.andThen (looks_mroIn X hm)) (F.cmpArgs_ne _ _) ?_))
  unfold Builtin.«object.__ne__»
  refine wpAny_bind (m := slotArgs "__ne__" 1 _) (wpAny_pure ?_)
  refine wpAny_bind (m := cRoomFor _ _) (wpAny_cRoomFor hu ?_)
  refine wpAny_bind (m := callSpecialIfBound? (.ref x) (Str.ofString "__eq__") _) (ifBound_K X I hs hf (wpAny_mono h (fun r s' hq => ?_) fun _ _ y => y))
  obtain ⟨r, rfl, hq⟩ := hq
  exact wpAny_bind (wpAny_truthy_bool (wpAny_pure hq))
theorem neq_K {Q : Value → Shared → Prop} (hu : A.in1.units < cLine) (hu0 : A.units < cLine) (F : Fr h₀ L s.heap m) (X₀ : K.In h₀) (I : InstAt s.heap x ox C od) (hb : Looks (model prog w) s.heap (typeOf b) tb) (hn : notFirst K C tb = true)
    (hne : findIn K (.ref C) "__ne__" = some (some (.builtin "object.__ne__"))) (hm : mroIn K C (.type "object") = some true) (hs : findIn K (.ref C) "__eq__" = some (some (.ref f))) (hf : isFn K (.ref f) = true)
    (h : wpAny (model prog w) A.in1 (call (.ref f) [.ref x, b]) (fun v s' => ∃ r, v = .bool r ∧ Q (.bool (!r)) s') E s) : wpAny (model prog w) A (richCompare .NotEq (.ref x) b) Q E s := by
  have X := X₀.keeps F.keep
  have one : wpAny (model prog w) A (tryCompare (.ref x) (cmpInfo .NotEq).2.1 b) (fun r s' => ∃ v, r = some v ∧ Q v s') E s := by
    unfold tryCompare
    refine wpAny_bind (ifBoundB_K X I (by exact hne) PySem.F.cmp_object.ne.bind ?_)
    refine wpAny_mono (neO_K (Q := fun v s' => ∃ r, v = .bool r ∧ Q (.bool r) s') hu X I hm hs hf (wpAny_mono h (fun v s' hv => ?_) fun _ _ e => e)) (fun v s' hv => ?_) fun _ _ e => e
    · obtain ⟨r, rfl, hq⟩ := hv
      exact ⟨r, rfl, !r, rfl, hq⟩
    · obtain ⟨r, rfl, hq⟩ := hv
      exact wpAny_pure ⟨_, rfl, hq⟩
  unfold richCompare
  simp only [oneThing_ref]
  refine wpAny_holding (wpAny_bind (wpAny_cRoomFor hu0 ?_))
  refine wpAny_bind (I.type.here (wpAny_bind (hb.here ?_)))
  split
  · rename_i q
    have e : subIn K tb (.ref C) = some false := by
      rcases Bool.or_eq_true_iff.mp hn with e | e
      · rw [beq_iff_eq.mp e] at q; simp at q
      · exact beq_iff_eq.mp e
    refine wpAny_bind ((looks_subIn X e).here ?_)
    simp only [Bool.false_eq_true, if_false]
    refine wpAny_bind (wpAny_mono one (fun r s' z => ?_) fun _ _ e => e)
    obtain ⟨v, rfl, hq⟩ := z
    exact wpAny_pure hq
  · refine wpAny_bind (wpAny_pure ?_)
    simp only [Bool.false_eq_true, if_false]
    refine wpAny_bind (wpAny_mono one (fun r s' z => ?_) fun _ _ e => e)
    obtain ⟨v, rfl, hq⟩ := z
    exact wpAny_pure hq
end
end PySem.W
namespace L2
open PySem PySem.Spec PyProof.Rows
section
variable {X : Cx} {n : Nat} {CX : CXT} {C f : Addr} {fd : FuncData} {ps : List Str} {sp : Sp} {E : XK}
def rEqOwn (K : PySem.W.Frag) (C : Addr) (sp : Sp) (E : XK) (g : Bool → Bool) : R2 := fun x y H Q => ∃ a dx fs tb, x = .ref a ∧ H a = some (.ins C dx fs) ∧ TyX K H y tb ∧ PySem.W.notFirst K C tb = true ∧ sp [.ref a, y] H (fun v H' => ∃ b, v = .bl b ∧ Q (.bl (g b)) H') E
theorem op_eqOwn (F : FnOk X.prog X.w X.K X.mg X.base CX n f fd ps sp) (hb : Binds X.K fd ps []) (hx : Passes CX X E) (o : Own X.K C "__eq__" f) (hr : Room n X.A) : OpR X (compareOp .Eq) (rEqOwn X.K C sp E id) := by
  intro pins s σ H x y v u Q I rx ry h
  obtain ⟨a, dx, fs, tb, rfl, ha, ty, hn, hs⟩ := h
  cases rx
  obtain ⟨od, J⟩ := inst_at I ha
  obtain ⟨m, hF⟩ := I.fr
  obtain ⟨P, Z, p, _⟩ := kit_of I ry ty
  refine PySem.W.cmp_K (op := .Eq) hr.units0 hF I.ok.mod.kin J (Z.ty _ _ I.kIn p) hn o.find o.fn (thn (run_own (Sub.here hr) F hb hx I (show Vals [V.ref a, y] [Value.ref a, u] from .cons rfl (.cons ry .nil)) hs) fun v s' q => ?_)
  obtain ⟨y, H', I', ry, b, rfl, q⟩ := q
  cases ry
  exact ⟨.bl b, H', I', rfl, q⟩
theorem op_neOwn (F : FnOk X.prog X.w X.K X.mg X.base CX n f fd ps sp) (hb : Binds X.K fd ps []) (hx : Passes CX X E) (o : Own X.K C "__eq__" f) (hne : PySem.W.findIn X.K (.ref C) "__ne__" = some (some (.builtin "object.__ne__")))
    (hm : PySem.W.mroIn X.K C (.type "object") = some true) (hr : Room (n + 1) X.A) : OpR X (compareOp .NotEq) (rEqOwn X.K C sp E not) := by
  intro pins s σ H x y v u Q I rx ry h
  obtain ⟨a, dx, fs, tb, rfl, ha, ty, hn, hs⟩ := h
  cases rx
  obtain ⟨od, J⟩ := inst_at I ha
  obtain ⟨m, hF⟩ := I.fr
  obtain ⟨P, Z, p, _⟩ := kit_of I ry ty
  refine PySem.W.neq_K hr.in1.units0 hr.units0 hF I.ok.mod.kin J (Z.ty _ _ I.kIn p) hn hne hm o.find o.fn (thn (run_own (Sub.here hr).in1 F hb hx I (show Vals [V.ref a, y] [Value.ref a, u] from .cons rfl (.cons ry .nil)) hs) fun v s' q => ?_)
  obtain ⟨y, H', I', ry, b, rfl, q⟩ := q
  cases ry
  exact ⟨b, rfl, .bl (!b), H', I', rfl, q⟩
end
end L2

set_option Elab.async false
set_option linter.all false
set_option maxRecDepth 100000
set_option maxHeartbeats 4000000
/-! for x in o, by an own __iter__ that gives iter(a tuple). -/
namespace L2
open PySem PySem.Spec PyProof.Rows ItX
abbrev itTObj (l : Addr) : Obj := { cls := .type "tuple_iterator", data := .fields #[.ref l, .int 0 0] }
/-- at it a fresh iterator of the tuple at l -/
def ItT (l it : Addr) : HO := .ext fun h => h.get? it = some (itTObj l)
theorem itT_ok {P : Program} {w : World} {H : Hp} {h : Heap} {l it : Addr} (e : h.get? it = some (itTObj l)) : ObjOk P w H h it (ItT l it) := ⟨e, ⟨_, e⟩, fun h1 h2 q k => k _ q⟩
theorem call_iterTup {prog : Program} {w : World} {A : Around} {E : Value → Shared → Prop} {s : Shared} {l : Addr} {items : Array Value} {Q : Value → Shared → Prop} (hl : s.heap.IsTuple l items) (h : Q (.ref s.heap.objs.size) { s with heap := s.heap.push (itTObj l) }) : wpAny (model prog w) A (call (.builtin "iter") [.ref l]) Q E s := by
  refine Calls.call_function_entry (by decide +kernel) (by decide +kernel) PySem.W.kdk_entry_iter (PySem.W.kdk_args_iter _) ?_
  unfold Builtin.«iter»
  refine wpAny_bind (m := someArgs "iter" 1 2 _) (wpAny_of_eq (a := [Value.ref l]) (by first | rfl | kernel_rfl!) ?_)
  show wpAny _ _ (pyIter (.ref l) >>= _) _ _ _
  refine wpAny_bind (wpAny_pyIter_tuple hl ?_)
  exact wpAny_pure ⟨_, rfl, h⟩
section
variable {X : Cx}
theorem call_iterT : CallR X (.builtin "iter") (fun xs H Q => ∃ (l : Addr) (zs : List V), xs = [.ref l] ∧ SqT X.K H l zs ∧ ∀ it, H it = none → X.s_0.heap.objs.size ≤ it → Q (.ref it) (upd H it (ItT l it))) := by
  intro pins s σ H xs us Q I r h
  obtain ⟨l, zs, rfl, hq, q⟩ := h
  obtain rfl := Vals.ref1 r
  obtain ⟨its, rv, pl, hz⟩ := I.tuple hq
  refine call_iterTup (show s.heap.IsTuple l its.toArray from pl) ?_
  exact ⟨.ref s.heap.objs.size, _, I.laid (t' := s.toks) (fun b u e => Heap.get?_push_of_some _ e) (Nat.le_refl _) (itT_ok (Heap.get?_push_size _ rfl)), rfl, q _ (I.hok.fresh (Nat.le_refl _)) I.sz⟩
variable {n : Nat} {CX : CXT} {C f : Addr} {fd : FuncData} {ps : List Str} {sp : Sp} {E : XK}
/-- a def whose promise may speak of how many objects stand at its entry -/
structure FnN (P : Program) (w : World) (K : PySem.W.Frag) (mg : Str → Option Value) (base : Heap) (CX : CXT) (k : Nat) (f : Addr) (fd : FuncData) (ps : List Str) (sn : Nat → Sp) : Prop where
  many : ∀ m vs H Q E, sn m vs H Q E → vs.length = ps.length
  goes : ∀ (A : Around) (outer : List Env) (s : Shared) (H : Hp) (args : Args) (us : List Value) (vs : List V) (Q : VK) (E : XK), Room k A → Env0 P w K mg base A outer s H → BindsTo s fd args (ps.zip us) → Vals vs us →
    sn s.heap.objs.size vs H Q E → codeAny (model P w) A (.call (.ref f) args) (CR CX outer P w H s Q E) s
theorem fnN_mk {CX : CXT} {P : Program} {w : World} {K : PySem.W.Frag} {mg : Str → Option Value} {base : Heap} {k : Nat} {f : Addr} {x qual : Str} {st : Stmt} {fd : FuncData} {N ps : List Str} {sn : Nat → Sp}
    (F : Fun K x qual st f fd) (S : FnScope N ps (defScope st)) (many : ∀ m vs H Q E, sn m vs H Q E → vs.length = ps.length)
    (body : ∀ (cdv : Value) (A : Around) (outer : List Env) (s : Shared) (H : Hp) (vs : List V) (Q : VK) (E : XK), Room k (A.deeper (envOfC qual (defScope st) s.heap.objs.size f cdv)) → sn s.heap.objs.size vs H Q E →
      ∃ t, PSs (cxOf CX P w K mg base N qual (defScope st) f cdv A outer s H E) (defBody st) t ∧ t { nx := fun _ H' => Q .non H', rt := Q } (start N vs) H) : FnN P w K mg base CX (k + 1) f fd ps sn := by
  obtain ⟨oc, od, kV, doc, pm, an, cdv, ct, osl, rfl, lk, hcd⟩ := F.ex
  refine ⟨many, fun A₁ out s₁ H₁ ar us₁ vs₁ Q₁ E₁ room ev bd rel prom => ?_⟩
  have len₁ := many _ _ _ _ _ prom
  have kin₁ : K.In s₁.heap := ev.mod.kin.keeps (fun a o z => (ev.bs a o z).left)
  have kinds : ∀ y ∈ ps.zip us₁, (defScope st).names.lookup y.1 = some .local ∨ ((defScope st).names.lookup y.1 = some .cell ∧ ((cellsFrom (s₁.heap.objs.size + 1) (defScope st).names []).lookup y.1).isSome = true) := by
    rintro ⟨nm, vl⟩ mem
    rcases S.par nm (List.of_mem_zip mem).1 with z | z
    · exact Or.inl z
    · exact Or.inr ⟨z, PySem.W.cellsFrom_some _ _ _ (Or.inl z)⟩
  refine codeAny_call_function room.depth (kin₁ _ _ lk) rfl S.co S.gen rfl (PySem.W.codeRec_of kin₁ hcd) (bd _ _ _ _ ?_)
  refine wpAny_newFunctionEnv_cells S.kind kinds (fun e₁ is₁ s₂ made => ?_)
  subst is₁
  refine ⟨Heap.NoLimit.keeps (ev.mod.nolimit.keeps fun a o z => (ev.bs a o z).left) made.toInCall.keep, codeAny_func ?_⟩
  obtain ⟨t₁, term, reads⟩ := body cdv A₁ out s₁ H₁ vs₁ Q₁ E₁ (room.deeper _) prom
  have inv₁ := inv_start (CX := CX) (P := P) (w := w) (mg := mg) (base := base) (E := E₁) S room.hd ev len₁ rel made
  refine wpAny_mono (term.run [] s₂ (start N vs₁) H₁ _ inv₁ reads) (fun flow s₃ done => ?_) (fun _ _ z => z)
  cases flow with
  | ret u₁ =>
    obtain ⟨v₁, _, H₂, J, rv, q⟩ := done
    exact ⟨v₁, H₂, J.os, J.bare, J.base, J.hok, rv, q⟩
  | next =>
    obtain ⟨_, H₂, J, q⟩ := done
    exact ⟨V.non, H₂, J.os, J.bare, J.base, J.hok, rfl, q⟩
  | brk => exact (done.elim fun _ z => z.elim fun _ z => z.2).elim
  | cont => exact (done.elim fun _ z => z.elim fun _ z => z.2).elim
variable {sn : Nat → Sp}
theorem run_N {A : Around} {pins : List (Addr × Obj)} {σ : St} {H : Hp} {s : Shared} {Q : VK} {us : List Value} {vs : List V} (sb : Sub X n A) (F : FnN X.prog X.w X.K X.mg X.base CX n f fd ps sn) (hb : Binds X.K fd ps []) (hx : Passes CX X E)
    (I : Inv X pins σ H s) (r : Vals vs us) (h : sn s.heap.objs.size vs H Q E) : wpAny (model X.prog X.w) A (call (.ref f) us) (EP X pins σ Q) X.xe s := by
  have e0 : Env0 X.prog X.w X.K X.mg X.base A X.stack s H := by
    have e := I.env0
    exact ⟨by rw [sb.fr]; exact e.frames, e.mod, e.bs, e.bsz, e.funs, e.frf, e.hok, e.bare⟩
  have hl := F.many _ _ _ _ _ h
  have hl2 : us.length = ps.length := by rw [← r.length]; exact hl
  refine wpAny_call (codeAny_mono (F.goes A X.stack s H ⟨us, []⟩ us vs Q E sb.room e0 (by
    have := hb s us I.kIn (by simpa using hl2)
    simpa using this) r h) fun r s' hq => ?_)
  cases r with
  | error e => exact hx pins σ H s e s' I hq
  | ok fl =>
    cases fl with
    | ret w => exact I.after hq
    | next => exact False.elim hq
    | brk => exact False.elim hq
    | cont => exact False.elim hq
def iOwn (K : PySem.W.Frag) (C : Addr) (m : Nat) (sn : Nat → Sp) (E : XK) (tl : TE) : TI := fun σ H R => tl σ H fun x H1 => ∃ a dx fs, x = .ref a ∧ H1 a = some (.ins C dx fs) ∧
  ∀ k, m ≤ k → sn k [.ref a] H1 (fun v H' => ∃ it t, v = .ref it ∧ k ≤ it ∧ H' it = some (ItT t it) ∧ R (Itt K t) (dropH H' it)) E
theorem pi_own {tg l : Expr} {tl : TE} (F : FnN X.prog X.w X.K X.mg X.base CX n f fd ps sn) (hb : Binds X.K fd ps []) (hx : Passes CX X E) (o : Own X.K C "__iter__" f) (hr : Room n X.A) (hl : PE X l tl) : PI X tg l (iOwn X.K C X.s_0.heap.objs.size sn E tl) := by
  refine ⟨fun pins s σ H R I h => ?_⟩
  refine thn (hl.run pins s σ H _ I h) fun v s1 ⟨x, H1, I1, r1, q1⟩ => ?_
  obtain ⟨a, dx, fs, rfl, ha, hs⟩ := q1
  cases r1
  obtain ⟨od, J⟩ := inst_at I1 ha
  obtain ⟨m, hF⟩ := I1.fr
  refine PySem.W.owit_iter hF I1.ok.mod.kin J o.find o.fn (thn (run_N (Sub.here hr) F hb hx I1 (show Vals [V.ref a] [Value.ref a] from .cons rfl .nil) (hs s1.heap.objs.size I1.sz)) fun v s' q => ?_)
  obtain ⟨y, H', I', ry, ⟨it, t, rfl, hn, hi, q⟩⟩ := q
  cases ry
  have hy := Nat.le_trans I1.sz hn
  have hit : s'.heap.get? it = some (itTObj t) := (I'.hok it _ hi).1
  unfold PySem.W.OwitIt
  refine wpAny_specialOf (T := "tuple_iterator") (v := .ref it) ⟨_, hit, rfl⟩ PySem.F.slot_tuple_iterator_next.lookup ?_
  refine ⟨it, [it], _, _, dropH H' it, rfl, inv_drop I' hi, turn_tuple t _, ⟨_, hit, rfl, rfl⟩, fun b hb => ?_, q⟩
  have e : b = it := by simpa using hb
  subst e
  exact inv_fp I' hi hy
end
end L2

set_option Elab.async false
set_option linter.all false
set_option maxRecDepth 100000
set_option maxHeartbeats 4000000
/-! {**a, **b}: two dicts of ints and texts, one behind the other, into a new one. -/
namespace PySem
open PyProof.Rows
section
variable {prog : Program} {w : World} {A : Around} {E : Value → Shared → Prop} {s : Shared} {K : Type} [DecidableEq K] {knd : KeyKind prog w K}
theorem put_pairs {a : Addr} {old : List (K × Value)} {c : K} {u v : Value} {R : Unit → Shared → Prop} (isC : knd.is c u = true) (D : s.heap.DictOf knd a old)
    (next : ∀ hp, hp.DictOf knd a (stored old c v) → Heap.SameBut a s.heap hp → R () { s with heap := hp }) (few : old.length ≤ sizeLine) :
    wpAny (model prog w) A (dictPut a (knd.hash c) u v) R E s := by
  obtain ⟨ob, es, ep, at_, exact_, dat, keyed, prs, uniq⟩ := D
  have szs : es.size ≤ sizeLine := by
    have l1 := prs.length
    have l2 : es.toList.length = es.size := by simp
    omega
  unfold dictPut
  refine wpAny_bind (wpAny_dictFind_of isC at_ dat keyed ?_)
  have same : (es.findIdx? fun e => knd.is c e.key) = old.findIdx? fun kv => decide (kv.1 = c) := by
    have z := prs.findIdx c
    obtain ⟨lst⟩ := es
    simpa using z
  cases found : es.findIdx? fun e => knd.is c e.key with
  | some j =>
    have there : (old.any fun kv => decide (kv.1 = c)) = true := any_of_findIdx_some (same ▸ found)
    refine wpAny_updateDict at_ dat (next _ ⟨_, _, ep, Heap.get?_update_self _ at_ (Obj.isFreed_of_dict (Obj.data_mapDict dat _)), exact_.mapDict _, Obj.data_mapDict dat _, keyed.modify _ _, ?_, ?_⟩ (Heap.SameBut.update ..))
    · have inList : (es.toList.findIdx? fun e => knd.is c e.key) = some j := by
        rw [← found]
        obtain ⟨lst⟩ := es
        simp
      have z := prs.modify uniq inList v
      rw [stored, if_pos there]
      obtain ⟨lst⟩ := es
      simpa using z
    · rw [stored, if_pos there, keys_map_store]
      exact uniq
  | none =>
    have notIn : c ∉ old.map (·.1) := not_mem_of_findIdx_none (same ▸ found)
    have gone : ¬ (old.any fun kv => decide (kv.1 = c)) = true := fun z => by
      obtain ⟨kv, mem, eq⟩ := List.any_eq_true.mp z
      exact notIn (List.mem_map.mpr ⟨kv, mem, of_decide_eq_true eq⟩)
    refine wpAny_updateDictKeys (hz := szs) at_ dat (next _ ⟨_, _, ep + 1, Heap.get?_update_self _ at_ (Obj.isFreed_of_dict (Obj.data_mapDictKeys dat _)), exact_.mapDictKeys _, Obj.data_mapDictKeys dat _, keyed.push isC _, ?_, ?_⟩ (Heap.SameBut.update ..))
    · have z := prs.append isC (knd.hash c) v
      rw [stored, if_neg gone]
      obtain ⟨lst⟩ := es
      simpa using z
    · rw [stored, if_neg gone, List.map_append]
      refine List.nodup_append.mpr ⟨uniq, by simp, fun x hx y hy => ?_⟩
      have ey : y = c := by simpa using hy
      intro exy
      exact notIn (by rw [← ey, ← exy]; exact hx)
end
section
variable {prog : Program} {w : World} {A : Around} {E : Value → Shared → Prop} {s : Shared}
open L2
theorem dict_sub : isSubtype (.type "dict") (.type "dict") = pure true := by rw [isSubtype_type]; kernel_rfl
theorem mergeMapping_mix {d o : Addr} {kvs more : List (Key × Value)} {Q : Unit → Shared → Prop} (hdo : d ≠ o) (hoS : (o == sysModules) = false)
    (hd : s.heap.DictOf (mixKind prog w) d kvs) (ho : s.heap.DictOf (mixKind prog w) o more)
    (hQ : ∀ h', h'.DictOf (mixKind prog w) d (merged kvs more) → Heap.SameBut d s.heap h' → Q () { s with heap := h' }) (hsz : kvs.length + more.length ≤ sizeLine) :
    wpAny (model prog w) A (mergeMapping d (.ref o) false) Q E s := by
  obtain ⟨oo, eso, epo, hoo, hco, hdo', hko, hpo, hno⟩ := id ho
  obtain ⟨od, esd, epd, hod, hcd, hdd, _⟩ := id hd
  have hlen : more.length = eso.size := by
    have z := hpo.length
    simpa using z.symm
  have loop : wpAny (model prog w) A (do
      let l ← dictEntries o
      let epoch ← dictEpoch o
      forIn (List.range l.size) PUnit.unit fun i (_ : PUnit) => (do
        let l' ← dictEntries o
        match l'[i]? with
          | some e => do
            holding [e.key, e.val] (dictPut d e.hash e.key e.val)
            let ep' ← dictEpoch o
            if (ep' != epoch) = true then do
                (unsupported "dict.changed-during-merge" : Sem PUnit)
                pure (ForInStep.yield PUnit.unit)
              else pure (ForInStep.yield PUnit.unit)
          | _ => do
            (unsupported "dict.changed-during-merge" : Sem PUnit)
            pure (ForInStep.yield PUnit.unit) : Sem (ForInStep PUnit))
      pure ()) Q E s := by
    refine wpAny_bind (wpAny_dictEntries hoo hdo' ?_)
    refine wpAny_bind (wpAny_dictEpoch hoo hdo' ?_)
    refine wpAny_bind ?_
    refine wpAny_forIn_list _ (fun left _ t => ∃ hp j, t = { s with heap := hp } ∧ left = (List.range eso.size).drop j ∧ j ≤ eso.size ∧ hp.DictOf (mixKind prog w) d (merged kvs (more.take j)) ∧ hp.get? o = some oo ∧ Heap.SameBut d s.heap hp) _ ?_ ?_ _ _
      ⟨s.heap, 0, rfl, by simp, Nat.zero_le _, by simpa [merged] using hd, hoo, Heap.SameBut.refl _ _⟩
    · rintro y left b t ⟨hp, j, rfl, hr, hj, hdj, hoj, hsb⟩
      have hlt : j < eso.size := by
        rcases Nat.lt_or_ge j eso.size with z | z
        · exact z
        · rw [List.drop_of_length_le (by rw [List.length_range]; exact z)] at hr
          cases hr
      have hd1 : (List.range eso.size).drop j = j :: (List.range eso.size).drop (j + 1) := by
        rw [List.drop_eq_getElem_cons (by rw [List.length_range]; exact hlt), List.getElem_range]
      rw [hd1] at hr
      obtain ⟨rfl, hleft⟩ : y = j ∧ left = (List.range eso.size).drop (j + 1) := by
        injection hr with z1 z2
        exact ⟨z1, z2⟩
      refine wpAny_bind (wpAny_dictEntries hoj hdo' ?_)
      rw [Array.getElem?_eq_getElem hlt]
      have hym : y < more.length := by rw [hlen]; exact hlt
      obtain ⟨isK, isV⟩ := hpo.get? (e := eso[y]) (by simp [hlt]) (List.getElem?_eq_getElem hym)
      obtain ⟨c, isC, isH⟩ := hko eso[y] (Array.getElem_mem hlt)
      have ec : c = more[y].1 := (mixKind prog w).inj _ _ _ isC isK
      show wpAny _ _ (holding [eso[y].key, eso[y].val] (dictPut d eso[y].hash eso[y].key eso[y].val) >>= _) _ _ _
      rw [isH, isV]
      have few : (merged kvs (more.take y)).length ≤ sizeLine := by
        have z1 := merged_length_le kvs (more.take y)
        have z2 : (more.take y).length ≤ more.length := by rw [List.length_take]; omega
        omega
      refine wpAny_bind (wpAny_holding (put_pairs isC hdj (fun hp2 hd2 hs2 => ?_) few))
      have ho2 : hp2.get? o = some oo := (hs2.2 o (Ne.symm hdo)).trans hoj
      refine wpAny_bind (wpAny_dictEpoch ho2 hdo' ?_)
      rw [if_neg (by simp)]
      refine wpAny_pure ⟨hp2, y + 1, rfl, hleft, hlt, ?_, ho2, hsb.trans hs2⟩
      rw [merged_take_succ kvs more y more[y] (List.getElem?_eq_getElem hym), ← ec]
      exact hd2
    · rintro b t ⟨hp, j, rfl, hr, hj, hdj, hoj, hsb⟩
      have hje : j = eso.size := by
        rcases Nat.lt_or_ge j eso.size with z | z
        · have e := congrArg List.length hr
          rw [List.length_drop, List.length_range] at e
          simp at e
          omega
        · exact Nat.le_antisymm hj z
      refine wpAny_pure (hQ hp ?_ hsb)
      rw [hje, ← hlen, List.take_length] at hdj
      exact hdj
  unfold mergeMapping
  refine wpAny_bind (wpAny_isInstance (T := "dict") (b := true) ho.typeIs dict_sub ?_)
  simp only [if_true]
  refine wpAny_bind (wpAny_specialOf (T := "dict") (v := .ref o) ho.typeIs PySem.F.slot_dict_iter.lookup (wpAny_bind (wpAny_pure ?_)))
  rw [show (some (Value.builtin "dict.__iter__") == some (Value.builtin "dict.__iter__")) = true from beq_self_eq_true _]
  dsimp only
  rw [if_neg (by rw [hoS]; exact Bool.false_ne_true)]
  refine wpAny_bind (wpAny_dictEntries hod hdd ?_)
  split
  · refine wpAny_bind (wpAny_dictEntries hoo hdo' ?_)
    refine wpAny_bind ?_
    rw [← Array.forIn_toList]
    refine wpAny_forIn_list _ (fun (left : List DictEntry) _ t => t = s ∧ ∀ e ∈ left, ∃ c : Key, keyIs c e.key = true) _ ?_ ?_ _ _ ⟨rfl, fun e he => ?_⟩
    · rintro e left b t ⟨rfl, all⟩
      obtain ⟨c, hc⟩ := all e List.mem_cons_self
      have more' : ∀ e ∈ left, ∃ c : Key, keyIs c e.key = true := fun e he => all e (List.mem_cons_of_mem _ he)
      rcases keyIs_shape hc with ⟨i, u, _, ek⟩ | ⟨z, u, _, ek⟩
      · rw [ek]
        exact wpAny_pure ⟨rfl, more'⟩
      · rw [ek]
        exact wpAny_pure ⟨rfl, more'⟩
    · rintro b t ⟨rfl, _⟩
      exact loop
    · obtain ⟨c, hc, _⟩ := hko e (by simpa using he)
      exact ⟨c, hc⟩
  · exact loop
end
end PySem

set_option Elab.async false
set_option linter.all false
set_option maxRecDepth 100000
set_option maxHeartbeats 4000000
namespace L2
open PySem PySem.Spec PyProof.Rows
/-- {**a, **b}: a new dict stands empty at p, the first one's pairs come into it, then the second one's -/
def tMerge2 (t1 t2 : TE) : TE := fun σ H Q => ∀ p, H p = none → t1 σ (upd H p (.dK [])) fun x H1 => ∃ a kvs, x = .ref a ∧ a ≠ p ∧ H1 p = some (.dK []) ∧ Rd H1 a (.dK kvs) ∧ kvs.length ≤ 1000 ∧
  t2 σ (upd H1 p (.dK (mergeK [] kvs))) fun y H2 => ∃ b acc more, y = .ref b ∧ b ≠ p ∧ H2 p = some (.dK acc) ∧ acc.length ≤ 1000 ∧ Rd H2 b (.dK more) ∧ more.length ≤ 1000 ∧ Q (.ref p) (upd H2 p (.dK (mergeK acc more)))
section
variable {X : Cx}
theorem merge_in {pins : List (Addr × Obj)} {σ : St} {H : Hp} {s : Shared} {p a : Addr} {acc kvs : List (Key × V)} {R : Unit → Shared → Prop} {E : Value → Shared → Prop} {A : Around} (I : Inv X pins σ H s) (ne : a ≠ p) (hp : H p = some (.dK acc)) (ha : Rd H a (.dK kvs))
    (l1 : acc.length ≤ 1000) (l2 : kvs.length ≤ 1000) (k : ∀ s', Inv X pins σ (upd H p (.dK (mergeK acc kvs))) s' → R () s') : wpAny (model X.prog X.w) A (mergeMapping p (.ref a) false) R E s := by
  obtain ⟨z, hd, vs, r, dd⟩ := dk_of I.hok hp
  obtain ⟨z2, hd2, ws, r2, dd2⟩ := dk_rd I.hok ha
  have e1 : vs.length = acc.length := (Paired.length r).symm
  have e2 : ws.length = kvs.length := (Paired.length r2).symm
  refine mergeMapping_mix (Ne.symm ne) hd2 dd dd2 (fun h' dd' sb => k _ ?_) (by rw [sizeLine_eq]; omega)
  have hz : (mergeK acc kvs).length ≤ sizeLine := by
    have h1 := length_mergeK kvs acc
    rw [sizeLine_eq]; omega
  have he : ∃ q, h'.get? p = some q := let ⟨q, _, _, hq, _⟩ := dd'; ⟨q, hq⟩
  exact d_write I (by rw [hp]; exact True.intro) sb he (dk_new hz hd (r2.merge r) dd')
theorem pe_merge2 {e1 e2 : Expr} {t1 t2 : TE} {pos : Pos} (h1 : PE X e1 t1) (h2 : PE X e2 t2) : PE X (.Dict [none, none] [e1, e2] pos) (tMerge2 t1 t2) := by
  refine ⟨fun pins s σ H Q I q => ?_⟩
  have hn := I.hok.fresh (Nat.le_refl s.heap.objs.size)
  have I1 := I.laid (a := s.heap.objs.size) (o := .dK []) (h' := s.heap.push { cls := .type "dict", data := .dict #[] }) (t' := s.toks) (fun _ _ q => Heap.get?_push_of_some _ q) (Nat.le_refl _) (dk_empty s.heap I.big)
  rw [arm_eval_Dict]
  refine wpAny_bind (wpAny_standAt ?_)
  show wpAny _ _ (dictDisplay [(none, do let x ← eval e1 X.env; standAt pos; pure x), (none, do let x ← eval e2 X.env; standAt pos; pure x)]) _ _ _
  unfold dictDisplay
  simp only [List.forIn_cons, List.forIn_nil, List.isEmpty_nil, if_true]
  refine wpAny_bind (wpAny_bind (wpAny_bind (wpAny_pure ?_)))
  dsimp only
  refine wpAny_bind (wpAny_alloc ?_)
  refine wpAny_bind (wpAny_holding (wpAny_bind (thn (h1.run pins _ σ _ _ I1 (q _ hn)) fun u s1 ⟨x, H1, I2, r1, a, kvs, ex, ne, e0, ra, l1, q1⟩ => ?_)))
  subst ex
  cases r1
  refine wpAny_bind (wpAny_standAt (wpAny_pure ?_))
  refine wpAny_bind (wpAny_onRaise (wpAny_tryCatch (wpAny_onRaise (wpAny_holding (merge_in I2 ne e0 ra (by simp) l1 fun s2 I3 => ?_)))))
  refine wpAny_pure ?_
  dsimp only
  simp only [List.isEmpty_nil, if_true]
  refine wpAny_bind (wpAny_bind (wpAny_pure ?_))
  dsimp only
  refine wpAny_bind (wpAny_pure ?_)
  refine wpAny_bind (wpAny_holding (wpAny_bind (thn (h2.run pins _ σ _ _ I3 q1) fun u s3 ⟨y, H2, I4, r2, b, acc, more, ey, ne2, e1', l2, rb, l3, q2⟩ => ?_)))
  subst ey
  cases r2
  refine wpAny_bind (wpAny_standAt (wpAny_pure ?_))
  refine wpAny_bind (wpAny_onRaise (wpAny_tryCatch (wpAny_onRaise (wpAny_holding (merge_in I4 ne2 e1' rb l2 l3 fun s4 I5 => ?_)))))
  refine wpAny_pure ?_
  dsimp only
  refine wpAny_pure ?_
  simp only [List.isEmpty_nil, if_true]
  refine wpAny_bind (wpAny_pure ?_)
  dsimp only
  exact wpAny_pure ⟨.ref _, _, I5, rfl, q2⟩
end
end L2

set_option Elab.async false
set_option linter.all false
set_option maxRecDepth 100000
set_option maxHeartbeats 4000000
namespace L2
open PySem PySem.Spec PyProof.Rows
/-- a def of the text, by its name, without defaults -/
structure Df (P : Program) (w : World) (K : PySem.W.Frag) (mg : Str → Option Value) (base : Heap) (k : Nat) (x : Str) (sp : Sp) : Prop where
  ex : ∃ (f : Addr) (fd : FuncData) (ps : List Str), FnOk P w K mg base CX0 k f fd ps sp ∧ mg x = some (.ref f) ∧ PySem.W.keepIn K (.ref f) = true ∧ Binds K fd ps []
/-- a method of the text's own, by its address -/
structure Mf (P : Program) (w : World) (K : PySem.W.Frag) (mg : Str → Option Value) (base : Heap) (k : Nat) (C : Addr) (m : Str) (sp : Sp) : Prop where
  ex : ∃ (f : Addr) (fd : FuncData) (ps : List Str), FnOk P w K mg base CX0 k f fd ps sp ∧ Meth K C m f ∧ Own K C m f ∧ PySem.W.fnIn K f = true ∧ Binds K fd ps []
section
variable {X : Cx} {k j : Nat} {C : Addr} {x m : Str} {sp : Sp} {p pos apos : Pos} {e o : Expr} {es : List Expr} {ta tb : TE} {t : TA}
theorem pe_c (c : Df X.prog X.w X.K X.mg X.base k x sp) (hr : Room j X.A) (hk : k ≤ j) (hg : Gl X x) (ha : PA X (e :: es) t)
    (hdb : (x == ("__debug__" : Str)) = false := by decide) (he : starEach (e :: es) X.env = (false, eval e X.env) :: starEach es X.env := by rfl) (hpl : (backTo pos (starEach es X.env)).any (·.1) = false := by rfl) :
    PE X (.Call (.Name x p) (e :: es) [] pos) (tCall sp [] E0 t) := by
  obtain ⟨f, fd, ps, F, hm, kp, b⟩ := c.ex
  exact pe_call F (hr.mono hk) hg hm kp b .nil pass0 ha hdb he hpl
theorem op_inO (c : Mf X.prog X.w X.K X.mg X.base k C "__contains__" sp) (hr : Room j X.A) (hk : k ≤ j) :
    OpR X (compareOp .In) (fun x y H Q => ∃ a dx fs, y = .ref a ∧ H a = some (.ins C dx fs) ∧ sp [.ref a, x] H (fun v H' => ∃ b, v = .bl b ∧ Q (.bl b) H') E0) := by
  obtain ⟨f, fd, ps, F, _, o, _, b⟩ := c.ex
  exact op_inOwn F b pass0 o (hr.mono hk)
theorem op_notInO (c : Mf X.prog X.w X.K X.mg X.base k C "__contains__" sp) (hr : Room j X.A) (hk : k ≤ j) :
    OpR X (compareOp .NotIn) (fun x y H Q => ∃ a dx fs, y = .ref a ∧ H a = some (.ins C dx fs) ∧ sp [.ref a, x] H (fun v H' => ∃ b, v = .bl b ∧ Q (.bl (!b)) H') E0) := by
  obtain ⟨f, fd, ps, F, _, o, _, b⟩ := c.ex
  exact op_notInOwn F b pass0 o (hr.mono hk)
theorem call_lenO (c : Mf X.prog X.w X.K X.mg X.base k C "__len__" sp) (hr : Room j X.A) (hk : k + 1 ≤ j) :
    CallR X (.builtin "len") (fun xs H Q => ∃ a dx fs, xs = [.ref a] ∧ H a = some (.ins C dx fs) ∧ sp [.ref a] H (fun v H' => ∃ k : Nat, v = .int k ∧ k ≤ sizeLine ∧ Q (.int k) H') E0) := by
  obtain ⟨f, fd, ps, F, _, o, _, b⟩ := c.ex
  exact call_lenOwn F b pass0 o (hr.mono hk)
theorem call_strO (c : Mf X.prog X.w X.K X.mg X.base k C "__str__" sp) (hr : Room j X.A) (hk : k + 2 ≤ j) :
    CallR X (.type "str") (fun xs H Q => ∃ a dx fs, xs = [.ref a] ∧ H a = some (.ins C dx fs) ∧ sp [.ref a] H (fun v H' => ∃ z, v = .str z ∧ Q (.str z) H') E0) := by
  obtain ⟨f, fd, ps, F, _, o, _, b⟩ := c.ex
  exact call_strOwn F b pass0 o (hr.mono hk)
theorem pe_ixO {a b : Expr} (c : Mf X.prog X.w X.K X.mg X.base k C "__getitem__" sp) (hr : Room j X.A) (hk : k + 1 ≤ j) (hA : PE X a ta) (hB : PE X b tb)
    (hsl : ∀ v u, subscripted b true v u = runValue (.builtin "lifetime.subscript" ⟨[v, u], []⟩) := by intro _ _; rfl) :
    PE X (.Subscript a b pos) (tOp (fun x y H Q => ∃ a dx fs, x = .ref a ∧ H a = some (.ins C dx fs) ∧ sp [.ref a, y] H Q E0) ta tb) := by
  obtain ⟨f, fd, ps, F, _, o, fi, b⟩ := c.ex
  exact pe_ixOwn F b pass0 o fi (hr.mono hk) hA hB hsl
theorem op_eqO (c : Mf X.prog X.w X.K X.mg X.base k C "__eq__" sp) (hr : Room j X.A) (hk : k ≤ j) : OpR X (compareOp .Eq) (rEqOwn X.K C sp E0 id) := by
  obtain ⟨f, fd, ps, F, _, o, _, b⟩ := c.ex
  exact op_eqOwn F b pass0 o (hr.mono hk)
theorem op_neO (c : Mf X.prog X.w X.K X.mg X.base k C "__eq__" sp) (hne : PySem.W.findIn X.K (.ref C) "__ne__" = some (some (.builtin "object.__ne__"))) (hm : PySem.W.mroIn X.K C (.type "object") = some true) (hr : Room j X.A) (hk : k + 1 ≤ j) :
    OpR X (compareOp .NotEq) (rEqOwn X.K C sp E0 not) := by
  obtain ⟨f, fd, ps, F, _, o, _, b⟩ := c.ex
  exact op_neOwn F b pass0 o hne hm (hr.mono hk)
end
end L2

set_option Elab.async false
set_option linter.all false
set_option maxRecDepth 100000
set_option maxHeartbeats 4000000
/-! The rules whose readings name X.K, with K said: for what stands in a comprehension's block. -/
namespace L2
open PySem PySem.Spec PyProof.Rows
section
variable {X : Cx} {K : PySem.W.Frag} {o e a b : Expr} {es : List Expr} {to ta tb : TE} {t : TA} {name f : Str} {apos cpos pos : Pos} {T id : String} {r : V → List V → Hp → VK → Prop}
theorem pe_bm0K (hK : X.K = K) (pa : PlainAttrs T) (slot : Slot T name id) (hty : typeOf (.builtin id) = pure (.type "method_descriptor")) (hm : MtR X id r) (ho : PE X o to) (hbase : attributeBase o name X.env (eval o X.env) = eval o X.env := by rfl) (hline : (apos.endLine == cpos.line) = true := by rfl) : PE X (.Call (.Attribute o name apos) [] [] cpos) (tBM0 K T r to) := by
  subst hK
  exact pe_bm0 pa slot hty hm ho hbase hline
theorem pe_bmK (hK : X.K = K) (pa : PlainAttrs T) (slot : Slot T name id) (hty : typeOf (.builtin id) = pure (.type "method_descriptor")) (hm : MtR X id r) (ho : PE X o to) (ha : PA X (e :: es) t) (hbase : attributeBase o name X.env (eval o X.env) = eval o X.env := by rfl) (hfew : ((backTo cpos (starEach (e :: es) X.env)).all (fun x => !x.1) && (backToKw cpos (keywordEach [] X.env)).all (fun x => x.1.isSome) && decide ((e :: es).length + ([] : List Keyword).length + (if ([] : List Keyword).isEmpty then 0 else 1) < 30)) = true := by rfl) (hline : (apos.endLine == cpos.line) = true := by rfl) (hs : starEach (e :: es) X.env = (false, eval e X.env) :: starEach es X.env := by rfl) (hplain : (backTo cpos (starEach es X.env)).any (·.1) = false := by rfl) :
    PE X (.Call (.Attribute o name apos) (e :: es) [] cpos) (tBM K T r to t) := by
  subst hK
  exact pe_bm pa slot hty hm ho ha hbase hfew hline hs hplain
theorem pe_fldK (hK : X.K = K) (he : PE X e ta) (hb : attributeBase e f X.env (eval e X.env) = eval e X.env) : PE X (.Attribute e f pos) (tFld K ta f) := by
  subst hK
  exact pe_fld he hb
def rLenSeq (K : PySem.W.Frag) : List V → Hp → VK → Prop := fun xs H Q => ∃ p ys, xs = [.ref p] ∧ (SqL K H p ys ∨ SqT K H p ys) ∧ Q (.int ys.length) H
theorem call_len_seqK (hK : X.K = K) : CallR X (.builtin "len") (rLenSeq K) := by
  subst hK
  exact call_len_seq
theorem ix_listK (hK : X.K = K) : IxR X (rIxL K) := by
  subst hK
  exact ix_list
theorem ix_tupK (hK : X.K = K) : IxR X (rIxT K) := by
  subst hK
  exact ix_tup
theorem sl_listK (hK : X.K = K) : SlR X (rSlL K) := by
  subst hK
  exact sl_list
theorem op_neDK (hK : X.K = K) (hu : X.A.units + 64 < cLine) : OpR X (compareOp .NotEq) (rNeD K) := by
  subst hK
  exact op_neD hu
theorem op_eqDK (hK : X.K = K) (hu : X.A.units + 64 < cLine) : OpR X (compareOp .Eq) (rEqD K) := by
  subst hK
  exact op_eqD hu
def rListOf (K : PySem.W.Frag) : List V → Hp → VK → Prop := fun xs H Q => ∃ p ys, xs = [.ref p] ∧ (SqL K H p ys ∨ SqT K H p ys) ∧ ∀ l, H l = none → Q (.ref l) (upd H l (.lst ys))
theorem call_list_ofK (hK : X.K = K) : CallR X (.type "list") (rListOf K) := by
  subst hK
  exact call_list_of
def rJoin (K : PySem.W.Frag) : V → List V → Hp → VK → Prop := fun x xs H Q => ∃ a p, ∃ ys : List Str, x = .str a ∧ xs = [.ref p] ∧ (SqL K H p (ys.map V.str) ∨ SqT K H p (ys.map V.str)) ∧ (ys.map (·.length)).sum + ys.length * a.length ≤ 16777216 ∧ Q (.str (Txt.join a ys)) H
theorem pe_joinK (hK : X.K = K) (ho : PE X o to) (he : PE X e ta) (hs : starEach [e] X.env = [(false, eval e X.env)] := by rfl) (hbase : attributeBase o "join" X.env (eval o X.env) = eval o X.env := by rfl) (hline : (apos.endLine == pos.line) = true := by rfl) : PE X (.Call (.Attribute o "join" apos) [e] [] pos) (tM1 (rJoin K) to ta) := by
  subst hK
  exact pe_join ho he hs hbase hline
theorem call_strS : CallR X (.type "str") (fun xs H Q => ∃ a, xs = [.str a] ∧ Q (.str a) H) := SkE.call_str_str
def rTupleOf (K : PySem.W.Frag) : List V → Hp → VK → Prop := fun xs H Q => ∃ p ys, xs = [.ref p] ∧ ((SqL K H p ys ∧ ∀ l, H l = none → Q (.ref l) (upd H l (.tup ys))) ∨ (SqT K H p ys ∧ Q (.ref p) H))
theorem call_tuple_ofK (hK : X.K = K) : CallR X (.type "tuple") (rTupleOf K) := by
  subst hK
  exact call_tuple_of
end
end L2

set_option Elab.async false
set_option linter.all false
set_option maxRecDepth 100000
set_option maxHeartbeats 4000000
namespace L2
open PySem PySem.Spec PyProof.Rows
/-- a name of the module holds a value -/
def GV (mg : Str → Option Value) (x : Str) (v : V) : Prop := ∃ u, mg x = some u ∧ RelV v u
theorem pe_gv {X : Cx} {x : Str} {v : V} {pos : Pos} (h : GV X.mg x v) (hg : Gl X x) (hd : (x == ("__debug__" : Str)) = false := by decide) : PE X (.Name x pos) (tC v) := by
  obtain ⟨u, h1, h2⟩ := h
  exact pe_glob hg h1 h2 hd
theorem pj_nil {X : Cx} : PJ X [] [] := .nil
theorem pj_cons {X : Cx} {e : Expr} {t : TE} {es : List Expr} {ts : List TE} (h : PE X e t) (r : PJ X es ts) : PJ X (e :: es) (t :: ts) := .cons h r
/-- a dict comprehension over what a Walk tells -/
theorem dc_it {J : It} {m : Nat} {G : Hp → Prop} {Y : Nat → Hp → V → Hp → Prop} (w : Walk J m G Y) {g : TG} {tt : TT} {tk tv : TE} {own : List Nat} {σ : St} {H1 : Hp} {D : Addr} {Qd : Hp → Prop} (Pv : Nat → Hp → Prop) (start : Pv 0 (upd H1 D (.dK []))) (keeps : ∀ i H, i ≤ m → Pv i H → G H)
    (turn : ∀ i x H H', i < m → Pv i H → Y i H x H' → g x (wipe σ own) H' fun σ2 H2 => wipe σ2 own = wipe σ own ∧ tt σ2 H2 fun b H3 =>
      if b = true then tk σ2 H3 fun y H4 => tv σ2 H4 fun z H5 => ∃ kvs k, y = kV k ∧ H5 D = some (.dK kvs) ∧ kvs.length < sizeLine ∧ Pv (i + 1) (upd H5 D (.dK (putK kvs k z))) else Pv (i + 1) H3) (done : ∀ H, Pv m H → Qd H) :
    ∃ W : Nat → Nat → Hp → Prop, (∃ j, W 0 j (upd H1 D (.dK []))) ∧ ∀ i j H, W i j H →
      (J.stop i H ∧ Qd H) ∨ (J.go i H ∧ ∃ Nx : Hp → Prop, (∀ H', Nx H' → ∃ j', j' < j ∧ W (i + 1) j' H') ∧ ∀ x H', J.yld i H x H' → g x (wipe σ own) H' fun σ2 H2 => wipe σ2 own = wipe σ own ∧ tt σ2 H2 fun b H3 =>
        if b = true then tk σ2 H3 fun y H4 => tv σ2 H4 fun z H5 => ∃ kvs k, y = kV k ∧ H5 D = some (.dK kvs) ∧ kvs.length < sizeLine ∧ Nx (upd H5 D (.dK (putK kvs k z))) else Nx H3) := by
  refine ⟨fun i j H => j = m - i ∧ i ≤ m ∧ Pv i H, ⟨m, by simp, Nat.zero_le _, start⟩, ?_⟩
  rintro i j H ⟨rfl, hi, pv⟩
  have kp := keeps i H hi pv
  rcases Nat.lt_or_ge i m with less | more
  · exact .inr ⟨w.goes i H less kp, Pv (i + 1), fun H' p' => ⟨m - (i + 1), by omega, rfl, less, p'⟩, fun x H' y => turn i x H H' less pv (w.yields i H x H' less kp y)⟩
  · obtain rfl : i = m := Nat.le_antisymm hi more
    exact .inl ⟨w.stops H kp, done H pv⟩
section
variable {X : Cx}
/-- y = {k: v for ..}: the name is stored within the comprehension's frame -/
theorem ps_setDc {j : Nat} {y : Str} {yp : Pos} {kx vx tg iter : Expr} {ifs : List Expr} {scope : Scope} {own : List (Str × Nat)} {cp sp : Pos} {wi : TI} {g : TG} {tt : TT} {tk tv : TE} (calm : X.calm = true) (nodup : X.N.Nodup) (atJ : X.N[j]? = some y) (isLoc : X.env.scope.names.lookup y = some .local)
    (swaps : swapsWith (.DictComp kx vx [⟨tg, iter, ifs, 0⟩] scope cp) (some (.Name y yp)) sp.line X.env = pure true) (walks : PI X tg iter wi) (blk : BlkOk X.N X.env.scope scope own)
    (target : ∀ (s : Shared) (H : Hp) (C : Addr) (cl : List (Str × Addr)) (fp : List Addr), PG (X.blk s H scope (compEnvC scope cl C X.env) fp) tg g) (tests : ∀ (s : Shared) (H : Hp) (C : Addr) (cl : List (Str × Addr)) (fp : List Addr), PTs (X.blk s H scope (compEnvC scope cl C X.env) fp) ifs tt)
    (keys : ∀ (s : Shared) (H : Hp) (C : Addr) (cl : List (Str × Addr)) (fp : List Addr), PE (X.blk s H scope (compEnvC scope cl C X.env) fp) kx tk)
    (vals : ∀ (s : Shared) (H : Hp) (C : Addr) (cl : List (Str × Addr)) (fp : List Addr), PE (X.blk s H scope (compEnvC scope cl C X.env) fp) vx tv) (plain : ∀ x, foldedSetIterable iter X.env x = pure x := by intro _; rfl) :
    PS X (.Assign [.Name y yp] (.DictComp kx vx [⟨tg, iter, ifs, 0⟩] scope cp) sp) (tAsg (tDc wi g tt tk tv (own.map (·.2))) (gName j)) := by
  refine ⟨fun pins s σ H D I want => ?_⟩
  rw [exec_Assign_Name_used _ _ _ _ swaps]
  refine wpAny_bind (wpAny_standAt (wpAny_bind ?_))
  show wpAny _ X.A (do let _ ← comprehension (.DictComp kx vx [⟨tg, iter, ifs, 0⟩] scope cp) scope X.env (firstIterPos [⟨tg, iter, ifs, 0⟩] cp) newDict false (eval iter X.env) (some (assign (.Name y yp) X.env))) _ _ s
  have want' : tDc wi g tt tk tv (own.map (·.2)) σ H (fun x H1 => gName j x σ H1 D.nx) := want
  refine wpAny_bind (thn (dc_core (Qf := fun _ s' => SP X pins D .next s') calm nodup I walks blk target tests keys vals plain want' fun made frame s' m H' J q hn young => ?_) fun _ s' z => wpAny_pure (wpAny_pure z))
  show wpAny _ _ (assign (.Name y yp) X.env (.ref made)) _ _ _
  refine wpAny_assign_Name (store_ok2 (v := V.ref made) J nodup atJ (.inl isLoc) rfl (fun s2 J2 ⟨a, but, isA⟩ => ?_) (.inr isLoc))
  obtain ⟨y0, y1, y2, y3, y4, y5⟩ := young
  have apart : frame ≠ a := by
    rcases isA with z | z
    · rw [z]
      exact y1
    · intro e
      exact y4 y a z e.symm
  refine ⟨m, hn.sameBut but apart, fun h3 but3 => ?_⟩
  exact ⟨_, H', J2.turned (t' := s2.toks) (fun b o hb e => (but3.2 b hb).trans e) y0 y1 y3 y4 y5, q⟩
theorem sw_trueD {kx vx : Expr} {gs : List Comprehension} {scope : Scope} {pos py : Pos} {y : Str} {l : Nat} {env : Env} (isFun : env.scope.kind = .function) (isLoc : env.scope.names.lookup y = some .local) (line : (py.line == pos.line) = true)
    (apart : (scope.names.any fun (n, k) => n == y && (k == .local || k == .cell)) = false) : swapsWith (.DictComp kx vx gs scope pos) (some (.Name y py)) l env = pure true := by
  have k1 : env.kindOf y = some .local := isLoc
  have k2 : env.blockKind = .function := by
    unfold Env.blockKind
    rw [isFun]
    rfl
  unfold swapsWith
  simp only [k2, k1, apart, Expr.pos, line]
  rfl
end
/-- not x, by truth, K said -/
theorem pe_notTK {X : Cx} {K : PySem.W.Frag} {a : Expr} {ta : TE} {pos : Pos} (hK : X.K = K) (ha : PE X a ta) : PE X (.UnaryOp .Not a pos) (tNotT K ta) := by
  subst hK
  exact pe_notT ha
end L2

set_option Elab.async false
set_option linter.all false
set_option maxRecDepth 100000
set_option maxHeartbeats 4000000
/-! Dicts of texts compared both ways; a staticmethod called by the class's name. -/
namespace L2
open PySem PySem.Spec PyProof.Rows
def Strs (ks : List (Key × V)) : Prop := ∀ p ∈ ks, ∃ z, p.2 = .str z
def sameD (ks ls : List (Key × V)) : Bool := ks.length == ls.length && ks.all fun p => decide (valV ls p.1 = some p.2)
theorem valV_mem {ls : List (Key × V)} {k : Key} {y : V} (h : valV ls k = some y) : ∃ p ∈ ls, p.2 = y := by
  unfold valV at h
  cases e : ls.find? (fun kv => decide (kv.1 = k)) with
  | none =>
    rw [e] at h
    cases h
  | some q =>
    rw [e] at h
    exact ⟨q, List.mem_of_find?_eq_some e, Option.some.inj h⟩
theorem eqAt_strs {A : Around} {s : Shared} {x y : Str} {u u' : Value} (r : RelV (.str x) u) (r' : RelV (.str y) u') : SeqAt.EqAt A s u u' (decide (x = y)) := by
  obtain ⟨t, rfl⟩ := (show ∃ t, u = Value.str x t from r)
  obtain ⟨t', rfl⟩ := (show ∃ t, u' = Value.str y t from r')
  have q := SeqAt.EqAt.str_str (A := A) (s := s) x t y t'
  have e : (x == y) = decide (x = y) := by
    rw [Bool.eq_iff_iff]
    simp
  rw [e] at q
  exact q
theorem hits_str {A : Around} {s : Shared} {ls : List (Key × V)} {vb : List (Key × Value)} (rb : KV ls vb) (sl : Strs ls) {ks : List (Key × V)} {va : List (Key × Value)} (ra : KV ks va) :
    Strs ks → PySem.W.KeqHits A s vb va (ks.all fun p => decide (valV ls p.1 = some p.2)) := by
  unfold KV at ra
  induction ra with
  | nil => intro _; exact .nil
  | @cons p q ps qs h t ih =>
    intro hp
    obtain ⟨h1, h2⟩ := h
    obtain ⟨z, ez⟩ := hp p List.mem_cons_self
    have rr : RelO (valV ls p.1) (valueAt vb p.1) := rb.val p.1
    obtain ⟨k, v⟩ := q
    have h1' : p.1 = k := h1
    rw [h1'] at rr
    rw [List.all_cons, h1']
    cases e : valV ls k with
    | none =>
      rw [e] at rr
      have hn : valueAt vb k = none := RelO.none_of rr
      have ef : decide ((none : Option V) = some p.2) = false := rfl
      rw [ef, Bool.false_and]
      exact .miss hn
    | some y =>
      rw [e] at rr
      obtain ⟨y', hy, ry⟩ := rr.some_of
      obtain ⟨q2, hm, e2⟩ := valV_mem e
      obtain ⟨z2, ez2⟩ := sl q2 hm
      have ey : y = .str z2 := e2.symm.trans ez2
      subst ey
      rw [ez] at h2
      have hh := eqAt_strs (A := A) (s := s) h2 ry
      have ed : decide (some (V.str z2) = some p.2) = decide (z = z2) := by
        rw [ez]
        by_cases c : z = z2
        · rw [c]
          simp
        · rw [decide_eq_false c, decide_eq_false]
          intro w
          exact c (V.str.inj (Option.some.inj w)).symm
      rw [ed]
      exact .hit hy hh (ih fun p' hm => hp p' (List.mem_cons_of_mem _ hm))
section
variable {X : Cx}
def rEqDT (g : Bool → Bool) : R2 := fun x y H Q => ∃ a b ks ls, x = .ref a ∧ y = .ref b ∧ Rd H a (.dK ks) ∧ Rd H b (.dK ls) ∧ Strs ks ∧ Strs ls ∧ Q (.bl (g (sameD ks ls))) H
theorem op_eqDT (hu : X.A.units + 1 < cLine) : OpR X (compareOp .Eq) (rEqDT id) := by
  intro pins s σ H x y v u Q I rx ry h
  obtain ⟨a, b, ks, ls, rfl, rfl, ea, eb, sk, sl, q⟩ := h
  obtain rfl : v = Value.ref a := rx
  obtain rfl : u = Value.ref b := ry
  obtain ⟨_, ya, va, ra, da⟩ := dk_rd I.hok ea
  obtain ⟨_, yb, vb, rb, db⟩ := dk_rd I.hok eb
  have h1 : va.length = ks.length := (Paired.length ra).symm
  have h2 : vb.length = ls.length := (Paired.length rb).symm
  exact PySem.W.keq_eq (knd := mixKind X.prog X.w) ya yb da db (Nat.lt_of_succ_lt hu) (fun _ => hits_str rb sl ra sk) (fin_bl I q (by rw [h1, h2]; rfl))
theorem op_neDT (hu : X.A.units + 1 < cLine) : OpR X (compareOp .NotEq) (rEqDT not) := by
  intro pins s σ H x y v u Q I rx ry h
  obtain ⟨a, b, ks, ls, rfl, rfl, ea, eb, sk, sl, q⟩ := h
  obtain rfl : v = Value.ref a := rx
  obtain rfl : u = Value.ref b := ry
  obtain ⟨_, ya, va, ra, da⟩ := dk_rd I.hok ea
  obtain ⟨_, yb, vb, rb, db⟩ := dk_rd I.hok eb
  have h1 : va.length = ks.length := (Paired.length ra).symm
  have h2 : vb.length = ls.length := (Paired.length rb).symm
  exact PySem.W.keq_ne (knd := mixKind X.prog X.w) ya yb da db (Nat.lt_of_succ_lt hu) (fun _ => hits_str rb sl ra sk) (fin_bl I q (by rw [h1, h2]; rfl))
end
/-- C.m is a staticmethod: its record at p, its def at g -/
structure SMet (K : PySem.W.Frag) (C : Addr) (mc : Value) (m : Str) (p g : Addr) : Prop where
  at_ : PySem.W.findCls K (.ref C) mc m = some (.get (.builtin "staticmethod.__get__") (.ref p) .none (.ref C))
  rc : ∃ rest, PySem.W.recIn K p "staticmethod" = some (.ref g :: rest)
  kp : PySem.W.keepIn K (.ref g) = true
section
variable {X : Cx} {CX : CXT} {k : Nat} {C p g : Addr} {mc : Value} {sp : Sp} {E : XK} {o e : Expr} {es : List Expr} {m : Str} {pos apos : Pos} {ta : TE} {t : TA} {pl : Sem Bool} {fd : FuncData} {ps : List Str}
theorem getmethsm_ok {pins : List (Addr × Obj)} {σ : L2.St} {H : Hp} {s : Shared} {A : Around} {E : Value → Shared → Prop} {Q : Value × List Value → Shared → Prop} (I : Inv X pins σ H s) (r : ClX.CRead X.K C mc) (k : SMet X.K C mc m p g)
    (h : ∀ s', Inv X pins σ H s' → Q (.ref g, []) s') : wpAny (model X.prog X.w) A (getMethod (.ref C) m pl) Q E s := by
  obtain ⟨rest, hp⟩ := k.rc
  refine PySem.W.method_cls I.kIn r.ga ?_
  refine PySem.W.cls_bind I.kIn r.rd k.at_ ?_
  refine wpAny_call (PySem.W.sm_get (s := { s with toks := s.toks + 1 }) I.kIn hp (PySem.W.handed_on rfl ?_))
  exact h _ (I.tok _)
/-- e.m(..), e the class at C, m a staticmethod -/
def tSMeth (C : Addr) (sp : Sp) (E : XK) (ta : TE) (t : TA) : TE := fun σ H Q => ta σ H fun x H1 => x = .ref C ∧ t σ H1 fun vs H2 => sp vs H2 Q E
theorem pe_smeth (he : PE X o ta) (r : ClX.CRead X.K C mc) (c : SMet X.K C mc m p g) (F : FnOk X.prog X.w X.K X.mg X.base CX k g fd ps sp) (hr : Room k X.A) (hb : Binds X.K fd ps []) (hx : Passes CX X E) (ha : PA X (e :: es) t)
    (hst : starEach (e :: es) X.env = (false, eval e X.env) :: starEach es X.env := by rfl) (hpl : (backTo pos (starEach es X.env)).any (·.1) = false := by rfl)
    (ht : eval (.Call (.Attribute o m apos) (e :: es) [] pos) X.env = (do
      let ov ← eval o X.env
      standAt apos.atName
      let (f, first) ← holding [ov] (getMethod ov m pl)
      callWith pos f first (backTo pos (starEach (e :: es) X.env)) (backToKw pos (keywordEach [] X.env))) := by rfl) :
    PE X (.Call (.Attribute o m apos) (e :: es) [] pos) (tSMeth C sp E ta t) := by
  refine ⟨fun pins s σ H Q I h => ?_⟩
  refine PySem.W.methodCall_KW (pl := pl) (thn (he.run pins s σ H _ I h) fun u s1 ⟨x, H1, I1, rx, ex, q⟩ => ?_) ht
  subst ex
  obtain rfl : u = Value.ref C := rx
  refine getmethsm_ok I1 r c fun s2 I2 => ?_
  refine PySem.W.callWith_K (h₀ := X.base) I.ok.mod.kin c.kp (thn (ha.run pos pins s2 σ H1 _ I2 q) fun us s3 ⟨vs, H2, I3, rv, q2⟩ => ⟨I3.kIn, ?_⟩) hst hpl
  exact run_fn (us := us) (dvs := []) (ds := []) F hr hb .nil hx I3 rv (by rw [List.append_nil]; exact q2)
/-- e.m(k = v, ..) -/
def tSMethK (C : Addr) (sp : Sp) (gV : List V → List V → List V) (E : XK) (ta : TE) (tk : TA) : TE := fun σ H Q => ta σ H fun x H1 => x = .ref C ∧ tk σ H1 fun zs H2 => sp (gV [] zs) H2 Q E
theorem pe_smethK0 {kws : List Keyword} {tk : TA} {ks : List Str} {gg : List Value → List Value → List Value} {gV : List V → List V → List V} (he : PE X o ta) (r : ClX.CRead X.K C mc) (c : SMet X.K C mc m p g) (F : FnOk X.prog X.w X.K X.mg X.base CX k g fd ps sp) (hr : Room k X.A) (hb : KBinds X.K fd ps ks gg gV) (hx : Passes CX X E) (hkw : PK X kws tk)
    (hall : (backToKw pos (keywordEach kws X.env)).all (·.1.isSome) = true := by rfl) (hks : (backToKw pos (keywordEach kws X.env)).filterMap (·.1) = ks := by rfl)
    (hpl : ((backTo pos (starEach [] X.env)).any (·.1) || (backToKw pos (keywordEach kws X.env)).any (·.1.isNone)) = false := by rfl)
    (ht : eval (.Call (.Attribute o m apos) [] kws pos) X.env = (do
      let ov ← eval o X.env
      standAt apos.atName
      let (f, first) ← holding [ov] (getMethod ov m pl)
      callWith pos f first (backTo pos (starEach [] X.env)) (backToKw pos (keywordEach kws X.env))) := by rfl) :
    PE X (.Call (.Attribute o m apos) [] kws pos) (tSMethK C sp gV E ta tk) := by
  refine ⟨fun pins s σ H Q I h => ?_⟩
  refine PySem.W.methodCall_KW (pl := pl) (thn (he.run pins s σ H _ I h) fun u s1 ⟨x, H1, I1, rx, ex, q⟩ => ?_) ht
  subst ex
  obtain rfl : u = Value.ref C := rx
  refine getmethsm_ok I1 r c fun s2 I2 => ?_
  refine PySem.W.callWith_KW0 (h₀ := X.base) I.ok.mod.kin c.kp hall (thn (hkw.run pos pins s2 σ H1 _ I2 q) fun ws s3 ⟨zs, H2, I3, rz, q2⟩ => ⟨I3.kIn, ?_⟩) hpl
  rw [hks]
  exact run_fnk (us := []) (vs := []) F hr hb hx I3 .nil rz q2
end
/-- f'..' of two parts or more, by a name -/
def tJo (ts : List TE) : TE := fun σ H Q => tJs ts Str.empty σ H fun out H1 => Q (.str out) H1
theorem pe_joinedT {X : Cx} {v1 v2 : Expr} {rest : List Expr} {ts : List TE} {pos : Pos} (h : PJ X (v1 :: v2 :: rest) ts) : PE X (.JoinedStr (v1 :: v2 :: rest) pos) (tJo ts) := pe_joined h
end L2

set_option Elab.async false
set_option linter.all false
set_option maxRecDepth 100000
set_option maxHeartbeats 4000000
/-! An own error's `__init__` that calls the base error's by the base's name, where the base has none of its own. -/
namespace L2
open PySem PySem.Spec PyProof.Rows
section
variable {X : Cx} {e : Expr} {es : List Expr} {ta : TA} {x : Str} {CR : Addr} {mc : Value} {p1 p2 pos : Pos} {pl : Sem Bool}
theorem pe_baseinit (hg : Gl X x) (hm : X.mg x = some (.ref CR)) (r : ClX.CRead X.K CR mc) (vV : PySem.W.findCls X.K (.ref CR) mc "__init__" = some (.val (.builtin "ValueError.__init__"))) (ha : PA X (e :: es) ta)
    (hdb : (x == ("__debug__" : Str)) = false := by decide)
    (hc : eval (.Call (.Attribute (.Name x p1) "__init__" p2) (e :: es) [] pos) X.env = (do
      let ov ← eval (.Name x p1) X.env
      standAt p2.atName
      let (f, first) ← holding [ov] (getMethod ov "__init__" pl)
      callWith pos f first (backTo pos (starEach (e :: es) X.env)) (backToKw pos (keywordEach [] X.env))) := by rfl)
    (he : starEach (e :: es) X.env = (false, eval e X.env) :: starEach es X.env := by rfl) (hpl : (backTo pos (starEach es X.env)).any (·.1) = false := by rfl) :
    PE X (.Call (.Attribute (.Name x p1) "__init__" p2) (e :: es) [] pos) (tVeI X.K ta) := by
  refine ⟨fun pins s σ H Q I h => ?_⟩
  refine PySem.W.methodCall_KW (pl := pl) (ld_glob I hg hm ?_ hdb) hc
  refine PySem.W.method_cls I.kIn r.ga ?_
  refine PySem.W.cls_value I.kIn r.rd vV (by decide +kernel) ?_
  show wpAny _ _ (callWith pos (Value.builtin "ValueError.__init__") [] (backTo pos (starEach (e :: es) X.env)) []) _ _ _
  refine PyProof.Rows.callWith_method1 (thn (ha.run pos pins _ σ H _ (I.tok _) h) fun us s1 ⟨vs, H1, I1, r1, a, C, ws, ev, hl, T, ea, q⟩ => ?_) he hpl
  subst ev
  cases r1 with
  | @cons _ u0 _ ur ra rw' =>
    obtain rfl : u0 = Value.ref a := ra
    have hlen : ur.length ≤ sizeLine := by
      rw [← Paired.length rw', sizeLine_eq]
      omega
    exact oinit_ok T I1 ea hlen fun s' J => ⟨.non, H1, J, rfl, q⟩
end
end L2

set_option Elab.async false
set_option linter.all false
set_option maxRecDepth 100000
set_option maxHeartbeats 4000000
/-! a | b, a >> b .. by an own method, both of the same class; a <= b by an own one (its answer a bool). -/
namespace L2
open PySem PySem.Spec PyProof.Rows
section
variable {X : Cx} {n : Nat} {CX : CXT} {C f : Addr} {fd : FuncData} {ps : List Str} {sp : Sp} {E : XK}
theorem notNI {v : V} {u : Value} (r : RelV v u) {Q : Value → Shared → Prop} {s : Shared} (q : Q u s) : PySem.W.CmpBack Q u s := by
  cases v <;> first
    | (obtain ⟨t, rfl⟩ := r; exact q)
    | (cases r; exact q)
def rBinOwn (K : PySem.W.Frag) (C : Addr) (sp : Sp) (E : XK) : R2 := fun x y H Q => ∃ a dx fs b dy gs, x = .ref a ∧ H a = some (.ins C dx fs) ∧ y = .ref b ∧ H b = some (.ins C dy gs) ∧ sp [.ref a, y] H Q E
theorem op_binOwn {op : Operator} (F : FnOk X.prog X.w X.K X.mg X.base CX n f fd ps sp) (hb : Binds X.K fd ps []) (hx : Passes CX X E) (hs : PySem.W.findIn X.K (.ref C) (PySem.dunder op.info.2) = some (some (.ref f))) (hf : PySem.W.isFn X.K (.ref f) = true) (hc : PySem.W.selfFirst X.K C = true) (hr : Room n X.A) :
    OpR X (binaryOp op) (rBinOwn X.K C sp E) := by
  intro pins s σ H x y v u Q I rx ry h
  obtain ⟨a, dx, fs, b, dy, gs, rfl, ha, rfl, hbb, hsp⟩ := h
  cases rx
  cases ry
  obtain ⟨od, J⟩ := inst_at I ha
  obtain ⟨od2, J2⟩ := inst_at I hbb
  obtain ⟨m, hF⟩ := I.fr
  refine PySem.W.binop_K hF I.ok.mod.kin J J2.type hc hs hf (thn (run_own (Sub.here hr) F hb hx I (show Vals [V.ref a, V.ref b] [Value.ref a, Value.ref b] from .cons rfl (.cons rfl .nil)) hsp) fun r s' q => ?_)
  obtain ⟨z, H', I', rz, q⟩ := q
  exact notNI rz ⟨z, H', I', rz, q⟩
def rLeOwn (K : PySem.W.Frag) (C : Addr) (sp : Sp) (E : XK) : R2 := fun x y H Q => ∃ a dx fs tb, x = .ref a ∧ H a = some (.ins C dx fs) ∧ TyX K H y tb ∧ PySem.W.notFirst K C tb = true ∧ sp [.ref a, y] H Q E
theorem op_leOwn (F : FnOk X.prog X.w X.K X.mg X.base CX n f fd ps sp) (hb : Binds X.K fd ps []) (hx : Passes CX X E) (o : Own X.K C "__le__" f) (hr : Room n X.A) : OpR X (compareOp .LtE) (rLeOwn X.K C sp E) := by
  intro pins s σ H x y v u Q I rx ry h
  obtain ⟨a, dx, fs, tb, rfl, ha, ty, hn, hs⟩ := h
  cases rx
  obtain ⟨od, J⟩ := inst_at I ha
  obtain ⟨m, hF⟩ := I.fr
  obtain ⟨P, Z, p, _⟩ := kit_of I ry ty
  refine PySem.W.cmp_K (op := .LtE) hr.units0 hF I.ok.mod.kin J (Z.ty _ _ I.kIn p) hn o.find o.fn (thn (run_own (Sub.here hr) F hb hx I (show Vals [V.ref a, y] [Value.ref a, u] from .cons rfl (.cons ry .nil)) hs) fun r s' q => ?_)
  obtain ⟨z, H', I', rz, q⟩ := q
  exact notNI rz ⟨z, H', I', rz, q⟩
end
end L2

set_option Elab.async false
set_option linter.all false
set_option maxRecDepth 100000
set_option maxHeartbeats 4000000
/-! enumerate(text). -/
namespace L2
open PySem PySem.Spec PyProof.Rows
/-- the signs of a text, each in a new pair behind its number -/
def ItSe (z : Str) : It :=
  ⟨fun i _ => i < z.cps.size, fun i H v H' => ∃ T c, v = .ref T ∧ H T = none ∧ H' = upd H T (.tup [.int (i : Nat), .str ⟨#[c]⟩]) ∧ z.cps[i]? = some c, fun i _ => i = z.cps.size⟩
theorem turn_enumS {P : Program} {w : World} {K : PySem.W.Frag} {elts : List Expr} {kk : Nat} {tpos : Pos} (z : Str) (t : Tok) (e it : Addr) :
    Turn P w K (.Tuple elts kk tpos) (ItSe z) [e, it] e (fun i h => (∃ old, IsEnum h e it ((i : Nat) : Int) old) ∧ h.IsStrIter it (strIterType z) z t i ∧ e ≠ it) where
  mem := by simp
  obj := fun i h st b hb => by
    obtain ⟨⟨old, he⟩, ⟨o, ho, hc, hd⟩, _⟩ := st
    have e' : b = e ∨ b = it := by simpa using hb
    rcases e' with z | z
    · rw [z]; exact ⟨_, he, fun v q => nomatch q⟩
    · rw [z]; exact ⟨o, ho, fun v q => by rw [hd] at q; cases q⟩
  keep := fun i h h' st k => by
    obtain ⟨⟨old, he⟩, ⟨o, ho, r⟩, hne⟩ := st
    exact ⟨⟨old, k e (by simp) _ he⟩, ⟨o, k it (by simp) o ho, r⟩, hne⟩
  item := by
    intro X hP hw hK hc i pins s σ H E I hf st hg
    subst hP hw hK
    obtain ⟨⟨old, he⟩, hit, hne⟩ := st
    have hel : e < s.heap.objs.size := Heap.lt_size he
    have hil : it < s.heap.objs.size := by obtain ⟨_, q, _⟩ := hit; exact Heap.lt_size q
    refine wpAny_pyNext_enum_itemD (Draws.text (A := X.A.in1) (I.ok.hd hc) it z t) he hit hg hne (by simpa using hne) fun x h' tk hx ho hit' hT hsz hk => ?_
    obtain ⟨c, u, hcx, rfl⟩ := hx
    refine ⟨_, rfl, wpAny_letOwnedTupleGo_enum (s := { s with heap := h', toks := tk + 1 }) ho fun h'' he' sb => ?_⟩
    have hT2 : h''.get? s.heap.objs.size = some { cls := .type "tuple", data := .seq #[.int i tk, .str ⟨#[c]⟩ u] } := (sb.2 _ (Nat.ne_of_gt hel)).trans hT
    have new : ObjOk X.prog X.w (upd H s.heap.objs.size (.tup [.int (i : Nat), .str ⟨#[c]⟩])) h'' s.heap.objs.size (.tup [.int (i : Nat), .str ⟨#[c]⟩]) :=
      ⟨by show 2 ≤ sizeLine; decide, [.int i tk, .str ⟨#[c]⟩ u], .cons ⟨_, rfl⟩ (.cons ⟨_, rfl⟩ .nil), ⟨_, hT2, rfl, _, rfl⟩⟩
    have I1 : Inv X pins σ (upd H s.heap.objs.size (.tup [.int (i : Nat), .str ⟨#[c]⟩])) { s with heap := h'', toks := tk + 1 } :=
      I.turnedNew (ch := [e, it]) (fun b ob hb q => (sb.2 b (fun z => hb (by simp [z]))).trans (hk b ob (fun z => hb (by simp [z])) (fun z => hb (by simp [z])) q)) hf (Nat.le_refl _) new
    refine ⟨.ref s.heap.objs.size, _, I1, rfl, ⟨_, c, rfl, I.hok.fresh (Nat.le_refl _), rfl, hcx⟩, ⟨⟨.str ⟨#[c]⟩ u, ?_⟩, ?_, hne⟩, fun b hb => ?_⟩
    · have e1 : ((i + 1 : Nat) : Int) = (i : Int) + 1 := by omega
      rw [e1]; exact he'
    · obtain ⟨o, q, r⟩ := hit'
      exact ⟨o, (sb.2 it (Ne.symm hne)).trans q, r⟩
    · have hb' : b < s.heap.objs.size := by
        have e' : b = e ∨ b = it := by simpa using hb
        rcases e' with z | z
        · rw [z]; exact hel
        · rw [z]; exact hil
      rw [upd_ne (Nat.ne_of_lt hb')]
      exact (hf b hb).1
  done := by
    intro X hP hw hK hc i pins s σ H E I hf st hg
    subst hP hw hK
    obtain ⟨⟨old, he⟩, hit, hne⟩ := st
    have hi : i = z.cps.size := hg
    obtain ⟨f0, f1, f2, f3, f4, f5⟩ := hf it (by simp)
    subst hi
    exact wpAny_pyNext_enum_endD (Draws.text (A := X.A.in1) (I.ok.hd hc) it z t) he hit fun h' eb => ⟨rfl, I.turned (t' := s.toks) (fun b o hb q => eb b o hb q) f0 f1 f3 f4 f5⟩
  self := fun A i s Q E st h => let ⟨⟨_, he⟩, _⟩ := st; wpAny_pyIter_enum he h
def iEnumS (ta : TA) : TI := fun σ H R => ta σ H fun vs H1 => ∃ z, vs = [.str z] ∧ R (ItSe z) H1
theorem pi_enumS {X : Cx} {e : Expr} {ta : TA} {p pos tpos : Pos} {elts : List Expr} {kk : Nat} (hg : Gl X "enumerate") (hm : X.mg "enumerate" = none) (ha : PA X [e] ta) (hs : starEach [e] X.env = [(false, eval e X.env)] := by rfl) :
    PI X (.Tuple elts kk tpos) (.Call (.Name "enumerate" p) [e] [] pos) (iEnumS ta) := by
  refine ⟨fun pins s σ H R I h => ?_⟩
  refine Call_ (ld_blt I hg hm boot_enumerate (PyProof.Rows.callWith_type1 (thn (ha.run pos pins s σ H _ I h) fun us s1 ⟨vs, H1, I1, r1, q1⟩ => ?_) hs rfl))
  obtain ⟨z, ex, q⟩ := q1
  subst ex
  cases r1 with
  | cons r rr =>
    cases rr
    obtain ⟨t, rfl⟩ := r
    refine call_enumerate_str fun h' he hit hsz hk => wpAny_pyIter_enum he ?_
    have I2 : Inv X pins σ H1 { s1 with heap := h' } := I1.kept (t' := s1.toks) hk
    refine ⟨s1.heap.objs.size + 1, [s1.heap.objs.size + 1, s1.heap.objs.size], _, _, H1, rfl, I2, turn_enumS z t (s1.heap.objs.size + 1) s1.heap.objs.size, ⟨⟨.none, he⟩, hit, Nat.succ_ne_self _⟩, fun b hb => ?_, q⟩
    have e' : b = s1.heap.objs.size + 1 ∨ b = s1.heap.objs.size := by simpa using hb
    have hle : s1.heap.objs.size ≤ b := by
      rcases e' with z | z
      · rw [z]; exact Nat.le_add_right _ _
      · rw [z]; exact Nat.le_refl _
    exact I1.fpOk hle (I1.hok.fresh hle)
theorem walk_enumS {z : Str} : Walk (ItSe z) z.cps.size (fun _ => True) (fun i H v H' => ∃ T c, v = .ref T ∧ H T = none ∧ H' = upd H T (.tup [.int (i : Nat), .str ⟨#[c]⟩]) ∧ z.cps[i]? = some c) :=
  ⟨fun _ _ hi _ => hi, fun _ _ => rfl, fun _ _ _ _ _ _ y => y⟩
end L2

set_option Elab.async false
set_option linter.all false
set_option maxRecDepth 100000
set_option maxHeartbeats 4000000
/-! Signs of an own class by its own methods, by an address; a ** k. -/
namespace L2
open PySem PySem.Spec PyProof.Rows
/-- an own method that a sign of two calls -/
structure Bo (P : Program) (w : World) (K : PySem.W.Frag) (mg : Str → Option Value) (base : Heap) (k : Nat) (C : Addr) (m : Str) (sp : Sp) : Prop where
  ex : ∃ (f : Addr) (fd : FuncData) (ps : List Str), FnOk P w K mg base CX0 k f fd ps sp ∧ Binds K fd ps [] ∧ PySem.W.findIn K (.ref C) m = some (some (.ref f)) ∧ PySem.W.isFn K (.ref f) = true ∧ PySem.W.selfFirst K C = true
/-- what the sign of the power asks of int -/
structure IntP (K : PySem.W.Frag) (C : Addr) : Prop where
  rp : PySem.W.findIn K (.ref C) "__rpow__" = some none
  h1 : ∃ fo, PySem.W.findIn K (.type "int") "__pow__" = some fo
  h2 : ∃ ro, PySem.W.findIn K (.type "int") "__rpow__" = some ro
  sub : PySem.W.subIn K (.type "int") (.ref C) = some false
def rPowOwn (K : PySem.W.Frag) (C : Addr) (sp : Sp) (E : XK) : R2 := fun x y H Q => ∃ a dx fs i, x = .ref a ∧ H a = some (.ins C dx fs) ∧ y = .int i ∧ sp [.ref a, .int i] H Q E
section
variable {X : Cx} {k j : Nat} {C : Addr} {sp : Sp}
theorem op_bin {op : Operator} {m : Str} (c : Bo X.prog X.w X.K X.mg X.base k C m sp) (hr : Room j X.A) (hk : k ≤ j) (hm : PySem.dunder op.info.2 = m := by rfl) : OpR X (binaryOp op) (rBinOwn X.K C sp E0) := by
  obtain ⟨f, fd, ps, F, b, h1, h2, h3⟩ := c.ex
  subst hm
  exact op_binOwn F b pass0 h1 h2 h3 (hr.mono hk)
theorem op_powO {m : Str} (c : Bo X.prog X.w X.K X.mg X.base k C m sp) (ip : IntP X.K C) (hr : Room j X.A) (hk : k ≤ j) (hm : PySem.dunder (Operator.info .Pow).2 = m := by rfl) : OpR X (binaryOp .Pow) (rPowOwn X.K C sp E0) := by
  obtain ⟨f, fd, ps, F, b, h1, h2, h3⟩ := c.ex
  subst hm
  intro pins s σ H x y v u Q I rx ry h
  obtain ⟨a, dx, fs, i, rfl, ha, rfl, hsp⟩ := h
  obtain rfl : v = Value.ref a := rx
  obtain ⟨od, J⟩ := inst_at I ha
  obtain ⟨m, hF⟩ := I.fr
  obtain ⟨fo, e1⟩ := ip.h1
  obtain ⟨ro, e2⟩ := ip.h2
  have hb : typeOf u = pure (.type "int") := by
    obtain ⟨t, rfl⟩ := (show ∃ t, u = Value.int i t from ry)
    rfl
  refine PySem.W.ksp_binT hF I.ok.mod.kin J hb h3 h1 h2 ip.rp (.inl rfl) e1 e2 ip.sub (thn (run_own (Sub.here (hr.mono hk)) F b pass0 I (show Vals [V.ref a, V.int i] [Value.ref a, u] from .cons rfl (.cons ry .nil)) hsp) fun r s' q => ?_)
  obtain ⟨z, H', I', rz, q⟩ := q
  exact notNI rz ⟨z, H', I', rz, q⟩
theorem pe_mt {pl : Sem Bool} {m : Str} {o e : Expr} {es : List Expr} {apos pos : Pos} {ta : TE} {t : TA} (c : Cls X.K C) (D : Mf X.prog X.w X.K X.mg X.base k C m sp) (hr : Room j X.A) (hk : k ≤ j) (he : PE X o ta) (ha : PA X (e :: es) t)
    (hst : starEach (e :: es) X.env = (false, eval e X.env) :: starEach es X.env := by rfl) (hpl : (backTo pos (starEach es X.env)).any (·.1) = false := by rfl)
    (ht : eval (.Call (.Attribute o m apos) (e :: es) [] pos) X.env = (do
      let ov ← eval o X.env
      standAt apos.atName
      let (f, first) ← holding [ov] (getMethod ov m pl)
      callWith pos f first (backTo pos (starEach (e :: es) X.env)) (backToKw pos (keywordEach [] X.env))) := by rfl) :
    PE X (.Call (.Attribute o m apos) (e :: es) [] pos) (tMeth C m sp [] E0 ta t) := by
  obtain ⟨f, fd, ps, F, hm, _, _, b⟩ := D.ex
  exact pe_meth (pl := pl) he c hm F (hr.mono hk) b .nil pass0 ha hst hpl ht
theorem op_leM (c : Bo X.prog X.w X.K X.mg X.base k C "__le__" sp) (hr : Room j X.A) (hk : k ≤ j) : OpR X (compareOp .LtE) (rLeOwn X.K C sp E0) := by
  obtain ⟨f, fd, ps, F, b, h1, h2, h3⟩ := c.ex
  exact op_leOwn F b pass0 ⟨h1, h2⟩ (hr.mono hk)
end
end L2

set_option Elab.async false
set_option linter.all false
set_option maxRecDepth 100000
set_option maxHeartbeats 4000000
/-! try: .. except E as n: k = n, where k is read later: the caught exception becomes a thing of the abstract heap. -/
namespace L2
open PySem PySem.Spec PyProof.Rows
/-- an exception that was caught and is kept: its class, its dict -/
def CaughtO (cls : Value) (d : Option Addr) (a : Addr) : HO := .ext fun h => ∃ (oe : Obj) (vs : Array Value), h.get? a = some oe ∧ Zc cls d oe ∧ oe.data = .fields vs
/-- a caught exception stands on the ground of X, and nothing of X has known it before -/
structure Down (X : Cx) (pins : List (Addr × Obj)) (σ : St) (H : Hp) (cls : Value) (d : Option Addr) (a : Addr) (B : Heap) (s : Shared) : Prop where
  inv : Inv X pins σ H s
  fly : HandSPX.FlyingZ B X.stack a (Zc cls d) s.heap
  unk : H a = none
  notL : a ≠ X.env.locals
  notF : a ∉ X.fs
  notS : ∀ o, X.s_0.heap.get? a = some o → a ∉ X.ex → False
  notP : ∀ p ∈ X.pn ++ pins, p.1 ≠ a
  gnd : ∃ s0 : Shared, Inv X pins σ H s0 ∧ (∀ c o, s0.heap.get? c = some o → c ∉ frs X.stack → B.get? c = some o) ∧ s0.heap.UpToSlots s.heap ∧ s.os = s0.os ∧ AllBare s.gens
section
variable {X : Cx} {pins : List (Addr × Obj)} {σ : St} {H : Hp} {cls : Value} {d : Option Addr} {a : Addr} {B : Heap} {s : Shared}
theorem Down.obj (W : Down X pins σ H cls d a B s) : ∃ (oe : Obj) (vs : Array Value), s.heap.get? a = some oe ∧ Zc cls d oe ∧ oe.data = .fields vs := W.fly.there
/-- from now on it is tracked -/
theorem Down.tracked (W : Down X pins σ H cls d a B s) : Inv X pins σ (upd H a (CaughtO cls d a)) s := by
  obtain ⟨oe, vs, q1, q2, q3⟩ := W.obj
  obtain ⟨i1, i2, i3, i4, i5, i6, i7, i8, i9, i10, i11⟩ := W.inv
  have off : ∀ c, c ≠ a → upd H a (CaughtO cls d a) c = H c := fun c h => upd_ne h
  have off' : ∀ c u, H c = some u → upd H a (CaughtO cls d a) c = some u := fun c u h => (off c (ne_of_none h W.unk)).trans h
  have tell : ObjOk X.prog X.w (upd H a (CaughtO cls d a)) s.heap a (CaughtO cls d a) := by
    refine ⟨⟨oe, vs, q1, q2, q3⟩, ⟨oe, q1⟩, fun g g' hg keep => ?_⟩
    obtain ⟨o, v, r1, r2⟩ := hg
    exact ⟨o, v, keep o r1, r2⟩
  refine ⟨i1, i2, i3, ⟨i4.keep, i4.slot, fun c o e n x => ?_, i4.there, fun c xs e => off' c _ (i4.tups c xs e), fun c o u e => off' c _ (i4.frzs c o u e), fun c ps e => ?_⟩, i5, i6, (off _ (Ne.symm W.notL)).trans i7, fun y c e => ?_, fun p hp => ?_, i10.laidN (fun _ _ z => z) W.unk tell, i11⟩
  · by_cases hc : c = a
    · rw [hc] at e x
      exact (W.notS o e x).elim
    · exact (off c hc).trans (i4.free c o e n x)
  · obtain ⟨more, z⟩ := i4.tbls c ps e
    exact ⟨more, off' c _ z⟩
  · have hc : c ≠ a := fun z => by
      obtain ⟨v, o, r1, r2⟩ := i6 y c e
      rw [z, q1] at r1
      rw [← Option.some.inj r1, q3] at r2
      cases r2
    exact (off c hc).trans (i8 y c e)
  · obtain ⟨p1, p2, p3⟩ := i9 p hp
    exact ⟨p1, (off _ (W.notP p hp)).trans p2, p3⟩
/-- an exception that X lets through lands -/
theorem down_of {M : Model} {x' : Value → Shared → Prop} {pn : List (Addr × Obj)} {W : WX} {u : Value} {E : Value → Shared → Prop} {Q : Shared → Prop} (ok : X.Ok) (hst : X.stack = X.env :: X.outer) (hfl : X.env.frame = some X.env.locals) (xx : XE (X.tr (X.pn ++ pn) x') W u s)
    (hQ : ∀ (a : Addr) (B : Heap) (cls : Value) (d : Option Addr) (σ : St) (H : Hp) (s' : Shared), u = .ref a → W cls d σ H → Down X pn σ H cls d a B s' → Q s') : wpAny M X.A (noteFrame u X.env) (fun _ s1 => wpAny M X.A (setFlight u none) (fun _ s2 => Q s2) E s1) E s := by
  obtain ⟨a, B, sI, more, σ1, H1, cls, d, rfl, IT, gr, ups, sky, none1, eos, bar, wish⟩ := xx
  have I1 : Inv X pn σ1 H1 sI := Inv.ofTry IT ok
  have frameEq : X.A.frames = some (X.env :: X.outer) := ok.frames.trans (by rw [hst])
  have sky1 : Sky B (X.env :: X.outer) a (Zc cls d) X.env.locals s.heap := hst ▸ sky
  refine Sky.land (Q := fun _ => Q) Zc.steady frameEq hfl sky1 fun hL fly up2 => ?_
  obtain ⟨oe, vs, r1, _, r3⟩ := HandSPX.FlyingZ.there fly
  have out : a ∉ frs X.stack := fun hm => by
    rw [hst] at hm
    obtain ⟨_, o, eo, no⟩ := fly.2.2.1.mem hm
    rw [r1] at eo
    exact no vs (by rw [← Option.some.inj eo]; exact r3)
  have never : ∀ o, sI.heap.get? a = some o → False := fun o e => by
    have q := gr a o e out
    rw [fly.2.1] at q
    cases q
  refine hQ a B cls d σ1 H1 { s with heap := hL } rfl wish ⟨I1.landed gr fly.1 (ups.trans up2) eos bar, by rw [hst]; exact fly, none1, fun z => ?_, fun z => ?_, fun o e x => ?_, fun p hp z => ?_, sI, I1, gr, ups.trans up2, eos, bar⟩
  · exact out (by rw [hst]; exact List.mem_filterMap.mpr ⟨X.env, List.mem_cons_self, by rw [hfl, z]⟩)
  · obtain ⟨e, he, q⟩ := List.mem_filterMap.mp z
    exact out (by rw [hst]; exact List.mem_filterMap.mpr ⟨e, List.mem_cons_of_mem _ he, q⟩)
  · obtain ⟨o2, q⟩ := I1.base.there a o e x
    exact never o2 q
  · exact never _ (z ▸ (I1.pin p hp).1)
/-- .. and once more, when the suite begins -/
theorem Down.again {M : Model} {A : Around} {Q : Shared → Prop} {E : Value → Shared → Prop} (W : Down X pins σ H cls d a B s) (h : ∀ s', Down X pins σ H cls d a B s' → Q s') : wpAny M A (setFlight (.ref a) none) (fun _ => Q) E s := by
  obtain ⟨s0, J, gr, ups, eos, bar⟩ := W.gnd
  exact HandSPX.lands_againZ (Q := fun _ => Q) W.fly fun hL fly up2 => h { s with heap := hL } ⟨J.landed gr fly.1 (ups.trans up2) eos bar, fly, W.unk, W.notL, W.notF, W.notS, W.notP, s0, J, gr, ups.trans up2, eos, bar⟩
/-- its class is what the clause names -/
theorem Down.meets {A : Around} {E : Value → Shared → Prop} {c : Value} {Q : Bool → Shared → Prop} (W : Down X pins σ H cls d a B s) (hm : PySem.W.exmOne X.K cls c = some true) (h : Q true s) : wpAny (model X.prog X.w) A (excMatches (.ref a) c) Q E s := by
  obtain ⟨oe, vs, q1, q2, _⟩ := W.obj
  refine (PySem.W.exm_one (M := model X.prog X.w) W.inv.kIn (cls := cls) ?_ hm).here h
  intro A1 Q1 E1 s1 keep q
  exact wpAny_typeOf_ref (keep _ _ q1) (q2.1 ▸ q)
/-- the suite's context, the exception tracked -/
theorem Down.suite (W : Down X pins σ H cls d a B s) (ok : X.Ok) : Inv (X.suite a (X.pn ++ pins)) [] σ (upd H a (CaughtO cls d a)) s := by
  have I := W.tracked
  exact ⟨ok.suite _ _, I.os, I.bare, I.base, I.loc, I.cell, I.free, I.freeC, fun p hp => I.pin p (List.append_nil (X.pn ++ pins) ▸ hp), I.hok, I.len⟩
theorem unsuite_inv {σ' : St} {H' : Hp} {s' : Shared} (ok : X.Ok) (I : Inv (X.suite a (X.pn ++ pins)) [] σ' H' s') : Inv X pins σ' H' s' :=
  ⟨ok, I.os, I.bare, I.base, I.loc, I.cell, I.free, I.freeC, fun p hp => I.pin p ((List.append_nil (X.pn ++ pins)).symm ▸ hp), I.hok, I.len⟩
end
/-- what the clause wishes of an exception of the body, which is one of c: slot i is n's -/
def wKeep (K : PySem.W.Frag) (k : Nat) (c : Value) (i : Nat) (ts : Addr → TS) (D : Ends) : WX := fun cls d σ H =>
  PySem.W.exmOne K cls c = some true ∧ (σ.length = k → ∀ a, H a = none → ts a { nx := fun σ' H' => D.nx (σ'.set i none) H', rt := D.rt, bk := fun _ _ => False, ct := fun _ _ => False } (σ.set i (some (.ref a))) (upd H a (CaughtO cls d a)))
section
variable {X : Cx} {x n : Str} {c : Value} {i : Nat} {body suite : List Stmt} {b₀ : Stmt} {np pos pos' : Pos} {tb : WX → TS} {ts : Addr → TS}
theorem ps_try_keep (hst : X.stack = X.env :: X.outer) (hfl : X.env.frame = some X.env.locals) (nd : X.N.Nodup) (hi : X.N[i]? = some n) (hn : X.env.kindOf n = some .local) (nm : Names X x c)
    (hb : ∀ (W : WX) (pn : List (Addr × Obj)) (xe : Value → Shared → Prop), Takes (X.tr pn xe) W → PassesOwn (model X.prog X.w) X.A X.env xe → PSs (X.tr pn xe) body (tb W)) (hs : ∀ (a : Addr) (pn : List (Addr × Obj)), PSs (X.suite a pn) (b₀ :: suite) (ts a)) :
    PS X (.Try body [.ExceptHandler (some (.Name x np)) (some n) (b₀ :: suite) pos'] [] [] pos) (fun D σ H => tb (wKeep X.K X.N.length c i ts D) D σ H) := by
  constructor
  intro pins s σ H D I0 reading
  have ok := I0.ok
  apply wpAny_Try_except
  -- what a landed exception meets
  have clause : ∀ (a : Addr) (B : Heap) (cls : Value) (d : Option Addr) (σ1 : St) (H1 : Hp) (s1 : Shared), wKeep X.K X.N.length c i ts D cls d σ1 H1 → Down X pins σ1 H1 cls d a B s1 → wpAny (model X.prog X.w) X.A (handleBy (.ref a) X.env [.ExceptHandler (some (.Name x np)) (some n) (b₀ :: suite) pos']) (SP X pins D) X.xe s1 := by
    rintro a B cls d σ1 H1 s1 ⟨hm, go⟩ W
    apply wpAny_handleBy_cons
    · apply codeAny_handlers_test
      have named : ∀ {Q1 : Value → Shared → Prop} {E1 : Value → Shared → Prop}, Q1 c s1 → wpAny (model X.prog X.w) (X.suite a (X.pn ++ pins)).A (eval (.Name x np) X.env) Q1 E1 s1 := fun {Q1 E1} q => by
        have I := W.suite ok
        rcases nm with ⟨g, db, m | ⟨m, v, w⟩⟩
        · exact ld_glob (X := X.suite a (X.pn ++ pins)) I g m q db
        · exact ld_blt (X := X.suite a (X.pn ++ pins)) I g m v q w db
      refine named (W.meets hm ?_)
      apply codeAny_handlers_suite_as
      refine W.again fun s2 W2 => ?_
      refine store_ok (X := X.suite a (X.pn ++ pins)) (v := .ref a) (W2.suite ok) nd hi (.inl hn) rfl (fun s3 I3 => ?_) (.inr hn)
      refine wpAny_mono ((hs a (X.pn ++ pins)).run [] s3 _ _ _ I3 (go W.inv.len a W.unk)) (fun f s4 sp => ?_) fun _ _ z => False.elim z
      -- the clause's name goes
      have away : ∀ {σ5 : St} {H5 : Hp} {Q5 : Shared → Prop}, Inv (X.suite a (X.pn ++ pins)) [] σ5 H5 s4 → (∀ s6, Inv X pins (σ5.set i none) H5 s6 → Q5 s6) → wpAny (model X.prog X.w) X.A (do bindName X.env n .none; unbindBehindTheSuite X.env n pos') (fun _ => Q5) X.xe s4 :=
        fun I5 h5 => gone_ok (unsuite_inv ok I5) nd hi hn h5
      match f, sp with
      | .next, ⟨σ5, H5, I5, q5⟩ => exact away I5 fun s6 I6 => ⟨_, _, I6, q5⟩
      | .ret u, ⟨v, σ5, H5, I5, r5, q5⟩ => exact away I5 fun s6 I6 => ⟨_, _, _, I6, r5, q5⟩
      | .brk, ⟨_, _, _, z⟩ => exact z.elim
      | .cont, ⟨_, _, _, z⟩ => exact z.elim
    · intro z
      cases z
  refine wpAny_mono ((hb (wKeep X.K X.N.length c i ts D) (X.pn ++ pins) _ (fun u s' xx => down_of ok hst hfl xx fun a B cls d σ1 H1 s1 e wish W => e ▸ clause a B cls d σ1 H1 s1 wish W) PassesOwn.looking).run [] s σ H D (I0.toTry _) reading) (fun f s1 sp => ?_) fun _ _ z => z
  match f, sp with
  | .next, ⟨σ1, H1, I1, q1⟩ => exact wpAny_execs_nil ⟨σ1, H1, Inv.ofTry I1 ok, q1⟩
  | .ret u, ⟨v, σ1, H1, I1, r1, q1⟩ => exact ⟨v, σ1, H1, Inv.ofTry I1 ok, r1, q1⟩
  | .brk, ⟨σ1, H1, I1, q1⟩ => exact ⟨σ1, H1, Inv.ofTry I1 ok, q1⟩
  | .cont, ⟨σ1, H1, I1, q1⟩ => exact ⟨σ1, H1, Inv.ofTry I1 ok, q1⟩
end
end L2

set_option Elab.async false
set_option linter.all false
set_option maxRecDepth 100000
set_option maxHeartbeats 4000000
/-! A kept exception: isinstance, its fields. -/
namespace L2
open PySem PySem.Spec PyProof.Rows
/-- at a a kept exception of the own class D, with these fields -/
structure KeptX (K : PySem.W.Frag) (H : Hp) (a D : Addr) (fs : List (Str × V)) : Prop where
  ex : ∃ d, H a = some (CaughtO (.ref D) (some d) a) ∧ H d = some (.xd fs)
  cl : ExcC K D
section
variable {X : Cx} {pins : List (Addr × Obj)} {σ : St} {H : Hp} {s : Shared} {a D : Addr} {fs : List (Str × V)}
theorem kept_inst (I : Inv X pins σ H s) (k : KeptX X.K H a D fs) : ∃ (oe : Obj) (od : Obj), PySem.W.InstAt s.heap a oe D (some od) ∧ ∀ f, ∃ o, PySem.W.lookIn f od = some o ∧ RelO (fs.lookup f) o := by
  obtain ⟨d, h1, h2⟩ := k.ex
  obtain ⟨⟨oe, vs, q1, ⟨q2, q3⟩, q4⟩, _, _⟩ := I.hok a _ h1
  obtain ⟨m, ns, rel⟩ := I.hok d _ h2
  obtain ⟨od, ho, hl⟩ := lookIn_ns ns
  refine ⟨oe, od, ⟨q1, q2, ?_, ?_⟩, fun f => ⟨m f, hl f, rel f⟩⟩
  · unfold PySem.W.notCls
    rw [q4]
  · rw [q3]
    exact ho
/-- isinstance(e, c) -/
def rIsK (K : PySem.W.Frag) : List V → Hp → VK → Prop := fun xs H Q => ∃ (a D : Addr) (fs : List (Str × V)) (c : V) (cv : Value) (b : Bool), xs = [.ref a, c] ∧ KeptX K H a D fs ∧ (∀ u, RelV c u → u = cv) ∧ PySem.W.kitOne K (.ref D) cv = some b ∧ Q (.bl b) H
theorem call_isK : CallR X (.builtin "isinstance") (rIsK X.K) := by
  intro pins s σ H xs us Q I r h
  obtain ⟨a, D, fs, c, cv, b, rfl, k, hc, e, q⟩ := h
  match us, r with
  | [u1, u2], .cons r1 (.cons r2 .nil) =>
    obtain rfl : u1 = Value.ref a := r1
    rw [hc _ r2]
    obtain ⟨oe, od, J, _⟩ := kept_inst I k
    have C := k.cl
    obtain ⟨cd, e1, _⟩ := PySem.W.any_some C.hd
    exact PySem.W.kia_one (PySem.W.kitx_exc (by rw [e1]; rfl) C.hg C.hk C.hs C.ha C.hn C.ht C.hm) I.kIn J e (fun z => nomatch z) fun tk => ⟨.bl b, H, I.tok _, rfl, q⟩
/-- e.f -/
def tKeptF (K : PySem.W.Frag) (f : Str) (te : TE) : TE := fun σ H Q => te σ H fun x H1 => ∃ (a D : Addr) (fs : List (Str × V)) (v : V), x = .ref a ∧ KeptX K H1 a D fs ∧ PySem.W.findIn K (.ref D) f = some none ∧ fs.lookup f = some v ∧ Q v H1
theorem pe_keptF {e : Expr} {f : Str} {te : TE} {pos : Pos} (he : PE X e te) (hb : attributeBase e f X.env (eval e X.env) = eval e X.env := by rfl) : PE X (.Attribute e f pos) (tKeptF X.K f te) := by
  refine ⟨fun pins s σ H Q I h => attr_of hb (thn (he.run pins s σ H _ I h) fun u s1 hh => ?_)⟩
  obtain ⟨x, H1, I1, rx, a, D, fs, v, rfl, k, no, hl, q⟩ := hh
  obtain rfl : u = Value.ref a := rx
  obtain ⟨oe, od, J, look⟩ := kept_inst I1 k
  obtain ⟨o, l1, l2⟩ := look f
  obtain ⟨w', ew, rw'⟩ := RelO.some_of (v := v) (o := o) (hl ▸ l2)
  exact HandSPX.exc_get I1.kIn J k.cl.hg k.cl.hk k.cl.hs (PySem.W.findObj_own k.cl.hd no rfl (by rw [l1, ew])) (handed_of rw') ⟨v, H1, I1.tok _, rw', q⟩
end
end L2

set_option Elab.async false
set_option linter.all false
set_option maxRecDepth 100000
set_option maxHeartbeats 4000000
/-! A classmethod called by the class's name, with keywords. -/
namespace L2
open PySem PySem.Spec PyProof.Rows ClX
section
variable {X : Cx} {CX : CXT} {k : Nat} {C p g f : Addr} {mc : Value} {sp : Sp} {E : XK} {o : Expr} {kws : List Keyword} {m : Str} {pos apos : Pos} {ta : TE} {tk : TA} {pl : Sem Bool} {fd : FuncData} {ps ks : List Str} {gg : List Value → List Value → List Value} {gV : List V → List V → List V}
theorem run_fnkC {pins : List (Addr × Obj)} {σ : L2.St} {H : Hp} {s : Shared} {Q : VK} {us ws : List Value} {vs zs : List V} (F : FnOk X.prog X.w X.K X.mg X.base CX k f fd ps sp) (hr : Room k X.A) (hb : KBinds X.K fd ps ks gg gV) (hx : Passes CX X E)
    (I : Inv X pins σ H s) (r : Vals vs us) (rz : Vals zs ws) (h : sp (gV vs zs) H Q E) : codeAny (model X.prog X.w) X.A (.call (.ref f) ⟨us, ks.zip ws⟩) (fun r s' => match r with | .ok (.ret v) => EP X pins σ Q v s' | .ok _ => False | .error e => X.xe e s') s := by
  have r2 := hb.rel r rz
  have hl : (gg us ws).length = ps.length := by rw [← r2.length]; exact F.len _ _ _ _ h
  refine codeAny_mono (F.run X.A X.stack s H ⟨us, ks.zip ws⟩ (gg us ws) (gV vs zs) Q E hr I.env0 (hb.to s us ws I.kIn hl) r2 h) fun r s' hq => ?_
  cases r with
  | error e => exact hx pins σ H s e s' I hq
  | ok fl =>
    cases fl with
    | ret u => exact I.after hq
    | next => exact False.elim hq
    | brk => exact False.elim hq
    | cont => exact False.elim hq
def tCMethK (C : Addr) (sp : Sp) (gV : List V → List V → List V) (E : XK) (ta : TE) (tk : TA) : TE := fun σ H Q => ta σ H fun x H1 => x = .ref C ∧ tk σ H1 fun zs H2 => sp (gV [.ref C] zs) H2 Q E
theorem pe_cmethK (he : PE X o ta) (r : CRead X.K C mc) (c : CMet X.K C mc m p g) (F : FnOk X.prog X.w X.K X.mg X.base CX k g fd ps sp) (hr : Room k X.A) (hb : KBinds X.K fd ps ks gg gV) (hx : Passes CX X E) (hkw : PK X kws tk)
    (hall : (backToKw pos (keywordEach kws X.env)).all (·.1.isSome) = true := by rfl) (hks : (backToKw pos (keywordEach kws X.env)).filterMap (·.1) = ks := by rfl)
    (hpl : ((backTo pos (starEach [] X.env)).any (·.1) || (backToKw pos (keywordEach kws X.env)).any (·.1.isNone)) = false := by rfl)
    (ht : eval (.Call (.Attribute o m apos) [] kws pos) X.env = (do
      let ov ← eval o X.env
      standAt apos.atName
      let (f, first) ← holding [ov] (getMethod ov m pl)
      callWith pos f first (backTo pos (starEach [] X.env)) (backToKw pos (keywordEach kws X.env))) := by rfl) :
    PE X (.Call (.Attribute o m apos) [] kws pos) (tCMethK C sp gV E ta tk) := by
  refine ⟨fun pins s σ H Q I h => ?_⟩
  refine PySem.W.methodCall_KW (pl := pl) (thn (he.run pins s σ H _ I h) fun u s1 ⟨x, H1, I1, rx, ex, q⟩ => ?_) ht
  subst ex
  obtain rfl : u = Value.ref C := rx
  refine getmethcm_ok I1 r c fun s2 I2 => ?_
  refine PySem.W.callWith_of hpl (PySem.W.keeps_M (K := X.K) (self := .ref C) c.fi) (PyProof.Rows.evalArgs_kw2_nil hall (thn (hkw.run pos _ s2 σ H1 _ I2 q) fun ws s3 ⟨zs, H2, I3, rz, q2⟩ => ⟨⟨pin_at I3, I3.kIn⟩, ?_⟩))
  rw [hks]
  have z : wpAny (model X.prog X.w) X.A (call (.ref s1.heap.objs.size) ([] ++ []) (ks.zip ws)) (EP X ((s1.heap.objs.size, PySem.W.methodObj (.ref g) (.ref C)) :: pins) σ Q) X.xe s3 :=
    wpAny_call (PySem.W.method_call (pin_at I3) (run_fnkC (us := [.ref C]) (vs := [.ref C]) F hr hb hx I3 (.cons rfl .nil) rz q2))
  exact thn z fun _ _ y => unpinE y
end
end L2

set_option Elab.async false
set_option linter.all false
set_option maxRecDepth 100000
set_option maxHeartbeats 4000000
/-! Lambdas as values: made, kept in lists, called later by a def that gets them. -/
namespace LamX
open PySem PySem.Spec PyProof.Rows L2
/-- the object at f is known -/
def FnO (f : Addr) (o : Obj) : HO := .ext fun h => h.get? f = some o
/-- the object that a lambda of X makes -/
abbrev lamObj (X : Cx) (params : Arguments) (body : Expr) (scope : Scope) (pm ctv : Value) (c' : Addr) : Obj :=
  PySem.W.kla_obj "<lambda>" (X.env.qual ++ "<lambda>") params body scope (cloFrom X.env.cells scope.names []) pm c' ctv
/-- at f stands a lambda of X -/
def LamO (X : Cx) (H : Hp) (f : Addr) (params : Arguments) (body : Expr) (scope : Scope) : Prop :=
  ∃ (c' : Addr) (pm ctv : Value), H f = some (FnO f (lamObj X params body scope pm ctv c')) ∧ H c' = some (CodeO c' (X.env.qual ++ "<lambda>"))
theorem fnO_ne {f : Addr} {o : Obj} (ps : Array Value) : FnO f o ≠ .tbl ps := fun z => by
  unfold FnO at z
  cases z
theorem LamO.ext {X : Cx} {H H' : Hp} {f : Addr} {params : Arguments} {body : Expr} {scope : Scope} (l : LamO X H f params body scope) (e : ExtN H H') : LamO X H' f params body scope := by
  obtain ⟨c', pm, ctv, h1, h2⟩ := l
  exact ⟨c', pm, ctv, e _ _ h1 fnO_ne, e _ _ h2 codeO_ne⟩
theorem fnO_ok {P : Program} {w : World} {H : Hp} {h : Heap} {f : Addr} {o : Obj} (e : h.get? f = some o) : ObjOk P w H h f (FnO f o) :=
  ⟨e, ⟨o, e⟩, fun _ _ p k => k _ p⟩
section
variable {X : Cx} {pins : List (Addr × Obj)} {σ : L2.St} {H : Hp} {s : Shared}
/-- a lambda is made, and its object is known from now on -/
theorem lam_made {T : List (Addr × Str)} {c P : Addr} {params : Arguments} {body : Expr} {scope : Scope} {pos : Pos} {E : Value → Shared → Prop} {Q : Value → Shared → Prop} (I : Inv X pins σ H s) (TB : TabB X.base X.mg c P) (hcode : X.env.code = .ref c)
    (hm : (P, X.env.qual ++ "<lambda>") ∈ T) (hu : ∀ p ∈ T, p.1 = P → p.2 = X.env.qual ++ "<lambda>") (hT : Tabs T H) (hdef : defaultsOf params X.env = ([], []))
    (hfree : ∀ y ∈ scope.names, y.2 = .free → ∃ c, X.env.cells.lookup y.1 = some c)
    (k : ∀ (f : Addr) (H1 : Hp) (s' : Shared), Inv X pins σ H1 s' → ExtN H H1 → Tabs T H1 → H f = none → LamO X H1 f params body scope → Q (.ref f) s') :
    wpAny (model X.prog X.w) X.A (eval (.Lambda params body scope pos) X.env) Q E s := by
  have here := hT _ hm
  obtain ⟨ps, hP, trip, among⟩ := here
  have oP : s.heap.get? P = some { cls := .none, data := .fields ps } := I.hok P _ hP
  have gl := I.mod.glob.keeps I.bk
  have cd := TB.code.keeps I.bk
  have bP := TB.bm.keeps I.bk
  refine PySem.W.kla_eval hdef ?_
  cases hc : codeAmong pos ps.toList with
  | some cv =>
    obtain ⟨c1, rfl, known⟩ := among pos cv hc
    refine PySem.W.kla_makeFunctionHit (mg := X.mg) (c := c) (P := P) (ps := ps) (closure_ok hfree) I.ok.glob gl hcode cd oP trip hc bP fun ctv h1 tk hx hsz => ?_
    have J : Inv X pins σ H { s with heap := h1, toks := tk } := I.kept fun b o e => hx b o e
    have new : H h1.objs.size = none := I.hok.fresh hsz
    have J2 := J.laid (a := h1.objs.size) (t' := tk) (h' := h1.push (lamObj X params body scope ((X.mg "__name__").getD .none) ctv c1)) (o := FnO h1.objs.size (lamObj X params body scope ((X.mg "__name__").getD .none) ctv c1))
      (fun b u e => Heap.get?_push_of_some _ e) (Nat.le_refl _) (fnO_ok (Heap.get?_push_size _ rfl))
    have eN : ExtN H (upd H h1.objs.size (FnO h1.objs.size (lamObj X params body scope ((X.mg "__name__").getD .none) ctv c1))) := fun b o e _ => by
      rw [upd_ne (ne_of_none e new)]
      exact e
    exact k _ _ _ J2 eN (hT.ext fun b o e => by rw [upd_ne (ne_of_none e new)]; exact e) new ⟨c1, _, _, upd_same, eN _ _ known codeO_ne⟩
  | none =>
    refine PySem.W.kla_makeFunction (mg := X.mg) (c := c) (P := P) (ps := ps) (closure_ok hfree) I.ok.glob gl hcode cd oP trip hc TB.gP bP fun c1 ctv h1 tk hx hge hlt hrec htb => ?_
    obtain ⟨c2, oc, vs, t, e2, hoc, hd, hv⟩ := hrec
    cases e2
    have nC : H c1 = none := I.hok.fresh hge
    have J := inv_table (t' := tk) (more := #[rawInt pos.line, rawInt pos.col, .ref c1]) (h' := h1) I hP hx htb hge ⟨oc, vs, t, hoc, hd, hv⟩
    have hsz : s.heap.objs.size ≤ h1.objs.size := Nat.le_trans hge (Nat.le_of_lt hlt)
    have new0 : H h1.objs.size = none := I.hok.fresh hsz
    have new : upd (upd H P (.tbl (ps ++ #[rawInt pos.line, rawInt pos.col, .ref c1]))) c1 (CodeO c1 (X.env.qual ++ "<lambda>")) h1.objs.size = none := J.hok.fresh (Nat.le_refl _)
    have J2 := J.laid (a := h1.objs.size) (t' := tk) (h' := h1.push (lamObj X params body scope ((X.mg "__name__").getD .none) ctv c1)) (o := FnO h1.objs.size (lamObj X params body scope ((X.mg "__name__").getD .none) ctv c1))
      (fun b u e => Heap.get?_push_of_some _ e) (Nat.le_refl _) (fnO_ok (Heap.get?_push_size _ rfl))
    have eA : ExtN H (upd (upd H P (.tbl (ps ++ #[rawInt pos.line, rawInt pos.col, .ref c1]))) c1 (CodeO c1 (X.env.qual ++ "<lambda>"))) := fun b o e n => by
      have h1 : b ≠ P := fun z => by
        rw [z, hP] at e
        exact n ps (Option.some.inj e).symm
      rw [upd_ne (ne_of_none e nC), upd_ne h1]
      exact e
    have known : upd (upd H P (.tbl (ps ++ #[rawInt pos.line, rawInt pos.col, .ref c1]))) c1 (CodeO c1 (X.env.qual ++ "<lambda>")) c1 = some (CodeO c1 (X.env.qual ++ "<lambda>")) := upd_same
    have tA : Tabs T (upd (upd H P (.tbl (ps ++ #[rawInt pos.line, rawInt pos.col, .ref c1]))) c1 (CodeO c1 (X.env.qual ++ "<lambda>"))) := fun p hp => by
      by_cases hb : p.1 = P
      · rw [hu p hp hb, hb]
        refine ⟨ps ++ #[rawInt pos.line, rawInt pos.col, .ref c1], by rw [upd_ne (ne_of_none hP nC), upd_same], ?_, fun p2 cv hcv => ?_⟩
        · rw [Array.toList_append]
          exact PySem.TriplesOk_snoc _ _ _ _ trip
        · rw [Array.toList_append] at hcv
          rcases among_app _ trip hcv with z | z
          · obtain ⟨c0, e1, e3⟩ := among p2 cv z
            exact ⟨c0, e1, eA _ _ e3 codeO_ne⟩
          · exact ⟨c1, z, known⟩
      · obtain ⟨qs, a1, a2, a3⟩ := hT p hp
        refine ⟨qs, by rw [upd_ne (ne_of_none a1 nC), upd_ne hb]; exact a1, a2, fun p2 cv hcv => ?_⟩
        obtain ⟨c0, e1, e3⟩ := a3 p2 cv hcv
        exact ⟨c0, e1, eA _ _ e3 codeO_ne⟩
    generalize upd (upd H P (.tbl (ps ++ #[rawInt pos.line, rawInt pos.col, .ref c1]))) c1 (CodeO c1 (X.env.qual ++ "<lambda>")) = HA at J J2 new eA known tA
    have st : ∀ b o, HA b = some o → upd HA h1.objs.size (FnO h1.objs.size (lamObj X params body scope ((X.mg "__name__").getD .none) ctv c1)) b = some o := fun b o e => by
      rw [upd_ne (ne_of_none e new)]
      exact e
    exact k _ _ _ J2 (eA.trans (ExtN.of st)) (tA.ext st) new0 ⟨c1, _, _, upd_same, st _ _ known⟩
/-- a lambda as a value -/
theorem pe_lamV {T : List (Addr × Str)} {c P : Addr} {params : Arguments} {body : Expr} {scope : Scope} {pos : Pos} (TB : TabB X.base X.mg c P) (hcode : X.env.code = .ref c) (hm : (P, X.env.qual ++ "<lambda>") ∈ T)
    (hu : ∀ p ∈ T, p.1 = P → p.2 = X.env.qual ++ "<lambda>") (L : LamS X.env.scope scope) (hdef : defaultsOf params X.env = ([], [])) :
    PE X (.Lambda params body scope pos) (fun _ H Q => Tabs T H ∧ ∀ f H1, ExtN H H1 → Tabs T H1 → H f = none → LamO X H1 f params body scope → Q (.ref f) H1) := by
  refine ⟨fun pins s σ H Q I h => ?_⟩
  obtain ⟨hT, h⟩ := h
  exact lam_made I TB hcode hm hu hT hdef (L.has I.ok) fun f H1 s' J eN tA nf l => ⟨.ref f, H1, J, rfl, h f H1 eN tA nf l⟩
end
end LamX

set_option Elab.async false
set_option linter.all false
set_option maxRecDepth 100000
set_option maxHeartbeats 4000000
/-! A def that calls what it got, where what it got is a lambda kept before. -/
namespace LamX
open PySem PySem.Spec PyProof.Rows L2
/-- what a lambda of X must be -/
structure LamOk (X : Cx) (k : Nat) (params : Arguments) (body : Expr) (scope : Scope) (t : XK → TE) : Prop where
  own : LamS X.env.scope scope
  bind : ∀ (q : Str) (cl : List (Str × Addr)) (pm cv ctv : Value), bindArgs (PySem.W.kla_fn "<lambda>" q params body scope cl pm cv ctv) ⟨[], []⟩ = pure []
  reads : ∀ (A : Around) (outer : List Env) (s : Shared) (H : Hp) (E : XK) (f c' : Addr), Room k (A.deeper (lamEnv X scope s.heap.objs.size f c')) → PE (lamCx X A outer s H E scope f c') body (t E)
/-- a def x(a) that calls a: f stands for what it got, Kn is what is known of f -/
def GivesK (X : Cx) (Ng : List Str) (x : Str) (sg : Scope) (g : Addr) (cdg : Value) (bg : List Stmt) (a : Str) (TT : (XK → Hp → VK → Prop) → Hp → VK → Prop) : Prop :=
  ∀ (f : Addr) (Kn : Hp → Prop) (s : Shared) (H : Hp) (Q : VK) (tl : XK → Hp → VK → Prop), (∀ H H' : Hp, Kn H → (∀ b o, H b = some o → H' b = some o) → Kn H') →
    (∀ (W : WX) (pn : List (Addr × Obj)) (xe : Value → Shared → Prop) (E : XK) (p1 p2 : Pos), Takes ((cxOf C8.CX0 X.prog X.w X.K X.mg X.base Ng x sg g cdg X.A X.stack s H C8.E0).tr pn xe) W → (∀ cls d σ' H', E cls d H' → W cls d σ' H') →
      PE ((cxOf C8.CX0 X.prog X.w X.K X.mg X.base Ng x sg g cdg X.A X.stack s H C8.E0).tr pn xe) (.Call (.Name a p1) [] [] p2) (fun σZ HZ Q => σZ[0]? = some (some (.ref f)) ∧ Kn HZ ∧ tl E HZ Q)) →
    Kn H → TT tl H Q →
    ∃ t, PSs (cxOf C8.CX0 X.prog X.w X.K X.mg X.base Ng x sg g cdg X.A X.stack s H C8.E0).nox bg t ∧ t { nx := fun _ H' => Q .non H', rt := Q } (L2.start Ng [.ref f]) H
theorem GivesK.to {X : Cx} {Ng : List Str} {x a q : Str} {sg : Scope} {g : Addr} {cdg : Value} {bg : List Stmt} {TT : (XK → Hp → VK → Prop) → Hp → VK → Prop} (G : GivesK X Ng x sg g cdg bg a TT) : GivesTo X Ng x sg g cdg bg a q TT :=
  fun f c' s H Q tl act hc h => G f (fun HZ => HZ c' = some (CodeO c' q)) s H Q tl (fun _ _ z e => e _ _ z) act hc h
section
variable {X : Cx} {pins : List (Addr × Obj)} {σ : L2.St} {H : Hp} {s : Shared}
/-- a() in the def that got a kept lambda -/
theorem act_kept {CXg : CXT} {Eg : XK} {Ng : List Str} {qg : Str} {sg : Scope} {g f c1 : Addr} {cdg pm ctv : Value} {params : Arguments} {body : Expr} {scope : Scope} {k i : Nat} {a : Str} {pn : List (Addr × Obj)} {xe : Value → Shared → Prop} {W : WX} {E : XK} {t : XK → TE} {p1 p2 : Pos}
    (I : Inv X pins σ H s) (l : LamOk X k params body scope t) (tk : Takes ((cxOf CXg X.prog X.w X.K X.mg X.base Ng qg sg g cdg X.A X.stack s H Eg).tr pn xe) W) (hW : ∀ cls d σ' H', E cls d H' → W cls d σ' H')
    (room : Room (k + 1) (X.A.deeper (envOfC qg sg s.heap.objs.size g cdg))) (hN : Ng[i]? = some a) (hv : Vis sg a) (hd : (a == ("__debug__" : Str)) = false := by decide) (hcd : (a == ("__classdict__" : Str)) = false := by decide) :
    PE ((cxOf CXg X.prog X.w X.K X.mg X.base Ng qg sg g cdg X.A X.stack s H Eg).tr pn xe) (.Call (.Name a p1) [] [] p2)
      (fun σZ HZ Q => σZ[i]? = some (some (.ref f)) ∧ (HZ f = some (FnO f (lamObj X params body scope pm ctv c1)) ∧ HZ c1 = some (CodeO c1 (X.env.qual ++ "<lambda>"))) ∧ t E σ HZ Q) := by
  have own := l.own
  refine ⟨fun pinsZ sZ σZ HZ Q IZ h => ?_⟩
  obtain ⟨at_, ⟨kf, kc⟩, rest⟩ := h
  have name := (pe_var (pos := p1) (i := i) hN hv hd hcd).run pinsZ sZ σZ HZ (fun v H1 => v = .ref f ∧ H1 = HZ) IZ ⟨.ref f, at_, rfl, rfl⟩
  refine wpAny_Call_Name_kw (thn name fun u s1 z => ?_)
  obtain ⟨v, H1, J, rel, rfl, rfl⟩ := z
  obtain rfl : u = Value.ref f := rel
  have obj : s1.heap.get? f = some (lamObj X params body scope pm ctv c1) := (J.hok f _ kf).1
  have code := (J.hok c1 _ kc).1
  obtain ⟨oc, vs, tt, code1, code2, code3⟩ := code
  refine PySem.W.callWith_F0 ⟨_, _, _, _, obj⟩ ?_
  have ran : codeAny (model X.prog X.w) (X.A.deeper (envOfC qg sg s.heap.objs.size g cdg)) (.call (.ref f) ⟨[], []⟩) (CR (L2.CX X.prog X.w) (envOfC qg sg s.heap.objs.size g cdg :: X.stack) X.prog X.w H1 s1 Q E) s1 := by
    refine PySem.W.kla_callFunE room.depth obj rfl own.co own.gen rfl ⟨c1, oc, vs, tt, rfl, code1, code2, code3⟩ ?_
    rw [l.bind]
    refine wpAny_pure (wpAny_newFunctionEnv (fun y hy => (own.own y hy).2) (fun y hy => absurd hy (by simp)) (fun h₁ hns hsb => ?_) own.kind)
    refine ⟨J.nolimit.fresh _ hsb, ?_⟩
    have stay : ∀ b o, s1.heap.get? b = some o → h₁.get? b = some o := fun b o e => hsb.extBut b o (Nat.ne_of_lt (Heap.lt_size e)) (Heap.get?_push_of_some _ e)
    have start : Inv (lamCx X (X.A.deeper (envOfC qg sg s.heap.objs.size g cdg)) (envOfC qg sg s.heap.objs.size g cdg :: X.stack) s1 H1 E scope f c1) [] σ H1 { s1 with heap := h₁, toks := s1.toks + ([] : List (Str × Value)).length } :=
      lam_start2 I own J.env0 room.hd J.base hns stay
    have go := (l.reads _ _ s1 H1 E f c1 (room.deeper _)).run [] _ _ H1 Q start rest
    refine PySem.W.kla_codeExpr (wpAny_mono go (fun v s' hq => ?_) fun e s' hq => hq)
    obtain ⟨w', H', J', rv, q⟩ := hq
    exact ⟨w', H', J'.os, J'.bare, J'.base, J'.hok, rv, q⟩
  have out : Passes (L2.CX X.prog X.w) ((cxOf CXg X.prog X.w X.K X.mg X.base Ng qg sg g cdg X.A X.stack s H Eg).tr pn xe) E := passes_call tk hW
  refine wpAny_call (codeAny_mono ran fun r s' hq => ?_)
  match r, hq with
  | .error e, hq => exact out pinsZ σZ H1 s1 e s' J hq
  | .ok (.ret u), hq => exact J.after hq
  | .ok .next, hq => exact False.elim hq
  | .ok .brk, hq => exact False.elim hq
  | .ok .cont, hq => exact False.elim hq
/-- a kept lambda, handed on -/
def tLamV (X : Cx) (k : Nat) (TT : (XK → Hp → VK → Prop) → Hp → VK → Prop) (ta : TA) : TE := fun σ H Q => ta σ H fun vs H1 =>
  ∃ (f : Addr) (params : Arguments) (body : Expr) (scope : Scope) (t : XK → TE), vs = [.ref f] ∧ LamOk X k params body scope t ∧ LamO X H1 f params body scope ∧ TT (fun E H' Q' => t E σ H' Q') H1 Q
theorem pe_keptcall {TT : (XK → Hp → VK → Prop) → Hp → VK → Prop} {x a : Str} {g : Addr} {k : Nat} {pg : Arguments} {bg : List Stmt} {sg : Scope} {dV kV doc pm cdv ct oc : Value} {an od : Option Addr} {osl : Array (Option Value)} {Ng : List Str} {e : Expr} {ta : TA} {p pos : Pos}
    (hg : Gl X x) (hm : X.mg x = some (.ref g)) (hk : PySem.W.keepIn X.K (.ref g) = true) (lk : X.K.lookup g = some ⟨oc, od, .func (PySem.W.fnOf x x pg bg sg dV kV doc pm an cdv ct), osl⟩) (hcg : PySem.W.codeIn X.K cdv x = true)
    (hb : L2.Binds X.K (PySem.W.fnOf x x pg bg sg dV kV doc pm an cdv ct) [a] []) (Sg : FnScope Ng [a] sg) (hNg : Ng[0]? = some a) (hva : Vis sg a) (hG : GivesK X Ng x sg g cdv bg a TT) (hr : Room (k + 2) X.A) (ha : PA X [e] ta)
    (he : starEach [e] X.env = (false, eval e X.env) :: starEach [] X.env := by rfl) (hpl : (backTo pos (starEach [] X.env)).any (·.1) = false := by rfl) (hdb : (x == ("__debug__" : Str)) = false := by decide) (hd : (a == ("__debug__" : Str)) = false := by decide) (hcd : (a == ("__classdict__" : Str)) = false := by decide) :
    PE X (.Call (.Name x p) [e] [] pos) (tLamV X k TT ta) := by
  refine ⟨fun pins s σ H Q I h => ?_⟩
  refine wpAny_Call_Name_kw (ld_glob I hg hm ?_ hdb)
  refine PySem.W.callWith_K (h₀ := X.base) I.ok.mod.kin hk (thn (ha.run pos pins s σ H _ I h) fun us s1 z => ?_) he hpl
  obtain ⟨vs, H1, J, rel, f, params, body, scope, t, rfl, ok, ⟨c1, pmf, ctf, kf, kc⟩, q⟩ := z
  obtain ⟨u, rfl, ru⟩ : ∃ u, us = [u] ∧ RelV (.ref f) u := by
    cases rel with
    | cons r rr =>
      cases rr
      exact ⟨_, rfl, r⟩
  obtain rfl : u = Value.ref f := ru
  refine ⟨J.kIn, ?_⟩
  have ran : codeAny (model X.prog X.w) X.A (.call (.ref g) ⟨[.ref f], []⟩) (CR C8.CX0 X.stack X.prog X.w H1 s1 Q C8.E0) s1 := by
    refine run_ofS (N := Ng) (ps := [a]) (us := [.ref f]) (vs := [.ref f]) lk hcg Sg hr J.env0 (hb s1 [.ref f] J.kIn rfl) (.cons rfl .nil) rfl fun room => ?_
    obtain ⟨t1, ht1, hq1⟩ := hG f (fun HZ => HZ f = some (FnO f (lamObj X params body scope pmf ctf c1)) ∧ HZ c1 = some (CodeO c1 (X.env.qual ++ "<lambda>"))) s1 H1 Q (fun E H' Q' => t E σ H' Q')
      (fun _ _ z e => ⟨e _ _ z.1, e _ _ z.2⟩) (fun W pn xe E p1 p2 tk hW => act_kept (i := 0) J ok tk hW room hNg hva hd hcd) ⟨kf, kc⟩ q
    exact ⟨t1, ht1.nox, hq1⟩
  refine wpAny_call (codeAny_mono ran fun r s2 hq => ?_)
  match r, hq with
  | .error e, hq => exact (show False from hq).elim
  | .ok (.ret u), hq => exact J.after hq
  | .ok .next, hq => exact False.elim hq
  | .ok .brk, hq => exact False.elim hq
  | .ok .cont, hq => exact False.elim hq
end
end LamX

set_option Elab.async false
set_option linter.all false
set_option maxRecDepth 100000
set_option maxHeartbeats 4000000
/-! zip(text, text). -/
namespace L2
open PySem PySem.Spec PyProof.Rows
/-- the signs of two texts of one length, in new pairs -/
def ItSz (x y : Str) (n : Nat) : It :=
  ⟨fun i _ => i < n, fun i H v H' => ∃ T c d, v = .ref T ∧ H T = none ∧ H' = upd H T (.tup [.str ⟨#[c]⟩, .str ⟨#[d]⟩]) ∧ x.cps[i]? = some c ∧ y.cps[i]? = some d, fun i _ => i = n⟩
theorem turn_zipS {P : Program} {w : World} {K : PySem.W.Frag} {elts : List Expr} {kk : Nat} {tpos : Pos} {n : Nat} (x y : Str) (t t2 : Tok) {z TI TO i1 i2 : Addr} (S : ZipSep2 z TI TO i1 i2 [i1] [i2]) (ex : x.cps.size = n) (ey : y.cps.size = n) :
    Turn P w K (.Tuple elts kk tpos) (ItSz x y n) [z, TI, TO, i1, i2] z (fun i h => IsZip h z TI TO .none ∧ IsTupOf2 h TI (.ref i1) (.ref i2) ∧ (∃ a b, IsTupOf2 h TO a b) ∧ h.IsStrIter i1 (strIterType x) x t i ∧ h.IsStrIter i2 (strIterType y) y t2 i) where
  mem := by simp
  obj := fun i h st c hc => by
    obtain ⟨hz, hTI, ⟨a, b, hTO⟩, ⟨o1, e1, _, d1⟩, ⟨o2, e2, _, d2⟩⟩ := st
    have e' : c = z ∨ c = TI ∨ c = TO ∨ c = i1 ∨ c = i2 := by simpa using hc
    rcases e' with q | q | q | q | q
    · rw [q]; exact ⟨_, hz, fun v q => nomatch q⟩
    · rw [q]; exact ⟨_, hTI, fun v q => nomatch q⟩
    · rw [q]; exact ⟨_, hTO, fun v q => nomatch q⟩
    · rw [q]; exact ⟨o1, e1, fun v q => by rw [d1] at q; cases q⟩
    · rw [q]; exact ⟨o2, e2, fun v q => by rw [d2] at q; cases q⟩
  keep := fun i h h' st k => by
    obtain ⟨hz, hTI, ⟨a, b, hTO⟩, ⟨o1, q1, r1⟩, ⟨o2, q2, r2⟩⟩ := st
    exact ⟨k z (by simp) _ hz, k TI (by simp) _ hTI, ⟨a, b, k TO (by simp) _ hTO⟩, ⟨o1, k i1 (by simp) _ q1, r1⟩, ⟨o2, k i2 (by simp) _ q2, r2⟩⟩
  item := by
    intro X hP hw hK hc i pins s σ H E I hf st hg
    subst hP hw hK
    obtain ⟨hz, hTI, ⟨a0, b0, hTO⟩, h1, h2⟩ := st
    have hzl : z < s.heap.objs.size := Heap.lt_size hz
    have hl1 : i < x.cps.size := by rw [ex]; exact hg
    have hl2 : i < y.cps.size := by rw [ey]; exact hg
    refine wpAny_pyNext_zipD2_item S (Draws.text (A := X.A.in1) (I.ok.hd hc) i1 x t) (Draws.text (A := X.A.in1) (I.ok.hd hc) i2 y t2) hz hTI hTO h1 h2 hl1 hl2 fun x1 x2 h' tk hx1 hx2 z' TO' h1' h2' hT hsz hk => ?_
    obtain ⟨c, u, hcx, rfl⟩ := hx1
    obtain ⟨d, u2, hdx, rfl⟩ := hx2
    refine ⟨_, rfl, wpAny_letOwnedTupleGo_zip (s := { s with heap := h', toks := tk }) z' fun h'' z'' sb => ?_⟩
    have hT2 : h''.get? s.heap.objs.size = some { cls := .type "tuple", data := .seq #[.str ⟨#[c]⟩ u, .str ⟨#[d]⟩ u2] } := (sb.2 _ (Nat.ne_of_gt hzl)).trans hT
    have new : ObjOk X.prog X.w (upd H s.heap.objs.size (.tup [.str ⟨#[c]⟩, .str ⟨#[d]⟩])) h'' s.heap.objs.size (.tup [.str ⟨#[c]⟩, .str ⟨#[d]⟩]) :=
      ⟨by show 2 ≤ sizeLine; decide, [.str ⟨#[c]⟩ u, .str ⟨#[d]⟩ u2], .cons ⟨_, rfl⟩ (.cons ⟨_, rfl⟩ .nil), ⟨_, hT2, rfl, _, rfl⟩⟩
    have I1 : Inv X pins σ (upd H s.heap.objs.size (.tup [.str ⟨#[c]⟩, .str ⟨#[d]⟩])) { s with heap := h'', toks := tk } :=
      I.turnedNew (t' := tk) (ch := [z, TI, TO, i1, i2]) (fun c o hb q => (sb.2 c (fun q' => hb (by simp [q']))).trans (hk c o (fun q' => hb (by simp [q'])) (fun q' => hb (by simp [q'])) (fun q' => hb (by simp [q'])) (fun q' => hb (by simp [q'])) q)) hf (Nat.le_refl _) new
    refine ⟨.ref s.heap.objs.size, _, I1, rfl, ⟨_, c, d, rfl, I.hok.fresh (Nat.le_refl _), rfl, hcx, hdx⟩, ⟨z'', ?_, ⟨.str ⟨#[c]⟩ u, .str ⟨#[d]⟩ u2, ?_⟩, ?_, ?_⟩, fun c hcm => ?_⟩
    · exact (sb.2 _ S.TIz).trans (hk _ _ S.TIz S.TITO S.TIi1 S.TIi2 hTI)
    · exact (sb.2 _ S.TOz).trans TO'
    · obtain ⟨o, q, r⟩ := h1'
      exact ⟨o, (sb.2 _ (Ne.symm S.zi1)).trans q, r⟩
    · obtain ⟨o, q, r⟩ := h2'
      exact ⟨o, (sb.2 _ (Ne.symm S.zi2)).trans q, r⟩
    · have hlt : c < s.heap.objs.size := by
        have e' : c = z ∨ c = TI ∨ c = TO ∨ c = i1 ∨ c = i2 := by simpa using hcm
        rcases e' with q | q | q | q | q
        · rw [q]; exact hzl
        · rw [q]; exact Heap.lt_size hTI
        · rw [q]; exact Heap.lt_size hTO
        · rw [q]; obtain ⟨_, e1, _⟩ := h1; exact Heap.lt_size e1
        · rw [q]; obtain ⟨_, e2, _⟩ := h2; exact Heap.lt_size e2
      rw [upd_ne (Nat.ne_of_lt hlt)]
      exact (hf c hcm).1
  done := by
    intro X hP hw hK hc i pins s σ H E I hf st hg
    subst hP hw hK
    obtain ⟨hz, hTI, ⟨a0, b0, hTO⟩, h1, h2⟩ := st
    have hi : i = n := hg
    exact wpAny_pyNext_zipD2_end S (Draws.text (A := X.A.in1) (I.ok.hd hc) i1 x t) (Draws.text (A := X.A.in1) (I.ok.hd hc) i2 y t2) hz hTI hTO h1 h2 (by omega) (by omega) (.inl (by omega)) fun h' tk hk => ⟨rfl, I.turnedL (t' := tk) (ch := [z, TI, TO, i1, i2]) (fun c o hb q =>
      hk c o (fun q' => hb (by simp [q'])) (fun q' => hb (by simp [q'])) (fun q' => hb (by simp [q'])) (fun q' => hb (by simp [q'])) q) hf⟩
  self := fun A i s Q E st h => wpAny_pyIter_zip st.1 h
theorem zsep (n : Nat) : ZipSep2 (n + 4) (n + 2) (n + 3) n (n + 1) [n] [n + 1] where
  TIz := by show (n + 2 : Nat) ≠ n + 4; omega
  TOz := by show (n + 3 : Nat) ≠ n + 4; omega
  TITO := by show (n + 2 : Nat) ≠ n + 3; omega
  TIi1 := by show (n + 2 : Nat) ≠ n; omega
  mem1 := List.mem_singleton.mpr rfl
  zf1 := fun h => by have : (n + 4 : Nat) = n := List.mem_singleton.mp h; omega
  Tf1 := fun h => by have : (n + 3 : Nat) = n := List.mem_singleton.mp h; omega
  TIi2 := by show (n + 2 : Nat) ≠ n + 1; omega
  mem2 := List.mem_singleton.mpr rfl
  zf2 := fun h => by have : (n + 4 : Nat) = n + 1 := List.mem_singleton.mp h; omega
  Tf2 := fun h => by have : (n + 3 : Nat) = n + 1 := List.mem_singleton.mp h; omega
  sep1_2 := fun h => by have : (n : Nat) = n + 1 := List.mem_singleton.mp h; omega
  sep2_1 := fun h => by have : (n + 1 : Nat) = n := List.mem_singleton.mp h; omega
def iZipS (ta : TA) : TI := fun σ H R => ta σ H fun vs H1 => ∃ x y n, vs = [.str x, .str y] ∧ x.cps.size = n ∧ y.cps.size = n ∧ R (ItSz x y n) H1
theorem pi_zipS {X : Cx} {e e2 : Expr} {ta : TA} {p pos tpos : Pos} {elts : List Expr} {kk : Nat} (hg : Gl X "zip") (hm : X.mg "zip" = none) (ha : PA X [e, e2] ta)
    (hs : starEach [e, e2] X.env = (false, eval e X.env) :: starEach [e2] X.env := by rfl) (hpl : (backTo pos (starEach [e2] X.env)).any (·.1) = false := by rfl) :
    PI X (.Tuple elts kk tpos) (.Call (.Name "zip" p) [e, e2] [] pos) (iZipS ta) := by
  refine ⟨fun pins s σ H R I h => ?_⟩
  refine Call_ (ld_blt I hg hm PyProof.Rows.boot_zip (PyProof.Rows.callWith_type1 (thn (ha.run pos pins s σ H _ I h) fun us s1 ⟨vs, H1, I1, r1, q1⟩ => ?_) hs hpl))
  obtain ⟨x, y, n, rfl, ex, ey, q⟩ := q1
  cases r1 with
  | cons r rr =>
    cases rr with
    | cons r' rr =>
      cases rr
      obtain ⟨t, rfl⟩ := r
      obtain ⟨t2, rfl⟩ := r'
      have fresh5 : ∀ c, c ∈ [s1.heap.objs.size + 4, s1.heap.objs.size + 2, s1.heap.objs.size + 3, s1.heap.objs.size, s1.heap.objs.size + 1] → FpOk X pins H1 c := fun c hcm => by
        have e' : c = s1.heap.objs.size + 4 ∨ c = s1.heap.objs.size + 2 ∨ c = s1.heap.objs.size + 3 ∨ c = s1.heap.objs.size ∨ c = s1.heap.objs.size + 1 := by simpa using hcm
        have hle : s1.heap.objs.size ≤ c := by
          rcases e' with z | z | z | z | z
          · rw [z]; exact Nat.le_add_right _ _
          · rw [z]; exact Nat.le_add_right _ _
          · rw [z]; exact Nat.le_add_right _ _
          · rw [z]; exact Nat.le_refl _
          · rw [z]; exact Nat.le_add_right _ _
        exact I1.fpOk hle (I1.hok.fresh hle)
      refine zip_begins2 (begins_text x t) (begins_text y t2) trivial trivial fun h' hz hTI hTO h1 h2 hsz hk => wpAny_pyIter_zip hz ?_
      have I2 : Inv X pins σ H1 { s1 with heap := h' } := I1.kept (t' := s1.toks) hk
      refine ⟨s1.heap.objs.size + 4, [s1.heap.objs.size + 4, s1.heap.objs.size + 2, s1.heap.objs.size + 3, s1.heap.objs.size, s1.heap.objs.size + 1], _, _, H1, rfl, I2, turn_zipS x y t t2 (zsep _) ex ey, ⟨hz, hTI, ⟨_, _, hTO⟩, ⟨_, h1, rfl, rfl⟩, ⟨_, h2, rfl, rfl⟩⟩, fresh5, q⟩
theorem walk_zipS {x y : Str} {n : Nat} : Walk (ItSz x y n) n (fun _ => True) (fun i H v H' => ∃ T c d, v = .ref T ∧ H T = none ∧ H' = upd H T (.tup [.str ⟨#[c]⟩, .str ⟨#[d]⟩]) ∧ x.cps[i]? = some c ∧ y.cps[i]? = some d) :=
  ⟨fun _ _ hi _ => hi, fun _ _ => rfl, fun _ _ _ _ _ _ y => y⟩
end L2

set_option Elab.async false
set_option linter.all false
set_option maxRecDepth 100000
set_option maxHeartbeats 4000000
/-! text * k. -/
namespace L2
open PySem PySem.Spec PyProof.Rows
theorem op_repS {X : Cx} : OpR X (binaryOp .Mult) (fun x y H Q => ∃ z k, x = .str z ∧ y = .int k ∧ z.length ≤ 1000 ∧ 0 ≤ k ∧ k ≤ 1000 ∧ Q (.str (Txt.mul z k)) H) := by
  intro pins s σ H x y v u Q I rx ry h
  obtain ⟨z, k, rfl, rfl, hz, k0, k1, q⟩ := h
  obtain ⟨t, rfl⟩ := rx
  obtain ⟨t', rfl⟩ := ry
  exact SB.mul (PyProof.Rows.mulOk_of 1000 1000 hz k1 (by omega) (by decide) (by decide)) fun t' tk => ⟨.str _, H, I.tok _, ⟨_, rfl⟩, q⟩
end L2

set_option Elab.async false
set_option linter.all false
set_option maxRecDepth 100000
set_option maxHeartbeats 4000000
/-! Equal dicts, whose values are data of any depth; iter(a dict) and loops by it. -/
namespace L2
open PySem PySem.Spec PyProof.Rows ItX
section
variable {X : Cx} {pins : List (Addr × Obj)} {σ : L2.St} {H : Hp} {s : Shared}
/-- each of the one has an equal one behind the same key -/
def AlikeD (K : PySem.W.Frag) (H : Hp) (ks ls : List (Key × V)) : Prop := ∀ p ∈ ks, ∃ y d, valV ls p.1 = some y ∧ Dp K H p.2 d ∧ Dp K H y d ∧ SeqAt.shaped d = true
theorem hits_data {A : Around} (I : Inv X pins σ H s) (hA : A.units + 64 < cLine) {ls : List (Key × V)} {vb : List (Key × Value)} (rb : KV ls vb) {ks : List (Key × V)} {va : List (Key × Value)} (ra : KV ks va) : AlikeD X.K H ks ls → PySem.W.KeqHits A s vb va true := by
  unfold KV at ra
  induction ra with
  | nil => intro _; exact .nil
  | @cons p q ps qs h t ih =>
    intro hp
    obtain ⟨y, d, e, d1, d2, sh⟩ := hp p List.mem_cons_self
    obtain ⟨h1, h2⟩ := h
    obtain ⟨k, v⟩ := q
    have h1' : p.1 = k := h1
    have rr : RelO (valV ls p.1) (valueAt vb p.1) := rb.val p.1
    rw [e] at rr
    obtain ⟨y', hy, ry⟩ := rr.some_of
    rw [h1'] at hy
    obtain ⟨as, r1⟩ := Dp.reads I d p.2 v d1 h2
    obtain ⟨bs, r2⟩ := Dp.reads I d y y' d2 ry
    have sh' : (d.canLay0 && decide (d.depth ≤ 64)) = true := sh
    rw [Bool.and_eq_true] at sh'
    have dep := of_decide_eq_true sh'.2
    have hh := SeqAt.eqAt_reads d d A s v y' as bs r1 r2 sh'.1 sh'.1 (by omega)
    rw [SeqAt.eqv_refl d sh'.1] at hh
    exact .hit hy hh (ih fun p' hm => hp p' (List.mem_cons_of_mem _ hm))
def rEqDD (K : PySem.W.Frag) : R2 := fun x y H Q => ∃ a b ks ls, x = .ref a ∧ y = .ref b ∧ Rd H a (.dK ks) ∧ Rd H b (.dK ls) ∧ ks.length = ls.length ∧ AlikeD K H ks ls ∧ Q (.bl true) H
theorem op_eqDD {K : PySem.W.Frag} {j : Nat} (hK : X.K = K) (hr : Room j X.A) : OpR X (compareOp .Eq) (rEqDD K) := by
  subst hK
  intro pins s σ H x y v u Q I rx ry h
  obtain ⟨a, b, ks, ls, rfl, rfl, ea, eb, hl, al, q⟩ := h
  obtain rfl : v = Value.ref a := rx
  obtain rfl : u = Value.ref b := ry
  obtain ⟨_, ya, va, ra, da⟩ := dk_rd I.hok ea
  obtain ⟨_, yb, vb, rb, db⟩ := dk_rd I.hok eb
  have h1 : va.length = ks.length := (Paired.length ra).symm
  have h2 : vb.length = ls.length := (Paired.length rb).symm
  have hu := hr.un
  refine PySem.W.keq_eq (knd := mixKind X.prog X.w) (r := true) ya yb da db (by omega) (fun _ => hits_data I (by show X.A.units + 1 + 64 < cLine; omega) rb ra al) (fin_bl I q ?_)
  rw [h1, h2, hl]
  simp
end
/-- at it a fresh iterator of the keys of the dict at d, whose object is o -/
def ItK (d : Addr) (o : Obj) (n : Nat) (it : Addr) : HO := .ext fun h => ∃ es ep, o.data = .dict es ep ∧ h.IsKeyIter it d 0 n ep
theorem itK_ok {P : Program} {w : World} {H : Hp} {h : Heap} {d it : Addr} {o : Obj} {n : Nat} {es : Array DictEntry} {ep : Nat} (e : o.data = .dict es ep) (k : h.IsKeyIter it d 0 n ep) : ObjOk P w H h it (ItK d o n it) := by
  obtain ⟨oi, e1, e2, e3⟩ := id k
  exact ⟨⟨es, ep, e, k⟩, ⟨oi, e1⟩, fun h1 h2 q st => by
    obtain ⟨es', ep', e', k'⟩ := q
    exact ⟨es', ep', e', k'.at fun oi e => st oi e⟩⟩
section
variable {X : Cx}
theorem call_iterK : CallR X (.builtin "iter") (fun xs H Q => ∃ (d : Addr) (o : Obj) (kvs : List (Key × V)), xs = [.ref d] ∧ H d = some (.frz o (.dK kvs)) ∧ ∀ it, H it = none → X.s_0.heap.objs.size ≤ it → Q (.ref it) (upd H it (ItK d o kvs.length it))) := by
  intro pins s σ H xs us Q I r h
  obtain ⟨d, o, kvs, rfl, hd, q⟩ := h
  obtain rfl := Vals.ref1 r
  obtain ⟨hs, hgd, hx, es, ep, vs, hdt, hsz, kv, hm⟩ := I.frzK hd
  refine Calls.call_function_entry (by decide +kernel) (by decide +kernel) PySem.W.kdk_entry_iter (PySem.W.kdk_args_iter _) ?_
  unfold Builtin.«iter»
  refine wpAny_bind (m := someArgs "iter" 1 2 _) (wpAny_of_eq (a := [Value.ref d]) (by first | rfl | kernel_rfl!) ?_)
  show wpAny _ _ (pyIter (.ref d) >>= _) _ _ _
  refine wpAny_bind (iter_keys hs hgd hx hdt ?_)
  have key : (s.heap.push { cls := .type "dict_keyiterator", data := .fields #[.ref d, .int 0 0, .int es.size 0, .int ep 0] }).IsKeyIter s.heap.objs.size d 0 kvs.length ep := by
    refine ⟨_, Heap.get?_push_size _ rfl, rfl, ?_⟩
    rw [hsz] <;> rfl
  exact wpAny_pure ⟨_, rfl, .ref s.heap.objs.size, _, I.laid (t' := s.toks) (fun b u e => Heap.get?_push_of_some _ e) (Nat.le_refl _) (itK_ok hdt key), rfl, q _ (I.hok.fresh (Nat.le_refl _)) I.sz⟩
variable {n : Nat} {CX : CXT} {C f : Addr} {fd : FuncData} {ps : List Str} {sp : Sp} {E : XK} {sn : Nat → Sp}
/-- a loop by the class's own __iter__, which gives iter(a dict) -/
def iOwnK (K : PySem.W.Frag) (C : Addr) (m : Nat) (sn : Nat → Sp) (E : XK) (tl : TE) : TI := fun σ H R => tl σ H fun x H1 => ∃ a dx fs, x = .ref a ∧ H1 a = some (.ins C dx fs) ∧
  ∀ k, m ≤ k → sn k [.ref a] H1 (fun v H' => ∃ it d o kvs, v = .ref it ∧ k ≤ it ∧ H' it = some (ItK d o kvs.length it) ∧ H' d = some (.frz o (.dK kvs)) ∧ R (Itk d o kvs) (dropH H' it)) E
theorem pi_ownK {tg l : Expr} {tl : TE} (F : FnN X.prog X.w X.K X.mg X.base CX n f fd ps sn) (hb : Binds X.K fd ps []) (hx : Passes CX X E) (o : Own X.K C "__iter__" f) (hr : Room n X.A) (hl : PE X l tl) : PI X tg l (iOwnK X.K C X.s_0.heap.objs.size sn E tl) := by
  refine ⟨fun pins s σ H R I h => ?_⟩
  refine thn (hl.run pins s σ H _ I h) fun v s1 ⟨x, H1, I1, r1, q1⟩ => ?_
  obtain ⟨a, dx, fs, rfl, ha, hs⟩ := q1
  cases r1
  obtain ⟨od, J⟩ := inst_at I1 ha
  obtain ⟨m, hF⟩ := I1.fr
  refine PySem.W.owit_iter hF I1.ok.mod.kin J o.find o.fn (thn (run_N (Sub.here hr) F hb hx I1 (show Vals [V.ref a] [Value.ref a] from .cons rfl .nil) (hs s1.heap.objs.size I1.sz)) fun v s' q => ?_)
  obtain ⟨y, H', I', ry, ⟨it, d, ob, kvs, rfl, hn, hi, hd, q⟩⟩ := q
  cases ry
  have hy := Nat.le_trans I1.sz hn
  obtain ⟨es, ep, e1, k1⟩ := (I'.hok it _ hi).1
  obtain ⟨oi, e2, c2, d2⟩ := id k1
  have nd : d ≠ it := fun z => by
    rw [z, hi] at hd
    cases hd
  unfold PySem.W.OwitIt
  refine wpAny_specialOf (T := "dict_keyiterator") (v := .ref it) ⟨_, e2, c2⟩ PySem.F.slot_dict_keyiterator_next.lookup ?_
  refine ⟨it, [it], _, _, dropH H' it, rfl, inv_drop I' hi, turn_keys it e1, k1, fun b hb => ?_, q⟩
  have e : b = it := by simpa using hb
  subst e
  exact inv_fp I' hi hy
end
end L2

set_option Elab.async false
set_option linter.all false
set_option maxRecDepth 100000
set_option maxHeartbeats 4000000
/-! enumerate(a tuple). -/
namespace PySem
/-- enumerate's cells over what begins as B tells -/
theorem enumNewB {v : Value} {o : Obj} {H : Heap → Prop} (B : Begins v o H) :
    Meets (Builtin.«enumerate.__new__» ⟨[.type "enumerate", v], []⟩) (fun _ R s => H s.heap ∧
      R (.ok (.ret (.ref (s.heap.push o).objs.size))) { s with heap := (s.heap.push o).push { cls := .type "enumerate", data := .fields #[.none, .bool false, .ref s.heap.objs.size, rawInt 0, .none, .none] } }) :=
  .of_wp fun prog w A R s h => by
    obtain ⟨hp, g, d, tk, os⟩ := s
    obtain ⟨h1, h⟩ := h
    have sb := sub_enumerate
    have bg : ∀ {A' : Around} {E : Value → Shared → Prop} {Q : Value → Shared → Prop}, Q (.ref hp.objs.size) ⟨hp.push o, g, d, tk, os⟩ → wpAny (model prog w) A' (pyIter v) Q E ⟨hp, g, d, tk, os⟩ :=
      fun q => B.iter prog w _ _ ⟨hp, g, d, tk, os⟩ _ h1 q
    wp_walk using bg
    refine wpAny_stack_any fun _ => wpAny_pure ?_
    split
    · rename_i c _ _ _ _ _
      by_cases hc : (c == Value.type "enumerate") = true
      all_goals
        simp only [hc]
        wp_walk using bg
        exact ⟨_, rfl, h⟩
    · wp_walk using bg
      exact ⟨_, rfl, h⟩
theorem enumCall {prog : Program} {w : World} {A : Around} {E : Value → Shared → Prop} {s : Shared} {v : Value} {o : Obj} {H : Heap → Prop} {Q : Value → Shared → Prop} (B : Begins v o H) (h1 : H s.heap)
    (h : ∀ h', IsEnum h' (s.heap.objs.size + 1) s.heap.objs.size 0 .none → h'.get? s.heap.objs.size = some o → (∀ b o, s.heap.get? b = some o → h'.get? b = some o) → Q (.ref (s.heap.objs.size + 1)) { s with heap := h' }) :
    wpAny (model prog w) A (call (.type "enumerate") [v]) Q E s := by
  have sz : (s.heap.push o).objs.size = s.heap.objs.size + 1 := Heap.size_push ..
  refine callType_new F.called_enumerate (by decide) (F.typeCall_enumerate_1 _) (F.newCall_enumerate_1 _) (fun obj => F.args_object_init_2 obj _) F.entry_enumerate_new (enumNewB B) ⟨h1, ?_⟩
  show _ ∧ _
  have e1 := Heap.get?_push_size (s.heap.push o) (o := { cls := .type "enumerate", data := .fields #[.none, .bool false, .ref s.heap.objs.size, rawInt 0, .none, .none] }) rfl
  rw [sz] at e1 ⊢
  exact ⟨⟨_, e1, rfl⟩, h _ e1 (Heap.get?_push_of_some _ (Heap.get?_push_size _ B.free)) fun b u e => Heap.get?_push_of_some _ (Heap.get?_push_of_some _ e)⟩
end PySem
namespace L2
open PySem PySem.Spec PyProof.Rows
/-- the items of the tuple at a, each in a new pair behind its number -/
def ItTe (K : PySem.W.Frag) (a : Addr) : It :=
  ⟨fun i H => ∃ (xs : List V) (x : V), SqT K H a xs ∧ xs[i]? = some x, fun i H v H' => ∃ T x, v = .ref T ∧ H T = none ∧ H' = upd H T (.tup [.int (i : Nat), x]) ∧ ∀ xs, SqT K H a xs → xs[i]? = some x, fun i H => ∃ xs : List V, SqT K H a xs ∧ xs.length = i⟩
theorem turn_enumT {P : Program} {w : World} {K : PySem.W.Frag} {elts : List Expr} {kk : Nat} {tpos : Pos} (a e it : Addr) :
    Turn P w K (.Tuple elts kk tpos) (ItTe K a) [e, it] e (fun i h => (∃ old, IsEnum h e it ((i : Nat) : Int) old) ∧ h.IsTupleIter it a i ∧ e ≠ it) where
  mem := by simp
  obj := fun i h st b hb => by
    obtain ⟨⟨old, he⟩, ⟨o, ho, hc, hd⟩, _⟩ := st
    rcases (show b = e ∨ b = it by simpa using hb) with z | z
    · rw [z]; exact ⟨_, he, fun v q => nomatch q⟩
    · rw [z]; exact ⟨o, ho, fun v q => by rw [hd] at q; cases q⟩
  keep := fun i h h' st k => by
    obtain ⟨⟨old, he⟩, ⟨o, ho, r⟩, hne⟩ := st
    exact ⟨⟨old, k e (by simp) _ he⟩, ⟨o, k it (by simp) o ho, r⟩, hne⟩
  item := by
    intro X hP hw hK hc i pins s σ H E I hf st hg
    subst hP hw hK
    obtain ⟨⟨old, he⟩, hit, hne⟩ := st
    obtain ⟨xs, x, hq, hx⟩ := hg
    obtain ⟨its, rv, p, hz⟩ := I.tuple hq
    obtain ⟨u, hu, ru⟩ := rv.get hx
    have hi : i < its.toArray.size := by
      obtain ⟨hh, _⟩ := List.getElem?_eq_some_iff.mp hu
      simpa using hh
    have hel : e < s.heap.objs.size := Heap.lt_size he
    have hil : it < s.heap.objs.size := by obtain ⟨_, q, _⟩ := hit; exact Heap.lt_size q
    have pt : s.heap.IsTuple a its.toArray := p
    have nat : a ≠ it := by
      intro z
      obtain ⟨o1, q1, c1, _⟩ := pt
      obtain ⟨o2, q2, c2, _⟩ := hit
      rw [z, q2] at q1
      cases q1
      rw [c1] at c2
      exact absurd (Value.type.inj c2) (by decide)
    have nae : e ≠ a := by
      intro z
      obtain ⟨o1, q1, c1, _⟩ := pt
      have he' : s.heap.get? e = some _ := he
      rw [z, q1] at he'
      have z2 := Option.some.inj he'
      rw [z2] at c1
      have c3 : Value.type "enumerate" = .type "tuple" := c1
      exact absurd (Value.type.inj c3) (by decide)
    refine wpAny_pyNext_enum_itemD (Draws.tuple (A := X.A.in1) (I.ok.hd hc) it a nat its.toArray) he ⟨hit, pt⟩ hi hne (by simp [hne, nae]) fun y h' tk hy ho hit' hT hsz hk => ?_
    have ey : y = u := by
      have hy' : its[i]? = some y := by simpa using hy
      rw [hu] at hy'
      exact (Option.some.inj hy').symm
    subst ey
    refine ⟨_, rfl, wpAny_letOwnedTupleGo_enum (s := { s with heap := h', toks := tk + 1 }) ho fun h'' he' sb => ?_⟩
    have hT2 : h''.get? s.heap.objs.size = some { cls := .type "tuple", data := .seq #[.int i tk, y] } := (sb.2 _ (Nat.ne_of_gt hel)).trans hT
    have new : ObjOk X.prog X.w (upd H s.heap.objs.size (.tup [.int (i : Nat), x])) h'' s.heap.objs.size (.tup [.int (i : Nat), x]) :=
      ⟨by show 2 ≤ sizeLine; decide, [.int i tk, y], .cons ⟨_, rfl⟩ (.cons ru .nil), ⟨_, hT2, rfl, _, rfl⟩⟩
    have I1 : Inv X pins σ (upd H s.heap.objs.size (.tup [.int (i : Nat), x])) { s with heap := h'', toks := tk + 1 } :=
      I.turnedNew (ch := [e, it]) (fun b ob hb q => (sb.2 b (fun z => hb (by simp [z]))).trans (hk b ob (fun z => hb (by simp [z])) (fun z => hb (by simp [z])) q)) hf (Nat.le_refl _) new
    refine ⟨.ref s.heap.objs.size, _, I1, rfl, ⟨_, x, rfl, I.hok.fresh (Nat.le_refl _), rfl, fun ys hy => by rw [I.tuple_inj hy hq]; exact hx⟩, ⟨⟨y, ?_⟩, ?_, hne⟩, fun b hb => ?_⟩
    · have e1 : ((i + 1 : Nat) : Int) = (i : Int) + 1 := by omega
      rw [e1]; exact he'
    · obtain ⟨o, q, r⟩ := hit'.1
      exact ⟨o, (sb.2 it (Ne.symm hne)).trans q, r⟩
    · have hb' : b < s.heap.objs.size := by
        rcases (show b = e ∨ b = it by simpa using hb) with z | z
        · rw [z]; exact hel
        · rw [z]; exact hil
      rw [upd_ne (Nat.ne_of_lt hb')]
      exact (hf b hb).1
  done := by
    intro X hP hw hK hc i pins s σ H E I hf st hg
    subst hP hw hK
    obtain ⟨⟨old, he⟩, hit, hne⟩ := st
    obtain ⟨xs, hq, hx⟩ := hg
    obtain ⟨its, rv, p, hz⟩ := I.tuple hq
    have hl := rv.length
    have pt : s.heap.IsTuple a its.toArray := p
    have nat : a ≠ it := by
      intro z
      obtain ⟨o1, q1, c1, _⟩ := pt
      obtain ⟨o2, q2, c2, _⟩ := hit
      rw [z, q2] at q1
      cases q1
      rw [c1] at c2
      exact absurd (Value.type.inj c2) (by decide)
    have hi : its.toArray.size = i := by
      rw [List.size_toArray]
      omega
    obtain ⟨f0, f1, f2, f3, f4, f5⟩ := hf it (by simp)
    exact wpAny_pyNext_enum_endD (Draws.tuple (A := X.A.in1) (I.ok.hd hc) it a nat its.toArray) he (by rw [hi]; exact ⟨hit, pt⟩) fun h' eb => ⟨rfl, I.turned (t' := s.toks) (fun b o hb q => eb b o hb q) f0 f1 f3 f4 f5⟩
  self := fun A i s Q E st h => let ⟨⟨_, he⟩, _⟩ := st; wpAny_pyIter_enum he h
def iEnumT (K : PySem.W.Frag) (ta : TA) : TI := fun σ H R => ta σ H fun vs H1 => ∃ a xs, vs = [.ref a] ∧ SqT K H1 a xs ∧ R (ItTe K a) H1
theorem pi_enumT {X : Cx} {e : Expr} {ta : TA} {p pos tpos : Pos} {elts : List Expr} {kk : Nat} (hg : Gl X "enumerate") (hm : X.mg "enumerate" = none) (ha : PA X [e] ta) (hs : starEach [e] X.env = [(false, eval e X.env)] := by rfl) :
    PI X (.Tuple elts kk tpos) (.Call (.Name "enumerate" p) [e] [] pos) (iEnumT X.K ta) := by
  refine ⟨fun pins s σ H R I h => ?_⟩
  refine Call_ (ld_blt I hg hm boot_enumerate (PyProof.Rows.callWith_type1 (thn (ha.run pos pins s σ H _ I h) fun us s1 ⟨vs, H1, I1, r1, q1⟩ => ?_) hs rfl))
  obtain ⟨a, xs, ex, hq, q⟩ := q1
  subst ex
  obtain rfl := Vals.ref1 r1
  obtain ⟨its, rv, p', hz⟩ := I1.tuple hq
  refine enumCall (begins_tuple a its.toArray) (show s1.heap.IsTuple a its.toArray from p') fun h' he hit hk => wpAny_pyIter_enum he ?_
  have I2 : Inv X pins σ H1 { s1 with heap := h' } := I1.kept (t' := s1.toks) hk
  refine ⟨s1.heap.objs.size + 1, [s1.heap.objs.size + 1, s1.heap.objs.size], _, _, H1, rfl, I2, turn_enumT a (s1.heap.objs.size + 1) s1.heap.objs.size, ⟨⟨.none, he⟩, ⟨_, hit, rfl, rfl⟩, Nat.succ_ne_self _⟩, fun b hb => ?_, q⟩
  have hle : s1.heap.objs.size ≤ b := by
    rcases (show b = s1.heap.objs.size + 1 ∨ b = s1.heap.objs.size by simpa using hb) with z | z
    · rw [z]; exact Nat.le_add_right _ _
    · rw [z]; exact Nat.le_refl _
  exact I1.fpOk hle (I1.hok.fresh hle)
theorem walk_enumT {K : PySem.W.Frag} {a : Addr} {xs : List V} : Walk (ItTe K a) xs.length (fun H => SqT K H a xs) (fun i H v H' => ∃ T x, v = .ref T ∧ H T = none ∧ H' = upd H T (.tup [.int (i : Nat), x]) ∧ xs[i]? = some x) :=
  ⟨fun i _ hi q => ⟨xs, xs[i], q, by simp [hi]⟩, fun _ q => ⟨xs, q, rfl⟩, fun _ _ _ _ _ q y => by
    obtain ⟨T, x, e1, e2, e3, e4⟩ := y
    exact ⟨T, x, e1, e2, e3, e4 xs q⟩⟩
end L2

set_option Elab.async false
set_option linter.all false
set_option maxRecDepth 100000
set_option maxHeartbeats 4000000
/-! repr of a text or an integer. -/
namespace L2
open PySem PySem.Spec PyProof.Rows
theorem call_reprV {X : Cx} : CallR X (.builtin "repr") (fun xs H Q => (∃ z, xs = [.str z] ∧ (reprText z).length ≤ sizeLine ∧ Q (.str (reprText z)) H) ∨ ∃ i, xs = [.int i] ∧ i.natAbs.log2 < 1920 ∧ Q (.str (toString i)) H) := by
  intro pins s σ H xs us Q I r h
  rcases h with ⟨z, rfl, hz, q⟩ | ⟨i, rfl, hz, q⟩
  · obtain ⟨u, rfl, t, rfl⟩ := vals1 r
    exact PySem.P.repr_of_str ⟨.str _, H, I.tok _, ⟨_, rfl⟩, q⟩ hz
  · exact SkE.call_repr_int pins s σ H _ us Q I r ⟨i, rfl, hz, q⟩
end L2

set_option Elab.async false
set_option linter.all false
set_option maxRecDepth 100000
set_option maxHeartbeats 4000000
/-! Signs of an own class: with a value of any other kind on the right; x >= y, where y's own <= answers; x |= y, where there is no __ior__. -/
namespace PySem.W
open PySem PySem.Spec PySem.Calls PyProof.Rows
theorem slot_obj_ge : Slot "object" "__ge__" "object.__ge__" := by
  refine .of (owner := "object") (n := "__ge__") ?_ (by decide +kernel) (by decide +kernel) (by decide +kernel) (.inl (by decide +kernel)) ?_
  · rw [typeLookup_type, builtinLookup_eq_fast]
    kernel_rfl
  · rw [isSubtype_type]
    kernel_rfl
theorem entry_obj_ge : entryFor table "object.__ge__" = some Builtin.«object.__ge__» := entryFor_of_tree (by kernel_rfl)
theorem args_obj_ge (u v : Value) : argsOk "object.__ge__" ⟨[u, v], []⟩ := by
  unfold argsOk
  kernel_rfl
section
variable {prog : Program} {w : World} {A : Around} {E : Value → Shared → Prop} {s : Shared} {K : Frag} {m : Str → Option Value} {h₀ : Heap} {L x y C f : Addr} {ox oy : Obj} {od od2 : Option Obj}
/-- object's own >= says that it does not know -/
theorem obj_ge_none {b : Value} {Q : Value → Shared → Prop} (X : K.In s.heap) (I : InstAt s.heap x ox C od) (hm : mroIn K C (.type "object") = some true) (q : Q .notImplemented s) : wpAny (model prog w) A (call (.builtin "object.__ge__") [.ref x, b]) Q E s := by
  refine wpAny_call (codeAny_call_builtin slot_obj_ge.plain entry_obj_ge (check_slot (n := "__ge__") (by decide +kernel) (by decide +kernel) (I.type.andThen (looks_mroIn X hm)) (args_obj_ge _ _) ?_))
  have e : Builtin.«object.__ge__» ⟨[.ref x, b], []⟩ = (do
      let _ ← slotArgs "__ge__" 1 ⟨[.ref x, b], []⟩
      ret .notImplemented) := rfl
  rw [e]
  repeat wp_step
  exact q
theorem try_ge {b : Value} {Q : Option Value → Shared → Prop} (X : K.In s.heap) (I : InstAt s.heap x ox C od) (hm : mroIn K C (.type "object") = some true) (no : findIn K (.ref C) "__ge__" = some (some (.builtin "object.__ge__"))) (q : Q none s) : wpAny (model prog w) A (tryCompare (.ref x) "__ge__" b) Q E s := by
  unfold tryCompare
  have told : wpAny (model prog w) A (callSpecialIfBound? (.ref x) "__ge__" [b]) (fun r s' => r = some .notImplemented ∧ s' = s) E s := by
    simp only [callSpecialIfBound?, bindSpecialIfBound?]
    refine wpAny_holding (wpAny_bind (wpAny_bind (wpAny_bind (I.type.here ((looks_findIn X no).here (wpAny_bind (wpAny_askSetting (wpAny_ite ?_))))))))
    have last : wpAny (model prog w) A (call (.builtin "object.__ge__") ([.ref x] ++ [b]) >>= fun v => pure (some v)) (fun r s' => r = some .notImplemented ∧ s' = s) E s :=
      wpAny_bind (obj_ge_none X I hm (wpAny_pure ⟨rfl, rfl⟩))
    split
    · exact wpAny_bind (wpAny_of_eq (slot_obj_ge.bind _) (wpAny_pure last))
    · exact wpAny_tryCatch (wpAny_bind (wpAny_of_eq (slot_obj_ge.bind _) (wpAny_pure last)))
  refine wpAny_bind (wpAny_mono told (fun r s' z => ?_) fun _ _ e => e)
  obtain ⟨rfl, rfl⟩ := z
  exact wpAny_pure q
/-- x >= y -/
theorem ge_back {Q : Value → Shared → Prop} (hu : A.units < cLine) (F : Fr h₀ L s.heap m) (X₀ : K.In h₀) (I : InstAt s.heap x ox C od) (J : InstAt s.heap y oy C od2) (hm : mroIn K C (.type "object") = some true) (no : findIn K (.ref C) "__ge__" = some (some (.builtin "object.__ge__")))
    (hs : findIn K (.ref C) "__le__" = some (some (.ref f))) (hf : isFn K (.ref f) = true) (h : wpAny (model prog w) A (call (.ref f) [.ref y, .ref x]) (CmpBack Q) E s) : wpAny (model prog w) A (richCompare .GtE (.ref x) (.ref y)) Q E s := by
  have X := X₀.keeps F.keep
  have own : wpAny (model prog w) A (tryCompare (.ref y) "__le__" (.ref x)) (fun r s' => ∃ v, r = some v ∧ Q v s') E s := by
    unfold tryCompare
    refine wpAny_bind (ifBound_K X J hs hf (wpAny_mono h (fun v s' hv => ?_) fun _ _ e => e))
    cases v <;> first
      | exact hv.elim
      | exact wpAny_pure ⟨_, rfl, hv⟩
  unfold richCompare
  simp only [oneThing_ref, cmpInfo]
  refine wpAny_holding (wpAny_bind (wpAny_cRoomFor hu (wpAny_bind (I.type.here (wpAny_bind (J.type.here ?_))))))
  rw [if_neg (by simp)]
  refine wpAny_bind (wpAny_pure ?_)
  simp only [Bool.false_eq_true, if_false, Bool.not_false, if_true]
  refine wpAny_bind (try_ge X I hm no ?_)
  refine wpAny_bind (wpAny_mono own (fun r s' z => ?_) fun _ _ e => e)
  obtain ⟨v, rfl, q⟩ := z
  exact wpAny_pure q
/-- x op b, b of a built-in type T -/
theorem bin_any {op : Operator} {T : String} {b : Value} {fo ro rc : Option Value} {Q : Value → Shared → Prop} (F : Fr h₀ L s.heap m) (X₀ : K.In h₀) (I : InstAt s.heap x ox C od) (hb : Looks (model prog w) s.heap (typeOf b) (.type T)) (hc : selfFirst K C = true)
    (hs : findIn K (.ref C) (PySem.dunder op.info.2) = some (some (.ref f))) (hf : isFn K (.ref f) = true) (hr : findIn K (.ref C) (dunderR op.info.2) = some rc) (hp : rc = none ∨ ∃ g : Addr, rc = some (.ref g))
    (h1 : findIn K (.type T) (PySem.dunder op.info.2) = some fo) (h2 : findIn K (.type T) (dunderR op.info.2) = some ro) (hsub : subIn K (.type T) (.ref C) = some false) (h : wpAny (model prog w) A (call (.ref f) [.ref x, b]) (CmpBack Q) E s) :
    wpAny (model prog w) A (binaryOp op (.ref x) b) Q E s := by
  have X := X₀.keeps F.keep
  obtain ⟨cd, more, e1, e2⟩ := ksp_first hc
  rcases hi : op.info with ⟨sg, nm⟩
  rw [hi] at hs hr h1 h2
  dsimp only at hs hr h1 h2
  have go := ksp_try X I hs hf h
  have tx := I.type (M := model prog w)
  have lf := fills_K (M := model prog w) X e1 e2 hs
  have rf := ksp_fillsT (M := model prog w) X h1 h2
  have su := looks_subIn (M := model prog w) X hsub
  have py := ksp_inPy (M := model prog w) X hs hr hp
  have nopy : Looks (model prog w) s.heap (numberSlotInPython (.type T) nm) false := Looks.of_pure rfl
  have rl := looks_findIn (M := model prog w) X h2
  have ne : (Value.ref C == Value.type T) = false := rfl
  obtain ⟨hh, g, d, tt, os⟩ := s
  simp only [binaryOp, hi]
  refine wpAny_holding (wpAny_bind ?_)
  unfold binaryOp1
  refine wpAny_bind (tx.at (wpAny_bind (hb.at (wpAny_bind (lf.at ?_)))))
  simp only [ne, Bool.false_eq_true, if_false]
  cases hri : ((fo.isSome && !isSeqSlot fo) || (ro.isSome && !isSeqSlot ro)) <;> rw [hri] at rf
  all_goals
    ksp_lk
    refine wpAny_mono go (fun r s' z => ?_) fun _ _ e => e
    obtain ⟨v, rfl, q⟩ := z
    ksp_lk
    exact q
end
end PySem.W

set_option Elab.async false
set_option linter.all false
set_option maxRecDepth 100000
set_option maxHeartbeats 4000000
/-! x op= y of one own class, which has no method for it in place. -/
namespace PySem.W
open PySem PySem.Spec PySem.Calls PyProof.Rows
section
variable {prog : Program} {w : World} {A : Around} {E : Value → Shared → Prop} {s : Shared} {K : Frag} {m : Str → Option Value} {h₀ : Heap} {L x y C f : Addr} {ox oy : Obj} {od od2 : Option Obj}
theorem no_inplace {M : Model} {h : Heap} {nm : String} {add : Bool} {cd : ClassData} (X : K.In h) (hc : clsIn K C = some cd) (hm : cd.mro = [.ref C, .type "object"]) (n1 : findIn K (.ref C) (dunderI nm) = some none) (n2 : typeLookup (.type "object") (dunderI nm) = pure none) : Looks M h (fillsInplaceSlot (.ref C) nm add) false := by
  intro A Q E s k q
  have Lm := ((looks_clsIn (M := M) X hc).andThen (f := fun cd => pure cd.mro) .now).keeps k
  obtain ⟨hh, g, d, tt, os⟩ := s
  have X' : K.In hh := X.keeps k
  have t1 : Looks M hh (typeLookup (.ref C) (dunderI nm)) none := looks_findIn X' n1
  have t2 : Looks M hh (typeLookup (.type "object") (dunderI nm)) none := Looks.of_pure n2
  unfold fillsInplaceSlot
  refine wpAny_bind (Lm.at ?_)
  rw [hm, List.anyM_cons]
  refine wpAny_bind ?_
  repeat lk
  exact q
theorem in_own {op : Operator} {b : Value} {cd : ClassData} {Q : Value → Shared → Prop} (F : Fr h₀ L s.heap m) (X₀ : K.In h₀) (I : InstAt s.heap x ox C od) (hb : Looks (model prog w) s.heap (typeOf b) (.ref C)) (hc : clsIn K C = some cd) (hm : cd.mro = [.ref C, .type "object"])
    (n1 : findIn K (.ref C) (dunderI op.info.2) = some none) (n2 : typeLookup (.type "object") (dunderI op.info.2) = pure none) (hs : findIn K (.ref C) (PySem.dunder op.info.2) = some (some (.ref f))) (hf : isFn K (.ref f) = true)
    (h : wpAny (model prog w) A (call (.ref f) [.ref x, b]) (CmpBack Q) E s) : wpAny (model prog w) A (inplaceOp op (.ref x) b) Q E s := by
  have X := X₀.keeps F.keep
  have go := ksp_try X I hs hf h
  have tx := I.type (M := model prog w)
  have lf := fills_K (M := model prog w) X hc hm hs
  have ni := no_inplace (M := model prog w) (add := op == .Add) X hc hm n1 n2
  obtain ⟨hh, g, d, tt, os⟩ := s
  unfold inplaceOp
  refine wpAny_holding (wpAny_bind (tx.at (wpAny_bind (ni.at ?_))))
  simp only [Bool.false_eq_true, if_false]
  refine wpAny_bind (m := binaryOp1 op.info.2 (.ref x) b) ?_
  unfold binaryOp1
  refine wpAny_bind (tx.at (wpAny_bind (hb.at (wpAny_bind (lf.at ?_)))))
  simp only [beq_self_eq_true, if_true]
  ksp_lk
  refine wpAny_mono go (fun r s' z => ?_) fun _ _ e => e
  obtain ⟨v, rfl, q⟩ := z
  ksp_lk
  exact q
end
end PySem.W

set_option Elab.async false
set_option linter.all false
set_option maxRecDepth 100000
set_option maxHeartbeats 4000000
/-! The rules for these signs. -/
namespace L2
open PySem PySem.Spec PyProof.Rows
section
variable {X : Cx} {n : Nat} {CX : CXT} {C f : Addr} {fd : FuncData} {ps : List Str} {sp : Sp} {E : XK}
/-- what a built-in type says of a sign, beside an own class -/
structure BesideT (K : PySem.W.Frag) (C : Addr) (nm : String) (t : Value) : Prop where
  ex : ∃ (T : String) (fo ro : Option Value), t = .type T ∧ PySem.W.findIn K (.type T) (PySem.dunder nm) = some fo ∧ PySem.W.findIn K (.type T) (PySem.dunderR nm) = some ro ∧ PySem.W.subIn K (.type T) (.ref C) = some false
def rBinAny (K : PySem.W.Frag) (C : Addr) (nm : String) (sp : Sp) (E : XK) : R2 := fun x y H Q => ∃ a dx fs t, x = .ref a ∧ H a = some (.ins C dx fs) ∧ TyX K H y t ∧ BesideT K C nm t ∧ sp [.ref a, y] H Q E
theorem op_binAny {op : Operator} (F : FnOk X.prog X.w X.K X.mg X.base CX n f fd ps sp) (hb : Binds X.K fd ps []) (hx : Passes CX X E) (hs : PySem.W.findIn X.K (.ref C) (PySem.dunder op.info.2) = some (some (.ref f))) (hf : PySem.W.isFn X.K (.ref f) = true) (hc : PySem.W.selfFirst X.K C = true)
    (hr : PySem.W.findIn X.K (.ref C) (PySem.dunderR op.info.2) = some none) (hm : Room n X.A) : OpR X (binaryOp op) (rBinAny X.K C op.info.2 sp E) := by
  intro pins s σ H x y v u Q I rx ry h
  obtain ⟨a, dx, fs, t, rfl, ha, ty, bt, hsp⟩ := h
  cases rx
  obtain ⟨od, J⟩ := inst_at I ha
  obtain ⟨m, hF⟩ := I.fr
  obtain ⟨P, Z, p, _⟩ := kit_of I ry ty
  obtain ⟨T, fo, ro, rfl, h1, h2, h3⟩ := bt.ex
  refine PySem.W.bin_any hF I.ok.mod.kin J (Z.ty _ _ I.kIn p) hc hs hf hr (.inl rfl) h1 h2 h3 (thn (run_own (Sub.here hm) F hb hx I (show Vals [V.ref a, y] [Value.ref a, u] from .cons rfl (.cons ry .nil)) hsp) fun r s' q => ?_)
  obtain ⟨z, H', I', rz, q⟩ := q
  exact notNI rz ⟨z, H', I', rz, q⟩
def rGeOwn (C : Addr) (sp : Sp) (E : XK) : R2 := fun x y H Q => ∃ a dx fs b dy gs, x = .ref a ∧ H a = some (.ins C dx fs) ∧ y = .ref b ∧ H b = some (.ins C dy gs) ∧ sp [.ref b, .ref a] H Q E
theorem op_geOwn (F : FnOk X.prog X.w X.K X.mg X.base CX n f fd ps sp) (hb : Binds X.K fd ps []) (hx : Passes CX X E) (o : Own X.K C "__le__" f) (no : PySem.W.findIn X.K (.ref C) "__ge__" = some (some (.builtin "object.__ge__"))) (hm : PySem.W.mroIn X.K C (.type "object") = some true) (hr : Room n X.A) : OpR X (compareOp .GtE) (rGeOwn C sp E) := by
  intro pins s σ H x y v u Q I rx ry h
  obtain ⟨a, dx, fs, b, dy, gs, rfl, ha, rfl, hb2, hsp⟩ := h
  cases rx
  cases ry
  obtain ⟨od, J⟩ := inst_at I ha
  obtain ⟨od2, J2⟩ := inst_at I hb2
  obtain ⟨m, hF⟩ := I.fr
  refine PySem.W.ge_back hr.units0 hF I.ok.mod.kin J J2 hm no o.find o.fn (thn (run_own (Sub.here hr) F hb hx I (show Vals [V.ref b, V.ref a] [Value.ref b, Value.ref a] from .cons rfl (.cons rfl .nil)) hsp) fun r s' q => ?_)
  obtain ⟨z, H', I', rz, q⟩ := q
  exact notNI rz ⟨z, H', I', rz, q⟩
theorem op_inOwnP {op : Operator} {cd : ClassData} (F : FnOk X.prog X.w X.K X.mg X.base CX n f fd ps sp) (hb : Binds X.K fd ps []) (hx : Passes CX X E) (hs : PySem.W.findIn X.K (.ref C) (PySem.dunder op.info.2) = some (some (.ref f))) (hf : PySem.W.isFn X.K (.ref f) = true) (hc : PySem.W.clsIn X.K C = some cd) (hm : cd.mro = [.ref C, .type "object"])
    (n1 : PySem.W.findIn X.K (.ref C) (PySem.dunderI op.info.2) = some none) (n2 : typeLookup (.type "object") (PySem.dunderI op.info.2) = pure none) (hr : Room n X.A) : OpR X (inplaceOp op) (rBinOwn X.K C sp E) := by
  intro pins s σ H x y v u Q I rx ry h
  obtain ⟨a, dx, fs, b, dy, gs, rfl, ha, rfl, hb2, hsp⟩ := h
  cases rx
  cases ry
  obtain ⟨od, J⟩ := inst_at I ha
  obtain ⟨od2, J2⟩ := inst_at I hb2
  obtain ⟨m, hF⟩ := I.fr
  refine PySem.W.in_own hF I.ok.mod.kin J J2.type hc hm n1 n2 hs hf (thn (run_own (Sub.here hr) F hb hx I (show Vals [V.ref a, V.ref b] [Value.ref a, Value.ref b] from .cons rfl (.cons rfl .nil)) hsp) fun r s' q => ?_)
  obtain ⟨z, H', I', rz, q⟩ := q
  exact notNI rz ⟨z, H', I', rz, q⟩
end
theorem no_ior : typeLookup (.type "object") (PySem.dunderI (Operator.info .BitOr).2) = pure none := by
  rw [typeLookup_type, builtinLookup_eq_fast]
  kernel_rfl
end L2

set_option Elab.async false
set_option linter.all false
set_option maxRecDepth 100000
set_option maxHeartbeats 4000000
/-! repr of a bool. -/
namespace L2
open PySem PySem.Spec PyProof.Rows
theorem call_reprB {X : Cx} : CallR X (.builtin "repr") (fun xs H Q => ∃ b, xs = [.bl b] ∧ Q (.str (if b = true then "True" else "False")) H) := by
  intro pins s σ H xs us Q I r h
  obtain ⟨b, rfl, q⟩ := h
  match us, r with
  | [u], .cons r1 .nil =>
    obtain rfl : u = Value.bool b := r1
    refine PySem.P.repr_of_bool ?_
    exact ⟨.str _, H, I.tok _, ⟨_, by cases b <;> rfl⟩, q⟩
end L2

set_option Elab.async false
set_option linter.all false
set_option maxRecDepth 100000
set_option maxHeartbeats 4000000
/-! Where no repr is under way: what defs promise there; repr of lists and tuples. -/
namespace L2
open PySem PySem.Spec PyProof.Rows
mutual
/-- x is laid in H as the datum d -/
inductive PyV (H : Hp) : V → PyData → Prop
  | non : PyV H .non .none
  | bl (b : Bool) : PyV H (.bl b) (.bool b)
  | int (i : Int) : PyV H (.int i) (.int i)
  | str (z : Str) : PyV H (.str z) (.str z)
  | tup {a : Addr} {xs : List V} {ds : List PyData} : H a = some (.tup xs) → PyVs H xs ds → PyV H (.ref a) (.tuple ds)
  | lst {a : Addr} {xs : List V} {ds : List PyData} : H a = some (.lst xs) → PyVs H xs ds → PyV H (.ref a) (.list ds)
inductive PyVs (H : Hp) : List V → List PyData → Prop
  | nil : PyVs H [] []
  | cons {x : V} {d : PyData} {xs : List V} {ds : List PyData} : PyV H x d → PyVs H xs ds → PyVs H (x :: xs) (d :: ds)
end
mutual
theorem PyV.same {H H2 : Hp} (s : ∀ b o, H b = some o → H2 b = some o) : ∀ {x : V} {d : PyData}, PyV H x d → PyV H2 x d
  | _, _, .non => .non
  | _, _, .bl b => .bl b
  | _, _, .int i => .int i
  | _, _, .str z => .str z
  | _, _, .tup h r => .tup (s _ _ h) (PyVs.same s r)
  | _, _, .lst h r => .lst (s _ _ h) (PyVs.same s r)
theorem PyVs.same {H H2 : Hp} (s : ∀ b o, H b = some o → H2 b = some o) : ∀ {xs : List V} {ds : List PyData}, PyVs H xs ds → PyVs H2 xs ds
  | _, _, .nil => .nil
  | _, _, .cons h r => .cons (PyV.same s h) (PyVs.same s r)
end
mutual
theorem PyV.keep {H H2 : Hp} (s : ∀ b o, H b = some o → ((∃ xs, o = .tup xs) ∨ ∃ xs, o = .lst xs) → H2 b = some o) : ∀ {x : V} {d : PyData}, PyV H x d → PyV H2 x d
  | _, _, .non => .non
  | _, _, .bl b => .bl b
  | _, _, .int i => .int i
  | _, _, .str z => .str z
  | _, _, .tup h r => .tup (s _ _ h (.inl ⟨_, rfl⟩)) (PyVs.keep s r)
  | _, _, .lst h r => .lst (s _ _ h (.inr ⟨_, rfl⟩)) (PyVs.keep s r)
theorem PyVs.keep {H H2 : Hp} (s : ∀ b o, H b = some o → ((∃ xs, o = .tup xs) ∨ ∃ xs, o = .lst xs) → H2 b = some o) : ∀ {xs : List V} {ds : List PyData}, PyVs H xs ds → PyVs H2 xs ds
  | _, _, .nil => .nil
  | _, _, .cons h r => .cons (PyV.keep s h) (PyVs.keep s r)
end
theorem PyV.but {H H2 : Hp} {a : Addr} {x : V} {d : PyData} {f : Heap → Prop} (p : PyV H x d) (s : ∀ b o, H b = some o → b ≠ a → H2 b = some o) (ha : H a = some (.ext f)) : PyV H2 x d :=
  p.keep fun b o e k => s b o e fun z => by
    rw [z, ha] at e
    cases e
    rcases k with ⟨xs, k⟩ | ⟨xs, k⟩ <;> cases k
mutual
theorem PyV.noDict {H : Hp} : ∀ {x : V} {d : PyData}, PyV H x d → d.hasDict = false
  | _, _, .non => by simp only [PyData.hasDict]
  | _, _, .bl b => by simp only [PyData.hasDict]
  | _, _, .int i => by simp only [PyData.hasDict]
  | _, _, .str z => by simp only [PyData.hasDict]
  | _, _, .tup h r => by simp only [PyData.hasDict]; exact PyVs.noDict r
  | _, _, .lst h r => by simp only [PyData.hasDict]; exact PyVs.noDict r
theorem PyVs.noDict {H : Hp} : ∀ {xs : List V} {ds : List PyData}, PyVs H xs ds → PyData.hasDictAll ds = false
  | _, _, .nil => by simp only [PyData.hasDictAll]
  | _, _, .cons h r => by simp only [PyData.hasDictAll, PyV.noDict h, PyVs.noDict r, Bool.or_false]
end
mutual
theorem PyV.reads {P : Program} {w : World} {H : Hp} {h : Heap} (ok : HOk P w H h) : ∀ {x : V} {d : PyData} {u : Value}, PyV H x d → RelV x u → ∃ as, Reads h u d as
  | _, _, u, .non, r => by
    obtain rfl : u = Value.none := r
    exact ⟨_, .none⟩
  | _, _, u, .bl b, r => by
    obtain rfl : u = Value.bool b := r
    exact ⟨_, .bool b⟩
  | _, _, u, .int i, r => by
    obtain ⟨t, rfl⟩ : ∃ t, u = Value.int i t := r
    exact ⟨_, .int i t⟩
  | _, _, u, .str z, r => by
    obtain ⟨t, rfl⟩ : ∃ t, u = Value.str z t := r
    exact ⟨_, .str z t⟩
  | _, _, u, .tup (a := a) h1 h2, r => by
    obtain rfl : u = Value.ref a := r
    obtain ⟨_, its, rel, o, e1, e2, n, e3⟩ := ok a _ h1
    obtain ⟨as, q⟩ := PyVs.reads ok h2 rel
    exact ⟨_, .tuple e1 e2 e3 q⟩
  | _, _, u, .lst (a := a) h1 h2, r => by
    obtain rfl : u = Value.ref a := r
    obtain ⟨_, its, n, rel, e1⟩ := ok a _ h1
    obtain ⟨as, q⟩ := PyVs.reads ok h2 rel
    exact ⟨_, .list e1 rfl rfl q⟩
theorem PyVs.reads {P : Program} {w : World} {H : Hp} {h : Heap} (ok : HOk P w H h) : ∀ {xs : List V} {ds : List PyData} {us : List Value}, PyVs H xs ds → Vals xs us → ∃ as, ReadsAll h us ds as
  | _, _, _, .nil, r => by
    cases r
    exact ⟨_, .nil⟩
  | _, _, _, .cons h1 h2, r => by
    cases r with
    | cons r1 r2 =>
      obtain ⟨a1, q1⟩ := PyV.reads ok h1 r1
      obtain ⟨a2, q2⟩ := PyVs.reads ok h2 r2
      exact ⟨_, .cons q1 q2⟩
end
/-- a datum that can be told: its text is not too long -/
structure Tells (d : PyData) : Prop where
  sh : d.showable = true
  dp : d.depth ≤ 4
  sz : d.shown.length ≤ 8000000
theorem Tells.size {d : PyData} (t : Tells d) : d.shown.length ≤ sizeLine := by
  have := t.sz
  rw [sizeLine_eq]
  omega
theorem shown_str (z : Str) : (PyData.str z).shown = reprText z := by simp only [PyData.shown]
theorem shown_none : PyData.none.shown = "None" := by simp only [PyData.shown]
section
variable {X : Cx} {j : Nat}
/-- repr of a datum, as its text -/
theorem repr_any {pins : List (Addr × Obj)} {σ : St} {H : Hp} {s : Shared} {Q : VK} {x : V} {u : Value} {d : PyData} (quiet : X.A.guards = some []) (room : X.A.units + 64 < cLine) (I : Inv X pins σ H s) (r : RelV x u) (p : PyV H x d) (t : Tells d) (q : Q (.str d.shown) H) :
    wpAny (model X.prog X.w) X.A (pyReprObj u) (EP X pins σ Q) X.xe s := by
  have out : ∀ (h2 : Heap) (k tk : Nat), (∀ b o, s.heap.get? b = some o → h2.get? b = some o) → EP X pins σ Q (.str d.shown k) { s with heap := h2, toks := tk } := fun h2 k tk kp => ⟨.str d.shown, H, I.kept kp, ⟨k, rfl⟩, q⟩
  have dp := t.dp
  have un : X.A.units + d.depth < cLine := by omega
  obtain ⟨as, rd⟩ := p.reads I.hok r
  cases p with
  | non =>
    obtain rfl : u = Value.none := r
    rw [shown_none] at out
    exact pyReprObj_none (out _ _ _ fun _ _ e => e)
  | bl b =>
    obtain rfl : u = Value.bool b := r
    have e : (PyData.bool b).shown = if b = true then "True" else "False" := by cases b <;> simp [PyData.shown]
    rw [e] at out
    refine pyReprObj_bool ?_
    have o2 := out s.heap s.toks (s.toks + 1) fun _ _ e => e
    cases b <;> exact o2
  | int i =>
    obtain ⟨tt, rfl⟩ : ∃ t, u = Value.int i t := r
    have e : (PyData.int i).shown = toString i := by simp only [PyData.shown]
    have hz : i.natAbs.log2 < 1920 := by simpa [PyData.showable] using t.sh
    rw [e] at out
    exact pyReprObj_int hz (out _ _ _ fun _ _ e => e)
  | str z =>
    obtain ⟨tt, rfl⟩ : ∃ t, u = Value.str z t := r
    have sz := t.size
    rw [shown_str] at out sz
    exact pyReprObj_str (out _ _ _ fun _ _ e => e) sz
  | tup h1 h2 =>
    obtain rfl := r
    exact pyReprObj_of_reads rd t.sh (PyData.noDict_hsm (PyV.noDict (.tup h1 h2))) quiet un (fun _ _ e => e) out t.size
  | lst h1 h2 =>
    obtain rfl := r
    exact pyReprObj_of_reads rd t.sh (PyData.noDict_hsm (PyV.noDict (.lst h1 h2))) quiet un (fun _ _ e => e) out t.size
/-- repr(x) -/
theorem call_reprG (quiet : X.A.guards = some []) (room : Room j X.A) : CallR X (.builtin "repr") (fun xs H Q => ∃ x d, xs = [x] ∧ PyV H x d ∧ Tells d ∧ Q (.str d.shown) H) := by
  intro pins s σ H xs us Q I rel h
  obtain ⟨x, d, rfl, p, t, q⟩ := h
  match us, rel with
  | [u], .cons r .nil =>
    have out : ∀ (h2 : Heap) (k tk : Nat), (∀ b o, s.heap.get? b = some o → h2.get? b = some o) → EP X pins σ Q (.str d.shown k) { s with heap := h2, toks := tk } := fun h2 k tk kp => ⟨.str d.shown, H, I.kept kp, ⟨k, rfl⟩, q⟩
    have dp := t.dp
    have ru := room.units
    have un : X.A.units + (d.depth + 1) < cLine := by omega
    obtain ⟨as, rd⟩ := p.reads I.hok r
    cases p with
    | non =>
      obtain rfl : u = Value.none := r
      rw [shown_none] at out
      exact PySem.P.repr_of_none (out _ _ _ fun _ _ e => e)
    | bl b =>
      exact call_reprB pins s σ H _ _ Q I (.cons r .nil) ⟨b, rfl, by
        have e : (PyData.bool b).shown = if b = true then "True" else "False" := by cases b <;> simp [PyData.shown]
        rw [e] at q
        cases b <;> exact q⟩
    | int i =>
      have e : (PyData.int i).shown = toString i := by simp only [PyData.shown]
      have hz : i.natAbs.log2 < 1920 := by simpa [PyData.showable] using t.sh
      rw [e] at q
      exact call_reprV pins s σ H _ _ Q I (.cons r .nil) (.inr ⟨i, rfl, hz, q⟩)
    | str z =>
      have sz := t.size
      rw [shown_str] at q sz
      exact call_reprV pins s σ H _ _ Q I (.cons r .nil) (.inl ⟨z, rfl, sz, q⟩)
    | tup h1 h2 =>
      obtain rfl := r
      exact repr_of_reads' rd t.sh (PyData.noDict_hsm (PyV.noDict (.tup h1 h2))) quiet un (fun _ _ e => e) out t.size
    | lst h1 h2 =>
      obtain rfl := r
      exact repr_of_reads' rd t.sh (PyData.noDict_hsm (PyV.noDict (.lst h1 h2))) quiet un (fun _ _ e => e) out t.size
/-- {x!r} of a datum -/
def tFmtG (te : TE) : TE := fun σ H Q => te σ H fun x H1 => ∃ d, PyV H1 x d ∧ Tells d ∧ Q (.str d.shown) H1
theorem pe_fmtG {e : Expr} {te : TE} {pos : Pos} (quiet : X.A.guards = some []) (room : Room j X.A) (he : PE X e te) : PE X (.FormattedValue e 114 none pos) (tFmtG te) := by
  refine ⟨fun pins s σ H Q I h => wpAny_FormattedValue_repr (thn (he.run pins s σ H _ I h) fun v s1 hv => ?_)⟩
  obtain ⟨x, H1, J, rel, d, p, t, q⟩ := hv
  refine thn (repr_any (Q := fun y H2 => y = .str d.shown ∧ H2 = H1) quiet room.units J rel p t ⟨rfl, rfl⟩) fun u s2 z => ?_
  obtain ⟨y, H2, J2, r2, ey, eH⟩ := z
  subst ey
  subst eH
  obtain ⟨k, rfl⟩ := r2
  exact wpAny_formatField_str ⟨.str d.shown, _, J2, ⟨_, rfl⟩, q⟩ ⟨.str d.shown, _, J2.tok _, ⟨_, rfl⟩, q⟩ t.size
end
end L2

set_option Elab.async false
set_option linter.all false
set_option maxRecDepth 100000
set_option maxHeartbeats 4000000
/-! Where no repr is under way: calls of defs, own errors made, lambdas called. -/
namespace L2
open PySem PySem.Spec PyProof.Rows
/-- no repr is under way -/
abbrev Quiet (A : Around) : Prop := A.guards = some []
/-- what a def promises where no repr is under way -/
structure FnG (P : Program) (w : World) (K : PySem.W.Frag) (mg : Str → Option Value) (base : Heap) (C : CXT) (k : Nat) (f : Addr) (fd : FuncData) (ps : List Str) (sp : Sp) : Prop where
  count : ∀ (xs : List V) (H : Hp) (Q : VK) (E : XK), sp xs H Q E → xs.length = ps.length
  runs : ∀ (A : Around) (outer : List Env) (s : Shared) (H : Hp) (args : Args) (us : List Value) (xs : List V) (Q : VK) (E : XK), Quiet A → Room k A → Env0 P w K mg base A outer s H → BindsTo s fd args (ps.zip us) → Vals xs us → sp xs H Q E →
    codeAny (model P w) A (.call (.ref f) args) (CR C outer P w H s Q E) s
section
variable {P : Program} {w : World} {K : PySem.W.Frag} {mg : Str → Option Value} {base : Heap} {C : CXT} {k j : Nat} {f : Addr} {fd : FuncData} {ps : List Str} {sp : Sp}
theorem FnOk.quiet (F : FnOk P w K mg base C k f fd ps sp) : FnG P w K mg base C k f fd ps sp := ⟨fun xs H Q E h => F.len xs H Q E h, fun A outer s H args us xs Q E _ r e b v h => F.run A outer s H args us xs Q E r e b v h⟩
theorem FnG.more (F : FnG P w K mg base C j f fd ps sp) (h : j ≤ k) : FnG P w K mg base C k f fd ps sp := ⟨F.count, fun A outer s H args us xs Q E g r => F.runs A outer s H args us xs Q E g (r.mono h)⟩
/-- two promises of one def -/
theorem FnG.both {sp2 : Sp} (F1 : FnG P w K mg base C k f fd ps sp) (F2 : FnG P w K mg base C k f fd ps sp2) : FnG P w K mg base C k f fd ps (fun xs H Q E => sp xs H Q E ∨ sp2 xs H Q E) := by
  refine ⟨fun xs H Q E h => h.elim (F1.count _ _ _ _) (F2.count _ _ _ _), fun A outer s H args us xs Q E g r e b v h => ?_⟩
  rcases h with h | h
  · exact F1.runs A outer s H args us xs Q E g r e b v h
  · exact F2.runs A outer s H args us xs Q E g r e b v h
/-- a def by its body -/
theorem Fun.okG {x qual : Str} {st : Stmt} {N : List Str} (F : Fun K x qual st f fd) (S : FnScope N ps (defScope st)) (count : ∀ (xs : List V) (H : Hp) (Q : VK) (E : XK), sp xs H Q E → xs.length = ps.length)
    (body : ∀ (cdv : Value) (A : Around) (outer : List Env) (s : Shared) (H : Hp) (xs : List V) (Q : VK) (E : XK), Quiet A → Room k (A.deeper (envOfC qual (defScope st) s.heap.objs.size f cdv)) → sp xs H Q E →
      ∃ t, PSs (cxOf CX0 P w K mg base N qual (defScope st) f cdv A outer s H E).nox (defBody st) t ∧ t { nx := fun _ H2 => Q .non H2, rt := Q } (start N xs) H) : FnG P w K mg base CX0 (k + 1) f fd ps sp := by
  obtain ⟨oc, od, kV, doc, pm, an, cdv, ct, osl, e, look, ci⟩ := F.ex
  subst e
  refine ⟨count, fun A outer s H args us xs Q E g r e0 b v h => LamX.run_ofS look ci S r e0 b v (count _ _ _ _ h) fun r2 => ?_⟩
  obtain ⟨t, h1, h2⟩ := body cdv A outer s H xs Q E g r2 h
  exact ⟨t, h1.nox, h2⟩
theorem Fun.okXG {x qual : Str} {st : Stmt} {N : List Str} (F : Fun K x qual st f fd) (S : FnScope N ps (defScope st)) (count : ∀ (xs : List V) (H : Hp) (Q : VK) (E : XK), sp xs H Q E → xs.length = ps.length)
    (body : ∀ (cdv : Value) (A : Around) (outer : List Env) (s : Shared) (H : Hp) (xs : List V) (Q : VK) (E : XK), Quiet A → Room k (A.deeper (envOfC qual (defScope st) s.heap.objs.size f cdv)) → sp xs H Q E →
      ∃ t, PSs (cxOf (L2.CX P w) P w K mg base N qual (defScope st) f cdv A outer s H E) (defBody st) t ∧ t { nx := fun _ H2 => Q .non H2, rt := Q } (start N xs) H) : FnG P w K mg base (L2.CX P w) (k + 1) f fd ps sp := by
  obtain ⟨oc, od, kV, doc, pm, an, cdv, ct, osl, e, look, ci⟩ := F.ex
  subst e
  exact ⟨count, fun A outer s H args us xs Q E g r e0 b v h => LamX.run_ofS look ci S r e0 b v (count _ _ _ _ h) fun r2 => body cdv A outer s H xs Q E g r2 h⟩
end
section
variable {X : Cx} {C : CXT} {k j : Nat} {f : Addr} {fd : FuncData} {ps : List Str} {sp : Sp} {dvs : List V} {ds : List Value} {E : XK} {x : Str} {p pos pos2 : Pos} {e : Expr} {es : List Expr} {t ta : TA} {W : WX}
/-- the def runs -/
theorem runG {pins : List (Addr × Obj)} {σ : St} {H : Hp} {s : Shared} {Q : VK} {us : List Value} {xs : List V} (F : FnG X.prog X.w X.K X.mg X.base C k f fd ps sp) (g : Quiet X.A) (r : Room k X.A) (b : Binds X.K fd ps ds) (d : Vals dvs ds) (out : Passes C X E)
    (I : Inv X pins σ H s) (v : Vals xs us) (h : sp (xs ++ dvs) H Q E) : wpAny (model X.prog X.w) X.A (call (.ref f) us) (EP X pins σ Q) X.xe s := by
  have v2 := v.append d
  have n : (us ++ ds).length = ps.length := by
    rw [← v2.length]
    exact F.count _ _ _ _ h
  have ran := F.runs X.A X.stack s H ⟨us, []⟩ (us ++ ds) (xs ++ dvs) Q E g r I.env0 (b s us I.kIn n) v2 h
  refine wpAny_call (codeAny_mono ran fun a s2 z => ?_)
  match a, z with
  | .error er, z => exact out pins σ H s er s2 I z
  | .ok (.ret u), z => exact I.after z
  | .ok .next, z => exact z.elim
  | .ok .brk, z => exact z.elim
  | .ok .cont, z => exact z.elim
/-- a def of the text, by its name, where no repr is under way -/
structure DfG (P : Program) (w : World) (K : PySem.W.Frag) (mg : Str → Option Value) (base : Heap) (C : CXT) (k : Nat) (x : Str) (sp : Sp) : Prop where
  ex : ∃ (f : Addr) (fd : FuncData) (ps : List Str), FnG P w K mg base C k f fd ps sp ∧ mg x = some (.ref f) ∧ PySem.W.keepIn K (.ref f) = true ∧ Binds K fd ps []
theorem pe_cG (c : DfG X.prog X.w X.K X.mg X.base C k x sp) (g : Quiet X.A) (out : Passes C X E) (r : Room j X.A) (hk : k ≤ j) (hg : Gl X x) (ha : PA X (e :: es) t)
    (hdb : (x == ("__debug__" : Str)) = false := by decide) (he : starEach (e :: es) X.env = (false, eval e X.env) :: starEach es X.env := by rfl) (hpl : (backTo pos (starEach es X.env)).any (·.1) = false := by rfl) :
    PE X (.Call (.Name x p) (e :: es) [] pos) (tCall sp [] E t) := by
  obtain ⟨f, fd, ps, F, hm, kp, b⟩ := c.ex
  refine ⟨fun pins s σ H Q I h => ?_⟩
  refine wpAny_Call_Name_kw (ld_glob I hg hm ?_ hdb)
  refine PySem.W.callWith_K (h₀ := X.base) I.ok.mod.kin kp (thn (ha.run pos pins s σ H _ I h) fun us s1 z => ?_) he hpl
  obtain ⟨xs, H1, J, v, q⟩ := z
  exact ⟨J.kIn, runG F g (r.mono hk) b .nil out J v q⟩
/-- an expression that makes an error whose record has its six fields -/
def PMk6 (X : Cx) (e : Expr) (t : St → Hp → XK → Prop) : Prop :=
  ∀ (pins : List (Addr × Obj)) (s : Shared) (σ : St) (H : Hp) (Q : XK), Inv X pins σ H s → t σ H Q → wpAny (model X.prog X.w) X.A (eval e X.env) (fun u s2 => MkP X pins σ Q u s2 ∧ ∀ (a : Addr) (oe : Obj) (vs : Array Value), u = .ref a → s2.heap.get? a = some oe → oe.data = .fields vs → 4 < vs.size) X.xe s
theorem PMk6.pmk {X : Cx} {e : Expr} {t : St → Hp → XK → Prop} (h : PMk6 X e t) : PMk X e t := fun pins s σ H Q I q => thn (h pins s σ H Q I q) fun _ _ z => z.1
theorem under_quiet {A : Around} {Cl : Addr} {us : List Value} {kw : List (Str × Value)} (g : Quiet A) : Quiet (A.under (.builtin "type.__call__" ⟨.ref Cl :: us, kw⟩)) := by
  have e : A.guards = some [] := g
  show (A.under (.builtin "type.__call__" ⟨.ref Cl :: us, kw⟩)).guards = some []
  simp [Around.under, e, Code.guards, Code.isGuard, pushGuards, guardIds]
/-- an own error, made -/
theorem pmk_oexG {Cl fI : Addr} (T : OexC X.K Cl) (iC : PySem.W.findIn X.K (.ref Cl) "__init__" = some (some (.ref fI))) (tI : PySem.W.typeIn X.K (.ref fI) = some (.type "function"))
    (Fn : FnG X.prog X.w X.K X.mg X.base C k fI fd ps sp) (g : Quiet X.A) (r : Room (k + 1) X.A) (b : Binds X.K fd ps []) (none_out : Passes C X (fun _ _ _ => False)) (hg : Gl X x) (hm : X.mg x = some (.ref Cl)) (ha : PA X (e :: es) ta)
    (hdb : (x == ("__debug__" : Str)) = false := by decide) (he : starEach (e :: es) X.env = (false, eval e X.env) :: starEach es X.env := by rfl) (hpl : (backTo pos (starEach es X.env)).any (·.1) = false := by rfl) :
    PMk6 X (.Call (.Name x p) (e :: es) [] pos) (tMkO Cl sp [] ta) := by
  intro pins s σ H Q I h
  obtain ⟨nm, qn, NN, bs, bm, sn, sub, ab, col, dd, k0, k1, k2, k3, k5, isC, isB⟩ := T.cls
  refine wpAny_Call_Name_kw (ld_glob I hg hm ?_ hdb)
  refine PySem.W.callWith_K (h₀ := X.base) I.ok.mod.kin T.kC (thn (ha.run pos pins s σ H _ I h) fun us s1 z => ?_) he hpl
  obtain ⟨xs, H1, J, v, small, q⟩ := z
  refine ⟨J.kIn, ?_⟩
  obtain ⟨hp, gn, dr, tk, os⟩ := s1
  -- the tuple of the arguments, then the error
  have up : hp.objs.size ≤ hp.objs.size + 1 := Nat.le_succ _
  have new : H1 (hp.objs.size + 1) = none := J.hok.fresh up
  have q2 := q _ new
  generalize hG : (hp.push (PySem.W.kdv_tup us)).push (PySem.HandSPX.excO Cl hp.objs.size) = G
  have keep : ∀ c o, hp.get? c = some o → G.get? c = some o := fun c o z => by
    rw [← hG]
    exact Heap.get?_push_of_some _ (Heap.get?_push_of_some _ z)
  have here : G.get? (hp.objs.size + 1) = some (PySem.HandSPX.excO Cl hp.objs.size) := by
    rw [← hG]
    heap_get
  have J2 : Inv X pins σ (upd H1 (hp.objs.size + 1) (exo (hp.objs.size + 1) Cl none)) ⟨G, gn, dr, tk, os⟩ := J.laid (t' := tk) keep up (exo_ok here)
  have v2 : Vals (V.ref (hp.objs.size + 1) :: (xs ++ [])) (Value.ref (hp.objs.size + 1) :: (us ++ [])) := .cons rfl (v.append .nil)
  have n2 : (Value.ref (hp.objs.size + 1) :: us ++ []).length = ps.length := by
    have z := v2.length
    rw [Fn.count _ _ _ _ q2] at z
    exact z.symm
  have short : us.length ≤ sizeLine := by
    have z := v.length
    rw [← z, sizeLine_eq]
    omega
  have bb : BindsTo ⟨G, gn, dr, tk, os⟩ fd ⟨Value.ref (hp.objs.size + 1) :: us, []⟩ (ps.zip (Value.ref (hp.objs.size + 1) :: (us ++ []))) := by
    have z := b ⟨G, gn, dr, tk, os⟩ (Value.ref (hp.objs.size + 1) :: us) J2.kIn n2
    rw [List.cons_append] at z
    exact z
  have ran := Fn.runs _ X.stack _ _ ⟨Value.ref (hp.objs.size + 1) :: us, []⟩ (Value.ref (hp.objs.size + 1) :: (us ++ [])) _ _ (fun _ _ _ => False) (under_quiet g) (r.make Cl us []) (J2.env0.make Cl us []) bb v2 q2
  have isC2 := J.kIn _ _ isC
  subst hG
  refine wpAny_call (PySem.HandSPX.call_own PySem.F.excBase_ValueError (fun Y => PySem.HandSPX.refsVE_contains Y bm isB) isC2 (PySem.W.looks_findIn J.kIn iC) (fun self => PySem.W.bind_fn J.kIn self tI) short (codeAny_mono ran fun a s2 z => ?_))
  match a, z with
  | .error er, z => exact none_out pins σ _ _ er s2 J2 z
  | .ok .next, z => exact z.elim
  | .ok .brk, z => exact z.elim
  | .ok .cont, z => exact z.elim
  | .ok (.ret u), z =>
    obtain ⟨y, H2, os2, bare2, un2, hok2, rv, ey, d, fs, ea, ed, nd, q3⟩ := z
    subst ey
    obtain ⟨h2, g2, d2, t2, os3⟩ := s2
    have six : ∀ (y : Addr) (oe : Obj) (ws : Array Value), Value.ref (hp.objs.size + 1) = .ref y → h2.get? y = some oe → oe.data = .fields ws → 4 < ws.size := fun y oe ws e1 e2 e3 => by
      cases e1
      obtain ⟨t0, e4⟩ := exo_at hok2 ea
      rw [e4] at e2
      cases e2
      cases e3
      show (4 : Nat) < 6
      decide
    exact ⟨rv, mk_end (raises_own T.exC T.tyC) J up keep un2 hok2 os2 bare2 ea ed nd q3, six⟩
end
end L2

set_option Elab.async false
set_option linter.all false
set_option maxRecDepth 100000
set_option maxHeartbeats 4000000
/-! raise X(..) from Y(..), where nothing is being handled. -/
namespace L2
open PySem PySem.Spec PyProof.Rows
/-- the object of an error of which another one is the cause -/
def withCause (b : Addr) (o : Obj) : Obj := (o.mapFields (·.setIfInBounds 3 (.ref b))).mapFields (·.setIfInBounds 4 (.bool true))
/-- the heap in which the error at a has the one at b as its cause -/
def caused (h : Heap) (a b : Addr) : Heap := (h.update a (Obj.mapFields (·.setIfInBounds 3 (.ref b)))).update a (Obj.mapFields (·.setIfInBounds 4 (.bool true)))
theorem set_get {vs : Array Value} {i j : Nat} {x y : Value} (ne : i ≠ j) (h : vs[j]? = some y) : (vs.setIfInBounds i x)[j]? = some y := by
  first
  | (rw [Array.getElem?_setIfInBounds_ne ne]; exact h)
  | (simp [Array.getElem?_setIfInBounds, ne, h])
theorem caused_at {h : Heap} {a b : Addr} {oe : Obj} {vs : Array Value} (e : h.get? a = some oe) (d : oe.data = .fields vs) :
    (caused h a b).get? a = some (withCause b oe) ∧ (withCause b oe).data = .fields ((vs.setIfInBounds 3 (.ref b)).setIfInBounds 4 (.bool true)) := by
  have d3 := Obj.data_mapFields d (·.setIfInBounds 3 (.ref b))
  have e3 := Heap.get?_update_self (Obj.mapFields (·.setIfInBounds 3 (.ref b))) e (Obj.isFreed_of_fields d3)
  have d4 := Obj.data_mapFields d3 (·.setIfInBounds 4 (.bool true))
  exact ⟨Heap.get?_update_self (Obj.mapFields (·.setIfInBounds 4 (.bool true))) e3 (Obj.isFreed_of_fields d4), d4⟩
theorem caused_ne {h : Heap} {a b c : Addr} (ne : a ≠ c) : (caused h a b).get? c = h.get? c := by
  unfold caused
  rw [Heap.get?_update_other _ _ ne, Heap.get?_update_other _ _ ne]
theorem raise_from {P : Program} {w : World} {A : Around} {E : Value → Shared → Prop} {env : Env} {s : Shared} {x c : Sem Value} {Q : Flow → Shared → Prop} (calm : A.handled = none)
    (h : wpAny (model P w) A x (fun v s1 => ∃ a, v = .ref a ∧ wpAny (model P w) A c (fun u s2 => ∃ b oe ob vs ws cls cb, u = .ref b ∧ s2.heap.get? a = some oe ∧ oe.cls = cls ∧ oe.data = .fields vs ∧ vs[1]? = some .none ∧ 4 < vs.size ∧
      s2.heap.get? b = some ob ∧ ob.cls = cb ∧ ob.data = .fields ws ∧ PySem.W.Looks (model P w) s2.heap (isSubtype cls (.type "BaseException")) true ∧ PySem.W.Looks (model P w) s2.heap (isSubtype cb (.type "BaseException")) true ∧
      PySem.W.Looks (model P w) (caused s2.heap a b) (typeOf cls) (.type "type") ∧ E (.ref a) { s2 with heap := caused s2.heap a b }) E s1) E s) :
    wpAny (model P w) A (raiseStmt env (some x) (some c)) Q E s := by
  unfold raiseStmt
  dsimp only
  refine wpAny_bind (wpAny_mono h (fun v s1 z => ?_) fun _ _ y => y)
  obtain ⟨a, rfl, z⟩ := z
  refine wpAny_bind (wpAny_holding (wpAny_mono z (fun u s2 y => ?_) fun _ _ y => y))
  obtain ⟨b, oe, ob, vs, ws, cls, cb, rfl, ea, hcls, da, h1, big, eb, hcb, db, sub, subB, ty, out⟩ := y
  have type_a : PySem.W.Looks (model P w) s2.heap (typeOf (.ref a)) cls := fun A Q E s k q => wpAny_typeOf_ref (k _ _ ea) (by rw [hcls]; exact q)
  have type_b : PySem.W.Looks (model P w) s2.heap (typeOf (.ref b)) cb := fun A Q E s k q => wpAny_typeOf_ref (k _ _ eb) (by rw [hcb]; exact q)
  have inst_a : PySem.W.Looks (model P w) s2.heap (isInstance (.ref a) (.type "BaseException")) true := type_a.andThen sub
  have inst_b : PySem.W.Looks (model P w) s2.heap (isInstance (.ref b) (.type "BaseException")) true := type_b.andThen subB
  have no_type : ∀ {y : Addr} {oy : Obj} {us : Array Value} {s' : Shared} {R : Bool → Shared → Prop}, s'.heap.get? y = some oy → oy.data = .fields us → R false s' → wpAny (model P w) A (isType (.ref y)) R E s' := fun {y oy us s' R} e d q => by
    simp only [isType, loadHead]
    refine wpAny_bind (wpAny_loadPart e ?_)
    rw [d]
    exact wpAny_pure q
  have d3 := Obj.data_mapFields da (·.setIfInBounds 3 (.ref b))
  have e3 := Heap.get?_update_self (Obj.mapFields (·.setIfInBounds 3 (.ref b))) ea (Obj.isFreed_of_fields d3)
  obtain ⟨e4, d4⟩ := caused_at (b := b) ea da
  have n3 : 3 < vs.size := by omega
  have n4 : 4 < (vs.setIfInBounds 3 (Value.ref b)).size := by simpa using big
  have h4 : ((vs.setIfInBounds 3 (Value.ref b)).setIfInBounds 4 (Value.bool true))[1]? = some Value.none := set_get (by decide) (set_get (by decide) h1)
  have type4 : PySem.W.Looks (model P w) (caused s2.heap a b) (typeOf (.ref a)) cls := fun A Q E s k q => wpAny_typeOf_ref (k _ _ e4) (by
    have : (withCause b oe).cls = cls := by
      unfold withCause
      rw [Obj.cls_mapFields, Obj.cls_mapFields]
      exact hcls
    rw [this]
    exact q)
  have rest : wpAny (model P w) A (do
      let y ← isType (.ref a)
      if y = true then do
        let e ← holding [.ref a] (raisedFor (.ref a) (.ref a))
        setFlight e none
        raiseNew e
      else do
        let e ← raisedInstance (.ref a)
        setFlight e none
        raiseNew e : Sem Flow) Q E { s2 with heap := caused s2.heap a b } := by
    refine wpAny_bind (no_type e4 d4 ?_)
    simp only [Bool.false_eq_true, if_false]
    unfold raisedInstance
    refine wpAny_bind (wpAny_bind (type4.here (wpAny_bind (ty.here ?_))))
    rw [if_pos (beq_self_eq_true _)]
    refine wpAny_pure ?_
    unfold setFlight raiseNew
    refine wpAny_bind (wpAny_bind (wpAny_field e4 d4 h4 ?_))
    rw [if_neg (by decide)]
    refine wpAny_pure (wpAny_bind (wpAny_handled ?_))
    rw [calm]
    first
      | exact wpAny_throw out
      | exact wpAny_bind (wpAny_pure (wpAny_throw out))
  refine wpAny_bind (wpAny_pure ?_)
  dsimp only
  have told : ∀ {y : Addr} {oy : Obj} {us : Array Value} {m : String} {R : Value → Shared → Prop}, s2.heap.get? y = some oy → oy.data = .fields us → PySem.W.Looks (model P w) s2.heap (isInstance (.ref y) (.type "BaseException")) true → R (.ref y) s2 →
      wpAny (model P w) A (excFromValue (.ref y) m) R E s2 := fun {y oy us m R} e d i q => by
    unfold excFromValue isExcClass
    refine wpAny_bind (wpAny_bind (no_type e d ?_))
    simp only [Bool.false_eq_true, if_false]
    refine wpAny_pure ?_
    simp only [Bool.false_eq_true, if_false]
    refine wpAny_bind (i.here ?_)
    simp only [if_true]
    exact wpAny_pure q
  refine wpAny_bind (wpAny_holding (told ea da inst_a ?_))
  rw [if_neg (show ¬ (Value.ref b == Value.none) = true from fun z => nomatch z)]
  refine wpAny_bind (wpAny_holding (told eb db inst_b ?_))
  refine wpAny_bind (wpAny_setField ea da n3 (wpAny_bind (wpAny_setField e3 d3 n4 ?_)))
  exact rest
end L2

set_option Elab.async false
set_option linter.all false
set_option maxRecDepth 100000
set_option maxHeartbeats 4000000
/-! raise X(..) from Y(..): the rule. -/
namespace L2
open PySem PySem.Spec PyProof.Rows
section
variable {X : Cx} {pins : List (Addr × Obj)} {σ : St} {H : Hp} {s : Shared}
/-- the same, where only what is not the heap's has changed, and more is there -/
theorem Inv.grown {s2 : Shared} (I : Inv X pins σ H s) (k : ∀ b o, s.heap.get? b = some o → s2.heap.get? b = some o) (os : s2.os = s.os) (bare : AllBare s2.gens) : Inv X pins σ H s2 := by
  obtain ⟨h2, g2, d2, t2, o2⟩ := s2
  have J := I.kept (h' := h2) (t' := t2) k
  exact ⟨J.ok, by show o2 = _; exact Eq.trans os I.os, bare, J.base, J.loc, J.cell, J.free, J.freeC, J.pin, J.hok, J.len⟩
/-- one more object that is held fast -/
theorem Inv.hold {a : Addr} {o : Obj} (I : Inv X pins σ H s) (e : s.heap.get? a = some o) (n : H a = none) (l : a ≠ X.env.locals) (f : a ∉ X.fs) (c : ∀ v, o.data ≠ .cell v) : Inv X ((a, o) :: pins) σ H s := by
  refine ⟨I.ok, I.os, I.bare, I.base, I.loc, I.cell, I.free, I.freeC, fun p hp => ?_, I.hok, I.len⟩
  rcases List.mem_append.mp hp with h | h
  · exact I.pin p (List.mem_append_left _ h)
  · rcases List.mem_cons.mp h with h | h
    · rw [h]
      exact ⟨e, n, l, f, c⟩
    · exact I.pin p (List.mem_append_right _ h)
/-- without an object that is not tracked, nor a frame's nor a cell -/
theorem Inv.less {a : Addr} {o : Obj} {G : Heap} (I : Inv X ((a, o) :: pins) σ H s) (new : X.s_0.heap.get? a = none) (c : ∀ v, o.data ≠ .cell v) (away : ∀ p ∈ X.pn ++ pins, p.1 ≠ a) (gk : ∀ b, b ≠ a → G.get? b = s.heap.get? b) : Inv X pins σ H { s with heap := G } := by
  obtain ⟨ea, na, la, fa, _⟩ := I.pin (a, o) (List.mem_append_right _ (List.mem_cons_self ..))
  have old : ∀ {b : Addr} {u : Obj}, X.s_0.heap.get? b = some u → b ≠ a := fun {b u} e z => by
    rw [z, new] at e
    cases e
  have look : ∀ {b : Addr} {v : Option Value}, s.heap.IsCell b v → G.IsCell b v := fun {b v} ⟨u, hu, hd⟩ => by
    refine ⟨u, ?_, hd⟩
    rw [gk b fun z => ?_]
    · exact hu
    · rw [z, ea] at hu
      cases hu
      exact c _ hd
  refine ⟨I.ok, I.os, I.bare, ?_, ?_, fun x b e => ?_, I.free, I.freeC, fun p hp => ?_, ?_, I.len⟩
  · refine { keep := fun b u e n h1 h2 => ?_, slot := fun b u e n h1 h2 => ?_, free := I.base.free, there := fun b u e h => ?_, tups := I.base.tups, frzs := I.base.frzs, tbls := I.base.tbls }
    · show G.get? b = _
      rw [gk b (old e)]
      exact I.base.keep b u e n h1 h2
    · show ∃ sl, G.get? b = _
      rw [gk b (old e)]
      exact I.base.slot b u e n h1 h2
    · show ∃ q, G.get? b = some q
      rw [gk b (old e)]
      exact I.base.there b u e h
  · obtain ⟨m, ⟨u, es, ep, e, d, r⟩, q⟩ := I.loc
    refine ⟨m, ⟨u, es, ep, ?_, d, r⟩, fun i x v h1 h2 h3 => ?_⟩
    · show G.get? _ = _
      rw [gk _ (Ne.symm la)]
      exact e
    · obtain ⟨w, rv, lk⟩ := q i x v h1 h2 h3
      refine ⟨w, rv, ?_⟩
      rcases lk with lk | ⟨k1, b, k2, k3⟩
      · exact .inl lk
      · exact .inr ⟨k1, b, k2, look k3⟩
  · obtain ⟨v, hv⟩ := I.cell x b e
    exact ⟨v, look hv⟩
  · obtain ⟨e, r⟩ := I.pin p (by
      rcases List.mem_append.mp hp with h | h
      · exact List.mem_append_left _ h
      · exact List.mem_append_right _ (List.mem_cons_of_mem _ h))
    refine ⟨?_, r⟩
    show G.get? _ = _
    rw [gk _ (away p hp)]
    exact e
  · intro b u e
    have nb : b ≠ a := fun z => by
      rw [z, na] at e
      cases e
    refine (I.hok b u e).stay (fun d v hd q => ?_) (fun d q => q) fun d xs q => q
    rw [gk d ?_]
    · exact q
    · rcases hd with z | z
      · rw [z]
        exact nb
      · exact fun y => by
          rw [y, na] at z
          cases z
end
section
variable {X : Cx} {C : Addr} {e c : Expr} {te tc : St → Hp → XK → Prop} {pos : Pos} {W : WX}
theorem ps_from (hex : X.ex = []) (hc : X.calm = true) (tk : Takes X W) (he : PMk6 X e te) (hcs : PMk X c tc) : PS X (.Raise (some e) (some c) pos) (fun _ σ H => te σ H fun cls d H1 => tc σ H1 fun _ _ H2 => W cls d σ H2) := by
  refine ⟨fun pins s σ H D I h => ?_⟩
  show wpAny _ _ (do standAt pos; raiseStmt X.env (some (do let v ← eval e X.env; standAt pos; pure v)) (some (do let v ← eval c X.env; standAt pos; pure v))) _ _ _
  refine wpAny_bind (wpAny_standAt (raise_from (I.ok.hd hc) (wpAny_bind (wpAny_mono (he pins s σ H _ I h) (fun u s1 hu => wpAny_bind (wpAny_standAt (wpAny_pure ?_))) fun _ _ x => x))))
  obtain ⟨⟨a, oe, vs, sI, H1, cls, d, rfl, J, k, gone, ea, za, da, first, na, os, bare, r, q⟩, six⟩ := hu
  have big := six a oe vs rfl ea da
  have nocell : ∀ v, oe.data ≠ .cell v := fun v z => by
    rw [da] at z
    cases z
  have other : ∀ {b : Addr} {o : Obj}, sI.heap.get? b = some o → b ≠ a := fun {b o} e z => by
    rw [z, gone] at e
    cases e
  have new : X.s_0.heap.get? a = none := by
    cases z : X.s_0.heap.get? a with
    | none => rfl
    | some o =>
      obtain ⟨o2, e2⟩ := J.base.there a o z (by rw [hex]; exact List.not_mem_nil)
      exact absurd rfl (other e2)
  have aloc : a ≠ X.env.locals := fun z => by
    obtain ⟨m, ⟨u, es, ep, e1, _⟩, _⟩ := J.loc
    exact other e1 z.symm
  have afs : a ∉ X.fs := fun z => by
    obtain ⟨_, o, ho, _⟩ := J.ok.funs.mem z
    rw [new] at ho
    cases ho
  have J2 := (J.grown k os bare).hold ea na aloc afs nocell
  refine ⟨a, rfl, wpAny_bind (wpAny_mono (hcs _ s1 σ H1 _ J2 q) (fun u s2 hu => wpAny_bind (wpAny_standAt (wpAny_pure ?_))) fun _ _ x => x)⟩
  obtain ⟨b, ob, ws, sI2, H2, cls2, d2, rfl, J3, k2, gone2, eb, zb, db, first2, nb, os2, bare2, r2, q2⟩ := hu
  obtain ⟨ea2, na2, _⟩ := J3.pin (a, oe) (List.mem_append_right _ (List.mem_cons_self ..))
  have ea3 := k2 _ _ ea2
  have kin2 := J3.kIn.keeps k2
  have inK : ∀ {y : Addr} {o : Obj}, X.K.lookup y = some o → y ≠ a := fun {y o} e => other (J.kIn _ _ e)
  obtain ⟨c1, c2⟩ := caused_at (b := b) ea3 da
  have kin3 : X.K.In (caused s2.heap a b) := fun y o e => by
    rw [caused_ne (Ne.symm (inK e))]
    exact kin2 _ _ e
  obtain ⟨l1, _⟩ := r (model X.prog X.w) s2.heap kin2
  obtain ⟨_, l3⟩ := r (model X.prog X.w) (caused s2.heap a b) kin3
  obtain ⟨l2, _⟩ := r2 (model X.prog X.w) s2.heap kin2
  obtain ⟨G, g1, g2⟩ := restrict sI2.heap fun y => decide (y ≠ a)
  have gk : ∀ y, y ≠ a → G.get? y = sI2.heap.get? y := fun y hy => g1 y (decide_eq_true hy)
  have ga : G.get? a = none := g2 a (by simp)
  have J4 := J3.less (G := G) new nocell (fun p hp => other (J.pin p hp).1) gk
  refine ⟨b, oe, ob, vs, ws, cls, cls2, rfl, ea3, za.1, da, first, big, eb, zb.1, db, l1, l2, l3, tk _ _ ?_⟩
  refine XE.new (s' := { s2 with heap := caused s2.heap a b }) J4 (fun y o e => ?_) ga c1 ?_ c2 ?_ na2 os2 bare2 q2
  · have ne : y ≠ a := fun z => by
      rw [z] at e
      rw [show G.get? a = some o from e] at ga
      cases ga
    show (caused s2.heap a b).get? y = _
    rw [caused_ne (Ne.symm ne)]
    exact k2 _ _ ((gk y ne).symm.trans e)
  · unfold withCause
    exact Zc.steady _ _ (Zc.steady _ _ za)
  · exact set_get (by decide) (set_get (by decide) first)
end
end L2

set_option Elab.async false
set_option linter.all false
set_option maxRecDepth 100000
set_option maxHeartbeats 4000000
/-! Values with dicts among them, told by repr. -/
namespace L2
open PySem PySem.Spec PyProof.Rows
/-- a key as a datum -/
def keyD : Key → PyData
  | .inl i => .int i
  | .inr s => .str s
def zipD (ks : List Key) (ds : List PyData) : List (PyData × PyData) := (ks.map keyD).zip ds
mutual
inductive PyW (H : Hp) : V → PyData → Prop
  | non : PyW H .non .none
  | bl (b : Bool) : PyW H (.bl b) (.bool b)
  | int (i : Int) : PyW H (.int i) (.int i)
  | str (z : Str) : PyW H (.str z) (.str z)
  | tup {a : Addr} {xs : List V} {ds : List PyData} : H a = some (.tup xs) → PyWs H xs ds → PyW H (.ref a) (.tuple ds)
  | lst {a : Addr} {xs : List V} {ds : List PyData} : H a = some (.lst xs) → PyWs H xs ds → PyW H (.ref a) (.list ds)
  | dic {a : Addr} {kvs : List (Key × V)} {ds : List PyData} : H a = some (.dK kvs) → PyWs H (kvs.map (·.2)) ds → PyW H (.ref a) (.dict (zipD (kvs.map (·.1)) ds))
inductive PyWs (H : Hp) : List V → List PyData → Prop
  | nil : PyWs H [] []
  | cons {x : V} {d : PyData} {xs : List V} {ds : List PyData} : PyW H x d → PyWs H xs ds → PyWs H (x :: xs) (d :: ds)
end
mutual
theorem PyW.keep {H H2 : Hp} (s : ∀ b o, H b = some o → ((∃ xs, o = .tup xs) ∨ (∃ xs, o = .lst xs) ∨ ∃ xs, o = .dK xs) → H2 b = some o) : ∀ {x : V} {d : PyData}, PyW H x d → PyW H2 x d
  | _, _, .non => .non
  | _, _, .bl b => .bl b
  | _, _, .int i => .int i
  | _, _, .str z => .str z
  | _, _, .tup h r => .tup (s _ _ h (.inl ⟨_, rfl⟩)) (PyWs.keep s r)
  | _, _, .lst h r => .lst (s _ _ h (.inr (.inl ⟨_, rfl⟩))) (PyWs.keep s r)
  | _, _, .dic h r => .dic (s _ _ h (.inr (.inr ⟨_, rfl⟩))) (PyWs.keep s r)
theorem PyWs.keep {H H2 : Hp} (s : ∀ b o, H b = some o → ((∃ xs, o = .tup xs) ∨ (∃ xs, o = .lst xs) ∨ ∃ xs, o = .dK xs) → H2 b = some o) : ∀ {xs : List V} {ds : List PyData}, PyWs H xs ds → PyWs H2 xs ds
  | _, _, .nil => .nil
  | _, _, .cons h r => .cons (PyW.keep s h) (PyWs.keep s r)
end
theorem PyW.same {H H2 : Hp} (s : ∀ b o, H b = some o → H2 b = some o) {x : V} {d : PyData} (p : PyW H x d) : PyW H2 x d := p.keep fun b o e _ => s b o e
theorem PyWs.same {H H2 : Hp} (s : ∀ b o, H b = some o → H2 b = some o) {xs : List V} {ds : List PyData} (p : PyWs H xs ds) : PyWs H2 xs ds := p.keep fun b o e _ => s b o e
theorem PyW.but {H H2 : Hp} {a : Addr} {x : V} {d : PyData} {f : Heap → Prop} (p : PyW H x d) (s : ∀ b o, H b = some o → b ≠ a → H2 b = some o) (ha : H a = some (.ext f)) : PyW H2 x d :=
  p.keep fun b o e k => s b o e fun z => by
    rw [z, ha] at e
    cases e
    rcases k with ⟨xs, k⟩ | ⟨xs, k⟩ | ⟨xs, k⟩ <;> cases k
theorem PyWs.length {H : Hp} : ∀ {xs : List V} {ds : List PyData}, PyWs H xs ds → xs.length = ds.length
  | _, _, .nil => rfl
  | _, _, .cons _ r => by rw [List.length_cons, List.length_cons, PyWs.length r]
theorem PyWs.append {H : Hp} : ∀ {xs ys : List V} {ds es : List PyData}, PyWs H xs ds → PyWs H ys es → PyWs H (xs ++ ys) (ds ++ es)
  | _, _, _, _, .nil, q => q
  | _, _, _, _, .cons h r, q => .cons h (PyWs.append r q)
theorem zipD_fst : ∀ (ks : List Key) (ds : List PyData), ks.length = ds.length → (zipD ks ds).map (·.1) = ks.map keyD
  | [], _, _ => rfl
  | k :: ks, [], h => by cases h
  | k :: ks, d :: ds, h => by
    show keyD k :: (zipD ks ds).map (·.1) = keyD k :: ks.map keyD
    rw [zipD_fst ks ds (by simpa using h)]
theorem zipD_snd : ∀ (ks : List Key) (ds : List PyData), ks.length = ds.length → (zipD ks ds).map (·.2) = ds
  | [], [], _ => rfl
  | [], d :: ds, h => by cases h
  | k :: ks, [], h => by cases h
  | k :: ks, d :: ds, h => by
    show d :: (zipD ks ds).map (·.2) = d :: ds
    rw [zipD_snd ks ds (by simpa using h)]
/-- the keys of a dict read -/
theorem keys_read {P : Program} {w : World} {h : Heap} : ∀ {es : List DictEntry} {kvs : List (Key × V)} {vs : List (Key × Value)}, KV kvs vs → Pairs (mixKind P w) es vs →
    ReadsAll h (es.map (·.key)) ((kvs.map (·.1)).map keyD) [] ∧ Vals (kvs.map (·.2)) (es.map (·.val))
  | _, _, _, .nil, .nil => ⟨.nil, .nil⟩
  | e :: es, kv :: kvs, q :: vs, .cons r1 r2, .cons p1 p2 p3 => by
    obtain ⟨h1, h2⟩ := keys_read r2 p3
    obtain ⟨k, v⟩ := kv
    obtain ⟨k', v'⟩ := q
    obtain ⟨rk, rv⟩ := r1
    obtain rfl : k = k' := rk
    have rv' : RelV v v' := rv
    have e2 : e.val = v' := p2
    refine ⟨?_, ?_⟩
    · have one : Reads h e.key (keyD k) [] := by
        rcases keyIs_shape p1 with ⟨i, t, rfl, ek⟩ | ⟨x, t, rfl, ek⟩
        · rw [ek]
          exact .int i t
        · rw [ek]
          exact .str x t
      exact ReadsAll.cons one h1
    · show Vals (v :: kvs.map (·.2)) (e.val :: es.map (·.val))
      rw [e2]
      exact .cons rv' h2
mutual
theorem PyW.reads {P : Program} {w : World} {H : Hp} {h : Heap} (ok : HOk P w H h) (ns : H sysModules = none) : ∀ {x : V} {d : PyData} {u : Value}, PyW H x d → RelV x u → ∃ as, Reads h u d as ∧ sysModules ∉ as
  | _, _, u, .non, r => by
    obtain rfl : u = Value.none := r
    exact ⟨_, .none, List.not_mem_nil⟩
  | _, _, u, .bl b, r => by
    obtain rfl : u = Value.bool b := r
    exact ⟨_, .bool b, List.not_mem_nil⟩
  | _, _, u, .int i, r => by
    obtain ⟨t, rfl⟩ : ∃ t, u = Value.int i t := r
    exact ⟨_, .int i t, List.not_mem_nil⟩
  | _, _, u, .str z, r => by
    obtain ⟨t, rfl⟩ : ∃ t, u = Value.str z t := r
    exact ⟨_, .str z t, List.not_mem_nil⟩
  | _, _, u, .tup (a := a) h1 h2, r => by
    obtain rfl : u = Value.ref a := r
    obtain ⟨_, its, rel, o, e1, e2, n, e3⟩ := ok a _ h1
    obtain ⟨as, q, m⟩ := PyWs.reads ok ns h2 rel
    exact ⟨_, .tuple e1 e2 e3 q, m⟩
  | _, _, u, .lst (a := a) h1 h2, r => by
    obtain rfl : u = Value.ref a := r
    obtain ⟨_, its, n, rel, e1⟩ := ok a _ h1
    obtain ⟨as, q, m⟩ := PyWs.reads ok ns h2 rel
    exact ⟨_, .list e1 rfl rfl q, fun z => (List.mem_cons.mp z).elim (fun e => ne_of_none h1 ns e.symm) m⟩
  | _, _, u, .dic (a := a) (kvs := kvs) (ds := ds) h1 h2, r => by
    obtain rfl : u = Value.ref a := r
    obtain ⟨_, hs, vs, rel, o, es, ep, e1, ex, e2, _, pr, _⟩ := ok a _ h1
    obtain ⟨rk, rv⟩ := keys_read (h := h) rel pr
    obtain ⟨bs, q, m⟩ := PyWs.reads ok ns h2 rv
    have hl : (kvs.map (·.1)).length = ds.length := by
      have := PyWs.length h2
      rw [List.length_map] at this ⊢
      exact this
    refine ⟨_, .dict e1 ex.1 e2 (as := []) (bs := bs) (by rw [zipD_fst _ _ hl]; exact rk) (by rw [zipD_snd _ _ hl]; exact q), fun z => ?_⟩
    exact (List.mem_cons.mp (show sysModules ∈ a :: bs from z)).elim (fun e => ne_of_none h1 ns e.symm) m
theorem PyWs.reads {P : Program} {w : World} {H : Hp} {h : Heap} (ok : HOk P w H h) (ns : H sysModules = none) : ∀ {xs : List V} {ds : List PyData} {us : List Value}, PyWs H xs ds → Vals xs us → ∃ as, ReadsAll h us ds as ∧ sysModules ∉ as
  | _, _, _, .nil, r => by
    cases r
    exact ⟨_, .nil, List.not_mem_nil⟩
  | _, _, _, .cons h1 h2, r => by
    cases r with
    | cons r1 r2 =>
      obtain ⟨a1, q1, m1⟩ := PyW.reads ok ns h1 r1
      obtain ⟨a2, q2, m2⟩ := PyWs.reads ok ns h2 r2
      exact ⟨_, .cons q1 q2, fun z => (List.mem_append.mp z).elim m1 m2⟩
end
/-- sys.modules stands in the ground -/
def SysIn (base : Heap) : Prop := ∃ o, base.get? sysModules = some o
theorem SysIn.no {X : Cx} {pins : List (Addr × Obj)} {σ : St} {H : Hp} {s : Shared} (b : SysIn X.base) (I : Inv X pins σ H s) : H sysModules = none := by
  obtain ⟨o, e⟩ := b
  exact (I.bs _ _ e).2
/-- it is flat, or an object -/
theorem PyW.flat {H : Hp} {x : V} {d : PyData} (p : PyW H x d) : PyV H x d ∨ ∃ a, x = .ref a := by
  cases p with
  | non => exact .inl .non
  | bl b => exact .inl (.bl b)
  | int i => exact .inl (.int i)
  | str z => exact .inl (.str z)
  | tup h r => exact .inr ⟨_, rfl⟩
  | lst h r => exact .inr ⟨_, rfl⟩
  | dic h r => exact .inr ⟨_, rfl⟩
section
variable {X : Cx} {j : Nat}
theorem repr_anyW {pins : List (Addr × Obj)} {σ : St} {H : Hp} {s : Shared} {Q : VK} {x : V} {u : Value} {d : PyData} (sys : SysIn X.base) (quiet : X.A.guards = some []) (room : X.A.units + 64 < cLine) (I : Inv X pins σ H s) (r : RelV x u) (p : PyW H x d) (t : Tells d) (q : Q (.str d.shown) H) :
    wpAny (model X.prog X.w) X.A (pyReprObj u) (EP X pins σ Q) X.xe s := by
  rcases p.flat with f | ⟨a, rfl⟩
  · exact repr_any quiet room I r f t q
  · obtain rfl : u = Value.ref a := r
    obtain ⟨as, rd, no⟩ := p.reads I.hok (sys.no I) rfl
    have dp := t.dp
    exact pyReprObj_of_reads rd t.sh (fun _ => no) quiet (by omega) (fun _ _ e => e) (fun h2 k tk kp => ⟨.str d.shown, H, I.kept kp, ⟨k, rfl⟩, q⟩) t.size
/-- repr(x) -/
theorem call_reprW (sys : SysIn X.base) (quiet : X.A.guards = some []) (room : Room j X.A) : CallR X (.builtin "repr") (fun xs H Q => ∃ x d, xs = [x] ∧ PyW H x d ∧ Tells d ∧ Q (.str d.shown) H) := by
  intro pins s σ H xs us Q I rel h
  obtain ⟨x, d, rfl, p, t, q⟩ := h
  rcases p.flat with f | ⟨a, rfl⟩
  · exact call_reprG quiet room pins s σ H _ us Q I rel ⟨x, d, rfl, f, t, q⟩
  · match us, rel with
    | [u], .cons r .nil =>
      obtain rfl : u = Value.ref a := r
      obtain ⟨as, rd, no⟩ := p.reads I.hok (sys.no I) rfl
      have dp := t.dp
      have ru := room.units
      exact repr_of_reads' rd t.sh (fun _ => no) quiet (by omega) (fun _ _ e => e) (fun h2 k tk kp => ⟨.str d.shown, H, I.kept kp, ⟨k, rfl⟩, q⟩) t.size
/-- {x!r} of a datum -/
def tFmtW (te : TE) : TE := fun σ H Q => te σ H fun x H1 => ∃ d, PyW H1 x d ∧ Tells d ∧ Q (.str d.shown) H1
theorem pe_fmtW {e : Expr} {te : TE} {pos : Pos} (sys : SysIn X.base) (quiet : X.A.guards = some []) (room : Room j X.A) (he : PE X e te) : PE X (.FormattedValue e 114 none pos) (tFmtW te) := by
  refine ⟨fun pins s σ H Q I h => wpAny_FormattedValue_repr (thn (he.run pins s σ H _ I h) fun v s1 hv => ?_)⟩
  obtain ⟨x, H1, J, rel, d, p, t, q⟩ := hv
  refine thn (repr_anyW (Q := fun y H2 => y = .str d.shown ∧ H2 = H1) sys quiet room.units J rel p t ⟨rfl, rfl⟩) fun u s2 z => ?_
  obtain ⟨y, H2, J2, r2, ey, eH⟩ := z
  subst ey
  subst eH
  obtain ⟨k, rfl⟩ := r2
  exact wpAny_formatField_str ⟨.str d.shown, _, J2, ⟨_, rfl⟩, q⟩ ⟨.str d.shown, _, J2.tok _, ⟨_, rfl⟩, q⟩ t.size
end
end L2

set_option Elab.async false
set_option linter.all false
set_option maxRecDepth 100000
set_option maxHeartbeats 4000000
/-! The drawing of the law: the pen, a draw, a pick. -/
namespace V8
open PySem PySem.Spec PyProof.Rows L2
def topS (i : Nat) : Stmt := PySem.Challenge.pw_blindrepair_k09_misreadings_refused.main.body.getD i (.Pass ⟨0, 0, 0, 0⟩)
abbrev s_pen : Stmt := topS 35
abbrev n_pen : List Str := ["_law_script"]
theorem sc_pen : FnScope ["_law_script"] ["_law_script"] (defScope s_pen) := ⟨rfl, rfl, rfl, by decide +kernel, rfl, by decide +kernel, by decide +kernel⟩
abbrev s_draw : Stmt := topS 36
abbrev n_draw : List Str := ["_law_pen_here", "_law_many", "_law_digit", "_law_spot", "_law_cell", "_law_great", "_law_stirred"]
theorem sc_draw : FnScope ["_law_pen_here", "_law_many", "_law_digit", "_law_spot", "_law_cell", "_law_great", "_law_stirred"] ["_law_pen_here", "_law_many"] (defScope s_draw) := ⟨rfl, rfl, rfl, by decide +kernel, rfl, by decide +kernel, by decide +kernel⟩
abbrev s_pick : Stmt := topS 37
abbrev n_pick : List Str := ["_law_pen_here", "_law_some"]
theorem sc_pick : FnScope ["_law_pen_here", "_law_some"] ["_law_pen_here", "_law_some"] (defScope s_pick) := ⟨rfl, rfl, rfl, by decide +kernel, rfl, by decide +kernel, by decide +kernel⟩

/-- all but the object at p stands as it stood -/
def Fr (p : Addr) (H H' : Hp) : Prop := ∀ b o, H b = some o → b ≠ p → H' b = some o
theorem Fr.refl {p : Addr} {H : Hp} : Fr p H H := fun _ _ h _ => h
theorem Fr.trans {p : Addr} {H H1 H2 : Hp} (a : Fr p H H1) (b : Fr p H1 H2) : Fr p H H2 := fun c o h n => b c o (a c o h n) n
theorem Fr.new {p q : Addr} {o : HO} {H : Hp} (h : H q = none) : Fr p H (upd H q o) := fun b u e _ => by
  rw [upd_ne (ne_of_none e h)]; exact e
theorem Fr.at {p : Addr} {o : HO} {H : Hp} : Fr p H (upd H p o) := fun b u e n => by
  rw [upd_ne n]; exact e
theorem Fr.none' {p q : Addr} {H H' : Hp} (a : Fr p H H') (hp : H' p ≠ none) (h : H' q = none) : H q = none := by
  cases e : H q with
  | none => rfl
  | some o =>
    by_cases hq : q = p
    · subst hq; exact absurd h hp
    · rw [a q o e hq] at h; cases h
/-- the pen at p, the script's ints at l, n draws are let -/
structure PenAt (H : Hp) (p l : Addr) (ns : List Int) (n : Nat) : Prop where
  here : ∃ (spot great : Int), H p = some (.lst [.ref l, .int spot, .int great]) ∧ 0 ≤ spot ∧ spot + n ≤ 1000000 ∧ 0 ≤ great
  nums : H l = some (.lst (ns.map V.int))
  ne : l ≠ p
  short : ns.length ≤ 63
theorem PenAt.less {H : Hp} {p l : Addr} {ns : List Int} {n m : Nat} (P : PenAt H p l ns n) (h : m ≤ n) : PenAt H p l ns m := by
  obtain ⟨⟨s, g, h1, h2, h3, h4⟩, i, e, sh⟩ := P
  exact ⟨⟨s, g, h1, h2, by omega, h4⟩, i, e, sh⟩
theorem PenAt.some' {H : Hp} {p l : Addr} {ns : List Int} {n : Nat} (P : PenAt H p l ns n) : H p ≠ none := by
  obtain ⟨⟨s, g, h1, _⟩, _⟩ := P
  rw [h1]; exact fun z => nomatch z
theorem PenAt.new {H : Hp} {p l q : Addr} {o : HO} {ns : List Int} {n : Nat} (P : PenAt H p l ns n) (h : H q = none) : PenAt (upd H q o) p l ns n := by
  obtain ⟨⟨s, g, h1, h2, h3, h4⟩, i, e, sh⟩ := P
  exact ⟨⟨s, g, by rw [upd_ne (ne_of_none h1 h)]; exact h1, h2, h3, h4⟩, by rw [upd_ne (ne_of_none i h)]; exact i, e, sh⟩
/-- another object is written -/
theorem PenAt.other {H : Hp} {p l q : Addr} {o : HO} {ns : List Int} {n : Nat} (P : PenAt H p l ns n) (h : q ≠ p) (h' : q ≠ l) : PenAt (upd H q o) p l ns n := by
  obtain ⟨⟨s, g, h1, h2, h3, h4⟩, i, e, sh⟩ := P
  exact ⟨⟨s, g, by rw [upd_ne (Ne.symm h)]; exact h1, h2, h3, h4⟩, by rw [upd_ne (Ne.symm h')]; exact i, e, sh⟩
def spDraw : Sp := fun vs H Q _ => ∃ (p l : Addr) (ns : List Int) (n : Nat) (many : Int), vs = [.ref p, .int many] ∧ PenAt H p l ns (n + 1) ∧ 0 < many ∧ many < 1000 ∧
  ∀ (v : Int) (H' : Hp), 0 ≤ v → v < many → PenAt H' p l ns n → Fr p H H' → Q (.int v) H'
section
variable {P : Program} {w : World} {K : PySem.W.Frag} {mg : Str → Option Value} {base : Heap}
theorem ints_at {ns : List Int} {i : Int} (h0 : 0 ≤ i) (h : i < ns.length) : ∃ z : Int, atI (ns.map V.int) i = some (.int z) := by
  obtain ⟨j, rfl⟩ : ∃ j : Nat, i = j := ⟨i.toNat, by omega⟩
  have hj : j < ns.length := by omega
  exact ⟨ns[j], atI_nat (by rw [List.getElem?_map, List.getElem?_eq_getElem hj]; rfl)⟩
def dInts (ns : List Int) : List PyData := ns.map PyData.int
theorem dp_ints {H : Hp} : ∀ ns : List Int, DpAll K H (ns.map V.int) (dInts ns)
  | [] => .nil
  | n :: ns => .cons (.int n) (dp_ints ns)
theorem lay_ints : ∀ ns : List Int, PyData.canLayAll0 (dInts ns) = true
  | [] => by simp [dInts, PyData.canLayAll0]
  | n :: ns => by
    have h := lay_ints ns
    simp only [dInts, List.map_cons, PyData.canLayAll0, PyData.canLay0, Bool.true_and]
    exact h
theorem depth_ints : ∀ ns : List Int, PyData.depthAll (dInts ns) = 0
  | [] => by simp [dInts, PyData.depthAll]
  | n :: ns => by
    have h := depth_ints ns
    simp only [dInts, List.map_cons, PyData.depthAll, PyData.depth]
    unfold dInts at h
    omega
theorem shaped_ints (ns : List Int) : SeqAt.shaped (.list (dInts ns)) = true := by
  have h2 : PyData.depth (.list (dInts ns)) ≤ 64 := by
    simp only [PyData.depth, depth_ints]
    omega
  show (PyData.canLay0 (.list (dInts ns)) && decide (PyData.depth (.list (dInts ns)) ≤ 64)) = true
  rw [Bool.and_eq_true]
  exact ⟨by simp only [PyData.canLay0]; exact lay_ints ns, decide_eq_true h2⟩
structure Blt (mg : Str → Option Value) : Prop where
  list : mg "list" = none
  int : mg "int" = none
  len : mg "len" = none
  abs : mg "abs" = none
  range : mg "range" = none
  dict : mg "dict" = none
  str : mg "str" = none
  sorted : mg "sorted" = none
  tuple : mg "tuple" = none
theorem pw2 {st spot : Int} (s0 : 0 ≤ st) (s1 : st < 2147469949) (h0 : 0 ≤ spot) (h1 : spot ≤ 1000000) : (st * (2 * spot + 113) + 60025 * spot * spot + 75).natAbs < 2 ^ 64 := by
  have a1 : st * (2 * spot + 113) ≤ 2147483647 * 2000999 := Int.mul_le_mul (by omega) (by omega) (by omega) (by omega)
  have a0 : 0 ≤ st * (2 * spot + 113) := Int.mul_nonneg s0 (by omega)
  have c1 : 60025 * spot * spot ≤ 99999000000 * 1000000 := Int.mul_le_mul (by omega) h1 h0 (by omega)
  have c0 : 0 ≤ 60025 * spot * spot := Int.mul_nonneg (by omega) h0
  omega
theorem ok_draw {f : Addr} {fd : FuncData} {k : Nat} (F : Fun K "_law_draw" "_law_draw" s_draw f fd) (T : Blt mg) : FnOk P w K mg base CX0 (k + 1) f fd ["_law_pen_here", "_law_many"] spDraw := by
  refine F.ok sc_draw (fun vs H Q E h => ?_) (fun cdv A outer s H vs Q E hr h => ?_)
  · obtain ⟨p, l, ns, n, many, rfl, _⟩ := h
    rfl
  · obtain ⟨p, l, ns, n, many, rfl, PA, m0, m1, q⟩ := h
    obtain ⟨⟨spot, great, hp, hs0, hsn, hg⟩, hl, hne, hsh⟩ := id PA
    refine ⟨_, (pss_cons (ps_if (pt_cmpR op_gt (pe_ix (ix_listK (K := K) rfl) (pv 0) pe_int (fun _ _ => rfl)) pe_int (nomark _))
        (pss_cons (ps_set (i := 2) sc_draw.nd rfl (.inl rfl) (pe_op op_mod (pe_callTy call_int1 (by rfl) T.int (by decide +kernel) (pa_cons (pe_ix (ix_listK (K := K) rfl) (pv 0) pe_int (fun _ _ => rfl)) pa_nil)) (pv 1)))
        (pss_cons (ps_asg (pe_op op_fdiv (pe_callTy call_int1 (by rfl) T.int (by decide +kernel) (pa_cons (pe_ix (ix_listK (K := K) rfl) (pv 0) pe_int (fun _ _ => rfl)) pa_nil)) (pv 1)) (pg_sub (pv 0) pe_int set_list))
        (pss_one (ps_ret (pv 2)))))
        pss_nil)
      (pss_cons (ps_set (i := 3) sc_draw.nd rfl (.inl rfl) (pe_ix (ix_listK (K := K) rfl) (pv 0) pe_int (fun _ _ => rfl)))
      (pss_cons (ps_asg (pe_op op_add (pv 3) pe_int) (pg_sub (pv 0) pe_int set_list))
      (pss_cons (ps_set (i := 4) sc_draw.nd rfl (.inl rfl) (pe_op op_add (pe_op op_mul pe_int (pv 3)) pe_int))
      (pss_cons (ps_if (pt_cmpR (op_neDK (K := K) rfl hr.units) (pe_ix (ix_listK (K := K) rfl) (pv 0) pe_int (fun _ _ => rfl)) (pe_lst pa_nil) (nomark _))
        (pss_one (ps_set (i := 4) sc_draw.nd rfl (.inl rfl) (pe_ix (ix_listK (K := K) rfl) (pe_ix (ix_listK (K := K) rfl) (pv 0) pe_int (fun _ _ => rfl)) (pe_op op_mod (pe_callTy call_int1 (by rfl) T.int (by decide +kernel) (pa_cons (pv 3) pa_nil)) (pe_callB (call_len_seqK (K := K) rfl) (by rfl) T.len (by decide +kernel) (pa_cons (pe_ix (ix_listK (K := K) rfl) (pv 0) pe_int (fun _ _ => rfl)) pa_nil))) (fun _ _ => rfl))))
        pss_nil)
      (pss_cons (ps_if (PW.pt (pw_and (pt_cmpR op_lt (pv 3) (pe_callB (call_len_seqK (K := K) rfl) (by rfl) T.len (by decide +kernel) (pa_cons (pe_ix (ix_listK (K := K) rfl) (pv 0) pe_int (fun _ _ => rfl)) pa_nil)) (nomark _)) (pw_and1 (pt_cmpR op_ge (pe_callB call_abs (by rfl) T.abs (by decide +kernel) (pa_cons (pv 4) pa_nil)) (pe_op op_pow pe_int pe_int) (nomark _)))))
        (pss_cons (ps_set (i := 5) sc_draw.nd rfl (.inl rfl) (pe_op op_add (pe_op op_mul pe_int (pe_op op_sub (pe_callB call_abs (by rfl) T.abs (by decide +kernel) (pa_cons (pv 4) pa_nil)) (pe_op op_pow pe_int pe_int))) (pe_callTy call_int1 (by rfl) T.int (by decide +kernel) (pa_cons (pe_cmpR op_lt (pv 4) pe_int (nomark _)) pa_nil))))
        (pss_cons (ps_asg (pe_op op_fdiv (pe_callTy call_int1 (by rfl) T.int (by decide +kernel) (pa_cons (pv 5) pa_nil)) (pv 1)) (pg_sub (pv 0) pe_int set_list))
        (pss_one (ps_ret (pe_op op_mod (pe_callTy call_int1 (by rfl) T.int (by decide +kernel) (pa_cons (pv 5) pa_nil)) (pv 1))))))
        pss_nil)
      (pss_cons (ps_set (i := 6) sc_draw.nd rfl (.inl rfl) (pe_op op_mod (pe_callTy call_int1 (by rfl) T.int (by decide +kernel) (pa_cons (pe_op op_pow (pe_op op_add (pe_op op_add (pe_op op_mod (pe_callTy call_int1 (by rfl) T.int (by decide +kernel) (pa_cons (pv 4) pa_nil)) pe_int) (pe_op op_mul pe_int (pv 3))) pe_int) pe_int) pa_nil)) pe_int))
      (pss_cons (ps_set (i := 6) sc_draw.nd rfl (.inl rfl) (pe_op op_mod (pe_callTy call_int1 (by rfl) T.int (by decide +kernel) (pa_cons (pe_op op_pow (pe_op op_add (pe_op op_add (pe_op op_mul (pv 6) (pe_op op_add (pe_op op_mul pe_int (pv 3)) pe_int)) (pe_op op_mul (pe_op op_mul pe_int (pv 3)) (pv 3))) pe_int) pe_int) pa_nil)) pe_int))
      (pss_one (ps_ret (pe_op op_mod (pe_callTy call_int1 (by rfl) T.int (by decide +kernel) (pa_cons (pe_op op_fdiv (pv 6) pe_int) pa_nil)) (pv 1)))))))))))), ?_⟩
    -- pen[2] > 0
    refine ⟨_, rfl, p, _, 2, _, rfl, rfl, SqL.of hp, rfl, great, 0, rfl, rfl, _, rfl, ?_⟩
    refine ite2 (fun e => ?_) (fun e => ?_)
    · refine ⟨_, rfl, p, _, 2, _, rfl, rfl, SqL.of hp, rfl, .inl ⟨_, rfl, _, rfl, _, _, rfl, rfl, m0, ?_⟩⟩
      refine ⟨_, rfl, p, _, 2, _, rfl, rfl, SqL.of hp, rfl, .inl ⟨_, rfl, _, rfl, _, _, rfl, rfl, ⟨m0, by omega⟩, _, rfl, p, _, 2, 2, rfl, rfl, hp, rfl, ?_⟩⟩
      refine ⟨_, rfl, q _ _ (Int.emod_nonneg _ (by omega)) (Int.emod_lt_of_pos _ m0) ⟨⟨spot, great / many, upd_same, hs0, by omega, Int.ediv_nonneg hg (by omega)⟩, by rw [upd_ne hne]; exact hl, hne, hsh⟩ Fr.at⟩
    -- spot = pen[1]; pen[1] = spot + 1; cell = ..
    refine ⟨_, rfl, p, _, 1, _, rfl, rfl, SqL.of hp, rfl, ?_⟩
    refine ⟨_, rfl, _, _, rfl, rfl, _, rfl, p, _, 1, 1, rfl, rfl, hp, rfl, ?_⟩
    refine ⟨_, rfl, _, _, rfl, rfl, .inl ⟨by decide, by decide⟩, _, _, rfl, rfl, ?_⟩
    have hp1 : upd H p (.lst [.ref l, .int (spot + 1), .int great]) p = some (.lst [.ref l, .int (spot + 1), .int great]) := upd_same
    have hl1 : upd H p (.lst [.ref l, .int (spot + 1), .int great]) l = some (.lst (ns.map V.int)) := by rw [upd_ne hne]; exact hl
    dsimp only [List.set_cons_succ, List.set_cons_zero]
    -- pen[0] != []
    refine ⟨_, rfl, p, _, 0, _, rfl, rfl, SqL.of hp1, rfl, Nat.zero_le _, fun o no => ?_⟩
    have hpo : p ≠ o := ne_of_none hp1 no
    have hlo : l ≠ o := ne_of_none hl1 no
    have hp2 : upd (upd H p (.lst [.ref l, .int (spot + 1), .int great])) o (.lst []) p = some (.lst [.ref l, .int (spot + 1), .int great]) := by rw [upd_ne hpo]; exact hp1
    have hl2 : upd (upd H p (.lst [.ref l, .int (spot + 1), .int great])) o (.lst []) l = some (.lst (ns.map V.int)) := by rw [upd_ne hlo]; exact hl1
    have fr2 : Fr p H (upd (upd H p (.lst [.ref l, .int (spot + 1), .int great])) o (.lst [])) := Fr.at.trans (Fr.new no)
    refine ⟨_, _, .lst (SqL.of hl2) (dp_ints ns), .lst (SqL.of upd_same) .nil, shaped_ints ns, by decide, _, rfl, ?_⟩
    generalize upd (upd H p (.lst [.ref l, .int (spot + 1), .int great])) o (.lst []) = H2 at hp2 hl2 fr2 ⊢
    refine ite2 (fun e => ?g1) (fun e => ?g2)
    case' g1 =>
      have hns : 0 < ns.length := by
        cases ns with
        | nil => simp [dInts, PyData.eqv, PyData.eqvAll] at e
        | cons a r => simp
      have hpos : (0 : Int) < ((ns.map V.int).length : Int) := by rw [List.length_map]; omega
      obtain ⟨z, hz⟩ := ints_at (ns := ns) (i := spot % ((ns.map V.int).length : Int)) (Int.emod_nonneg _ (by omega)) (by
        have := Int.emod_lt_of_pos spot hpos
        rw [List.length_map] at this ⊢
        exact this)
      refine ⟨_, rfl, p, _, 0, _, rfl, rfl, SqL.of hp2, rfl, _, rfl, .inl ⟨_, rfl, _, rfl, p, _, 0, _, rfl, rfl, SqL.of hp2, rfl, l, _, rfl, .inl (SqL.of hl2), _, _, rfl, rfl, hpos, l, _, _, _, rfl, rfl, SqL.of hl2, hz, ?_⟩⟩
      generalize z = c
      refine ⟨_, rfl, _, rfl, p, _, 0, _, rfl, rfl, SqL.of hp2, rfl, l, _, rfl, .inl (SqL.of hl2), _, _, rfl, rfl, _, rfl, ?_⟩
      refine ite2 (fun e1 => ?a3) (fun e1 => ?a4)
      case' a3 =>
        refine ⟨_, rfl, _, rfl, _, _, rfl, rfl, ⟨by decide, by decide, by decide⟩, _, _, rfl, rfl, _, rfl, ?_⟩
        refine ite2 (fun e2 => ?a5) (fun e2 => ?a6)
        case' a5 =>
          have hge := of_decide_eq_true e2
          refine ⟨_, rfl, _, rfl, _, _, rfl, rfl, ⟨by decide, by decide, by decide⟩, _, _, rfl, rfl, _, _, rfl, rfl, .inl ⟨by decide, by decide⟩, _, rfl, _, _, rfl, rfl, .inr ⟨_, rfl, _, _, rfl, rfl, ?_⟩⟩
          have hG : 0 ≤ 2 * ((if c < 0 then -c else c) - 10 ^ (18 : Int).toNat) + (if decide (c < 0) = true then 1 else 0) := by
            have h1 : (10 : Int) ^ (18 : Int).toNat ≤ (if c < 0 then -c else c) := hge
            have h2 : (0 : Int) ≤ (if decide (c < 0) = true then 1 else 0) := by split <;> decide
            omega
          refine ⟨_, rfl, .inl ⟨_, rfl, _, rfl, _, _, rfl, rfl, ⟨m0, by omega⟩, _, rfl, p, _, 2, 2, rfl, rfl, hp2, rfl, ?_⟩⟩
          refine ⟨_, rfl, .inl ⟨_, rfl, _, rfl, _, _, rfl, rfl, m0, ?_⟩⟩
          exact q _ _ (Int.emod_nonneg _ (by omega)) (Int.emod_lt_of_pos _ m0) ⟨⟨spot + 1, _, upd_same, by omega, by omega, Int.ediv_nonneg hG (by omega)⟩, by rw [upd_ne hne]; exact hl2, hne, hsh⟩ (fr2.trans Fr.at)
      case' a4 => refine iteF ?_
    case' g2 =>
      generalize 80035 * spot + 707 = c
      refine ⟨_, rfl, _, rfl, p, _, 0, _, rfl, rfl, SqL.of hp2, rfl, l, _, rfl, .inl (SqL.of hl2), _, _, rfl, rfl, _, rfl, ?_⟩
      refine ite2 (fun e1 => ?b3) (fun e1 => ?b4)
      case' b3 =>
        refine ⟨_, rfl, _, rfl, _, _, rfl, rfl, ⟨by decide, by decide, by decide⟩, _, _, rfl, rfl, _, rfl, ?_⟩
        refine ite2 (fun e2 => ?b5) (fun e2 => ?b6)
        case' b5 =>
          have hge := of_decide_eq_true e2
          refine ⟨_, rfl, _, rfl, _, _, rfl, rfl, ⟨by decide, by decide, by decide⟩, _, _, rfl, rfl, _, _, rfl, rfl, .inl ⟨by decide, by decide⟩, _, rfl, _, _, rfl, rfl, .inr ⟨_, rfl, _, _, rfl, rfl, ?_⟩⟩
          have hG : 0 ≤ 2 * ((if c < 0 then -c else c) - 10 ^ (18 : Int).toNat) + (if decide (c < 0) = true then 1 else 0) := by
            have h1 : (10 : Int) ^ (18 : Int).toNat ≤ (if c < 0 then -c else c) := hge
            have h2 : (0 : Int) ≤ (if decide (c < 0) = true then 1 else 0) := by split <;> decide
            omega
          refine ⟨_, rfl, .inl ⟨_, rfl, _, rfl, _, _, rfl, rfl, ⟨m0, by omega⟩, _, rfl, p, _, 2, 2, rfl, rfl, hp2, rfl, ?_⟩⟩
          refine ⟨_, rfl, .inl ⟨_, rfl, _, rfl, _, _, rfl, rfl, m0, ?_⟩⟩
          exact q _ _ (Int.emod_nonneg _ (by omega)) (Int.emod_lt_of_pos _ m0) ⟨⟨spot + 1, _, upd_same, by omega, by omega, Int.ediv_nonneg hG (by omega)⟩, by rw [upd_ne hne]; exact hl2, hne, hsh⟩ (fr2.trans Fr.at)
      case' b4 => refine iteF ?_
    all_goals
      have b0 := Int.emod_nonneg c (show (2147479937 : Int) ≠ 0 by decide)
      have b1 := Int.emod_lt_of_pos c (show (0 : Int) < 2147479937 by decide)
      refine ⟨_, rfl, .inl ⟨_, rfl, _, _, rfl, rfl, (show (0 : Int) < 2147479937 by decide), _, rfl, _, _, rfl, rfl, .inl ⟨by decide, by decide⟩, _, _, rfl, rfl, _, _, rfl, rfl, _, _, rfl, rfl, ⟨by decide, by decide, by omega⟩, .inl ⟨_, rfl, _, _, rfl, rfl, (show (0 : Int) < 2147469949 by decide), ?_⟩⟩⟩
      have s0 : 0 ≤ ((c % 2147479937 + 71033 * spot + 313) ^ (5 : Int).toNat) % 2147469949 := Int.emod_nonneg _ (by decide)
      have s1 : ((c % 2147479937 + 71033 * spot + 313) ^ (5 : Int).toNat) % 2147469949 < 2147469949 := Int.emod_lt_of_pos _ (by decide)
      have hsp : spot ≤ 1000000 := by omega
      refine ⟨_, rfl, _, rfl, _, _, rfl, rfl, .inl ⟨by decide, by decide⟩, _, _, rfl, rfl, _, _, rfl, rfl, .inl ⟨by omega, by omega⟩, _, rfl, _, _, rfl, rfl, .inl ⟨by decide, by decide⟩, _, rfl, _, _, rfl, rfl, .inl ⟨by omega, by omega⟩, _, _, rfl, rfl, _, _, rfl, rfl, _, _, rfl, rfl, ⟨by decide, by decide, pw2 s0 s1 hs0 hsp⟩, .inl ⟨_, rfl, _, _, rfl, rfl, (show (0 : Int) < 2147459987 by decide), ?_⟩⟩
      refine ⟨_, rfl, _, _, rfl, rfl, ⟨by decide, by decide⟩, .inl ⟨_, rfl, _, rfl, _, _, rfl, rfl, m0, ?_⟩⟩
      exact q _ _ (Int.emod_nonneg _ (by omega)) (Int.emod_lt_of_pos _ m0) ⟨⟨spot + 1, great, hp2, by omega, by omega, hg⟩, hl2, hne, hsh⟩ fr2
end
end V8

set_option Elab.async false
set_option linter.all false
set_option maxRecDepth 100000
set_option maxHeartbeats 4000000
/-! What the law draws: a pick, letters, images, tables. -/
namespace V8
open PySem PySem.Spec PyProof.Rows L2
/-- the text of one sign; of several -/
def L1 (c : Nat) : Str := ⟨#[c]⟩
def Sx (cs : List Nat) : Str := ⟨cs.toArray⟩
theorem L1_Sx (c : Nat) : L1 c = Sx [c] := rfl
theorem L1_inj {a b : Nat} (h : L1 a = L1 b) : a = b := by
  have h1 : (#[a] : Array Nat) = #[b] := congrArg Str.cps h
  simpa using h1
theorem Sx_inj {a b : List Nat} (h : Sx a = Sx b) : a = b := by
  have h1 : a.toArray = b.toArray := congrArg Str.cps h
  simpa using h1
def isLt (c : Nat) : Prop := 97 ≤ c ∧ c ≤ 122
instance (c : Nat) : Decidable (isLt c) := inferInstanceAs (Decidable (97 ≤ c ∧ c ≤ 122))
def lets (cs : List Nat) : List V := cs.map fun c => V.str (L1 c)
theorem lets_len (cs : List Nat) : (lets cs).length = cs.length := List.length_map ..
theorem lets_erase (cs : List Nat) (k : Nat) : (lets cs).eraseIdx k = lets (cs.eraseIdx k) := by
  unfold lets
  rw [List.eraseIdx_eq_take_drop_succ, List.eraseIdx_eq_take_drop_succ, List.map_append, List.map_take, List.map_drop]
theorem lets_snoc (cs : List Nat) (c : Nat) : lets (cs ++ [c]) = lets cs ++ [V.str (L1 c)] := by
  unfold lets
  rw [List.map_append]
  rfl
/-- a thing that is new, as seen from the start, is written -/
theorem Fr.put {p a : Addr} {o : HO} {H H1 : Hp} (f : Fr p H H1) (hn : H a = none) : Fr p H (upd H1 a o) := fun b u e n => by
  rw [upd_ne (ne_of_none e hn)]
  exact f b u e n
theorem lets_mem {cs : List Nat} {v : V} (h : v ∈ lets cs) : ∃ c ∈ cs, v = .str (L1 c) := by
  obtain ⟨c, hc, e⟩ := List.mem_map.mp h
  exact ⟨c, hc, e.symm⟩
/-- a to z -/
def abc : List Nat := (List.range 26).map (· + 97)
theorem abc_len : abc.length = 26 := by decide
theorem abc_nd : abc.Nodup := by decide
theorem abc_mem {c : Nat} : c ∈ abc ↔ isLt c := by
  unfold abc isLt
  rw [List.mem_map]
  constructor
  · rintro ⟨a, ha, rfl⟩
    have := List.mem_range.mp ha
    omega
  · rintro ⟨h1, h2⟩
    exact ⟨c - 97, List.mem_range.mpr (by omega), by omega⟩
def abcS : Str := "abcdefghijklmnopqrstuvwxyz"
theorem abcS_cps : abcS.cps.toList = abc := by decide +kernel

def spPick (K : PySem.W.Frag) : Sp := fun vs H Q _ => ∃ (p l a : Addr) (ns : List Int) (n : Nat) (xs : List V), vs = [.ref p, .ref a] ∧ PenAt H p l ns (n + 1) ∧ SqL K H a xs ∧ 0 < xs.length ∧ xs.length < 1000 ∧
  (∀ H', Fr p H H' → SqL K H' a xs) ∧ ∀ (v : V) (H' : Hp), v ∈ xs → PenAt H' p l ns n → Fr p H H' → Q v H'
theorem SqL.fr {K : PySem.W.Frag} {H H' : Hp} {p a : Addr} {xs : List V} (h : SqL K H a xs) (f : Fr p H H') (ne : a ≠ p) : SqL K H' a xs :=
  h.elim (fun h => .inl (h.elim (fun h => .inl (f _ _ h ne)) fun ⟨o, h⟩ => .inr ⟨o, f _ _ h ne⟩)) fun h => .inr h
def spLetters : Sp := fun vs H Q _ => ∃ (p l : Addr) (ns : List Int) (n : Nat) (many : Nat), vs = [.ref p, .int many] ∧ PenAt H p l ns (n + many) ∧ many ≤ 26 ∧
  ∀ (D : Addr) (cs : List Nat) (H' : Hp), cs.length = many → cs.Nodup → (∀ c ∈ cs, isLt c) → PenAt H' p l ns n → Fr p H H' → H D = none → H' D = some (.lst (lets cs)) → Q (.ref D) H'
section
variable {P : Program} {w : World} {K : PySem.W.Frag} {mg : Str → Option Value} {base : Heap}
theorem ok_pick {f : Addr} {fd : FuncData} (F : Fun K "_law_pick" "_law_pick" s_pick f fd) (T : Blt mg) (D_draw : Df P w K mg base 1 "_law_draw" spDraw) : FnOk P w K mg base CX0 2 f fd ["_law_pen_here", "_law_some"] (spPick K) := by
  refine F.ok sc_pick (fun vs H Q E h => ?_) (fun cdv A outer s H vs Q E hr h => ?_)
  · obtain ⟨p, l, a, ns, n, xs, rfl, _⟩ := h
    rfl
  · obtain ⟨p, l, a, ns, n, xs, rfl, PA, hS, h0, h1, st, q⟩ := h
    refine ⟨_, (pss_one (ps_ret (pe_ix (ix_listK (K := K) rfl) (pv 1) (pe_c D_draw hr (by decide) (by rfl) (pa_cons (pv 0) (pa_cons (pe_callB (call_len_seqK (K := K) rfl) (by rfl) T.len (by decide +kernel) (pa_cons (pv 1) pa_nil)) pa_nil))) (fun _ _ => rfl)))), ?_⟩
    refine ⟨.ref a, rfl, .ref p, rfl, .ref a, rfl, a, xs, rfl, .inl hS, p, l, ns, n, _, rfl, PA, by omega, by omega, fun v H' v0 v1 PA' fr => ?_⟩
    obtain ⟨j, rfl⟩ : ∃ j : Nat, v = j := ⟨v.toNat, by omega⟩
    have hj : j < xs.length := by omega
    exact ⟨a, xs, j, xs[j], rfl, rfl, st H' fr, atI_nat (List.getElem?_eq_getElem hj), q _ _ (List.getElem_mem hj) PA' fr⟩
theorem perm_erase {got rest : List Nat} {k : Nat} {y : Nat} (hp : (got ++ rest).Perm abc) (hy : rest[k]? = some y) : ((got ++ [y]) ++ rest.eraseIdx k).Perm abc := by
  refine List.Perm.trans ?_ hp
  rw [List.append_assoc]
  refine List.Perm.append_left got ?_
  show (y :: rest.eraseIdx k).Perm rest
  obtain ⟨hk, e⟩ := List.getElem?_eq_some_iff.mp hy
  rw [List.eraseIdx_eq_take_drop_succ]
  have h2 : rest = rest.take k ++ (y :: rest.drop (k + 1)) := by
    rw [← e, ← List.drop_eq_getElem_cons hk, List.take_append_drop]
  exact (List.perm_middle.symm).trans (List.Perm.of_eq h2.symm)
end
end V8

set_option Elab.async false
set_option linter.all false
set_option maxRecDepth 100000
set_option maxHeartbeats 8000000
/-! The pen made; what is due. -/
namespace V8
open PySem PySem.Spec PyProof.Rows L2
def spPen (K : PySem.W.Frag) : Sp := fun vs H Q _ => ∃ (a : Addr) (ns : List Int), vs = [.ref a] ∧ SqL K H a (ns.map V.int) ∧ ns.length ≤ 63 ∧ ∀ (p l : Addr) (H' : Hp), H p = none → Same H H' → PenAt H' p l ns 1000000 → Q (.ref p) H'
section
variable {P : Program} {w : World} {K : PySem.W.Frag} {mg : Str → Option Value} {base : Heap} {CM CJ : Addr}
theorem ok_pen {f : Addr} {fd : FuncData} (F : Fun K "_law_pen" "_law_pen" s_pen f fd) (T : Blt mg) : FnOk P w K mg base CX0 1 f fd ["_law_script"] (spPen K) := by
  refine F.ok sc_pen (fun vs H Q E h => ?_) (fun cdv A outer s H vs Q E hr h => ?_)
  · obtain ⟨a, ns, rfl, _⟩ := h
    rfl
  · obtain ⟨a, ns, rfl, hS, hn, q⟩ := h
    refine ⟨_, (pss_one (ps_ret (pe_lst (pa_cons (pe_callTy (call_list_ofK (K := K) rfl) (by rfl) T.list (by decide +kernel) (pa_cons (pe_slice (sl_listK (K := K) rfl) (pv 0) po_none (po_some pe_int)) pa_nil)) (pa_cons pe_int (pa_cons pe_int pa_nil)))))), ?_⟩
    refine ⟨_, rfl, 63, rfl, a, ns.map V.int, rfl, hS, fun l1 n1 => ?_⟩
    have hc : cutV (ns.map V.int) none (some 63) = ns.map V.int := by
      have e : HT.sIx (ns.map V.int).length (ns.map V.int).length (some 63) = (ns.map V.int).length := by
        show HT.sIx _ _ (some ((63 : Nat) : Int)) = _
        rw [HT.sIx_nat, List.length_map]
        omega
      unfold cutV
      rw [HT.sIx_none, List.drop_zero, e]
      exact List.take_of_length_le (Nat.le_refl _)
    rw [hc]
    refine ⟨l1, ns.map V.int, rfl, .inl (SqL.of upd_same), fun l n2 => ⟨by show 3 ≤ sizeLine; decide, fun p n3 => ?_⟩⟩
    have h1 : l1 ≠ l := ne_of_none upd_same n2
    have hl : l ≠ p := ne_of_none upd_same n3
    have n2H : upd H l1 (.lst (ns.map V.int)) l = none := n2
    have sm : Same H (upd (upd (upd H l1 (.lst (ns.map V.int))) l (.lst (ns.map V.int))) p (.lst [.ref l, .int 0, .int 0])) := fun b o e => by
      have b1 := ne_of_none e n1
      have e1 : upd H l1 (.lst (ns.map V.int)) b = some o := by rw [upd_ne b1]; exact e
      have b2 := ne_of_none e1 n2
      have e2 : upd (upd H l1 (.lst (ns.map V.int))) l (.lst (ns.map V.int)) b = some o := by rw [upd_ne b2]; exact e1
      rw [upd_ne (ne_of_none e2 n3)]
      exact e2
    refine q p l _ ?_ sm ⟨⟨0, 0, upd_same, by omega, by omega, by omega⟩, by rw [upd_ne hl]; exact upd_same, hl, hn⟩
    cases e : H p with
    | none => rfl
    | some o =>
      have b1 := ne_of_none e n1
      have e1 : upd H l1 (.lst (ns.map V.int)) p = some o := by rw [upd_ne b1]; exact e
      have b2 := ne_of_none e1 n2
      rw [upd_ne b2, e1] at n3
      cases n3
end
end V8

set_option Elab.async false
set_option linter.all false
set_option maxRecDepth 100000
set_option maxHeartbeats 4000000
/-! Tables of letters and images, as the law draws them. -/
namespace V8
open PySem PySem.Spec PyProof.Rows L2
abbrev Tab := List (Nat × List Nat)
def encT (t : Tab) : List (Key × V) := t.map fun q => (Sum.inr (L1 q.1), V.str (Sx q.2))
def lookT (t : Tab) (c : Nat) : Option (List Nat) := (t.find? fun q => decide (q.1 = c)).map (·.2)
def putT (t : Tab) (c : Nat) (s : List Nat) : Tab := if (t.any fun q => decide (q.1 = c)) = true then t.map (fun q => if q.1 = c then (q.1, s) else q) else t ++ [(c, s)]
theorem encT_len (t : Tab) : (encT t).length = t.length := List.length_map ..
theorem key_dec (a c : Nat) : decide ((Sum.inr (L1 a) : Key) = Sum.inr (L1 c)) = decide (a = c) := by
  by_cases h : a = c
  · subst h
    simp
  · rw [decide_eq_false h, decide_eq_false]
    intro e
    exact h (L1_inj (Sum.inr.inj e))
theorem key_iff (a c : Nat) : ((Sum.inr (L1 a) : Key) = Sum.inr (L1 c)) ↔ a = c := by
  have := key_dec a c
  constructor
  · intro e
    exact L1_inj (Sum.inr.inj e)
  · intro e
    rw [e]
theorem valV_enc (c : Nat) : ∀ t : Tab, valV (encT t) (Sum.inr (L1 c)) = (lookT t c).map fun s => V.str (Sx s)
  | [] => rfl
  | q :: t => by
    have ih := valV_enc c t
    by_cases h : q.1 = c
    · subst h
      show valV ((Sum.inr (L1 q.1), V.str (Sx q.2)) :: encT t) _ = _
      rw [valV_pos rfl]
      simp [lookT]
    · show valV ((Sum.inr (L1 q.1), V.str (Sx q.2)) :: encT t) _ = _
      rw [valV_neg (fun e => h ((key_iff _ _).mp e)), ih]
      simp [lookT, List.find?_cons, h]
theorem any_enc (c : Nat) : ∀ t : Tab, ((encT t).any fun kv => decide (kv.1 = (Sum.inr (L1 c) : Key))) = t.any fun q => decide (q.1 = c)
  | [] => rfl
  | q :: t => by
    show (decide ((Sum.inr (L1 q.1) : Key) = Sum.inr (L1 c)) || (encT t).any _) = _
    rw [any_enc c t, key_dec]
    rfl
theorem putK_enc (t : Tab) (c : Nat) (s : List Nat) : putK (encT t) (Sum.inr (L1 c)) (V.str (Sx s)) = encT (putT t c s) := by
  unfold putK putT
  rw [any_enc]
  split
  · unfold encT
    rw [List.map_map, List.map_map]
    refine List.map_congr_left fun q _ => ?_
    show (if (Sum.inr (L1 q.1) : Key) = Sum.inr (L1 c) then _ else _) = _
    by_cases h : q.1 = c
    · rw [if_pos ((key_iff _ _).mpr h)]
      simp [h]
    · rw [if_neg (fun e => h ((key_iff _ _).mp e))]
      simp [h]
  · unfold encT
    rw [List.map_append]
    rfl
theorem keys_put {t : Tab} {c : Nat} {s : List Nat} : ∀ x ∈ putT t c s, (x ∈ t ∨ x = (c, s)) := by
  intro x hx
  unfold putT at hx
  split at hx
  · obtain ⟨q, hq, e⟩ := List.mem_map.mp hx
    by_cases h : q.1 = c
    · rw [if_pos h] at e
      rw [← e, h]
      exact .inr rfl
    · rw [if_neg h] at e
      rw [← e]
      exact .inl hq
  · rcases List.mem_append.mp hx with h | h
    · exact .inl h
    · exact .inr (List.mem_singleton.mp h)
theorem put_nd {t : Tab} {c : Nat} {s : List Nat} (h : (t.map (·.1)).Nodup) : ((putT t c s).map (·.1)).Nodup := by
  unfold putT
  split
  · rw [List.map_map]
    have e : t.map ((·.1) ∘ fun q : Nat × List Nat => if q.1 = c then (q.1, s) else q) = t.map (·.1) := List.map_congr_left fun q _ => by
      show (if q.1 = c then (q.1, s) else q).1 = q.1
      split <;> rfl
    rw [e]
    exact h
  · rename_i hn
    rw [List.map_append]
    refine List.nodup_append.mpr ⟨h, by simp, fun x hx y hy e => ?_⟩
    have ey : y = c := by simpa using hy
    obtain ⟨q, hq, eq⟩ := List.mem_map.mp hx
    refine hn (List.any_eq_true.mpr ⟨q, hq, decide_eq_true ?_⟩)
    rw [eq, e, ey]
theorem put_len (t : Tab) (c : Nat) (s : List Nat) : (putT t c s).length ≤ t.length + 1 := by
  unfold putT
  split
  · rw [List.length_map]
    omega
  · rw [List.length_append]
    exact Nat.le_refl _
/-- an image that may be told -/
def GoodI (cs s : List Nat) : Prop := 1 ≤ s.length ∧ s.length ≤ 4 ∧ ∀ d ∈ s, d ∈ cs
structure GoodT (cs : List Nat) (t : Tab) : Prop where
  nd : (t.map (·.1)).Nodup
  key : ∀ q ∈ t, q.1 ∈ cs
  img : ∀ q ∈ t, GoodI cs q.2
theorem GoodT.nil {cs : List Nat} : GoodT cs [] := by
  refine ⟨List.nodup_nil, fun q h => ?_, fun q h => ?_⟩
  · cases h
  · cases h
theorem GoodT.put {cs : List Nat} {t : Tab} {c : Nat} {s : List Nat} (g : GoodT cs t) (hc : c ∈ cs) (hs : GoodI cs s) : GoodT cs (putT t c s) := by
  refine ⟨put_nd g.nd, fun q hq => ?_, fun q hq => ?_⟩
  · rcases keys_put q hq with h | rfl
    · exact g.key q h
    · exact hc
  · rcases keys_put q hq with h | rfl
    · exact g.img q h
    · exact hs
/-- joined signs -/
theorem join_L1 : ∀ cs : List Nat, Txt.join Str.empty (cs.map L1) = Sx cs := by
  intro cs
  rw [TL.join_eq]
  have h : TL.tl (Str.join Str.empty (cs.map L1)) = cs := by
    rw [TL.tl_join]
    have : ∀ l : List Nat, TL.joinL (TL.tl Str.empty) ((l.map L1).map TL.tl) = l := by
      intro l
      induction l with
      | nil => rfl
      | cons c r ih =>
        cases r with
        | nil => rfl
        | cons d r =>
          show TL.tl (L1 c) ++ (TL.tl Str.empty ++ TL.joinL (TL.tl Str.empty) ((((d :: r).map L1).map TL.tl))) = _
          rw [ih]
          rfl
    exact this cs
  have e2 : (Str.join Str.empty (cs.map L1)).cps.toList = cs := h
  show Str.join Str.empty (cs.map L1) = Sx cs
  unfold Sx
  cases hx : Str.join Str.empty (cs.map L1) with
  | mk a =>
    rw [hx] at e2
    have : a.toList = cs := e2
    rw [← this]
theorem sum_ones : ∀ l : List Nat, (l.map fun _ => 1).sum = l.length
  | [] => rfl
  | a :: r => by
    rw [List.map_cons, List.sum_cons, sum_ones r, List.length_cons]
    omega
theorem Sx_len (cs : List Nat) : (Sx cs).length = cs.length := by
  show cs.toArray.size = cs.length
  simp
def spImage : Sp := fun vs H Q _ => ∃ (p l a : Addr) (ns : List Int) (n : Nat) (cs : List Nat), vs = [.ref p, .ref a] ∧ PenAt H p l ns (n + 5) ∧ H a = some (.lst (lets cs)) ∧ a ≠ p ∧ cs ≠ [] ∧ cs.length ≤ 26 ∧ (∀ c ∈ cs, isLt c) ∧
  ∀ (s : List Nat) (H' : Hp), GoodI cs s → PenAt H' p l ns n → Fr p H H' → Q (.str (Sx s)) H'
def spTab (cost : Nat) : Sp := fun vs H Q _ => ∃ (p l a : Addr) (ns : List Int) (n : Nat) (cs : List Nat), vs = [.ref p, .ref a] ∧ PenAt H p l ns (n + cost) ∧ H a = some (.lst (lets cs)) ∧ a ≠ p ∧ cs ≠ [] ∧ cs.Nodup ∧ cs.length ≤ 26 ∧ (∀ c ∈ cs, isLt c) ∧
  ∀ (d : Addr) (t : Tab) (H' : Hp), GoodT cs t → PenAt H' p l ns n → Fr p H H' → H d = none → H' d = some (.dK (encT t)) → Q (.ref d) H'
theorem Fr.back {p q : Addr} {H H1 : Hp} (f : Fr p H H1) (hn : H1 q = none) (hp : q ≠ p) : H q = none := by
  cases e : H q with
  | none => rfl
  | some o =>
    rw [f _ _ e hp] at hn
    cases hn
theorem PenAt.nep {H : Hp} {p l q : Addr} {ns : List Int} {n : Nat} (P : PenAt H p l ns n) (h : H q = none) : q ≠ p := by
  intro e
  subst e
  exact P.some' h
theorem PenAt.nel {H : Hp} {p l q : Addr} {ns : List Int} {n : Nat} (P : PenAt H p l ns n) (h : H q = none) : q ≠ l := by
  intro e
  subst e
  rw [P.nums] at h
  cases h
section
variable {P : Program} {w : World} {K : PySem.W.Frag} {mg : Str → Option Value} {base : Heap}
end
end V8

set_option Elab.async false
set_option linter.all false
set_option maxRecDepth 100000
set_option maxHeartbeats 4000000
namespace V8
open PySem PySem.Spec PyProof.Rows L2
theorem app_Sx (a : Nat) (s : List Nat) : L1 a ++ Sx s = Sx (a :: s) := by
  show Str.append _ _ = _
  unfold Sx L1
  show (⟨#[a] ++ s.toArray⟩ : Str) = ⟨(a :: s).toArray⟩
  congr 1
  simp
section
variable {P : Program} {w : World} {K : PySem.W.Frag} {mg : Str → Option Value} {base : Heap}
theorem lets_get {cs : List Nat} {i : Nat} {x : V} (h : (lets cs)[i]? = some x) : ∃ hi : i < cs.length, x = .str (L1 cs[i]) := by
  unfold lets at h
  rw [List.getElem?_map] at h
  cases e : cs[i]? with
  | none =>
    rw [e] at h
    cases h
  | some c =>
    obtain ⟨hi, ec⟩ := List.getElem?_eq_some_iff.mp e
    rw [e] at h
    exact ⟨hi, by rw [ec]; exact (Option.some.inj h).symm⟩
theorem lets_at {cs : List Nat} {j : Nat} (hj : j < cs.length) : (lets cs)[j]? = some (.str (L1 cs[j])) := by
  unfold lets
  rw [List.getElem?_map, List.getElem?_eq_getElem hj]
  rfl
theorem seq_ix {j n : Nat} (h : j < n) : seqIndex? (j : Int) n = some j := by
  unfold seqIndex?
  simp
  omega
theorem erase_len {xs : List Nat} {k : Nat} (h : k < xs.length) : (xs.eraseIdx k).length = xs.length - 1 := List.length_eraseIdx_of_lt h
theorem goodI1 {cs : List Nat} {a : Nat} (h : a ∈ cs) : GoodI cs [a] := ⟨Nat.le_refl _, by show 1 ≤ 4; decide, fun x hx => by rw [List.mem_singleton.mp hx]; exact h⟩
theorem goodI2 {cs : List Nat} {a b : Nat} (h : a ∈ cs) (h' : b ∈ cs) : GoodI cs [a, b] := by
  refine ⟨by show 1 ≤ 2; decide, by show 2 ≤ 4; decide, fun x hx => ?_⟩
  rcases List.mem_cons.mp hx with e | hx
  · rw [e]
    exact h
  · rw [List.mem_singleton.mp hx]
    exact h'
end
end V8

set_option Elab.async false
set_option linter.all false
set_option maxRecDepth 100000
set_option maxHeartbeats 8000000
namespace V8
open PySem PySem.Spec PyProof.Rows L2
theorem nd_len : ∀ {a b : List Nat}, a.Nodup → (∀ x ∈ a, x ∈ b) → a.length ≤ b.length
  | [], _, _, _ => Nat.zero_le _
  | x :: a, b, h, hs => by
    have hx : x ∈ b := hs x (List.mem_cons_self ..)
    have h1 := List.nodup_cons.mp h
    have ih := nd_len (a := a) (b := b.erase x) h1.2 fun y hy => by
      have hne : y ≠ x := fun e => h1.1 (e ▸ hy)
      exact (List.mem_erase_of_ne hne).mpr (hs y (List.mem_cons_of_mem _ hy))
    rw [List.length_erase_of_mem hx] at ih
    have : 0 < b.length := List.length_pos_of_mem hx
    rw [List.length_cons]
    omega
theorem GoodT.len {cs : List Nat} {t : Tab} (g : GoodT cs t) : t.length ≤ cs.length := by
  have := nd_len g.nd fun x hx => by
    obtain ⟨q, hq, rfl⟩ := List.mem_map.mp hx
    exact g.key q hq
  rw [List.length_map] at this
  exact this
def mergeT (a b : Tab) : Tab := b.foldl (fun acc q => putT acc q.1 q.2) a
theorem mergeK_enc : ∀ (b a : Tab), mergeK (encT a) (encT b) = encT (mergeT a b)
  | [], _ => rfl
  | q :: b, a => by
    show mergeK (putK (encT a) (Sum.inr (L1 q.1)) (V.str (Sx q.2))) (encT b) = _
    rw [putK_enc, mergeK_enc b]
    rfl
theorem GoodT.merge {cs : List Nat} : ∀ {b a : Tab}, GoodT cs a → (∀ q ∈ b, q.1 ∈ cs ∧ GoodI cs q.2) → GoodT cs (mergeT a b)
  | [], _, g, _ => g
  | q :: b, a, g, h => by
    have h1 := h q (List.mem_cons_self ..)
    exact GoodT.merge (b := b) (a := putT a q.1 q.2) (g.put h1.1 h1.2) fun x hx => h x (List.mem_cons_of_mem _ hx)
/-- tuples of a letter and its image stand at ps -/
def PairsAt (H : Hp) (ps : List Addr) (t : Tab) : Prop := Paired (fun b (q : Nat × List Nat) => H b = some (.tup [V.str (L1 q.1), V.str (Sx q.2)])) ps t
theorem PairsAt.mono {H H' : Hp} {ps : List Addr} {t : Tab} (h : PairsAt H ps t) (k : ∀ b xs, H b = some (.tup xs) → H' b = some (.tup xs)) : PairsAt H' ps t := Paired.mapP h fun _ _ e => k _ _ e
theorem PairsAt.snoc {H : Hp} : ∀ {ps : List Addr} {t : Tab} {b : Addr} {q : Nat × List Nat}, PairsAt H ps t → H b = some (.tup [V.str (L1 q.1), V.str (Sx q.2)]) → PairsAt H (ps ++ [b]) (t ++ [q])
  | _, _, _, _, .nil, e => .cons e .nil
  | _, _, _, _, .cons h r, e => .cons h (PairsAt.snoc r e)
theorem PairsAt.sq {K : PySem.W.Frag} {H : Hp} : ∀ {ps : List Addr} {t : Tab}, PairsAt H ps t → Paired (fun p (kv : Key × V) => SqT K H p [kV kv.1, kv.2]) ps (encT t)
  | _, _, .nil => .nil
  | _, _, .cons h r => .cons (.inl (.inl h)) (PairsAt.sq r)
theorem PairsAt.len {H : Hp} {ps : List Addr} {t : Tab} (h : PairsAt H ps t) : ps.length = t.length := Paired.length h
theorem tup_fr {p : Addr} {xs : List V} {H H' : Hp} (f : Fr p H H') (hp : H p = some (.lst xs)) : ∀ b ys, H b = some (.tup ys) → H' b = some (.tup ys) := fun b ys e => f b _ e (ne_of e hp (fun z => nomatch z))
theorem tup_upd {D : Addr} {xs : List V} {o : HO} {H : Hp} (hp : H D = some (.lst xs)) : ∀ b ys, H b = some (.tup ys) → upd H D o b = some (.tup ys) := fun b ys e => by
  rw [upd_ne (ne_of e hp (fun z => nomatch z))]
  exact e
theorem tup_new {q : Addr} {o : HO} {H : Hp} (hp : H q = none) : ∀ b ys, H b = some (.tup ys) → upd H q o b = some (.tup ys) := fun b ys e => by
  rw [upd_ne (ne_of_none e hp)]
  exact e
theorem PenAt.pen {H : Hp} {p l : Addr} {ns : List Int} {n : Nat} (P : PenAt H p l ns n) : ∃ xs, H p = some (.lst xs) := by
  obtain ⟨⟨s, g, h1, _⟩, _⟩ := P
  exact ⟨_, h1⟩
theorem enc_at {t : Tab} {i : Nat} {k : Key} {v : V} (h : (encT t)[i]? = some (k, v)) : ∃ hi : i < t.length, k = Sum.inr (L1 t[i].1) ∧ v = V.str (Sx t[i].2) := by
  unfold encT at h
  rw [List.getElem?_map] at h
  cases e : t[i]? with
  | none =>
    rw [e] at h
    cases h
  | some c =>
    obtain ⟨hi, ec⟩ := List.getElem?_eq_some_iff.mp e
    rw [e] at h
    have h' := Option.some.inj h
    refine ⟨hi, ?_, ?_⟩
    · rw [ec]
      exact (congrArg Prod.fst h').symm
    · rw [ec]
      exact (congrArg Prod.snd h').symm
theorem look_at : ∀ {t : Tab} {i : Nat}, (t.map (·.1)).Nodup → ∀ hi : i < t.length, lookT t t[i].1 = some t[i].2
  | [], i, _, hi => absurd hi (Nat.not_lt_zero _)
  | q :: t, 0, _, _ => by
    unfold lookT
    simp
  | q :: t, i + 1, h, hi => by
    have hi' : i < t.length := by simpa using hi
    have h1 := List.nodup_cons.mp (by simpa using h : (q.1 :: t.map (·.1)).Nodup)
    have hne : ¬ q.1 = t[i].1 := fun e => h1.1 (e ▸ List.mem_map_of_mem (List.getElem_mem hi'))
    have ih := look_at (t := t) (i := i) h1.2 hi'
    show lookT (q :: t) t[i].1 = some t[i].2
    unfold lookT at ih ⊢
    rw [List.find?_cons_of_neg (by simpa using hne)]
    exact ih
section
variable {P : Program} {w : World} {K : PySem.W.Frag} {mg : Str → Option Value} {base : Heap}
end
end V8

set_option Elab.async false
set_option linter.all false
set_option maxRecDepth 100000
set_option maxHeartbeats 8000000
/-! Letters, texts, images: the program's own tests. -/
namespace V8
open PySem PySem.Spec PyProof.Rows L2
abbrev s_is_letter : Stmt := topS 17
abbrev n_is_letter : List Str := ["value"]
theorem sc_is_letter : FnScope ["value"] ["value"] (defScope s_is_letter) := ⟨rfl, rfl, rfl, by decide +kernel, rfl, by decide +kernel, by decide +kernel⟩
abbrev s_is_text : Stmt := topS 18
abbrev n_is_text : List Str := ["value"]
theorem sc_is_text : FnScope ["value"] ["value"] (defScope s_is_text) := ⟨rfl, rfl, rfl, by decide +kernel, rfl, by decide +kernel, by decide +kernel⟩
abbrev s_all_letters : Stmt := topS 19
abbrev n_all_letters : List Str := ["string"]
theorem sc_all_letters : FnScope ["string"] ["string"] (defScope s_all_letters) := ⟨rfl, rfl, rfl, by decide +kernel, rfl, by decide +kernel, by decide +kernel⟩
abbrev s_is_image : Stmt := topS 30
abbrev n_is_image : List Str := ["value"]
theorem sc_is_image : FnScope ["value"] ["value"] (defScope s_is_image) := ⟨rfl, rfl, rfl, by decide +kernel, rfl, by decide +kernel, by decide +kernel⟩
abbrev s_told_images : Stmt := topS 32
abbrev n_told_images : List Str := ["images", "keeps", "key", "letter", "kept"]
theorem sc_told_images : FnScope ["images", "keeps", "key", "letter", "kept"] ["images", "keeps"] (defScope s_told_images) := ⟨rfl, rfl, rfl, by decide +kernel, rfl, by decide +kernel, by decide +kernel⟩
/-- what the top has left, of the names and of the two classes -/
structure Tx (K : PySem.W.Frag) (mg : Str → Option Value) (CM CJ : Addr) : Prop extends Blt mg where
  isinstance : mg "isinstance" = none
  iter : mg "iter" = none
  gLETTERS : GV mg "LETTERS" (.str abcS)
  gLONGEST : GV mg "LONGEST" (.int 2000)
  gLONGEST_TOLD : GV mg "LONGEST_TOLD" (.int 4)
  gMOST_LETTERS : GV mg "MOST_LETTERS" (.int 12)
  gMisreading : GV mg "Misreading" (.ref CM)
  gJoined : GV mg "Joined" (.ref CJ)
  dJ : PySem.W.kitOne K (.type "dict") (.ref CJ) = some false
  dM : PySem.W.kitOne K (.type "dict") (.ref CM) = some false
  sM : PySem.W.kitOne K (.type "str") (.ref CM) = some false
  iM : PySem.W.kitOne K (.type "int") (.ref CM) = some false
  cl : Cls K CM
  nL : NoAttr K CM "_letters"
  nI : NoAttr K CM "_images"
  nC : NoAttr K CM "changed"
  tA : PySem.W.findIn K (.ref CM) "__class__" = some (some (.builtin "object.__class__"))
  tB : PySem.W.specialIn K (.builtin "object.__class__") "__get__" = some (some (.builtin "getset_descriptor.__get__"))
  tC : PySem.W.takesIn K (.builtin "object.__class__") = some true
  tD : PySem.W.mroIn K CM (.type "object") = some true
  ne : PySem.W.findIn K (.ref CM) "__ne__" = some (some (.builtin "object.__ne__"))
  fd : PySem.W.notFirst K CM (.type "dict") = true
  fs : PySem.W.notFirst K CM (.type "str") = true
  fi : PySem.W.notFirst K CM (.type "int") = true
/-- nothing but what is new has changed -/
abbrev Sm := Same
def spIsLetter (K : PySem.W.Frag) : Sp := fun vs H Q _ => ∃ x, vs = [x] ∧ ((∃ c, x = .str (L1 c) ∧ Q (.bl (decide (c ∈ abc))) H) ∨ (∃ z, x = .str z ∧ z.length ≤ sizeLine ∧ z.length ≠ 1 ∧ Q (.bl false) H) ∨ (∃ t, TyX K H x t ∧ PySem.W.kitOne K t (.type "str") = some false ∧ Q (.bl false) H))
def spAllLetters : Sp := fun vs H Q _ => ∃ cs : List Nat, vs = [.str (Sx cs)] ∧ (∀ c ∈ cs, isLt c) ∧ cs.length ≤ 2000 ∧ Q (.bl true) H
def spIsText : Sp := spAllLetters
def spIsImage : Sp := fun vs H Q _ => ∃ s : List Nat, vs = [.str (Sx s)] ∧ (1 ≤ s.length ∧ s.length ≤ 4 ∧ ∀ d ∈ s, isLt d) ∧ Q (.bl true) H
theorem tw_all {p : Nat → Bool} : ∀ {l : List Nat}, (∀ c ∈ l, p c = true) → l.takeWhile p = l
  | [], _ => rfl
  | a :: r, h => by
    rw [List.takeWhile_cons, if_pos (h a (List.mem_cons_self ..)), tw_all fun c hc => h c (List.mem_cons_of_mem _ hc)]
theorem strip_all {cs : List Nat} (h : ∀ c ∈ cs, isLt c) : (Txt.stripChars (Sx cs) abcS).length = 0 := by
  have ha : ∀ c ∈ cs, abcS.cps.contains c = true := fun c hc => by
    have h1 : c ∈ abcS.cps.toList := by
      rw [abcS_cps]
      exact abc_mem.mpr (h c hc)
    exact Array.contains_iff_mem.mpr (Array.mem_toList_iff.mp h1)
  have hl : stripLo abcS.cps.contains true (Sx cs) = cs.length := by
    unfold stripLo
    rw [if_pos rfl]
    show (List.takeWhile abcS.cps.contains cs).length = cs.length
    rw [tw_all ha]
  unfold Txt.stripChars
  rw [stripBy_eq, hl]
  have e := TL.tl_strSub (Sx cs) cs.length (stripHi abcS.cps.contains true (Sx cs) cs.length)
  have e2 : TL.tl (Sx cs) = cs := rfl
  rw [e2, List.drop_length, List.take_nil] at e
  have e3 := congrArg List.length e
  exact e3
theorem dec_t {p : Prop} [Decidable p] (h : p) : V.bl (decide p) = V.bl true := by rw [decide_eq_true h]
theorem dec_f {p : Prop} [Decidable p] (h : ¬ p) : V.bl (decide p) = V.bl false := by rw [decide_eq_false h]
theorem ty_str {K : PySem.W.Frag} {H : Hp} (z : Str) : TyX K H (.str z) (.type "str") := .base (.str z)
section
variable {P : Program} {w : World} {K : PySem.W.Frag} {mg : Str → Option Value} {base : Heap} {CM CJ : Addr}
theorem ok_is_letter {f : Addr} {fd : FuncData} (F : Fun K "is_letter" "is_letter" s_is_letter f fd) (T : Tx K mg CM CJ) : FnOk P w K mg base CX0 1 f fd ["value"] (spIsLetter K) := by
  refine F.ok sc_is_letter (fun vs H Q E h => ?_) (fun cdv A outer s H vs Q E hr h => ?_)
  · obtain ⟨x, rfl, _⟩ := h
    rfl
  · obtain ⟨x, rfl, h⟩ := h
    refine ⟨_, (pss_one (ps_ret (pe_and (pe_callB call_isi (by rfl) T.isinstance (by decide +kernel) (pa_cons (pv 0) (pa_cons (pe_bltn (v := .ty "str") (by rfl) T.str (by decide +kernel) rfl) pa_nil))) (pe_and (pe_cmpR op_eq (pe_callB call_len_str (by rfl) T.len (by decide +kernel) (pa_cons (pv 0) pa_nil)) pe_int (nomark _)) (pe_one (pe_cmpR op_in_sign (pv 0) (pe_gv T.gLETTERS (by rfl)) rfl)))))), ?_⟩
    rcases h with ⟨c, rfl, q⟩ | ⟨z, rfl, hz, h1, q⟩ | ⟨t, ty, e, q⟩
    · refine ⟨_, rfl, _, .ty "str", .type "str", .type "str", true, rfl, .ty _, ty_str _, kit_ty (by decide +kernel), true, rfl, ?_⟩
      refine ⟨_, rfl, _, rfl, by show 1 ≤ sizeLine; decide, rfl, true, rfl, ?_⟩
      refine ⟨_, rfl, c, abcS, rfl, rfl, ?_⟩
      rw [abcS_cps]
      exact q
    · refine ⟨_, rfl, _, .ty "str", .type "str", .type "str", true, rfl, .ty _, ty_str _, kit_ty (by decide +kernel), true, rfl, ?_⟩
      refine ⟨_, rfl, _, rfl, hz, rfl, false, ?_, ?_⟩
      · rw [decide_eq_false]
        intro e
        have e' := V.int.inj e
        omega
      · exact q
    · exact ⟨_, rfl, _, .ty "str", t, .type "str", false, rfl, .ty _, ty, e, false, rfl, q⟩
theorem ok_all_letters {f : Addr} {fd : FuncData} (F : Fun K "all_letters" "all_letters" s_all_letters f fd) (T : Tx K mg CM CJ) : FnOk P w K mg base CX0 1 f fd ["string"] spAllLetters := by
  refine F.ok sc_all_letters (fun vs H Q E h => ?_) (fun cdv A outer s H vs Q E hr h => ?_)
  · obtain ⟨cs, rfl, _⟩ := h
    rfl
  · obtain ⟨cs, rfl, hl, hn, q⟩ := h
    refine ⟨_, (pss_one (ps_ret (pe_notTK (K := K) rfl (pe_bmK (K := K) rfl PySem.F.plainAttrs_str PySem.F.slot_str_strip PySem.F.type_str_strip mt_stripChars (pv 0) (pa_cons (pe_gv T.gLETTERS (by rfl)) pa_nil))))), ?_⟩
    have hz : (Sx cs).length ≤ sizeLine := by rw [Sx_len, sizeLine_eq]; omega
    refine ⟨_, rfl, rfl, _, abcS, rfl, rfl, hz, false, ⟨?_, ?_⟩, q⟩
    · exact Nat.le_trans (len_stripChars _ _) hz
    · rw [strip_all hl]
      rfl
theorem ok_is_text {f : Addr} {fd : FuncData} (F : Fun K "is_text" "is_text" s_is_text f fd) (T : Tx K mg CM CJ) (D_all_letters : Df P w K mg base 1 "all_letters" spAllLetters) : FnOk P w K mg base CX0 2 f fd ["value"] spIsText := by
  refine F.ok sc_is_text (fun vs H Q E h => ?_) (fun cdv A outer s H vs Q E hr h => ?_)
  · obtain ⟨cs, rfl, _⟩ := h
    rfl
  · obtain ⟨cs, rfl, hl, hn, q⟩ := h
    refine ⟨_, (pss_one (ps_ret (pe_and (pe_callB call_isi (by rfl) T.isinstance (by decide +kernel) (pa_cons (pv 0) (pa_cons (pe_bltn (v := .ty "str") (by rfl) T.str (by decide +kernel) rfl) pa_nil))) (pe_and (pe_cmpR op_le (pe_callB call_len_str (by rfl) T.len (by decide +kernel) (pa_cons (pv 0) pa_nil)) (pe_gv T.gLONGEST (by rfl)) (nomark _)) (pe_one (pe_c D_all_letters hr (by decide) (by rfl) (pa_cons (pv 0) pa_nil))))))), ?_⟩
    have hz : (Sx cs).length ≤ sizeLine := by rw [Sx_len, sizeLine_eq]; omega
    refine ⟨_, rfl, _, .ty "str", .type "str", .type "str", true, rfl, .ty _, ty_str _, kit_ty (by decide +kernel), true, rfl, ?_⟩
    refine ⟨_, rfl, _, rfl, hz, _, _, rfl, rfl, true, ?_, ?_⟩
    · rw [Sx_len]
      exact dec_t (show (cs.length : Int) ≤ 2000 by omega)
    · exact ⟨_, rfl, cs, rfl, hl, hn, q⟩
theorem ok_is_image {f : Addr} {fd : FuncData} (F : Fun K "is_image" "is_image" s_is_image f fd) (T : Tx K mg CM CJ) (D_is_text : Df P w K mg base 2 "is_text" spIsText) : FnOk P w K mg base CX0 3 f fd ["value"] spIsImage := by
  refine F.ok sc_is_image (fun vs H Q E h => ?_) (fun cdv A outer s H vs Q E hr h => ?_)
  · obtain ⟨cs, rfl, _⟩ := h
    rfl
  · obtain ⟨cs, rfl, ⟨g1, g4, gl⟩, q⟩ := h
    refine ⟨_, (pss_one (ps_ret (pe_and (pe_c D_is_text hr (by decide) (by rfl) (pa_cons (pv 0) pa_nil)) (pe_one (pe_chain op_le op_le pe_int (pe_callB call_len_str (by rfl) T.len (by decide +kernel) (pa_cons (pv 0) pa_nil)) (pe_gv T.gLONGEST_TOLD (by rfl))))))), ?_⟩
    have hz : (Sx cs).length ≤ sizeLine := by rw [Sx_len, sizeLine_eq]; omega
    refine ⟨_, rfl, cs, rfl, gl, by omega, true, rfl, ?_⟩
    refine ⟨_, rfl, _, rfl, hz, _, _, rfl, rfl, true, ?_, ?_⟩
    · rw [Sx_len]
      exact dec_t (show (1 : Int) ≤ (cs.length : Int) by omega)
    · refine ⟨_, _, rfl, rfl, ?_⟩
      rw [Sx_len]
      have e := dec_t (show (cs.length : Int) ≤ 4 by omega)
      show Q (V.bl (decide ((cs.length : Int) ≤ 4))) H
      rw [e]
      exact q
/-- the letters that stay, as a table -/
def keepT (st : List Nat) : Tab := mergeT [] (st.map fun c => (c, [c]))
theorem keepT_good {cs st : List Nat} (hs : ∀ c ∈ st, c ∈ cs) (hl : ∀ c ∈ cs, isLt c) : GoodT cs (keepT st) := GoodT.merge GoodT.nil fun q hq => by
  obtain ⟨c, hc, rfl⟩ := List.mem_map.mp hq
  exact ⟨hs c hc, goodI1 (hs c hc)⟩
def toldT (st : List Nat) (t : Tab) : Tab := mergeT (mergeT [] (keepT st)) t
theorem toldT_good {cs st : List Nat} {t : Tab} (hs : ∀ c ∈ st, c ∈ cs) (hl : ∀ c ∈ cs, isLt c) (g : GoodT cs t) : GoodT cs (toldT st t) := by
  have g1 := keepT_good hs hl
  exact GoodT.merge (GoodT.merge GoodT.nil fun q hq => ⟨g1.key q hq, g1.img q hq⟩) fun q hq => ⟨g.key q hq, g.img q hq⟩
def spTold : Sp := fun vs H Q _ => ∃ (d : Addr) (cs st : List Nat) (t : Tab), vs = [.ref d, .str (Sx st)] ∧ H d = some (.dK (encT t)) ∧ GoodT cs t ∧ cs.length ≤ 26 ∧ (∀ c ∈ cs, isLt c) ∧ (∀ c ∈ st, c ∈ cs) ∧ st.length ≤ 2000 ∧
  ∀ (r : Addr) (H' : Hp), Same H H' → H r = none → H' r = some (.dK (encT (toldT st t))) → Q (.ref r) H'
theorem Same.upd_back {H : Hp} {d : Addr} {o u : HO} (h : H d = some u) : upd (upd H d o) d u = H := by
  rw [upd_upd]
  funext b
  by_cases hb : b = d
  · rw [hb, upd_same, h]
  · rw [upd_ne hb]
theorem sx_at {st : List Nat} {i : Nat} {c : Nat} (h : (Sx st).cps[i]? = some c) : st[i]? = some c := by
  have : (Sx st).cps = st.toArray := rfl
  rw [this] at h
  simpa using h
theorem sx_size (st : List Nat) : (Sx st).cps.size = st.length := by
  show st.toArray.size = _
  simp
theorem look_in : ∀ {t : Tab} {c : Nat} {s : List Nat}, lookT t c = some s → (c, s) ∈ t := by
  intro t c s h
  unfold lookT at h
  cases e : t.find? (fun q => decide (q.1 = c)) with
  | none =>
    rw [e] at h
    cases h
  | some q =>
    rw [e] at h
    have h1 := List.find?_some e
    have h2 := List.mem_of_find?_eq_some e
    have h3 : q.1 = c := by simpa using h1
    have h4 : q.2 = s := by simpa using h
    rw [← h3, ← h4]
    exact h2
theorem keep_take {cs st : List Nat} (hs : ∀ c ∈ st, c ∈ cs) (hl : ∀ c ∈ cs, isLt c) (i : Nat) : GoodT cs (mergeT [] ((st.take i).map fun c => (c, [c]))) := keepT_good (st := st.take i) (fun c hc => hs c (List.mem_of_mem_take hc)) hl
theorem keep_succ {st : List Nat} {i c : Nat} (h : st[i]? = some c) : mergeT [] ((st.take (i + 1)).map fun c => (c, [c])) = putT (mergeT [] ((st.take i).map fun c => (c, [c]))) c [c] := by
  rw [List.take_add_one, h, List.map_append]
  unfold mergeT
  rw [List.foldl_append]
  rfl
theorem ok_told_images {f : Addr} {fd : FuncData} (F : Fun K "told_images" "told_images" s_told_images f fd) (T : Tx K mg CM CJ) (D_is_letter : Df P w K mg base 1 "is_letter" (spIsLetter K)) (D_is_text : Df P w K mg base 2 "is_text" spIsText)
    (D_is_image : Df P w K mg base 3 "is_image" spIsImage) : FnOk P w K mg base CX0 4 f fd ["images", "keeps"] spTold := by
  refine F.ok sc_told_images (fun vs H Q E h => ?_) (fun cdv A outer s H vs Q E hr h => ?_)
  · obtain ⟨d, cs, st, t, rfl, _⟩ := h
    rfl
  · obtain ⟨d, cs, st, t, rfl, hd, G, h26, hlt, hst, hs5, q⟩ := h
    refine ⟨_, (pss_cons (ps_if (pt_not (pt_val (pe_callB call_isi (by rfl) T.isinstance (by decide +kernel) (pa_cons (pv 0) (pa_cons (pe_bltn (v := .ty "dict") (by rfl) T.dict (by decide +kernel) rfl) pa_nil)))))
        (pss_one ps_never)
        pss_nil)
      (pss_cons (ps_lock (ps_for PassesOwn.never rfl (pi_keys (pv 0)) (pg_name (i := 2) sc_told_images.nd rfl (.inl rfl))
        (pss_one (ps_if (pt_not (pt_val (pe_c D_is_letter hr (by decide) (by rfl) (pa_cons (pv 2) pa_nil))))
          (pss_one ps_never)
          pss_nil))))
      (pss_cons (ps_for PassesOwn.never rfl (pi_str (pe_gv T.gLETTERS (by rfl))) (pg_name (i := 3) sc_told_images.nd rfl (.inl rfl))
        (pss_one (ps_if (PW.pt (pw_and (pt_cmp (pc_din (hu_of hr) (pv 3) (pv 0))) (pw_and1 (pt_not (pt_val (pe_c D_is_image hr (by decide) (by rfl) (pa_cons (pe_dget (hu_of hr) (pv 0) (pv 3) (fun _ _ => rfl)) pa_nil)))))))
          (pss_one ps_never)
          pss_nil)))
      (pss_cons (ps_if (pt_not (pt_val (pe_c D_is_text hr (by decide) (by rfl) (pa_cons (pv 1) pa_nil))))
        (pss_one ps_never)
        pss_nil)
      (pss_cons (ps_setDc (j := 4) (own := [("letter", 3)]) (g := gName 3) (by rfl) sc_told_images.nd rfl rfl (sw_trueD rfl rfl rfl (by decide +kernel)) (pi_str (pv 1)) (blkOk_by (own := [("letter", 3)]) (N := n_told_images) (sc := defScope s_told_images) (by decide +kernel)) (fun _ _ _ _ _ => (pg_name (i := 3) sc_told_images.nd rfl (.inl rfl))) (fun _ _ _ _ _ => pts_nil) (fun _ _ _ _ _ => (pv 3)) (fun _ _ _ _ _ => (pv 3)))
      (pss_one (ps_ret (pe_merge2 (pv 4) (pv 0))))))))), ?_⟩
    have tl := G.len
    -- isinstance(images, dict)
    refine ⟨_, rfl, _, .ty "dict", .type "dict", .type "dict", true, rfl, .ty _, .base (.dK hd), kit_ty (by decide +kernel), true, rfl, ?_⟩
    refine iteF ?_
    -- for key in images
    refine ⟨d, _, hd, True.intro, fun od => ⟨_, rfl, d, od, rfl, .inl ⟨_, upd_same, for_it walk_keys (fun i σ H2 => ∃ v2, σ = [some (.ref d), some (.str (Sx st)), v2, none, none] ∧ H2 = upd H d (.frz od (.dK (encT t)))) ⟨none, rfl, rfl⟩ ?_ ?_ ?_⟩⟩⟩
    · rintro i σ H2 hi ⟨v2, rfl, rfl⟩
      exact upd_same
    · rintro i x σ H2 H2' hi ⟨v2, rfl, rfl⟩ ⟨rfl, k, v, hk, rfl⟩
      obtain ⟨hit, rfl, rfl⟩ := enc_at hk
      have hc : t[i].1 ∈ abc := abc_mem.mpr (hlt _ (G.key _ (List.getElem_mem hit)))
      refine ⟨_, rfl, _, rfl, .inl ⟨t[i].1, rfl, ?_⟩⟩
      rw [decide_eq_true hc]
      exact ⟨true, rfl, iteF ⟨_, rfl, rfl⟩⟩
    · rintro σ H2 ⟨v2, rfl, rfl⟩
      refine ⟨upd_same, ?_⟩
      rw [Same.upd_back hd]
      -- for letter in LETTERS
      refine ⟨abcS, rfl, for_it walk_str (fun i σ H2 => ∃ v3, σ = [some (.ref d), some (.str (Sx st)), v2, v3, none] ∧ H = H2) ⟨none, rfl, rfl⟩ ?_ ?_ ?_⟩
      · rintro i σ H2 hi _
        trivial
      · rintro i x σ H2 H2' hi ⟨v3, rfl, rfl⟩ ⟨rfl, c, hc, rfl⟩
        refine ⟨_, rfl, _, rfl, d, _, rfl, DGet.k (k := Sum.inr (L1 c)) hd, _, rfl, ?_⟩
        rw [valV_enc]
        cases e : lookT t c with
        | none =>
          refine iteF ?_
          exact ⟨_, rfl, rfl⟩
        | some s =>
          refine iteT ?_
          refine ⟨_, rfl, _, rfl, d, V.str (Sx s), rfl, .inl ⟨_, Sum.inr (L1 c), .inl hd, rfl, by rw [valV_enc, e]; rfl⟩, s, rfl, ⟨(G.img _ (look_in e)).1, (G.img _ (look_in e)).2.1, fun z hz => hlt z ((G.img _ (look_in e)).2.2 z hz)⟩, true, rfl, ?_⟩
          exact ⟨_, rfl, rfl⟩
      · rintro σ H2 ⟨v3, rfl, rfl⟩
        -- is_text(keeps)
        refine ⟨_, rfl, st, rfl, fun c hc => hlt c (hst c hc), by omega, true, rfl, iteF ?_⟩
        -- kept
        refine ⟨_, rfl, Sx st, rfl, fun D nD => dc_it walk_str (fun i H3 => H3 = upd H D (.dK (encT (mergeT [] ((st.take i).map fun c => (c, [c])))))) ?_ ?_ ?_ ?_⟩
        · rfl
        · rintro i H3 hi _
          trivial
        · rintro i x H3 H3' hi rfl ⟨rfl, c, hc, rfl⟩
          have hc' := sx_at hc
          rw [sx_size] at hi
          have gk := keep_take (cs := cs) hst hlt i
          refine ⟨rfl, _, rfl, _, rfl, _, Sum.inr (L1 c), rfl, upd_same, by rw [encT_len]; have := gk.len; exact small1000 (by omega), ?_⟩
          rw [upd_upd]
          have ep : putK (encT (mergeT [] ((st.take i).map fun c => (c, [c])))) (Sum.inr (L1 c)) (V.str ⟨#[c]⟩) = encT (mergeT [] ((st.take (i + 1)).map fun c => (c, [c]))) := by
            rw [keep_succ hc']
            exact putK_enc _ c [c]
          rw [ep]
        · rintro H3 rfl
          rw [sx_size, List.take_length]
          have gk := keepT_good hst hlt
          have lk := gk.len
          have hdD : d ≠ D := ne_of_none hd nD
          -- {**kept, **images}
          have em : mergeK [] (encT (keepT st)) = encT (mergeT [] (keepT st)) := mergeK_enc (keepT st) []
          have gm : GoodT cs (mergeT [] (keepT st)) := GoodT.merge GoodT.nil fun x hx => ⟨gk.key x hx, gk.img x hx⟩
          have lm := gm.len
          refine fun r nr => ?_
          have hDr : D ≠ r := ne_of_none (H := upd H D (.dK (encT (keepT st)))) upd_same nr
          have hdr : d ≠ r := by
            refine ne_of_none (H := upd H D (.dK (encT (keepT st)))) (o := .dK (encT t)) ?_ nr
            rw [upd_ne hdD]
            exact hd
          refine ⟨_, rfl, D, encT (keepT st), rfl, hDr, upd_same, .inl ?_, by rw [encT_len]; omega, ?_⟩
          · rw [upd_ne hDr, upd_same]
            rfl
          · rw [em]
            refine ⟨_, rfl, d, encT (mergeT [] (keepT st)), encT t, rfl, hdr, upd_same, by rw [encT_len]; omega, .inl ?_, by rw [encT_len]; omega, ?_⟩
            · rw [upd_ne hdr, upd_ne hdr, upd_ne hdD]
              exact hd
            · rw [mergeK_enc]
              have s1 : Same H (upd H D (.dK (encT (keepT st)))) := fun b o e => by
                rw [upd_ne (ne_of_none e nD)]
                exact e
              have nrH : H r = none := s1.free nr
              refine q r _ (fun b o e => ?_) nrH upd_same
              have hb := ne_of_none e nrH
              rw [upd_ne hb, upd_ne hb, upd_ne hb]
              exact s1 b o e
end
end V8

set_option Elab.async false
set_option linter.all false
set_option maxRecDepth 100000
set_option maxHeartbeats 8000000
/-! The class Misreading, as far as the law asks it. -/
namespace V8
open PySem PySem.Spec PyProof.Rows L2
abbrev s_Misreading_init : Stmt := inClass (topS 29) 0
abbrev n_Misreading_init : List Str := ["self", "images", "keeps", "told", "letter"]
theorem sc_Misreading_init : FnScope ["self", "images", "keeps", "told", "letter"] ["self", "images", "keeps"] (defScope s_Misreading_init) := ⟨rfl, rfl, rfl, by decide +kernel, rfl, by decide +kernel, by decide +kernel⟩
abbrev s_Misreading_contains : Stmt := inClass (topS 29) 1
abbrev n_Misreading_contains : List Str := ["self", "x"]
theorem sc_Misreading_contains : FnScope ["self", "x"] ["self", "x"] (defScope s_Misreading_contains) := ⟨rfl, rfl, rfl, by decide +kernel, rfl, by decide +kernel, by decide +kernel⟩
abbrev s_Misreading_len : Stmt := inClass (topS 29) 2
abbrev n_Misreading_len : List Str := ["self"]
theorem sc_Misreading_len : FnScope ["self"] ["self"] (defScope s_Misreading_len) := ⟨rfl, rfl, rfl, by decide +kernel, rfl, by decide +kernel, by decide +kernel⟩
abbrev s_Misreading_iter : Stmt := inClass (topS 29) 3
abbrev n_Misreading_iter : List Str := ["self"]
theorem sc_Misreading_iter : FnScope ["self"] ["self"] (defScope s_Misreading_iter) := ⟨rfl, rfl, rfl, by decide +kernel, rfl, by decide +kernel, by decide +kernel⟩
abbrev s_Misreading_getitem : Stmt := inClass (topS 29) 4
abbrev n_Misreading_getitem : List Str := ["self", "at"]
theorem sc_Misreading_getitem : FnScope ["self", "at"] ["self", "at"] (defScope s_Misreading_getitem) := ⟨rfl, rfl, rfl, by decide +kernel, rfl, by decide +kernel, by decide +kernel⟩
abbrev s_Misreading_eq : Stmt := inClass (topS 29) 13
abbrev n_Misreading_eq : List Str := ["self", "other"]
theorem sc_Misreading_eq : FnScope ["self", "other"] ["self", "other"] (defScope s_Misreading_eq) := ⟨rfl, rfl, rfl, by decide +kernel, rfl, by decide +kernel, by decide +kernel⟩
abbrev s_Misreading_same : Stmt := inClass (topS 29) 15
abbrev n_Misreading_same : List Str := ["letters"]
theorem sc_Misreading_same : FnScope ["letters"] ["letters"] (defScope s_Misreading_same) := ⟨rfl, rfl, rfl, by decide +kernel, rfl, by decide +kernel, by decide +kernel⟩
abbrev s_Misreading_str : Stmt := inClass (topS 29) 16
abbrev n_Misreading_str : List Str := ["self", "letter"]
theorem sc_Misreading_str : FnScope ["self", "letter"] ["self"] (defScope s_Misreading_str) := ⟨rfl, rfl, rfl, by decide +kernel, rfl, by decide +kernel, by decide +kernel⟩
def keysOf (u : Tab) : List Nat := abc.filter fun c => (lookT u c).isSome
def ims (u : Tab) : Tab := (keysOf u).map fun c => (c, (lookT u c).getD [])
def chg (u : Tab) : List Nat := (keysOf u).filter fun c => decide (lookT u c ≠ some [c])
theorem kLI : ¬ (("_letters" : Str) = "_images") := by decide +kernel
theorem kLC : ¬ (("_letters" : Str) = "changed") := by decide +kernel
theorem kIC : ¬ (("_images" : Str) = "changed") := by decide +kernel
def f1 (a : Addr) : List (Str × V) := putF "_letters" (.ref a) []
def f2 (a b : Addr) : List (Str × V) := putF "_images" (.ref b) (f1 a)
def f3 (a b c : Addr) : List (Str × V) := putF "changed" (.ref c) (f2 a b)
theorem f1_L (a : Addr) : (f1 a).lookup ("_letters" : Str) = some (.ref a) := by
  unfold f1
  rw [lookup_putF, if_pos rfl]
theorem f2_L (a b : Addr) : (f2 a b).lookup ("_letters" : Str) = some (.ref a) := by
  unfold f2
  rw [lookup_putF, if_neg kLI]
  exact f1_L a
theorem f3_L (a b c : Addr) : (f3 a b c).lookup ("_letters" : Str) = some (.ref a) := by
  unfold f3
  rw [lookup_putF, if_neg kLC]
  exact f2_L a b
theorem f3_I (a b c : Addr) : (f3 a b c).lookup ("_images" : Str) = some (.ref b) := by
  unfold f3 f2
  rw [lookup_putF, if_neg kIC, lookup_putF, if_pos rfl]
theorem f3_C (a b c : Addr) : (f3 a b c).lookup ("changed" : Str) = some (.ref c) := by
  unfold f3
  rw [lookup_putF, if_pos rfl]
theorem f1_len (a : Addr) : (f1 a).length < 1000 := by
  show 1 < 1000
  decide
theorem f2_len (a b : Addr) : (f2 a b).length < 1000 := by
  have e : f2 a b = [(("_letters" : Str), V.ref a), ("_images", V.ref b)] := by
    show (if ("_letters" : Str) = "_images" then [(("_letters" : Str), V.ref b)] else (("_letters" : Str), V.ref a) :: [(("_images" : Str), V.ref b)]) = _
    rw [if_neg kLI]
  rw [e]
  show 2 < 1000
  decide
/-- a Misreading stands at x: its images are those of the table u, letters ascending -/
structure MisAt (C : Addr) (H : Hp) (x : Addr) (u : Tab) : Prop where
  at_ : ∃ dx a b c, H x = some (.ins C dx (f3 a b c)) ∧ H a = some (.tup (lets (keysOf u))) ∧ H b = some (.dK (encT (ims u))) ∧ H c = some (.tup (lets (chg u)))
theorem MisAt.mono {C : Addr} {H H' : Hp} {x : Addr} {u : Tab} (m : MisAt C H x u) (k : ∀ b o, H b = some o → (∀ xs, o ≠ .lst xs) → H' b = some o) : MisAt C H' x u := by
  obtain ⟨dx, a, b, c, h1, h2, h3, h4⟩ := m.at_
  exact ⟨dx, a, b, c, k _ _ h1 (fun _ z => nomatch z), k _ _ h2 (fun _ z => nomatch z), k _ _ h3 (fun _ z => nomatch z), k _ _ h4 (fun _ z => nomatch z)⟩
/-- .. made of what is new behind H0 -/
structure MisN (C : Addr) (H0 H : Hp) (x : Addr) (u : Tab) : Prop where
  at_ : ∃ dx a b c, H x = some (.ins C dx (f3 a b c)) ∧ H a = some (.tup (lets (keysOf u))) ∧ H b = some (.dK (encT (ims u))) ∧ H c = some (.tup (lets (chg u))) ∧ H0 a = none ∧ H0 b = none ∧ H0 c = none
theorem MisN.mis {C : Addr} {H0 H : Hp} {x : Addr} {u : Tab} (m : MisN C H0 H x u) : MisAt C H x u := by
  obtain ⟨dx, a, b, c, h1, h2, h3, h4, _⟩ := m.at_
  exact ⟨dx, a, b, c, h1, h2, h3, h4⟩
/-- what stood there is written -/
theorem MisN.write {C d : Addr} {H0 H : Hp} {x : Addr} {u : Tab} {o o' : HO} (m : MisN C H0 H x u) (h : H0 d = some o) (hx : H0 x = none) : MisAt C (upd H d o') x u := by
  obtain ⟨dx, a, b, c, h1, h2, h3, h4, n1, n2, n3⟩ := m.at_
  exact ⟨dx, a, b, c, by rw [upd_ne (ne_of_none h hx).symm]; exact h1, by rw [upd_ne (ne_of_none h n1).symm]; exact h2, by rw [upd_ne (ne_of_none h n2).symm]; exact h3, by rw [upd_ne (ne_of_none h n3).symm]; exact h4⟩
theorem keysOf_sub (u : Tab) : ∀ c ∈ keysOf u, isLt c := fun c h => abc_mem.mp (List.mem_filter.mp h).1
theorem keysOf_len (u : Tab) : (keysOf u).length ≤ 26 := by
  have := List.length_filter_le (fun c => (lookT u c).isSome) abc
  rw [abc_len] at this
  exact this
theorem keysOf_nd (u : Tab) : (keysOf u).Nodup := abc_nd.filter _
def spInit (CM : Addr) : Sp := fun vs H Q _ => ∃ (x dx d : Addr) (cs st : List Nat) (t : Tab), vs = [.ref x, .ref d, .str (Sx st)] ∧ H x = some (.ins CM dx []) ∧ H d = some (.dK (encT t)) ∧ GoodT cs t ∧ ((toldT st t).length ≤ 12 ∧ cs.length ≤ 26) ∧ (∀ c ∈ cs, isLt c) ∧ (∀ c ∈ st, c ∈ cs) ∧ st.length ≤ 2000 ∧
  ∀ H', MisN CM H H' x (toldT st t) → (∀ b o, H b = some o → b ≠ x → H' b = some o) → Q .non H'
section
variable {P : Program} {w : World} {K : PySem.W.Frag} {mg : Str → Option Value} {base : Heap} {CM CJ : Addr}
theorem some_put (u : Tab) (i : Nat) (c : Nat) (h : abc[i]? = some c) : (abc.take (i + 1)).filter (fun c => (lookT u c).isSome) = (abc.take i).filter (fun c => (lookT u c).isSome) ++ (if (lookT u c).isSome = true then [c] else []) := by
  rw [List.take_add_one, h, List.filter_append]
  congr 1
  show List.filter _ [c] = _
  by_cases e : (lookT u c).isSome = true
  · rw [if_pos e]
    exact List.filter_eq_self.mpr (fun x hx => by rw [List.mem_singleton.mp hx]; exact e)
  · rw [if_neg e]
    simp [e]
theorem ims_succ {ks : List Nat} {u : Tab} {i : Nat} {s : List Nat} (nd : ks.Nodup) (hi : i < ks.length) (e : (lookT u ks[i]).getD [] = s) : putT ((ks.take i).map fun c => (c, (lookT u c).getD [])) ks[i] s = (ks.take (i + 1)).map fun c => (c, (lookT u c).getD []) := by
  have hn : ¬ (((ks.take i).map fun c => (c, (lookT u c).getD [])).any fun q => decide (q.1 = ks[i])) = true := by
    intro h
    obtain ⟨q, hq, e1⟩ := List.any_eq_true.mp h
    obtain ⟨c, hc, rfl⟩ := List.mem_map.mp hq
    have e2 : c = ks[i] := by simpa using e1
    obtain ⟨j, hj, ej⟩ := List.getElem_of_mem hc
    rw [List.length_take] at hj
    rw [List.getElem_take] at ej
    have : j = i := (List.getElem_inj nd).mp (ej.trans e2)
    omega
  unfold putT
  rw [if_neg hn, List.take_add_one, List.getElem?_eq_getElem hi, List.map_append]
  show _ = _ ++ [(ks[i], (lookT u ks[i]).getD [])]
  rw [e]
theorem chg_succ {u : Tab} {i : Nat} {ks : List Nat} (hi : i < ks.length) : (ks.take (i + 1)).filter (fun c => decide (lookT u c ≠ some [c])) = (ks.take i).filter (fun c => decide (lookT u c ≠ some [c])) ++ (if decide (lookT u ks[i] ≠ some [ks[i]]) = true then [ks[i]] else []) := by
  rw [List.take_add_one, List.getElem?_eq_getElem hi, List.filter_append]
  congr 1
  show List.filter _ [ks[i]] = _
  rw [List.filter_cons]
  rfl
theorem ok_init {f : Addr} {fd : FuncData} {dvs : List V} (F : FunD K "__init__" "Misreading.__init__" (defArgs s_Misreading_init) (defBody s_Misreading_init) (defScope s_Misreading_init) dvs [] f fd) (T : Tx K mg CM CJ) (D_told_images : Df P w K mg base 4 "told_images" spTold) : FnOk P w K mg base CX0 5 f fd ["self", "images", "keeps"] (spInit CM) := by
  refine F.ok sc_Misreading_init (fun vs H Q E h => ?_) (fun cdv A outer s H vs Q E hr h => ?_)
  · obtain ⟨x, dx, d, cs, st, t, rfl, _⟩ := h
    rfl
  · obtain ⟨x, dx, d, cs, st, t, rfl, hx, hd, G, ⟨h12, h26⟩, hlt, hst, hs5, q⟩ := h
    refine ⟨_, (pss_cons (ps_set (i := 3) sc_Misreading_init.nd rfl (.inr rfl) (pe_ifExp (pt_val (pe_callB call_isi (by rfl) T.isinstance (by decide +kernel) (pa_cons (pv 1) (pa_cons (pe_gv T.gJoined (by rfl)) pa_nil)))) (pe_fldK (K := K) rfl (pv 1) rfl) (pe_c D_told_images hr (by decide) (by rfl) (pa_cons (pv 1) (pa_cons (pv 2) pa_nil)))))
      (pss_cons (ps_if (pt_cmpR op_gt (pe_callB call_lenD (by rfl) T.len (by decide +kernel) (pa_cons (pv 3) pa_nil)) (pe_gv T.gMOST_LETTERS (by rfl)) (nomark _))
        (pss_one ps_never)
        pss_nil)
      (pss_cons (ps_fld (pv 0) (pe_callTy (call_tuple_ofK (K := K) rfl) (by rfl) T.tuple (by decide +kernel) (pa_cons (pe_lc (own := [("letter", 4)]) (g := gName 4) (by rfl) sc_Misreading_init.nd (pi_str (pe_gv T.gLETTERS (by rfl))) (blkOk_by (own := [("letter", 4)]) (N := n_Misreading_init) (sc := defScope s_Misreading_init) (by decide +kernel)) (fun _ _ _ _ _ => (pg_name (i := 4) sc_Misreading_init.nd rfl (.inl rfl))) (fun _ _ _ _ _ => (pts_one (pt_cmp (pc_din (hu_of hr) (pv 4) (pv 3))))) (fun _ _ _ _ _ => (pv 4))) pa_nil)) rfl)
      (pss_cons (ps_fld (pv 0) (pe_dc (own := [("letter", 4)]) (g := gName 4) (by rfl) sc_Misreading_init.nd (pi_tup (pe_fldK (K := K) rfl (pv 0) rfl)) (blkOk_by (own := [("letter", 4)]) (N := n_Misreading_init) (sc := defScope s_Misreading_init) (by decide +kernel)) (fun _ _ _ _ _ => (pg_name (i := 4) sc_Misreading_init.nd rfl (.inl rfl))) (fun _ _ _ _ _ => pts_nil) (fun _ _ _ _ _ => (pv 4)) (fun _ _ _ _ _ => (pe_dget (hu_of hr) (pv 3) (pv 4) (fun _ _ => rfl)))) rfl)
      (pss_one (ps_fld (pv 0) (pe_callTy (call_tuple_ofK (K := K) rfl) (by rfl) T.tuple (by decide +kernel) (pa_cons (pe_lc (own := [("letter", 4)]) (g := gName 4) (by rfl) sc_Misreading_init.nd (pi_tup (pe_fldK (K := K) rfl (pv 0) rfl)) (blkOk_by (own := [("letter", 4)]) (N := n_Misreading_init) (sc := defScope s_Misreading_init) (by decide +kernel)) (fun _ _ _ _ _ => (pg_name (i := 4) sc_Misreading_init.nd rfl (.inl rfl))) (fun _ _ _ _ _ => (pts_one (pt_cmpR op_ne (pe_dget (hu_of hr) (pv 3) (pv 4) (fun _ _ => rfl)) (pv 4) (nomark _)))) (fun _ _ _ _ _ => (pv 4))) pa_nil)) rfl)))))), ?_⟩
    have gu := toldT_good hst hlt G
    have lu := h12
    -- told
    refine ⟨_, rfl, _, .ref CJ, .type "dict", .ref CJ, false, rfl, .own _, .base (.dK hd), T.dJ, false, rfl, ?_⟩
    refine iteF ?_
    refine ⟨_, rfl, _, rfl, d, cs, st, t, rfl, hd, G, by omega, hlt, hst, hs5, fun r H1 sm nr hr1 => ?_⟩
    generalize toldT st t = u at gu lu q hr1 ⊢
    have hx1 := sm _ _ hx
    -- len(told) > 12
    refine ⟨_, rfl, r, _, rfl, hr1, _, _, rfl, rfl, _, rfl, ?_⟩
    rw [encT_len, decide_eq_false (by show ¬ ((12 : Int) < (u.length : Int)); omega)]
    refine iteF ?_
    have hx0 : ∀ b o, H b = some o → b ≠ x → H1 b = some o := fun b o e _ => sm b o e
    -- self._letters
    refine ⟨abcS, rfl, fun D nD => lc_it walk_str (fun i H2 => H2 = upd H1 D (.lst (lets ((abc.take i).filter fun c => (lookT u c).isSome)))) rfl (fun _ _ _ _ => trivial) ?_ ?_⟩
    · rintro i z H2 H2' hi rfl ⟨rfl, c, hc, rfl⟩
      have hc' : abc[i]? = some c := by
        rw [← abcS_cps]
        simpa using hc
      have hrD : r ≠ D := ne_of_none hr1 nD
      refine ⟨rfl, _, rfl, _, rfl, r, _, rfl, DGet.k (k := Sum.inr (L1 c)) (by rw [upd_ne hrD]; exact hr1), _, rfl, ?_⟩
      rw [valV_enc]
      have hs := some_put u i c hc'
      by_cases e : (lookT u c).isSome = true
      · have e2 : (Option.map (fun s => V.str (Sx s)) (lookT u c)).isSome = true := by rw [Option.isSome_map]; exact e
        rw [e2]
        refine iteT ?_
        rw [if_pos e] at hs
        refine ⟨_, rfl, lets ((abc.take i).filter fun c => (lookT u c).isSome), upd_same, ?_, ?_⟩
        · rw [lets_len]
          have h1 := List.length_filter_le (fun c => (lookT u c).isSome) (abc.take i)
          have h2 : (abc.take i).length ≤ 26 := by rw [List.length_take, abc_len]; omega
          exact small1000 (by omega)
        · rw [upd_upd, hs, lets_snoc]
          rfl
      · have e2 : (Option.map (fun s => V.str (Sx s)) (lookT u c)).isSome = false := by
          rw [Option.isSome_map]
          exact Bool.eq_false_iff.mpr e
        rw [e2]
        refine iteF ?_
        rw [if_neg e, List.append_nil] at hs
        rw [hs]
    · rintro H2 rfl
      have hsz : abcS.cps.size = 26 := by decide +kernel
      rw [hsz]
      have ek : (abc.take 26).filter (fun c => (lookT u c).isSome) = keysOf u := by
        rw [List.take_of_length_le (by rw [abc_len]; exact Nat.le_refl _)]
        rfl
      rw [ek]
      refine ⟨D, _, rfl, .inl ⟨SqL.of upd_same, fun a na => ?_⟩⟩
      have hxD : x ≠ D := ne_of_none hx1 nD
      have hxa : x ≠ a := ne_of_none (H := upd H1 D (.lst (lets (keysOf u)))) (o := .ins CM dx []) (by rw [upd_ne hxD]; exact hx1) na
      have hrD : r ≠ D := ne_of_none hr1 nD
      have hra : r ≠ a := ne_of_none (H := upd H1 D (.lst (lets (keysOf u)))) (o := .dK (encT u)) (by rw [upd_ne hrD]; exact hr1) na
      have hrx : r ≠ x := ne_of hr1 hx1 (fun z => nomatch z)
      refine ⟨_, rfl, x, CM, dx, [], rfl, by rw [upd_ne hxa, upd_ne hxD]; exact hx1, T.cl, T.nL, by show 0 < 1000; decide, ?_⟩
      have fr3 : ∀ b o, H b = some o → b ≠ x → upd (upd (upd H1 D (.lst (lets (keysOf u)))) a (.tup (lets (keysOf u)))) x (.ins CM dx (f1 a)) b = some o := fun b o e hb => by
        have e1 := sm b o e
        have hbD := ne_of_none e1 nD
        rw [upd_ne hb, upd_ne (ne_of_none (H := upd H1 D (.lst (lets (keysOf u)))) (o := o) (by rw [upd_ne hbD]; exact e1) na), upd_ne hbD]
        exact e1
      have hx3 : upd (upd (upd H1 D (.lst (lets (keysOf u)))) a (.tup (lets (keysOf u)))) x (.ins CM dx (f1 a)) x = some (.ins CM dx (f1 a)) := upd_same
      have ha3 : upd (upd (upd H1 D (.lst (lets (keysOf u)))) a (.tup (lets (keysOf u)))) x (.ins CM dx (f1 a)) a = some (.tup (lets (keysOf u))) := by rw [upd_ne (Ne.symm hxa), upd_same]
      have hr3 : upd (upd (upd H1 D (.lst (lets (keysOf u)))) a (.tup (lets (keysOf u)))) x (.ins CM dx (f1 a)) r = some (.dK (encT u)) := by rw [upd_ne hrx, upd_ne hra, upd_ne hrD]; exact hr1
      show tSeq _ _ _ _ (upd (upd (upd H1 D (.lst (lets (keysOf u)))) a (.tup (lets (keysOf u)))) x (.ins CM dx (f1 a)))
      generalize upd (upd (upd H1 D (.lst (lets (keysOf u)))) a (.tup (lets (keysOf u)))) x (.ins CM dx (f1 a)) = H3 at fr3 hx3 ha3 hr3 ⊢
      have naH : H a = none := by
        cases e : H a with
        | none => rfl
        | some o =>
          have e1 := sm _ _ e
          have e2 : upd H1 D (.lst (lets (keysOf u))) a = some o := by rw [upd_ne (ne_of_none e1 nD)]; exact e1
          rw [e2] at na
          cases na
      clear na nD hxD hxa hrD hra
      -- self._images
      refine ⟨_, rfl, x, CM, dx, _, _, rfl, hx3, T.cl, T.nL, f1_L a, a, rfl, ⟨_, .inl (.inl ha3)⟩, fun D2 nD2 => dc_it (walk_tup (K := K) (a := a) (xs := lets (keysOf u))) (fun i H4 => H4 = upd H3 D2 (.dK (encT (((keysOf u).take i).map fun c => (c, (lookT u c).getD []))))) rfl ?_ ?_ ?_⟩
      · rintro i H4 hi rfl
        exact .inl (.inl (by rw [upd_ne (ne_of_none ha3 nD2)]; exact ha3))
      · rintro i z H4 H4' hi rfl ⟨rfl, hz⟩
        obtain ⟨hik, rfl⟩ := lets_get hz
        obtain ⟨s, es⟩ := Option.isSome_iff_exists.mp (List.mem_filter.mp (List.getElem_mem hik)).2
        refine ⟨rfl, _, rfl, _, rfl, _, rfl, r, V.str (Sx s), rfl, .inl ⟨_, Sum.inr (L1 (keysOf u)[i]), .inl (by rw [upd_ne (ne_of_none hr3 nD2)]; exact hr3), rfl, by rw [valV_enc, es]; rfl⟩, _, Sum.inr (L1 (keysOf u)[i]), rfl, upd_same, ?_, ?_⟩
        · rw [encT_len, List.length_map, List.length_take]
          have := keysOf_len u
          exact small1000 (by omega)
        · rw [upd_upd, putK_enc]
          congr 3
          exact ims_succ (keysOf_nd u) hik (by rw [es]; rfl)
      · rintro H4 rfl
        rw [lets_len, List.take_length]
        have hxD2 : x ≠ D2 := ne_of_none hx3 nD2
        have haD2 : a ≠ D2 := ne_of_none ha3 nD2
        have hrD2 : r ≠ D2 := ne_of_none hr3 nD2
        refine ⟨_, rfl, x, CM, dx, f1 a, rfl, by rw [upd_ne hxD2]; exact hx3, T.cl, T.nI, f1_len a, ?_⟩
        have hax : a ≠ x := ne_of ha3 hx3 (fun z => nomatch z)
        have nbH : H D2 = none := by
          cases e : H D2 with
          | none => rfl
          | some o =>
            have e1 := fr3 _ _ e (Ne.symm hxD2)
            rw [e1] at nD2
            cases nD2
        have fr5 : ∀ b o, H b = some o → b ≠ x → upd (upd H3 D2 (.dK (encT (ims u)))) x (.ins CM dx (f2 a D2)) b = some o := fun b o e hb => by
          have e1 := fr3 b o e hb
          rw [upd_ne hb, upd_ne (ne_of_none e1 nD2)]
          exact e1
        have hx5 : upd (upd H3 D2 (.dK (encT (ims u)))) x (.ins CM dx (f2 a D2)) x = some (.ins CM dx (f2 a D2)) := upd_same
        have ha5 : upd (upd H3 D2 (.dK (encT (ims u)))) x (.ins CM dx (f2 a D2)) a = some (.tup (lets (keysOf u))) := by rw [upd_ne hax, upd_ne haD2]; exact ha3
        have hr5 : upd (upd H3 D2 (.dK (encT (ims u)))) x (.ins CM dx (f2 a D2)) r = some (.dK (encT u)) := by rw [upd_ne hrx, upd_ne hrD2]; exact hr3
        have hd5 : upd (upd H3 D2 (.dK (encT (ims u)))) x (.ins CM dx (f2 a D2)) D2 = some (.dK (encT (ims u))) := by rw [upd_ne (Ne.symm hxD2), upd_same]
        show Ends.nx _ _ (upd (upd H3 D2 (.dK (encT (ims u)))) x (.ins CM dx (f2 a D2)))
        generalize upd (upd H3 D2 (.dK (encT (ims u)))) x (.ins CM dx (f2 a D2)) = H5 at fr5 hx5 ha5 hr5 hd5 ⊢
        -- self.changed
        refine ⟨_, rfl, x, CM, dx, _, _, rfl, hx5, T.cl, T.nL, f2_L a D2, a, rfl, ⟨_, .inl (.inl ha5)⟩, fun D3 nD3 => lc_it (walk_tup (K := K) (a := a) (xs := lets (keysOf u))) (fun i H6 => H6 = upd H5 D3 (.lst (lets (((keysOf u).take i).filter fun c => decide (lookT u c ≠ some [c]))))) rfl ?_ ?_ ?_⟩
        · rintro i H6 hi rfl
          exact .inl (.inl (by rw [upd_ne (ne_of_none ha5 nD3)]; exact ha5))
        · rintro i z H6 H6' hi rfl ⟨rfl, hz⟩
          obtain ⟨hik, rfl⟩ := lets_get hz
          obtain ⟨s, es⟩ := Option.isSome_iff_exists.mp (List.mem_filter.mp (List.getElem_mem hik)).2
          refine ⟨rfl, _, rfl, _, rfl, r, V.str (Sx s), rfl, .inl ⟨_, Sum.inr (L1 (keysOf u)[i]), .inl (by rw [upd_ne (ne_of_none hr5 nD3)]; exact hr5), rfl, by rw [valV_enc, es]; rfl⟩, _, rfl, rfl, _, rfl, ?_⟩
          have hs := chg_succ (u := u) hik
          by_cases e : s = [(keysOf u)[i]]
          · have e1 : lookT u (keysOf u)[i] = some [(keysOf u)[i]] := by rw [es, e]
            rw [if_neg (by simp [e1]), List.append_nil] at hs
            rw [decide_eq_true (show V.str (Sx s) = V.str (L1 (keysOf u)[i]) by rw [e]; rfl)]
            refine iteF ?_
            rw [hs]
          · have e1 : ¬ lookT u (keysOf u)[i] = some [(keysOf u)[i]] := by
              rw [es]
              exact fun z => e (Option.some.inj z)
            rw [if_pos (by simpa using e1)] at hs
            rw [decide_eq_false (show ¬ V.str (Sx s) = V.str (L1 (keysOf u)[i]) from fun z => e (Sx_inj (V.str.inj z)))]
            refine iteT ?_
            refine ⟨_, rfl, _, upd_same, ?_, ?_⟩
            · rw [lets_len]
              have h1 := List.length_filter_le (fun c => decide (lookT u c ≠ some [c])) ((keysOf u).take i)
              have h2 := keysOf_len u
              have h3 : ((keysOf u).take i).length ≤ (keysOf u).length := by rw [List.length_take]; omega
              exact small1000 (by omega)
            · rw [upd_upd, hs, lets_snoc]
        · rintro H6 rfl
          rw [lets_len, List.take_length]
          refine ⟨D3, _, rfl, .inl ⟨SqL.of upd_same, fun c nc => ?_⟩⟩
          have hxD3 : x ≠ D3 := ne_of_none hx5 nD3
          have up : ∀ b o, H5 b = some o → upd (upd H5 D3 (.lst (lets (chg u)))) c (.tup (lets (chg u))) b = some o := fun b o e => by
            have hb := ne_of_none e nD3
            rw [upd_ne (ne_of_none (H := upd H5 D3 (.lst (lets (chg u)))) (o := o) (by rw [upd_ne hb]; exact e) nc), upd_ne hb]
            exact e
          have hxc : x ≠ c := ne_of_none (H := upd H5 D3 (.lst (lets (chg u)))) (o := .ins CM dx (f2 a D2)) (by rw [upd_ne hxD3]; exact hx5) nc
          refine ⟨_, rfl, x, CM, dx, f2 a D2, rfl, up _ _ hx5, T.cl, T.nC, f2_len a D2, ?_⟩
          have ncH : H c = none := by
            have nc' : upd H5 D3 (.lst (lets (chg u))) c = none := nc
            cases e : H c with
            | none => rfl
            | some o =>
              have e3 := fr5 _ _ e (Ne.symm hxc)
              have e2 : upd H5 D3 (.lst (lets (chg u))) c = some o := by
                rw [upd_ne (ne_of_none e3 nD3)]
                exact e3
              rw [e2] at nc'
              cases nc'
          have hD2x : D2 ≠ x := ne_of hd5 hx5 (fun z => nomatch z)
          refine q _ ⟨dx, a, D2, c, upd_same, ?_, ?_, ?_, naH, nbH, ncH⟩ fun b o e hb => ?_
          · rw [upd_ne hax]
            exact up _ _ ha5
          · rw [upd_ne hD2x]
            exact up _ _ hd5
          · rw [upd_ne (Ne.symm hxc)]
            exact upd_same
          · rw [upd_ne hb]
            exact up _ _ (fr5 b o e hb)
end
end V8

set_option Elab.async false
set_option linter.all false
set_option maxRecDepth 100000
set_option maxHeartbeats 8000000
/-! Values of any kind copied. -/
namespace V8
open PySem PySem.Spec PyProof.Rows L2
abbrev s_copied : Stmt := topS 2
abbrev n_copied : List Str := ["value", "part", "key"]
theorem sc_copied : FnScope ["value", "part", "key"] ["value"] (defScope s_copied) := ⟨rfl, rfl, rfl, by decide +kernel, rfl, by decide +kernel, by decide +kernel⟩
theorem same_put {H H' : Hp} {D : Addr} {o : HO} (s : Same H H') (n : H' D = none) : Same H (upd H' D o) := fun b u e => by
  rw [upd_ne (ne_of_none (s b u e) n)]
  exact s b u e
theorem same_none {H H' : Hp} {D : Addr} (s : Same H H') (n : H' D = none) : H D = none := by
  cases e : H D with
  | none => rfl
  | some o =>
    rw [s _ _ e] at n
    cases n
theorem valV_at : ∀ {kvs : List (Key × V)} {i : Nat} {k : Key} {v : V}, (kvs.map (·.1)).Nodup → kvs[i]? = some (k, v) → valV kvs k = some v
  | [], i, k, v, _, h => by simp at h
  | p :: r, 0, k, v, _, h => by
    obtain rfl : p = (k, v) := by simpa using h
    simp [valV]
  | p :: r, i + 1, k, v, nd, h => by
    have h2 : r[i]? = some (k, v) := by simpa using h
    have nd2 := List.nodup_cons.mp (by simpa using nd : (p.1 :: r.map (·.1)).Nodup)
    have ne : ¬ p.1 = k := fun z => nd2.1 (z ▸ List.mem_map.mpr ⟨(k, v), List.mem_of_getElem? h2, rfl⟩)
    have ih := valV_at nd2.2 h2
    unfold valV at ih ⊢
    rw [List.find?_cons_of_neg (by simpa using ne)]
    exact ih
theorem not_take {kvs : List (Key × V)} {i : Nat} {k : Key} {v : V} (nd : (kvs.map (·.1)).Nodup) (h : kvs[i]? = some (k, v)) : k ∉ (kvs.take i).map (·.1) := by
  obtain ⟨hi, e⟩ := List.getElem?_eq_some_iff.mp h
  intro z
  rw [← List.take_append_drop i kvs, List.map_append, List.drop_eq_getElem_cons hi, e, List.map_cons] at nd
  exact (List.nodup_append.mp nd).2.2 _ z _ List.mem_cons_self rfl
/-- names that the text does not take -/
structure Tq (mg : Str → Option Value) : Prop extends Blt mg where
  isinstance : mg "isinstance" = none
  repr : mg "repr" = none
  enumerate : mg "enumerate" = none
/-- no list, tuple, dict, object -/
def Flat (x : V) : Prop := (∃ z, x = .str z) ∨ (∃ i, x = .int i) ∨ x = .non ∨ ∃ b, x = .bl b
theorem Flat.ty {K : PySem.W.Frag} {x : V} (f : Flat x) : ∃ t, (∀ H : Hp, TyX K H x t) ∧ PySem.W.kitOne K t (.type "list") = some false ∧ PySem.W.kitOne K t (.type "tuple") = some false ∧ PySem.W.kitOne K t (.type "dict") = some false := by
  rcases f with ⟨z, rfl⟩ | ⟨i, rfl⟩ | rfl | ⟨b, rfl⟩
  · exact ⟨_, fun _ => ty_str _, kit_ty (by decide +kernel), kit_ty (by decide +kernel), kit_ty (by decide +kernel)⟩
  · exact ⟨_, fun _ => .base (.int i), kit_ty (by decide +kernel), kit_ty (by decide +kernel), kit_ty (by decide +kernel)⟩
  · exact ⟨_, fun _ => .base .non, kit_ty (by decide +kernel), kit_ty (by decide +kernel), kit_ty (by decide +kernel)⟩
  · exact ⟨_, fun _ => .base (.bl b), kit_ty (by decide +kernel), kit_ty (by decide +kernel), kit_ty (by decide +kernel)⟩
theorem Flat.pyw {H H2 : Hp} {x : V} {d : PyData} (f : Flat x) (p : PyW H x d) : PyW H2 x d := by
  rcases f with ⟨z, rfl⟩ | ⟨i, rfl⟩ | rfl | ⟨b, rfl⟩ <;> cases p <;> constructor
theorem flats_pyw {H H2 : Hp} : ∀ {xs : List V} {ds : List PyData}, (∀ y ∈ xs, Flat y) → PyWs H xs ds → PyWs H2 xs ds
  | _, _, _, .nil => .nil
  | _, _, f, .cons h r => .cons ((f _ (List.mem_cons_self ..)).pyw h) (flats_pyw (fun y hy => f y (List.mem_cons_of_mem _ hy)) r)
/-- a flat value is handed back as it is -/
def spCopied (K : PySem.W.Frag) : Sp := fun vs H Q _ => ∃ (x : V) (t : Value), vs = [x] ∧ TyX K H x t ∧ PySem.W.kitOne K t (.type "list") = some false ∧ PySem.W.kitOne K t (.type "tuple") = some false ∧ PySem.W.kitOne K t (.type "dict") = some false ∧ Q x H
/-- flat, or a tuple, list or dict of such -/
def Told2 (H : Hp) (x : V) : Prop := Flat x ∨ (∃ a xs, x = .ref a ∧ (H a = some (.tup xs) ∨ H a = some (.lst xs)) ∧ xs.length ≤ 100 ∧ ∀ y ∈ xs, Flat y) ∨ ∃ a kvs, x = .ref a ∧ H a = some (.dK kvs) ∧ kvs.length ≤ 15 ∧ (kvs.map (·.1)).Nodup ∧ ∀ y ∈ kvs.map (·.2), Flat y
theorem Told2.same {H H2 : Hp} {x : V} (t : Told2 H x) (s : Same H H2) : Told2 H2 x := by
  rcases t with f | ⟨a, xs, e, h, l, g⟩ | ⟨a, kvs, e, h, l, n, g⟩
  · exact .inl f
  · exact .inr (.inl ⟨a, xs, e, h.imp (s _ _) (s _ _), l, g⟩)
  · exact .inr (.inr ⟨a, kvs, e, s _ _ h, l, n, g⟩)
theorem putK_new {kvs : List (Key × V)} {k : Key} {v : V} (h : k ∉ kvs.map (·.1)) : putK kvs k v = kvs ++ [(k, v)] := by
  unfold putK
  rw [if_neg]
  intro z
  obtain ⟨p, hp, e⟩ := List.any_eq_true.mp z
  have e2 : p.1 = k := by simpa using e
  exact h (e2 ▸ List.mem_map.mpr ⟨p, hp, rfl⟩)
def spCopyW : Sp := fun vs H Q _ => ∃ (x : V) (d : PyData), vs = [x] ∧ Told2 H x ∧ PyW H x d ∧ ∀ y H', Same H H' → PyW H' y d → Q y H'
section
variable {P : Program} {w : World} {K : PySem.W.Frag} {mg : Str → Option Value} {base : Heap}
theorem ok_copied {f : Addr} {fd : FuncData} (F : Fun K "copied" "copied" s_copied f fd) (T : Tq mg) (D_copied : Df P w K mg base 0 "copied" fun _ _ _ _ => False) : FnOk P w K mg base CX0 1 f fd ["value"] (spCopied K) := by
  refine F.ok sc_copied (fun vs H Q E h => ?_) (fun cdv A outer s H vs Q E hr h => ?_)
  · obtain ⟨x, t, rfl, _⟩ := h
    rfl
  · obtain ⟨x, t, rfl, ty, e1, e2, e3, q⟩ := h
    refine ⟨_, (pss_cons (ps_if (pt_val (pe_callB call_isi (by rfl) T.isinstance (by decide +kernel) (pa_cons (pv 0) (pa_cons (pe_bltn (v := .ty "list") (by rfl) T.list (by decide +kernel) rfl) pa_nil))))
        (pss_one (ps_ret (pe_lc (own := [("part", 1)]) (g := gName 1) (by rfl) sc_copied.nd (pi_list (pv 0)) (blkOk_by (own := [("part", 1)]) (N := n_copied) (sc := defScope s_copied) (by decide +kernel)) (fun _ _ _ _ _ => (pg_name (i := 1) sc_copied.nd rfl (.inl rfl))) (fun _ _ _ _ _ => pts_nil) (fun _ _ _ _ _ => (pe_c D_copied hr (by decide) (by rfl) (pa_cons (pv 1) pa_nil))))))
        pss_nil)
      (pss_cons (ps_if (pt_val (pe_callB call_isi (by rfl) T.isinstance (by decide +kernel) (pa_cons (pv 0) (pa_cons (pe_bltn (v := .ty "tuple") (by rfl) T.tuple (by decide +kernel) rfl) pa_nil))))
        (pss_one (ps_ret (pe_callTy (call_tuple_ofK (K := K) rfl) (by rfl) T.tuple (by decide +kernel) (pa_cons (pe_lc (own := [("part", 1)]) (g := gName 1) (by rfl) sc_copied.nd (pi_tup (pv 0)) (blkOk_by (own := [("part", 1)]) (N := n_copied) (sc := defScope s_copied) (by decide +kernel)) (fun _ _ _ _ _ => (pg_name (i := 1) sc_copied.nd rfl (.inl rfl))) (fun _ _ _ _ _ => pts_nil) (fun _ _ _ _ _ => (pe_c D_copied hr (by decide) (by rfl) (pa_cons (pv 1) pa_nil)))) pa_nil))))
        pss_nil)
      (pss_cons (ps_if (pt_val (pe_callB call_isi (by rfl) T.isinstance (by decide +kernel) (pa_cons (pv 0) (pa_cons (pe_bltn (v := .ty "dict") (by rfl) T.dict (by decide +kernel) rfl) pa_nil))))
        (pss_one (ps_ret (pe_lock (pe_dc (own := [("key", 2)]) (g := gName 2) (by rfl) sc_copied.nd (pi_keys (pv 0)) (blkOk_by (own := [("key", 2)]) (N := n_copied) (sc := defScope s_copied) (by decide +kernel)) (fun _ _ _ _ _ => (pg_name (i := 2) sc_copied.nd rfl (.inl rfl))) (fun _ _ _ _ _ => pts_nil) (fun _ _ _ _ _ => (pv 2)) (fun _ _ _ _ _ => (pe_c D_copied hr (by decide) (by rfl) (pa_cons (pe_dget (hu_of hr) (pv 0) (pv 2) (fun _ _ => rfl)) pa_nil)))))))
        pss_nil)
      (pss_one (ps_ret (pv 0)))))), ?_⟩
    refine ⟨_, rfl, _, .ty "list", t, .type "list", false, rfl, .ty _, ty, e1, false, rfl, iteF ?_⟩
    refine ⟨_, rfl, _, .ty "tuple", t, .type "tuple", false, rfl, .ty _, ty, e2, false, rfl, iteF ?_⟩
    refine ⟨_, rfl, _, .ty "dict", t, .type "dict", false, rfl, .ty _, ty, e3, false, rfl, iteF ?_⟩
    exact ⟨_, rfl, q⟩
theorem ok_copyW {f : Addr} {fd : FuncData} (F : Fun K "copied" "copied" s_copied f fd) (T : Tq mg) (D_copied : Df P w K mg base 1 "copied" (spCopied K)) : FnOk P w K mg base CX0 2 f fd ["value"] spCopyW := by
  refine F.ok sc_copied (fun vs H Q E h => ?_) (fun cdv A outer s H vs Q E hr h => ?_)
  · obtain ⟨x, d, rfl, _⟩ := h
    rfl
  · obtain ⟨x, d, rfl, tl, pv0, q⟩ := h
    refine ⟨_, (pss_cons (ps_if (pt_val (pe_callB call_isi (by rfl) T.isinstance (by decide +kernel) (pa_cons (pv 0) (pa_cons (pe_bltn (v := .ty "list") (by rfl) T.list (by decide +kernel) rfl) pa_nil))))
        (pss_one (ps_ret (pe_lc (own := [("part", 1)]) (g := gName 1) (by rfl) sc_copied.nd (pi_list (pv 0)) (blkOk_by (own := [("part", 1)]) (N := n_copied) (sc := defScope s_copied) (by decide +kernel)) (fun _ _ _ _ _ => (pg_name (i := 1) sc_copied.nd rfl (.inl rfl))) (fun _ _ _ _ _ => pts_nil) (fun _ _ _ _ _ => (pe_c D_copied hr (by decide) (by rfl) (pa_cons (pv 1) pa_nil))))))
        pss_nil)
      (pss_cons (ps_if (pt_val (pe_callB call_isi (by rfl) T.isinstance (by decide +kernel) (pa_cons (pv 0) (pa_cons (pe_bltn (v := .ty "tuple") (by rfl) T.tuple (by decide +kernel) rfl) pa_nil))))
        (pss_one (ps_ret (pe_callTy (call_tuple_ofK (K := K) rfl) (by rfl) T.tuple (by decide +kernel) (pa_cons (pe_lc (own := [("part", 1)]) (g := gName 1) (by rfl) sc_copied.nd (pi_tup (pv 0)) (blkOk_by (own := [("part", 1)]) (N := n_copied) (sc := defScope s_copied) (by decide +kernel)) (fun _ _ _ _ _ => (pg_name (i := 1) sc_copied.nd rfl (.inl rfl))) (fun _ _ _ _ _ => pts_nil) (fun _ _ _ _ _ => (pe_c D_copied hr (by decide) (by rfl) (pa_cons (pv 1) pa_nil)))) pa_nil))))
        pss_nil)
      (pss_cons (ps_if (pt_val (pe_callB call_isi (by rfl) T.isinstance (by decide +kernel) (pa_cons (pv 0) (pa_cons (pe_bltn (v := .ty "dict") (by rfl) T.dict (by decide +kernel) rfl) pa_nil))))
        (pss_one (ps_ret (pe_lock (pe_dc (own := [("key", 2)]) (g := gName 2) (by rfl) sc_copied.nd (pi_keys (pv 0)) (blkOk_by (own := [("key", 2)]) (N := n_copied) (sc := defScope s_copied) (by decide +kernel)) (fun _ _ _ _ _ => (pg_name (i := 2) sc_copied.nd rfl (.inl rfl))) (fun _ _ _ _ _ => pts_nil) (fun _ _ _ _ _ => (pv 2)) (fun _ _ _ _ _ => (pe_c D_copied hr (by decide) (by rfl) (pa_cons (pe_dget (hu_of hr) (pv 0) (pv 2) (fun _ _ => rfl)) pa_nil)))))))
        pss_nil)
      (pss_one (ps_ret (pv 0)))))), ?_⟩
    rcases tl with f | ⟨a, xs, rfl, ha | ha, l, fl⟩ | ⟨a, kvs, rfl, ha, l, nd, fl⟩
    · obtain ⟨t, ty, e1, e2, e3⟩ := f.ty (K := K)
      refine ⟨_, rfl, _, .ty "list", t, .type "list", false, rfl, .ty _, ty _, e1, false, rfl, iteF ?_⟩
      refine ⟨_, rfl, _, .ty "tuple", t, .type "tuple", false, rfl, .ty _, ty _, e2, false, rfl, iteF ?_⟩
      refine ⟨_, rfl, _, .ty "dict", t, .type "dict", false, rfl, .ty _, ty _, e3, false, rfl, iteF ?_⟩
      exact ⟨_, rfl, q _ _ (Same.refl H) pv0⟩
    · refine ⟨_, rfl, _, .ty "list", .type "tuple", .type "list", false, rfl, .ty _, .base (.tup ha), kit_ty (by decide +kernel), false, rfl, iteF ?_⟩
      refine ⟨_, rfl, _, .ty "tuple", .type "tuple", .type "tuple", true, rfl, .ty _, .base (.tup ha), kit_ty (by decide +kernel), true, rfl, iteT ?_⟩
      refine ⟨_, rfl, a, rfl, ⟨_, .inl (.inl ha)⟩, fun D nD => lc_it (walk_tup (K := K) (a := a) (xs := xs)) (fun i H2 => H2 = upd H D (.lst (xs.take i))) rfl ?_ ?_ ?_⟩
      · rintro i H2 hi rfl
        exact .inl (.inl (by rw [upd_ne (ne_of_none ha nD)]; exact ha))
      · rintro i y H2 H3 hi rfl ⟨rfl, hy⟩
        obtain ⟨hi', ey⟩ := List.getElem?_eq_some_iff.mp hy
        obtain ⟨t, ty, e1, e2, e3⟩ := (fl y (ey ▸ List.getElem_mem hi')).ty (K := K)
        refine ⟨rfl, _, rfl, y, t, rfl, ty _, e1, e2, e3, _, upd_same, ?_, ?_⟩
        · rw [List.length_take, sizeLine_eq]
          omega
        · rw [upd_upd, List.take_add_one, hy]
          rfl
      · rintro H2 rfl
        rw [List.take_length]
        refine ⟨D, xs, rfl, .inl ⟨SqL.of upd_same, fun b nb => ?_⟩⟩
        cases pv0 with
        | tup h r =>
          rw [ha] at h
          cases h
          exact q _ _ (same_put (s := same_put (s := Same.refl H) nD) nb) (.tup upd_same (flats_pyw fl r))
        | lst h r =>
          rw [ha] at h
          cases h
        | dic h r =>
          rw [ha] at h
          cases h
    · refine ⟨_, rfl, _, .ty "list", .type "list", .type "list", true, rfl, .ty _, .base (.lst ha), kit_ty (by decide +kernel), true, rfl, iteT ?_⟩
      refine ⟨_, rfl, a, rfl, ⟨_, SqL.of ha⟩, fun D nD => lc_it (walk_list (K := K) (a := a) (xs := xs)) (fun i H2 => H2 = upd H D (.lst (xs.take i))) rfl ?_ ?_ ?_⟩
      · rintro i H2 hi rfl
        exact SqL.of (by rw [upd_ne (ne_of_none ha nD)]; exact ha)
      · rintro i y H2 H3 hi rfl ⟨rfl, hy⟩
        obtain ⟨hi', ey⟩ := List.getElem?_eq_some_iff.mp hy
        obtain ⟨t, ty, e1, e2, e3⟩ := (fl y (ey ▸ List.getElem_mem hi')).ty (K := K)
        refine ⟨rfl, _, rfl, y, t, rfl, ty _, e1, e2, e3, _, upd_same, ?_, ?_⟩
        · rw [List.length_take, sizeLine_eq]
          omega
        · rw [upd_upd, List.take_add_one, hy]
          rfl
      · rintro H2 rfl
        rw [List.take_length]
        cases pv0 with
        | tup h r =>
          rw [ha] at h
          cases h
        | lst h r =>
          rw [ha] at h
          cases h
          exact q _ _ (same_put (s := Same.refl H) nD) (.lst upd_same (flats_pyw fl r))
        | dic h r =>
          rw [ha] at h
          cases h
    · refine ⟨_, rfl, _, .ty "list", .type "dict", .type "list", false, rfl, .ty _, .base (.dK ha), kit_ty (by decide +kernel), false, rfl, iteF ?_⟩
      refine ⟨_, rfl, _, .ty "tuple", .type "dict", .type "tuple", false, rfl, .ty _, .base (.dK ha), kit_ty (by decide +kernel), false, rfl, iteF ?_⟩
      refine ⟨_, rfl, _, .ty "dict", .type "dict", .type "dict", true, rfl, .ty _, .base (.dK ha), kit_ty (by decide +kernel), true, rfl, iteT ?_⟩
      refine ⟨a, _, ha, True.intro, fun od => ⟨_, rfl, a, od, rfl, .inl ⟨_, upd_same, fun D nD => dc_it (walk_keys (d := a) (o := od) (kvs := kvs)) (fun i H2 => H2 = upd (upd H a (.frz od (.dK kvs))) D (.dK (kvs.take i))) rfl ?_ ?_ ?_⟩⟩⟩
      · rintro i H2 hi rfl
        rw [upd_ne (ne_of_none upd_same nD)]
        exact upd_same
      · rintro i x H2 H3 hi rfl ⟨rfl, k, v, hk, rfl⟩
        obtain ⟨hi', ek⟩ := List.getElem?_eq_some_iff.mp hk
        obtain ⟨t, ty, e1, e2, e3⟩ := (fl v (List.mem_map.mpr ⟨(k, v), ek ▸ List.getElem_mem hi', rfl⟩)).ty (K := K)
        have ad : a ≠ D := ne_of_none (show upd H a (.frz od (.dK kvs)) a = _ from upd_same) nD
        refine ⟨rfl, _, rfl, _, rfl, _, rfl, a, v, rfl, .inl ⟨kvs, k, .inr ⟨od, by rw [upd_ne ad]; exact upd_same⟩, rfl, (valV_at nd hk).symm⟩, v, t, rfl, ty _, e1, e2, e3, kvs.take i, k, rfl, upd_same, ?_, ?_⟩
        · rw [List.length_take, sizeLine_eq]
          omega
        · rw [upd_upd, putK_new (not_take nd hk), List.take_add_one, hk]
          rfl
      · rintro H2 rfl
        rw [List.take_length]
        have ad : a ≠ D := ne_of_none (show upd H a (.frz od (.dK kvs)) a = _ from upd_same) nD
        have nD2 : H D = none := by
          rw [upd_ne (Ne.symm ad)] at nD
          exact nD
        have eH : upd (upd (upd H a (.frz od (.dK kvs))) D (.dK kvs)) a (.dK kvs) = upd H D (.dK kvs) := by
          funext b
          by_cases h1 : b = a
          · rw [h1, upd_same, upd_ne ad, ha]
          · by_cases h2 : b = D
            · rw [h2, upd_ne (Ne.symm ad), upd_same, upd_same]
            · rw [upd_ne h1, upd_ne h2, upd_ne h1, upd_ne h2]
        refine ⟨by rw [upd_ne ad]; exact upd_same, ?_⟩
        rw [eH]
        cases pv0 with
        | tup h r =>
          rw [ha] at h
          cases h
        | lst h r =>
          rw [ha] at h
          cases h
        | dic h r =>
          rw [ha] at h
          cases h
          exact q _ _ (same_put (s := Same.refl H) nD2) (.dic upd_same (flats_pyw fl r))
end
end V8

set_option Elab.async false
set_option linter.all false
set_option maxRecDepth 100000
set_option maxHeartbeats 4000000
/-! ~ by an own __invert__. -/
namespace L2
open PySem PySem.Spec PyProof.Rows
theorem un_invO {X : Cx} {k j : Nat} {C : Addr} {sp : Sp} (c : Mf X.prog X.w X.K X.mg X.base k C "__invert__" sp) (hr : Room j X.A) (hk : k ≤ j) : UnR X (unaryOp .Invert) (fun x H Q => ∃ a dx fs, x = .ref a ∧ H a = some (.ins C dx fs) ∧ sp [.ref a] H Q E0) := by
  obtain ⟨f, fd, ps, F, _, o, _, b⟩ := c.ex
  intro pins s σ H x v Q I rx h
  obtain ⟨a, dx, fs, rfl, ha, hs⟩ := h
  cases rx
  obtain ⟨od, J⟩ := inst_at I ha
  obtain ⟨m, hF⟩ := I.fr
  exact PySem.W.ksp_inv hF I.ok.mod.kin J o.find o.fn (run_own (Sub.here (hr.mono hk)) F b pass0 I (show Vals [V.ref a] [Value.ref a] from .cons rfl .nil) hs)
end L2

set_option Elab.async false
set_option linter.all false
set_option maxRecDepth 100000
set_option maxHeartbeats 4000000
/-! Own errors made and kept as values. -/
namespace L2
open PySem PySem.Spec PyProof.Rows
section
variable {X : Cx} {pins : List (Addr × Obj)} {σ : St} {H : Hp} {s : Shared} {a : Addr} {φ : Heap → Prop} {o : HO}
/-- another word for a thing of one's own -/
theorem Inv.reword (I : Inv X pins σ H s) (e : H a = some (.ext φ)) (ok : ObjOk X.prog X.w (upd H a o) s.heap a o) : Inv X pins σ (upd H a o) s := by
  have off : ∀ {b : Addr} {u : HO}, H b = some u → (∀ ψ, u ≠ .ext ψ) → upd H a o b = some u := fun {b u} h n => by
    rw [upd_ne]
    · exact h
    · intro z
      rw [z, e] at h
      exact n _ (Option.some.inj h).symm
  have none_ : ∀ {b : Addr}, H b = none → upd H a o b = none := fun {b} h => by
    rw [upd_ne]
    · exact h
    · intro z
      rw [z, e] at h
      cases h
  exact {
    ok := I.ok
    os := I.os
    bare := I.bare
    base := {
      keep := I.base.keep
      slot := I.base.slot
      free := fun b u h n x => none_ (I.base.free b u h n x)
      there := I.base.there
      tups := fun b xs h => off (I.base.tups b xs h) fun _ z => nomatch z
      frzs := fun b u v h => off (I.base.frzs b u v h) fun _ z => nomatch z
      tbls := fun b ps h => by
        obtain ⟨more, h2⟩ := I.base.tbls b ps h
        exact ⟨more, off h2 fun _ z => nomatch z⟩ }
    loc := I.loc
    cell := I.cell
    free := none_ I.free
    freeC := fun x c h => none_ (I.freeC x c h)
    pin := fun p hp => ⟨(I.pin p hp).1, none_ (I.pin p hp).2.1, (I.pin p hp).2.2⟩
    hok := fun b u h => by
      by_cases hb : b = a
      · subst hb
        rw [upd_same] at h
        cases h
        exact ok
      · rw [upd_ne hb] at h
        exact (I.hok b u h).stay (fun c v _ y => y) (fun c h2 => off h2 fun _ z => nomatch z) fun c xs h2 => off h2 fun _ z => nomatch z
    len := I.len }
end
/-- an error made: its class, its fields -/
def tEr (C : Addr) (sp : Sp) (ta : TA) : TE := fun σ H Q => ta σ H fun vs H1 => vs.length ≤ 1000 ∧ ∀ a, H1 a = none → sp (.ref a :: (vs ++ [])) (upd H1 a (exo a C none))
  (fun v H2 => v = .non ∧ ((∃ (d : Addr) (fs : List (Str × V)), H2 a = some (exo a C (some d)) ∧ H2 d = some (exd d fs) ∧ Q (.ref a) (upd (upd H2 a (CaughtO (.ref C) (some d) a)) d (.xd fs))) ∨
    (H2 a = some (exo a C none) ∧ Q (.ref a) (upd H2 a (CaughtO (.ref C) none a))))) (fun _ _ _ => False)
theorem caught_ok {P : Program} {w : World} {H : Hp} {h : Heap} {a C t0 : Addr} {d : Option Addr} (e : h.get? a = some ({ cls := .ref C, dict := d, data := .fields #[.ref t0, .none, .none, .none, .bool false, .none] } : Obj)) : ObjOk P w H h a (CaughtO (.ref C) d a) :=
  ⟨⟨_, _, e, ⟨rfl, rfl⟩, rfl⟩, ⟨_, e⟩, fun _ _ ⟨o, v, q, r⟩ k => ⟨o, v, k o q, r⟩⟩
section
variable {X : Cx} {pins : List (Addr × Obj)} {σ : St} {H : Hp} {s : Shared} {a C : Addr} {Q : VK}
/-- what the maker leaves, kept as a value -/
theorem Inv.kept_err {d : Addr} {fs : List (Str × V)} (I : Inv X pins σ H s) (ea : H a = some (exo a C (some d))) (ed : H d = some (exd d fs)) : Inv X pins σ (upd (upd H a (CaughtO (.ref C) (some d) a)) d (.xd fs)) s := by
  obtain ⟨t0, e⟩ := exo_at I.hok ea
  have da : d ≠ a := fun z => by
    obtain ⟨⟨mA, ns, _⟩, _, _⟩ := I.hok d _ ed
    obtain ⟨o, es, ep, h1, h2, _⟩ := ns
    rw [z, e] at h1
    cases h1
    cases h2
  have I2 := I.reword (o := CaughtO (.ref C) (some d) a) ea (caught_ok e)
  have ed2 : upd H a (CaughtO (.ref C) (some d) a) d = some (exd d fs) := by
    rw [upd_ne da]
    exact ed
  obtain ⟨⟨mA, ns, rel⟩, _, _⟩ := I.hok d _ ed
  exact I2.reword (o := .xd fs) ed2 ⟨mA, ns, rel⟩
theorem Inv.kept_err0 (I : Inv X pins σ H s) (ea : H a = some (exo a C none)) : Inv X pins σ (upd H a (CaughtO (.ref C) none a)) s := by
  obtain ⟨t0, e⟩ := exo_at I.hok ea
  exact I.reword ea (caught_ok e)
end
/-- what is asked of the def that fills a new error -/
def EndE (C a : Addr) (Q : VK) : VK := fun v H2 => v = .non ∧ ((∃ (d : Addr) (fs : List (Str × V)), H2 a = some (exo a C (some d)) ∧ H2 d = some (exd d fs) ∧ Q (.ref a) (upd (upd H2 a (CaughtO (.ref C) (some d) a)) d (.xd fs))) ∨
    (H2 a = some (exo a C none) ∧ Q (.ref a) (upd H2 a (CaughtO (.ref C) none a))))
section
variable {X : Cx} {C : CXT} {k j : Nat} {fd : FuncData} {ps : List Str} {sp : Sp} {x : Str} {p pos : Pos} {e : Expr} {es : List Expr} {ta : TA}
/-- the class is called -/
theorem er_core {Cl fI : Addr} {pins : List (Addr × Obj)} {σ : St} {H1 : Hp} {s1 : Shared} {Q : VK} {us : List Value} {xs : List V} (T : OexC X.K Cl) (iC : PySem.W.findIn X.K (.ref Cl) "__init__" = some (some (.ref fI))) (tI : PySem.W.typeIn X.K (.ref fI) = some (.type "function"))
    (Fn : FnG X.prog X.w X.K X.mg X.base C k fI fd ps sp) (g : Quiet X.A) (r : Room (k + 1) X.A) (b : Binds X.K fd ps []) (none_out : Passes C X (fun _ _ _ => False)) (J : Inv X pins σ H1 s1) (v : Vals xs us) (small : xs.length ≤ 1000)
    (q : ∀ a, H1 a = none → sp (.ref a :: (xs ++ [])) (upd H1 a (exo a Cl none)) (EndE Cl a Q) (fun _ _ _ => False)) : wpAny (model X.prog X.w) X.A (call (.ref Cl) us) (EP X pins σ Q) X.xe s1 := by
  obtain ⟨nm, qn, NN, bs, bm, sn, sub, ab, col, dd, k0, k1, k2, k3, k5, isC, isB⟩ := T.cls
  obtain ⟨hp, gn, dr, tk, os⟩ := s1
  have up : hp.objs.size ≤ hp.objs.size + 1 := Nat.le_succ _
  have new : H1 (hp.objs.size + 1) = none := J.hok.fresh up
  have q2 := q _ new
  generalize hG : (hp.push (PySem.W.kdv_tup us)).push (PySem.HandSPX.excO Cl hp.objs.size) = G
  have keep : ∀ c o, hp.get? c = some o → G.get? c = some o := fun c o z => by
    rw [← hG]
    exact Heap.get?_push_of_some _ (Heap.get?_push_of_some _ z)
  have here : G.get? (hp.objs.size + 1) = some (PySem.HandSPX.excO Cl hp.objs.size) := by
    rw [← hG]
    heap_get
  have J2 : Inv X pins σ (upd H1 (hp.objs.size + 1) (exo (hp.objs.size + 1) Cl none)) ⟨G, gn, dr, tk, os⟩ := J.laid (t' := tk) keep up (exo_ok here)
  have v2 : Vals (V.ref (hp.objs.size + 1) :: (xs ++ [])) (Value.ref (hp.objs.size + 1) :: (us ++ [])) := .cons rfl (v.append .nil)
  have n2 : (Value.ref (hp.objs.size + 1) :: us ++ []).length = ps.length := by
    have z := v2.length
    rw [Fn.count _ _ _ _ q2] at z
    exact z.symm
  have short : us.length ≤ sizeLine := by
    have z := v.length
    rw [← z, sizeLine_eq]
    omega
  have bb : BindsTo ⟨G, gn, dr, tk, os⟩ fd ⟨Value.ref (hp.objs.size + 1) :: us, []⟩ (ps.zip (Value.ref (hp.objs.size + 1) :: (us ++ []))) := by
    have z := b ⟨G, gn, dr, tk, os⟩ (Value.ref (hp.objs.size + 1) :: us) J2.kIn n2
    rw [List.cons_append] at z
    exact z
  have ran := Fn.runs _ X.stack _ _ ⟨Value.ref (hp.objs.size + 1) :: us, []⟩ (Value.ref (hp.objs.size + 1) :: (us ++ [])) _ _ (fun _ _ _ => False) (under_quiet g) (r.make Cl us []) (J2.env0.make Cl us []) bb v2 q2
  have isC2 := J.kIn _ _ isC
  subst hG
  refine wpAny_call (PySem.HandSPX.call_own PySem.F.excBase_ValueError (fun Y => PySem.HandSPX.refsVE_contains Y bm isB) isC2 (PySem.W.looks_findIn J.kIn iC) (fun self => PySem.W.bind_fn J.kIn self tI) short (codeAny_mono ran fun a s2 z => ?_))
  match a, z with
  | .error er, z => exact none_out pins σ _ _ er s2 J2 z
  | .ok .next, z => exact z.elim
  | .ok .brk, z => exact z.elim
  | .ok .cont, z => exact z.elim
  | .ok (.ret u), z =>
    obtain ⟨y, H2, J3, rv, ey, z⟩ := J2.after z
    subst ey
    refine ⟨rv, ?_⟩
    rcases z with ⟨d, fs, ea, ed, q3⟩ | ⟨ea, q3⟩
    · exact ⟨.ref _, _, J3.kept_err ea ed, rfl, q3⟩
    · exact ⟨.ref _, _, J3.kept_err0 ea, rfl, q3⟩
theorem pe_er {Cl fI : Addr} (T : OexC X.K Cl) (iC : PySem.W.findIn X.K (.ref Cl) "__init__" = some (some (.ref fI))) (tI : PySem.W.typeIn X.K (.ref fI) = some (.type "function"))
    (Fn : FnG X.prog X.w X.K X.mg X.base C k fI fd ps sp) (g : Quiet X.A) (r : Room (k + 1) X.A) (b : Binds X.K fd ps []) (none_out : Passes C X (fun _ _ _ => False)) (hg : Gl X x) (hm : X.mg x = some (.ref Cl)) (ha : PA X (e :: es) ta)
    (hdb : (x == ("__debug__" : Str)) = false := by decide) (he : starEach (e :: es) X.env = (false, eval e X.env) :: starEach es X.env := by rfl) (hpl : (backTo pos (starEach es X.env)).any (·.1) = false := by rfl) :
    PE X (.Call (.Name x p) (e :: es) [] pos) (fun σ H Q => ta σ H fun vs H1 => vs.length ≤ 1000 ∧ ∀ a, H1 a = none → sp (.ref a :: (vs ++ [])) (upd H1 a (exo a Cl none)) (EndE Cl a Q) (fun _ _ _ => False)) := by
  refine ⟨fun pins s σ H Q I h => ?_⟩
  refine wpAny_Call_Name_kw (ld_glob I hg hm ?_ hdb)
  refine PySem.W.callWith_K (h₀ := X.base) I.ok.mod.kin T.kC (thn (ha.run pos pins s σ H _ I h) fun us s1 z => ?_) he hpl
  obtain ⟨xs, H1, J, v, small, q⟩ := z
  exact ⟨J.kIn, er_core T iC tI Fn g r b none_out J v small q⟩
theorem pe_er0 {Cl fI : Addr} (T : OexC X.K Cl) (iC : PySem.W.findIn X.K (.ref Cl) "__init__" = some (some (.ref fI))) (tI : PySem.W.typeIn X.K (.ref fI) = some (.type "function"))
    (Fn : FnG X.prog X.w X.K X.mg X.base C k fI fd ps sp) (g : Quiet X.A) (r : Room (k + 1) X.A) (b : Binds X.K fd ps []) (none_out : Passes C X (fun _ _ _ => False)) (hg : Gl X x) (hm : X.mg x = some (.ref Cl))
    (hdb : (x == ("__debug__" : Str)) = false := by decide) : PE X (.Call (.Name x p) [] [] pos) (fun σ H Q => ∀ a, H a = none → sp [.ref a] (upd H a (exo a Cl none)) (EndE Cl a Q) (fun _ _ _ => False)) := by
  refine ⟨fun pins s σ H Q I h => ?_⟩
  refine wpAny_Call_Name_kw (ld_glob I hg hm ?_ hdb)
  exact PySem.W.callWith_K0 I.kIn T.kC (er_core (us := []) (xs := []) T iC tI Fn g r b none_out I .nil (by decide) h)
end
end L2

set_option Elab.async false
set_option linter.all false
set_option maxRecDepth 100000
set_option maxHeartbeats 4000000
/-! Own errors made by keywords. -/
namespace PySem
namespace HandSPX
open PySem.W PySem.Calls PyProof.Rows
section
variable {prog : Program} {w : World} {A : Around} {E : Value → Shared → Prop} {R : Result → Shared → Prop} {hp : Heap} {gs : Array GenState} {dr : Drawn} {tk : Nat} {os : OsState}
variable {cn cq : Str} {Cl Nn : Addr} {b1 b2 bB : List Value} {hasD : Bool} {sN : List Str} {sB : List Value} {aB : Bool} {cO : Option Bool} {dD : Option Addr} {z0 z1 z2 z3 z5 : Option Value} {Bs nw ini : String} {kw : List (Str × Value)}
theorem check_newK {M : Model} (Fx : ExcBaseFacts Bs nw ini bB) (same : ∀ Y : String, b2.contains (.type Y) = bB.contains (.type Y)) {us : List Value} {Q : Unit → Shared → Prop}
    (isC : hp.get? Cl = some (excClassObj cn cq Cl Nn b1 b2 hasD sN sB aB cO dD z0 z1 z2 z3 z5 nw)) (q : Q () ⟨hp, gs, dr, tk, os⟩) : wpAny M A (checkBuiltinCall nw ⟨.ref Cl :: us, kw⟩) Q E ⟨hp, gs, dr, tk, os⟩ := by
  have inB : (Value.ref Cl :: b2).contains (.type Bs) = true := by
    rw [List.contains_cons, same, Fx.hasB, Bool.or_true]
  have noS := Fx.noStar
  simp only [checkBuiltinCall, Fx.newKind, Fx.newSplit, Fx.newRow]
  repeat (first | refine wpAny_loadPart_at isC ?_ | (refine wpAny_isSubtype_exc isC ?_; rw [inB]) | refine wpAny_staticBase_exc isC ?_ | refine wpAny_madeBy_exc isC ?_ | simp only [bne_self_eq_false, Bool.false_eq_true, if_false] | wp_step)
  exact q
theorem newK (Fx : ExcBaseFacts Bs nw ini bB) (same : ∀ Y : String, b2.contains (.type Y) = bB.contains (.type Y)) {us : List Value}
    (isC : hp.get? Cl = some (excClassObj cn cq Cl Nn b1 b2 hasD sN sB aB cO dD z0 z1 z2 z3 z5 nw))
    (q : R (.ok (.ret (.ref (hp.objs.size + 1)))) ⟨(hp.push (W.kdv_tup us)).push (excO Cl hp.objs.size), gs, dr, tk, os⟩) (few : us.length ≤ sizeLine) :
    codeAny (model prog w) A (.builtin nw ⟨.ref Cl :: us, kw⟩) R ⟨hp, gs, dr, tk, os⟩ := by
  have en := Fx.ends
  have cB : (Value.ref Cl :: b2).contains (.type Bs) = true := by
    rw [List.contains_cons, same, Fx.hasB, Bool.or_true]
  have cA : (Value.ref Cl :: b2).contains (.type "AttributeError") = false := by
    rw [List.contains_cons, same, Fx.noAttr]
    rfl
  have cN : (Value.ref Cl :: b2).contains (.type "NameError") = false := by
    rw [List.contains_cons, same, Fx.noName]
    rfl
  refine codeAny_builtinAt Fx.entry ?_
  unfold Builtin.«BaseException.__new__»
  refine wpAt_bind ?_
  show wpAt _ _ _ (stack >>= _) _ _ _
  refine wpAt_bind (wpAt_stack fun p below => wpAt_of_wpAny ?_)
  wp_walk
  refine wpAt_of_wpAny ?_
  rw [Fx.owner]
  repeat (first | with_reducible refine wpAny_madeHere_exc Fx.canon isC ?_ | with_reducible refine wpAny_loadPart_at isC ?_ | (with_reducible refine wpAny_isSubtype_exc isC ?_; first | rw [cB] | rw [cA] | rw [cN]) | wp_step)
  show R _ _
  rw [Heap.size_push]
  exact q
theorem type_callK (Fx : ExcBaseFacts Bs nw ini bB) (same : ∀ Y : String, b2.contains (.type Y) = bB.contains (.type Y)) {us : List Value} {fI : Addr} {Q : Fin → Shared → Prop}
    (isC : hp.get? Cl = some (excClassObj cn cq Cl Nn b1 b2 hasD sN sB aB cO dD z0 z1 z2 z3 z5 nw))
    (isI : W.Looks (model prog w) hp (typeLookup (.ref Cl) "__init__") (some (.ref fI))) (bd : ∀ self, W.Looks (model prog w) hp (bindSpecial (.ref fI) self) (.ref fI, [self])) (few : us.length ≤ sizeLine)
    (q : codeAny (model prog w) A (.call (.ref fI) ⟨.ref (hp.objs.size + 1) :: us, kw⟩)
      (fun a s2 => match a with | .ok (.ret v) => v = .none ∧ Q (.done (.ret (.ref (hp.objs.size + 1)))) s2 | .ok _ => False | .error e => E e s2)
      ⟨(hp.push (W.kdv_tup us)).push (excO Cl hp.objs.size), gs, dr, tk, os⟩) :
    wpAny (model prog w) A (Builtin.«type.__call__» ⟨.ref Cl :: us, kw⟩) Q E ⟨hp, gs, dr, tk, os⟩ := by
  repeat (first | with_reducible refine wpAny_loadPart_at isC ?_ | with_reducible refine wpAny_madeBy_exc isC ?_ | wp_step)
  refine codeAny_call_builtin_code (Code.quiet_builtin _ Fx.quiet) (check_newK Fx same isC ?_)
  refine newK Fx same isC ?_ few
  show wpAny _ _ _ _ _ _
  have up : ∀ c o, hp.get? c = some o → ((hp.push (W.kdv_tup us)).push (excO Cl hp.objs.size)).get? c = some o := fun c o z => Heap.get?_push_of_some _ (Heap.get?_push_of_some _ z)
  have isC2 := up _ _ isC
  have here : ((hp.push (W.kdv_tup us)).push (excO Cl hp.objs.size)).get? (hp.objs.size + 1) = some (excO Cl hp.objs.size) := by heap_get
  have own : (Value.ref Cl :: b2).contains (.ref Cl) = true := by simp
  have i2 := isI.keeps up
  have bd2 := (bd (.ref (hp.objs.size + 1))).keeps up
  unfold isInstance
  repeat (first | with_reducible refine wpAny_loadPart_at here ?_ | (with_reducible refine wpAny_isSubtype_exc isC2 ?_; rw [own]) | wp_step)
  show wpAny _ _ (typeLookup (.ref Cl) _) _ _ _
  refine i2.at ?_
  refine wpAny_holding (wpAny_bind (bd2.at ?_))
  refine wpAny_bind (wpAny_call (codeAny_mono q fun a s2 z => ?_))
  rcases a with e | (v | _ | _ | _) <;> first | exact z | exact z.elim | skip
  obtain ⟨rfl, z⟩ := z
  first
    | exact wpAny_pure (wpAny_pure z)
    | (wp_walk; exact z)
theorem call_ownK (Fx : ExcBaseFacts Bs nw ini bB) (same : ∀ Y : String, b2.contains (.type Y) = bB.contains (.type Y)) {us : List Value} {fI : Addr}
    (isC : hp.get? Cl = some (excClassObj cn cq Cl Nn b1 b2 hasD sN sB aB cO dD z0 z1 z2 z3 z5 nw))
    (isI : W.Looks (model prog w) hp (typeLookup (.ref Cl) "__init__") (some (.ref fI))) (bd : ∀ self, W.Looks (model prog w) hp (bindSpecial (.ref fI) self) (.ref fI, [self])) (few : us.length ≤ sizeLine)
    (q : codeAny (model prog w) (A.under (.builtin "type.__call__" ⟨.ref Cl :: us, kw⟩)) (.call (.ref fI) ⟨.ref (hp.objs.size + 1) :: us, kw⟩) (W.InitBack (hp.objs.size + 1) R)
      ⟨(hp.push (W.kdv_tup us)).push (excO Cl hp.objs.size), gs, dr, tk, os⟩) :
    codeAny (model prog w) A (.call (.ref Cl) ⟨us, kw⟩) R ⟨hp, gs, dr, tk, os⟩ := by
  have f1 := tc_lookup
  have f2 := tc_bind (.ref Cl)
  have ty : (⟨hp, gs, dr, tk, os⟩ : Shared).TypeIs (.ref Cl) "type" := ⟨_, isC, rfl⟩
  refine codeAny_of_tree ?_
  show wpAny _ _ (callAny (.ref Cl) _) _ _ _
  repeat (any_goals (first | assumption | with_reducible refine wpAny_loadPart_at isC ?_ | wp_step))
  refine ⟨rfl, ?_⟩
  refine codeAny_call_builtin_at (Code.quiet_builtin _ (by decide +kernel)) entry_typeCall (wpAny_check_type_call_sub isC (type_callK Fx same isC isI bd few ?_))
  refine codeAny_mono q fun a s2 z => ?_
  rcases a with e | (v | _ | _ | _) <;> exact z
end
end HandSPX
end PySem

namespace L2
open PySem PySem.Spec PyProof.Rows
section
variable {X : Cx} {C : CXT} {k j : Nat} {fd : FuncData} {ps : List Str} {sp : Sp} {x : Str} {p pos : Pos} {kws : List Keyword} {tk : TA}
theorem under_quietK {A : Around} {Cl : Addr} {us : List Value} {kw : List (Str × Value)} (g : Quiet A) : Quiet (A.under (.builtin "type.__call__" ⟨.ref Cl :: us, kw⟩)) := under_quiet g
theorem er_coreK {Cl fI : Addr} {pins : List (Addr × Obj)} {σ : St} {H1 : Hp} {s1 : Shared} {Q : VK} {ws : List Value} {zs : List V} {ks : List Str} {gU : List Value → List Value → List Value} {gV : List V → List V → List V} (T : OexC X.K Cl) (iC : PySem.W.findIn X.K (.ref Cl) "__init__" = some (some (.ref fI))) (tI : PySem.W.typeIn X.K (.ref fI) = some (.type "function"))
    (Fn : FnG X.prog X.w X.K X.mg X.base C k fI fd ps sp) (g : Quiet X.A) (r : Room (k + 1) X.A) (b : KBn X.K fd ps 1 ks gU gV) (none_out : Passes C X (fun _ _ _ => False)) (J : Inv X pins σ H1 s1) (v : Vals zs ws) (many : zs.length = ks.length)
    (q : ∀ a, H1 a = none → sp (gV [.ref a] zs) (upd H1 a (exo a Cl none)) (EndE Cl a Q) (fun _ _ _ => False)) : wpAny (model X.prog X.w) X.A (call (.ref Cl) [] (ks.zip ws)) (EP X pins σ Q) X.xe s1 := by
  obtain ⟨nm, qn, NN, bs, bm, sn, sub, ab, col, dd, k0, k1, k2, k3, k5, isC, isB⟩ := T.cls
  obtain ⟨hp, gn, dr, tk, os⟩ := s1
  have up : hp.objs.size ≤ hp.objs.size + 1 := Nat.le_succ _
  have new : H1 (hp.objs.size + 1) = none := J.hok.fresh up
  have q2 := q _ new
  generalize hG : (hp.push (PySem.W.kdv_tup [])).push (PySem.HandSPX.excO Cl hp.objs.size) = G
  have keep : ∀ c o, hp.get? c = some o → G.get? c = some o := fun c o z => by
    rw [← hG]
    exact Heap.get?_push_of_some _ (Heap.get?_push_of_some _ z)
  have here : G.get? (hp.objs.size + 1) = some (PySem.HandSPX.excO Cl hp.objs.size) := by
    rw [← hG]
    heap_get
  have J2 : Inv X pins σ (upd H1 (hp.objs.size + 1) (exo (hp.objs.size + 1) Cl none)) ⟨G, gn, dr, tk, os⟩ := J.laid (t' := tk) keep up (exo_ok here)
  have v2 := b.rel (vs := [V.ref (hp.objs.size + 1)]) (us := [Value.ref (hp.objs.size + 1)]) (.cons rfl .nil) v
  have bb := b.to ⟨G, gn, dr, tk, os⟩ [Value.ref (hp.objs.size + 1)] ws J2.kIn rfl (v.length.symm.trans many)
  have ran := Fn.runs _ X.stack _ _ ⟨[Value.ref (hp.objs.size + 1)], ks.zip ws⟩ (gU [Value.ref (hp.objs.size + 1)] ws) _ _ (fun _ _ _ => False) (under_quiet g) (r.make Cl [] (ks.zip ws)) (J2.env0.make Cl [] (ks.zip ws)) bb v2 q2
  have isC2 := J.kIn _ _ isC
  subst hG
  refine wpAny_call (PySem.HandSPX.call_ownK PySem.F.excBase_ValueError (fun Y => PySem.HandSPX.refsVE_contains Y bm isB) isC2 (PySem.W.looks_findIn J.kIn iC) (fun self => PySem.W.bind_fn J.kIn self tI) (Nat.zero_le _) (codeAny_mono ran fun a s2 z => ?_))
  match a, z with
  | .error er, z => exact none_out pins σ _ _ er s2 J2 z
  | .ok .next, z => exact z.elim
  | .ok .brk, z => exact z.elim
  | .ok .cont, z => exact z.elim
  | .ok (.ret u), z =>
    obtain ⟨y, H2, J3, rv, ey, z⟩ := J2.after z
    subst ey
    refine ⟨rv, ?_⟩
    rcases z with ⟨d, fs, ea, ed, q3⟩ | ⟨ea, q3⟩
    · exact ⟨.ref _, _, J3.kept_err ea ed, rfl, q3⟩
    · exact ⟨.ref _, _, J3.kept_err0 ea, rfl, q3⟩
theorem pe_erK {Cl fI : Addr} {ks : List Str} {gU : List Value → List Value → List Value} {gV : List V → List V → List V} (T : OexC X.K Cl) (iC : PySem.W.findIn X.K (.ref Cl) "__init__" = some (some (.ref fI))) (tI : PySem.W.typeIn X.K (.ref fI) = some (.type "function"))
    (Fn : FnG X.prog X.w X.K X.mg X.base C k fI fd ps sp) (g : Quiet X.A) (r : Room (k + 1) X.A) (b : KBn X.K fd ps 1 ks gU gV) (none_out : Passes C X (fun _ _ _ => False)) (hg : Gl X x) (hm : X.mg x = some (.ref Cl)) (hkw : PK X kws tk)
    (hall : (backToKw pos (keywordEach kws X.env)).all (·.1.isSome) = true := by rfl) (hks : (backToKw pos (keywordEach kws X.env)).filterMap (·.1) = ks := by rfl) (hdb : (x == ("__debug__" : Str)) = false := by decide)
    (hpl : ((backTo pos (starEach [] X.env)).any (·.1) || (backToKw pos (keywordEach kws X.env)).any (·.1.isNone)) = false := by rfl) :
    PE X (.Call (.Name x p) [] kws pos) (fun σ H Q => tk σ H fun zs H1 => zs.length = ks.length ∧ ∀ a, H1 a = none → sp (gV [.ref a] zs) (upd H1 a (exo a Cl none)) (EndE Cl a Q) (fun _ _ _ => False)) := by
  refine ⟨fun pins s σ H Q I h => ?_⟩
  refine wpAny_Call_Name_kw (ld_glob I hg hm ?_ hdb)
  refine PySem.W.callWith_KW0 (h₀ := X.base) I.ok.mod.kin T.kC hall ?_ hpl
  refine thn (hkw.run pos pins s σ H _ I h) fun ws s2 ⟨zs, H2, I2, rz, l2, q2⟩ => ⟨I2.kIn, ?_⟩
  rw [hks]
  exact er_coreK T iC tI Fn g r b none_out I2 rz l2 q2
end
end L2

set_option Elab.async false
set_option linter.all false
set_option maxRecDepth 100000
set_option maxHeartbeats 8000000
/-! The errors filled. -/
namespace V8
open PySem PySem.Spec PyProof.Rows L2
abbrev s_BadLetter_init : Stmt := inClass (topS 5) 0
abbrev n_BadLetter_init : List Str := ["self", "value"]
theorem sc_BadLetter_init : FnScope ["self", "value"] ["self", "value"] (defScope s_BadLetter_init) := ⟨rfl, rfl, rfl, by decide +kernel, rfl, by decide +kernel, by decide +kernel⟩
abbrev s_BadWord_init : Stmt := inClass (topS 6) 0
abbrev n_BadWord_init : List Str := ["self", "value"]
theorem sc_BadWord_init : FnScope ["self", "value"] ["self", "value"] (defScope s_BadWord_init) := ⟨rfl, rfl, rfl, by decide +kernel, rfl, by decide +kernel, by decide +kernel⟩
abbrev s_BadImage_init : Stmt := inClass (topS 7) 0
abbrev n_BadImage_init : List Str := ["self", "letter"]
theorem sc_BadImage_init : FnScope ["self", "letter"] ["self", "letter"] (defScope s_BadImage_init) := ⟨rfl, rfl, rfl, by decide +kernel, rfl, by decide +kernel, by decide +kernel⟩
abbrev s_BadNumber_init : Stmt := inClass (topS 8) 0
abbrev n_BadNumber_init : List Str := ["self", "value"]
theorem sc_BadNumber_init : FnScope ["self", "value"] ["self", "value"] (defScope s_BadNumber_init) := ⟨rfl, rfl, rfl, by decide +kernel, rfl, by decide +kernel, by decide +kernel⟩
abbrev s_BadTable_init : Stmt := inClass (topS 9) 0
abbrev n_BadTable_init : List Str := ["self", "part"]
theorem sc_BadTable_init : FnScope ["self", "part"] ["self", "part"] (defScope s_BadTable_init) := ⟨rfl, rfl, rfl, by decide +kernel, rfl, by decide +kernel, by decide +kernel⟩
abbrev s_Barred_init : Stmt := inClass (topS 10) 0
abbrev n_Barred_init : List Str := ["self", "at"]
theorem sc_Barred_init : FnScope ["self", "at"] ["self", "at"] (defScope s_Barred_init) := ⟨rfl, rfl, rfl, by decide +kernel, rfl, by decide +kernel, by decide +kernel⟩
abbrev s_Unlike_init : Stmt := inClass (topS 11) 0
abbrev n_Unlike_init : List Str := ["self", "letter"]
theorem sc_Unlike_init : FnScope ["self", "letter"] ["self", "letter"] (defScope s_Unlike_init) := ⟨rfl, rfl, rfl, by decide +kernel, rfl, by decide +kernel, by decide +kernel⟩
abbrev s_TooMany_init : Stmt := inClass (topS 12) 0
abbrev n_TooMany_init : List Str := ["self", "what", "most"]
theorem sc_TooMany_init : FnScope ["self", "what", "most"] ["self", "what", "most"] (defScope s_TooMany_init) := ⟨rfl, rfl, rfl, by decide +kernel, rfl, by decide +kernel, by decide +kernel⟩
abbrev s_BadText_init : Stmt := inClass (topS 13) 0
abbrev n_BadText_init : List Str := ["self", "line", "word"]
theorem sc_BadText_init : FnScope ["self", "line", "word"] ["self", "line", "word"] (defScope s_BadText_init) := ⟨rfl, rfl, rfl, by decide +kernel, rfl, by decide +kernel, by decide +kernel⟩
theorem len_app (a b : Str) : (a ++ b).length = a.length + b.length := strLen_append a b
/-- the base of the errors, by its name -/
structure Tb (K : PySem.W.Frag) (mg : Str → Option Value) (CE : Addr) : Prop where
  bE : mg "RepairError" = some (.ref CE)
  bR : ClX.CRead K CE (.type "type")
  bV : PySem.W.findCls K (.ref CE) (.type "type") "__init__" = some (.val (.builtin "ValueError.__init__"))
/-- a thing told to an error -/
structure Th1 (H : Hp) (x : V) (d : PyData) : Prop where
  tl : Told2 H x
  pw : PyW H x d
  te : Tells d
  sz : d.shown.length ≤ 3000
  dp : d.depth ≤ 1
theorem Told2.but {H H2 : Hp} {a : Addr} {x : V} {f : Heap → Prop} (t : Told2 H x) (s : ∀ b o, H b = some o → b ≠ a → H2 b = some o) (ha : H a = some (.ext f)) : Told2 H2 x := by
  have st : ∀ {b : Addr} {o : HO}, H b = some o → (∀ f, o ≠ .ext f) → H2 b = some o := fun {b o} e n => s b o e fun z => by
    rw [z, ha] at e
    exact n _ (Option.some.inj e).symm
  rcases t with f | ⟨b, xs, e, h, l, g⟩ | ⟨b, kvs, e, h, l, n, g⟩
  · exact .inl f
  · exact .inr (.inl ⟨b, xs, e, h.imp (fun h => st h fun _ z => nomatch z) (fun h => st h fun _ z => nomatch z), l, g⟩)
  · exact .inr (.inr ⟨b, kvs, e, st h (fun _ z => nomatch z), l, n, g⟩)
theorem Th1.same {H H2 : Hp} {x : V} {d : PyData} (t : Th1 H x d) (s : Same H H2) : Th1 H2 x d := ⟨t.tl.same s, t.pw.same s, t.te, t.sz, t.dp⟩
theorem Th1.but {H H2 : Hp} {a : Addr} {x : V} {d : PyData} {f : Heap → Prop} (t : Th1 H x d) (s : ∀ b o, H b = some o → b ≠ a → H2 b = some o) (ha : H a = some (.ext f)) : Th1 H2 x d := ⟨t.tl.but s ha, t.pw.but s ha, t.te, t.sz, t.dp⟩
def spErrW (K : PySem.W.Frag) (C : Addr) (fld : Str) : Sp := fun vs H Q _ => ∃ (a : Addr) (x : V) (d : PyData), vs = [.ref a, x] ∧ H a = some (exo a C none) ∧ OexC K C ∧ PySem.W.findIn K (.ref C) fld = some none ∧ Th1 H x d ∧
  ∀ y dx H1, Same H H1 → PyW H1 y d → H1 dx = none → dx ≠ a → Q .non (upd (upd H1 dx (exd dx [(fld, y)])) a (exo a C (some dx)))
def spErrW2 (K : PySem.W.Frag) (C : Addr) (f1 f2 : Str) : Sp := fun vs H Q _ => ∃ (a : Addr) (x1 x2 : V) (d1 d2 : PyData), vs = [.ref a, x1, x2] ∧ H a = some (exo a C none) ∧ OexC K C ∧ PySem.W.findIn K (.ref C) f1 = some none ∧ PySem.W.findIn K (.ref C) f2 = some none ∧ Th1 H x1 d1 ∧ Th1 H x2 d2 ∧
  ∀ y1 y2 dx H2, (∀ b o, H b = some o → b ≠ a → H2 b = some o) → PyW H2 y1 d1 → PyW H2 y2 d2 → H dx = none → dx ≠ a → H2 dx = some (exd dx [(f1, y1)]) → H2 a = some (exo a C (some dx)) → Q .non (upd H2 dx (exd dx [(f2, y2), (f1, y1)]))
def spErrW0 (K : PySem.W.Frag) (C : Addr) : Sp := fun vs H Q _ => ∃ a : Addr, vs = [.ref a] ∧ H a = some (exo a C none) ∧ OexC K C ∧ Q .non H
theorem two_at {H H1 : Hp} {a dx : Addr} {o1 o2 : HO} (s : Same H H1) (n : H1 dx = none) : ∀ b o, H b = some o → b ≠ a → upd (upd H1 dx o1) a o2 b = some o := fun b o e nb => by
  rw [upd_ne nb, upd_ne (ne_of_none (s _ _ e) n)]
  exact s _ _ e
section
variable {P : Program} {w : World} {K : PySem.W.Frag} {mg : Str → Option Value} {base : Heap} {CE C : Addr}
theorem ok_BadLetter {f : Addr} {fd : FuncData} (F : Fun K "__init__" "BadLetter.__init__" s_BadLetter_init f fd) (T : Tb K mg CE) (sys : SysIn base) (D_copied : Df P w K mg base 2 "copied" spCopyW) : FnG P w K mg base CX0 3 f fd ["self", "value"] (spErrW K C "value") := by
  refine F.okG sc_BadLetter_init (fun vs H Q E h => ?_) (fun cdv A outer s H vs Q E quiet hr h => ?_)
  · obtain ⟨a, x, d, rfl, _⟩ := h
    rfl
  · obtain ⟨a, x1, d1, rfl, ha, oc, no, t1, q⟩ := h
    refine ⟨_, (pss_cons (ps_expr (pe_baseinit (by rfl) T.bE T.bR T.bV (pa_cons (pv 0) (pa_cons (pe_joinedT (pj_cons (pe_fmtW sys quiet hr (pv 1)) (pj_cons pe_str pj_nil))) pa_nil))))
      (pss_one (ps_ost (pv 0) (pe_c D_copied hr (by decide) (by rfl) (pa_cons (pv 1) pa_nil)) rfl))), ?_⟩
    have z1 := t1.sz
    have h0 : (" is no letter" : Str).length ≤ 1000 := by decide +kernel
    have he : Str.empty.length ≤ 1000 := by decide +kernel
    refine ⟨_, rfl, _, rfl, d1, t1.pw, t1.te, d1.shown, rfl, ?_, _, rfl, ?_, a, C, _, rfl, (by show 1 ≤ 1000; decide), oc, ha, ?_⟩
    · simp only [len_app, sizeLine_eq]
      try simp only [len_app] at *
      omega
    · simp only [len_app, sizeLine_eq]
      try simp only [len_app] at *
      omega
    · exact ⟨_, rfl, x1, d1, rfl, t1.tl, t1.pw, fun y H1 s1 p1 => ⟨_, rfl, a, C, rfl, oc, no, .inl ⟨s1 _ _ ha, fun dx n ne => q y dx H1 s1 p1 n ne⟩⟩⟩
theorem ok_BadWord {f : Addr} {fd : FuncData} (F : Fun K "__init__" "BadWord.__init__" s_BadWord_init f fd) (T : Tb K mg CE) (sys : SysIn base) (D_copied : Df P w K mg base 2 "copied" spCopyW) : FnG P w K mg base CX0 3 f fd ["self", "value"] (spErrW K C "value") := by
  refine F.okG sc_BadWord_init (fun vs H Q E h => ?_) (fun cdv A outer s H vs Q E quiet hr h => ?_)
  · obtain ⟨a, x, d, rfl, _⟩ := h
    rfl
  · obtain ⟨a, x1, d1, rfl, ha, oc, no, t1, q⟩ := h
    refine ⟨_, (pss_cons (ps_expr (pe_baseinit (by rfl) T.bE T.bR T.bV (pa_cons (pv 0) (pa_cons (pe_joinedT (pj_cons (pe_fmtW sys quiet hr (pv 1)) (pj_cons pe_str pj_nil))) pa_nil))))
      (pss_one (ps_ost (pv 0) (pe_c D_copied hr (by decide) (by rfl) (pa_cons (pv 1) pa_nil)) rfl))), ?_⟩
    have z1 := t1.sz
    have h0 : (" is no text that can stand here" : Str).length ≤ 1000 := by decide +kernel
    have he : Str.empty.length ≤ 1000 := by decide +kernel
    refine ⟨_, rfl, _, rfl, d1, t1.pw, t1.te, d1.shown, rfl, ?_, _, rfl, ?_, a, C, _, rfl, (by show 1 ≤ 1000; decide), oc, ha, ?_⟩
    · simp only [len_app, sizeLine_eq]
      try simp only [len_app] at *
      omega
    · simp only [len_app, sizeLine_eq]
      try simp only [len_app] at *
      omega
    · exact ⟨_, rfl, x1, d1, rfl, t1.tl, t1.pw, fun y H1 s1 p1 => ⟨_, rfl, a, C, rfl, oc, no, .inl ⟨s1 _ _ ha, fun dx n ne => q y dx H1 s1 p1 n ne⟩⟩⟩
theorem ok_BadImage {f : Addr} {fd : FuncData} (F : Fun K "__init__" "BadImage.__init__" s_BadImage_init f fd) (T : Tb K mg CE) (sys : SysIn base) (D_copied : Df P w K mg base 2 "copied" spCopyW) : FnG P w K mg base CX0 3 f fd ["self", "letter"] (spErrW K C "letter") := by
  refine F.okG sc_BadImage_init (fun vs H Q E h => ?_) (fun cdv A outer s H vs Q E quiet hr h => ?_)
  · obtain ⟨a, x, d, rfl, _⟩ := h
    rfl
  · obtain ⟨a, x1, d1, rfl, ha, oc, no, t1, q⟩ := h
    refine ⟨_, (pss_cons (ps_expr (pe_baseinit (by rfl) T.bE T.bR T.bV (pa_cons (pv 0) (pa_cons (pe_joinedT (pj_cons pe_str (pj_cons (pe_fmtW sys quiet hr (pv 1)) (pj_cons pe_str pj_nil)))) pa_nil))))
      (pss_one (ps_ost (pv 0) (pe_c D_copied hr (by decide) (by rfl) (pa_cons (pv 1) pa_nil)) rfl))), ?_⟩
    have z1 := t1.sz
    have h0 : (Str.empty ++ ("the image of " : Str)).length ≤ 1000 := by decide +kernel
    have h1 : (" cannot stand here" : Str).length ≤ 1000 := by decide +kernel
    refine ⟨_, rfl, _, rfl, ?_, _, rfl, d1, t1.pw, t1.te, d1.shown, rfl, ?_, _, rfl, ?_, a, C, _, rfl, (by show 1 ≤ 1000; decide), oc, ha, ?_⟩
    · simp only [len_app, sizeLine_eq]
      try simp only [len_app] at *
      omega
    · simp only [len_app, sizeLine_eq]
      try simp only [len_app] at *
      omega
    · simp only [len_app, sizeLine_eq]
      try simp only [len_app] at *
      omega
    · exact ⟨_, rfl, x1, d1, rfl, t1.tl, t1.pw, fun y H1 s1 p1 => ⟨_, rfl, a, C, rfl, oc, no, .inl ⟨s1 _ _ ha, fun dx n ne => q y dx H1 s1 p1 n ne⟩⟩⟩
theorem ok_BadNumber {f : Addr} {fd : FuncData} (F : Fun K "__init__" "BadNumber.__init__" s_BadNumber_init f fd) (T : Tb K mg CE) (sys : SysIn base) (D_copied : Df P w K mg base 2 "copied" spCopyW) : FnG P w K mg base CX0 3 f fd ["self", "value"] (spErrW K C "value") := by
  refine F.okG sc_BadNumber_init (fun vs H Q E h => ?_) (fun cdv A outer s H vs Q E quiet hr h => ?_)
  · obtain ⟨a, x, d, rfl, _⟩ := h
    rfl
  · obtain ⟨a, x1, d1, rfl, ha, oc, no, t1, q⟩ := h
    refine ⟨_, (pss_cons (ps_expr (pe_baseinit (by rfl) T.bE T.bR T.bV (pa_cons (pv 0) (pa_cons (pe_joinedT (pj_cons (pe_fmtW sys quiet hr (pv 1)) (pj_cons pe_str pj_nil))) pa_nil))))
      (pss_one (ps_ost (pv 0) (pe_c D_copied hr (by decide) (by rfl) (pa_cons (pv 1) pa_nil)) rfl))), ?_⟩
    have z1 := t1.sz
    have h0 : (" is no number that can stand here" : Str).length ≤ 1000 := by decide +kernel
    have he : Str.empty.length ≤ 1000 := by decide +kernel
    refine ⟨_, rfl, _, rfl, d1, t1.pw, t1.te, d1.shown, rfl, ?_, _, rfl, ?_, a, C, _, rfl, (by show 1 ≤ 1000; decide), oc, ha, ?_⟩
    · simp only [len_app, sizeLine_eq]
      try simp only [len_app] at *
      omega
    · simp only [len_app, sizeLine_eq]
      try simp only [len_app] at *
      omega
    · exact ⟨_, rfl, x1, d1, rfl, t1.tl, t1.pw, fun y H1 s1 p1 => ⟨_, rfl, a, C, rfl, oc, no, .inl ⟨s1 _ _ ha, fun dx n ne => q y dx H1 s1 p1 n ne⟩⟩⟩
theorem ok_BadTable {f : Addr} {fd : FuncData} (F : Fun K "__init__" "BadTable.__init__" s_BadTable_init f fd) (T : Tb K mg CE) (sys : SysIn base) (D_copied : Df P w K mg base 2 "copied" spCopyW) : FnG P w K mg base CX0 3 f fd ["self", "part"] (spErrW K C "part") := by
  refine F.okG sc_BadTable_init (fun vs H Q E h => ?_) (fun cdv A outer s H vs Q E quiet hr h => ?_)
  · obtain ⟨a, x, d, rfl, _⟩ := h
    rfl
  · obtain ⟨a, x1, d1, rfl, ha, oc, no, t1, q⟩ := h
    refine ⟨_, (pss_cons (ps_expr (pe_baseinit (by rfl) T.bE T.bR T.bV (pa_cons (pv 0) (pa_cons (pe_joinedT (pj_cons (pe_fmtW sys quiet hr (pv 1)) (pj_cons pe_str pj_nil))) pa_nil))))
      (pss_one (ps_ost (pv 0) (pe_c D_copied hr (by decide) (by rfl) (pa_cons (pv 1) pa_nil)) rfl))), ?_⟩
    have z1 := t1.sz
    have h0 : (" is not of the kind that it should be" : Str).length ≤ 1000 := by decide +kernel
    have he : Str.empty.length ≤ 1000 := by decide +kernel
    refine ⟨_, rfl, _, rfl, d1, t1.pw, t1.te, d1.shown, rfl, ?_, _, rfl, ?_, a, C, _, rfl, (by show 1 ≤ 1000; decide), oc, ha, ?_⟩
    · simp only [len_app, sizeLine_eq]
      try simp only [len_app] at *
      omega
    · simp only [len_app, sizeLine_eq]
      try simp only [len_app] at *
      omega
    · exact ⟨_, rfl, x1, d1, rfl, t1.tl, t1.pw, fun y H1 s1 p1 => ⟨_, rfl, a, C, rfl, oc, no, .inl ⟨s1 _ _ ha, fun dx n ne => q y dx H1 s1 p1 n ne⟩⟩⟩
theorem ok_Barred {f : Addr} {fd : FuncData} (F : Fun K "__init__" "Barred.__init__" s_Barred_init f fd) (T : Tb K mg CE) (sys : SysIn base) (D_copied : Df P w K mg base 2 "copied" spCopyW) : FnG P w K mg base CX0 3 f fd ["self", "at"] (spErrW K C "at") := by
  refine F.okG sc_Barred_init (fun vs H Q E h => ?_) (fun cdv A outer s H vs Q E quiet hr h => ?_)
  · obtain ⟨a, x, d, rfl, _⟩ := h
    rfl
  · obtain ⟨a, x1, d1, rfl, ha, oc, no, t1, q⟩ := h
    refine ⟨_, (pss_cons (ps_expr (pe_baseinit (by rfl) T.bE T.bR T.bV (pa_cons (pv 0) (pa_cons (pe_joinedT (pj_cons pe_str (pj_cons (pe_fmtW sys quiet hr (pv 1)) pj_nil))) pa_nil))))
      (pss_one (ps_ost (pv 0) (pe_c D_copied hr (by decide) (by rfl) (pa_cons (pv 1) pa_nil)) rfl))), ?_⟩
    have z1 := t1.sz
    have h0 : (Str.empty ++ ("the misreading cannot happen, because of what stands at " : Str)).length ≤ 1000 := by decide +kernel
    refine ⟨_, rfl, _, rfl, ?_, _, rfl, d1, t1.pw, t1.te, d1.shown, rfl, ?_, a, C, _, rfl, (by show 1 ≤ 1000; decide), oc, ha, ?_⟩
    · simp only [len_app, sizeLine_eq]
      try simp only [len_app] at *
      omega
    · simp only [len_app, sizeLine_eq]
      try simp only [len_app] at *
      omega
    · exact ⟨_, rfl, x1, d1, rfl, t1.tl, t1.pw, fun y H1 s1 p1 => ⟨_, rfl, a, C, rfl, oc, no, .inl ⟨s1 _ _ ha, fun dx n ne => q y dx H1 s1 p1 n ne⟩⟩⟩
theorem ok_Unlike {f : Addr} {fd : FuncData} (F : Fun K "__init__" "Unlike.__init__" s_Unlike_init f fd) (T : Tb K mg CE) (sys : SysIn base) (D_copied : Df P w K mg base 2 "copied" spCopyW) : FnG P w K mg base CX0 3 f fd ["self", "letter"] (spErrW K C "letter") := by
  refine F.okG sc_Unlike_init (fun vs H Q E h => ?_) (fun cdv A outer s H vs Q E quiet hr h => ?_)
  · obtain ⟨a, x, d, rfl, _⟩ := h
    rfl
  · obtain ⟨a, x1, d1, rfl, ha, oc, no, t1, q⟩ := h
    refine ⟨_, (pss_cons (ps_expr (pe_baseinit (by rfl) T.bE T.bR T.bV (pa_cons (pv 0) (pa_cons (pe_joinedT (pj_cons (pe_fmtW sys quiet hr (pv 1)) (pj_cons pe_str pj_nil))) pa_nil))))
      (pss_one (ps_ost (pv 0) (pe_c D_copied hr (by decide) (by rfl) (pa_cons (pv 1) pa_nil)) rfl))), ?_⟩
    have z1 := t1.sz
    have h0 : (" is told in two unlike ways" : Str).length ≤ 1000 := by decide +kernel
    have he : Str.empty.length ≤ 1000 := by decide +kernel
    refine ⟨_, rfl, _, rfl, d1, t1.pw, t1.te, d1.shown, rfl, ?_, _, rfl, ?_, a, C, _, rfl, (by show 1 ≤ 1000; decide), oc, ha, ?_⟩
    · simp only [len_app, sizeLine_eq]
      try simp only [len_app] at *
      omega
    · simp only [len_app, sizeLine_eq]
      try simp only [len_app] at *
      omega
    · exact ⟨_, rfl, x1, d1, rfl, t1.tl, t1.pw, fun y H1 s1 p1 => ⟨_, rfl, a, C, rfl, oc, no, .inl ⟨s1 _ _ ha, fun dx n ne => q y dx H1 s1 p1 n ne⟩⟩⟩
theorem ok_TooMany {f : Addr} {fd : FuncData} (F : Fun K "__init__" "TooMany.__init__" s_TooMany_init f fd) (T : Tb K mg CE) (sys : SysIn base) (D_copied : Df P w K mg base 2 "copied" spCopyW) : FnG P w K mg base CX0 3 f fd ["self", "what", "most"] (spErrW2 K C "what" "most") := by
  refine F.okG sc_TooMany_init (fun vs H Q E h => ?_) (fun cdv A outer s H vs Q E quiet hr h => ?_)
  · obtain ⟨a, x1, x2, d1, d2, rfl, _⟩ := h
    rfl
  · obtain ⟨a, x1, x2, d1, d2, rfl, ha, oc, n1, n2, t1, t2, q⟩ := h
    refine ⟨_, (pss_cons (ps_expr (pe_baseinit (by rfl) T.bE T.bR T.bV (pa_cons (pv 0) (pa_cons (pe_joinedT (pj_cons pe_str (pj_cons (pe_fmtW sys quiet hr (pv 1)) (pj_cons pe_str (pj_cons (pe_fmtW sys quiet hr (pv 2)) pj_nil))))) pa_nil))))
      (pss_cons (ps_ost (pv 0) (pe_c D_copied hr (by decide) (by rfl) (pa_cons (pv 1) pa_nil)) rfl)
      (pss_one (ps_ost (pv 0) (pe_c D_copied hr (by decide) (by rfl) (pa_cons (pv 2) pa_nil)) rfl)))), ?_⟩
    have z1 := t1.sz
    have z2 := t2.sz
    have h0 : (Str.empty ++ ("too many: " : Str)).length ≤ 1000 := by decide +kernel
    have h1 : (", of which there can be " : Str).length ≤ 1000 := by decide +kernel
    refine ⟨_, rfl, _, rfl, ?_, _, rfl, d1, t1.pw, t1.te, d1.shown, rfl, ?_, _, rfl, ?_, _, rfl, d2, t2.pw, t2.te, d2.shown, rfl, ?_, a, C, _, rfl, (by show 1 ≤ 1000; decide), oc, ha, ?_⟩
    · simp only [len_app, sizeLine_eq]
      try simp only [len_app] at *
      omega
    · simp only [len_app, sizeLine_eq]
      try simp only [len_app] at *
      omega
    · simp only [len_app, sizeLine_eq]
      try simp only [len_app] at *
      omega
    · simp only [len_app, sizeLine_eq]
      try simp only [len_app] at *
      omega
    · refine ⟨_, rfl, x1, d1, rfl, t1.tl, t1.pw, fun y1 H1 s1 p1 => ⟨_, rfl, a, C, rfl, oc, n1, .inl ⟨s1 _ _ ha, fun dx n ne => ?_⟩⟩⟩
      have tt := two_at (a := a) (o1 := exd dx [("what", y1)]) (o2 := exo a C (some dx)) s1 n
      have t2' := t2.but tt ha
      have p1' := p1.but (H2 := upd (upd H1 dx (exd dx [("what", y1)])) a (exo a C (some dx))) (two_at (Same.refl H1) n) (s1 _ _ ha)
      refine ⟨_, rfl, x2, d2, rfl, t2'.tl, t2'.pw, fun y2 H2 s2 p2 => ⟨_, rfl, a, C, rfl, oc, n2, .inr ⟨dx, [("what", y1)], s2 _ _ upd_same, s2 _ _ (by rw [upd_ne ne]; exact upd_same), (by show 1 ≤ 900; decide), ?_⟩⟩⟩
      exact q y1 y2 dx H2 (fun b o e nb => s2 _ _ (tt b o e nb)) (p1'.same s2) p2 (same_none s1 n) ne (s2 _ _ (by rw [upd_ne ne]; exact upd_same)) (s2 _ _ upd_same)
theorem ok_BadText {f : Addr} {fd : FuncData} (F : Fun K "__init__" "BadText.__init__" s_BadText_init f fd) (T : Tb K mg CE) (sys : SysIn base) (D_copied : Df P w K mg base 2 "copied" spCopyW) : FnG P w K mg base CX0 3 f fd ["self", "line", "word"] (spErrW2 K C "line" "word") := by
  refine F.okG sc_BadText_init (fun vs H Q E h => ?_) (fun cdv A outer s H vs Q E quiet hr h => ?_)
  · obtain ⟨a, x1, x2, d1, d2, rfl, _⟩ := h
    rfl
  · obtain ⟨a, x1, x2, d1, d2, rfl, ha, oc, n1, n2, t1, t2, q⟩ := h
    refine ⟨_, (pss_cons (ps_expr (pe_baseinit (by rfl) T.bE T.bR T.bV (pa_cons (pv 0) (pa_cons (pe_joinedT (pj_cons pe_str (pj_cons (pe_fmtW sys quiet hr (pv 1)) (pj_cons pe_str (pj_cons (pe_fmtW sys quiet hr (pv 2)) (pj_cons pe_str pj_nil)))))) pa_nil))))
      (pss_cons (ps_ost (pv 0) (pe_c D_copied hr (by decide) (by rfl) (pa_cons (pv 1) pa_nil)) rfl)
      (pss_one (ps_ost (pv 0) (pe_c D_copied hr (by decide) (by rfl) (pa_cons (pv 2) pa_nil)) rfl)))), ?_⟩
    have z1 := t1.sz
    have z2 := t2.sz
    have h0 : (Str.empty ++ ("line " : Str)).length ≤ 1000 := by decide +kernel
    have h1 : (", word " : Str).length ≤ 1000 := by decide +kernel
    have h2 : (" cannot stand, or lacks" : Str).length ≤ 1000 := by decide +kernel
    refine ⟨_, rfl, _, rfl, ?_, _, rfl, d1, t1.pw, t1.te, d1.shown, rfl, ?_, _, rfl, ?_, _, rfl, d2, t2.pw, t2.te, d2.shown, rfl, ?_, _, rfl, ?_, a, C, _, rfl, (by show 1 ≤ 1000; decide), oc, ha, ?_⟩
    · simp only [len_app, sizeLine_eq]
      try simp only [len_app] at *
      omega
    · simp only [len_app, sizeLine_eq]
      try simp only [len_app] at *
      omega
    · simp only [len_app, sizeLine_eq]
      try simp only [len_app] at *
      omega
    · simp only [len_app, sizeLine_eq]
      try simp only [len_app] at *
      omega
    · simp only [len_app, sizeLine_eq]
      try simp only [len_app] at *
      omega
    · refine ⟨_, rfl, x1, d1, rfl, t1.tl, t1.pw, fun y1 H1 s1 p1 => ⟨_, rfl, a, C, rfl, oc, n1, .inl ⟨s1 _ _ ha, fun dx n ne => ?_⟩⟩⟩
      have tt := two_at (a := a) (o1 := exd dx [("line", y1)]) (o2 := exo a C (some dx)) s1 n
      have t2' := t2.but tt ha
      have p1' := p1.but (H2 := upd (upd H1 dx (exd dx [("line", y1)])) a (exo a C (some dx))) (two_at (Same.refl H1) n) (s1 _ _ ha)
      refine ⟨_, rfl, x2, d2, rfl, t2'.tl, t2'.pw, fun y2 H2 s2 p2 => ⟨_, rfl, a, C, rfl, oc, n2, .inr ⟨dx, [("line", y1)], s2 _ _ upd_same, s2 _ _ (by rw [upd_ne ne]; exact upd_same), (by show 1 ≤ 900; decide), ?_⟩⟩⟩
      exact q y1 y2 dx H2 (fun b o e nb => s2 _ _ (tt b o e nb)) (p1'.same s2) p2 (same_none s1 n) ne (s2 _ _ (by rw [upd_ne ne]; exact upd_same)) (s2 _ _ upd_same)
end
end V8

set_option Elab.async false
set_option linter.all false
set_option maxRecDepth 100000
set_option maxHeartbeats 8000000
/-! Errors made and kept: their fields. -/
namespace V8
open PySem PySem.Spec PyProof.Rows L2
section
variable (P : Program) (w : World) (K : PySem.W.Frag) (mg : Str → Option Value) (base : Heap)
structure Er1 (x fld : Str) (C : Addr) : Prop where
  oc : OexC K C
  xc : ExcC K C
  no : PySem.W.findIn K (.ref C) fld = some none
  hm : mg x = some (.ref C)
  ex : ∃ (fI : Addr) (fd : FuncData) (ps : List Str), PySem.W.findIn K (.ref C) "__init__" = some (some (.ref fI)) ∧ PySem.W.typeIn K (.ref fI) = some (.type "function") ∧ FnG P w K mg base CX0 3 fI fd ps (spErrW K C fld) ∧ Binds K fd ps [] ∧ KBn K fd ps 1 [fld] (fun us ws => us ++ ws) (fun vs zs => vs ++ zs)
structure Er2 (x f1 f2 : Str) (C : Addr) : Prop where
  oc : OexC K C
  xc : ExcC K C
  n1 : PySem.W.findIn K (.ref C) f1 = some none
  n2 : PySem.W.findIn K (.ref C) f2 = some none
  hm : mg x = some (.ref C)
  ex : ∃ (fI : Addr) (fd : FuncData) (ps : List Str), PySem.W.findIn K (.ref C) "__init__" = some (some (.ref fI)) ∧ PySem.W.typeIn K (.ref fI) = some (.type "function") ∧ FnG P w K mg base CX0 3 fI fd ps (spErrW2 K C f1 f2) ∧ Binds K fd ps [] ∧ KBn K fd ps 1 [f2, f1] (fun us ws => us ++ ws.reverse) (fun vs zs => vs ++ zs.reverse)
structure Er0 (x : Str) (C : Addr) : Prop where
  oc : OexC K C
  xc : ExcC K C
  hm : mg x = some (.ref C)
  ex : ∃ (fI : Addr) (fd : FuncData) (ps : List Str), PySem.W.findIn K (.ref C) "__init__" = some (some (.ref fI)) ∧ PySem.W.typeIn K (.ref fI) = some (.type "function") ∧ FnG P w K mg base CX0 3 fI fd ps (spErrW0 K C) ∧ Binds K fd ps []
end
def End1 (K : PySem.W.Frag) (C : Addr) (fld : Str) (x : V) (H1 : Hp) (Q : VK) : Prop := ∃ d, Th1 H1 x d ∧ ∀ a y H2, H1 a = none → Same H1 H2 → KeptX K H2 a C [(fld, y)] → PyW H2 y d → Q (.ref a) H2
def End2 (K : PySem.W.Frag) (C : Addr) (f1 f2 : Str) (x1 x2 : V) (H1 : Hp) (Q : VK) : Prop := ∃ d1 d2, Th1 H1 x1 d1 ∧ Th1 H1 x2 d2 ∧ ∀ a y1 y2 H2, H1 a = none → Same H1 H2 → KeptX K H2 a C [(f2, y2), (f1, y1)] → PyW H2 y1 d1 → PyW H2 y2 d2 → Q (.ref a) H2
def tE1 (K : PySem.W.Frag) (C : Addr) (fld : Str) (ta : TA) : TE := fun σ H Q => ta σ H fun vs H1 => ∃ x, vs = [x] ∧ End1 K C fld x H1 Q
def tE2 (K : PySem.W.Frag) (C : Addr) (f1 f2 : Str) (ta : TA) : TE := fun σ H Q => ta σ H fun vs H1 => ∃ x1 x2, vs = [x1, x2] ∧ End2 K C f1 f2 x1 x2 H1 Q
def tE2K (K : PySem.W.Frag) (C : Addr) (f1 f2 : Str) (ta : TA) : TE := fun σ H Q => ta σ H fun vs H1 => ∃ x1 x2, vs = [x2, x1] ∧ End2 K C f1 f2 x1 x2 H1 Q
def tE0 (C : Addr) : TE := fun σ H Q => ∀ a H2, H a = none → Same H H2 → H2 a = some (CaughtO (.ref C) none a) → Q (.ref a) H2
theorem end1 {K : PySem.W.Frag} {C : Addr} {fld : Str} {x : V} {H1 : Hp} {Q : VK} {E : XK} (oc : OexC K C) (xc : ExcC K C) (no : PySem.W.findIn K (.ref C) fld = some none) (h : End1 K C fld x H1 Q) (a : Addr) (na : H1 a = none) : spErrW K C fld [.ref a, x] (upd H1 a (exo a C none)) (EndE C a Q) E := by
  obtain ⟨d, t, q⟩ := h
  have s0 : Same H1 (upd H1 a (exo a C none)) := same_put (s := Same.refl H1) na
  refine ⟨a, x, d, rfl, upd_same, oc, no, t.same s0, fun y dx H2 s2 p2 ndx ne => ⟨rfl, .inl ⟨dx, [(fld, y)], upd_same, by rw [upd_ne ne]; exact upd_same, ?_⟩⟩⟩
  have ha2 : H2 a = some (exo a C none) := s2 _ _ upd_same
  refine q a y _ na (fun b o e => ?_) ⟨⟨dx, by rw [upd_ne (Ne.symm ne)]; exact upd_same, upd_same⟩, xc⟩ (p2.keep fun b o e k => ?_)
  · have nb : b ≠ a := ne_of_none e na
    have e2 : H2 b = some o := s2 _ _ (s0 _ _ e)
    have nd : b ≠ dx := ne_of_none e2 ndx
    rw [upd_ne nd, upd_ne nb, upd_ne nb, upd_ne nd]
    exact e2
  · have nd : b ≠ dx := ne_of_none e ndx
    have nb : b ≠ a := fun z => by
      rw [z, ha2] at e
      cases e
      rcases k with ⟨xs, k⟩ | ⟨xs, k⟩ | ⟨xs, k⟩ <;> cases k
    rw [upd_ne nd, upd_ne nb, upd_ne nb, upd_ne nd]
    exact e
theorem end2 {K : PySem.W.Frag} {C : Addr} {f1 f2 : Str} {x1 x2 : V} {H1 : Hp} {Q : VK} {E : XK} (oc : OexC K C) (xc : ExcC K C) (n1 : PySem.W.findIn K (.ref C) f1 = some none) (n2 : PySem.W.findIn K (.ref C) f2 = some none) (h : End2 K C f1 f2 x1 x2 H1 Q) (a : Addr) (na : H1 a = none) : spErrW2 K C f1 f2 [.ref a, x1, x2] (upd H1 a (exo a C none)) (EndE C a Q) E := by
  obtain ⟨d1, d2, t1, t2, q⟩ := h
  have s0 : Same H1 (upd H1 a (exo a C none)) := same_put (s := Same.refl H1) na
  refine ⟨a, x1, x2, d1, d2, rfl, upd_same, oc, n1, n2, t1.same s0, t2.same s0, fun y1 y2 dx H2 s2 p1 p2 ndx ne e1 e2 => ⟨rfl, .inl ⟨dx, [(f2, y2), (f1, y1)], by rw [upd_ne (Ne.symm ne)]; exact e2, upd_same, ?_⟩⟩⟩
  have kp : ∀ b o, H2 b = some o → ((∃ xs, o = .tup xs) ∨ (∃ xs, o = .lst xs) ∨ ∃ xs, o = .dK xs) → upd (upd (upd H2 dx (exd dx [(f2, y2), (f1, y1)])) a (CaughtO (.ref C) (some dx) a)) dx (.xd [(f2, y2), (f1, y1)]) b = some o := fun b o e k => by
    have nd : b ≠ dx := fun z => by
      rw [z, e1] at e
      cases e
      rcases k with ⟨xs, k⟩ | ⟨xs, k⟩ | ⟨xs, k⟩ <;> cases k
    have nb : b ≠ a := fun z => by
      rw [z, e2] at e
      cases e
      rcases k with ⟨xs, k⟩ | ⟨xs, k⟩ | ⟨xs, k⟩ <;> cases k
    rw [upd_ne nd, upd_ne nb, upd_ne nd]
    exact e
  refine q a y1 y2 _ na (fun b o e => ?_) ⟨⟨dx, by rw [upd_ne (Ne.symm ne)]; exact upd_same, upd_same⟩, xc⟩ (p1.keep kp) (p2.keep kp)
  have nb : b ≠ a := ne_of_none e na
  have nd : b ≠ dx := ne_of_none (s0 _ _ e) ndx
  rw [upd_ne nd, upd_ne nb, upd_ne nd]
  exact s2 _ _ (s0 _ _ e) nb
section
variable {X : Cx} {j : Nat} {x fld f1 f2 : Str} {C : Addr} {p pos : Pos} {e e' : Expr} {es : List Expr} {ta tk : TA} {kws : List Keyword}
theorem pe_e1 (c : Er1 X.prog X.w X.K X.mg X.base x fld C) (g : Quiet X.A) (r : Room j X.A) (hj : 4 ≤ j) (hg : Gl X x) (ha : PA X (e :: es) ta)
    (hdb : (x == ("__debug__" : Str)) = false := by decide) (he : starEach (e :: es) X.env = (false, eval e X.env) :: starEach es X.env := by rfl) (hpl : (backTo pos (starEach es X.env)).any (·.1) = false := by rfl) : PE X (.Call (.Name x p) (e :: es) [] pos) (tE1 X.K C fld ta) := by
  obtain ⟨fI, fd, ps, iC, tI, Fn, b, kb⟩ := c.ex
  refine ⟨fun pins s σ H Q I h => wpAny_Call_Name_kw (ld_glob I hg c.hm ?_ hdb)⟩
  refine PySem.W.callWith_K (h₀ := X.base) I.ok.mod.kin c.oc.kC (thn (ha.run pos pins s σ H _ I h) fun us s1 z => ?_) he hpl
  obtain ⟨xs, H1, J, v, xx, rfl, q⟩ := z
  exact ⟨J.kIn, er_core c.oc iC tI Fn g (r.mono hj) b pass0 J v (by show 1 ≤ 1000; decide) fun a na => end1 c.oc c.xc c.no q a na⟩
theorem pe_e1K (c : Er1 X.prog X.w X.K X.mg X.base x fld C) (g : Quiet X.A) (r : Room j X.A) (hj : 4 ≤ j) (hg : Gl X x) (hkw : PK X kws tk) (hall : (backToKw pos (keywordEach kws X.env)).all (·.1.isSome) = true := by rfl) (hks : (backToKw pos (keywordEach kws X.env)).filterMap (·.1) = [fld] := by rfl) (hdb : (x == ("__debug__" : Str)) = false := by decide)
    (hpl : ((backTo pos (starEach [] X.env)).any (·.1) || (backToKw pos (keywordEach kws X.env)).any (·.1.isNone)) = false := by rfl) : PE X (.Call (.Name x p) [] kws pos) (tE1 X.K C fld tk) := by
  obtain ⟨fI, fd, ps, iC, tI, Fn, b, kb⟩ := c.ex
  refine ⟨fun pins s σ H Q I h => wpAny_Call_Name_kw (ld_glob I hg c.hm ?_ hdb)⟩
  refine PySem.W.callWith_KW0 (h₀ := X.base) I.ok.mod.kin c.oc.kC hall ?_ hpl
  refine thn (hkw.run pos pins s σ H _ I h) fun ws s2 ⟨zs, H2, I2, rz, xx, ez, q2⟩ => ⟨I2.kIn, ?_⟩
  subst ez
  rw [hks]
  exact er_coreK c.oc iC tI Fn g (r.mono hj) kb pass0 I2 rz rfl fun a na => end1 c.oc c.xc c.no q2 a na
theorem pe_e2 (c : Er2 X.prog X.w X.K X.mg X.base x f1 f2 C) (g : Quiet X.A) (r : Room j X.A) (hj : 4 ≤ j) (hg : Gl X x) (ha : PA X (e :: es) ta)
    (hdb : (x == ("__debug__" : Str)) = false := by decide) (he : starEach (e :: es) X.env = (false, eval e X.env) :: starEach es X.env := by rfl) (hpl : (backTo pos (starEach es X.env)).any (·.1) = false := by rfl) : PE X (.Call (.Name x p) (e :: es) [] pos) (tE2 X.K C f1 f2 ta) := by
  obtain ⟨fI, fd, ps, iC, tI, Fn, b, kb⟩ := c.ex
  refine ⟨fun pins s σ H Q I h => wpAny_Call_Name_kw (ld_glob I hg c.hm ?_ hdb)⟩
  refine PySem.W.callWith_K (h₀ := X.base) I.ok.mod.kin c.oc.kC (thn (ha.run pos pins s σ H _ I h) fun us s1 z => ?_) he hpl
  obtain ⟨xs, H1, J, v, x1, x2, rfl, q⟩ := z
  exact ⟨J.kIn, er_core c.oc iC tI Fn g (r.mono hj) b pass0 J v (by show 2 ≤ 1000; decide) fun a na => end2 c.oc c.xc c.n1 c.n2 q a na⟩
theorem pe_e2K (c : Er2 X.prog X.w X.K X.mg X.base x f1 f2 C) (g : Quiet X.A) (r : Room j X.A) (hj : 4 ≤ j) (hg : Gl X x) (hkw : PK X kws tk) (hall : (backToKw pos (keywordEach kws X.env)).all (·.1.isSome) = true := by rfl) (hks : (backToKw pos (keywordEach kws X.env)).filterMap (·.1) = [f2, f1] := by rfl) (hdb : (x == ("__debug__" : Str)) = false := by decide)
    (hpl : ((backTo pos (starEach [] X.env)).any (·.1) || (backToKw pos (keywordEach kws X.env)).any (·.1.isNone)) = false := by rfl) : PE X (.Call (.Name x p) [] kws pos) (tE2K X.K C f1 f2 tk) := by
  obtain ⟨fI, fd, ps, iC, tI, Fn, b, kb⟩ := c.ex
  refine ⟨fun pins s σ H Q I h => wpAny_Call_Name_kw (ld_glob I hg c.hm ?_ hdb)⟩
  refine PySem.W.callWith_KW0 (h₀ := X.base) I.ok.mod.kin c.oc.kC hall ?_ hpl
  refine thn (hkw.run pos pins s σ H _ I h) fun ws s2 ⟨zs, H2, I2, rz, x1, x2, ez, q2⟩ => ⟨I2.kIn, ?_⟩
  subst ez
  rw [hks]
  exact er_coreK c.oc iC tI Fn g (r.mono hj) kb pass0 I2 rz rfl fun a na => end2 c.oc c.xc c.n1 c.n2 q2 a na
theorem pe_e0 (c : Er0 X.prog X.w X.K X.mg X.base x C) (g : Quiet X.A) (r : Room j X.A) (hj : 4 ≤ j) (hg : Gl X x) (hdb : (x == ("__debug__" : Str)) = false := by decide) : PE X (.Call (.Name x p) [] [] pos) (tE0 C) := by
  obtain ⟨fI, fd, ps, iC, tI, Fn, b⟩ := c.ex
  refine ⟨fun pins s σ H Q I h => wpAny_Call_Name_kw (ld_glob I hg c.hm ?_ hdb)⟩
  exact PySem.W.callWith_K0 I.kIn c.oc.kC (er_core (us := []) (xs := []) c.oc iC tI Fn g (r.mono hj) b pass0 I .nil (by decide) fun a na => ⟨a, rfl, upd_same, c.oc, rfl, .inr ⟨upd_same, h a _ na (by rw [upd_upd]; exact same_put (s := Same.refl H) na) upd_same⟩⟩)
end
/-! isinstance of such an error -/
structure KeptN (K : PySem.W.Frag) (H : Hp) (a D : Addr) : Prop where
  at_ : H a = some (CaughtO (.ref D) none a)
  cl : ExcC K D
/-- an error of the class D -/
def ErrAt (K : PySem.W.Frag) (H : Hp) (a D : Addr) : Prop := (∃ fs, KeptX K H a D fs) ∨ KeptN K H a D
def rIsE (K : PySem.W.Frag) : List V → Hp → VK → Prop := fun xs H Q => ∃ (a D : Addr) (c : V) (cv : Value) (b : Bool), xs = [.ref a, c] ∧ ErrAt K H a D ∧ (∀ u, RelV c u → u = cv) ∧ PySem.W.kitOne K (.ref D) cv = some b ∧ Q (.bl b) H
theorem call_isE {X : Cx} : CallR X (.builtin "isinstance") (rIsE X.K) := by
  intro pins s σ H xs us Q I r h
  obtain ⟨a, D, c, cv, b, rfl, k, hc, e, q⟩ := h
  rcases k with ⟨fs, k⟩ | k
  · exact call_isK pins s σ H _ us Q I r ⟨a, D, fs, c, cv, b, rfl, k, hc, e, q⟩
  · match us, r with
    | [u1, u2], .cons r1 (.cons r2 .nil) =>
      obtain rfl : u1 = Value.ref a := r1
      rw [hc _ r2]
      obtain ⟨⟨oe, vs, q1, ⟨q2, q3⟩, q4⟩, _, _⟩ := I.hok a _ k.at_
      have J : PySem.W.InstAt s.heap a oe D none := ⟨q1, q2, by unfold PySem.W.notCls; rw [q4], by rw [q3]; trivial⟩
      have C := k.cl
      obtain ⟨cd, e1, _⟩ := PySem.W.any_some C.hd
      exact PySem.W.kia_one (PySem.W.kitx_exc (by rw [e1]; rfl) C.hg C.hk C.hs C.ha C.hn C.ht C.hm) I.kIn J e (fun z => nomatch z) fun tk => ⟨.bl b, H, I.tok _, rfl, q⟩
theorem ErrAt.same {K : PySem.W.Frag} {H H2 : Hp} {a D : Addr} (e : ErrAt K H a D) (s : Same H H2) : ErrAt K H2 a D := by
  rcases e with ⟨fs, ⟨d, h1, h2⟩, c⟩ | ⟨h, c⟩
  · exact .inl ⟨fs, ⟨d, s _ _ h1, s _ _ h2⟩, c⟩
  · exact .inr ⟨s _ _ h, c⟩
/-! Such an error raised. -/
theorem pmk_one {X : Cx} {j : Nat} {x f1 : Str} {C : Addr} {p pos : Pos} {e : Expr} {es : List Expr} {ta : TA} (c : Er1 X.prog X.w X.K X.mg X.base x f1 C) (g : Quiet X.A) (r : Room j X.A) (hj : 4 ≤ j) (hg : Gl X x) (ha : PA X (e :: es) ta)
    (hdb : (x == ("__debug__" : Str)) = false := by decide) (he : starEach (e :: es) X.env = (false, eval e X.env) :: starEach es X.env := by rfl) (hpl : (backTo pos (starEach es X.env)).any (·.1) = false := by rfl) : PMk X (.Call (.Name x p) (e :: es) [] pos) (tMkO C (spErrW X.K C f1) [] ta) := by
  obtain ⟨fI, fd, ps, iC, tI, Fn, b, kb⟩ := c.ex
  exact (pmk_oexG c.oc iC tI Fn g (r.mono hj) b pass0 hg c.hm ha hdb he hpl).pmk
theorem pmk_two {X : Cx} {j : Nat} {x f1 f2 : Str} {C : Addr} {p pos : Pos} {e : Expr} {es : List Expr} {ta : TA} (c : Er2 X.prog X.w X.K X.mg X.base x f1 f2 C) (g : Quiet X.A) (r : Room j X.A) (hj : 4 ≤ j) (hg : Gl X x) (ha : PA X (e :: es) ta)
    (hdb : (x == ("__debug__" : Str)) = false := by decide) (he : starEach (e :: es) X.env = (false, eval e X.env) :: starEach es X.env := by rfl) (hpl : (backTo pos (starEach es X.env)).any (·.1) = false := by rfl) : PMk X (.Call (.Name x p) (e :: es) [] pos) (tMkO C (spErrW2 X.K C f1 f2) [] ta) := by
  obtain ⟨fI, fd, ps, iC, tI, Fn, b, kb⟩ := c.ex
  exact (pmk_oexG c.oc iC tI Fn g (r.mono hj) b pass0 hg c.hm ha hdb he hpl).pmk
/-- what is raised: an error of class C, its field told -/
def Rz1 (C : Addr) (fld : Str) (x : V) (H : Hp) (E : XK) : Prop := ∃ d, Th1 H x d ∧ ∀ dx y H2, Same H H2 → PyW H2 y d → H2 dx = some (.xd [(fld, y)]) → E (.ref C) (some dx) H2
theorem rz1 {K : PySem.W.Frag} {C : Addr} {fld : Str} {x : V} {H : Hp} {E : XK} {E0 : XK} (oc : OexC K C) (no : PySem.W.findIn K (.ref C) fld = some none) (h : Rz1 C fld x H E) (a : Addr) (na : H a = none) :
    spErrW K C fld (.ref a :: ([x] ++ [])) (upd H a (exo a C none)) (fun v H2 => v = .non ∧ ∃ (d : Addr) (fs : List (Str × V)), H2 a = some (exo a C (some d)) ∧ H2 d = some (exd d fs) ∧ H d = none ∧ E (.ref C) (some d) (upd (del H2 a) d (.xd fs))) E0 := by
  obtain ⟨d, t, q⟩ := h
  have s0 : Same H (upd H a (exo a C none)) := same_put (s := Same.refl H) na
  refine ⟨a, x, d, rfl, upd_same, oc, no, t.same s0, fun y dx H2 s2 p2 ndx ne => ⟨rfl, dx, [(fld, y)], upd_same, by rw [upd_ne ne]; exact upd_same, ?_, ?_⟩⟩
  · exact same_none (fun b o e => s2 _ _ (s0 _ _ e)) ndx
  · have keep : ∀ b o, H b = some o → upd (del (upd (upd H2 dx (exd dx [(fld, y)])) a (exo a C (some dx))) a) dx (.xd [(fld, y)]) b = some o := fun b o e => by
      have e2 : H2 b = some o := s2 _ _ (s0 _ _ e)
      rw [upd_ne (ne_of_none e2 ndx), del_ne (ne_of_none e na), upd_ne (ne_of_none e na), upd_ne (ne_of_none e2 ndx)]
      exact e2
    refine q dx y _ keep (p2.keep fun b o e k => ?_) upd_same
    have nd : b ≠ dx := ne_of_none e ndx
    have nb : b ≠ a := fun z => by
      rw [z, s2 _ _ upd_same] at e
      cases e
      rcases k with ⟨xs, k⟩ | ⟨xs, k⟩ | ⟨xs, k⟩ <;> cases k
    rw [upd_ne nd, del_ne nb, upd_ne nb, upd_ne nd]
    exact e
end V8

set_option Elab.async false
set_option linter.all false
set_option maxRecDepth 100000
set_option maxHeartbeats 4000000
/-! A key looked for among entries of any kinds, tuples beside flat ones. -/
namespace MX
open PySem PySem.Spec PySem.SeqAt PyProof.Rows
section
variable {prog : Program} {w : World} {A : Around} {E : Value → Shared → Prop} {s : Shared} {d : Addr} {o : Obj} {es : Array DictEntry} {ep : Nat} {v : Value} {hh : Int} {m : DictEntry → Bool}
/-- what the search of v, whose hash is hh, meets: m says which entry is equal to v -/
structure Look (prog : Program) (w : World) (A : Around) (s : Shared) (es : Array DictEntry) (v : Value) (hh : Int) (m : DictEntry → Bool) : Prop where
  eqv : ∀ e ∈ es, EqAt A s e.key v (m e)
  hash : ∀ e ∈ es, m e = true → e.hash = hh
  same : ∀ e ∈ es, e.key = v → e.hash = hh
  quiet : QuietAt prog w 8 s v
  quiets : ∀ e ∈ es, QuietAt prog w 8 s e.key
  txts : ∀ x t, v = .str x t → ∀ e ∈ es, isExactStrKey e.key = true → e.key.isStr x = m e
  one : ∀ i j (hi : i < es.size) (hj : j < es.size), m es[i] = true → m es[j] = true → i = j
theorem Look.find (M : Look prog w A s es v hh m) {i : Nat} (hi : i < es.size) (h : m es[i] = true) : es.findIdx? m = some i :=
  Array.findIdx?_eq_some_iff_getElem.mpr ⟨hi, h, fun j hj => by
    intro z
    have := M.one j i (by omega) hi z h
    omega⟩
/-- the places of one hash -/
theorem in_places {i : Nat} (hi : i < es.size) (h : es[i].hash = hh) : i ∈ placesWithHash es.size (fun i => es[i]?.map (·.hash)) hh := by
  unfold placesWithHash
  rw [List.mem_filter]
  refine ⟨List.mem_range.mpr hi, ?_⟩
  show (es[i]?.map (·.hash) == some hh) = true
  rw [Array.getElem?_eq_getElem hi, Option.map_some, h]
  exact beq_self_eq_true _
theorem of_places {i : Nat} (h : i ∈ placesWithHash es.size (fun i => es[i]?.map (·.hash)) hh) : ∃ hi : i < es.size, es[i].hash = hh := by
  unfold placesWithHash at h
  rw [List.mem_filter] at h
  have hi := List.mem_range.mp h.1
  refine ⟨hi, ?_⟩
  have z : (es[i]?.map (·.hash) == some hh) = true := h.2
  rw [Array.getElem?_eq_getElem hi, Option.map_some] at z
  exact Option.some.inj (beq_iff_eq.mp z)
theorem places_nodup : (placesWithHash es.size (fun i => es[i]?.map (·.hash)) hh).Nodup := by
  unfold placesWithHash
  exact List.Nodup.sublist List.filter_sublist List.nodup_range
theorem Look.none (M : Look prog w A s es v hh m) (h : ∀ i ∈ placesWithHash es.size (fun i => es[i]?.map (·.hash)) hh, ∀ hi : i < es.size, m es[i] = false) : es.findIdx? m = none :=
  Array.findIdx?_eq_none_iff.mpr fun e he => by
    obtain ⟨i, hi, rfl⟩ := Array.mem_iff_getElem.mp he
    cases z : m es[i] with
    | false => rfl
    | true =>
      have := h i (in_places hi (M.hash _ (Array.getElem_mem hi) z)) hi
      rw [z] at this
      cases this
theorem plain_any {Q : Option Nat → Shared → Prop} (ho : s.heap.get? d = some o) (hd : o.data = .dict es ep) (M : Look prog w A s es v hh m) (h : Q (es.findIdx? m) s) :
    wpAny (model prog w) A (dictWalkPlain d v hh es (placesWithHash es.size (fun i => es[i]?.map (·.hash)) hh)) Q E s := by
  unfold dictWalkPlain
  refine wpAny_bind ?_
  refine wpAny_forIn_list _ (fun rest b s' => s' = s ∧ b = (none, ()) ∧ ∃ done, placesWithHash es.size (fun i => es[i]?.map (·.hash)) hh = done ++ rest ∧ ∀ i ∈ done, ∀ hi : i < es.size, m es[i] = false) _ ?_ ?_ _ _ ⟨rfl, rfl, [], rfl, fun i z => nomatch z⟩
  · rintro x rest b s' ⟨rfl, rfl, done, hp, hno⟩
    obtain ⟨hx, hxh⟩ := of_places (es := es) (hh := hh) (i := x) (by rw [hp]; simp)
    simp only [Array.getElem?_eq_getElem hx]
    rw [if_pos (by rw [hxh]; exact beq_self_eq_true _)]
    refine wpAny_bind (wpAny_dictEpoch ho hd (wpAny_bind (M.eqv _ (Array.getElem_mem hx) _ _ _ _ (wpAny_bind (wpAny_dictEpoch ho hd ?_)))))
    show wpAny _ _ (if (ep != ep) = true then _ else _) _ E _
    rw [if_neg (by simp)]
    cases hm : m es[x] with
    | true =>
      rw [M.find hx hm] at h
      exact wpAny_bind (wpAny_rule (wpAny_pure (wpAny_pure h)))
    | false =>
      refine wpAny_bind (wpAny_rule (wpAny_pure ⟨rfl, rfl, done ++ [x], by rw [hp, List.append_assoc]; rfl, fun i hi hl => ?_⟩))
      rcases List.mem_append.mp hi with z | z
      · exact hno i z hl
      · obtain rfl := List.mem_singleton.mp z
        exact hm
  · rintro b s' ⟨rfl, rfl, done, hp, hno⟩
    rw [List.append_nil] at hp
    rw [M.none (by rw [hp]; exact hno)] at h
    exact wpAny_pure h
theorem may_quiet {stored : List Value} {Q : Bool → Shared → Prop} (qv : QuietAt prog w 8 s v) (qs : ∀ u ∈ stored, QuietAt prog w 8 s u) (h : Q false s) : wpAny (model prog w) A (tableMayTell v stored) Q E s := by
  unfold tableMayTell
  split
  · exact wpAny_pure h
  · refine wpAny_bind (qv _ _ _ ?_)
    simp only [Bool.not_true, Bool.false_eq_true, if_false]
    refine wpAny_bind ?_
    refine wpAny_forIn_list _ (fun rest r s' => s' = s ∧ r = (none, ()) ∧ ∀ u ∈ rest, QuietAt prog w 8 s u) _ ?_ ?_ _ _ ⟨rfl, rfl, qs⟩
    · rintro x rest r s' ⟨rfl, rfl, hr⟩
      refine wpAny_bind (hr x List.mem_cons_self _ _ _ ?_)
      simp only [Bool.not_true, Bool.false_eq_true, if_false]
      exact wpAny_pure ⟨rfl, rfl, fun u hu => hr u (List.mem_cons_of_mem _ hu)⟩
    · rintro r s' ⟨rfl, rfl, _⟩
      exact wpAny_pure h
theorem findIdx_eq {f g : DictEntry → Bool} (h : ∀ e ∈ es, f e = g e) : es.findIdx? f = es.findIdx? g := by
  cases z : es.findIdx? g with
  | none =>
    rw [Array.findIdx?_eq_none_iff] at z ⊢
    intro e he
    rw [h e he]
    exact z e he
  | some i =>
    obtain ⟨hi, h1, h2⟩ := Array.findIdx?_eq_some_iff_getElem.mp z
    exact Array.findIdx?_eq_some_iff_getElem.mpr ⟨hi, by rw [h _ (Array.getElem_mem hi)]; exact h1, fun j hj => by rw [h _ (Array.getElem_mem _)]; exact h2 j hj⟩
theorem not_any (M : Look prog w A s es v hh m) : ¬ (es.any fun e => e.key == v && e.hash != hh) = true := by
  rw [← Array.any_toList, List.any_eq_true]
  rintro ⟨e, hin, hc⟩
  rw [Bool.and_eq_true, beq_iff_eq, bne_iff_ne] at hc
  exact hc.2 (M.same e (Array.mem_toList_iff.mp hin) hc.1)
theorem stored_quiet (M : Look prog w A s es v hh m) : ∀ u ∈ (placesWithHash es.size (fun i => es[i]?.map (·.hash)) hh).filterMap (fun i => es[i]?.map (·.key)), QuietAt prog w 8 s u := by
  intro u hu
  obtain ⟨i, hi, z⟩ := List.mem_filterMap.mp hu
  obtain ⟨hl, _⟩ := of_places hi
  rw [Array.getElem?_eq_getElem hl, Option.map_some] at z
  rw [← Option.some.inj z]
  exact M.quiets _ (Array.getElem_mem hl)
theorem find_any {Q : Option Nat → Shared → Prop} (ho : s.heap.get? d = some o) (hd : o.data = .dict es ep) (M : Look prog w A s es v hh m) (h : Q (es.findIdx? m) s) : wpAny (model prog w) A (dictFind d v hh) Q E s := by
  have hany := not_any M
  have hst := stored_quiet M
  unfold dictFind
  try with_reducible refine wpAny_holding ?_
  refine wpAny_bind (wpAny_dictEntries ho hd ?_)
  have strOne : ∀ x t, v = .str x t → (es.all fun e => isExactStrKey e.key) = true → wpAny (model prog w) A (foundByValue d v es x) Q E s := by
    intro x t ev hs
    have hf : es.findIdx? (fun e => e.key.isStr x) = es.findIdx? m := by
      have all : ∀ e ∈ es, e.key.isStr x = m e := fun e he => M.txts x t ev e he (by
        rw [← Array.all_toList, List.all_eq_true] at hs
        exact hs e (Array.mem_toList_iff.mpr he))
      exact findIdx_eq all
    unfold foundByValue
    rw [hf]
    cases hc : es.findIdx? m with
    | none =>
      rw [hc] at h
      exact wpAny_pure h
    | some i =>
      rw [hc] at h
      obtain ⟨hlt, hi, _⟩ := Array.findIdx?_eq_some_iff_getElem.mp hc
      simp only [Array.getElem?_eq_getElem hlt]
      refine wpAny_bind (wpAny_dictEpoch ho hd (wpAny_bind (M.eqv _ (Array.getElem_mem hlt) _ _ _ _ (wpAny_bind (wpAny_dictEpoch ho hd ?_)))))
      show wpAny _ _ (if (ep != ep) = true then _ else _) _ E _
      rw [if_neg (by simp), hi]
      exact wpAny_bind (wpAny_rule (wpAny_pure h))
  dsimp only
  by_cases hall : ((v :: (placesWithHash es.size (fun i => es[i]?.map (·.hash)) hh).filterMap (fun i => es[i]?.map (·.key))).all carriedByValue) = true
  · rw [if_pos hall]
    split
    · split
      · rename_i hs
        exact strOne _ _ rfl hs
      · exact plain_any ho hd M h
    · exact plain_any ho hd M h
  · rw [if_neg hall]
    rw [if_neg hany]
    have nd := places_nodup (es := es) (hh := hh)
    by_cases hone : ((placesWithHash es.size (fun i => es[i]?.map (·.hash)) hh).filterMap (fun i => es[i]?.map (·.key)) == [v]) = true
    all_goals
      first | rw [if_pos hone] | rw [if_neg hone]
      cases v
      all_goals
        dsimp only
        try (split; (rename_i hs; exact strOne _ _ rfl hs))
        first
          | refine wpAny_bind (wpAny_pure ?_)
          | refine wpAny_bind (may_quiet M.quiet hst ?_)
        rw [if_neg (by simp)]
        refine wpAny_bind ?_
        refine wpAny_forIn_list _ (fun rest b s' => s' = s ∧ ∃ done hit, placesWithHash es.size (fun i => es[i]?.map (·.hash)) hh = done ++ rest ∧ b = (none, hit) ∧ ((hit = none ∧ ∀ i ∈ done, ∀ hi : i < es.size, m es[i] = false) ∨ ∃ i, ∃ hi : i < es.size, hit = some i ∧ i ∈ done ∧ m es[i] = true)) _ ?_ ?_ _ _
          ⟨rfl, [], none, rfl, rfl, .inl ⟨rfl, fun i z => nomatch z⟩⟩
        · rintro x rest b s' ⟨rfl, done, hit, hp, rfl, hH⟩
          obtain ⟨hx, hxh⟩ := of_places (es := es) (hh := hh) (i := x) (by rw [hp]; simp)
          simp only [Array.getElem?_eq_getElem hx]
          rw [if_pos (by rw [hxh]; exact beq_self_eq_true _)]
          refine wpAny_bind (wpAny_dictEpoch ho hd (wpAny_bind (M.eqv _ (Array.getElem_mem hx) _ _ _ _ (wpAny_bind (wpAny_dictEpoch ho hd ?_)))))
          show wpAny _ _ (if (ep != ep) = true then _ else _) _ E _
          rw [if_neg (by simp)]
          cases hm : m es[x] with
          | true =>
            rcases hH with ⟨rfl, hno⟩ | ⟨i, hi, rfl, hd1, hm1⟩
            · simp only [Option.isSome_none, Bool.false_eq_true, if_false, if_true]
              refine wpAny_bind (wpAny_rule ?_)
              split
              · rw [M.find hx hm] at h
                exact wpAny_pure (wpAny_pure h)
              · exact wpAny_pure ⟨rfl, done ++ [x], some x, by rw [hp, List.append_assoc]; rfl, rfl, .inr ⟨x, hx, rfl, by simp, hm⟩⟩
            · have e := M.one i x hi hx hm1 hm
              subst e
              rw [hp] at nd
              exact absurd rfl ((List.nodup_append.mp nd).2.2 i hd1 i (by simp))
          | false =>
            simp only [Bool.false_eq_true, if_false]
            refine wpAny_bind (wpAny_rule ?_)
            try rw [if_neg (by simp)]
            refine wpAny_pure ⟨rfl, done ++ [x], hit, by rw [hp, List.append_assoc]; rfl, rfl, ?_⟩
            rcases hH with ⟨h0, hno⟩ | ⟨i, hi, h1, hd1, hm1⟩
            · refine .inl ⟨h0, fun i hi hl => ?_⟩
              rcases List.mem_append.mp hi with z | z
              · exact hno i z hl
              · obtain rfl := List.mem_singleton.mp z
                exact hm
            · exact .inr ⟨i, hi, h1, List.mem_append.mpr (.inl hd1), hm1⟩
        · rintro b s' ⟨rfl, done, hit, hp, rfl, hH⟩
          rw [List.append_nil] at hp
          rcases hH with ⟨rfl, hno⟩ | ⟨i, hi, rfl, hd1, hm1⟩
          · rw [M.none (by rw [hp]; exact hno)] at h
            exact wpAny_pure h
          · rw [M.find hi hm1] at h
            exact wpAny_pure h
end
end MX

set_option Elab.async false
set_option linter.all false
set_option maxRecDepth 100000
set_option maxHeartbeats 4000000
/-! The same, told by keys: flat ones and tuples of such. -/
namespace MX
open PySem PySem.Spec PySem.SeqAt PyProof.Rows
section
variable {prog : Program} {w : World} {A : Around} {E : Value → Shared → Prop} {s : Shared} {d : Addr} {o : Obj} {es : Array DictEntry} {ep : Nat} {v : Value}
/-- an entry -/
def entN (w : World) (x : NestedKey × Value × Value) : DictEntry := ⟨x.1.hash w, x.2.1, x.2.2⟩
/-- the keys stand there -/
def KeysN (h : Heap) (xs : List (NestedKey × Value × Value)) : Prop := ∀ x ∈ xs, NestedIs h x.1 x.2.1 ∧ x.1.depth ≤ 8
noncomputable def isN (h : Heap) (k : NestedKey) (e : DictEntry) : Bool := @decide (NestedIs h k e.key) (Classical.propDecidable _)
theorem isN_iff {h : Heap} {k : NestedKey} {e : DictEntry} : isN h k e = true ↔ NestedIs h k e.key := by
  unfold isN
  exact @decide_eq_true_iff _ (Classical.propDecidable _)
theorem isN_ent {h : Heap} {k : NestedKey} {x : NestedKey × Value × Value} (hx : NestedIs h x.1 x.2.1) : isN h k (entN w x) = decide (x.1 = k) := by
  cases z : isN h k (entN w x) with
  | true => exact (decide_eq_true (NestedIs.inj _ _ _ hx (isN_iff.mp z))).symm
  | false =>
    refine (decide_eq_false fun e => ?_).symm
    subst e
    have := isN_iff (k := x.1) (e := entN w x) |>.mpr hx
    rw [z] at this
    cases this
theorem ent_of {xs : List (NestedKey × Value × Value)} (he : es.toList = xs.map (entN w)) {e : DictEntry} (h : e ∈ es) : ∃ x ∈ xs, e = entN w x := by
  have z : e ∈ xs.map (entN w) := he ▸ Array.mem_toList_iff.mpr h
  obtain ⟨x, hx, rfl⟩ := List.mem_map.mp z
  exact ⟨x, hx, rfl⟩
theorem ent_size {xs : List (NestedKey × Value × Value)} (he : es.toList = xs.map (entN w)) : es.size = xs.length := by
  rw [← Array.length_toList, he, List.length_map]
theorem ent_at {xs : List (NestedKey × Value × Value)} (he : es.toList = xs.map (entN w)) {i : Nat} (hi : i < es.size) : es[i] = entN w (xs[i]'(by rw [← ent_size he]; exact hi)) := by
  have z : es.toList[i]'(by rw [Array.length_toList]; exact hi) = (xs.map (entN w))[i]'(by rw [List.length_map, ← ent_size he]; exact hi) := by simp only [he]
  rw [List.getElem_map] at z
  rw [← z]
  exact (Array.getElem_toList hi).symm
theorem look_nest {xs : List (NestedKey × Value × Value)} {k : NestedKey} (he : es.toList = xs.map (entN w)) (his : KeysN s.heap xs) (nd : (xs.map (·.1)).Nodup) (hk : NestedIs s.heap k v) (kd : k.depth ≤ 8) (hu : A.units + 8 < cLine) :
    Look prog w A s es v (k.hash w) (isN s.heap k) where
  eqv := fun e h => by
    obtain ⟨x, hx, rfl⟩ := ent_of he h
    have z := eqAt_key x.1 k A s x.2.1 v (his x hx).1 hk (by have := (his x hx).2; omega)
    rw [isN_ent (his x hx).1, NestedKey.decide_eq]
    exact z
  hash := fun e h z => by
    obtain ⟨x, hx, rfl⟩ := ent_of he h
    rw [isN_ent (his x hx).1, decide_eq_true_iff] at z
    show x.1.hash w = _
    rw [z]
  same := fun e h z => by
    obtain ⟨x, hx, rfl⟩ := ent_of he h
    have q := (his x hx).1
    have z2 : x.2.1 = v := z
    rw [z2] at q
    show x.1.hash w = _
    rw [NestedIs.inj _ _ _ q hk]
  quiet := quiet_key k v 8 s hk kd
  quiets := fun e h => by
    obtain ⟨x, hx, rfl⟩ := ent_of he h
    exact quiet_key x.1 _ 8 s (his x hx).1 (his x hx).2
  txts := fun x t ev e h z => by
    subst ev
    cases hk
    cases hek : e.key with
    | str y u =>
      rw [Bool.eq_iff_iff, isN_iff, hek]
      constructor
      · intro q
        have : y = x := by simpa [Value.isStr] using q
        rw [this]
        exact .text _ _
      · intro q
        cases q
        simp [Value.isStr]
    | _ =>
      rw [hek] at z
      cases z
  one := fun i j hi hj h1 h2 => by
    rw [ent_at he hi, isN_ent (his _ (List.getElem_mem _)).1, decide_eq_true_iff] at h1
    rw [ent_at he hj, isN_ent (his _ (List.getElem_mem _)).1, decide_eq_true_iff] at h2
    have pw := List.pairwise_iff_getElem.mp nd
    have li : i < (xs.map (·.1)).length := by rw [List.length_map, ← ent_size he]; exact hi
    have lj : j < (xs.map (·.1)).length := by rw [List.length_map, ← ent_size he]; exact hj
    rcases Nat.lt_trichotomy i j with z | z | z
    · exact absurd (by rw [List.getElem_map, List.getElem_map, h1, h2]) (pw i j li lj z)
    · exact z
    · exact absurd (by rw [List.getElem_map, List.getElem_map, h1, h2]) (pw j i lj li z)
end
end MX

set_option Elab.async false
set_option linter.all false
set_option maxRecDepth 100000
set_option maxHeartbeats 4000000
/-! A dict of flat keys and tuples: what stands under a key, a key stored. -/
namespace MX
open PySem PySem.Spec PySem.SeqAt PyProof.Rows
/-- the dict at d: its keys as keys and as values, and what stands under them, in their order -/
def DictN (w : World) (h : Heap) (d : Addr) (xs : List (NestedKey × Value × Value)) : Prop :=
  ∃ o es ep, h.get? d = some o ∧ o.ExactDict ∧ o.data = .dict es ep ∧ es.toList = xs.map (entN w) ∧ KeysN h xs ∧ (xs.map (·.1)).Nodup
def putN (k : NestedKey) (u : Value) (x : NestedKey × Value × Value) : NestedKey × Value × Value := if x.1 = k then (x.1, x.2.1, u) else x
/-- u stored under k, the key v -/
def storeN (xs : List (NestedKey × Value × Value)) (k : NestedKey) (v u : Value) : List (NestedKey × Value × Value) := if k ∈ xs.map (·.1) then xs.map (putN k u) else xs ++ [(k, v, u)]
def atN (xs : List (NestedKey × Value × Value)) (k : NestedKey) : Option Value := (xs.find? fun x => decide (x.1 = k)).map (·.2.2)
theorem putN_key {k : NestedKey} {u : Value} (xs : List (NestedKey × Value × Value)) : (xs.map (putN k u)).map (·.1) = xs.map (·.1) := by
  rw [List.map_map]
  refine List.map_congr_left fun x _ => ?_
  show (putN k u x).1 = x.1
  unfold putN
  split <;> rfl
theorem atN_none {xs : List (NestedKey × Value × Value)} {k : NestedKey} (h : k ∉ xs.map (·.1)) : atN xs k = none := by
  unfold atN
  rw [List.find?_eq_none.mpr fun x hx => by
    rw [decide_eq_true_iff]
    intro e
    exact h (List.mem_map.mpr ⟨x, hx, e⟩)]
  rfl
theorem atN_some {xs : List (NestedKey × Value × Value)} {k : NestedKey} {x : NestedKey × Value × Value} (nd : (xs.map (·.1)).Nodup) (hx : x ∈ xs) (e : x.1 = k) : atN xs k = some x.2.2 := by
  unfold atN
  induction xs with
  | nil => cases hx
  | cons y ys ih =>
    rw [List.find?_cons]
    rw [List.map_cons, List.nodup_cons] at nd
    rcases List.mem_cons.mp hx with rfl | z
    · rw [decide_eq_true e]
      rfl
    · have ne : y.1 ≠ k := fun q => nd.1 (List.mem_map.mpr ⟨x, z, e.trans q.symm⟩)
      rw [decide_eq_false ne]
      exact ih nd.2 z
section
variable {prog : Program} {w : World} {A : Around} {E : Value → Shared → Prop} {s : Shared} {d : Addr} {o : Obj} {es : Array DictEntry} {ep : Nat} {v u : Value} {k : NestedKey} {xs : List (NestedKey × Value × Value)}
theorem KeysN.keeps {h h' : Heap} (ks : KeysN h xs) (ho : h.get? d = some o) (hd : o.data = .dict es ep) (hs : Heap.SameBut d h h') : KeysN h' xs := fun x hx =>
  ⟨NestedIs.at (fun b ob vs n hb hc => (hs.2 b fun e => by
    subst e
    rw [ho] at hb
    cases hb
    rw [hd] at hc
    cases hc).trans hb) x.1 _ (ks x hx).1, (ks x hx).2⟩
/-- where k stands -/
theorem find_pos (he : es.toList = xs.map (entN w)) {h : Heap} (his : KeysN h xs) : (k ∉ xs.map (·.1) ∧ es.findIdx? (isN h k) = none) ∨ ∃ i, ∃ hi : i < xs.length, xs[i].1 = k ∧ es.findIdx? (isN h k) = some i := by
  cases z : es.findIdx? (isN h k) with
  | none =>
    refine .inl ⟨fun hm => ?_, rfl⟩
    obtain ⟨x, hx, e⟩ := List.mem_map.mp hm
    have q : entN w x ∈ es := Array.mem_toList_iff.mp (he ▸ List.mem_map.mpr ⟨x, hx, rfl⟩)
    have r := Array.findIdx?_eq_none_iff.mp z _ q
    rw [isN_ent (his x hx).1, decide_eq_true e] at r
    cases r
  | some i =>
    obtain ⟨hi, h1, _⟩ := Array.findIdx?_eq_some_iff_getElem.mp z
    have hl : i < xs.length := by rw [← ent_size he]; exact hi
    rw [ent_at he hi, isN_ent (his _ (List.getElem_mem _)).1, decide_eq_true_iff] at h1
    exact .inr ⟨i, hl, h1, rfl⟩
theorem get_nest {Q : Option Value → Shared → Prop} (hm : DictN w s.heap d xs) (hk : NestedIs s.heap k v) (kd : k.depth ≤ 8) (hu : A.units + 8 < cLine) (h : Q (atN xs k) { s with toks := s.toks + k.draws }) : wpAny (model prog w) A (dictGet d v) Q E s := by
  obtain ⟨o, es, ep, ho, hc, hd, he, his, nd⟩ := hm
  unfold dictGet
  try with_reducible refine wpAny_holding ?_
  refine wpAny_bind (pyHash_key k v A s _ hk (by omega) ?_)
  refine wpAny_bind (find_any (s := { s with toks := s.toks + k.draws }) ho hd (look_nest (s := { s with toks := s.toks + k.draws }) he his nd hk kd hu) ?_)
  rcases find_pos (k := k) he his with ⟨hno, e⟩ | ⟨i, hi, hx, e⟩
  · show (fun r s' => wpAny _ _ _ Q E s') (es.findIdx? (isN s.heap k)) _
    rw [e]
    rw [atN_none hno] at h
    exact wpAny_pure h
  · show (fun r s' => wpAny _ _ _ Q E s') (es.findIdx? (isN s.heap k)) _
    rw [e]
    rw [atN_some nd (List.getElem_mem hi) hx] at h
    refine wpAny_bind (wpAny_dictEntries (s := { s with toks := s.toks + k.draws }) ho hd ?_)
    have hi2 : i < es.size := by rw [ent_size he]; exact hi
    rw [Array.getElem?_eq_getElem hi2, ent_at he hi2]
    exact wpAny_pure h
theorem modify_put {i : Nat} (nd : (xs.map (·.1)).Nodup) (hi : i < xs.length) (hx : xs[i].1 = k) : (xs.map (entN w)).modify i (fun e => { e with val := u }) = (xs.map (putN k u)).map (entN w) := by
  refine List.ext_getElem (by simp) fun j h1 h2 => ?_
  have hj : j < xs.length := by simpa using h2
  rw [List.getElem_modify, List.getElem_map, List.getElem_map, List.getElem_map]
  by_cases e : i = j
  · subst e
    rw [if_pos rfl]
    unfold putN
    rw [if_pos hx]
    rfl
  · rw [if_neg e]
    unfold putN
    rw [if_neg fun z => ?_]
    have pw := List.pairwise_iff_getElem.mp nd
    rcases Nat.lt_or_gt_of_ne e with lt | lt
    · exact pw i j (by simpa using hi) (by simpa using hj) lt (by rw [List.getElem_map, List.getElem_map, hx, z])
    · exact pw j i (by simpa using hj) (by simpa using hi) lt (by rw [List.getElem_map, List.getElem_map, hx, z])
theorem set_nest {Q : Unit → Shared → Prop} (hm : DictN w s.heap d xs) (hk : NestedIs s.heap k v) (kd : k.depth ≤ 8) (hu : A.units + 8 < cLine) (few : xs.length ≤ sizeLine)
    (hQ : ∀ h', DictN w h' d (storeN xs k v u) → Heap.SameBut d s.heap h' → Q () { s with heap := h', toks := s.toks + k.draws }) : wpAny (model prog w) A (dictSet d v u) Q E s := by
  obtain ⟨o, es, ep, ho, hc, hd, he, his, nd⟩ := hm
  unfold dictSet
  try with_reducible refine wpAny_holding ?_
  refine wpAny_bind (pyHash_key k v A s _ hk (by omega) ?_)
  unfold dictSetHashed
  try with_reducible refine wpAny_holding ?_
  refine wpAny_bind (find_any (s := { s with toks := s.toks + k.draws }) ho hd (look_nest (s := { s with toks := s.toks + k.draws }) he his nd hk kd hu) ?_)
  rcases find_pos (k := k) he his with ⟨hno, e⟩ | ⟨i, hi, hx, e⟩
  · show (fun r s' => wpAny _ _ _ Q E s') (es.findIdx? (isN s.heap k)) _
    rw [e]
    refine wpAny_bind (wpAny_rule (wpAny_updateDictKeys (hz := by have e := ent_size he; omega) (s := { s with toks := s.toks + k.draws }) ho hd (hQ _ ⟨_, _, ep + 1, Heap.get?_update_self _ ho (Obj.isFreed_of_dict (Obj.data_mapDictKeys hd _)),
      hc.mapDictKeys _, Obj.data_mapDictKeys hd _, ?_, ?_, ?_⟩ (Heap.SameBut.update ..))))
    · unfold storeN
      rw [if_neg hno]
      simp [he, entN]
    · unfold storeN
      rw [if_neg hno]
      have all : KeysN s.heap (xs ++ [(k, v, u)]) := fun x hx => by
        rcases List.mem_append.mp hx with z | z
        · exact his x z
        · obtain rfl := List.mem_singleton.mp z
          exact ⟨hk, kd⟩
      exact KeysN.keeps all ho hd (Heap.SameBut.update ..)
    · unfold storeN
      rw [if_neg hno, List.map_append, List.nodup_append]
      refine ⟨nd, by simp, ?_⟩
      intro x hx y hy
      simp only [List.map_cons, List.map_nil, List.mem_singleton] at hy
      subst hy
      exact fun e => hno (e ▸ hx)
  · show (fun r s' => wpAny _ _ _ Q E s') (es.findIdx? (isN s.heap k)) _
    rw [e]
    have hin : k ∈ xs.map (·.1) := List.mem_map.mpr ⟨xs[i], List.getElem_mem hi, hx⟩
    refine wpAny_bind (wpAny_rule (wpAny_bind (wpAny_updateDict (s := { s with toks := s.toks + k.draws }) ho hd (wpAny_point (hQ _ ⟨_, _, ep, Heap.get?_update_self _ ho (Obj.isFreed_of_dict (Obj.data_mapDict hd _)),
      hc.mapDict _, Obj.data_mapDict hd _, ?_, ?_, ?_⟩ (Heap.SameBut.update ..))))))
    · unfold storeN
      rw [if_pos hin, Array.toList_modify, he]
      exact modify_put nd hi hx
    · unfold storeN
      rw [if_pos hin]
      have all : KeysN s.heap (xs.map (putN k u)) := fun x hx => by
        obtain ⟨y, hy, rfl⟩ := List.mem_map.mp hx
        unfold putN
        split <;> exact his y hy
      exact KeysN.keeps all ho hd (Heap.SameBut.update ..)
    · unfold storeN
      rw [if_pos hin, putN_key]
      exact nd
end
end MX

set_option Elab.async false
set_option linter.all false
set_option maxRecDepth 100000
set_option maxHeartbeats 4000000
/-! k in d, d[k], d[k] = u for such a dict. -/
namespace MX
open PySem PySem.Spec PySem.SeqAt PyProof.Rows
section
variable {prog : Program} {w : World} {A : Around} {E : Value → Shared → Prop} {s : Shared} {d : Addr} {v u : Value} {k : NestedKey} {xs : List (NestedKey × Value × Value)}
theorem DictN.typeIs (hm : DictN w s.heap d xs) : s.TypeIs (.ref d) "dict" := let ⟨o, _, _, ho, hc, _⟩ := hm; ⟨o, ho, hc.1⟩
theorem contains_nest {Q : Bool → Shared → Prop} (hm : DictN w s.heap d xs) (hd : (d == sysModules) = false) (hk : NestedIs s.heap k v) (kd : k.depth ≤ 8) (hu : A.in1.units + 8 < cLine)
    (h : Q (atN xs k).isSome { s with toks := s.toks + k.draws }) : wpAny (model prog w) A (contains (.ref d) v) Q E s := by
  unfold contains
  try with_reducible refine wpAny_holding ?_
  refine wpAny_bind (wpAny_specialOf (hm.typeIs) slot_dict_contains.lookup ?_)
  show wpAny _ _ (if (some (Value.builtin "dict.__contains__") == some Value.none) = true then _ else _) _ E s
  rw [if_neg (by rw [beq_builtin_none]; exact Bool.false_ne_true)]
  refine wpAny_bind (wpAny_callSpecialUnlessNone?_slot (name := Str.ofString "__contains__") (hm.typeIs) slot_dict_contains
    (wpAny_call_entry slot_dict_contains (hm.typeIs) entry_dict_contains ?_ (args_dict_contains _ _)))
  show wpAny _ _ (dictGet d v >>= _) _ _ s
  refine wpAny_bind (get_nest hm hk kd hu ?_)
  cases hf : atN xs k with
  | some p =>
    rw [hf] at h
    show wpAny _ _ (ret (.bool true)) _ _ _
    exact wpAny_pure ⟨_, rfl, wpAny_truthy_bool h⟩
  | none =>
    rw [hf] at h
    show wpAny _ _ (Builtin.Dict.pendingKey? d v >>= _) _ _ _
    exact wpAny_bind (wpAny_pendingKey_other hd (wpAny_pure ⟨_, rfl, wpAny_truthy_bool h⟩))
theorem getItem_nest {p : Value} {Q : Value → Shared → Prop} (hm : DictN w s.heap d xs) (hk : NestedIs s.heap k v) (kd : k.depth ≤ 8) (hu : A.in1.units + 8 < cLine) (hp : atN xs k = some p)
    (h : Q p { s with toks := s.toks + k.draws }) : wpAny (model prog w) A (getItem (.ref d) v) Q E s := by
  unfold getItem
  try with_reducible refine wpAny_holding ?_
  refine wpAny_bind (wpAny_sequenceKey (hm.typeIs) (by decide) ?_)
  refine wpAny_bind (wpAny_callSpecial?_slot (name := Str.ofString "__getitem__") (hm.typeIs) slot_dict_getitem
    (wpAny_call_entry slot_dict_getitem (hm.typeIs) entry_dict_getitem ?_ (args_dict_getitem _ _)))
  show wpAny _ _ (dictGet d v >>= _) _ _ s
  refine wpAny_bind (get_nest hm hk kd hu ?_)
  rw [hp]
  exact wpAny_pure ⟨p, rfl, wpAny_pure h⟩
theorem setItem_nest {Q : Unit → Shared → Prop} (hm : DictN w s.heap d xs) (hk : NestedIs s.heap k v) (kd : k.depth ≤ 8) (hu : A.in1.units + 8 < cLine) (few : xs.length ≤ sizeLine)
    (hQ : ∀ h', DictN w h' d (storeN xs k v u) → Heap.SameBut d s.heap h' → Q () { s with heap := h', toks := s.toks + k.draws }) : wpAny (model prog w) A (setItem (.ref d) v u) Q E s := by
  unfold setItem
  try with_reducible refine wpAny_holding ?_
  refine wpAny_bind (wpAny_sequenceKey (hm.typeIs) (by decide) ?_)
  refine wpAny_bind (wpAny_callSpecial?_slot (name := Str.ofString "__setitem__") (hm.typeIs) slot_dict_setitem
    (wpAny_call_entry slot_dict_setitem (hm.typeIs) entry_dict_setitem ?_ (args_dict_setitem _ _ _)))
  show wpAny _ _ (Builtin.Dict.notOrdered "__setitem__" ⟨[.ref d, v, u], []⟩ >>= _) _ _ s
  refine wpAny_bind (wpAny_notOrdered_dict (hm.typeIs) ?_)
  show wpAny _ _ (dictSet d v u >>= _) _ _ s
  exact wpAny_bind (set_nest hm hk kd hu few fun h' hm' hs' => wpAny_pure ⟨.none, rfl, wpAny_pure (hQ h' hm' hs')⟩)
end
end MX

set_option Elab.async false
set_option linter.all false
set_option maxRecDepth 100000
set_option maxHeartbeats 4000000
/-! Dicts of flat keys and tuples, tracked. -/
namespace L2
open PySem PySem.Spec PyProof.Rows MX
/-- the dict at a: each key, what it is as a value, what stands under it -/
def MixO (w : World) (a : Addr) (kvs : List (NestedKey × V × V)) : HO := .ext fun h => kvs.length ≤ sizeLine ∧ (a == sysModules) = false ∧ ∃ xs : List (NestedKey × Value × Value),
  Paired (fun p q => p.1 = q.1 ∧ RelV p.2.1 q.2.1 ∧ RelV p.2.2 q.2.2) kvs xs ∧ ∃ o es ep, h.get? a = some o ∧ o.ExactDict ∧ o.data = .dict es ep ∧ es.toList = xs.map (entN w) ∧ (xs.map (·.1)).Nodup
/-- the key k is the value x: a flat one -/
inductive KeyF : NestedKey → V → Prop
  | none : KeyF .none .non
  | int (i : Int) : KeyF (.num i) (.int i)
  | text (z : Str) : KeyF (.text z) (.str z)
  | bool (b : Bool) : KeyF (.num (if b = true then 1 else 0)) (.bl b)
inductive KeyFs : List NestedKey → List V → Prop
  | nil : KeyFs [] []
  | cons {k : NestedKey} {x : V} {ks : List NestedKey} {xs : List V} : KeyF k x → KeyFs ks xs → KeyFs (k :: ks) (x :: xs)
/-- .. or a tuple of such -/
inductive KeyV (H : Hp) : NestedKey → V → Prop
  | flat {k : NestedKey} {x : V} : KeyF k x → KeyV H k x
  | tup {t : Addr} {ks : List NestedKey} {xs : List V} : H t = some (.tup xs) → KeyFs ks xs → KeyV H (.tup ks) (.ref t)
theorem KeyF.is {h : Heap} {k : NestedKey} {x : V} {u : Value} (f : KeyF k x) (r : RelV x u) : NestedIs h k u ∧ k.depth = 0 := by
  cases f with
  | none => cases r; exact ⟨.none, rfl⟩
  | int i => obtain ⟨t, rfl⟩ := r; exact ⟨.int _ _, rfl⟩
  | text z => obtain ⟨t, rfl⟩ := r; exact ⟨.text _ _, rfl⟩
  | bool b => cases r; exact ⟨.bool rfl, rfl⟩
theorem KeyFs.all {h : Heap} {ks : List NestedKey} {xs : List V} {us : List Value} (f : KeyFs ks xs) (r : Vals xs us) : NestedAll h ks us ∧ NestedKey.depthAll ks = 0 := by
  induction f generalizing us with
  | nil => cases r; exact ⟨.nil, rfl⟩
  | cons g _ ih =>
    cases r with
    | cons r1 r2 =>
      have a := ih r2
      have b := g.is (h := h) r1
      refine ⟨.cons b.1 a.1, ?_⟩
      simp only [NestedKey.depthAll]
      omega
section
variable {X : Cx} {pins : List (Addr × Obj)} {σ : St} {H : Hp} {s : Shared} {k : NestedKey} {x : V} {u : Value}
theorem KeyV.is (I : Inv X pins σ H s) (f : KeyV H k x) (r : RelV x u) : NestedIs s.heap k u ∧ k.depth ≤ 8 := by
  cases f with
  | flat g =>
    have z := g.is (h := s.heap) r
    exact ⟨z.1, by omega⟩
  | tup ht g =>
    obtain rfl : u = Value.ref _ := r
    obtain ⟨_, its, rv, ob⟩ := I.hok _ _ ht
    have z := g.all (h := s.heap) rv
    obtain ⟨o, e1, e2, n, e3⟩ := ob
    exact ⟨.tup e1 e2 e3 (show NestedAll _ _ its.toArray.toList from z.1), by show NestedKey.depthAll _ + 1 ≤ 8; omega⟩
end
/-- one key stored -/
def putM (kvs : List (NestedKey × V × V)) (k : NestedKey) (x v : V) : List (NestedKey × V × V) := if k ∈ kvs.map (·.1) then kvs.map (fun p => if p.1 = k then (p.1, p.2.1, v) else p) else kvs ++ [(k, x, v)]
/-- what stands under a key -/
def atM (kvs : List (NestedKey × V × V)) (k : NestedKey) : Option V := (kvs.find? fun p => decide (p.1 = k)).map (·.2.2)
abbrev PairM (kvs : List (NestedKey × V × V)) (xs : List (NestedKey × Value × Value)) : Prop := Paired (fun p q => p.1 = q.1 ∧ RelV p.2.1 q.2.1 ∧ RelV p.2.2 q.2.2) kvs xs
theorem PairM.keys {kvs : List (NestedKey × V × V)} {xs : List (NestedKey × Value × Value)} (h : PairM kvs xs) : kvs.map (·.1) = xs.map (·.1) := by
  induction h with
  | nil => rfl
  | cons e _ ih => rw [List.map_cons, List.map_cons, e.1, ih]
theorem PairM.len {kvs : List (NestedKey × V × V)} {xs : List (NestedKey × Value × Value)} (h : PairM kvs xs) : kvs.length = xs.length := by
  induction h with
  | nil => rfl
  | cons e _ ih => rw [List.length_cons, List.length_cons, ih]
theorem PairM.at {kvs : List (NestedKey × V × V)} {xs : List (NestedKey × Value × Value)} (h : PairM kvs xs) (k : NestedKey) : RelO (atM kvs k) (atN xs k) := by
  unfold atM atN
  induction h with
  | nil => first | exact True.intro | exact .none | exact ⟨⟩
  | @cons a b l1 l2 e _ ih =>
    rw [List.find?_cons, List.find?_cons, e.1]
    cases decide (b.1 = k) with
    | true => exact e.2.2
    | false => exact ih
theorem PairM.put {kvs : List (NestedKey × V × V)} {xs : List (NestedKey × Value × Value)} (h : PairM kvs xs) {k : NestedKey} {x v : V} {u r : Value} (rx : RelV x u) (rv : RelV v r) : PairM (putM kvs k x v) (storeN xs k u r) := by
  unfold putM storeN
  rw [h.keys]
  split
  · rename_i hin
    clear rx hin
    induction h with
    | nil => exact .nil
    | @cons a b l1 l2 e _ ih =>
      rw [List.map_cons, List.map_cons]
      refine .cons ?_ ih
      unfold putN
      rw [e.1]
      split
      · exact ⟨rfl, e.2.1, rv⟩
      · exact e
  · exact h.snoc ⟨rfl, rx, rv⟩
theorem putM_len (kvs : List (NestedKey × V × V)) (k : NestedKey) (x v : V) : (putM kvs k x v).length ≤ kvs.length + 1 := by
  unfold putM
  split
  · rw [List.length_map]
    exact Nat.le_succ _
  · rw [List.length_append]
    exact Nat.le_refl _
/-- it is there, and so are its keys -/
structure MixD (w : World) (H : Hp) (a : Addr) (kvs : List (NestedKey × V × V)) : Prop where
  at_ : H a = some (MixO w a kvs)
  keys : ∀ p ∈ kvs, KeyV H p.1 p.2.1
theorem mix_ok {P : Program} {w : World} {H : Hp} {h : Heap} {a : Addr} {kvs : List (NestedKey × V × V)} {xs : List (NestedKey × Value × Value)} (few : kvs.length ≤ sizeLine) (hd : (a == sysModules) = false) (r : PairM kvs xs)
    (x : ∃ o es ep, h.get? a = some o ∧ o.ExactDict ∧ o.data = .dict es ep ∧ es.toList = xs.map (entN w) ∧ (xs.map (·.1)).Nodup) : ObjOk P w H h a (MixO w a kvs) := by
  refine ⟨⟨few, hd, xs, r, x⟩, ?_, fun h1 h2 z k => ?_⟩
  · obtain ⟨o, es, ep, e, _⟩ := x
    exact ⟨o, e⟩
  · obtain ⟨few2, hd2, xs2, r2, o, es, ep, e, q⟩ := z
    exact ⟨few2, hd2, xs2, r2, o, es, ep, k _ e, q⟩
section
variable {X : Cx} {pins : List (Addr × Obj)} {σ : St} {H : Hp} {s : Shared} {a : Addr} {kvs : List (NestedKey × V × V)} {k : NestedKey} {x v : V} {u r : Value} {A : Around} {E : Value → Shared → Prop}
theorem PairM.keysN {xs : List (NestedKey × Value × Value)} (p : PairM kvs xs) (I : Inv X pins σ H s) (hk : ∀ p ∈ kvs, KeyV H p.1 p.2.1) : KeysN s.heap xs := by
  induction p with
  | nil => exact fun y hy => nomatch hy
  | @cons c d l1 l2 e _ ih =>
    intro y hy
    rcases List.mem_cons.mp hy with rfl | z
    · have q := (hk c List.mem_cons_self).is I e.2.1
      rw [e.1] at q
      exact q
    · exact ih (fun p hp => hk p (List.mem_cons_of_mem _ hp)) y z
theorem MixD.dict (I : Inv X pins σ H s) (m : MixD X.w H a kvs) : kvs.length ≤ sizeLine ∧ (a == sysModules) = false ∧ ∃ xs, PairM kvs xs ∧ DictN X.w s.heap a xs := by
  obtain ⟨⟨few, hd, xs, p, o, es, ep, h1, h2, h3, h4, h5⟩, _, _⟩ := I.hok a _ m.at_
  refine ⟨few, hd, xs, p, o, es, ep, h1, h2, h3, h4, PairM.keysN p I m.keys, h5⟩
/-- d[y], there -/
theorem m_getItem {Q : Value → Shared → Prop} (hu : A.in1.units + 8 < cLine) (I : Inv X pins σ H s) (m : MixD X.w H a kvs) (hk : KeyV H k x) (rx : RelV x u) (l : atM kvs k = some v) (h : ∀ w' s', Inv X pins σ H s' → RelV v w' → Q w' s') :
    wpAny (model X.prog X.w) A (getItem (.ref a) u) Q E s := by
  obtain ⟨few, hd, xs, p, D⟩ := m.dict I
  have z := hk.is I rx
  obtain ⟨w', hw, rw'⟩ := RelO.some_of (v := v) (o := atN xs k) (by rw [← l]; exact PairM.at p k)
  exact getItem_nest D z.1 z.2 hu hw (h w' _ (I.tok _) rw')
/-- y in d -/
theorem m_contains {Q : Bool → Shared → Prop} (hu : A.in1.units + 8 < cLine) (I : Inv X pins σ H s) (m : MixD X.w H a kvs) (hk : KeyV H k x) (rx : RelV x u) (h : ∀ s', Inv X pins σ H s' → Q (atM kvs k).isSome s') :
    wpAny (model X.prog X.w) A (contains (.ref a) u) Q E s := by
  obtain ⟨few, hd, xs, p, D⟩ := m.dict I
  have z := hk.is I rx
  refine contains_nest D hd z.1 z.2 hu ?_
  rw [← (PairM.at p k).isSome_eq]
  exact h _ (I.tok _)
/-- d[y] = v -/
theorem m_setItem {Q : Unit → Shared → Prop} (hu : A.in1.units + 8 < cLine) (I : Inv X pins σ H s) (m : MixD X.w H a kvs) (hl : kvs.length < sizeLine) (hk : KeyV H k x) (rx : RelV x u) (rv : RelV v r)
    (h : ∀ s', Inv X pins σ (upd H a (MixO X.w a (putM kvs k x v))) s' → Q () s') : wpAny (model X.prog X.w) A (setItem (.ref a) u r) Q E s := by
  obtain ⟨few, hd, xs, p, D⟩ := m.dict I
  have z := hk.is I rx
  refine setItem_nest D z.1 z.2 hu (by rw [← PairM.len p]; exact few) fun h' D' hs => h _ ?_
  obtain ⟨o, es, ep, e1, e2, e3, e4, _, e5⟩ := D'
  exact d_write I (by rw [m.at_]; exact True.intro) hs ⟨o, e1⟩ (mix_ok (by have := putM_len kvs k x v; omega) hd (PairM.put p rx rv) ⟨o, es, ep, e1, e2, e3, e4, e5⟩)
/-- {} -/
theorem pe_dnewM {pos : Pos} : PE X (.Dict [] [] pos) (fun _ H Q => ∀ p, H p = none → Q (.ref p) (upd H p (MixO X.w p []))) := ⟨fun pins s σ H Q I h =>
  wpAny_Dict_empty ⟨.ref s.heap.objs.size, _, I.laid (a := s.heap.objs.size) (o := MixO X.w s.heap.objs.size []) (t' := s.toks) (fun _ _ q => Heap.get?_push_of_some _ q) (Nat.le_refl _)
    (mix_ok (xs := []) (Nat.zero_le _) (beq_eq_false_iff_ne.mpr (Ne.symm (Nat.ne_of_lt I.big))) .nil ⟨_, #[], 0, Heap.get?_push_size _ rfl, ⟨rfl, rfl, rfl⟩, rfl, rfl, List.nodup_nil⟩), rfl, h _ (I.hok.fresh (Nat.le_refl _))⟩⟩
end
end L2

set_option Elab.async false
set_option linter.all false
set_option maxRecDepth 100000
set_option maxHeartbeats 4000000
/-! d[k] = v, d[k], k in d in terms, for dicts of flat keys and tuples. -/
namespace L2
open PySem PySem.Spec PyProof.Rows MX
section
variable {X : Cx}
def rSetM (w : World) : TSet := fun o i v H Q => ∃ (a : Addr) (kvs : List (NestedKey × V × V)) (k : NestedKey), o = .ref a ∧ MixD w H a kvs ∧ kvs.length < sizeLine ∧ KeyV H k i ∧ Q (upd H a (MixO w a (putM kvs k i v)))
theorem set_mix (hu : X.A.units + 9 < cLine) : PSet X (rSetM X.w) := by
  intro pins s σ H o i v ov iv u Q I ro ri rv h
  obtain ⟨a, kvs, k, rfl, m, hl, hk, q⟩ := h
  obtain rfl : ov = Value.ref a := ro
  exact m_setItem (by show X.A.units + 1 + 8 < cLine; omega) I m hl hk ri rv fun s' I' => ⟨_, I', q⟩
def rGetM (w : World) : V → V → Hp → VK → Prop := fun o i H Q => ∃ (a : Addr) (kvs : List (NestedKey × V × V)) (k : NestedKey) (v : V), o = .ref a ∧ MixD w H a kvs ∧ KeyV H k i ∧ atM kvs k = some v ∧ Q v H
theorem get_mix (hu : X.A.units + 9 < cLine) : PGet X (rGetM X.w) := by
  intro pins s σ H o i ov iv Q I ro ri h
  obtain ⟨a, kvs, k, v, rfl, m, hk, l, q⟩ := h
  obtain rfl : ov = Value.ref a := ro
  exact m_getItem (by show X.A.units + 1 + 8 < cLine; omega) I m hk ri l fun w' s' I' rw' => ⟨v, H, I', rw', q⟩
def rInM (w : World) : R2 := fun x y H Q => ∃ (a : Addr) (kvs : List (NestedKey × V × V)) (k : NestedKey), y = .ref a ∧ MixD w H a kvs ∧ KeyV H k x ∧ Q (.bl (atM kvs k).isSome) H
theorem op_in_mix (hu : X.A.units + 9 < cLine) : OpR X (compareOp .In) (rInM X.w) := by
  intro pins s σ H x y v u Q I rx ry h
  obtain ⟨a, kvs, k, rfl, m, hk, q⟩ := h
  obtain rfl : u = Value.ref a := ry
  show wpAny _ _ (do return Value.bool (← contains (Value.ref a) v)) _ _ s
  exact wpAny_bind (m_contains (by show X.A.units + 1 + 8 < cLine; omega) I m hk rx fun s' I' => wpAny_pure ⟨.bl (atM kvs k).isSome, H, I', rfl, q⟩)
end
/-- the keys stay where the heap only grows -/
theorem KeyV.same {H H2 : Hp} {k : NestedKey} {x : V} (f : KeyV H k x) (s : Same H H2) : KeyV H2 k x := by
  cases f with
  | flat g => exact .flat g
  | tup h g => exact .tup (s _ _ h) g
theorem MixD.same {w : World} {H H2 : Hp} {a : Addr} {kvs : List (NestedKey × V × V)} (m : MixD w H a kvs) (s : Same H H2) : MixD w H2 a kvs := ⟨s _ _ m.at_, fun p hp => (m.keys p hp).same s⟩
/-- stored -/
theorem MixD.put {w : World} {H : Hp} {a : Addr} {kvs : List (NestedKey × V × V)} {k : NestedKey} {x v : V} (m : MixD w H a kvs) (hk : KeyV H k x) : MixD w (upd H a (MixO w a (putM kvs k x v))) a (putM kvs k x v) := by
  have up : ∀ {j : NestedKey} {y : V}, KeyV H j y → KeyV (upd H a (MixO w a (putM kvs k x v))) j y := fun f => by
    cases f with
    | flat g => exact .flat g
    | tup h g =>
      refine .tup ?_ g
      rw [upd_ne fun z => ?_]
      · exact h
      · rw [z, m.at_] at h
        cases h
  refine ⟨upd_same, fun p hp => ?_⟩
  unfold putM at hp
  split at hp
  · obtain ⟨q, hq, rfl⟩ := List.mem_map.mp hp
    have z := up (m.keys q hq)
    split
    · exact z
    · exact z
  · rcases List.mem_append.mp hp with z | z
    · exact up (m.keys p z)
    · obtain rfl := List.mem_singleton.mp z
      exact up hk
theorem MixD.new {w : World} {H : Hp} {a : Addr} : MixD w (upd H a (MixO w a [])) a [] := ⟨upd_same, fun p hp => nomatch hp⟩
end L2

set_option Elab.async false
set_option linter.all false
set_option maxRecDepth 100000
set_option maxHeartbeats 4000000
/-! for k in d, d a dict of flat keys and tuples. -/
namespace L2
open PySem PySem.Spec PyProof.Rows MX
/-- the keys of the locked dict at d, in their order -/
def Itm (w : World) (d : Addr) (o : Obj) (kvs : List (NestedKey × V × V)) : It :=
  ⟨fun i H => H d = some (.frz o (MixO w d kvs)) ∧ i < kvs.length, fun i H x H' => H' = H ∧ ∃ k v, kvs[i]? = some (k, x, v), fun i H => H d = some (.frz o (MixO w d kvs)) ∧ kvs.length ≤ i⟩
theorem PairM.get {kvs : List (NestedKey × V × V)} {xs : List (NestedKey × Value × Value)} (h : PairM kvs xs) {i : Nat} {p : NestedKey × V × V} (e : kvs[i]? = some p) : ∃ q, xs[i]? = some q ∧ RelV p.2.1 q.2.1 ∧ RelV p.2.2 q.2.2 := by
  induction h generalizing i with
  | nil => simp at e
  | @cons a b l1 l2 r _ ih =>
    cases i with
    | zero =>
      rw [List.getElem?_cons_zero] at e
      cases e
      exact ⟨b, rfl, r.2⟩
    | succ j =>
      rw [List.getElem?_cons_succ] at e ⊢
      exact ih e
section
variable {X : Cx} {pins : List (Addr × Obj)} {σ : St} {H : Hp} {s : Shared} {d : Addr} {o : Obj} {kvs : List (NestedKey × V × V)}
theorem Inv.frzM (I : Inv X pins σ H s) (h : H d = some (.frz o (MixO X.w d kvs))) : (d == sysModules) = false ∧ s.heap.get? d = some o ∧ o.ExactDict ∧ ∃ (es : Array DictEntry) (ep : Nat), o.data = .dict es ep ∧ es.size = kvs.length ∧
    ∀ (i : Nat) (k : NestedKey) (x v : V), kvs[i]? = some (k, x, v) → ∃ en : DictEntry, es[i]? = some en ∧ RelV x en.key := by
  obtain ⟨ho, ⟨few, hs, xs, p, o', es, ep, ho', hx, hdt, he, _⟩, _, _⟩ := I.hok d _ h
  rw [ho] at ho'
  cases ho'
  refine ⟨hs, ho, hx, es, ep, hdt, by rw [ent_size he, PairM.len p], fun i k x v e => ?_⟩
  obtain ⟨q, hq, r, _⟩ := PairM.get p e
  have hi : i < xs.length := (List.getElem?_eq_some_iff.mp hq).1
  have hi2 : i < es.size := by rw [ent_size he]; exact hi
  refine ⟨entN X.w q, ?_, r⟩
  rw [Array.getElem?_eq_getElem hi2, ent_at he hi2]
  rw [List.getElem?_eq_getElem hi] at hq
  rw [Option.some.inj hq]
end
section
variable {P : Program} {w : World} {K : PySem.W.Frag} {tg : Expr} {d : Addr} {o : Obj} {es : Array DictEntry} {ep : Nat}
theorem turn_keysM {kvs : List (NestedKey × V × V)} (it : Addr) (hod : o.data = .dict es ep) : Turn P w K tg (Itm w d o kvs) [it] it (fun i h => h.IsKeyIter it d i kvs.length ep) where
  mem := by simp
  obj := fun i h st b hb => by
    obtain rfl : b = it := by simpa using hb
    obtain ⟨oi, e, c, dd⟩ := st
    exact ⟨oi, e, fun v z => by rw [dd] at z; cases z⟩
  keep := fun i h h' st k => st.at fun oi e => k it (by simp) oi e
  item := by
    intro X hP hw hK hc i pins s σ H E I hf st hg
    subst hP hw hK
    obtain ⟨hd, hi⟩ := hg
    obtain ⟨f0, f1, f2, f3, f4, f5⟩ := hf it (by simp)
    obtain ⟨hs, hgd, hx, es', ep', hdt, hsz, ent⟩ := I.frzM hd
    obtain ⟨rfl, rfl⟩ := dict_ep hod hdt
    obtain ⟨⟨k, x, v⟩, hkv⟩ : ∃ p, kvs[i]? = some p := ⟨kvs[i], List.getElem?_eq_getElem hi⟩
    obtain ⟨en, hen, hr⟩ := ent i k x v hkv
    refine next_key_item st hgd hdt hsz hen fun h' st' sb => ?_
    have I1 : Inv X pins σ H { s with heap := h' } := I.turned (t' := s.toks) (fun b ob hb e => (sb.2 b hb).trans e) f0 f1 f3 f4 f5
    obtain ⟨oi, e, c, dd⟩ := id st'
    exact ⟨en.key, rfl, go_of (s := { s with heap := h' }) e c dd (by decide) ⟨x, H, I1, hr, ⟨rfl, k, v, hkv⟩, st', fun b hb => (hf b hb).1⟩⟩
  done := by
    intro X hP hw hK hc i pins s σ H E I hf st hg
    subst hP hw hK
    obtain ⟨hd, hi⟩ := hg
    obtain ⟨f0, f1, f2, f3, f4, f5⟩ := hf it (by simp)
    obtain ⟨hs, hgd, hx, es', ep', hdt, hsz, ent⟩ := I.frzM hd
    obtain ⟨rfl, rfl⟩ := dict_ep hod hdt
    exact next_key_end (I.ok.hd hc) st hgd hdt hsz hi fun h' eb => ⟨rfl, I.turned (t' := s.toks) (fun b ob hb e => eb b ob hb e) f0 f1 f3 f4 f5⟩
  self := fun A i s Q E st h => wpAny_pyIter_keyiter st h
def iKeysX (w : World) (td : TE) : TI := fun σ H R => td σ H fun x H1 => ∃ d o kvs, x = .ref d ∧ H1 d = some (.frz o (MixO w d kvs)) ∧ R (Itm w d o kvs) H1
end
section
variable {X : Cx} {tg e : Expr} {td : TE}
/-- for k in d, d locked -/
theorem pi_keysX (he : PE X e td) : PI X tg e (iKeysX X.w td) := by
  refine ⟨fun pins s σ H R I h => ?_⟩
  refine thn (he.run pins s σ H _ I h) fun u s1 ⟨x, H1, I1, rx, d, o, kvs, ex, hd, q⟩ => ?_
  subst ex
  obtain rfl : u = Value.ref d := rx
  obtain ⟨hs, hgd, hx, es, ep, hdt, hsz, ent⟩ := I1.frzM hd
  refine iter_keys hs hgd hx hdt (pi_one (tk := s1.toks) I1 _ (turn_keysM _ hdt) ⟨_, Heap.get?_push_size _ rfl, rfl, ?_⟩ q)
  rw [hsz] <;> rfl
end
end L2

set_option Elab.async false
set_option linter.all false
set_option maxRecDepth 100000
set_option maxHeartbeats 4000000
/-! Such a dict whose keys are all texts is a dict of texts. -/
namespace L2
open PySem PySem.Spec PyProof.Rows MX
def txM (ts : List (Str × V)) : List (NestedKey × V × V) := ts.map fun p => (.text p.1, .str p.1, p.2)
def txK (ts : List (Str × V)) : List (Key × V) := ts.map fun p => (Sum.inr p.1, p.2)
theorem pair_texts {P : Program} {w : World} {ts : List (Str × V)} {xs : List (NestedKey × Value × Value)} (h : PairM (txM ts) xs) : ∃ vs : List (Key × Value), KV (txK ts) vs ∧ (∀ e ∈ xs.map (entN w), ∃ k, (mixKind P w).is k e.key = true ∧ e.hash = (mixKind P w).hash k) ∧ Pairs (mixKind P w) (xs.map (entN w)) vs ∧
    vs.map (·.1) = ts.map (fun p => (Sum.inr p.1 : Key)) ∧ xs.map (·.1) = ts.map (fun p => NestedKey.text p.1) := by
  induction ts generalizing xs with
  | nil =>
    cases h
    exact ⟨[], .nil, fun e he => (nomatch he), .nil, rfl, rfl⟩
  | cons t ts ih =>
    cases h with
    | @cons a b l1 l2 e r =>
      obtain ⟨vs, h1, h2, h3, h4, h5⟩ := ih r
      obtain ⟨z1, z2, z3⟩ := e
      obtain ⟨tk, z4⟩ := z2
      have k1 : (mixKind P w).is (Sum.inr t.1) (entN w b).key = true := by
        show keyIs (.inr t.1) b.2.1 = true
        rw [z4]
        exact keyIs_str _ _
      refine ⟨(Sum.inr t.1, b.2.2) :: vs, .cons ⟨rfl, z3⟩ h1, fun en he => ?_, ?_, by rw [List.map_cons, List.map_cons, h4], by rw [List.map_cons, List.map_cons, h5, ← z1]⟩
      · rcases List.mem_cons.mp he with rfl | m
        · refine ⟨Sum.inr t.1, k1, ?_⟩
          show b.1.hash w = _
          rw [← z1]
          rfl
        · exact h2 en m
      · exact .cons k1 rfl h3
section
variable {X : Cx} {pins : List (Addr × Obj)} {σ : St} {H : Hp} {s : Shared} {a : Addr} {ts : List (Str × V)}
/-- .. from now on tracked as one -/
theorem Inv.texts (I : Inv X pins σ H s) (e : H a = some (MixO X.w a (txM ts))) : Inv X pins σ (upd H a (.dK (txK ts))) s := by
  obtain ⟨⟨few, hd, xs, p, o, es, ep, h1, h2, h3, h4, h5⟩, _, _⟩ := I.hok a _ e
  refine I.reword e ?_
  obtain ⟨vs, q1, q2, q3, q4, q5⟩ := pair_texts (P := X.prog) (w := X.w) p
  refine ⟨by show (ts.map _).length ≤ _; rw [List.length_map]; rw [show (txM ts).length = ts.length from List.length_map _] at few; exact few, hd, vs, q1, o, es, ep, h1, h2, h3, fun en he => q2 en (by rw [← h4]; exact Array.mem_toList_iff.mpr he), by rw [h4]; exact q3, ?_⟩
  rw [q4]
  rw [q5] at h5
  rw [List.nodup_iff_pairwise_ne] at h5 ⊢
  rw [List.pairwise_map] at h5 ⊢
  exact h5.imp fun ne z => ne (by rw [Sum.inr.inj z])
end
end L2

set_option Elab.async false
set_option linter.all false
set_option maxRecDepth 100000
set_option maxHeartbeats 4000000
/-! len(set(xs)), xs a list of any texts. -/
namespace SetT
open PySem PySem.Spec PyProof.Rows
/-- one more, unless it is there -/
def add1 (acc : List Str) (y : Str) : List Str := if y ∈ acc then acc else acc ++ [y]
/-- each once, as first met -/
def uqs (ys : List Str) : List Str := ys.foldl add1 []
theorem uqs_snoc (ys : List Str) (y : Str) : uqs (ys ++ [y]) = add1 (uqs ys) y := by
  unfold uqs
  rw [List.foldl_append]
  rfl
theorem mem_add1 {acc : List Str} {x y : Str} : x ∈ add1 acc y ↔ x ∈ acc ∨ x = y := by
  unfold add1
  split
  · rename_i h
    exact ⟨.inl, fun z => z.elim id fun e => e ▸ h⟩
  · rw [List.mem_append, List.mem_singleton]
theorem uqs_mem {x : Str} : ∀ {ys acc : List Str}, x ∈ ys.foldl add1 acc ↔ x ∈ acc ∨ x ∈ ys
  | [], acc => by simp
  | y :: ys, acc => by
    rw [List.foldl_cons, uqs_mem (ys := ys), mem_add1, List.mem_cons, or_assoc]
theorem mem_uqs {x : Str} {ys : List Str} : x ∈ uqs ys ↔ x ∈ ys := by
  unfold uqs
  rw [uqs_mem]
  simp
theorem nd_add1 {acc : List Str} {y : Str} (h : acc.Nodup) : (add1 acc y).Nodup := by
  unfold add1
  split
  · exact h
  · rename_i hn
    refine List.nodup_append.mpr ⟨h, by simp, fun a ha b hb e => hn ?_⟩
    rw [List.mem_singleton.mp hb] at e
    exact e ▸ ha
theorem nd_fold : ∀ {ys acc : List Str}, acc.Nodup → (ys.foldl add1 acc).Nodup
  | [], _, h => h
  | _ :: ys, _, h => nd_fold (ys := ys) (nd_add1 h)
theorem uqs_nd (ys : List Str) : (uqs ys).Nodup := nd_fold List.nodup_nil
theorem len_add1 (acc : List Str) (y : Str) : (add1 acc y).length = if y ∈ acc then acc.length else acc.length + 1 := by
  unfold add1
  split
  · rfl
  · rw [List.length_append]
    rfl
theorem len_fold : ∀ (ys acc : List Str), (ys.foldl add1 acc).length ≤ acc.length + ys.length
  | [], _ => Nat.le_refl _
  | y :: ys, acc => by
    have h1 := len_fold ys (add1 acc y)
    have h2 : (add1 acc y).length ≤ acc.length + 1 := by
      rw [len_add1]
      split <;> omega
    rw [List.foldl_cons, List.length_cons]
    omega
theorem uqs_len (ys : List Str) : (uqs ys).length ≤ ys.length := by
  have h := len_fold ys []
  show (ys.foldl add1 []).length ≤ ys.length
  simpa using h
/-- two lists without doubles and with the same members are of one length -/
theorem nd_sub {α : Type} [DecidableEq α] : ∀ {a b : List α}, a.Nodup → (∀ x ∈ a, x ∈ b) → a.length ≤ b.length
  | [], _, _, _ => Nat.zero_le _
  | x :: a, b, h, hs => by
    have hx : x ∈ b := hs x List.mem_cons_self
    have h1 := List.nodup_cons.mp h
    have ih := nd_sub (a := a) (b := b.erase x) h1.2 fun y hy => (List.mem_erase_of_ne (fun e : y = x => h1.1 (e ▸ hy))).mpr (hs y (List.mem_cons_of_mem _ hy))
    rw [List.length_erase_of_mem hx] at ih
    have : 0 < b.length := List.length_pos_of_mem hx
    rw [List.length_cons]
    omega
theorem nd_same {α : Type} [DecidableEq α] {a b : List α} (ha : a.Nodup) (hb : b.Nodup) (h : ∀ x, x ∈ a ↔ x ∈ b) : a.length = b.length :=
  Nat.le_antisymm (nd_sub ha fun x hx => (h x).mp hx) (nd_sub hb fun x hx => (h x).mpr hx)
section
variable {P : Program} {w : World} {A : Around} {R : Result → Shared → Prop} {J : Addr} {fr ws : List Addr} {G : Array GenState → Array GenState → Prop} {n : Nat} {Pv : Nat → Value → Prop} {St : Nat → Shared → Prop}
theorem setOf_moved {h g : Heap} {D : Addr} {S : Str → Bool} {m : Nat} (x : h.SetOf (strKind P w) D S m) (e : ∀ o, h.get? D = some o → g.get? D = some o) : g.SetOf (strKind P w) D S m := by
  obtain ⟨o, es, ep, t, ho, r⟩ := x
  exact ⟨o, es, ep, t, e o ho, r⟩
theorem fill_texts (W : WalksS P w A.in1 J fr ws G n Pv St) (D : Addr) (off : D ∉ fr) (ys : List Str) (many : ys.length = n) (few : n ≤ 4000) (val : ∀ j v, Pv j v → ∃ tk, v = .str (ys.getD j Str.empty) tk) :
    ∀ (left j : Nat) (z : Shared), n - j = left → j ≤ n → St j z → z.heap.SetOf (strKind P w) D (fun y => decide (y ∈ uqs (ys.take j))) (uqs (ys.take j)).length →
      (∀ z2, Moved (D :: ws) G z z2 → z2.heap.SetOf (strKind P w) D (fun y => decide (y ∈ uqs ys)) (uqs ys).length → R (.ok (.ret .none)) z2) →
      codeAny (model P w) A (.builtin "set.update.loop" ⟨[.ref D, .ref J], []⟩) R z := by
  have away : D ∉ ws := fun q => off (W.sub _ q)
  have more : ∀ b ∈ ws, b ∈ D :: ws := fun b q => List.mem_cons_of_mem _ q
  intro left
  induction left with
  | zero =>
    intro j z hl hj st set out
    obtain rfl : j = n := by omega
    rw [List.take_of_length_le (by omega)] at set
    refine codeAny_builtin PyProof.Rows.F.entry_set_update_loop ?_
    rw [Around.under_plainId PyProof.Rows.F.plain_set_update_loop _]
    show wpAny _ A.in1 (pyNext (.ref J) >>= _) _ _ z
    refine wpAny_bind (W.done z _ _ st fun z2 mv => ?_)
    show wpAny _ A.in1 (ret Value.none) _ _ z2
    exact wpAny_pure (out z2 (mv.mono more) (setOf_moved set fun o e => mv.heap D _ away e))
  | succ left ih =>
    intro j z hl hj st set out
    have lt : j < n := by omega
    refine codeAny_builtin PyProof.Rows.F.entry_set_update_loop ?_
    rw [Around.under_plainId PyProof.Rows.F.plain_set_update_loop _]
    show wpAny _ A.in1 (pyNext (.ref J) >>= _) _ _ z
    refine wpAny_bind (W.item j z _ _ lt st fun v z2 pv st2 mv => ?_)
    obtain ⟨tk, rfl⟩ := val j v pv
    have set2 := setOf_moved set fun o e => mv.heap D _ away e
    have at_ : ys[j]? = some (ys.getD j Str.empty) := by
      rw [List.getD_eq_getElem?_getD, List.getElem?_eq_getElem (by omega)]
      rfl
    show wpAny _ A.in1 (holding [Value.str (ys.getD j Str.empty) tk] (setAdd D (.str (ys.getD j Str.empty) tk)) >>= _) _ _ z2
    refine wpAny_bind (wpAny_holding ?_)
    unfold setAdd
    refine wpAny_holding ?_
    refine wpAny_bind ((PySem.strKind P w).pyHash (k := ys.getD j Str.empty) (strKind_is _ _ _ _) ?_)
    have l1 := uqs_len (ys.take j)
    have l2 : (ys.take j).length ≤ j := by
      rw [List.length_take]
      omega
    refine wpAny_setAddHashed_of (knd := PySem.strKind P w) (s := { z2 with toks := z2.toks + 1 }) (strKind_is _ _ _ _) rfl set2 (by unfold scanBound; omega) fun g sb set3 => ?_
    have set4 : g.SetOf (PySem.strKind P w) D (fun y => decide (y ∈ uqs (ys.take (j + 1)))) (uqs (ys.take (j + 1))).length := by
      have e : ys.take (j + 1) = ys.take j ++ [ys.getD j Str.empty] := by rw [List.take_add_one, at_]; rfl
      rw [e, uqs_snoc]
      refine SetOf_congr set3 (fun y => ?_) ?_
      · rw [Bool.eq_iff_iff, Bool.or_eq_true, decide_eq_true_iff, decide_eq_true_iff, decide_eq_true_iff, mem_add1]
      · rw [len_add1]
        by_cases q : ys.getD j Str.empty ∈ uqs (ys.take j)
        · rw [if_pos q, if_pos (decide_eq_true q)]
        · rw [if_neg q, if_neg (by rw [decide_eq_false q]; exact Bool.false_ne_true)]
    refine wpAny_pure ⟨plainId_quiet PyProof.Rows.F.plain_set_update_loop _, ih (j + 1) _ (by omega) lt (W.frame _ z2 _ _ st2 (Nat.le_succ _) fun b q o e => ?_) set4 fun z3 mv3 set5 => ?_⟩
    · rw [sb.2 b (fun u : b = D => off (by rw [← u]; exact q))]
      exact e
    · refine out z3 (Moved.trans W.gtrans ((mv.mono more).then_heap (Nat.le_succ _) fun b o q e => ?_) mv3) set5
      rw [sb.2 b (fun u : b = D => q (by rw [u]; exact List.mem_cons_self))]
      exact e
end
section
variable {P : Program} {w : World} {A : Around} {E : Value → Shared → Prop} {z : Shared}
set_option maxHeartbeats 3200000 in
theorem set_texts {l : Addr} {its : Array Value} {ys : List Str} {Q : Value → Shared → Prop} (calm : A.handled = none) (at_ : z.heap.IsList l its) (txt : PyProof.Rows.StrsAre its.toList ys) (few : ys.length ≤ 4000)
    (go : ∀ (g : Heap) (tk : Nat), g.SetOf (PySem.strKind P w) z.heap.objs.size (fun y => decide (y ∈ uqs ys)) (uqs ys).length → (∀ b o, b < z.heap.objs.size → z.heap.get? b = some o → g.get? b = some o) → Q (.ref z.heap.objs.size) { z with heap := g, toks := tk }) :
    wpAny (model P w) A (call (.type "set") [.ref l]) Q E z := by
  obtain ⟨cc, tll, hmro2⟩ := PySem.F.called_set.mro
  have made2 := PySem.F.called_set.made
  have sub2 := PySem.F.called_set.sub
  refine wpAny_call (codeAny_of_tree ?_)
  show wpAny _ _ (callAny (.type "set") _) _ _ _
  refine wpAny_pure ⟨Code.quiet_builtin _ (by decide +kernel), codeAny_builtin PySem.F.entry_type_call ?_⟩
  rw [Around.under_plain (weight_type_call_type "set" [.ref l] []) rfl]
  have nt2 := PySem.F.called_set.notType
  have cr2 := PySem.F.called_set.canCreate
  have tc2 := PySem.F.typeCall_set_1 (.ref l)
  repeat (any_goals (first | assumption | wp_step))
  refine codeAny_mono (code_set_new_1 (.ref l) (E := E) (Q₁ := fun ob z1 => ∃ led : Bool, ob = .ref z.heap.objs.size ∧ z1 = { z with heap := z.heap.push { cls := .type "set", dict := none, data := .set #[] 0 (.fresh 0 0 led) } }) fun led => ⟨led, rfl, rfl⟩) fun r z1 hr => ?_
  match r, hr with
  | .error e, hr => exact hr
  | .ok .next, hr => exact hr.elim
  | .ok .brk, hr => exact hr.elim
  | .ok .cont, hr => exact hr.elim
  | .ok (.ret ob), hr =>
    obtain ⟨led, rfl, rfl⟩ := hr
    have new2 : (z.heap.push { cls := .type "set", dict := none, data := .set #[] 0 (.fresh 0 0 led) }).get? z.heap.objs.size = some { cls := .type "set", dict := none, data := .set #[] 0 (.fresh 0 0 led) } := Heap.get?_push_size _ rfl
    have ty2 : Shared.TypeIs { z with heap := z.heap.push { cls := .type "set", dict := none, data := .set #[] 0 (.fresh 0 0 led) } } (.ref z.heap.objs.size) "set" := ⟨_, new2, rfl⟩
    have li2 := PySem.F.called_set.init.lookup
    have bi2 := PySem.F.called_set.init.bind (.ref z.heap.objs.size)
    repeat (any_goals (first | assumption | wp_step))
    refine codeAny_mono (codeAny_call_builtin (R := wants (fun r z2 => r = .none ∧ ∃ g tk, z2 = { z with heap := g, toks := tk } ∧ g.SetOf (PySem.strKind P w) z.heap.objs.size (fun y => decide (y ∈ uqs ys)) (uqs ys).length ∧
        (∀ b o, b < z.heap.objs.size → z.heap.get? b = some o → g.get? b = some o)) E) PySem.F.called_set.init.plain PySem.F.entry_set_init (check_set_init_1 ty2 ?_)) fun r2 z2 hr2 => ?_
    · obtain ⟨⟨c0, d0, t0, s0⟩, o1, o2, n2, o3⟩ := at_
      simp only at o2 o3
      subst o2
      subst o3
      have at2 : (z.heap.push { cls := .type "set", dict := none, data := .set #[] 0 (.fresh 0 0 led) }).get? l = some { cls := .type "list", dict := d0, data := .seq its n2, slots := s0 } := Heap.get?_push_of_some _ o1
      have sl1 := PySem.F.sub_list_set
      have sl2 := PySem.F.sub_list_frozenset
      have ned : (Value.type "list" == Value.type "dict") = false := by decide
      have at3 : (z.heap.push { cls := .type "set", dict := none, data := .set #[] 0 (.fresh 0 0 led) }).IsList l its := ⟨_, at2, rfl, n2, rfl⟩
      unfold Builtin.«set.__init__» noKeywords Builtin.Frozenset.updateFrom
      generalize hIT : pyIter = IT
      wp_walk
      subst hIT
      refine wpAny_pyIter_list at3 ?_
      refine wpAny_bind (wpAny_runValue ?_)
      have ll : l < z.heap.objs.size := Heap.lt_size o1
      have calm3 : A.in1.in1.in1.handled = none := by simp [calm]
      have ne3 : l ≠ (z.heap.push { cls := .type "set", dict := none, data := .set #[] 0 (.fresh 0 0 led) }).objs.size := by
        rw [Heap.size_push]
        exact Nat.ne_of_lt (Nat.lt_succ_of_lt ll)
      have off3 : z.heap.objs.size ∉ [(z.heap.push { cls := .type "set", dict := none, data := .set #[] 0 (.fresh 0 0 led) }).objs.size, l] := by
        rw [Heap.size_push]
        simp only [List.mem_cons, List.mem_singleton, List.not_mem_nil, or_false, not_or]
        exact ⟨Nat.ne_of_lt (Nat.lt_succ_self _), Nat.ne_of_gt ll⟩
      have many : ys.length = its.size := by rw [← StrsAre.len_eq txt, Array.length_toList]
      have val3 : ∀ (i : Nat) (v : Value), its[i]? = some v → ∃ tk, v = .str (ys.getD i Str.empty) tk := fun i v hv => SS.strs_at txt i v (by rw [Array.getElem?_toList]; exact hv)
      refine fill_texts ((Walks.list calm3 _ l ne3 its).toS) z.heap.objs.size off3 ys many (by rw [← many]; exact few) val3 (its.size - 0) 0 _ (by omega) (Nat.zero_le _) ⟨⟨_, Heap.get?_push_size _ rfl, rfl, rfl⟩, (at3.push _)⟩ ?first ?last
      case first =>
        have get3 : ((z.heap.push { cls := .type "set", dict := none, data := .set #[] 0 (.fresh 0 0 led) }).push { cls := .type "list_iterator", data := .fields #[.ref l, .int 0 0] }).get? z.heap.objs.size = some { cls := .type "set", dict := none, data := .set #[] 0 (.fresh 0 0 led) } := Heap.get?_push_of_some _ new2
        exact PyProof.Rows.SetOf_congr ((PyProof.Rows.setObjOf_fresh (knd := PySem.strKind P w) led).setOf get3 (by unfold scanBound; omega)) (fun _ => rfl) rfl
      case last =>
        intro z3 mv set3
        obtain ⟨g, ge, dr, tk, os⟩ := z3
        obtain rfl : ge = z.gens := mv.gens
        obtain rfl : dr = z.drawn := mv.drawn
        obtain rfl : os = z.os := mv.os
        show wpAny _ _ _ _ _ _
        refine wpAny_pure ?_
        show wpAny _ _ (ret Value.none) _ _ _
        refine wpAny_pure ⟨rfl, g, tk, rfl, set3, fun b o q e => ?_⟩
        refine mv.heap b o ?_ (Heap.get?_push_of_some _ (Heap.get?_push_of_some _ e))
        rw [Heap.size_push]
        simp only [List.mem_cons, List.mem_singleton, List.not_mem_nil, or_false, not_or]
        exact ⟨Nat.ne_of_lt q, Nat.ne_of_lt (Nat.lt_succ_of_lt q)⟩
    · match r2, hr2 with
      | .error e, hr2 => exact hr2
      | .ok .next, hr2 => exact hr2.elim
      | .ok .brk, hr2 => exact hr2.elim
      | .ok .cont, hr2 => exact hr2.elim
      | .ok (.ret u), hr2 =>
        obtain ⟨rfl, g, tk, rfl, set3, keep3⟩ := hr2
        repeat (any_goals (first | assumption | wp_step))
        exact go _ _ set3 keep3
end
end SetT
namespace L2
open PySem PySem.Spec PyProof.Rows SetT
/-- len(set(xs)), xs a list of texts -/
def tLenSetS (K : PySem.W.Frag) (ta : TE) : TE := fun σ H Q => ta σ H fun x H1 => ∃ (l : Addr) (ys : List Str), x = .ref l ∧ SqL K H1 l (ys.map V.str) ∧ ys.length ≤ 4000 ∧ Q (.int ((uqs ys).length : Nat)) H1
theorem pe_lenSetS {X : Cx} {a : Expr} {ta : TE} {p p2 q pos : Pos} (calm : X.calm = true) (hg : Gl X "len") (hm : X.mg "len" = none) (hg2 : Gl X "set") (hm2 : X.mg "set" = none) (ha : PE X a ta)
    (na : starEach [a] X.env = (false, eval a X.env) :: starEach [] X.env := by rfl) : PE X (.Call (.Name "len" p) [.Call (.Name "set" p2) [a] [] q] [] pos) (tLenSetS X.K ta) := by
  refine ⟨fun pins s σ H Q I h => ?_⟩
  refine Call_ (ld_blt I hg hm boot_len ?_)
  refine PyProof.Rows.callWith_builtin1 (PyProof.Rows.args_cons ?_ rfl) rfl rfl
  refine Call_ (ld_blt I hg2 hm2 boot_set ?_)
  refine PyProof.Rows.callWith_type1 (PyProof.Rows.args_cons (thn (ha.run pins s σ H _ I h) fun v s1 ⟨x, H1, I1, r1, q1⟩ => PyProof.Rows.args_nil ?_) na) na rfl
  obtain ⟨l, ys, rfl, sq, few, q1⟩ := q1
  obtain rfl : v = Value.ref l := r1
  obtain ⟨its, rv, pl, hz⟩ := I1.list sq
  refine set_texts (I1.ok.hd calm) pl.isList (ys := ys) (by simpa using strsAre_of rv) few fun g tk set3 keep3 => PyProof.Rows.args_nil ?_
  obtain ⟨o, es, ep, t, ho, hex, hd, _, _, _, hf, hn⟩ := set3
  have I2 : Inv X pins σ H1 { s1 with heap := g, toks := tk } := I1.kept fun b o e => keep3 b o (Heap.lt_size e) e
  have l3 := uqs_len ys
  exact call_len_set ho hex hd hf (by rw [hn] <;> omega) ⟨.int ((uqs ys).length : Nat), H1, I2.tok _, ⟨_, by rw [hn]⟩, q1⟩
end L2

set_option Elab.async false
set_option linter.all false
set_option maxRecDepth 100000
set_option maxHeartbeats 4000000
/-! Two readings of one call; a dict whose keys are texts taken as one. -/
namespace L2
open PySem PySem.Spec PyProof.Rows MX
section
variable {X : Cx} {f : Value} {r1 r2 : List V → Hp → VK → Prop} {q1 q2 : R2} {o : Value → Value → Sem Value} {e : Expr} {t : TE}
def tTexts (w : World) (t : TE) : TE := fun σ H Q => t σ H fun v H1 => Q v H1 ∨ ∃ (a : Addr) (ts : List (Str × V)), H1 a = some (MixO w a (txM ts)) ∧ Q v (upd H1 a (.dK (txK ts)))
theorem pe_texts (h : PE X e t) : PE X e (tTexts X.w t) := by
  refine ⟨fun pins s σ H Q I q => thn (h.run pins s σ H _ I q) fun v s1 z => ?_⟩
  obtain ⟨x, H1, I1, r, q1⟩ := z
  rcases q1 with q1 | ⟨a, ts, e, q1⟩
  · exact ⟨x, H1, I1, r, q1⟩
  · exact ⟨x, _, I1.texts e, r, q1⟩
/-- either of two expressions' readings -/
theorem PE.or {t2 : TE} (h1 : PE X e t) (h2 : PE X e t2) : PE X e (fun σ H Q => t σ H Q ∨ t2 σ H Q) := by
  refine ⟨fun pins s σ H Q I q => ?_⟩
  rcases q with q | q
  · exact h1.run pins s σ H Q I q
  · exact h2.run pins s σ H Q I q
end
theorem txM_keys (ts : List (Str × V)) : (txM ts).map (·.1) = ts.map fun p => NestedKey.text p.1 := by
  unfold txM
  rw [List.map_map]
  rfl
/-- all keys are texts: then it is one of these -/
theorem txM_of : ∀ {kvs : List (NestedKey × V × V)}, (∀ p ∈ kvs, ∃ z, p.1 = .text z ∧ p.2.1 = .str z) → ∃ ts, kvs = txM ts
  | [], _ => ⟨[], rfl⟩
  | p :: r, h => by
    obtain ⟨z, e1, e2⟩ := h p List.mem_cons_self
    obtain ⟨ts, e⟩ := txM_of fun q hq => h q (List.mem_cons_of_mem _ hq)
    refine ⟨(z, p.2.2) :: ts, ?_⟩
    obtain ⟨k, x, v⟩ := p
    dsimp only at e1 e2
    rw [e1, e2, e]
    rfl
theorem txK_nd {ts : List (Str × V)} (h : ((txM ts).map (·.1)).Nodup) : ((txK ts).map (·.1)).Nodup := by
  rw [txM_keys] at h
  unfold txK
  rw [List.map_map]
  rw [List.nodup_iff_pairwise_ne, List.pairwise_map] at h ⊢
  exact h.imp fun ne z => ne (by rw [Sum.inr.inj (show (Sum.inr _ : Key) = Sum.inr _ from z)])
theorem putM_nd {kvs : List (NestedKey × V × V)} {k : NestedKey} {x v : V} (h : (kvs.map (·.1)).Nodup) : ((putM kvs k x v).map (·.1)).Nodup := by
  unfold putM
  split
  · rw [List.map_map]
    have e : kvs.map ((·.1) ∘ fun p : NestedKey × V × V => if p.1 = k then (p.1, p.2.1, v) else p) = kvs.map (·.1) := List.map_congr_left fun p _ => by
      show (if p.1 = k then (p.1, p.2.1, v) else p).1 = p.1
      split <;> rfl
    rw [e]
    exact h
  · rename_i hn
    rw [List.map_append]
    refine List.nodup_append.mpr ⟨h, by simp, fun a ha b hb e => hn ?_⟩
    have eb : b = k := by simpa using hb
    rw [← eb, ← e]
    exact ha
theorem putM_mem {kvs : List (NestedKey × V × V)} {k : NestedKey} {x v : V} {p : NestedKey × V × V} (h : p ∈ putM kvs k x v) : p ∈ kvs ∨ p = (k, x, v) ∨ ∃ q ∈ kvs, p = (q.1, q.2.1, v) := by
  unfold putM at h
  split at h
  · obtain ⟨q, hq, rfl⟩ := List.mem_map.mp h
    split
    · exact .inr (.inr ⟨q, hq, rfl⟩)
    · exact .inl hq
  · rcases List.mem_append.mp h with z | z
    · exact .inl z
    · exact .inr (.inl (List.mem_singleton.mp z))
end L2

set_option Elab.async false
set_option linter.all false
set_option maxRecDepth 100000
set_option maxHeartbeats 8000000
/-! Values as data: letters, texts, images; what is raised, as data. -/
namespace V8
open PySem PySem.Spec PyProof.Rows L2
abbrev s_check_text : Stmt := topS 22
abbrev n_check_text : List Str := ["value"]
theorem sc_check_text : FnScope ["value"] ["value"] (defScope s_check_text) := ⟨rfl, rfl, rfl, by decide +kernel, rfl, by decide +kernel, by decide +kernel⟩
def okL (s : List Nat) : Bool := s.all fun c => decide (isLt c)
theorem okL_iff {s : List Nat} : okL s = true ↔ ∀ c ∈ s, isLt c := by
  unfold okL
  rw [List.all_eq_true]
  exact ⟨fun h c hc => of_decide_eq_true (h c hc), fun h c hc => decide_eq_true (h c hc)⟩
theorem abc_has (c : Nat) : abcS.cps.contains c = decide (isLt c) := by
  have h : abcS.cps.contains c = true ↔ isLt c := by
    rw [Array.contains_iff_mem, ← Array.mem_toList_iff, abcS_cps]
    exact abc_mem
  by_cases e : isLt c
  · rw [decide_eq_true e, h.mpr e]
  · rw [decide_eq_false e]
    cases z : abcS.cps.contains c with
    | false => rfl
    | true => exact absurd (h.mp z) e
theorem mem_tw {p : Nat → Bool} {c : Nat} : ∀ {m : List Nat}, c ∈ m.takeWhile p → p c = true
  | [], h => by cases h
  | a :: m, h => by
    rw [List.takeWhile_cons] at h
    by_cases q : p a = true
    · rw [if_pos q] at h
      rcases List.mem_cons.mp h with rfl | h
      · exact q
      · exact mem_tw h
    · rw [if_neg q] at h
      cases h
theorem tw_less {p : Nat → Bool} {l : List Nat} {c : Nat} (hc : c ∈ l) (hp : p c = false) : (l.takeWhile p).length < l.length := by
  rcases Nat.lt_or_ge (l.takeWhile p).length l.length with h | h
  · exact h
  · have e := (List.takeWhile_prefix p (l := l)).eq_of_length_le h
    rw [← e] at hc
    rw [mem_tw hc] at hp
    cases hp
theorem strip_some {z : List Nat} {c : Nat} (hc : c ∈ z) (hn : ¬ isLt c) : (Txt.stripChars (Sx z) abcS).length ≠ 0 := by
  have hp : abcS.cps.contains c = false := by rw [abc_has, decide_eq_false hn]
  have hl : stripLo abcS.cps.contains true (Sx z) = (z.takeWhile abcS.cps.contains).length := by
    unfold stripLo
    rw [if_pos rfl]
    rfl
  unfold Txt.stripChars
  rw [stripBy_eq, hl]
  have e := TL.tl_strSub (Sx z) (z.takeWhile abcS.cps.contains).length (stripHi abcS.cps.contains true (Sx z) (z.takeWhile abcS.cps.contains).length)
  have e2 : TL.tl (Sx z) = z := rfl
  rw [e2] at e
  have e3 := congrArg List.length e
  have ed : z.drop (z.takeWhile abcS.cps.contains).length = z.dropWhile abcS.cps.contains := by
    conv => lhs; arg 2; rw [← List.takeWhile_append_dropWhile (p := abcS.cps.contains) (l := z)]
    rw [List.drop_left]
  have hh : stripHi abcS.cps.contains true (Sx z) (z.takeWhile abcS.cps.contains).length = z.length - ((z.dropWhile abcS.cps.contains).reverse.takeWhile abcS.cps.contains).length := by
    unfold stripHi
    rw [if_pos rfl, ← ed]
    rfl
  have hm : c ∈ (z.dropWhile abcS.cps.contains).reverse := by
    rw [List.mem_reverse]
    have h1 := hc
    rw [← List.takeWhile_append_dropWhile (p := abcS.cps.contains) (l := z)] at h1
    rcases List.mem_append.mp h1 with h | h
    · exfalso
      rw [mem_tw h] at hp
      cases hp
    · exact h
  have hw := tw_less hm hp
  have hs : (z.takeWhile abcS.cps.contains).length + (z.dropWhile abcS.cps.contains).length = z.length := by
    rw [← List.length_append, List.takeWhile_append_dropWhile]
  rw [List.length_reverse] at hw
  rw [ed, hh, List.length_take] at e3
  rw [hh]
  intro h0
  have e4 := e3.symm.trans h0
  omega
/-! ### data -/
/-- a text of letters, of a length from lo to hi -/
def wordD (lo hi : Nat) : PyData → Bool
  | .str z => decide (lo ≤ z.length) && decide (z.length ≤ hi) && okL z.cps.toList
  | _ => false
theorem Sx_self (z : Str) : Sx z.cps.toList = z := by
  unfold Sx
  cases z
  simp
theorem len_self (z : Str) : z.cps.toList.length = z.length := by
  rw [← Sx_len, Sx_self]
theorem pw_kind {K : PySem.W.Frag} {H : Hp} {x : V} {d : PyData} (p : PyW H x d) : (∃ z, x = .str z ∧ d = .str z) ∨ ((∀ lo hi, wordD lo hi d = false) ∧ ∃ t, TyX K H x t ∧ PySem.W.kitOne K t (.type "str") = some false) := by
  cases p with
  | non => exact .inr ⟨fun _ _ => rfl, _, .base .non, kit_ty (by decide +kernel)⟩
  | bl b => exact .inr ⟨fun _ _ => rfl, _, .base (.bl b), kit_ty (by decide +kernel)⟩
  | int i => exact .inr ⟨fun _ _ => rfl, _, .base (.int i), kit_ty (by decide +kernel)⟩
  | str z => exact .inl ⟨z, rfl, rfl⟩
  | tup h r => exact .inr ⟨fun _ _ => rfl, _, .base (.tup h), kit_ty (by decide +kernel)⟩
  | lst h r => exact .inr ⟨fun _ _ => rfl, _, .base (.lst h), kit_ty (by decide +kernel)⟩
  | dic h r => exact .inr ⟨fun _ _ => rfl, _, .base (.dK h), kit_ty (by decide +kernel)⟩
/-- what a drawn datum is like -/
structure NiceD (d : PyData) : Prop where
  te : Tells d
  sz : d.shown.length ≤ 3000
  dp : d.depth ≤ 1
  sh : PyData.strOk d.shown = true
  tx : ∀ z, d = .str z → z.length ≤ 2500 ∧ ∀ c ∈ z.cps.toList, c < 128
structure Held (H : Hp) (x : V) (d : PyData) : Prop where
  tl : Told2 H x
  pw : PyW H x d
  ni : NiceD d
theorem Held.th {H : Hp} {x : V} {d : PyData} (h : Held H x d) : Th1 H x d := ⟨h.tl, h.pw, h.ni.te, h.ni.sz, h.ni.dp⟩
theorem Held.same {H H2 : Hp} {x : V} {d : PyData} (h : Held H x d) (s : Same H H2) : Held H2 x d := ⟨h.tl.same s, h.pw.same s, h.ni⟩
/-! ### what is raised -/
inductive Bad where
  | one (i : Nat) (d : PyData)
  | many (wh : Str) (m : Int)
def fldOf : Nat → Str
  | 0 => "part"
  | 2 => "letter"
  | 4 => "at"
  | _ => "value"
def OutB (Cz : Nat → Addr) (H : Hp) (b : Bad) (E : XK) : Prop := match b with
  | .one i d => ∀ dd y H2, Same H H2 → PyW H2 y d → H2 dd = some (.xd [(fldOf i, y)]) → E (.ref (Cz i)) (some dd) H2
  | .many wh m => ∀ dd H2, Same H H2 → H2 dd = some (.xd [("most", .int m), ("what", .str wh)]) → E (.ref (Cz 5)) (some dd) H2
theorem OutB.same {Cz : Nat → Addr} {H H1 : Hp} {b : Bad} {E : XK} (o : OutB Cz H b E) (s : Same H H1) : OutB Cz H1 b E := by
  cases b with
  | one i d => exact fun dd y H2 s2 p e => o dd y H2 (fun b u h => s2 _ _ (s _ _ h)) p e
  | many wh m => exact fun dd H2 s2 e => o dd H2 (fun b u h => s2 _ _ (s _ _ h)) e
theorem OutB.rz {Cz : Nat → Addr} {H H1 : Hp} {i : Nat} {x : V} {d : PyData} {E : XK} (o : OutB Cz H (.one i d) E) (s : Same H H1) (t : Th1 H1 x d) : Rz1 (Cz i) (fldOf i) x H1 E := ⟨d, t, fun dx y H2 s2 p e => o dx y H2 (fun b u h => s2 _ _ (s _ _ h)) p e⟩
theorem th_str {H : Hp} {z : Str} (n : NiceD (.str z)) : Th1 H (.str z) (.str z) := ⟨.inl (.inl ⟨_, rfl⟩), .str _, n.te, n.sz, n.dp⟩
theorem th_int {H : Hp} {i : Int} (n : NiceD (.int i)) : Th1 H (.int i) (.int i) := ⟨.inl (.inr (.inl ⟨_, rfl⟩)), .int _, n.te, n.sz, n.dp⟩
/-- TooMany raised -/
theorem rz2 {K : PySem.W.Frag} {C : Addr} {wh : Str} {m : Int} {H : Hp} {E : XK} {E0 : XK} (oc : OexC K C) (n1 : PySem.W.findIn K (.ref C) "what" = some none) (n2 : PySem.W.findIn K (.ref C) "most" = some none) (nw : NiceD (.str wh)) (nm : NiceD (.int m))
    (h : ∀ dd H2, Same H H2 → H2 dd = some (.xd [("most", .int m), ("what", .str wh)]) → E (.ref C) (some dd) H2) (a : Addr) (na : H a = none) :
    spErrW2 K C "what" "most" (.ref a :: ([.str wh, .int m] ++ [])) (upd H a (exo a C none)) (fun v H2 => v = .non ∧ ∃ (d : Addr) (fs : List (Str × V)), H2 a = some (exo a C (some d)) ∧ H2 d = some (exd d fs) ∧ H d = none ∧ E (.ref C) (some d) (upd (del H2 a) d (.xd fs))) E0 := by
  refine ⟨a, .str wh, .int m, .str wh, .int m, rfl, upd_same, oc, n1, n2, th_str nw, th_int nm, fun y1 y2 dx H2 s2 p1 p2 ndx ne e1 e2 => ?_⟩
  cases p1
  cases p2
  have nx : H dx = none := by
    rw [upd_ne ne] at ndx
    exact ndx
  refine ⟨rfl, dx, _, by rw [upd_ne (Ne.symm ne)]; exact e2, upd_same, nx, h dx _ (fun b o e => ?_) upd_same⟩
  rw [upd_ne (ne_of_none e nx), del_ne (ne_of_none e na), upd_ne (ne_of_none e nx)]
  exact s2 _ _ (by rw [upd_ne (ne_of_none e na)]; exact e) (ne_of_none e na)
/-! ### the program's own tests -/
def spAllG : Sp := fun vs H Q _ => ∃ z : List Nat, vs = [.str (Sx z)] ∧ z.length ≤ 2000 ∧ Q (.bl (okL z)) H
def spTxtA (K : PySem.W.Frag) : Sp := fun vs H Q _ => ∃ x, vs = [x] ∧ ((∃ z : List Nat, x = .str (Sx z) ∧ z.length ≤ 3000 ∧ Q (.bl (decide (z.length ≤ 2000) && okL z)) H) ∨ (∃ t, TyX K H x t ∧ PySem.W.kitOne K t (.type "str") = some false ∧ Q (.bl false) H))
def spWordD (lo hi : Nat) : Sp := fun vs H Q _ => ∃ x d, vs = [x] ∧ PyW H x d ∧ (∀ z, d = .str z → z.length ≤ 2500) ∧ Q (.bl (wordD lo hi d)) H
def spChkD (Cz : Nat → Addr) : Sp := fun vs H Q E => ∃ x d, vs = [x] ∧ Held H x d ∧ ((wordD 0 2000 d = true ∧ Q .non H) ∨ (wordD 0 2000 d = false ∧ OutB Cz H (.one 3 d) E))
theorem weakF {P : Program} {w : World} {K : PySem.W.Frag} {mg : Str → Option Value} {base : Heap} {C : CXT} {k : Nat} {f : Addr} {fd : FuncData} {ps : List Str} {sp sp2 : Sp} (F : FnOk P w K mg base C k f fd ps sp) (i : ∀ vs H Q E, sp2 vs H Q E → sp vs H Q E) : FnOk P w K mg base C k f fd ps sp2 :=
  ⟨fun vs H Q E h => F.len vs H Q E (i vs H Q E h), fun A outer s H args us vs Q E hr e0 b r h => F.run A outer s H args us vs Q E hr e0 b r (i vs H Q E h)⟩
theorem okL_one (c : Nat) : okL [c] = decide (c ∈ abc) := by
  unfold okL
  rw [List.all_cons, List.all_nil, Bool.and_true]
  exact decide_eq_decide.mpr abc_mem.symm
theorem word_let {z : Str} : wordD 1 1 (.str z) = true ↔ ∃ c ∈ abc, z = L1 c := by
  show (decide (1 ≤ z.length) && decide (z.length ≤ 1) && okL z.cps.toList) = true ↔ _
  constructor
  · intro h
    rw [Bool.and_eq_true, Bool.and_eq_true, decide_eq_true_iff, decide_eq_true_iff] at h
    obtain ⟨⟨h1, h2⟩, h3⟩ := h
    rw [← len_self] at h1 h2
    match e : z.cps.toList, h1, h2, h3 with
    | [c], _, _, h3 =>
      refine ⟨c, abc_mem.mpr (okL_iff.mp h3 c List.mem_cons_self), ?_⟩
      rw [← Sx_self z, e]
      rfl
    | _ :: _ :: _, _, h2, _ => simp at h2
  · rintro ⟨c, hc, rfl⟩
    rw [Bool.and_eq_true, Bool.and_eq_true, decide_eq_true_iff, decide_eq_true_iff]
    exact ⟨⟨Nat.le_refl _, Nat.le_refl _⟩, okL_iff.mpr fun d hd => by
      obtain rfl : d = c := by simpa [L1] using hd
      exact abc_mem.mp hc⟩
section
variable {P : Program} {w : World} {K : PySem.W.Frag} {mg : Str → Option Value} {base : Heap} {CM CJ : Addr} {Cz : Nat → Addr}
theorem isLetter_D {f : Addr} {fd : FuncData} (F : FnOk P w K mg base CX0 1 f fd ["value"] (spIsLetter K)) : FnOk P w K mg base CX0 1 f fd ["value"] (spWordD 1 1) := weakF F fun vs H Q E h => by
  obtain ⟨x, d, rfl, p, l, q⟩ := h
  rcases pw_kind (K := K) p with ⟨z, rfl, rfl⟩ | ⟨n, t, ty, k⟩
  · refine ⟨_, rfl, ?_⟩
    by_cases h1 : z.length = 1
    · have h2 := h1
      rw [← len_self] at h2
      match e : z.cps.toList, h2 with
      | [c], _ =>
        have ez : z = L1 c := by
          rw [← Sx_self z, e]
          rfl
        subst ez
        refine .inl ⟨c, rfl, ?_⟩
        have e2 : wordD 1 1 (.str (L1 c)) = decide (c ∈ abc) := by
          rw [Bool.eq_iff_iff, word_let, decide_eq_true_iff]
          exact ⟨fun ⟨d, hd, e⟩ => (L1_inj e) ▸ hd, fun h => ⟨c, h, rfl⟩⟩
        rw [← e2]
        exact q
    · refine .inr (.inl ⟨z, rfl, by have := l z rfl; rw [sizeLine_eq]; omega, h1, ?_⟩)
      have e2 : wordD 1 1 (.str z) = false := by
        cases e : wordD 1 1 (.str z) with
        | false => rfl
        | true =>
          obtain ⟨c, _, rfl⟩ := word_let.mp e
          exact absurd rfl h1
      rw [← e2]
      exact q
  · rw [n] at q
    exact ⟨_, rfl, .inr (.inr ⟨t, ty, k, q⟩)⟩
theorem ok_all_lettersG {f : Addr} {fd : FuncData} (F : Fun K "all_letters" "all_letters" s_all_letters f fd) (T : Tx K mg CM CJ) : FnOk P w K mg base CX0 1 f fd ["string"] spAllG := by
  refine F.ok sc_all_letters (fun vs H Q E h => ?_) (fun cdv A outer s H vs Q E hr h => ?_)
  · obtain ⟨z, rfl, _⟩ := h
    rfl
  · obtain ⟨z, rfl, h2, q⟩ := h
    refine ⟨_, (pss_one (ps_ret (pe_notTK (K := K) rfl (pe_bmK (K := K) rfl PySem.F.plainAttrs_str PySem.F.slot_str_strip PySem.F.type_str_strip mt_stripChars (pv 0) (pa_cons (pe_gv T.gLETTERS (by rfl)) pa_nil))))), ?_⟩
    have hz : (Sx z).length ≤ sizeLine := by rw [Sx_len, sizeLine_eq]; omega
    refine ⟨_, rfl, rfl, _, abcS, rfl, rfl, hz, !okL z, ⟨?_, ?_⟩, ?_⟩
    · exact Nat.le_trans (len_stripChars _ _) hz
    · by_cases e : okL z = true
      · rw [strip_all (okL_iff.mp e), e]
        rfl
      · have e' : okL z = false := by simpa using e
        rw [e']
        have : ∃ c ∈ z, ¬ isLt c := by
          apply Classical.byContradiction
          intro n
          refine e (okL_iff.mpr fun c hc => ?_)
          apply Classical.byContradiction
          intro m
          exact n ⟨c, hc, m⟩
        obtain ⟨c, hc, hn⟩ := this
        have z3 : ((Txt.stripChars (Sx z) abcS).length : Int) ≠ 0 := by
          have := strip_some hc hn
          omega
        exact (bne_iff_ne.mpr z3).symm
    · rw [Bool.not_not]
      exact q
theorem ok_is_textA {f : Addr} {fd : FuncData} (F : Fun K "is_text" "is_text" s_is_text f fd) (T : Tx K mg CM CJ) (D_all_letters : Df P w K mg base 1 "all_letters" spAllG) : FnOk P w K mg base CX0 2 f fd ["value"] (spTxtA K) := by
  refine F.ok sc_is_text (fun vs H Q E h => ?_) (fun cdv A outer s H vs Q E hr h => ?_)
  · obtain ⟨x, rfl, _⟩ := h
    rfl
  · obtain ⟨x, rfl, h⟩ := h
    refine ⟨_, (pss_one (ps_ret (pe_and (pe_callB call_isi (by rfl) T.isinstance (by decide +kernel) (pa_cons (pv 0) (pa_cons (pe_bltn (v := .ty "str") (by rfl) T.str (by decide +kernel) rfl) pa_nil))) (pe_and (pe_cmpR op_le (pe_callB call_len_str (by rfl) T.len (by decide +kernel) (pa_cons (pv 0) pa_nil)) (pe_gv T.gLONGEST (by rfl)) (nomark _)) (pe_one (pe_c D_all_letters hr (by decide) (by rfl) (pa_cons (pv 0) pa_nil))))))), ?_⟩
    rcases h with ⟨z, rfl, h3, q⟩ | ⟨t, ty, e, q⟩
    · have hz : (Sx z).length ≤ sizeLine := by rw [Sx_len, sizeLine_eq]; omega
      refine ⟨_, rfl, _, .ty "str", .type "str", .type "str", true, rfl, .ty _, ty_str _, kit_ty (by decide +kernel), true, rfl, ?_⟩
      refine ⟨_, rfl, _, rfl, hz, _, _, rfl, rfl, decide (z.length ≤ 2000), ?_, ?_⟩
      · show V.bl (decide (((Sx z).length : Int) ≤ 2000)) = _
        rw [Sx_len]
        congr 1
        by_cases h : z.length ≤ 2000
        · rw [decide_eq_true h, decide_eq_true (by omega)]
        · rw [decide_eq_false h, decide_eq_false (by omega)]
      · by_cases h : z.length ≤ 2000
        · rw [decide_eq_true h, Bool.true_and] at q
          rw [decide_eq_true h]
          exact ⟨_, rfl, z, rfl, h, q⟩
        · rw [decide_eq_false h, Bool.false_and] at q
          rw [decide_eq_false h]
          exact q
    · exact ⟨_, rfl, _, .ty "str", t, .type "str", false, rfl, .ty _, ty, e, false, rfl, q⟩
theorem isText_D {f : Addr} {fd : FuncData} (F : FnOk P w K mg base CX0 2 f fd ["value"] (spTxtA K)) : FnOk P w K mg base CX0 2 f fd ["value"] (spWordD 0 2000) := weakF F fun vs H Q E h => by
  obtain ⟨x, d, rfl, p, l, q⟩ := h
  refine ⟨_, rfl, ?_⟩
  rcases pw_kind (K := K) p with ⟨z, rfl, rfl⟩ | ⟨n, t, ty, k⟩
  · refine .inl ⟨z.cps.toList, by rw [Sx_self], by have := l z rfl; rw [len_self]; omega, ?_⟩
    have e : wordD 0 2000 (.str z) = (decide (z.cps.toList.length ≤ 2000) && okL z.cps.toList) := by
      show (decide (0 ≤ z.length) && decide (z.length ≤ 2000) && okL z.cps.toList) = _
      rw [len_self, decide_eq_true (Nat.zero_le _), Bool.true_and]
    rw [← e]
    exact q
  · rw [n] at q
    exact .inr ⟨t, ty, k, q⟩
theorem ok_is_imageD {f : Addr} {fd : FuncData} (F : Fun K "is_image" "is_image" s_is_image f fd) (T : Tx K mg CM CJ) (D_is_text : Df P w K mg base 2 "is_text" (spTxtA K)) : FnOk P w K mg base CX0 3 f fd ["value"] (spWordD 1 4) := by
  refine F.ok sc_is_image (fun vs H Q E h => ?_) (fun cdv A outer s H vs Q E hr h => ?_)
  · obtain ⟨x, d, rfl, _⟩ := h
    rfl
  · obtain ⟨x, d, rfl, p, l, q⟩ := h
    refine ⟨_, (pss_one (ps_ret (pe_and (pe_c D_is_text hr (by decide) (by rfl) (pa_cons (pv 0) pa_nil)) (pe_one (pe_chain op_le op_le pe_int (pe_callB call_len_str (by rfl) T.len (by decide +kernel) (pa_cons (pv 0) pa_nil)) (pe_gv T.gLONGEST_TOLD (by rfl))))))), ?_⟩
    rcases pw_kind (K := K) p with ⟨z, rfl, rfl⟩ | ⟨n, t, ty, k⟩
    · have hz : z.length ≤ sizeLine := by have := l z rfl; rw [sizeLine_eq]; omega
      have q' : Q (.bl (decide (1 ≤ z.length) && decide (z.length ≤ 4) && okL z.cps.toList)) H := q
      refine ⟨_, rfl, _, rfl, .inl ⟨z.cps.toList, by rw [Sx_self], by have := l z rfl; rw [len_self]; omega, ?_⟩⟩
      rw [len_self]
      refine ⟨_, rfl, ?_⟩
      cases e : okL z.cps.toList with
      | false =>
        rw [e, Bool.and_false] at q'
        rw [Bool.and_false]
        exact q'
      | true =>
        rw [e, Bool.and_true] at q'
        rw [Bool.and_true]
        by_cases h2 : z.length ≤ 2000
        · rw [decide_eq_true h2]
          refine ⟨_, rfl, _, rfl, hz, _, _, rfl, rfl, decide (1 ≤ z.length), ?_, ?_⟩
          · show V.bl (decide ((1 : Int) ≤ (z.length : Int))) = _
            congr 1
            exact decide_eq_decide.mpr (by omega)
          by_cases g : 1 ≤ z.length
          · rw [decide_eq_true g, Bool.true_and] at q'
            rw [decide_eq_true g]
            refine ⟨_, _, rfl, rfl, ?_⟩
            show Q (V.bl (decide ((z.length : Int) ≤ 4))) H
            have e5 : decide ((z.length : Int) ≤ 4) = decide (z.length ≤ 4) := decide_eq_decide.mpr (by omega)
            rw [e5]
            exact q'
          · rw [decide_eq_false g, Bool.false_and] at q'
            rw [decide_eq_false g]
            exact q'
        · rw [decide_eq_false h2]
          rw [decide_eq_false (show ¬ z.length ≤ 4 by omega), Bool.and_false] at q'
          exact q'
    · rw [n] at q
      exact ⟨_, rfl, _, rfl, .inr ⟨t, ty, k, false, rfl, q⟩⟩
theorem ok_check_textD {f : Addr} {fd : FuncData} (F : Fun K "check_text" "check_text" s_check_text f fd) (T : Tx K mg CM CJ) (D_is_text : Df P w K mg base 2 "is_text" (spWordD 0 2000)) (E_BadWord : Er1 P w K mg base "BadWord" "value" (Cz 3)) : FnG P w K mg base (L2.CX P w) 5 f fd ["value"] (spChkD Cz) := by
  refine F.okXG sc_check_text (fun vs H Q E h => ?_) (fun cdv A outer s H vs Q E quiet hr h => ?_)
  · obtain ⟨x, d, rfl, _⟩ := h
    rfl
  · obtain ⟨x, d, rfl, hd, h⟩ := h
    refine ⟨_, (pss_one (ps_if (pt_not (pt_val (pe_c D_is_text hr (by decide) (by rfl) (pa_cons (pv 0) pa_nil))))
        (pss_one (ps_raise rfl (takes_of rfl rfl rfl rfl) (pmk_one E_BadWord quiet hr (by decide) (by rfl) (pa_cons (pv 0) pa_nil))))
        pss_nil)), ?_⟩
    refine ⟨_, rfl, x, d, rfl, hd.pw, fun z e => (hd.ni.tx z e).1, ?_⟩
    rcases h with ⟨e, q⟩ | ⟨e, o⟩
    · rw [e]
      exact ⟨true, rfl, iteF q⟩
    · rw [e]
      exact ⟨false, rfl, iteT ⟨_, rfl, by show 1 ≤ 1000; decide, fun a na => rz1 E_BadWord.oc E_BadWord.no (o.rz (Same.refl H) hd.th) a na⟩⟩
end
end V8

set_option Elab.async false
set_option linter.all false
set_option maxRecDepth 100000
set_option maxHeartbeats 4000000
/-! An error raised while a dict is gone over: the dict is unlocked on the way out. -/
namespace L2
open PySem PySem.Spec PyProof.Rows MX
def wUnl (H0 : Hp) (W : WX) : WX := fun cls d σ H => ∃ (dd : Addr) (od : Obj) (u : HO), H dd = some (.frz od u) ∧ (∀ o' u', H0 dd ≠ some (.frz o' u')) ∧ W cls d σ (upd H dd u)
theorem takes_unl {X : Cx} {W : WX} {H0 : Hp} (h0 : X.H_0 = H0) (t : Takes X W) : Takes X (wUnl H0 W) := by
  subst h0
  rintro u s2 ⟨a, B, sI, pins, σ, H, cls, d, e, I, nb, up, sky, na, os, ag, dd, od, o, hf, hn, w⟩
  exact t u s2 ⟨a, B, sI, pins, σ, upd H dd o, cls, d, e, I.unlock hf hn, nb, up, sky, by rw [upd_ne (Ne.symm (ne_of_none hf na))]; exact na, os, ag, w⟩
end L2
namespace L2
open PySem PySem.Spec PyProof.Rows MX
/-- isinstance(d, c), d a dict of flat keys and tuples -/
def rIsiM (w : World) (K : PySem.W.Frag) : List V → Hp → VK → Prop := fun xs H Q => ∃ (a : Addr) (kvs : List (NestedKey × V × V)) (c : V) (u : Value) (b : Bool), xs = [.ref a, c] ∧ MixD w H a kvs ∧ ClsV c u ∧ PySem.W.kitOne K (.type "dict") u = some b ∧ Q (.bl b) H
theorem call_isiM {X : Cx} : CallR X (.builtin "isinstance") (rIsiM X.w X.K) := by
  intro pins s σ H xs us Q I r h
  obtain ⟨a, kvs, c, u, b, rfl, m, k, e, q⟩ := h
  obtain ⟨u1, u2, rfl, r1, r2⟩ := vals2 r
  obtain rfl := k.eq r2
  obtain rfl : u1 = Value.ref a := r1
  obtain ⟨few, hd, xs, p, o, es, ep, h1, h2, _⟩ := m.dict I
  exact PySem.W.kia_one PySem.W.kitx_dict I.kIn ⟨o, h1, h2.1⟩ e (fun z => nomatch z) fun tk => ⟨.bl b, H, I.tok tk, rfl, q⟩
end L2
namespace L2
open PySem PySem.Spec PyProof.Rows MX
theorem walk_keysM {w : World} {d : Addr} {o : Obj} {kvs : List (NestedKey × V × V)} : Walk (Itm w d o kvs) kvs.length (fun H => H d = some (.frz o (MixO w d kvs))) (fun i H x H2 => H2 = H ∧ ∃ k v, kvs[i]? = some (k, x, v)) :=
  ⟨fun _ _ lt q => And.intro q lt, fun _ q => And.intro q (Nat.le_refl _), fun _ _ _ _ _ _ y => y⟩
end L2

set_option Elab.async false
set_option linter.all false
set_option maxRecDepth 100000
set_option maxHeartbeats 8000000
/-! Images told, or refused. -/
namespace V8
open PySem PySem.Spec PyProof.Rows L2 MX
/-! ### drawn tables -/
abbrev Dt := List (Key × PyData)
structure TabA (H : Hp) (a : Addr) (dt : Dt) : Prop where
  at_ : ∃ kvs, H a = some (.dK kvs) ∧ Paired (fun (p : Key × V) (q : Key × PyData) => p.1 = q.1 ∧ Held H p.2 q.2) kvs dt
  nd : (dt.map (·.1)).Nodup
  few : dt.length ≤ 30
  txt : ∀ q ∈ dt, NiceD (keyD q.1)
/-- a table with a key that is no text -/
structure TabM (w : World) (H : Hp) (a : Addr) (ks : List PyData) : Prop where
  at_ : ∃ kvs, MixD w H a kvs ∧ Paired (fun (p : NestedKey × V × V) (d : PyData) => Held H p.2.1 d) kvs ks
  few : ks.length ≤ 30
  lay : ∀ d ∈ ks, d.canLay0 = true
theorem pair_get {α β : Type} {R : α → β → Prop} {xs : List α} {ys : List β} (h : Paired R xs ys) {i : Nat} {x : α} (e : xs[i]? = some x) : ∃ y, ys[i]? = some y ∧ R x y := by
  induction h generalizing i with
  | nil => simp at e
  | cons r _ ih =>
    cases i with
    | zero =>
      rw [List.getElem?_cons_zero] at e
      cases e
      exact ⟨_, rfl, r⟩
    | succ j =>
      rw [List.getElem?_cons_succ] at e ⊢
      exact ih e
theorem pair_len {α β : Type} {R : α → β → Prop} {xs : List α} {ys : List β} (h : Paired R xs ys) : xs.length = ys.length := by
  induction h with
  | nil => rfl
  | cons _ _ ih => rw [List.length_cons, List.length_cons, ih]
theorem pair_imp {α β : Type} {R S : α → β → Prop} {xs : List α} {ys : List β} (h : Paired R xs ys) (i : ∀ x y, R x y → S x y) : Paired S xs ys := by
  induction h with
  | nil => exact .nil
  | cons r _ ih => exact .cons (i _ _ r) ih
theorem TabA.same {H H2 : Hp} {a : Addr} {dt : Dt} (t : TabA H a dt) (s : Same H H2) : TabA H2 a dt := by
  obtain ⟨⟨kvs, h, p⟩, nd, few, tx⟩ := t
  exact ⟨⟨kvs, s _ _ h, pair_imp p fun _ _ z => ⟨z.1, z.2.same s⟩⟩, nd, few, tx⟩
theorem TabM.same {w : World} {H H2 : Hp} {a : Addr} {ks : List PyData} (t : TabM w H a ks) (s : Same H H2) : TabM w H2 a ks := by
  obtain ⟨⟨kvs, h, p⟩, few, lay⟩ := t
  exact ⟨⟨kvs, h.same s, pair_imp p fun _ _ z => z.same s⟩, few, lay⟩
def keyOk (k : Key) : Bool := wordD 1 1 (keyD k)
def atD (dt : Dt) (k : Key) : Option PyData := (dt.find? fun q => decide (q.1 = k)).map (·.2)
def badAt (dt : Dt) (c : Nat) : Bool := match atD dt (.inr (L1 c)) with
  | some d => !wordD 1 4 d
  | none => false
/-- what is refused of a table and the letters that stay -/
def toldD (dt : Dt) (st : PyData) : Option Bad := match dt.find? fun q => !keyOk q.1 with
  | some q => some (.one 1 (keyD q.1))
  | none => match abc.find? (badAt dt) with
    | some c => some (.one 2 (.str (L1 c)))
    | none => if wordD 0 2000 st = true then none else some (.one 3 st)
theorem at_pair {H : Hp} {kvs : List (Key × V)} {dt : Dt} (h : Paired (fun (p : Key × V) (q : Key × PyData) => p.1 = q.1 ∧ Held H p.2 q.2) kvs dt) (k : Key) : (valV kvs k = none ∧ atD dt k = none) ∨ ∃ v d, valV kvs k = some v ∧ atD dt k = some d ∧ Held H v d := by
  unfold valV atD
  induction h with
  | nil => exact .inl ⟨rfl, rfl⟩
  | @cons p q l1 l2 r _ ih =>
    rw [List.find?_cons, List.find?_cons, r.1]
    cases decide (q.1 = k) with
    | true => exact .inr ⟨_, _, rfl, rfl, r.2⟩
    | false => exact ih
theorem find_take {α : Type} {p : α → Bool} : ∀ {l : List α} {i : Nat} {x : α}, l[i]? = some x → (∀ y ∈ l.take i, p y = false) → p x = true → l.find? p = some x
  | [], i, x, e, _, _ => by simp at e
  | a :: l, 0, x, e, _, h => by
    obtain rfl : a = x := by simpa using e
    rw [List.find?_cons, h]
  | a :: l, i + 1, x, e, k, h => by
    have ka := k a (by rw [List.take_succ_cons]; exact List.mem_cons_self)
    rw [List.find?_cons, ka]
    exact find_take (i := i) (by simpa using e) (fun y hy => k y (by rw [List.take_succ_cons]; exact List.mem_cons_of_mem _ hy)) h
theorem find_no {α : Type} {p : α → Bool} {l : List α} (h : ∀ y ∈ l, p y = false) : l.find? p = none := by
  rw [List.find?_eq_none]
  intro x hx
  rw [h x hx]
  exact Bool.false_ne_true
theorem key_py {H : Hp} (k : Key) : PyW H (kV k) (keyD k) := by
  cases k with
  | inl i => exact .int i
  | inr z => exact .str z
theorem key_told {H : Hp} (k : Key) : Told2 H (kV k) := by
  cases k with
  | inl i => exact .inl (.inr (.inl ⟨i, rfl⟩))
  | inr z => exact .inl (.inl ⟨z, rfl⟩)
theorem key_held {H : Hp} {k : Key} (n : NiceD (keyD k)) : Held H (kV k) (keyD k) := ⟨key_told k, key_py k, n⟩
theorem nice_let : ∀ c ∈ abc, NiceD (.str (L1 c)) := fun c hc => by
  have h : ∀ c ∈ abc, (PyData.str (L1 c)).shown.length ≤ 10 ∧ PyData.strOk (PyData.str (L1 c)).shown = true := by decide +kernel
  obtain ⟨h1, h2⟩ := h c hc
  refine ⟨⟨by simp [PyData.showable], by simp [PyData.depth], by omega⟩, by omega, by simp [PyData.depth], h2, fun z e => ?_⟩
  cases e
  refine ⟨by show 1 ≤ 2500; decide, fun d hd => ?_⟩
  obtain rfl : d = c := by simpa [L1] using hd
  have := (abc_mem.mp hc).2
  omega
theorem nice_images : NiceD (.str "images") := ⟨⟨by simp [PyData.showable], by simp [PyData.depth], by decide +kernel⟩, by decide +kernel, by simp [PyData.depth], by decide +kernel, fun z e => by
  cases e
  exact ⟨by decide +kernel, by decide +kernel⟩⟩
theorem th_flat {H : Hp} {z : Str} (n : NiceD (.str z)) : Held H (.str z) (.str z) := ⟨.inl (.inl ⟨_, rfl⟩), .str _, n⟩
/-- only where it stands itself matters -/
theorem held_move {H H2 : Hp} {x : V} {d : PyData} (h : Held H x d) (k : ∀ b o, x = .ref b → H b = some o → H2 b = some o) : Held H2 x d := by
  refine ⟨?_, ?_, h.ni⟩
  · rcases h.tl with f | ⟨b, xs, e, hb, l, g⟩ | ⟨b, kvs, e, hb, l, n, g⟩
    · exact .inl f
    · exact .inr (.inl ⟨b, xs, e, hb.imp (k b _ e) (k b _ e), l, g⟩)
    · exact .inr (.inr ⟨b, kvs, e, k b _ e hb, l, n, g⟩)
  · have fl := h.tl
    cases h.pw with
    | non => exact .non
    | bl b => exact .bl b
    | int i => exact .int i
    | str z => exact .str z
    | tup hb r =>
      rcases fl with f | ⟨b, xs, e, hb2, l, g⟩ | ⟨b, kvs, e, hb2, l, n, g⟩
      · rcases f with ⟨z, e⟩ | ⟨i, e⟩ | e | ⟨b, e⟩ <;> cases e
      · cases e
        rcases hb2 with z | z
        · rw [hb] at z
          cases z
          exact .tup (k _ _ rfl hb) (flats_pyw g r)
        · rw [hb] at z
          cases z
      · cases e
        rw [hb] at hb2
        cases hb2
    | lst hb r =>
      rcases fl with f | ⟨b, xs, e, hb2, l, g⟩ | ⟨b, kvs, e, hb2, l, n, g⟩
      · rcases f with ⟨z, e⟩ | ⟨i, e⟩ | e | ⟨b, e⟩ <;> cases e
      · cases e
        rcases hb2 with z | z
        · rw [hb] at z
          cases z
        · rw [hb] at z
          cases z
          exact .lst (k _ _ rfl hb) (flats_pyw g r)
      · cases e
        rw [hb] at hb2
        cases hb2
    | dic hb r =>
      rcases fl with f | ⟨b, xs, e, hb2, l, g⟩ | ⟨b, kvs, e, hb2, l, n, g⟩
      · rcases f with ⟨z, e⟩ | ⟨i, e⟩ | e | ⟨b, e⟩ <;> cases e
      · cases e
        rcases hb2 with z | z <;> rw [hb] at z <;> cases z
      · cases e
        rw [hb] at hb2
        cases hb2
        exact .dic (k _ _ rfl hb) (flats_pyw g r)
/-- raised while the dict at a is gone over -/
theorem out_unl {Cz : Nat → Addr} {H : Hp} {a : Addr} {od : Obj} {u : HO} {i : Nat} {x : V} {d : PyData} {E : XK} {σ : L2.St} (o : OutB Cz H (.one i d) E) (ha : H a = some u) (nf : ∀ o' u', u ≠ .frz o' u') (t : Th1 (upd H a (.frz od u)) x d) :
    Rz1 (Cz i) (fldOf i) x (upd H a (.frz od u)) (fun cls dd H2 => wUnl H (fun cls dd _ H2 => E cls dd H2) cls dd σ H2) := by
  refine ⟨d, t, fun dx y H2 s p e => ?_⟩
  have fa : H2 a = some (.frz od u) := s _ _ upd_same
  refine ⟨a, od, u, fa, fun o' u' z => ?_, o dx y _ (fun b v h => ?_) (p.keep fun b v h k => ?_) ?_⟩
  · rw [ha] at z
    exact nf o' u' (Option.some.inj z)
  · by_cases hb : b = a
    · rw [hb, upd_same]
      rw [hb, ha] at h
      exact h
    · rw [upd_ne hb]
      exact s _ _ (by rw [upd_ne hb]; exact h)
  · have hb : b ≠ a := fun z => by
      rw [z, fa] at h
      cases h
      rcases k with ⟨xs, k⟩ | ⟨xs, k⟩ | ⟨xs, k⟩ <;> cases k
    rw [upd_ne hb]
    exact h
  · have hb : dx ≠ a := fun z => by
      rw [z, fa] at e
      cases e
    rw [upd_ne hb]
    exact e
def spToldN (K : PySem.W.Frag) (Cz : Nat → Addr) : Sp := fun vs H Q E => ∃ x y t, vs = [x, y] ∧ TyX K H x t ∧ PySem.W.kitOne K t (.type "dict") = some false ∧ OutB Cz H (.one 0 (.str "images")) E
def spToldM (w : World) (Cz : Nat → Addr) : Sp := fun vs H Q E => ∃ a y ks d, vs = [.ref a, y] ∧ TabM w H a ks ∧ ks.find? (fun d => !wordD 1 1 d) = some d ∧ OutB Cz H (.one 1 d) E
def spToldK (Cz : Nat → Addr) : Sp := fun vs H Q E => ∃ a y dt d b, vs = [.ref a, y] ∧ TabA H a dt ∧ Held H y d ∧ toldD dt d = some b ∧ OutB Cz H b E
section
variable {P : Program} {w : World} {K : PySem.W.Frag} {mg : Str → Option Value} {base : Heap} {CM CJ : Addr} {Cz : Nat → Addr}
theorem ok_toldN {f : Addr} {fd : FuncData} (F : Fun K "told_images" "told_images" s_told_images f fd) (T : Tx K mg CM CJ) (D_is_letter : Df P w K mg base 1 "is_letter" (spWordD 1 1)) (D_is_text : Df P w K mg base 2 "is_text" (spWordD 0 2000)) (D_is_image : Df P w K mg base 3 "is_image" (spWordD 1 4))
    (E_BadTable : Er1 P w K mg base "BadTable" "part" (Cz 0)) (E_BadLetter : Er1 P w K mg base "BadLetter" "value" (Cz 1)) (E_BadImage : Er1 P w K mg base "BadImage" "letter" (Cz 2)) (E_BadWord : Er1 P w K mg base "BadWord" "value" (Cz 3)) : FnG P w K mg base (L2.CX P w) 5 f fd ["images", "keeps"] (spToldN K Cz) := by
  refine F.okXG sc_told_images (fun vs H Q E h => ?_) (fun cdv A outer s H vs Q E quiet hr h => ?_)
  · obtain ⟨x, y, t, rfl, _⟩ := h
    rfl
  · obtain ⟨x, y, t, rfl, ty, k, o⟩ := h
    refine ⟨_, (pss_cons (ps_if (pt_not (pt_val (pe_callB call_isi (by rfl) T.isinstance (by decide +kernel) (pa_cons (pv 0) (pa_cons (pe_bltn (v := .ty "dict") (by rfl) T.dict (by decide +kernel) rfl) pa_nil)))))
        (pss_one (ps_raise rfl (takes_of rfl rfl rfl rfl) (pmk_one E_BadTable quiet hr (by decide) (by rfl) (pa_cons pe_str pa_nil))))
        pss_nil)
      (pss_cons (ps_lock (ps_for (passes_of rfl) rfl (pi_keys (pv 0)) (pg_name (i := 2) sc_told_images.nd rfl (.inl rfl))
        (pss_one (ps_if (pt_not (pt_val (pe_c D_is_letter hr (by decide) (by rfl) (pa_cons (pv 2) pa_nil))))
          (pss_one (ps_raise rfl (takes_unl (H0 := H) rfl (takes_of rfl rfl rfl rfl)) (pmk_one E_BadLetter quiet hr (by decide) (by rfl) (pa_cons (pv 2) pa_nil))))
          pss_nil))))
      (pss_cons (ps_for (passes_of rfl) rfl (pi_str (pe_gv T.gLETTERS (by rfl))) (pg_name (i := 3) sc_told_images.nd rfl (.inl rfl))
        (pss_one (ps_if (PW.pt (pw_and (pt_cmp (pc_din (hu_of hr) (pv 3) (pv 0))) (pw_and1 (pt_not (pt_val (pe_c D_is_image hr (by decide) (by rfl) (pa_cons (pe_dget (hu_of hr) (pv 0) (pv 3) (fun _ _ => rfl)) pa_nil)))))))
          (pss_one (ps_raise rfl (takes_of rfl rfl rfl rfl) (pmk_one E_BadImage quiet hr (by decide) (by rfl) (pa_cons (pv 3) pa_nil))))
          pss_nil)))
      (pss_cons (ps_if (pt_not (pt_val (pe_c D_is_text hr (by decide) (by rfl) (pa_cons (pv 1) pa_nil))))
        (pss_one (ps_raise rfl (takes_of rfl rfl rfl rfl) (pmk_one E_BadWord quiet hr (by decide) (by rfl) (pa_cons (pv 1) pa_nil))))
        pss_nil)
      (pss_cons (ps_setDc (j := 4) (own := [("letter", 3)]) (g := gName 3) (by rfl) sc_told_images.nd rfl rfl (sw_trueD rfl rfl rfl (by decide +kernel)) (pi_str (pv 1)) (blkOk_by (own := [("letter", 3)]) (N := n_told_images) (sc := defScope s_told_images) (by decide +kernel)) (fun _ _ _ _ _ => (pg_name (i := 3) sc_told_images.nd rfl (.inl rfl))) (fun _ _ _ _ _ => pts_nil) (fun _ _ _ _ _ => (pv 3)) (fun _ _ _ _ _ => (pv 3)))
      (pss_one (ps_ret (pe_merge2 (pv 4) (pv 0))))))))), ?_⟩
    refine ⟨_, rfl, _, .ty "dict", t, .type "dict", false, rfl, .ty _, ty, k, false, rfl, iteT ?_⟩
    exact ⟨by show 1 ≤ 1000; decide, fun a na => rz1 E_BadTable.oc E_BadTable.no (o.rz (Same.refl H) (th_flat nice_images).th) a na⟩
theorem ok_toldM {f : Addr} {fd : FuncData} (F : Fun K "told_images" "told_images" s_told_images f fd) (T : Tx K mg CM CJ) (D_is_letter : Df P w K mg base 1 "is_letter" (spWordD 1 1)) (D_is_text : Df P w K mg base 2 "is_text" (spWordD 0 2000)) (D_is_image : Df P w K mg base 3 "is_image" (spWordD 1 4))
    (E_BadTable : Er1 P w K mg base "BadTable" "part" (Cz 0)) (E_BadLetter : Er1 P w K mg base "BadLetter" "value" (Cz 1)) (E_BadImage : Er1 P w K mg base "BadImage" "letter" (Cz 2)) (E_BadWord : Er1 P w K mg base "BadWord" "value" (Cz 3)) : FnG P w K mg base (L2.CX P w) 5 f fd ["images", "keeps"] (spToldM w Cz) := by
  refine F.okXG sc_told_images (fun vs H Q E h => ?_) (fun cdv A outer s H vs Q E quiet hr h => ?_)
  · obtain ⟨a, y, ks, d, rfl, _⟩ := h
    rfl
  · obtain ⟨a, y, ks, d, rfl, ⟨⟨kvs, m, pr⟩, few, lay⟩, fd, o⟩ := h
    refine ⟨_, (pss_cons (ps_if (pt_not (pt_val (pe_callB call_isiM (by rfl) T.isinstance (by decide +kernel) (pa_cons (pv 0) (pa_cons (pe_bltn (v := .ty "dict") (by rfl) T.dict (by decide +kernel) rfl) pa_nil)))))
        (pss_one (ps_raise rfl (takes_of rfl rfl rfl rfl) (pmk_one E_BadTable quiet hr (by decide) (by rfl) (pa_cons pe_str pa_nil))))
        pss_nil)
      (pss_cons (ps_lock (ps_for (passes_of rfl) rfl (pi_keysX (pv 0)) (pg_name (i := 2) sc_told_images.nd rfl (.inl rfl))
        (pss_one (ps_if (pt_not (pt_val (pe_c D_is_letter hr (by decide) (by rfl) (pa_cons (pv 2) pa_nil))))
          (pss_one (ps_raise rfl (takes_unl (H0 := H) rfl (takes_of rfl rfl rfl rfl)) (pmk_one E_BadLetter quiet hr (by decide) (by rfl) (pa_cons (pv 2) pa_nil))))
          pss_nil))))
      (pss_cons (ps_for (passes_of rfl) rfl (pi_str (pe_gv T.gLETTERS (by rfl))) (pg_name (i := 3) sc_told_images.nd rfl (.inl rfl))
        (pss_one (ps_if (PW.pt (pw_and (pt_cmp (pc_din (hu_of hr) (pv 3) (pv 0))) (pw_and1 (pt_not (pt_val (pe_c D_is_image hr (by decide) (by rfl) (pa_cons (pe_dget (hu_of hr) (pv 0) (pv 3) (fun _ _ => rfl)) pa_nil)))))))
          (pss_one (ps_raise rfl (takes_of rfl rfl rfl rfl) (pmk_one E_BadImage quiet hr (by decide) (by rfl) (pa_cons (pv 3) pa_nil))))
          pss_nil)))
      (pss_cons (ps_if (pt_not (pt_val (pe_c D_is_text hr (by decide) (by rfl) (pa_cons (pv 1) pa_nil))))
        (pss_one (ps_raise rfl (takes_of rfl rfl rfl rfl) (pmk_one E_BadWord quiet hr (by decide) (by rfl) (pa_cons (pv 1) pa_nil))))
        pss_nil)
      (pss_cons (ps_setDc (j := 4) (own := [("letter", 3)]) (g := gName 3) (by rfl) sc_told_images.nd rfl rfl (sw_trueD rfl rfl rfl (by decide +kernel)) (pi_str (pv 1)) (blkOk_by (own := [("letter", 3)]) (N := n_told_images) (sc := defScope s_told_images) (by decide +kernel)) (fun _ _ _ _ _ => (pg_name (i := 3) sc_told_images.nd rfl (.inl rfl))) (fun _ _ _ _ _ => pts_nil) (fun _ _ _ _ _ => (pv 3)) (fun _ _ _ _ _ => (pv 3)))
      (pss_one (ps_ret (pe_merge2 (pv 4) (pv 0))))))))), ?_⟩
    have hn : ∀ (o' : Obj) (u' : HO), MixO w a kvs ≠ .frz o' u' := fun _ _ z => nomatch z
    refine ⟨_, rfl, a, kvs, .ty "dict", .type "dict", true, rfl, m, .ty _, kit_ty (by decide +kernel), true, rfl, iteF ?_⟩
    refine ⟨a, _, m.at_, True.intro, fun od => ⟨_, rfl, a, od, kvs, rfl, upd_same, for_it (walk_keysM (w := w) (d := a) (o := od) (kvs := kvs)) (fun i σ H2 => (∃ v2, σ = [some (.ref a), some y, v2, none, none]) ∧ H2 = upd H a (.frz od (MixO w a kvs)) ∧ ∀ d ∈ ks.take i, (!wordD 1 1 d) = false) ⟨⟨none, rfl⟩, rfl, fun d h => by simp at h⟩ ?_ ?_ ?_⟩⟩
    · rintro i σ H2 hi ⟨_, rfl, _⟩
      exact upd_same
    · rintro i x σ H2 H3 hi ⟨⟨v2, rfl⟩, rfl, kn⟩ ⟨rfl, k, v, hk⟩
      obtain ⟨d2, hd2, hh⟩ := pair_get pr hk
      have ne : ∀ b, x = .ref b → b ≠ a := fun b e z => by
        have kv := m.keys _ (List.mem_of_getElem? hk)
        dsimp only at kv
        rw [e] at kv
        cases kv with
        | flat g => cases g
        | tup ht _ =>
          rw [z, m.at_] at ht
          cases ht
      have hh2 : Held (upd H a (.frz od (MixO w a kvs))) x d2 := held_move hh fun b o e h => by rw [upd_ne (ne b e)]; exact h
      refine ⟨_, rfl, x, d2, rfl, hh2.pw, fun z e => (hh2.ni.tx z e).1, ?_⟩
      cases e : wordD 1 1 d2 with
      | true =>
        refine ⟨true, rfl, iteF ⟨⟨_, rfl⟩, rfl, fun d3 h3 => ?_⟩⟩
        rw [List.take_add_one, hd2] at h3
        rcases List.mem_append.mp h3 with h | h
        · exact kn d3 h
        · rw [List.mem_singleton.mp h, e]
          rfl
      | false =>
        have f2 := find_take hd2 kn (by rw [e]; rfl)
        rw [f2] at fd
        cases fd
        exact ⟨false, rfl, iteT ⟨_, rfl, by show 1 ≤ 1000; decide, fun b nb => rz1 E_BadLetter.oc E_BadLetter.no (out_unl o m.at_ hn hh2.th) b nb⟩⟩
    · rintro σ H2 ⟨_, _, kn⟩
      exfalso
      have e := pair_len pr
      rw [List.take_of_length_le (by omega)] at kn
      rw [find_no kn] at fd
      cases fd
theorem ok_toldK {f : Addr} {fd : FuncData} (F : Fun K "told_images" "told_images" s_told_images f fd) (T : Tx K mg CM CJ) (D_is_letter : Df P w K mg base 1 "is_letter" (spWordD 1 1)) (D_is_text : Df P w K mg base 2 "is_text" (spWordD 0 2000)) (D_is_image : Df P w K mg base 3 "is_image" (spWordD 1 4))
    (E_BadTable : Er1 P w K mg base "BadTable" "part" (Cz 0)) (E_BadLetter : Er1 P w K mg base "BadLetter" "value" (Cz 1)) (E_BadImage : Er1 P w K mg base "BadImage" "letter" (Cz 2)) (E_BadWord : Er1 P w K mg base "BadWord" "value" (Cz 3)) : FnG P w K mg base (L2.CX P w) 5 f fd ["images", "keeps"] (spToldK Cz) := by
  refine F.okXG sc_told_images (fun vs H Q E h => ?_) (fun cdv A outer s H vs Q E quiet hr h => ?_)
  · obtain ⟨a, y, dt, d, b, rfl, _⟩ := h
    rfl
  · obtain ⟨a, y, dt, d, b, rfl, ⟨⟨kvs, hd, pr⟩, nd, few, tx⟩, hy, tb, o⟩ := h
    refine ⟨_, (pss_cons (ps_if (pt_not (pt_val (pe_callB call_isi (by rfl) T.isinstance (by decide +kernel) (pa_cons (pv 0) (pa_cons (pe_bltn (v := .ty "dict") (by rfl) T.dict (by decide +kernel) rfl) pa_nil)))))
        (pss_one (ps_raise rfl (takes_of rfl rfl rfl rfl) (pmk_one E_BadTable quiet hr (by decide) (by rfl) (pa_cons pe_str pa_nil))))
        pss_nil)
      (pss_cons (ps_lock (ps_for (passes_of rfl) rfl (pi_keys (pv 0)) (pg_name (i := 2) sc_told_images.nd rfl (.inl rfl))
        (pss_one (ps_if (pt_not (pt_val (pe_c D_is_letter hr (by decide) (by rfl) (pa_cons (pv 2) pa_nil))))
          (pss_one (ps_raise rfl (takes_unl (H0 := H) rfl (takes_of rfl rfl rfl rfl)) (pmk_one E_BadLetter quiet hr (by decide) (by rfl) (pa_cons (pv 2) pa_nil))))
          pss_nil))))
      (pss_cons (ps_for (passes_of rfl) rfl (pi_str (pe_gv T.gLETTERS (by rfl))) (pg_name (i := 3) sc_told_images.nd rfl (.inl rfl))
        (pss_one (ps_if (PW.pt (pw_and (pt_cmp (pc_din (hu_of hr) (pv 3) (pv 0))) (pw_and1 (pt_not (pt_val (pe_c D_is_image hr (by decide) (by rfl) (pa_cons (pe_dget (hu_of hr) (pv 0) (pv 3) (fun _ _ => rfl)) pa_nil)))))))
          (pss_one (ps_raise rfl (takes_of rfl rfl rfl rfl) (pmk_one E_BadImage quiet hr (by decide) (by rfl) (pa_cons (pv 3) pa_nil))))
          pss_nil)))
      (pss_cons (ps_if (pt_not (pt_val (pe_c D_is_text hr (by decide) (by rfl) (pa_cons (pv 1) pa_nil))))
        (pss_one (ps_raise rfl (takes_of rfl rfl rfl rfl) (pmk_one E_BadWord quiet hr (by decide) (by rfl) (pa_cons (pv 1) pa_nil))))
        pss_nil)
      (pss_cons (ps_setDc (j := 4) (own := [("letter", 3)]) (g := gName 3) (by rfl) sc_told_images.nd rfl rfl (sw_trueD rfl rfl rfl (by decide +kernel)) (pi_str (pv 1)) (blkOk_by (own := [("letter", 3)]) (N := n_told_images) (sc := defScope s_told_images) (by decide +kernel)) (fun _ _ _ _ _ => (pg_name (i := 3) sc_told_images.nd rfl (.inl rfl))) (fun _ _ _ _ _ => pts_nil) (fun _ _ _ _ _ => (pv 3)) (fun _ _ _ _ _ => (pv 3)))
      (pss_one (ps_ret (pe_merge2 (pv 4) (pv 0))))))))), ?_⟩
    have hn : ∀ (o' : Obj) (u' : HO), HO.dK kvs ≠ .frz o' u' := fun _ _ z => nomatch z
    refine ⟨_, rfl, _, .ty "dict", .type "dict", .type "dict", true, rfl, .ty _, .base (.dK hd), kit_ty (by decide +kernel), true, rfl, iteF ?_⟩
    refine ⟨a, _, hd, True.intro, fun od => ⟨_, rfl, a, od, rfl, .inl ⟨_, upd_same, for_it walk_keys (fun i σ H2 => (∃ v2, σ = [some (.ref a), some y, v2, none, none]) ∧ H2 = upd H a (.frz od (.dK kvs)) ∧ ∀ q ∈ dt.take i, (!keyOk q.1) = false) ⟨⟨none, rfl⟩, rfl, fun d h => by simp at h⟩ ?_ ?_ ?_⟩⟩⟩
    · rintro i σ H2 hi ⟨_, rfl, _⟩
      exact upd_same
    · rintro i x σ H2 H3 hi ⟨⟨v2, rfl⟩, rfl, kn⟩ ⟨rfl, k, v, hk, rfl⟩
      obtain ⟨⟨k2, d2⟩, hd2, ek, hh⟩ := pair_get pr hk
      dsimp only at ek
      subst ek
      have nk := tx _ (List.mem_of_getElem? hd2)
      dsimp only at nk
      have hh2 : Held (upd H a (.frz od (.dK kvs))) (kV k) (keyD k) := key_held nk
      refine ⟨_, rfl, _, keyD k, rfl, hh2.pw, fun z e => (hh2.ni.tx z e).1, ?_⟩
      cases e : wordD 1 1 (keyD k) with
      | true =>
        refine ⟨true, rfl, iteF ⟨⟨_, rfl⟩, rfl, fun d3 h3 => ?_⟩⟩
        rw [List.take_add_one, hd2] at h3
        rcases List.mem_append.mp h3 with h | h
        · exact kn d3 h
        · rw [List.mem_singleton.mp h]
          show (!wordD 1 1 (keyD k)) = false
          rw [e]
          rfl
      | false =>
        have f2 := find_take hd2 kn (by show (!wordD 1 1 (keyD k)) = true; rw [e]; rfl)
        unfold toldD at tb
        rw [f2] at tb
        cases tb
        exact ⟨false, rfl, iteT ⟨_, rfl, by show 1 ≤ 1000; decide, fun b nb => rz1 E_BadLetter.oc E_BadLetter.no (out_unl o hd hn hh2.th) b nb⟩⟩
    · rintro σ H2 ⟨⟨v2, rfl⟩, rfl, kn⟩
      refine ⟨upd_same, ?_⟩
      rw [Same.upd_back hd]
      have e := pair_len pr
      rw [List.take_of_length_le (by omega)] at kn
      unfold toldD at tb
      rw [find_no kn] at tb
      dsimp only at tb
      refine ⟨abcS, rfl, for_it walk_str (fun i σ H2 => (∃ v3, σ = [some (.ref a), some y, v2, v3, none]) ∧ H = H2 ∧ ∀ c ∈ abc.take i, badAt dt c = false) ⟨⟨none, rfl⟩, rfl, fun d h => by simp at h⟩ ?_ ?_ ?_⟩
      · rintro i σ H2 hi _
        trivial
      · rintro i x σ H2 H2' hi ⟨⟨v3, rfl⟩, rfl, kc⟩ ⟨eH, c, hc, rfl⟩
        rw [eH]
        have hc' : abc[i]? = some c := by
          rw [← abcS_cps]
          simpa using hc
        have step : badAt dt c = false → ∀ c2 ∈ abc.take (i + 1), badAt dt c2 = false := fun e2 c2 h2 => by
          rw [List.take_add_one, hc'] at h2
          rcases List.mem_append.mp h2 with h | h
          · exact kc c2 h
          · rw [List.mem_singleton.mp h]
            exact e2
        refine ⟨_, rfl, _, rfl, a, _, rfl, DGet.k (k := Sum.inr (L1 c)) hd, _, rfl, ?_⟩
        rcases at_pair pr (.inr (L1 c)) with ⟨e1, e2⟩ | ⟨v, d2, e1, e2, hv⟩
        · rw [e1]
          refine iteF ⟨⟨_, rfl⟩, rfl, step ?_⟩
          unfold badAt
          rw [e2]
        · rw [e1]
          refine iteT ?_
          refine ⟨_, rfl, _, rfl, a, v, rfl, .inl ⟨_, Sum.inr (L1 c), .inl hd, rfl, e1.symm⟩, v, d2, rfl, hv.pw, fun z e => (hv.ni.tx z e).1, ?_⟩
          cases e3 : wordD 1 4 d2 with
          | true =>
            refine ⟨true, rfl, ⟨⟨_, rfl⟩, rfl, step ?_⟩⟩
            unfold badAt
            rw [e2]
            show (!wordD 1 4 d2) = false
            rw [e3]
            rfl
          | false =>
            have b1 : badAt dt c = true := by
              unfold badAt
              rw [e2]
              show (!wordD 1 4 d2) = true
              rw [e3]
              rfl
            rw [find_take hc' kc b1] at tb
            cases tb
            exact ⟨false, rfl, ⟨_, rfl, by show 1 ≤ 1000; decide, fun b nb => rz1 E_BadImage.oc E_BadImage.no (o.rz (Same.refl H) (th_flat (nice_let c (List.mem_of_getElem? hc'))).th) b nb⟩⟩
      · rintro σ H2 ⟨⟨v3, rfl⟩, rfl, kc⟩
        have hsz : abcS.cps.size = 26 := by decide +kernel
        rw [hsz, List.take_of_length_le (by rw [abc_len]; exact Nat.le_refl _)] at kc
        rw [find_no kc] at tb
        dsimp only at tb
        refine ⟨_, rfl, y, d, rfl, hy.pw, fun z e => (hy.ni.tx z e).1, ?_⟩
        cases e3 : wordD 0 2000 d with
        | true =>
          rw [e3, if_pos rfl] at tb
          cases tb
        | false =>
          rw [e3, if_neg Bool.false_ne_true] at tb
          cases tb
          exact ⟨false, rfl, iteT ⟨_, rfl, by show 1 ≤ 1000; decide, fun b nb => rz1 E_BadWord.oc E_BadWord.no (o.rz (Same.refl H) hy.th) b nb⟩⟩
end
end V8

set_option Elab.async false
set_option linter.all false
set_option maxRecDepth 100000
set_option maxHeartbeats 8000000
/-! Misreadings made by the class's name; same. -/
namespace V8
open PySem PySem.Spec PyProof.Rows L2
def mkR (CM : Addr) : List V → Hp → VK → Prop := fun vs H Q => ∃ (d : Addr) (cs st : List Nat) (t : Tab), vs = [.ref d, .str (Sx st)] ∧ H d = some (.dK (encT t)) ∧ GoodT cs t ∧ ((toldT st t).length ≤ 12 ∧ cs.length ≤ 26) ∧ (∀ c ∈ cs, isLt c) ∧ (∀ c ∈ st, c ∈ cs) ∧ st.length ≤ 2000 ∧
  ∀ x H', H x = none → MisN CM H H' x (toldT st t) → Same H H' → Q (.ref x) H'
theorem misn_of {C : Addr} {H H' : Hp} {x dx : Addr} {u : Tab} {o o' : HO} (m : MisN C (upd (upd H dx o) x o') H' x u) (hx : H x = none) (hdx : H dx = none) : MisN C H H' x u := by
  obtain ⟨ex, a, b, c, h1, h2, h3, h4, n1, n2, n3⟩ := m.at_
  have back : ∀ b, upd (upd H dx o) x o' b = none → H b = none := fun b n => by
    cases e : H b with
    | none => rfl
    | some z =>
      rw [upd_ne (ne_of_none e hx), upd_ne (ne_of_none e hdx), e] at n
      cases n
  exact ⟨ex, a, b, c, h1, h2, h3, h4, back _ n1, back _ n2, back _ n3⟩
theorem mk_of {CM : Addr} {vs : List V} {H : Hp} {Q : VK} {E : XK} (h : mkR CM vs H Q) : ∀ x dx, H x = none → H dx = none → dx ≠ x → spInit CM (.ref x :: vs) (upd (upd H dx (.own x)) x (.ins CM dx [])) (fun v H2 => v = .non ∧ Q (.ref x) H2) E := by
  obtain ⟨d, cs, st, t, rfl, hd, G, h12, hlt, hst, hs5, q⟩ := h
  intro x dx hx hdx ne
  have hd2 : upd (upd H dx (.own x)) x (.ins CM dx []) d = some (.dK (encT t)) := by
    rw [upd_ne (ne_of_none hd hx), upd_ne (ne_of_none hd hdx)]
    exact hd
  refine ⟨x, dx, d, cs, st, t, rfl, upd_same, hd2, G, h12, hlt, hst, hs5, fun H' m fr => ⟨rfl, q x H' hx (misn_of m hx hdx) fun b o e => ?_⟩⟩
  have bx := ne_of_none e hx
  refine fr b o ?_ bx
  rw [upd_ne bx, upd_ne (ne_of_none e hdx)]
  exact e
def pI : List Str := ["self", "images", "keeps"]
/-- the class by its name -/
structure Mkr (P : Program) (w : World) (K : PySem.W.Frag) (mg : Str → Option Value) (base : Heap) (CM : Addr) : Prop where
  ex : ∃ (f : Addr) (fd : FuncData), Mk K CM f ∧ FnOk P w K mg base CX0 5 f fd pI (spInit CM) ∧ mg "Misreading" = some (.ref CM) ∧ Binds K fd pI [] ∧ (∃ ds, Vals [.str (Sx [])] ds ∧ Binds K fd pI ds) ∧
    KBn K fd pI 1 ["keeps", "images"] (fun us ws => us ++ ws.reverse) (fun vs zs => vs ++ zs.reverse) ∧ (∃ its : List Value, KBn K fd pI 1 ["images"] (fun us ws => us ++ ws ++ its) (fun vs zs => vs ++ zs ++ [.str (Sx [])])) ∧
    KBn K fd pI 2 ["keeps"] (fun us ws => us ++ ws) (fun vs zs => vs ++ zs)
def tMk2 (CM : Addr) (t : TA) : TE := fun σ H Q => t σ H fun vs H1 => mkR CM vs H1 Q
def tMk1 (CM : Addr) (t : TA) : TE := fun σ H Q => t σ H fun vs H1 => mkR CM (vs ++ [.str (Sx [])]) H1 Q
def tMkKI (CM : Addr) (tk : TA) : TE := fun σ H Q => tk σ H fun zs H1 => zs.length = 2 ∧ mkR CM zs.reverse H1 Q
def tMkI (CM : Addr) (tk : TA) : TE := fun σ H Q => tk σ H fun zs H1 => zs.length = 1 ∧ mkR CM (zs ++ [.str (Sx [])]) H1 Q
def tMk1K (CM : Addr) (t tk : TA) : TE := fun σ H Q => t σ H fun vs H1 => tk σ H1 fun zs H2 => vs.length = 1 ∧ zs.length = 1 ∧ mkR CM (vs ++ zs) H2 Q
section
variable {X : Cx} {j : Nat} {CM : Addr} {p pos : Pos} {e : Expr} {es : List Expr} {kws : List Keyword} {t tk : TA}
theorem pe_mk2 (M : Mkr X.prog X.w X.K X.mg X.base CM) (hr : Room j X.A) (hj : 6 ≤ j) (hg : Gl X "Misreading") (ha : PA X (e :: es) t) (he : starEach (e :: es) X.env = (false, eval e X.env) :: starEach es X.env := by rfl) (hpl : (backTo pos (starEach es X.env)).any (·.1) = false := by rfl) :
    PE X (.Call (.Name "Misreading" p) (e :: es) [] pos) (tMk2 CM t) := by
  obtain ⟨f, fd, M, F, hm, b0, b1, k2, k1, k11⟩ := M.ex
  refine ⟨fun pins s σ H Q I h => ?_⟩
  refine wpAny_Call_Name_kw (ld_glob I hg hm ?_ (by decide))
  refine PySem.W.callWith_K (h₀ := X.base) I.ok.mod.kin M.kp (thn (ha.run pos pins s σ H _ I h) fun us s1 ⟨vs, H1, I1, r, q⟩ => ⟨I1.kIn, ?_⟩) he hpl
  exact run_make (dvs := []) (ds := []) M F (hr.mono hj) b0 .nil pass0 I1 r (by rw [List.append_nil]; exact mk_of q)
theorem pe_mk1 (M : Mkr X.prog X.w X.K X.mg X.base CM) (hr : Room j X.A) (hj : 6 ≤ j) (hg : Gl X "Misreading") (ha : PA X (e :: es) t) (he : starEach (e :: es) X.env = (false, eval e X.env) :: starEach es X.env := by rfl) (hpl : (backTo pos (starEach es X.env)).any (·.1) = false := by rfl) :
    PE X (.Call (.Name "Misreading" p) (e :: es) [] pos) (tMk1 CM t) := by
  obtain ⟨f, fd, M, F, hm, b0, ⟨ds, hd, b1⟩, k2, k1, k11⟩ := M.ex
  refine ⟨fun pins s σ H Q I h => ?_⟩
  refine wpAny_Call_Name_kw (ld_glob I hg hm ?_ (by decide))
  refine PySem.W.callWith_K (h₀ := X.base) I.ok.mod.kin M.kp (thn (ha.run pos pins s σ H _ I h) fun us s1 ⟨vs, H1, I1, r, q⟩ => ⟨I1.kIn, ?_⟩) he hpl
  exact run_make M F (hr.mono hj) b1 hd pass0 I1 r (mk_of q)
theorem pe_mkKI (M : Mkr X.prog X.w X.K X.mg X.base CM) (hr : Room j X.A) (hj : 6 ≤ j) (hg : Gl X "Misreading") (hkw : PK X kws tk) (hall : (backToKw pos (keywordEach kws X.env)).all (·.1.isSome) = true := by rfl) (hks : (backToKw pos (keywordEach kws X.env)).filterMap (·.1) = (["keeps", "images"] : List Str) := by rfl)
    (hpl : ((backTo pos (starEach [] X.env)).any (·.1) || (backToKw pos (keywordEach kws X.env)).any (·.1.isNone)) = false := by rfl) : PE X (.Call (.Name "Misreading" p) [] kws pos) (tMkKI CM tk) := by
  obtain ⟨f, fd, M, F, hm, b0, b1, k2, k1, k11⟩ := M.ex
  refine ⟨fun pins s σ H Q I h => ?_⟩
  refine wpAny_Call_Name_kw (ld_glob I hg hm ?_ (by decide))
  refine PySem.W.callWith_KW0 (h₀ := X.base) I.ok.mod.kin M.kp hall ?_ hpl
  refine thn (hkw.run pos pins s σ H _ I h) fun ws s2 ⟨zs, H2, I2, rz, l2, q2⟩ => ⟨I2.kIn, ?_⟩
  rw [hks]
  exact run_makeK (us := []) (vs := []) M F (hr.mono hj) k2 pass0 I2 .nil rz rfl l2 (mk_of q2)
theorem pe_mkI (M : Mkr X.prog X.w X.K X.mg X.base CM) (hr : Room j X.A) (hj : 6 ≤ j) (hg : Gl X "Misreading") (hkw : PK X kws tk) (hall : (backToKw pos (keywordEach kws X.env)).all (·.1.isSome) = true := by rfl) (hks : (backToKw pos (keywordEach kws X.env)).filterMap (·.1) = (["images"] : List Str) := by rfl)
    (hpl : ((backTo pos (starEach [] X.env)).any (·.1) || (backToKw pos (keywordEach kws X.env)).any (·.1.isNone)) = false := by rfl) : PE X (.Call (.Name "Misreading" p) [] kws pos) (tMkI CM tk) := by
  obtain ⟨f, fd, M, F, hm, b0, b1, k2, ⟨its, k1⟩, k11⟩ := M.ex
  refine ⟨fun pins s σ H Q I h => ?_⟩
  refine wpAny_Call_Name_kw (ld_glob I hg hm ?_ (by decide))
  refine PySem.W.callWith_KW0 (h₀ := X.base) I.ok.mod.kin M.kp hall ?_ hpl
  refine thn (hkw.run pos pins s σ H _ I h) fun ws s2 ⟨zs, H2, I2, rz, l2, q2⟩ => ⟨I2.kIn, ?_⟩
  rw [hks]
  exact run_makeK (us := []) (vs := []) M F (hr.mono hj) k1 pass0 I2 .nil rz rfl l2 (mk_of q2)
theorem pe_mk1K (M : Mkr X.prog X.w X.K X.mg X.base CM) (hr : Room j X.A) (hj : 6 ≤ j) (hg : Gl X "Misreading") (ha : PA X (e :: es) t) (hkw : PK X kws tk) (hall : (backToKw pos (keywordEach kws X.env)).all (·.1.isSome) = true := by rfl) (hks : (backToKw pos (keywordEach kws X.env)).filterMap (·.1) = (["keeps"] : List Str) := by rfl)
    (he : starEach (e :: es) X.env = (false, eval e X.env) :: starEach es X.env := by rfl) (hpl : ((backTo pos (starEach (e :: es) X.env)).any (·.1) || (backToKw pos (keywordEach kws X.env)).any (·.1.isNone)) = false := by rfl) :
    PE X (.Call (.Name "Misreading" p) (e :: es) kws pos) (tMk1K CM t tk) := by
  obtain ⟨f, fd, M, F, hm, b0, b1, k2, k1, k11⟩ := M.ex
  refine ⟨fun pins s σ H Q I h => ?_⟩
  refine wpAny_Call_Name_kw (ld_glob I hg hm ?_ (by decide))
  refine PySem.W.callWith_KW (h₀ := X.base) I.ok.mod.kin M.kp hall (thn (ha.run pos pins s σ H _ I h) fun us s1 ⟨vs, H1, I1, r, q⟩ => ?_) hpl he
  refine thn (hkw.run pos pins s1 σ H1 _ I1 q) fun ws s2 ⟨zs, H2, I2, rz, l1, l2, q2⟩ => ⟨I2.kIn, ?_⟩
  rw [hks]
  exact run_makeK (n := 1) M F (hr.mono hj) k11 pass0 I2 r rz l1 l2 (mk_of q2)
end
theorem vals_rev : ∀ {xs : List V} {us : List Value}, Vals xs us → Vals xs.reverse us.reverse
  | _, _, .nil => .nil
  | _, _, .cons h r => by
    rw [List.reverse_cons, List.reverse_cons]
    exact (vals_rev r).append (.cons h .nil)
/-- what K holds of the def, as the rules above want it -/
theorem mkr_of {P : Program} {w : World} {K : PySem.W.Frag} {mg : Str → Option Value} {base : Heap} {CM CJ f : Addr} {fd : FuncData} (F : FunD K "__init__" "Misreading.__init__" (defArgs s_Misreading_init) (defBody s_Misreading_init) (defScope s_Misreading_init) [.str (Sx [])] [] f fd) (T : Tx K mg CM CJ)
    (D_told_images : Df P w K mg base 4 "told_images" spTold) (M : Mk K CM f) (hm : mg "Misreading" = some (.ref CM)) : Mkr P w K mg base CM := by
  refine ⟨f, fd, M, ok_init F T D_told_images, hm, ?_, ?_, ?_, ?_, ?_⟩
  · obtain ⟨ds, h1, h2⟩ := F.binds1 (ps := pI) 3 1 (fun z => nomatch z) rfl (fun T kV doc pm an cdv ct us its h1 h2 => match us, its, h1, h2 with | [_, _, _], [_], _, _ => ⟨_, rfl, rfl⟩)
    cases h1
    exact h2
  · obtain ⟨ds, h1, h2⟩ := F.binds1 (ps := pI) 2 0 (fun z => nomatch z) rfl (fun T kV doc pm an cdv ct us its h1 h2 => match us, its, h1, h2 with | [_, _], [_], _, _ => ⟨_, rfl, rfl⟩)
    exact ⟨ds, h1, h2⟩
  · obtain ⟨its, h⟩ := F.kbindsD (ps := pI) 1 ["keeps", "images"] (fun us _ ws => us ++ ws.reverse) (fun z => nomatch z) (fun r1 _ r3 => r1.append (vals_rev r3)) (fun T kV doc pm an cdv ct us its ws h1 h2 h3 => match us, its, ws, h1, h2, h3 with | [_], [_], [_, _], _, _, _ => ⟨_, rfl, rfl⟩)
    exact h
  · obtain ⟨its, h⟩ := F.kbindsD (ps := pI) 1 ["images"] (fun us ds ws => us ++ ws ++ ds) (fun z => nomatch z) (fun r1 r2 r3 => (r1.append r3).append r2) (fun T kV doc pm an cdv ct us its ws h1 h2 h3 => match us, its, ws, h1, h2, h3 with | [_], [_], [_], _, _, _ => ⟨_, rfl, rfl⟩)
    exact ⟨its, h⟩
  · obtain ⟨its, h⟩ := F.kbindsD (ps := pI) 2 ["keeps"] (fun us _ ws => us ++ ws) (fun z => nomatch z) (fun r1 _ r3 => r1.append r3) (fun T kV doc pm an cdv ct us its ws h1 h2 h3 => match us, its, ws, h1, h2, h3 with | [_, _], [_], [_], _, _, _ => ⟨_, rfl, rfl⟩)
    exact h
end V8

set_option Elab.async false
set_option linter.all false
set_option maxRecDepth 100000
set_option maxHeartbeats 4000000
/-! Where no repr is under way: own classes made, methods, [ ], staticmethods, by defs that may raise. -/
namespace L2
open PySem PySem.Spec PyProof.Rows
/-- two promises, of which the one raises nothing -/
theorem FnG.either0 {P : Program} {w : World} {K : PySem.W.Frag} {mg : Str → Option Value} {base : Heap} {C : CXT} {k : Nat} {f : Addr} {fd : FuncData} {ps : List Str} {sp1 sp2 : Sp} (F1 : FnG P w K mg base CX0 k f fd ps sp1) (F2 : FnG P w K mg base C k f fd ps sp2) :
    FnG P w K mg base C k f fd ps (fun vs H Q E => sp1 vs H Q E0 ∨ sp2 vs H Q E) := by
  refine ⟨fun vs H Q E h => h.elim (F1.count _ _ _ _) (F2.count _ _ _ _), fun A outer s H args us vs Q E g r e b v h => ?_⟩
  rcases h with h | h
  · refine codeAny_mono (F1.runs A outer s H args us vs Q E0 g r e b v h) fun x s2 q => ?_
    match x, q with
    | .error er, q => exact (show False from q).elim
    | .ok (.ret u), q => exact q
    | .ok .next, q => exact q
    | .ok .brk, q => exact q
    | .ok .cont, q => exact q
  · exact F2.runs A outer s H args us vs Q E g r e b v h
section
variable {X : Cx} {C : CXT} {k j n : Nat} {f Cl p0 : Addr} {fd : FuncData} {ps ks : List Str} {sp : Sp} {E : XK} {m : Str} {o e : Expr} {es : List Expr} {kws : List Keyword} {pos apos : Pos} {ta tb : TE} {t tk : TA} {mc : Value}
/-- the def runs, wherever it is quiet -/
theorem runQ {A : Around} {pins : List (Addr × Obj)} {σ : St} {H : Hp} {s : Shared} {Q : VK} {us : List Value} {xs : List V} (F : FnG X.prog X.w X.K X.mg X.base C k f fd ps sp) (g : Quiet A) (sb : Sub X k A) (b : Binds X.K fd ps []) (out : Passes C X E)
    (I : Inv X pins σ H s) (v : Vals xs us) (h : sp xs H Q E) : wpAny (model X.prog X.w) A (call (.ref f) us) (EP X pins σ Q) X.xe s := by
  have en : Env0 X.prog X.w X.K X.mg X.base A X.stack s H := by
    have z := I.env0
    exact ⟨by rw [sb.fr]; exact z.frames, z.mod, z.bs, z.bsz, z.funs, z.frf, z.hok, z.bare⟩
  have many : us.length = ps.length := by
    rw [← v.length]
    exact F.count _ _ _ _ h
  have bd := b s us I.kIn (by rw [List.append_nil]; exact many)
  rw [List.append_nil] at bd
  refine wpAny_call (codeAny_mono (F.runs A X.stack s H ⟨us, []⟩ us xs Q E g sb.room en bd v h) fun x s2 q => ?_)
  match x, q with
  | .error er, q => exact out pins σ H s er s2 I q
  | .ok (.ret u), q => exact I.after q
  | .ok .next, q => exact q.elim
  | .ok .brk, q => exact q.elim
  | .ok .cont, q => exact q.elim
/-- a method of the text's own -/
structure MfG (P : Program) (w : World) (K : PySem.W.Frag) (mg : Str → Option Value) (base : Heap) (CX : CXT) (k : Nat) (C : Addr) (m : Str) (sp : Sp) : Prop where
  ex : ∃ (f : Addr) (fd : FuncData) (ps : List Str), FnG P w K mg base CX k f fd ps sp ∧ Meth K C m f ∧ Own K C m f ∧ PySem.W.fnIn K f = true ∧ Binds K fd ps []
theorem pe_mtG {pl : Sem Bool} (he : PE X o ta) (c : Cls X.K Cl) (M : MfG X.prog X.w X.K X.mg X.base C k Cl m sp) (g : Quiet X.A) (out : Passes C X E) (hr : Room j X.A) (hk : k ≤ j) (ha : PA X (e :: es) t)
    (hst : starEach (e :: es) X.env = (false, eval e X.env) :: starEach es X.env := by rfl) (hpl : (backTo pos (starEach es X.env)).any (·.1) = false := by rfl)
    (ht : eval (.Call (.Attribute o m apos) (e :: es) [] pos) X.env = (do
      let x ← eval o X.env
      standAt apos.atName
      let (u, first) ← holding [x] (getMethod x m pl)
      callWith pos u first (backTo pos (starEach (e :: es) X.env)) (backToKw pos (keywordEach [] X.env))) := by rfl) :
    PE X (.Call (.Attribute o m apos) (e :: es) [] pos) (tMeth Cl m sp [] E ta t) := by
  obtain ⟨f, fd, ps, F, hm, own, fi, b⟩ := M.ex
  refine ⟨fun pins s σ H Q I h => ?_⟩
  refine PySem.W.methodCall_KW (pl := pl) (thn (he.run pins s σ H _ I h) fun u s1 z => ?_) ht
  obtain ⟨x, H1, I1, rx, a, dx, fs, ex, ea, l, q⟩ := z
  subst ex
  obtain rfl : u = Value.ref a := rx
  refine getmeth_ok I1 ea c hm l ?_
  refine PySem.W.callWith_K (first := [.ref a]) (h₀ := X.base) I.ok.mod.kin hm.kp (thn (ha.run pos pins s1 σ H1 _ I1 q) fun us s2 z => ?_) hst hpl
  obtain ⟨vs, H2, I2, r, q2⟩ := z
  rw [List.append_nil] at q2
  exact ⟨I2.kIn, runQ F g (Sub.here (hr.mono hk)) b out I2 (show Vals (V.ref a :: vs) (Value.ref a :: us) from .cons rfl r) q2⟩
theorem pe_ixG {a b : Expr} (M : MfG X.prog X.w X.K X.mg X.base C k Cl "__getitem__" sp) (g : Quiet X.A) (out : Passes C X E) (hr : Room j X.A) (hk : k + 1 ≤ j) (hA : PE X a ta) (hB : PE X b tb)
    (hsl : ∀ v u, subscripted b true v u = runValue (.builtin "lifetime.subscript" ⟨[v, u], []⟩) := by intro _ _; rfl) :
    PE X (.Subscript a b pos) (tOp (fun x y H Q => ∃ a dx fs, x = .ref a ∧ H a = some (.ins Cl dx fs) ∧ sp [.ref a, y] H Q E) ta tb) := by
  obtain ⟨f, fd, ps, F, hm, own, fi, b⟩ := M.ex
  refine ⟨fun pins s σ H Q I h => ?_⟩
  refine Subscript_ (binT hA hB I h fun v u s2 x y H2 I2 rx ry q => ?_)
  obtain ⟨a, dx, fs, rfl, ha, hs⟩ := q
  obtain rfl : v = Value.ref a := rx
  obtain ⟨od, J⟩ := inst_at I2 ha
  obtain ⟨m, hF⟩ := I2.fr
  exact PySem.W.sub_K hF I2.ok.mod.kin J own.find fi own.fn (runQ F (show Quiet X.A.in1 from g) (Sub.here (hr.mono hk)).in1 b out I2 (show Vals [V.ref a, y] [Value.ref a, u] from .cons rfl (.cons ry .nil)) hs) (hsl _ _)
/-- a staticmethod of the text's own -/
structure SmG (P : Program) (w : World) (K : PySem.W.Frag) (mg : Str → Option Value) (base : Heap) (CX : CXT) (k : Nat) (C : Addr) (m : Str) (sp : Sp) : Prop where
  ex : ∃ (p g : Addr) (fd : FuncData) (mc : Value) (ps : List Str), ClX.CRead K C mc ∧ SMet K C mc m p g ∧ FnG P w K mg base CX k g fd ps sp ∧ Binds K fd ps []
theorem pe_smG {pl : Sem Bool} (he : PE X o ta) (M : SmG X.prog X.w X.K X.mg X.base C k Cl m sp) (g : Quiet X.A) (out : Passes C X E) (hr : Room j X.A) (hk : k ≤ j) (ha : PA X (e :: es) t)
    (hst : starEach (e :: es) X.env = (false, eval e X.env) :: starEach es X.env := by rfl) (hpl : (backTo pos (starEach es X.env)).any (·.1) = false := by rfl)
    (ht : eval (.Call (.Attribute o m apos) (e :: es) [] pos) X.env = (do
      let x ← eval o X.env
      standAt apos.atName
      let (u, first) ← holding [x] (getMethod x m pl)
      callWith pos u first (backTo pos (starEach (e :: es) X.env)) (backToKw pos (keywordEach [] X.env))) := by rfl) :
    PE X (.Call (.Attribute o m apos) (e :: es) [] pos) (tSMeth Cl sp E ta t) := by
  obtain ⟨p, f, fd, mc, ps, rd, sm, F, b⟩ := M.ex
  refine ⟨fun pins s σ H Q I h => ?_⟩
  refine PySem.W.methodCall_KW (pl := pl) (thn (he.run pins s σ H _ I h) fun u s1 z => ?_) ht
  obtain ⟨x, H1, I1, rx, ex, q⟩ := z
  subst ex
  obtain rfl : u = Value.ref Cl := rx
  refine getmethsm_ok I1 rd sm fun s2 I2 => ?_
  refine PySem.W.callWith_K (h₀ := X.base) I.ok.mod.kin sm.kp (thn (ha.run pos pins s2 σ H1 _ I2 q) fun us s3 z => ?_) hst hpl
  obtain ⟨vs, H2, I3, r, q2⟩ := z
  exact ⟨I3.kIn, runQ F g (Sub.here (hr.mono hk)) b out I3 r q2⟩
/-- a class made, by places and by names -/
theorem makeQ {pins : List (Addr × Obj)} {σ : St} {H : Hp} {s : Shared} {Q : VK} {us ws : List Value} {xs zs : List V} {gU : List Value → List Value → List Value} {gV : List V → List V → List V} (M : Mk X.K Cl f) (F : FnG X.prog X.w X.K X.mg X.base C k f fd ps sp) (g : Quiet X.A) (hr : Room (k + 1) X.A)
    (bd : ∀ (s : Shared) (us2 : List Value), X.K.In s.heap → us2.length = us.length + 1 → BindsTo s fd ⟨us2, ks.zip ws⟩ (ps.zip (gU us2 ws))) (rel : ∀ {vs : List V} {us2 : List Value}, Vals vs us2 → Vals (gV vs zs) (gU us2 ws)) (out : Passes C X E)
    (I : Inv X pins σ H s) (r : Vals xs us) (h : ∀ x dx, H x = none → H dx = none → dx ≠ x → sp (gV (.ref x :: xs) zs) (upd (upd H dx (.own x)) x (.ins Cl dx [])) (fun v H2 => v = .non ∧ Q (.ref x) H2) E) :
    wpAny (model X.prog X.w) X.A (call (.ref Cl) us (ks.zip ws)) (EP X pins σ Q) X.xe s := by
  have wish := h (s.heap.objs.size + 1) s.heap.objs.size (I.hok.fresh (Nat.le_succ _)) (I.hok.fresh (Nat.le_refl _)) (Nat.ne_of_lt (Nat.lt_succ_self _))
  have J := Inv.made (C := Cl) I
  have rv : Vals (gV (.ref (s.heap.objs.size + 1) :: xs) zs) (gU (Value.ref (s.heap.objs.size + 1) :: us) ws) := rel (.cons rfl r)
  have ran := F.runs _ X.stack _ _ ⟨Value.ref (s.heap.objs.size + 1) :: us, ks.zip ws⟩ _ _ _ E (under_quiet g) (hr.make Cl us (ks.zip ws)) (J.env0.make Cl us (ks.zip ws)) (bd _ (Value.ref (s.heap.objs.size + 1) :: us) J.kIn (List.length_cons ..)) rv wish
  refine wpAny_call (make_map (f := f) I.kIn M.makes M.init (beq_iff_eq.mp M.fn) (codeAny_mono ran fun x s2 q => ?_))
  match x, q with
  | .error er, q => exact out pins σ _ _ er s2 J q
  | .ok .next, q => exact q.elim
  | .ok .brk, q => exact q.elim
  | .ok .cont, q => exact q.elim
  | .ok (.ret u), q =>
    obtain ⟨v, H2, J2, rw2, ev, q3⟩ := J.after q
    subst ev
    exact ⟨rw2, ⟨V.ref (s.heap.objs.size + 1), H2, J2, rfl, q3⟩⟩
end
/-- a def with defaults, where no repr is under way -/
theorem okXGd {P : Program} {w : World} {K : PySem.W.Frag} {mg : Str → Option Value} {base : Heap} {x qual : Str} {params : Arguments} {body : List Stmt} {scope : Scope} {dvs : List V} {kws : List (Str × V)} {f : Addr} {fd : FuncData} {N ps : List Str} {k : Nat} {sp : Sp} (F : FunD K x qual params body scope dvs kws f fd) (S : FnScope N ps scope) (count : ∀ (xs : List V) (H : Hp) (Q : VK) (E : XK), sp xs H Q E → xs.length = ps.length)
    (go : ∀ (cdv : Value) (A : Around) (outer : List Env) (s : Shared) (H : Hp) (xs : List V) (Q : VK) (E : XK), Quiet A → Room k (A.deeper (envOfC qual scope s.heap.objs.size f cdv)) → sp xs H Q E →
      ∃ t, PSs (cxOf (L2.CX P w) P w K mg base N qual scope f cdv A outer s H E) body t ∧ t { nx := fun _ H2 => Q .non H2, rt := Q } (start N xs) H) : FnG P w K mg base (L2.CX P w) (k + 1) f fd ps sp := by
  obtain ⟨oc, od, dV, kV, doc, pm, an, cdv, ct, osl, e, look, ci, _, _⟩ := F.ex
  subst e
  exact ⟨count, fun A outer s H args us xs Q E g r e0 b v h => LamX.run_ofS look ci S r e0 b v (count _ _ _ _ h) fun r2 => go cdv A outer s H xs Q E g r2 h⟩
end L2

set_option Elab.async false
set_option linter.all false
set_option maxRecDepth 100000
set_option maxHeartbeats 8000000
/-! Misreadings made, or refused. -/
namespace V8
open PySem PySem.Spec PyProof.Rows L2 MX
abbrev s_Misreading_only : Stmt := inClass (topS 29) 14
abbrev n_Misreading_only : List Str := ["self", "letters", "letter"]
theorem sc_Misreading_only : FnScope ["self", "letters", "letter"] ["self", "letters"] (defScope s_Misreading_only) := ⟨rfl, rfl, rfl, by decide +kernel, rfl, by decide +kernel, by decide +kernel⟩
theorem passTk {X : Cx} {E : XK} (tk : Takes X fun cls d _ H => E cls d H) : Passes (L2.CX X.prog X.w) X E := passes_call tk fun _ _ _ _ h => h
theorem passL {X : Cx} : Passes (L2.CX X.prog X.w) X E0 := fun _ _ _ _ _ _ _ ⟨_, _, _, _, _, _, _, _, _, _, _, _, h⟩ => h.elim
theorem nice_int {i : Int} (h : (PyData.int i).shown.length ≤ 3000) (h2 : PyData.strOk (PyData.int i).shown = true) (h3 : (PyData.int i).showable = true) : NiceD (.int i) := ⟨⟨h3, by simp [PyData.depth], by omega⟩, h, by simp [PyData.depth], h2, fun z e => nomatch e⟩
theorem nice_12 : NiceD (.int 12) := nice_int (by decide +kernel) (by decide +kernel) (by decide +kernel)
theorem nice_0 : NiceD (.int 0) := nice_int (by decide +kernel) (by decide +kernel) (by decide +kernel)
theorem nice_text {z : Str} (h : (PyData.str z).shown.length ≤ 3000) (h2 : PyData.strOk (PyData.str z).shown = true) (h3 : z.length ≤ 2500) (h4 : ∀ c ∈ z.cps.toList, c < 128) : NiceD (.str z) := ⟨⟨by simp [PyData.showable], by simp [PyData.depth], by omega⟩, h, by simp [PyData.depth], h2, fun z e => by
  cases e
  exact ⟨h3, h4⟩⟩
theorem nice_letters : NiceD (.str "letters") := nice_text (by decide +kernel) (by decide +kernel) (by decide +kernel) (by decide +kernel)
/-- what is refused of the two arguments -/
def rsX (K : PySem.W.Frag) (w : World) (CJ : Addr) (Cz : Nat → Addr) (vs : List V) (H : Hp) (E : XK) : Prop := ∃ x y, vs = [x, y] ∧
  ((∃ t, (∀ H2, Same H H2 → TyX K H2 x t) ∧ PySem.W.kitOne K t (.type "dict") = some false ∧ PySem.W.kitOne K t (.ref CJ) = some false ∧ OutB Cz H (.one 0 (.str "images")) E) ∨
   (∃ a ks d, x = .ref a ∧ TabM w H a ks ∧ ks.find? (fun d => !wordD 1 1 d) = some d ∧ OutB Cz H (.one 1 d) E) ∨
   (∃ a dt d b, x = .ref a ∧ TabA H a dt ∧ Held H y d ∧ toldD dt d = some b ∧ OutB Cz H b E) ∨
   (∃ a st t, x = .ref a ∧ y = .str (Sx st) ∧ H a = some (.dK (encT t)) ∧ GoodT abc t ∧ (∀ c ∈ st, c ∈ abc) ∧ st.length ≤ 2000 ∧ 12 < (toldT st t).length ∧ OutB Cz H (.many "letters" 12) E))
theorem rsX.same {K : PySem.W.Frag} {w : World} {CJ : Addr} {Cz : Nat → Addr} {vs : List V} {H H2 : Hp} {E : XK} (r : rsX K w CJ Cz vs H E) (s : Same H H2) : rsX K w CJ Cz vs H2 E := by
  obtain ⟨x, y, rfl, r⟩ := r
  refine ⟨x, y, rfl, ?_⟩
  rcases r with ⟨t, ty, k1, k2, o⟩ | ⟨a, ks, d, e, m, f, o⟩ | ⟨a, dt, d, b, e, m, h, f, o⟩ | ⟨a, st, t, e1, e2, h, g, l, n, c, o⟩
  · exact .inl ⟨t, fun H3 s3 => ty H3 fun b o e => s3 _ _ (s _ _ e), k1, k2, o.same s⟩
  · exact .inr (.inl ⟨a, ks, d, e, m.same s, f, o.same s⟩)
  · exact .inr (.inr (.inl ⟨a, dt, d, b, e, m.same s, h.same s, f, o.same s⟩))
  · exact .inr (.inr (.inr ⟨a, st, t, e1, e2, s _ _ h, g, l, n, c, o.same s⟩))
def spInitX (K : PySem.W.Frag) (w : World) (CJ : Addr) (Cz : Nat → Addr) : Sp := fun vs H _ E => ∃ x y z, vs = [x, y, z] ∧ rsX K w CJ Cz [y, z] H E
def spTo (K : PySem.W.Frag) (w : World) (Cz : Nat → Addr) : Sp := fun vs H Q E => spTold vs H Q E0 ∨ spToldN K Cz vs H Q E ∨ spToldM w Cz vs H Q E ∨ spToldK Cz vs H Q E
def spInitNK (K : PySem.W.Frag) (CJ : Addr) (Cz : Nat → Addr) : Sp := fun vs H _ E => ∃ x y z, vs = [x, y, z] ∧
  ((∃ t, (∀ H2, Same H H2 → TyX K H2 y t) ∧ PySem.W.kitOne K t (.type "dict") = some false ∧ PySem.W.kitOne K t (.ref CJ) = some false ∧ OutB Cz H (.one 0 (.str "images")) E) ∨
   (∃ a dt d b, y = .ref a ∧ TabA H a dt ∧ Held H z d ∧ toldD dt d = some b ∧ OutB Cz H b E) ∨
   (∃ a st t, y = .ref a ∧ z = .str (Sx st) ∧ H a = some (.dK (encT t)) ∧ GoodT abc t ∧ (∀ c ∈ st, c ∈ abc) ∧ st.length ≤ 2000 ∧ 12 < (toldT st t).length ∧ OutB Cz H (.many "letters" 12) E))
def spInitM (w : World) (Cz : Nat → Addr) : Sp := fun vs H _ E => ∃ x a z ks d, vs = [x, .ref a, z] ∧ TabM w H a ks ∧ ks.find? (fun d => !wordD 1 1 d) = some d ∧ OutB Cz H (.one 1 d) E
section
variable {P : Program} {w : World} {K : PySem.W.Frag} {mg : Str → Option Value} {base : Heap} {CM CJ : Addr} {Cz : Nat → Addr}
theorem ok_told_all {f : Addr} {fd : FuncData} (F : Fun K "told_images" "told_images" s_told_images f fd) (T : Tx K mg CM CJ) (D0 : Df P w K mg base 1 "is_letter" (spIsLetter K)) (D1 : Df P w K mg base 2 "is_text" spIsText) (D2 : Df P w K mg base 3 "is_image" spIsImage)
    (D_is_letter : Df P w K mg base 1 "is_letter" (spWordD 1 1)) (D_is_text : Df P w K mg base 2 "is_text" (spWordD 0 2000)) (D_is_image : Df P w K mg base 3 "is_image" (spWordD 1 4))
    (E_BadTable : Er1 P w K mg base "BadTable" "part" (Cz 0)) (E_BadLetter : Er1 P w K mg base "BadLetter" "value" (Cz 1)) (E_BadImage : Er1 P w K mg base "BadImage" "letter" (Cz 2)) (E_BadWord : Er1 P w K mg base "BadWord" "value" (Cz 3)) : FnG P w K mg base (L2.CX P w) 5 f fd ["images", "keeps"] (spTo K w Cz) :=
  FnG.either0 ((ok_told_images F T D0 D1 D2).quiet.more (by decide)) ((ok_toldN F T D_is_letter D_is_text D_is_image E_BadTable E_BadLetter E_BadImage E_BadWord).both ((ok_toldM F T D_is_letter D_is_text D_is_image E_BadTable E_BadLetter E_BadImage E_BadWord).both (ok_toldK F T D_is_letter D_is_text D_is_image E_BadTable E_BadLetter E_BadImage E_BadWord)))
theorem good26 {t : Tab} (g : GoodT abc t) : t.length ≤ 26 := by
  have := g.len
  rw [abc_len] at this
  exact this
theorem ok_initNK {f : Addr} {fd : FuncData} {dvs : List V} (F : FunD K "__init__" "Misreading.__init__" (defArgs s_Misreading_init) (defBody s_Misreading_init) (defScope s_Misreading_init) dvs [] f fd) (T : Tx K mg CM CJ) (D_told_images : DfG P w K mg base (L2.CX P w) 5 "told_images" (spTo K w Cz))
    (E_TooMany : Er2 P w K mg base "TooMany" "what" "most" (Cz 5)) : FnG P w K mg base (L2.CX P w) 6 f fd ["self", "images", "keeps"] (spInitNK K CJ Cz) := by
  refine okXGd F sc_Misreading_init (fun vs H Q E h => ?_) (fun cdv A outer s H vs Q E quiet hr h => ?_)
  · obtain ⟨x, y, z, rfl, _⟩ := h
    rfl
  · obtain ⟨x, y, z, rfl, h⟩ := h
    refine ⟨_, (pss_cons (ps_set (i := 3) sc_Misreading_init.nd rfl (.inr rfl) (pe_ifExp (pt_val (pe_callB call_isi (by rfl) T.isinstance (by decide +kernel) (pa_cons (pv 1) (pa_cons (pe_gv T.gJoined (by rfl)) pa_nil)))) (pe_fldK (K := K) rfl (pv 1) rfl) (pe_cG D_told_images quiet (passTk (takes_of rfl rfl rfl rfl)) hr (by decide) (by rfl) (pa_cons (pv 1) (pa_cons (pv 2) pa_nil)))))
      (pss_cons (ps_if (pt_cmpR op_gt (pe_callB call_lenD (by rfl) T.len (by decide +kernel) (pa_cons (pv 3) pa_nil)) (pe_gv T.gMOST_LETTERS (by rfl)) (nomark _))
        (pss_one (ps_raise rfl (takes_of rfl rfl rfl rfl) (pmk_two E_TooMany quiet hr (by decide) (by rfl) (pa_cons pe_str (pa_cons (pe_gv T.gMOST_LETTERS (by rfl)) pa_nil)))))
        pss_nil)
      (pss_cons (ps_fld (pv 0) (pe_callTy (call_tuple_ofK (K := K) rfl) (by rfl) T.tuple (by decide +kernel) (pa_cons (pe_lc (own := [("letter", 4)]) (g := gName 4) (by rfl) sc_Misreading_init.nd (pi_str (pe_gv T.gLETTERS (by rfl))) (blkOk_by (own := [("letter", 4)]) (N := n_Misreading_init) (sc := defScope s_Misreading_init) (by decide +kernel)) (fun _ _ _ _ _ => (pg_name (i := 4) sc_Misreading_init.nd rfl (.inl rfl))) (fun _ _ _ _ _ => (pts_one (pt_cmp (pc_din (hu_of hr) (pv 4) (pv 3))))) (fun _ _ _ _ _ => (pv 4))) pa_nil)) rfl)
      (pss_cons (ps_fld (pv 0) (pe_dc (own := [("letter", 4)]) (g := gName 4) (by rfl) sc_Misreading_init.nd (pi_tup (pe_fldK (K := K) rfl (pv 0) rfl)) (blkOk_by (own := [("letter", 4)]) (N := n_Misreading_init) (sc := defScope s_Misreading_init) (by decide +kernel)) (fun _ _ _ _ _ => (pg_name (i := 4) sc_Misreading_init.nd rfl (.inl rfl))) (fun _ _ _ _ _ => pts_nil) (fun _ _ _ _ _ => (pv 4)) (fun _ _ _ _ _ => (pe_dget (hu_of hr) (pv 3) (pv 4) (fun _ _ => rfl)))) rfl)
      (pss_one (ps_fld (pv 0) (pe_callTy (call_tuple_ofK (K := K) rfl) (by rfl) T.tuple (by decide +kernel) (pa_cons (pe_lc (own := [("letter", 4)]) (g := gName 4) (by rfl) sc_Misreading_init.nd (pi_tup (pe_fldK (K := K) rfl (pv 0) rfl)) (blkOk_by (own := [("letter", 4)]) (N := n_Misreading_init) (sc := defScope s_Misreading_init) (by decide +kernel)) (fun _ _ _ _ _ => (pg_name (i := 4) sc_Misreading_init.nd rfl (.inl rfl))) (fun _ _ _ _ _ => (pts_one (pt_cmpR op_ne (pe_dget (hu_of hr) (pv 3) (pv 4) (fun _ _ => rfl)) (pv 4) (nomark _)))) (fun _ _ _ _ _ => (pv 4))) pa_nil)) rfl)))))), ?_⟩
    rcases h with ⟨t, ty, k1, k2, o⟩ | ⟨a, dt, d, b, rfl, m, hd, tb, o⟩ | ⟨a, st, t, rfl, rfl, ha, g, hl, hn, c, o⟩
    · refine ⟨_, rfl, _, .ref CJ, t, .ref CJ, false, rfl, .own _, ty H (Same.refl H), k2, false, rfl, iteF ?_⟩
      exact ⟨_, rfl, _, rfl, .inr (.inl ⟨y, z, t, rfl, ty H (Same.refl H), k1, o⟩)⟩
    · obtain ⟨kvs, ha, _⟩ := m.at_
      refine ⟨_, rfl, _, .ref CJ, .type "dict", .ref CJ, false, rfl, .own _, .base (.dK ha), T.dJ, false, rfl, iteF ?_⟩
      exact ⟨_, rfl, _, rfl, .inr (.inr (.inr ⟨a, z, dt, d, b, rfl, m, hd, tb, o⟩))⟩
    · refine ⟨_, rfl, _, .ref CJ, .type "dict", .ref CJ, false, rfl, .own _, .base (.dK ha), T.dJ, false, rfl, iteF ?_⟩
      refine ⟨_, rfl, _, rfl, .inl ⟨a, abc, st, t, rfl, ha, g, by rw [abc_len]; exact Nat.le_refl _, fun c hc => abc_mem.mp hc, hl, hn, fun r H1 sm nr hr1 => ?_⟩⟩
      have gu := toldT_good hl (fun c hc => abc_mem.mp hc) g
      generalize toldT st t = u at gu c hr1 ⊢
      refine ⟨_, rfl, r, _, rfl, hr1, _, _, rfl, rfl, _, rfl, ?_⟩
      rw [encT_len, decide_eq_true (by show (12 : Int) < (u.length : Int); omega)]
      exact iteT ⟨by show 2 ≤ 1000; decide, fun a na => rz2 E_TooMany.oc E_TooMany.n1 E_TooMany.n2 nice_letters nice_12 (fun dd H2 s2 e => o dd H2 (fun b o e => s2 _ _ (sm _ _ e)) e) a na⟩
theorem ok_initM {f : Addr} {fd : FuncData} {dvs : List V} (F : FunD K "__init__" "Misreading.__init__" (defArgs s_Misreading_init) (defBody s_Misreading_init) (defScope s_Misreading_init) dvs [] f fd) (T : Tx K mg CM CJ) (D_told_images : DfG P w K mg base (L2.CX P w) 5 "told_images" (spTo K w Cz))
    (E_TooMany : Er2 P w K mg base "TooMany" "what" "most" (Cz 5)) : FnG P w K mg base (L2.CX P w) 6 f fd ["self", "images", "keeps"] (spInitM w Cz) := by
  refine okXGd F sc_Misreading_init (fun vs H Q E h => ?_) (fun cdv A outer s H vs Q E quiet hr h => ?_)
  · obtain ⟨x, a, z, ks, d, rfl, _⟩ := h
    rfl
  · obtain ⟨x, a, z, ks, d, rfl, m, fn, o⟩ := h
    refine ⟨_, (pss_cons (ps_set (i := 3) sc_Misreading_init.nd rfl (.inr rfl) (pe_ifExp (pt_val (pe_callB call_isiM (by rfl) T.isinstance (by decide +kernel) (pa_cons (pv 1) (pa_cons (pe_gv T.gJoined (by rfl)) pa_nil)))) (pe_fldK (K := K) rfl (pv 1) rfl) (pe_cG D_told_images quiet (passTk (takes_of rfl rfl rfl rfl)) hr (by decide) (by rfl) (pa_cons (pv 1) (pa_cons (pv 2) pa_nil)))))
      (pss_cons (ps_if (pt_cmpR op_gt (pe_callB call_lenD (by rfl) T.len (by decide +kernel) (pa_cons (pv 3) pa_nil)) (pe_gv T.gMOST_LETTERS (by rfl)) (nomark _))
        (pss_one (ps_raise rfl (takes_of rfl rfl rfl rfl) (pmk_two E_TooMany quiet hr (by decide) (by rfl) (pa_cons pe_str (pa_cons (pe_gv T.gMOST_LETTERS (by rfl)) pa_nil)))))
        pss_nil)
      (pss_cons (ps_fld (pv 0) (pe_callTy (call_tuple_ofK (K := K) rfl) (by rfl) T.tuple (by decide +kernel) (pa_cons (pe_lc (own := [("letter", 4)]) (g := gName 4) (by rfl) sc_Misreading_init.nd (pi_str (pe_gv T.gLETTERS (by rfl))) (blkOk_by (own := [("letter", 4)]) (N := n_Misreading_init) (sc := defScope s_Misreading_init) (by decide +kernel)) (fun _ _ _ _ _ => (pg_name (i := 4) sc_Misreading_init.nd rfl (.inl rfl))) (fun _ _ _ _ _ => (pts_one (pt_cmp (pc_din (hu_of hr) (pv 4) (pv 3))))) (fun _ _ _ _ _ => (pv 4))) pa_nil)) rfl)
      (pss_cons (ps_fld (pv 0) (pe_dc (own := [("letter", 4)]) (g := gName 4) (by rfl) sc_Misreading_init.nd (pi_tup (pe_fldK (K := K) rfl (pv 0) rfl)) (blkOk_by (own := [("letter", 4)]) (N := n_Misreading_init) (sc := defScope s_Misreading_init) (by decide +kernel)) (fun _ _ _ _ _ => (pg_name (i := 4) sc_Misreading_init.nd rfl (.inl rfl))) (fun _ _ _ _ _ => pts_nil) (fun _ _ _ _ _ => (pv 4)) (fun _ _ _ _ _ => (pe_dget (hu_of hr) (pv 3) (pv 4) (fun _ _ => rfl)))) rfl)
      (pss_one (ps_fld (pv 0) (pe_callTy (call_tuple_ofK (K := K) rfl) (by rfl) T.tuple (by decide +kernel) (pa_cons (pe_lc (own := [("letter", 4)]) (g := gName 4) (by rfl) sc_Misreading_init.nd (pi_tup (pe_fldK (K := K) rfl (pv 0) rfl)) (blkOk_by (own := [("letter", 4)]) (N := n_Misreading_init) (sc := defScope s_Misreading_init) (by decide +kernel)) (fun _ _ _ _ _ => (pg_name (i := 4) sc_Misreading_init.nd rfl (.inl rfl))) (fun _ _ _ _ _ => (pts_one (pt_cmpR op_ne (pe_dget (hu_of hr) (pv 3) (pv 4) (fun _ _ => rfl)) (pv 4) (nomark _)))) (fun _ _ _ _ _ => (pv 4))) pa_nil)) rfl)))))), ?_⟩
    obtain ⟨kvs, md, _⟩ := m.at_
    refine ⟨_, rfl, a, kvs, .ref CJ, .ref CJ, false, rfl, md, .own _, T.dJ, false, rfl, iteF ?_⟩
    exact ⟨_, rfl, _, rfl, .inr (.inr (.inl ⟨a, z, ks, d, rfl, m, fn, o⟩))⟩
theorem ok_init_all {f : Addr} {fd : FuncData} {dvs : List V} (F : FunD K "__init__" "Misreading.__init__" (defArgs s_Misreading_init) (defBody s_Misreading_init) (defScope s_Misreading_init) dvs [] f fd) (T : Tx K mg CM CJ) (D0 : Df P w K mg base 4 "told_images" spTold) (D_told_images : DfG P w K mg base (L2.CX P w) 5 "told_images" (spTo K w Cz))
    (E_TooMany : Er2 P w K mg base "TooMany" "what" "most" (Cz 5)) : FnG P w K mg base (L2.CX P w) 6 f fd pI (fun vs H Q E => spInit CM vs H Q E0 ∨ spInitNK K CJ Cz vs H Q E ∨ spInitM w Cz vs H Q E) :=
  FnG.either0 ((ok_init F T D0).quiet.more (by decide)) ((ok_initNK F T D_told_images E_TooMany).both (ok_initM F T D_told_images E_TooMany))
end
/-- the class by its name -/
structure MkA (P : Program) (w : World) (K : PySem.W.Frag) (mg : Str → Option Value) (base : Heap) (CM CJ : Addr) (Cz : Nat → Addr) : Prop where
  ex : ∃ (f : Addr) (fd : FuncData), Mk K CM f ∧ FnG P w K mg base (L2.CX P w) 6 f fd pI (fun vs H Q E => spInit CM vs H Q E0 ∨ spInitNK K CJ Cz vs H Q E ∨ spInitM w Cz vs H Q E) ∧ mg "Misreading" = some (.ref CM) ∧ Binds K fd pI [] ∧
    (∃ ds, Vals [.str (Sx [])] ds ∧ Binds K fd pI ds) ∧ KBn K fd pI 1 ["keeps", "images"] (fun us ws => us ++ ws.reverse) (fun vs zs => vs ++ zs.reverse)
/-- made, or refused -/
def mkO (K : PySem.W.Frag) (w : World) (CM CJ : Addr) (Cz : Nat → Addr) (vs : List V) (H : Hp) (Q : VK) (E : XK) : Prop := mkR CM vs H Q ∨ rsX K w CJ Cz vs H E
theorem mkO.init {K : PySem.W.Frag} {w : World} {CM CJ : Addr} {Cz : Nat → Addr} {vs : List V} {H : Hp} {Q : VK} {E : XK} (h : mkO K w CM CJ Cz vs H Q E) (x dx : Addr) (hx : H x = none) (hdx : H dx = none) (ne : dx ≠ x) :
    spInit CM (.ref x :: vs) (upd (upd H dx (.own x)) x (.ins CM dx [])) (fun v H2 => v = .non ∧ Q (.ref x) H2) E0 ∨ spInitNK K CJ Cz (.ref x :: vs) (upd (upd H dx (.own x)) x (.ins CM dx [])) (fun v H2 => v = .non ∧ Q (.ref x) H2) E ∨
      spInitM w Cz (.ref x :: vs) (upd (upd H dx (.own x)) x (.ins CM dx [])) (fun v H2 => v = .non ∧ Q (.ref x) H2) E := by
  rcases h with h | h
  · exact .inl (mk_of h x dx hx hdx ne)
  · have s : Same H (upd (upd H dx (.own x)) x (.ins CM dx [])) := fun b o e => by
      rw [upd_ne (ne_of_none e hx), upd_ne (ne_of_none e hdx)]
      exact e
    obtain ⟨y, z, rfl, r⟩ := h.same s
    rcases r with r | ⟨a, ks, d, rfl, m, f, o⟩ | r | r
    · exact .inr (.inl ⟨_, y, z, rfl, .inl r⟩)
    · exact .inr (.inr ⟨_, a, z, ks, d, rfl, m, f, o⟩)
    · exact .inr (.inl ⟨_, y, z, rfl, .inr (.inl r)⟩)
    · exact .inr (.inl ⟨_, y, z, rfl, .inr (.inr r)⟩)
theorem mkO.len {K : PySem.W.Frag} {w : World} {CM CJ : Addr} {Cz : Nat → Addr} {vs : List V} {H : Hp} {Q : VK} {E : XK} (h : mkO K w CM CJ Cz vs H Q E) : vs.length = 2 := by
  rcases h with ⟨d, cs, st, t, rfl, _⟩ | ⟨x, y, rfl, _⟩ <;> rfl
def tMkA2 (K : PySem.W.Frag) (w : World) (CM CJ : Addr) (Cz : Nat → Addr) (E : XK) (t : TA) : TE := fun σ H Q => t σ H fun vs H1 => mkO K w CM CJ Cz vs H1 Q E
def tMkA1 (K : PySem.W.Frag) (w : World) (CM CJ : Addr) (Cz : Nat → Addr) (E : XK) (t : TA) : TE := fun σ H Q => t σ H fun vs H1 => mkO K w CM CJ Cz (vs ++ [.str (Sx [])]) H1 Q E
def tMkAK (K : PySem.W.Frag) (w : World) (CM CJ : Addr) (Cz : Nat → Addr) (E : XK) (tk : TA) : TE := fun σ H Q => tk σ H fun zs H1 => mkO K w CM CJ Cz zs.reverse H1 Q E
section
variable {X : Cx} {j : Nat} {CM CJ : Addr} {Cz : Nat → Addr} {p pos : Pos} {e : Expr} {es : List Expr} {kws : List Keyword} {t tk : TA} {E : XK}
theorem pe_mkA2 (M : MkA X.prog X.w X.K X.mg X.base CM CJ Cz) (g : Quiet X.A) (out : Passes (L2.CX X.prog X.w) X E) (hr : Room j X.A) (hj : 7 ≤ j) (hg : Gl X "Misreading") (ha : PA X (e :: es) t) (he : starEach (e :: es) X.env = (false, eval e X.env) :: starEach es X.env := by rfl) (hpl : (backTo pos (starEach es X.env)).any (·.1) = false := by rfl) :
    PE X (.Call (.Name "Misreading" p) (e :: es) [] pos) (tMkA2 X.K X.w CM CJ Cz E t) := by
  obtain ⟨f, fd, M, F, hm, b0, b1, k2⟩ := M.ex
  refine ⟨fun pins s σ H Q I h => ?_⟩
  refine wpAny_Call_Name_kw (ld_glob I hg hm ?_ (by decide))
  refine PySem.W.callWith_K (h₀ := X.base) I.ok.mod.kin M.kp (thn (ha.run pos pins s σ H _ I h) fun us s1 z => ?_) he hpl
  obtain ⟨vs, H1, I1, r, q⟩ := z
  refine ⟨I1.kIn, ?_⟩
  have l := q.len
  rw [r.length] at l
  exact makeQ (ks := []) (ws := []) (zs := []) (gU := fun us _ => us) (gV := fun vs _ => vs) M F g (hr.mono hj) (fun s us2 kin n => by
    have z := b0 s us2 kin (by rw [List.append_nil, n, List.nil_append, l]; rfl)
    rw [List.append_nil] at z
    exact z) (fun r => r) out I1 r q.init
theorem pe_mkA1 (M : MkA X.prog X.w X.K X.mg X.base CM CJ Cz) (g : Quiet X.A) (out : Passes (L2.CX X.prog X.w) X E) (hr : Room j X.A) (hj : 7 ≤ j) (hg : Gl X "Misreading") (ha : PA X (e :: es) t) (he : starEach (e :: es) X.env = (false, eval e X.env) :: starEach es X.env := by rfl) (hpl : (backTo pos (starEach es X.env)).any (·.1) = false := by rfl) :
    PE X (.Call (.Name "Misreading" p) (e :: es) [] pos) (tMkA1 X.K X.w CM CJ Cz E t) := by
  obtain ⟨f, fd, M, F, hm, b0, ⟨ds, hd, b1⟩, k2⟩ := M.ex
  refine ⟨fun pins s σ H Q I h => ?_⟩
  refine wpAny_Call_Name_kw (ld_glob I hg hm ?_ (by decide))
  refine PySem.W.callWith_K (h₀ := X.base) I.ok.mod.kin M.kp (thn (ha.run pos pins s σ H _ I h) fun us s1 z => ?_) he hpl
  obtain ⟨vs, H1, I1, r, q⟩ := z
  refine ⟨I1.kIn, ?_⟩
  have l := q.len
  have l2 := r.length
  have l3 := hd.length
  rw [List.length_append] at l
  have l4 : us.length = 1 := by
    have : ([V.str (Sx [])] : List V).length = 1 := rfl
    omega
  exact makeQ (ks := []) (ws := []) (zs := []) (gU := fun us _ => us ++ ds) (gV := fun vs _ => vs ++ [V.str (Sx [])]) M F g (hr.mono hj) (fun s us2 kin n => b1 s us2 kin (by rw [List.length_append, n, List.nil_append, l4, ← l3]; rfl)) (fun r => r.append hd) out I1 r q.init
theorem pe_mkAK (M : MkA X.prog X.w X.K X.mg X.base CM CJ Cz) (g : Quiet X.A) (out : Passes (L2.CX X.prog X.w) X E) (hr : Room j X.A) (hj : 7 ≤ j) (hg : Gl X "Misreading") (hkw : PK X kws tk) (hall : (backToKw pos (keywordEach kws X.env)).all (·.1.isSome) = true := by rfl) (hks : (backToKw pos (keywordEach kws X.env)).filterMap (·.1) = (["keeps", "images"] : List Str) := by rfl)
    (hpl : ((backTo pos (starEach [] X.env)).any (·.1) || (backToKw pos (keywordEach kws X.env)).any (·.1.isNone)) = false := by rfl) : PE X (.Call (.Name "Misreading" p) [] kws pos) (tMkAK X.K X.w CM CJ Cz E tk) := by
  obtain ⟨f, fd, M, F, hm, b0, b1, k2⟩ := M.ex
  refine ⟨fun pins s σ H Q I h => ?_⟩
  refine wpAny_Call_Name_kw (ld_glob I hg hm ?_ (by decide))
  refine PySem.W.callWith_KW0 (h₀ := X.base) I.ok.mod.kin M.kp hall ?_ hpl
  refine thn (hkw.run pos pins s σ H _ I h) fun ws s2 z => ?_
  obtain ⟨zs, H2, I2, rz, q2⟩ := z
  refine ⟨I2.kIn, ?_⟩
  rw [hks]
  have l := q2.len
  rw [List.length_reverse, rz.length] at l
  exact makeQ (us := []) (xs := []) (zs := zs) (gU := fun us ws => us ++ ws.reverse) (gV := fun vs zs => vs ++ zs.reverse) M F g (hr.mono hj) (fun s us2 kin n => k2.to s us2 ws kin n (by rw [l]; rfl)) (fun r => k2.rel r rz) out I2 .nil q2.init
end
end V8

set_option Elab.async false
set_option linter.all false
set_option maxRecDepth 100000
set_option maxHeartbeats 8000000
/-! Misreading: in, len, iteration, [ ]. -/
namespace V8
open PySem PySem.Spec PyProof.Rows L2
theorem lookT_map (f : Nat → List Nat) (c : Nat) : ∀ ks : List Nat, lookT (ks.map fun c => (c, f c)) c = if c ∈ ks then some (f c) else none
  | [] => by rw [if_neg List.not_mem_nil]; rfl
  | k :: ks => by
    have ih := lookT_map f c ks
    unfold lookT at ih ⊢
    rw [List.map_cons, List.find?_cons]
    by_cases h : k = c
    · subst h
      simp
    · simp only [h, decide_false]
      have e : (c ∈ k :: ks) ↔ c ∈ ks := by
        simp [Ne.symm h]
      rw [ih]
      by_cases h2 : c ∈ ks
      · rw [if_pos h2, if_pos (e.mpr h2)]
      · rw [if_neg h2, if_neg (fun z => h2 (e.mp z))]
theorem look_ims (u : Tab) (c : Nat) : lookT (ims u) c = if c ∈ keysOf u then some ((lookT u c).getD []) else none := lookT_map _ c _
theorem keysOf_mem {u : Tab} {c : Nat} : c ∈ keysOf u ↔ c ∈ abc ∧ (lookT u c).isSome = true := List.mem_filter
theorem look_ims_some {u : Tab} {c : Nat} (h : c ∈ keysOf u) : lookT (ims u) c = lookT u c := by
  rw [look_ims, if_pos h]
  obtain ⟨s, e⟩ := Option.isSome_iff_exists.mp (keysOf_mem.mp h).2
  rw [e]
  rfl
structure Ty (K : PySem.W.Frag) (mg : Str → Option Value) (CM CJ : Addr) : Prop extends Tx K mg CM CJ where
  mM : PySem.W.kitOne K (.ref CM) (.ref CM) = some true
  MJ : PySem.W.kitOne K (.ref CM) (.ref CJ) = some false
  Ms : PySem.W.kitOne K (.ref CM) (.type "str") = some false
  ls : PySem.W.kitOne K (.type "list") (.type "str") = some false
def spIn (K : PySem.W.Frag) (CM : Addr) : Sp := fun vs H Q _ => ∃ (x : Addr) (u : Tab) (y : V), vs = [.ref x, y] ∧ MisAt CM H x u ∧ ((∃ c, y = .str (L1 c) ∧ Q (.bl (decide (c ∈ keysOf u))) H) ∨ (∃ z, y = .str z ∧ z.length ≤ sizeLine ∧ z.length ≠ 1 ∧ Q (.bl false) H) ∨
  (∃ t, TyX K H y t ∧ PySem.W.kitOne K t (.type "str") = some false ∧ Q (.bl false) H))
def spLen (CM : Addr) : Sp := fun vs H Q _ => ∃ (x : Addr) (u : Tab), vs = [.ref x] ∧ MisAt CM H x u ∧ Q (.int (keysOf u).length) H
def spGet (CM : Addr) : Sp := fun vs H Q _ => ∃ (x : Addr) (u : Tab) (c : Nat) (s : List Nat), vs = [.ref x, .str (L1 c)] ∧ MisAt CM H x u ∧ c ∈ keysOf u ∧ lookT u c = some s ∧ Q (.str (Sx s)) H
def snIter (CM : Addr) : Nat → Sp := fun n vs H Q _ => ∃ (x : Addr) (u : Tab), vs = [.ref x] ∧ MisAt CM H x u ∧ ∀ it a, H it = none → n ≤ it → H a = some (.tup (lets (keysOf u))) → Q (.ref it) (upd H it (ItT a it))
section
variable {P : Program} {w : World} {K : PySem.W.Frag} {mg : Str → Option Value} {base : Heap} {CM CJ : Addr}
theorem ok_in {f : Addr} {fd : FuncData} (F : Fun K "__contains__" "Misreading.__contains__" s_Misreading_contains f fd) (T : Tx K mg CM CJ) (D_is_letter : Df P w K mg base 1 "is_letter" (spIsLetter K)) : FnOk P w K mg base CX0 2 f fd ["self", "x"] (spIn K CM) := by
  refine F.ok sc_Misreading_contains (fun vs H Q E h => ?_) (fun cdv A outer s H vs Q E hr h => ?_)
  · obtain ⟨x, u, y, rfl, _⟩ := h
    rfl
  · obtain ⟨x, u, y, rfl, ⟨dx, a, b, c', hx, ha, hb, hc⟩, h⟩ := h
    refine ⟨_, (pss_one (ps_ret (pe_and (pe_c D_is_letter hr (by decide) (by rfl) (pa_cons (pv 1) pa_nil)) (pe_one (pe_cmp (pc_din (hu_of hr) (pv 1) (pe_fldK (K := K) rfl (pv 0) rfl)) rfl))))), ?_⟩
    rcases h with ⟨c, rfl, q⟩ | ⟨z, rfl, hz, h1, q⟩ | ⟨t, ty, e, q⟩
    · refine ⟨_, rfl, _, rfl, .inl ⟨c, rfl, _, rfl, ?_⟩⟩
      by_cases e : c ∈ abc
      · rw [decide_eq_true e]
        refine iteT ?_
        refine ⟨_, rfl, _, rfl, x, CM, dx, _, _, rfl, hx, T.cl, T.nI, f3_I a b c', b, _, rfl, DGet.k (k := Sum.inr (L1 c)) hb, ?_⟩
        rw [valV_enc, Option.isSome_map, look_ims]
        by_cases h : c ∈ keysOf u
        · rw [if_pos h]
          rw [decide_eq_true h] at q
          exact q
        · rw [if_neg h]
          rw [decide_eq_false h] at q
          exact q
      · rw [decide_eq_false e]
        refine iteF ?_
        rw [decide_eq_false (fun h => e (keysOf_mem.mp h).1)] at q
        exact q
    · refine ⟨_, rfl, _, rfl, .inr (.inl ⟨z, rfl, hz, h1, _, rfl, ?_⟩)⟩
      exact q
    · refine ⟨_, rfl, _, rfl, .inr (.inr ⟨t, ty, e, _, rfl, ?_⟩)⟩
      exact q
theorem ok_len {f : Addr} {fd : FuncData} (F : Fun K "__len__" "Misreading.__len__" s_Misreading_len f fd) (T : Tx K mg CM CJ) : FnOk P w K mg base CX0 1 f fd ["self"] (spLen CM) := by
  refine F.ok sc_Misreading_len (fun vs H Q E h => ?_) (fun cdv A outer s H vs Q E hr h => ?_)
  · obtain ⟨x, u, rfl, _⟩ := h
    rfl
  · obtain ⟨x, u, rfl, ⟨dx, a, b, c, hx, ha, hb, hc⟩, q⟩ := h
    refine ⟨_, (pss_one (ps_ret (pe_callB (call_len_seqK (K := K) rfl) (by rfl) T.len (by decide +kernel) (pa_cons (pe_fldK (K := K) rfl (pv 0) rfl) pa_nil)))), ?_⟩
    refine ⟨_, rfl, x, CM, dx, _, _, rfl, hx, T.cl, T.nL, f3_L a b c, a, _, rfl, .inr (.inl (.inl ha)), ?_⟩
    rw [lets_len]
    exact q
theorem ok_get {f : Addr} {fd : FuncData} (F : Fun K "__getitem__" "Misreading.__getitem__" s_Misreading_getitem f fd) (T : Tx K mg CM CJ) (D_is_letter : Df P w K mg base 1 "is_letter" (spIsLetter K)) : FnOk P w K mg base CX0 2 f fd ["self", "at"] (spGet CM) := by
  refine F.ok sc_Misreading_getitem (fun vs H Q E h => ?_) (fun cdv A outer s H vs Q E hr h => ?_)
  · obtain ⟨x, u, c, z, rfl, _⟩ := h
    rfl
  · obtain ⟨x, u, c, z, rfl, ⟨dx, a, b, c', hx, ha, hb, hc⟩, hm, hl, q⟩ := h
    refine ⟨_, (pss_cons (ps_if (pt_not (pt_val (pe_c D_is_letter hr (by decide) (by rfl) (pa_cons (pv 1) pa_nil))))
        (pss_one ps_never)
        pss_nil)
      (pss_cons (ps_if (pt_cmp (pc_dnotin (hu_of hr) (pv 1) (pe_fldK (K := K) rfl (pv 0) rfl)))
        (pss_one ps_never)
        pss_nil)
      (pss_one (ps_ret (pe_dget (hu_of hr) (pe_fldK (K := K) rfl (pv 0) rfl) (pv 1) (fun _ _ => rfl)))))), ?_⟩
    refine ⟨_, rfl, _, rfl, .inl ⟨c, rfl, ?_⟩⟩
    rw [decide_eq_true (keysOf_mem.mp hm).1]
    refine ⟨true, rfl, iteF ?_⟩
    refine ⟨_, rfl, _, rfl, x, CM, dx, _, _, rfl, hx, T.cl, T.nI, f3_I a b c', b, _, rfl, DGet.k (k := Sum.inr (L1 c)) hb, _, rfl, ?_⟩
    rw [valV_enc, Option.isSome_map, look_ims_some hm, hl]
    refine iteF ?_
    refine ⟨_, rfl, x, CM, dx, _, _, rfl, hx, T.cl, T.nI, f3_I a b c', _, rfl, b, V.str (Sx z), rfl, .inl ⟨_, Sum.inr (L1 c), .inl hb, rfl, by rw [valV_enc, look_ims_some hm, hl]; rfl⟩, ?_⟩
    exact q
end
end V8

set_option Elab.async false
set_option linter.all false
set_option maxRecDepth 100000
set_option maxHeartbeats 8000000
/-! only, same, [ ]: refused, or not. -/
namespace V8
open PySem PySem.Spec PyProof.Rows L2 MX
theorem mis_same {C : Addr} {H H2 : Hp} {x : Addr} {u : Tab} (m : MisAt C H x u) (s : Same H H2) : MisAt C H2 x u := m.mono fun b o e _ => s b o e
def spOnlyX (Cz : Nat → Addr) : Sp := fun vs H _ E => ∃ x y d, vs = [x, y] ∧ Held H y d ∧ wordD 0 2000 d = false ∧ OutB Cz H (.one 3 d) E
def spSameA (Cz : Nat → Addr) : Sp := fun vs H Q E => ∃ y, vs = [y] ∧ ((∃ d, Held H y d ∧ wordD 0 2000 d = false ∧ OutB Cz H (.one 3 d) E) ∨
  (∃ st, y = .str (Sx st) ∧ (∀ c ∈ st, c ∈ abc) ∧ st.length ≤ 2000 ∧ (((toldT st []).length ≤ 12 ∧ ∀ x H2, Same H H2 → Q (.ref x) H2) ∨ (12 < (toldT st []).length ∧ OutB Cz H (.many "letters" 12) E))))
def spGetA (CM : Addr) (Cz : Nat → Addr) : Sp := fun vs H Q E => ∃ x u y d, vs = [.ref x, y] ∧ MisAt CM H x u ∧ Held H y d ∧ ((wordD 1 1 d = false ∧ OutB Cz H (.one 1 d) E) ∨
  (∃ c ∈ abc, d = .str (L1 c) ∧ c ∉ keysOf u ∧ OutB Cz H (.one 4 (.int 0)) E) ∨ (∃ c s, d = .str (L1 c) ∧ c ∈ keysOf u ∧ lookT u c = some s ∧ Q (.str (Sx s)) H))
theorem told_none {d : PyData} (h : wordD 0 2000 d = false) : toldD [] d = some (.one 3 d) := by
  have e : abc.find? (badAt []) = none := find_no fun _ _ => rfl
  unfold toldD
  rw [List.find?_nil]
  dsimp only
  rw [e]
  dsimp only
  rw [h, if_neg Bool.false_ne_true]
theorem nil_tab {H : Hp} {a : Addr} : TabA (upd H a (.dK [])) a [] := ⟨⟨[], upd_same, .nil⟩, List.nodup_nil, Nat.zero_le _, fun q hq => absurd hq List.not_mem_nil⟩
theorem held_str {H : Hp} {x : V} {z : Str} (h : Held H x (.str z)) : x = .str z := by
  cases h.pw with
  | str _ => rfl
section
variable {P : Program} {w : World} {K : PySem.W.Frag} {mg : Str → Option Value} {base : Heap} {CM CJ : Addr} {Cz : Nat → Addr}
theorem ok_onlyX {f : Addr} {fd : FuncData} (F : Fun K "only" "Misreading.only" s_Misreading_only f fd) (D_check_text : DfG P w K mg base (L2.CX P w) 5 "check_text" (spChkD Cz)) : FnG P w K mg base (L2.CX P w) 6 f fd ["self", "letters"] (spOnlyX Cz) := by
  refine F.okXG sc_Misreading_only (fun vs H Q E h => ?_) (fun cdv A outer s H vs Q E quiet hr h => ?_)
  · obtain ⟨x, y, d, rfl, _⟩ := h
    rfl
  · obtain ⟨x, y, d, rfl, hd, e, o⟩ := h
    refine ⟨_, (pss_cons (ps_expr (pe_cG D_check_text quiet (passTk (takes_of rfl rfl rfl rfl)) hr (by decide) (by rfl) (pa_cons (pv 1) pa_nil))) (pss_one ps_never)), ?_⟩
    exact ⟨_, rfl, y, d, rfl, hd, .inr ⟨e, o⟩⟩
theorem ok_sameA {f : Addr} {fd : FuncData} (F : Fun K "same" "Misreading.same" s_Misreading_same f fd) (M : MkA P w K mg base CM CJ Cz) : FnG P w K mg base (L2.CX P w) 8 f fd ["letters"] (spSameA Cz) := by
  refine F.okXG sc_Misreading_same (fun vs H Q E h => ?_) (fun cdv A outer s H vs Q E quiet hr h => ?_)
  · obtain ⟨y, rfl, _⟩ := h
    rfl
  · obtain ⟨y, rfl, h⟩ := h
    refine ⟨_, (pss_one (ps_ret (pe_mkA2 M quiet (passTk (takes_of rfl rfl rfl rfl)) hr (by decide) (by rfl) (pa_cons pe_dnewK (pa_cons (pv 0) pa_nil))))), ?_⟩
    intro a na
    have s1 := same_put (s := Same.refl H) (o := .dK []) na
    refine ⟨_, rfl, ?_⟩
    rcases h with ⟨d, hd, e, o⟩ | ⟨st, rfl, hl, hn, ⟨l, q⟩ | ⟨l, o⟩⟩
    · exact .inr ⟨_, _, rfl, .inr (.inr (.inl ⟨a, [], d, _, rfl, nil_tab, hd.same s1, told_none e, o.same s1⟩))⟩
    · exact .inl ⟨a, abc, st, [], rfl, upd_same, GoodT.nil, ⟨l, by rw [abc_len]; exact Nat.le_refl _⟩, fun c hc => abc_mem.mp hc, hl, hn, fun x H2 _ _ s2 => q x H2 fun b o e => s2 _ _ (s1 _ _ e)⟩
    · exact .inr ⟨_, _, rfl, .inr (.inr (.inr ⟨a, st, [], rfl, rfl, upd_same, GoodT.nil, hl, hn, l, o.same s1⟩))⟩
theorem ok_getA {f : Addr} {fd : FuncData} (F : Fun K "__getitem__" "Misreading.__getitem__" s_Misreading_getitem f fd) (T : Tx K mg CM CJ) (D_is_letter : Df P w K mg base 1 "is_letter" (spWordD 1 1)) (E_BadLetter : Er1 P w K mg base "BadLetter" "value" (Cz 1)) (E_Barred : Er1 P w K mg base "Barred" "at" (Cz 4)) : FnG P w K mg base (L2.CX P w) 5 f fd ["self", "at"] (spGetA CM Cz) := by
  refine F.okXG sc_Misreading_getitem (fun vs H Q E h => ?_) (fun cdv A outer s H vs Q E quiet hr h => ?_)
  · obtain ⟨x, u, y, d, rfl, _⟩ := h
    rfl
  · obtain ⟨x, u, y, d, rfl, ⟨dx, a, b, c', hx, ha, hb, hc⟩, hd, h⟩ := h
    refine ⟨_, (pss_cons (ps_if (pt_not (pt_val (pe_c D_is_letter hr (by decide) (by rfl) (pa_cons (pv 1) pa_nil))))
        (pss_one (ps_raise rfl (takes_of rfl rfl rfl rfl) (pmk_one E_BadLetter quiet hr (by decide) (by rfl) (pa_cons (pv 1) pa_nil))))
        pss_nil)
      (pss_cons (ps_if (pt_cmp (pc_dnotin (hu_of hr) (pv 1) (pe_fldK (K := K) rfl (pv 0) rfl)))
        (pss_one (ps_raise rfl (takes_of rfl rfl rfl rfl) (pmk_one E_Barred quiet hr (by decide) (by rfl) (pa_cons pe_int pa_nil))))
        pss_nil)
      (pss_one (ps_ret (pe_dget (hu_of hr) (pe_fldK (K := K) rfl (pv 0) rfl) (pv 1) (fun _ _ => rfl)))))), ?_⟩
    refine ⟨_, rfl, y, d, rfl, hd.pw, fun z e => (hd.ni.tx z e).1, ?_⟩
    rcases h with ⟨e, o⟩ | ⟨c, hc2, rfl, hn, o⟩ | ⟨c, z, rfl, hm, hl, q⟩
    · rw [e]
      exact ⟨false, rfl, iteT ⟨_, rfl, by show 1 ≤ 1000; decide, fun b nb => rz1 E_BadLetter.oc E_BadLetter.no (o.rz (Same.refl H) hd.th) b nb⟩⟩
    · have ey := held_str hd
      subst ey
      rw [word_let.mpr ⟨c, hc2, rfl⟩]
      refine ⟨true, rfl, iteF ?_⟩
      refine ⟨_, rfl, _, rfl, x, CM, dx, _, _, rfl, hx, T.cl, T.nI, f3_I a b c', b, _, rfl, DGet.k (k := Sum.inr (L1 c)) hb, _, rfl, ?_⟩
      rw [valV_enc, Option.isSome_map, look_ims, if_neg hn]
      exact iteT ⟨by show 1 ≤ 1000; decide, fun b nb => rz1 E_Barred.oc E_Barred.no (o.rz (Same.refl H) (th_int nice_0)) b nb⟩
    · have ey := held_str hd
      subst ey
      rw [word_let.mpr ⟨c, (keysOf_mem.mp hm).1, rfl⟩]
      refine ⟨true, rfl, iteF ?_⟩
      refine ⟨_, rfl, _, rfl, x, CM, dx, _, _, rfl, hx, T.cl, T.nI, f3_I a b c', b, _, rfl, DGet.k (k := Sum.inr (L1 c)) hb, _, rfl, ?_⟩
      rw [valV_enc, Option.isSome_map, look_ims_some hm, hl]
      refine iteF ?_
      refine ⟨_, rfl, x, CM, dx, _, _, rfl, hx, T.cl, T.nI, f3_I a b c', _, rfl, b, V.str (Sx z), rfl, .inl ⟨_, Sum.inr (L1 c), .inl hb, rfl, by rw [valV_enc, look_ims_some hm, hl]; rfl⟩, ?_⟩
      exact q
end
end V8

set_option Elab.async false
set_option linter.all false
set_option maxRecDepth 100000
set_option maxHeartbeats 4000000
/-! Where no repr is under way: lambdas, kept or written on the spot, called by the def that gets them. -/
namespace LamX
open PySem PySem.Spec PyProof.Rows L2
/-- what a lambda of X must be there -/
structure LamG (X : Cx) (k : Nat) (params : Arguments) (body : Expr) (scope : Scope) (t : XK → TE) : Prop where
  own : LamS X.env.scope scope
  bind : ∀ (q : Str) (cl : List (Str × Addr)) (pm cv ctv : Value), bindArgs (PySem.W.kla_fn "<lambda>" q params body scope cl pm cv ctv) ⟨[], []⟩ = pure []
  reads : ∀ (A : Around) (outer : List Env) (s : Shared) (H : Hp) (E : XK) (f c' : Addr), Quiet A → Room k (A.deeper (lamEnv X scope s.heap.objs.size f c')) → PE (lamCx X A outer s H E scope f c') body (t E)
section
variable {X : Cx} {pins : List (Addr × Obj)} {σ : L2.St} {H : Hp} {s : Shared}
/-- a() in the def that got the lambda -/
theorem act_quiet {CXg : CXT} {Eg : XK} {Ng : List Str} {qg : Str} {sg : Scope} {g f c1 : Addr} {cdg pm ctv : Value} {params : Arguments} {body : Expr} {scope : Scope} {k i : Nat} {a : Str} {pn : List (Addr × Obj)} {xe : Value → Shared → Prop} {W : WX} {E : XK} {t : XK → TE} {p1 p2 : Pos}
    (I : Inv X pins σ H s) (qu : Quiet X.A) (l : LamG X k params body scope t) (tk : Takes ((cxOf CXg X.prog X.w X.K X.mg X.base Ng qg sg g cdg X.A X.stack s H Eg).tr pn xe) W) (hW : ∀ cls d σ' H', E cls d H' → W cls d σ' H')
    (room : Room (k + 1) (X.A.deeper (envOfC qg sg s.heap.objs.size g cdg))) (hN : Ng[i]? = some a) (hv : Vis sg a) (hd : (a == ("__debug__" : Str)) = false := by decide) (hcd : (a == ("__classdict__" : Str)) = false := by decide) :
    PE ((cxOf CXg X.prog X.w X.K X.mg X.base Ng qg sg g cdg X.A X.stack s H Eg).tr pn xe) (.Call (.Name a p1) [] [] p2)
      (fun σZ HZ Q => σZ[i]? = some (some (.ref f)) ∧ (HZ f = some (FnO f (lamObj X params body scope pm ctv c1)) ∧ HZ c1 = some (CodeO c1 (X.env.qual ++ "<lambda>"))) ∧ t E σ HZ Q) := by
  have own := l.own
  refine ⟨fun pinsZ sZ σZ HZ Q IZ h => ?_⟩
  obtain ⟨at_, ⟨kf, kc⟩, rest⟩ := h
  have name := (pe_var (pos := p1) (i := i) hN hv hd hcd).run pinsZ sZ σZ HZ (fun v H1 => v = .ref f ∧ H1 = HZ) IZ ⟨.ref f, at_, rfl, rfl⟩
  refine wpAny_Call_Name_kw (thn name fun u s1 z => ?_)
  obtain ⟨v, H1, J, rel, rfl, rfl⟩ := z
  obtain rfl : u = Value.ref f := rel
  have obj : s1.heap.get? f = some (lamObj X params body scope pm ctv c1) := (J.hok f _ kf).1
  have code := (J.hok c1 _ kc).1
  obtain ⟨oc, vs, tt, code1, code2, code3⟩ := code
  refine PySem.W.callWith_F0 ⟨_, _, _, _, obj⟩ ?_
  have ran : codeAny (model X.prog X.w) (X.A.deeper (envOfC qg sg s.heap.objs.size g cdg)) (.call (.ref f) ⟨[], []⟩) (CR (L2.CX X.prog X.w) (envOfC qg sg s.heap.objs.size g cdg :: X.stack) X.prog X.w H1 s1 Q E) s1 := by
    refine PySem.W.kla_callFunE room.depth obj rfl own.co own.gen rfl ⟨c1, oc, vs, tt, rfl, code1, code2, code3⟩ ?_
    rw [l.bind]
    refine wpAny_pure (wpAny_newFunctionEnv (fun y hy => (own.own y hy).2) (fun y hy => absurd hy (by simp)) (fun h₁ hns hsb => ?_) own.kind)
    refine ⟨J.nolimit.fresh _ hsb, ?_⟩
    have stay : ∀ b o, s1.heap.get? b = some o → h₁.get? b = some o := fun b o e => hsb.extBut b o (Nat.ne_of_lt (Heap.lt_size e)) (Heap.get?_push_of_some _ e)
    have start : Inv (lamCx X (X.A.deeper (envOfC qg sg s.heap.objs.size g cdg)) (envOfC qg sg s.heap.objs.size g cdg :: X.stack) s1 H1 E scope f c1) [] σ H1 { s1 with heap := h₁, toks := s1.toks + ([] : List (Str × Value)).length } :=
      lam_start2 I own J.env0 room.hd J.base hns stay
    have go := (l.reads (X.A.deeper (envOfC qg sg s.heap.objs.size g cdg)) (envOfC qg sg s.heap.objs.size g cdg :: X.stack) s1 H1 E f c1 (show Quiet (X.A.deeper _) from qu) (room.deeper _)).run [] _ _ H1 Q start rest
    refine PySem.W.kla_codeExpr (wpAny_mono go (fun v s' hq => ?_) fun e s' hq => hq)
    obtain ⟨w', H', J', rv, q⟩ := hq
    exact ⟨w', H', J'.os, J'.bare, J'.base, J'.hok, rv, q⟩
  have out : Passes (L2.CX X.prog X.w) ((cxOf CXg X.prog X.w X.K X.mg X.base Ng qg sg g cdg X.A X.stack s H Eg).tr pn xe) E := passes_call tk hW
  refine wpAny_call (codeAny_mono ran fun r s' hq => ?_)
  match r, hq with
  | .error e, hq => exact out pinsZ σZ H1 s1 e s' J hq
  | .ok (.ret u), hq => exact J.after hq
  | .ok .next, hq => exact False.elim hq
  | .ok .brk, hq => exact False.elim hq
  | .ok .cont, hq => exact False.elim hq
/-- a lambda written where it is handed on -/
def tLamG (T : List (Addr × Str)) (TT : (XK → Hp → VK → Prop) → Hp → VK → Prop) (t : XK → TE) : TE := fun σ H Q => Tabs T H ∧ ∀ H1, ExtN H H1 → Tabs T H1 → TT (fun E H' Q' => t E σ H' Q') H1 Q
theorem pe_lamcallG {T : List (Addr × Str)} {TT : (XK → Hp → VK → Prop) → Hp → VK → Prop} {x a : Str} {g c P : Addr} {k : Nat} {pg : Arguments} {bg : List Stmt} {sg : Scope} {dV kV doc pm cdv ct oc : Value} {an od : Option Addr} {osl : Array (Option Value)} {Ng : List Str}
    {params : Arguments} {body : Expr} {scope : Scope} {t : XK → TE} {p lpos pos : Pos} (qu : Quiet X.A) (hg : Gl X x) (hm : X.mg x = some (.ref g)) (hk : PySem.W.keepIn X.K (.ref g) = true) (lk : X.K.lookup g = some ⟨oc, od, .func (PySem.W.fnOf x x pg bg sg dV kV doc pm an cdv ct), osl⟩) (hcg : PySem.W.codeIn X.K cdv x = true)
    (hb : L2.Binds X.K (PySem.W.fnOf x x pg bg sg dV kV doc pm an cdv ct) [a] []) (Sg : FnScope Ng [a] sg) (hNg : Ng[0]? = some a) (hva : Vis sg a) (hG : GivesK X Ng x sg g cdv bg a TT) (TB : TabB X.base X.mg c P) (hcode : X.env.code = .ref c) (hmT : (P, X.env.qual ++ "<lambda>") ∈ T)
    (hu : ∀ q ∈ T, q.1 = P → q.2 = X.env.qual ++ "<lambda>") (hr : Room (k + 2) X.A) (hdef : defaultsOf params X.env = ([], [])) (l : LamG X k params body scope t)
    (hdb : (x == ("__debug__" : Str)) = false := by decide) (hd : (a == ("__debug__" : Str)) = false := by decide) (hcd : (a == ("__classdict__" : Str)) = false := by decide) :
    PE X (.Call (.Name x p) [.Lambda params body scope lpos] [] pos) (tLamG T TT t) := by
  refine ⟨fun pins s σ H Q I h => wpAny_Call_Name_kw (ld_glob I hg hm ?_ hdb)⟩
  obtain ⟨hT, h⟩ := h
  refine PySem.W.callWith_K (h₀ := X.base) I.ok.mod.kin hk ?_ (by rfl) (by rfl)
  show wpAny _ _ (spliced ((false, eval (.Lambda params body scope lpos) X.env) :: backTo pos (starEach [] X.env))) _ _ s
  refine Calls.spliced_cons (lam_made I TB hcode hmT hu hT hdef (l.own.has I.ok) fun f H1 s1 J eN tA nf lo => ?_)
  refine Calls.spliced_nil ⟨J.kIn, ?_⟩
  obtain ⟨c1, pmf, ctf, kf, kc⟩ := lo
  have ran : codeAny (model X.prog X.w) X.A (.call (.ref g) ⟨[.ref f], []⟩) (CR C8.CX0 X.stack X.prog X.w H1 s1 Q C8.E0) s1 := by
    refine run_ofS (N := Ng) (ps := [a]) (us := [.ref f]) (vs := [.ref f]) lk hcg Sg hr J.env0 (hb s1 [.ref f] J.kIn rfl) (.cons rfl .nil) rfl fun room => ?_
    have gave := hG f (fun HZ => HZ f = some (FnO f (lamObj X params body scope pmf ctf c1)) ∧ HZ c1 = some (CodeO c1 (X.env.qual ++ "<lambda>"))) s1 H1 Q (fun E H' Q' => t E σ H' Q')
      (fun _ _ z e => ⟨e _ _ z.1, e _ _ z.2⟩) (fun W pn xe E p1 p2 tk hW => act_quiet (i := 0) J qu l tk hW room hNg hva hd hcd) ⟨kf, kc⟩ (h H1 eN tA)
    obtain ⟨t1, ht1, hq1⟩ := gave
    exact ⟨t1, ht1.nox, hq1⟩
  refine wpAny_call (codeAny_mono ran fun r s2 hq => ?_)
  match r, hq with
  | .error e, hq => exact (show False from hq).elim
  | .ok (.ret u), hq => exact J.after hq
  | .ok .next, hq => exact False.elim hq
  | .ok .brk, hq => exact False.elim hq
  | .ok .cont, hq => exact False.elim hq
end
end LamX

set_option Elab.async false
set_option linter.all false
set_option maxRecDepth 100000
set_option maxHeartbeats 4000000
/-! The end of a law whose promise wants that no repr is under way. -/
namespace LamX
open PySem PySem.Spec PyProof.Rows L2
/-- tables are tracked from the beginning, and so is the script unless it stands in the text -/
def firstH (K : PySem.W.Frag) (ts : List Addr) (a : Addr) (o : Obj) (xs : List V) : Hp := fun b =>
  if b ∈ ts then some (.tbl #[]) else if b = a ∧ K.lookup a = none then some (.frz o (.lst xs)) else none
theorem firstH_tab {K : PySem.W.Frag} {ts : List Addr} {a b : Addr} {o : Obj} {xs : List V} (h : b ∈ ts) : firstH K ts a o xs b = some (.tbl #[]) := by
  unfold firstH
  rw [if_pos h]
theorem firstH_at {K : PySem.W.Frag} {ts : List Addr} {a : Addr} {o : Obj} {xs : List V} (h : a ∉ ts) (n : K.lookup a = none) : firstH K ts a o xs a = some (.frz o (.lst xs)) := by
  unfold firstH
  rw [if_neg h, if_pos ⟨rfl, n⟩]
theorem firstH_of {K : PySem.W.Frag} {ts : List Addr} {a b : Addr} {o : Obj} {xs : List V} {u : HO} (h : firstH K ts a o xs b = some u) : (b ∈ ts ∧ u = .tbl #[]) ∨ (b = a ∧ K.lookup a = none ∧ u = .frz o (.lst xs)) := by
  unfold firstH at h
  by_cases h1 : b ∈ ts
  · rw [if_pos h1] at h
    exact .inl ⟨h1, (Option.some.inj h).symm⟩
  · rw [if_neg h1] at h
    by_cases h2 : b = a ∧ K.lookup a = none
    · rw [if_pos h2] at h
      exact .inr ⟨h2.1, h2.2, (Option.some.inj h).symm⟩
    · rw [if_neg h2] at h
      cases h
theorem law_callG {P : Program} {w : World} {K : PySem.W.Frag} {mg mb : Str → Option Value} {C : CXT} {k : Nat} {fa a : Addr} {cs : List (Addr × Addr)} {fd : FuncData} {x : Str} {sp : Sp} {s : Shared} {vs : List Value} {ns : List Int}
    (kin : K.In s.heap) (glob : s.heap.Ns mainGlobals mg) (bns : s.heap.Ns builtinsNs mb) (boot : ∀ y : Str, y ≠ "__name__" → mb y = bootBuiltins y) (lim : s.heap.NoLimit) (gens : s.gens = #[])
    (tabs : ∀ p ∈ cs, s.heap.get? p.2 = some { cls := .none, data := .fields #[] }) (untold : ∀ p ∈ cs, K.lookup p.2 = none) (codes : ∀ p ∈ cs, PySem.W.CodeHd s.heap p.1 p.2)
    (bmod : ∃ (bm : Addr) (ob : Obj), mg "__builtins__" = some (.ref bm) ∧ bm ≠ builtinsNs ∧ s.heap.get? bm = some ob ∧ ob.cls = .type "module" ∧ ob.dict = some builtinsNs ∧ ob.data = .plain)
    (script : s.heap.get? a = some { cls := .type "list", data := .seq vs.toArray }) (whole : IntsAre vs ns) (short : ns.length ≤ sizeLine) (room : Room k callerA)
    (F : ∀ base : Heap, K.In base → base.Ns mainGlobals mg → (∀ p ∈ cs, TabB base mg p.1 p.2) → FnG P w K mg base C k fa fd [x] sp) (binds : ∀ (s : Shared) (u : Value), BindsTo s fd ⟨[u], []⟩ [(x, u)])
    (holds : ∀ H : Hp, (∀ p ∈ cs, H p.2 = some (.tbl #[])) → SqL K H a (ns.map V.int) → sp [.ref a] H (fun v _ => v = .bl true) fun _ _ _ => False)
    (noerr : ∀ H e s', C [] H s (fun _ _ _ => False) e s' → False) :
    codeAny (model P w) callerA (.call (.ref fa) ⟨[.ref a], []⟩) (fun r s' => r = .ok (.ret (.bool true)) ∧ OldK s.heap s'.heap ∧ s'.os = s.os ∧ AllBare s'.gens) s := by
  have rel := vals_ints whole
  have many := whole.length
  generalize hts : cs.map (·.2) = ts
  have inT : ∀ p ∈ cs, p.2 ∈ ts := fun p hp => by
    rw [← hts]
    exact List.mem_map.mpr ⟨p, hp, rfl⟩
  have ofT : ∀ b ∈ ts, ∃ p ∈ cs, p.2 = b := fun b hb => by
    rw [← hts] at hb
    exact List.mem_map.mp hb
  have emp : ∀ b ∈ ts, s.heap.get? b = some { cls := .none, data := .fields #[] } := fun b hb => by
    obtain ⟨p, hp, rfl⟩ := ofT b hb
    exact tabs p hp
  have aT : a ∉ ts := fun z => by
    have e := emp a z
    rw [script] at e
    have e2 := congrArg Obj.data (Option.some.inj e)
    cases e2
  generalize hH : firstH K ts a { cls := .type "list", data := .seq vs.toArray } (ns.map V.int) = H
  have of : ∀ {b u}, H b = some u → (b ∈ ts ∧ u = .tbl #[]) ∨ (b = a ∧ K.lookup a = none ∧ u = .frz { cls := .type "list", data := .seq vs.toArray } (.lst (ns.map V.int))) := fun {b u} z => by
    rw [← hH] at z
    exact firstH_of z
  have atT : ∀ b ∈ ts, H b = some (.tbl #[]) := fun b hb => by
    rw [← hH]
    exact firstH_tab hb
  -- what is neither a list nor an empty table is not tracked
  have off : ∀ {b : Addr} {o : Obj}, s.heap.get? b = some o → (∀ us n, o.data ≠ .seq us n) → o.data ≠ .fields #[] → H b = none := fun {b o} e n1 n2 => by
    cases z : H b with
    | none => rfl
    | some u =>
      rcases of z with ⟨m, _⟩ | ⟨m, _, _⟩
      · rw [emp b m] at e
        cases e
        exact absurd rfl n2
      · rw [m, script] at e
        cases e
        exact absurd rfl (n1 _ _)
  have dict : ∀ {b : Addr} {o : Obj} {es : Array DictEntry} {n : Nat}, s.heap.get? b = some o → o.data = .dict es n → H b = none := fun {b o es n} e d =>
    off e (fun us m z => by rw [d] at z; cases z) fun z => by rw [d] at z; cases z
  have stays : ∀ {b : Addr} {m : Str → Option Value}, s.heap.Ns b m → (hidT s.heap H).Ns b m := fun {b m} z => by
    obtain ⟨o, es, ep, e, d, r⟩ := z
    exact ⟨o, es, ep, hidT_get e (dict e d), d, r⟩
  have kin2 : K.In (hidT s.heap H) := fun b o e => by
    refine hidT_get (kin b o e) ?_
    cases z : H b with
    | none => rfl
    | some u =>
      rcases of z with ⟨m, _⟩ | ⟨m, n, _⟩
      · obtain ⟨p, hp, rfl⟩ := ofT b m
        rw [untold p hp] at e
        cases e
      · rw [m, n] at e
        cases e
  have glob2 := stays glob
  have mod : L2.Mod K mg (hidT s.heap H) := by
    refine ⟨kin2, glob2, ⟨mb, stays bns, boot⟩, ?_⟩
    obtain ⟨mc, l1, l2⟩ := lim
    exact ⟨mc, stays l1, l2⟩
  have tb : ∀ p ∈ cs, TabB (hidT s.heap H) mg p.1 p.2 := fun p hp => by
    have eT := tabs p hp
    refine ⟨?_, ?_, fun z => ?_⟩
    · obtain ⟨o, us, file, tf, flags, tg, inF, text, tt, e1, r1, r2, r3, r⟩ := codes p hp
      refine ⟨o, us, file, tf, flags, tg, inF, text, tt, hidT_get e1 (off e1 (fun ws n z => ?_) fun z => ?_), r1, r2, r3, r⟩
      · rw [r2] at z
        cases z
      · rw [r2] at z
        have z2 : us = #[] := by cases z; rfl
        rw [z2] at r3
        simp at r3
    · obtain ⟨bm, ob, b1, b2, b3, b4, b5, b6⟩ := bmod
      refine ⟨bm, ob, b1, b2, fun z => ?_, fun z => ?_, hidT_get b3 (off b3 (fun ws n z => ?_) fun z => ?_), b4, b5, b6⟩
      · obtain ⟨o, es, ep, e, hd, _⟩ := glob
        rw [z, e] at b3
        cases b3
        rw [hd] at b6
        cases b6
      · rw [z, eT] at b3
        cases b3
        cases b6
      · rw [b6] at z
        cases z
      · rw [b6] at z
        cases z
    · obtain ⟨o, es, ep, e, hd, _⟩ := glob
      rw [z, eT] at e
      cases e
      cases hd
  have held : HOk P w H s.heap := fun b u z => by
    rcases of z with ⟨m, rfl⟩ | ⟨rfl, n, rfl⟩
    · exact emp b m
    · refine ⟨script, ?_, vs, 0, rel, script⟩
      rw [List.length_map]
      exact short
  have seq : SqL K H a (ns.map V.int) := by
    cases hk : K.lookup a with
    | none =>
      refine .inl (.inr ⟨{ cls := .type "list", data := .seq vs.toArray }, ?_⟩)
      rw [← hH]
      exact firstH_at aT hk
    | some o =>
      have e := kin a o hk
      rw [script] at e
      cases e
      refine .inr ⟨_, vs.toArray, _, hk, rfl, rfl, rfl, ?_, by simpa using rel⟩
      rw [List.size_toArray, many]
      exact short
  have start : Env0 P w K mg (hidT s.heap H) callerA [] s H := by
    refine ⟨rfl, mod, fun b o e => of_hidT e, Nat.le_of_eq (hidT_size _ _), trivial, fun b z => ?_, held, .of_eq gens⟩
    exact absurd z (List.not_mem_nil)
  have ran := (F _ kin2 glob2 tb).runs callerA [] s H ⟨[.ref a], []⟩ [.ref a] [.ref a] _ _ rfl room start (binds s (.ref a)) (.cons rfl .nil) (holds H (fun p hp => atT _ (inT p hp)) seq)
  refine codeAny_mono ran fun r s2 h => ?_
  match r, h with
  | .error e, h => exact (noerr H e s2 h).elim
  | .ok .next, h => exact h.elim
  | .ok .brk, h => exact h.elim
  | .ok .cont, h => exact h.elim
  | .ok (.ret u), h =>
    obtain ⟨v, H2, os, bare, un, ok2, rv, rfl⟩ := h
    obtain rfl : u = Value.bool true := rv
    have same : ∀ b o, b ∉ ts → s.heap.get? b = some o → s2.heap.get? b = some o := fun b o nb e => by
      cases z : H b with
      | none => exact un.keep b o e z (List.not_mem_nil) (List.not_mem_nil)
      | some u =>
        rcases of z with ⟨m, _⟩ | ⟨rfl, n, rfl⟩
        · exact absurd m nb
        · obtain ⟨e2, _⟩ := ok2 b _ (un.frzs b _ _ z)
          rw [script] at e
          cases e
          exact e2
    have more : ∀ b ∈ ts, ∃ us : Array Value, s2.heap.get? b = some { cls := .none, data := .fields us } := fun b hb => by
      obtain ⟨us, z⟩ := un.tbls b #[] (atT b hb)
      exact ⟨_, ok2 b _ z⟩
    refine ⟨rfl, ⟨fun b o e => ?_, fun b o e => ?_⟩, os, bare⟩
    · by_cases hb : b ∈ ts
      · obtain ⟨us, hu⟩ := more b hb
        obtain ⟨p, hp, rfl⟩ := ofT b hb
        have eT := tabs p hp
        rw [eT] at e
        cases e
        refine .inr (.inl ⟨((codes p hp).tab eT).isCodeTable, rfl, #[], us, rfl, ?_⟩)
        rw [Array.empty_append]
        exact hu
      · exact .inl (same b o hb e)
    · by_cases hb : b ∈ ts
      · obtain ⟨us, hu⟩ := more b hb
        exact ⟨_, hu⟩
      · exact ⟨o, same b o hb e⟩
end LamX

set_option Elab.async false
set_option linter.all false
set_option maxRecDepth 100000
set_option maxHeartbeats 16000000
set_option pp.maxSteps 2000
/-! What is heard of a call: nothing, or one of six errors. -/
namespace V8
open PySem PySem.Spec PyProof.Rows L2 LamX MX
abbrev s_heard : Stmt := topS 39
abbrev n_heard : List Str := ["_law_ask", "_law_caught", "error", "_law_found"]
theorem sc_heard : FnScope ["_law_ask", "_law_caught", "error", "_law_found"] ["_law_ask"] (defScope s_heard) := ⟨rfl, rfl, rfl, by decide +kernel, rfl, by decide +kernel, by decide +kernel⟩
structure Th (K : PySem.W.Frag) (mg : Str → Option Value) (CM CJ CE : Addr) (Cz : Nat → Addr) : Prop extends Ty K mg CM CJ where
  gBadTable : GV mg "BadTable" (.ref (Cz 0))
  gBadLetter : GV mg "BadLetter" (.ref (Cz 1))
  gBadImage : GV mg "BadImage" (.ref (Cz 2))
  gBadWord : GV mg "BadWord" (.ref (Cz 3))
  gBarred : GV mg "Barred" (.ref (Cz 4))
  gTooMany : GV mg "TooMany" (.ref (Cz 5))
  gE : mg "RepairError" = some (.ref CE)
  repr : mg "repr" = none
  set : mg "set" = none
  eX : ∀ i, i < 6 → PySem.W.exmOne K (.ref (Cz i)) (.ref CE) = some true
  kit : ∀ i j, i < 6 → j < 6 → PySem.W.kitOne K (.ref (Cz i)) (.ref (Cz j)) = some (decide (i = j))
  kN : ∀ j, j < 6 → PySem.W.kitOne K (.type "NoneType") (.ref (Cz j)) = some false
  xc : ∀ i, i < 6 → ExcC K (Cz i)
  no : ∀ i, i < 5 → PySem.W.findIn K (.ref (Cz i)) (fldOf i) = some none
  n1 : PySem.W.findIn K (.ref (Cz 5)) "what" = some none
  n2 : PySem.W.findIn K (.ref (Cz 5)) "most" = some none
def wordOf : Nat → Str
  | 0 => "table"
  | 1 => "letter"
  | 2 => "image"
  | 3 => "word"
  | _ => "barred"
/-- the two words that are heard -/
def hearB : Bad → Str × Str
  | .one i d => (wordOf i, d.shown)
  | .many wh m => (wh, (PyData.int m).shown)
/-- heard: nothing, or a list of two words -/
def HrV (H : Hp) (v : V) : Option (Str × Str) → Prop
  | none => v = .non
  | some p => ∃ l, v = .ref l ∧ H l = some (.lst [.str p.1, .str p.2])
/-- heard: what is returned of an error -/
def HearE (Cz : Nat → Addr) (Q : VK) : XK := fun cls d H => ∃ dd, d = some dd ∧
  ((∃ i y p, i < 5 ∧ cls = .ref (Cz i) ∧ PyW H y p ∧ Tells p ∧ H dd = some (.xd [(fldOf i, y)]) ∧ ∀ v H2, Same H H2 → HrV H2 v (some (hearB (.one i p))) → Q v H2) ∨
   (∃ wh m, cls = .ref (Cz 5) ∧ Tells (.int m) ∧ H dd = some (.xd [("most", .int m), ("what", .str wh)]) ∧ ∀ v H2, Same H H2 → HrV H2 v (some (hearB (.many wh m))) → Q v H2))
/-- .. of a value -/
def HearV (Q : VK) : VK := fun _ H => ∀ H2, Same H H2 → Q .non H2
def TTheard (Cz : Nat → Addr) : (XK → Hp → VK → Prop) → Hp → VK → Prop := fun tl H Q => ∀ (R : VK) (H1 : Hp), (∀ v H2, HearV Q v H2 → R v H2) → Same H H1 → tl (HearE Cz Q) H1 R
theorem four_of {l : L2.St} (h : l.length = 4) : ∃ a b c d, l = [a, b, c, d] := by
  match l, h with
  | [a, b, c, d], _ => exact ⟨a, b, c, d, rfl⟩
theorem keptX_same {K : PySem.W.Frag} {H H2 : Hp} {a D : Addr} {fs : List (Str × V)} (k : KeptX K H a D fs) (s : ∀ b o, H b = some o → (∀ xs, o ≠ .lst xs) → H2 b = some o) : KeptX K H2 a D fs := by
  obtain ⟨⟨d, h1, h2⟩, c⟩ := k
  exact ⟨⟨d, s _ _ h1 (fun _ z => nomatch z), s _ _ h2 (fun _ z => nomatch z)⟩, c⟩
theorem heard_givesG {X : Cx} {CM CJ CE g : Addr} {Cz : Nat → Addr} {cdg : Value} (T : Th X.K X.mg CM CJ CE Cz) (sys : SysIn X.base) (quiet : Quiet X.A) (hr3 : ∀ (s : Shared), Room 1 (X.A.deeper (envOfC "_law_heard" (defScope s_heard) s.heap.objs.size g cdg))) : GivesK X n_heard "_law_heard" (defScope s_heard) g cdg (defBody s_heard) "_law_ask" (TTheard Cz) := by
  intro f Kn s H Q tl stay act hc h
  have hr := hr3 s
  refine ⟨_, (pss_cons (ps_set (i := 1) sc_heard.nd rfl (.inl rfl) pe_non)
      (pss_cons (ps_try_keep (X := (cxOf C8.CX0 X.prog X.w X.K X.mg X.base n_heard "_law_heard" (defScope s_heard) g cdg X.A X.stack s H C8.E0).nox) (c := .ref CE) (i := 2) (tb := fun W D σ H => ∃ Ech : XK, (∀ cls d σ' H', Ech cls d H' → W cls d σ' H') ∧ σ[0]? = some (some (.ref f)) ∧ Kn H ∧ tl Ech H (fun _ H' => D.nx σ H')) rfl rfl sc_heard.nd rfl rfl ⟨by rfl, by decide, .inl T.gE⟩ (fun W pn xe tk _ => ?_) (fun a pn => pss_one (ps_set (i := 1) sc_heard.nd rfl (.inl rfl) (pv 2))))
      (pss_cons (ps_set (i := 3) sc_heard.nd rfl (.inl rfl) (pe_lst pa_nil))
      (pss_cons (ps_if (pt_val (pe_callB (call_isi.or call_isK) (by rfl) T.isinstance (by decide +kernel) (pa_cons (pv 1) (pa_cons (pe_gv T.gBadTable (by rfl)) pa_nil))))
        (pss_one (ps_expr (pe_bmK (K := X.K) rfl PySem.F.plainAttrs_list PySem.F.slot_list_append PySem.F.type_list_append mt_append (pv 3) (pa_cons (pe_lst (pa_cons pe_str (pa_cons (pe_callB (call_reprW sys quiet hr) (by rfl) T.repr (by decide +kernel) (pa_cons (pe_keptF (pv 1)) pa_nil)) pa_nil))) pa_nil))))
        pss_nil)
      (pss_cons (ps_if (pt_val (pe_callB (call_isi.or call_isK) (by rfl) T.isinstance (by decide +kernel) (pa_cons (pv 1) (pa_cons (pe_gv T.gBadLetter (by rfl)) pa_nil))))
        (pss_one (ps_expr (pe_bmK (K := X.K) rfl PySem.F.plainAttrs_list PySem.F.slot_list_append PySem.F.type_list_append mt_append (pv 3) (pa_cons (pe_lst (pa_cons pe_str (pa_cons (pe_callB (call_reprW sys quiet hr) (by rfl) T.repr (by decide +kernel) (pa_cons (pe_keptF (pv 1)) pa_nil)) pa_nil))) pa_nil))))
        pss_nil)
      (pss_cons (ps_if (pt_val (pe_callB (call_isi.or call_isK) (by rfl) T.isinstance (by decide +kernel) (pa_cons (pv 1) (pa_cons (pe_gv T.gBadImage (by rfl)) pa_nil))))
        (pss_one (ps_expr (pe_bmK (K := X.K) rfl PySem.F.plainAttrs_list PySem.F.slot_list_append PySem.F.type_list_append mt_append (pv 3) (pa_cons (pe_lst (pa_cons pe_str (pa_cons (pe_callB (call_reprW sys quiet hr) (by rfl) T.repr (by decide +kernel) (pa_cons (pe_keptF (pv 1)) pa_nil)) pa_nil))) pa_nil))))
        pss_nil)
      (pss_cons (ps_if (pt_val (pe_callB (call_isi.or call_isK) (by rfl) T.isinstance (by decide +kernel) (pa_cons (pv 1) (pa_cons (pe_gv T.gBadWord (by rfl)) pa_nil))))
        (pss_one (ps_expr (pe_bmK (K := X.K) rfl PySem.F.plainAttrs_list PySem.F.slot_list_append PySem.F.type_list_append mt_append (pv 3) (pa_cons (pe_lst (pa_cons pe_str (pa_cons (pe_callB (call_reprW sys quiet hr) (by rfl) T.repr (by decide +kernel) (pa_cons (pe_keptF (pv 1)) pa_nil)) pa_nil))) pa_nil))))
        pss_nil)
      (pss_cons (ps_if (pt_val (pe_callB (call_isi.or call_isK) (by rfl) T.isinstance (by decide +kernel) (pa_cons (pv 1) (pa_cons (pe_gv T.gBarred (by rfl)) pa_nil))))
        (pss_one (ps_expr (pe_bmK (K := X.K) rfl PySem.F.plainAttrs_list PySem.F.slot_list_append PySem.F.type_list_append mt_append (pv 3) (pa_cons (pe_lst (pa_cons pe_str (pa_cons (pe_callB (call_reprW sys quiet hr) (by rfl) T.repr (by decide +kernel) (pa_cons (pe_keptF (pv 1)) pa_nil)) pa_nil))) pa_nil))))
        pss_nil)
      (pss_cons (ps_if (pt_val (pe_callB (call_isi.or call_isK) (by rfl) T.isinstance (by decide +kernel) (pa_cons (pv 1) (pa_cons (pe_gv T.gTooMany (by rfl)) pa_nil))))
        (pss_one (ps_expr (pe_bmK (K := X.K) rfl PySem.F.plainAttrs_list PySem.F.slot_list_append PySem.F.type_list_append mt_append (pv 3) (pa_cons (pe_lst (pa_cons (pe_keptF (pv 1)) (pa_cons (pe_callB (call_reprW sys quiet hr) (by rfl) T.repr (by decide +kernel) (pa_cons (pe_keptF (pv 1)) pa_nil)) pa_nil))) pa_nil))))
        pss_nil)
      (pss_cons (ps_if (pt_cmpR op_isN (pv 1) pe_non (nomark _))
        (pss_one (ps_ret pe_non))
        pss_nil)
      (pss_one (ps_ret (pe_ifExp (pt_cmpR op_eq (pe_callB (call_len_seqK (K := X.K) rfl) (by rfl) T.len (by decide +kernel) (pa_cons (pv 3) pa_nil)) pe_int (nomark _)) (pe_ix (ix_listK (K := X.K) rfl) (pv 3) pe_int (fun _ _ => rfl)) pe_str))))))))))))), ?_⟩
  · refine ⟨fun pins s' σ H' D I h' => ?_⟩
    obtain ⟨Ech, hW, h1, h2, h3⟩ := h'
    exact PSs.run (pss_one (ps_expr (act W pn xe Ech _ _ tk hW))) pins s' σ H' D I ⟨h1, h2, h3⟩
  · refine ⟨HearE Cz Q, ?_, rfl, hc, h _ _ (fun v H' hv => ?_) (Same.refl H)⟩
    · rintro cls d σ' H' ⟨dd, rfl, hh⟩
      have kept : ∀ {C : Addr} {fs : List (Str × V)} {a : Addr}, H' a = none → H' dd = some (.xd fs) → ExcC X.K C → KeptX X.K (upd H' a (CaughtO (.ref C) (some dd) a)) a C fs := fun na hx cl =>
        ⟨⟨dd, upd_same, by rw [upd_ne (ne_of_none hx na)]; exact hx⟩, cl⟩
      rcases hh with ⟨i, y, p, i5, rfl, py, tp, hx, hq⟩ | ⟨wh, m, rfl, tp, hx, hq⟩
      · refine ⟨T.eX i (by omega), fun len a na => ?_⟩
        obtain ⟨s0, s1, s2, s3, rfl⟩ := four_of len
        have k := kept na hx (T.xc i (by omega))
        have sa := same_put (s := Same.refl H') (o := CaughtO (.ref (Cz i)) (some dd) a) na
        refine ⟨_, rfl, Nat.zero_le _, fun l nl => ?_⟩
        have sl := same_put (s := sa) (o := .lst []) nl
        have kl := keptX_same k fun b o e _ => same_put (s := Same.refl _) (o := .lst []) nl b o e
        have pl := py.same sl
        have hl : upd (upd H' a (CaughtO (.ref (Cz i)) (some dd) a)) l (.lst []) l = some (.lst []) := upd_same
        have nl2 : H' l = none := same_none sa nl
        clear k
        generalize upd (upd H' a (CaughtO (.ref (Cz i)) (some dd) a)) l (.lst []) = H1 at sl kl pl hl ⊢
        rcases (by omega : i = 0 ∨ i = 1 ∨ i = 2 ∨ i = 3 ∨ i = 4) with rfl | rfl | rfl | rfl | rfl
        · refine ⟨_, rfl, .inr ⟨a, Cz 0, _, .ref (Cz 0), .ref (Cz 0), true, rfl, kl, fun u r => r, T.kit 0 0 (by decide) (by decide), true, rfl, iteT ?_⟩⟩
          refine ⟨_, rfl, .inl ⟨rfl, _, SqL.of hl⟩, _, rfl, a, Cz 0, _, y, rfl, kl, T.no 0 (by decide), by simp [List.lookup, fldOf], y, p, rfl, pl, tp, by show 2 ≤ sizeLine; decide, fun l1 nl1 => ?_⟩
          have n1 : l ≠ l1 := ne_of_none hl nl1
          refine ⟨l, [], _, rfl, rfl, by rw [upd_ne n1]; exact hl, by show 0 < sizeLine; decide, ?_⟩
          have h2 : upd (upd H1 l1 (.lst [.str (wordOf 0), .str p.shown])) l (.lst [.ref l1]) l = some (.lst [.ref l1]) := upd_same
          have h3 : upd (upd H1 l1 (.lst [.str (wordOf 0), .str p.shown])) l (.lst [.ref l1]) l1 = some (.lst [.str (wordOf 0), .str p.shown]) := by
            rw [upd_ne (Ne.symm n1)]
            exact upd_same
          have k2 := keptX_same (H2 := upd (upd H1 l1 (.lst [.str (wordOf 0), .str p.shown])) l (.lst [.ref l1])) kl fun b o e nb => by
            rw [upd_ne (fun z => by rw [z, hl] at e; exact nb _ (Option.some.inj e).symm), upd_ne (ne_of_none e nl1)]
            exact e
          have sm2 : Same H' (upd (upd H1 l1 (.lst [.str (wordOf 0), .str p.shown])) l (.lst [.ref l1])) := fun b o e => by
            rw [upd_ne (ne_of_none e nl2), upd_ne (ne_of_none (sl _ _ e) nl1)]
            exact sl _ _ e
          show Ends.nx _ _ (upd (upd H1 l1 (.lst [.str (wordOf 0), .str p.shown])) l (.lst [.ref l1]))
          generalize upd (upd H1 l1 (.lst [.str (wordOf 0), .str p.shown])) l (.lst [.ref l1]) = H2 at h2 h3 k2 sm2 ⊢
          refine ⟨_, rfl, .inr ⟨a, Cz 0, _, .ref (Cz 1), .ref (Cz 1), false, rfl, k2, fun u r => r, T.kit 0 1 (by decide) (by decide), false, rfl, iteF ?_⟩⟩
          refine ⟨_, rfl, .inr ⟨a, Cz 0, _, .ref (Cz 2), .ref (Cz 2), false, rfl, k2, fun u r => r, T.kit 0 2 (by decide) (by decide), false, rfl, iteF ?_⟩⟩
          refine ⟨_, rfl, .inr ⟨a, Cz 0, _, .ref (Cz 3), .ref (Cz 3), false, rfl, k2, fun u r => r, T.kit 0 3 (by decide) (by decide), false, rfl, iteF ?_⟩⟩
          refine ⟨_, rfl, .inr ⟨a, Cz 0, _, .ref (Cz 4), .ref (Cz 4), false, rfl, k2, fun u r => r, T.kit 0 4 (by decide) (by decide), false, rfl, iteF ?_⟩⟩
          refine ⟨_, rfl, .inr ⟨a, Cz 0, _, .ref (Cz 5), .ref (Cz 5), false, rfl, k2, fun u r => r, T.kit 0 5 (by decide) (by decide), false, rfl, iteF ?_⟩⟩
          refine ⟨_, rfl, rfl, false, rfl, iteF ?_⟩
          refine ⟨_, rfl, l, _, rfl, .inl (SqL.of h2), rfl, true, rfl, iteT ?_⟩
          exact ⟨_, rfl, l, _, 0, _, rfl, rfl, SqL.of h2, rfl, hq (.ref l1) H2 sm2 ⟨l1, rfl, h3⟩⟩
        · refine ⟨_, rfl, .inr ⟨a, Cz 1, _, .ref (Cz 0), .ref (Cz 0), false, rfl, kl, fun u r => r, T.kit 1 0 (by decide) (by decide), false, rfl, iteF ?_⟩⟩
          refine ⟨_, rfl, .inr ⟨a, Cz 1, _, .ref (Cz 1), .ref (Cz 1), true, rfl, kl, fun u r => r, T.kit 1 1 (by decide) (by decide), true, rfl, iteT ?_⟩⟩
          refine ⟨_, rfl, .inl ⟨rfl, _, SqL.of hl⟩, _, rfl, a, Cz 1, _, y, rfl, kl, T.no 1 (by decide), by simp [List.lookup, fldOf], y, p, rfl, pl, tp, by show 2 ≤ sizeLine; decide, fun l1 nl1 => ?_⟩
          have n1 : l ≠ l1 := ne_of_none hl nl1
          refine ⟨l, [], _, rfl, rfl, by rw [upd_ne n1]; exact hl, by show 0 < sizeLine; decide, ?_⟩
          have h2 : upd (upd H1 l1 (.lst [.str (wordOf 1), .str p.shown])) l (.lst [.ref l1]) l = some (.lst [.ref l1]) := upd_same
          have h3 : upd (upd H1 l1 (.lst [.str (wordOf 1), .str p.shown])) l (.lst [.ref l1]) l1 = some (.lst [.str (wordOf 1), .str p.shown]) := by
            rw [upd_ne (Ne.symm n1)]
            exact upd_same
          have k2 := keptX_same (H2 := upd (upd H1 l1 (.lst [.str (wordOf 1), .str p.shown])) l (.lst [.ref l1])) kl fun b o e nb => by
            rw [upd_ne (fun z => by rw [z, hl] at e; exact nb _ (Option.some.inj e).symm), upd_ne (ne_of_none e nl1)]
            exact e
          have sm2 : Same H' (upd (upd H1 l1 (.lst [.str (wordOf 1), .str p.shown])) l (.lst [.ref l1])) := fun b o e => by
            rw [upd_ne (ne_of_none e nl2), upd_ne (ne_of_none (sl _ _ e) nl1)]
            exact sl _ _ e
          show Ends.nx _ _ (upd (upd H1 l1 (.lst [.str (wordOf 1), .str p.shown])) l (.lst [.ref l1]))
          generalize upd (upd H1 l1 (.lst [.str (wordOf 1), .str p.shown])) l (.lst [.ref l1]) = H2 at h2 h3 k2 sm2 ⊢
          refine ⟨_, rfl, .inr ⟨a, Cz 1, _, .ref (Cz 2), .ref (Cz 2), false, rfl, k2, fun u r => r, T.kit 1 2 (by decide) (by decide), false, rfl, iteF ?_⟩⟩
          refine ⟨_, rfl, .inr ⟨a, Cz 1, _, .ref (Cz 3), .ref (Cz 3), false, rfl, k2, fun u r => r, T.kit 1 3 (by decide) (by decide), false, rfl, iteF ?_⟩⟩
          refine ⟨_, rfl, .inr ⟨a, Cz 1, _, .ref (Cz 4), .ref (Cz 4), false, rfl, k2, fun u r => r, T.kit 1 4 (by decide) (by decide), false, rfl, iteF ?_⟩⟩
          refine ⟨_, rfl, .inr ⟨a, Cz 1, _, .ref (Cz 5), .ref (Cz 5), false, rfl, k2, fun u r => r, T.kit 1 5 (by decide) (by decide), false, rfl, iteF ?_⟩⟩
          refine ⟨_, rfl, rfl, false, rfl, iteF ?_⟩
          refine ⟨_, rfl, l, _, rfl, .inl (SqL.of h2), rfl, true, rfl, iteT ?_⟩
          exact ⟨_, rfl, l, _, 0, _, rfl, rfl, SqL.of h2, rfl, hq (.ref l1) H2 sm2 ⟨l1, rfl, h3⟩⟩
        · refine ⟨_, rfl, .inr ⟨a, Cz 2, _, .ref (Cz 0), .ref (Cz 0), false, rfl, kl, fun u r => r, T.kit 2 0 (by decide) (by decide), false, rfl, iteF ?_⟩⟩
          refine ⟨_, rfl, .inr ⟨a, Cz 2, _, .ref (Cz 1), .ref (Cz 1), false, rfl, kl, fun u r => r, T.kit 2 1 (by decide) (by decide), false, rfl, iteF ?_⟩⟩
          refine ⟨_, rfl, .inr ⟨a, Cz 2, _, .ref (Cz 2), .ref (Cz 2), true, rfl, kl, fun u r => r, T.kit 2 2 (by decide) (by decide), true, rfl, iteT ?_⟩⟩
          refine ⟨_, rfl, .inl ⟨rfl, _, SqL.of hl⟩, _, rfl, a, Cz 2, _, y, rfl, kl, T.no 2 (by decide), by simp [List.lookup, fldOf], y, p, rfl, pl, tp, by show 2 ≤ sizeLine; decide, fun l1 nl1 => ?_⟩
          have n1 : l ≠ l1 := ne_of_none hl nl1
          refine ⟨l, [], _, rfl, rfl, by rw [upd_ne n1]; exact hl, by show 0 < sizeLine; decide, ?_⟩
          have h2 : upd (upd H1 l1 (.lst [.str (wordOf 2), .str p.shown])) l (.lst [.ref l1]) l = some (.lst [.ref l1]) := upd_same
          have h3 : upd (upd H1 l1 (.lst [.str (wordOf 2), .str p.shown])) l (.lst [.ref l1]) l1 = some (.lst [.str (wordOf 2), .str p.shown]) := by
            rw [upd_ne (Ne.symm n1)]
            exact upd_same
          have k2 := keptX_same (H2 := upd (upd H1 l1 (.lst [.str (wordOf 2), .str p.shown])) l (.lst [.ref l1])) kl fun b o e nb => by
            rw [upd_ne (fun z => by rw [z, hl] at e; exact nb _ (Option.some.inj e).symm), upd_ne (ne_of_none e nl1)]
            exact e
          have sm2 : Same H' (upd (upd H1 l1 (.lst [.str (wordOf 2), .str p.shown])) l (.lst [.ref l1])) := fun b o e => by
            rw [upd_ne (ne_of_none e nl2), upd_ne (ne_of_none (sl _ _ e) nl1)]
            exact sl _ _ e
          show Ends.nx _ _ (upd (upd H1 l1 (.lst [.str (wordOf 2), .str p.shown])) l (.lst [.ref l1]))
          generalize upd (upd H1 l1 (.lst [.str (wordOf 2), .str p.shown])) l (.lst [.ref l1]) = H2 at h2 h3 k2 sm2 ⊢
          refine ⟨_, rfl, .inr ⟨a, Cz 2, _, .ref (Cz 3), .ref (Cz 3), false, rfl, k2, fun u r => r, T.kit 2 3 (by decide) (by decide), false, rfl, iteF ?_⟩⟩
          refine ⟨_, rfl, .inr ⟨a, Cz 2, _, .ref (Cz 4), .ref (Cz 4), false, rfl, k2, fun u r => r, T.kit 2 4 (by decide) (by decide), false, rfl, iteF ?_⟩⟩
          refine ⟨_, rfl, .inr ⟨a, Cz 2, _, .ref (Cz 5), .ref (Cz 5), false, rfl, k2, fun u r => r, T.kit 2 5 (by decide) (by decide), false, rfl, iteF ?_⟩⟩
          refine ⟨_, rfl, rfl, false, rfl, iteF ?_⟩
          refine ⟨_, rfl, l, _, rfl, .inl (SqL.of h2), rfl, true, rfl, iteT ?_⟩
          exact ⟨_, rfl, l, _, 0, _, rfl, rfl, SqL.of h2, rfl, hq (.ref l1) H2 sm2 ⟨l1, rfl, h3⟩⟩
        · refine ⟨_, rfl, .inr ⟨a, Cz 3, _, .ref (Cz 0), .ref (Cz 0), false, rfl, kl, fun u r => r, T.kit 3 0 (by decide) (by decide), false, rfl, iteF ?_⟩⟩
          refine ⟨_, rfl, .inr ⟨a, Cz 3, _, .ref (Cz 1), .ref (Cz 1), false, rfl, kl, fun u r => r, T.kit 3 1 (by decide) (by decide), false, rfl, iteF ?_⟩⟩
          refine ⟨_, rfl, .inr ⟨a, Cz 3, _, .ref (Cz 2), .ref (Cz 2), false, rfl, kl, fun u r => r, T.kit 3 2 (by decide) (by decide), false, rfl, iteF ?_⟩⟩
          refine ⟨_, rfl, .inr ⟨a, Cz 3, _, .ref (Cz 3), .ref (Cz 3), true, rfl, kl, fun u r => r, T.kit 3 3 (by decide) (by decide), true, rfl, iteT ?_⟩⟩
          refine ⟨_, rfl, .inl ⟨rfl, _, SqL.of hl⟩, _, rfl, a, Cz 3, _, y, rfl, kl, T.no 3 (by decide), by simp [List.lookup, fldOf], y, p, rfl, pl, tp, by show 2 ≤ sizeLine; decide, fun l1 nl1 => ?_⟩
          have n1 : l ≠ l1 := ne_of_none hl nl1
          refine ⟨l, [], _, rfl, rfl, by rw [upd_ne n1]; exact hl, by show 0 < sizeLine; decide, ?_⟩
          have h2 : upd (upd H1 l1 (.lst [.str (wordOf 3), .str p.shown])) l (.lst [.ref l1]) l = some (.lst [.ref l1]) := upd_same
          have h3 : upd (upd H1 l1 (.lst [.str (wordOf 3), .str p.shown])) l (.lst [.ref l1]) l1 = some (.lst [.str (wordOf 3), .str p.shown]) := by
            rw [upd_ne (Ne.symm n1)]
            exact upd_same
          have k2 := keptX_same (H2 := upd (upd H1 l1 (.lst [.str (wordOf 3), .str p.shown])) l (.lst [.ref l1])) kl fun b o e nb => by
            rw [upd_ne (fun z => by rw [z, hl] at e; exact nb _ (Option.some.inj e).symm), upd_ne (ne_of_none e nl1)]
            exact e
          have sm2 : Same H' (upd (upd H1 l1 (.lst [.str (wordOf 3), .str p.shown])) l (.lst [.ref l1])) := fun b o e => by
            rw [upd_ne (ne_of_none e nl2), upd_ne (ne_of_none (sl _ _ e) nl1)]
            exact sl _ _ e
          show Ends.nx _ _ (upd (upd H1 l1 (.lst [.str (wordOf 3), .str p.shown])) l (.lst [.ref l1]))
          generalize upd (upd H1 l1 (.lst [.str (wordOf 3), .str p.shown])) l (.lst [.ref l1]) = H2 at h2 h3 k2 sm2 ⊢
          refine ⟨_, rfl, .inr ⟨a, Cz 3, _, .ref (Cz 4), .ref (Cz 4), false, rfl, k2, fun u r => r, T.kit 3 4 (by decide) (by decide), false, rfl, iteF ?_⟩⟩
          refine ⟨_, rfl, .inr ⟨a, Cz 3, _, .ref (Cz 5), .ref (Cz 5), false, rfl, k2, fun u r => r, T.kit 3 5 (by decide) (by decide), false, rfl, iteF ?_⟩⟩
          refine ⟨_, rfl, rfl, false, rfl, iteF ?_⟩
          refine ⟨_, rfl, l, _, rfl, .inl (SqL.of h2), rfl, true, rfl, iteT ?_⟩
          exact ⟨_, rfl, l, _, 0, _, rfl, rfl, SqL.of h2, rfl, hq (.ref l1) H2 sm2 ⟨l1, rfl, h3⟩⟩
        · refine ⟨_, rfl, .inr ⟨a, Cz 4, _, .ref (Cz 0), .ref (Cz 0), false, rfl, kl, fun u r => r, T.kit 4 0 (by decide) (by decide), false, rfl, iteF ?_⟩⟩
          refine ⟨_, rfl, .inr ⟨a, Cz 4, _, .ref (Cz 1), .ref (Cz 1), false, rfl, kl, fun u r => r, T.kit 4 1 (by decide) (by decide), false, rfl, iteF ?_⟩⟩
          refine ⟨_, rfl, .inr ⟨a, Cz 4, _, .ref (Cz 2), .ref (Cz 2), false, rfl, kl, fun u r => r, T.kit 4 2 (by decide) (by decide), false, rfl, iteF ?_⟩⟩
          refine ⟨_, rfl, .inr ⟨a, Cz 4, _, .ref (Cz 3), .ref (Cz 3), false, rfl, kl, fun u r => r, T.kit 4 3 (by decide) (by decide), false, rfl, iteF ?_⟩⟩
          refine ⟨_, rfl, .inr ⟨a, Cz 4, _, .ref (Cz 4), .ref (Cz 4), true, rfl, kl, fun u r => r, T.kit 4 4 (by decide) (by decide), true, rfl, iteT ?_⟩⟩
          refine ⟨_, rfl, .inl ⟨rfl, _, SqL.of hl⟩, _, rfl, a, Cz 4, _, y, rfl, kl, T.no 4 (by decide), by simp [List.lookup, fldOf], y, p, rfl, pl, tp, by show 2 ≤ sizeLine; decide, fun l1 nl1 => ?_⟩
          have n1 : l ≠ l1 := ne_of_none hl nl1
          refine ⟨l, [], _, rfl, rfl, by rw [upd_ne n1]; exact hl, by show 0 < sizeLine; decide, ?_⟩
          have h2 : upd (upd H1 l1 (.lst [.str (wordOf 4), .str p.shown])) l (.lst [.ref l1]) l = some (.lst [.ref l1]) := upd_same
          have h3 : upd (upd H1 l1 (.lst [.str (wordOf 4), .str p.shown])) l (.lst [.ref l1]) l1 = some (.lst [.str (wordOf 4), .str p.shown]) := by
            rw [upd_ne (Ne.symm n1)]
            exact upd_same
          have k2 := keptX_same (H2 := upd (upd H1 l1 (.lst [.str (wordOf 4), .str p.shown])) l (.lst [.ref l1])) kl fun b o e nb => by
            rw [upd_ne (fun z => by rw [z, hl] at e; exact nb _ (Option.some.inj e).symm), upd_ne (ne_of_none e nl1)]
            exact e
          have sm2 : Same H' (upd (upd H1 l1 (.lst [.str (wordOf 4), .str p.shown])) l (.lst [.ref l1])) := fun b o e => by
            rw [upd_ne (ne_of_none e nl2), upd_ne (ne_of_none (sl _ _ e) nl1)]
            exact sl _ _ e
          show Ends.nx _ _ (upd (upd H1 l1 (.lst [.str (wordOf 4), .str p.shown])) l (.lst [.ref l1]))
          generalize upd (upd H1 l1 (.lst [.str (wordOf 4), .str p.shown])) l (.lst [.ref l1]) = H2 at h2 h3 k2 sm2 ⊢
          refine ⟨_, rfl, .inr ⟨a, Cz 4, _, .ref (Cz 5), .ref (Cz 5), false, rfl, k2, fun u r => r, T.kit 4 5 (by decide) (by decide), false, rfl, iteF ?_⟩⟩
          refine ⟨_, rfl, rfl, false, rfl, iteF ?_⟩
          refine ⟨_, rfl, l, _, rfl, .inl (SqL.of h2), rfl, true, rfl, iteT ?_⟩
          exact ⟨_, rfl, l, _, 0, _, rfl, rfl, SqL.of h2, rfl, hq (.ref l1) H2 sm2 ⟨l1, rfl, h3⟩⟩
      · refine ⟨T.eX 5 (by decide), fun len a na => ?_⟩
        obtain ⟨s0, s1, s2, s3, rfl⟩ := four_of len
        have k := kept na hx (T.xc 5 (by decide))
        have sa := same_put (s := Same.refl H') (o := CaughtO (.ref (Cz 5)) (some dd) a) na
        refine ⟨_, rfl, Nat.zero_le _, fun l nl => ?_⟩
        have sl := same_put (s := sa) (o := .lst []) nl
        have kl := keptX_same k fun b o e _ => same_put (s := Same.refl _) (o := .lst []) nl b o e
        have hl : upd (upd H' a (CaughtO (.ref (Cz 5)) (some dd) a)) l (.lst []) l = some (.lst []) := upd_same
        have nl2 : H' l = none := same_none sa nl
        clear k
        generalize upd (upd H' a (CaughtO (.ref (Cz 5)) (some dd) a)) l (.lst []) = H1 at sl kl hl ⊢
        refine ⟨_, rfl, .inr ⟨a, Cz 5, _, .ref (Cz 0), .ref (Cz 0), false, rfl, kl, fun u r => r, T.kit 5 0 (by decide) (by decide), false, rfl, iteF ?_⟩⟩
        refine ⟨_, rfl, .inr ⟨a, Cz 5, _, .ref (Cz 1), .ref (Cz 1), false, rfl, kl, fun u r => r, T.kit 5 1 (by decide) (by decide), false, rfl, iteF ?_⟩⟩
        refine ⟨_, rfl, .inr ⟨a, Cz 5, _, .ref (Cz 2), .ref (Cz 2), false, rfl, kl, fun u r => r, T.kit 5 2 (by decide) (by decide), false, rfl, iteF ?_⟩⟩
        refine ⟨_, rfl, .inr ⟨a, Cz 5, _, .ref (Cz 3), .ref (Cz 3), false, rfl, kl, fun u r => r, T.kit 5 3 (by decide) (by decide), false, rfl, iteF ?_⟩⟩
        refine ⟨_, rfl, .inr ⟨a, Cz 5, _, .ref (Cz 4), .ref (Cz 4), false, rfl, kl, fun u r => r, T.kit 5 4 (by decide) (by decide), false, rfl, iteF ?_⟩⟩
        refine ⟨_, rfl, .inr ⟨a, Cz 5, _, .ref (Cz 5), .ref (Cz 5), true, rfl, kl, fun u r => r, T.kit 5 5 (by decide) (by decide), true, rfl, iteT ?_⟩⟩
        refine ⟨_, rfl, .inl ⟨rfl, _, SqL.of hl⟩, _, rfl, a, Cz 5, _, .str wh, rfl, kl, T.n1, by simp only [List.lookup, show (("what" : Str) == "most") = false from by decide +kernel, show (("what" : Str) == "what") = true from by decide +kernel], _, rfl, a, Cz 5, _, .int m, rfl, kl, T.n2, by simp [List.lookup], _, _, rfl, .int m, tp, by show 2 ≤ sizeLine; decide, fun l1 nl1 => ?_⟩
        have n1 : l ≠ l1 := ne_of_none hl nl1
        refine ⟨l, [], _, rfl, rfl, by rw [upd_ne n1]; exact hl, by show 0 < sizeLine; decide, ?_⟩
        have h2 : upd (upd H1 l1 (.lst [.str wh, .str (PyData.int m).shown])) l (.lst [.ref l1]) l = some (.lst [.ref l1]) := upd_same
        have h3 : upd (upd H1 l1 (.lst [.str wh, .str (PyData.int m).shown])) l (.lst [.ref l1]) l1 = some (.lst [.str wh, .str (PyData.int m).shown]) := by
          rw [upd_ne (Ne.symm n1)]
          exact upd_same
        have k2 := keptX_same (H2 := upd (upd H1 l1 (.lst [.str wh, .str (PyData.int m).shown])) l (.lst [.ref l1])) kl fun b o e nb => by
          rw [upd_ne (fun z => by rw [z, hl] at e; exact nb _ (Option.some.inj e).symm), upd_ne (ne_of_none e nl1)]
          exact e
        have sm2 : Same H' (upd (upd H1 l1 (.lst [.str wh, .str (PyData.int m).shown])) l (.lst [.ref l1])) := fun b o e => by
          rw [upd_ne (ne_of_none e nl2), upd_ne (ne_of_none (sl _ _ e) nl1)]
          exact sl _ _ e
        show Ends.nx _ _ (upd (upd H1 l1 (.lst [.str wh, .str (PyData.int m).shown])) l (.lst [.ref l1]))
        generalize upd (upd H1 l1 (.lst [.str wh, .str (PyData.int m).shown])) l (.lst [.ref l1]) = H2 at h2 h3 k2 sm2 ⊢
        refine ⟨_, rfl, rfl, false, rfl, iteF ?_⟩
        refine ⟨_, rfl, l, _, rfl, .inl (SqL.of h2), rfl, true, rfl, iteT ?_⟩
        exact ⟨_, rfl, l, _, 0, _, rfl, rfl, SqL.of h2, rfl, hq (.ref l1) H2 sm2 ⟨l1, rfl, h3⟩⟩
    · refine ⟨Nat.zero_le _, fun l nl => ?_⟩
      have sl := same_put (s := Same.refl H') (o := .lst []) nl
      generalize upd H' l (.lst []) = H1 at sl ⊢
      refine ⟨_, rfl, .inl ⟨_, .ref (Cz 0), .type "NoneType", .ref (Cz 0), false, rfl, .own _, .base .non, T.kN 0 (by decide), false, rfl, iteF ?_⟩⟩
      refine ⟨_, rfl, .inl ⟨_, .ref (Cz 1), .type "NoneType", .ref (Cz 1), false, rfl, .own _, .base .non, T.kN 1 (by decide), false, rfl, iteF ?_⟩⟩
      refine ⟨_, rfl, .inl ⟨_, .ref (Cz 2), .type "NoneType", .ref (Cz 2), false, rfl, .own _, .base .non, T.kN 2 (by decide), false, rfl, iteF ?_⟩⟩
      refine ⟨_, rfl, .inl ⟨_, .ref (Cz 3), .type "NoneType", .ref (Cz 3), false, rfl, .own _, .base .non, T.kN 3 (by decide), false, rfl, iteF ?_⟩⟩
      refine ⟨_, rfl, .inl ⟨_, .ref (Cz 4), .type "NoneType", .ref (Cz 4), false, rfl, .own _, .base .non, T.kN 4 (by decide), false, rfl, iteF ?_⟩⟩
      refine ⟨_, rfl, .inl ⟨_, .ref (Cz 5), .type "NoneType", .ref (Cz 5), false, rfl, .own _, .base .non, T.kN 5 (by decide), false, rfl, iteF ?_⟩⟩
      exact ⟨_, rfl, rfl, true, rfl, iteT (hv H1 sl)⟩
/-- a def whose code object is known -/
structure FunC (K : PySem.W.Frag) (x qual : Str) (st : Stmt) (f c : Addr) (fd : FuncData) : Prop where
  ex : ∃ (oc : Value) (od : Option Addr) (kV doc pm : Value) (an : Option Addr) (ct : Value) (osl : Array (Option Value)), fd = PySem.W.fnOf x qual (defArgs st) (defBody st) (defScope st) .none kV doc pm an (.ref c) ct ∧ K.lookup f = some ⟨oc, od, .func fd, osl⟩ ∧ PySem.W.codeIn K (.ref c) qual = true
section
variable {P : Program} {w : World} {K : PySem.W.Frag} {mg : Str → Option Value} {base : Heap}
theorem FunC.ok {x qual : Str} {st : Stmt} {f c : Addr} {fd : FuncData} {N ps : List Str} {k : Nat} {sp : Sp} (F : FunC K x qual st f c fd) (S : FnScope N ps (defScope st)) (len : ∀ vs H Q E, sp vs H Q E → vs.length = ps.length)
    (body : ∀ (A : Around) (outer : List Env) (s : Shared) (H : Hp) (vs : List V) (Q : VK) (E : XK), Room k (A.deeper (envOfC qual (defScope st) s.heap.objs.size f (.ref c))) → sp vs H Q E →
      ∃ t, PSs (cxOf CX0 P w K mg base N qual (defScope st) f (.ref c) A outer s H E).nox (defBody st) t ∧ t { nx := fun _ H' => Q .non H', rt := Q } (L2.start N vs) H) : FnOk P w K mg base CX0 (k + 1) f fd ps sp := by
  obtain ⟨oc, od, kV, doc, pm, an, ct, osl, e, look, ci⟩ := F.ex
  subst e
  exact fn_of look ci S len fun A outer s H vs Q E room h => (body A outer s H vs Q E room h).imp fun t z => ⟨z.1.nox, z.2⟩
end
/-- what hears, by its name -/
structure HearD (K : PySem.W.Frag) (mg : Str → Option Value) (g : Addr) : Prop where
  hm : mg "_law_heard" = some (.ref g)
  kp : PySem.W.keepIn K (.ref g) = true
  lk : ∃ (oc : Value) (od : Option Addr) (kV doc pm : Value) (an : Option Addr) (cdv ct : Value) (osl : Array (Option Value)), K.lookup g = some ⟨oc, od, .func (PySem.W.fnOf "_law_heard" "_law_heard" (defArgs s_heard) (defBody s_heard) (defScope s_heard) .none kV doc pm an cdv ct), osl⟩ ∧ PySem.W.codeIn K cdv "_law_heard" = true
/-- the tables of code objects of those that make lambdas -/
structure TabT (base : Heap) (mg : Str → Option Value) (T : List (Addr × Str)) (q : Str) (c P : Addr) : Prop where
  tb : TabB base mg c P
  mem : (P, q ++ "<lambda>") ∈ T
  one : ∀ p ∈ T, p.1 = P → p.2 = q ++ "<lambda>"
section
variable {X : Cx} {CM CJ CE g c P : Addr} {Cz : Nat → Addr} {T : List (Addr × Str)} {j k : Nat} {params : Arguments} {body : Expr} {scope : Scope} {t : XK → TE} {p lpos pos : Pos} {qn : Str}
/-- what is heard of a lambda written where it is handed on -/
theorem pe_heardG (th : Th X.K X.mg CM CJ CE Cz) (D : HearD X.K X.mg g) (TB : TabT X.base X.mg T qn c P) (sys : SysIn X.base) (quiet : Quiet X.A) (hr : Room j X.A) (hj : k + 3 ≤ j) (hcode : X.env.code = .ref c) (hq : X.env.qual = qn) (hg : Gl X "_law_heard") (L : LamS X.env.scope scope) (hdef : defaultsOf params X.env = ([], []))
    (hbind : ∀ (q : Str) (cl : List (Str × Addr)) (pm cv ctv : Value), bindArgs (PySem.W.kla_fn "<lambda>" q params body scope cl pm cv ctv) ⟨[], []⟩ = pure [])
    (hbody : ∀ (A : Around) (outer : List Env) (s : Shared) (H : Hp) (E : XK) (f c' : Addr), Quiet A → Room k (A.deeper (lamEnv X scope s.heap.objs.size f c')) → PE (lamCx X A outer s H E scope f c') body (t E)) :
    PE X (.Call (.Name "_law_heard" p) [.Lambda params body scope lpos] [] pos) (tLamG T (TTheard Cz) t) := by
  obtain ⟨oc, od, kV, doc, pm, an, cdv, ct, osl, look, ci⟩ := D.lk
  refine pe_lamcallG (k := k) (Ng := n_heard) (a := "_law_ask") quiet hg D.hm D.kp look ci ?_ sc_heard rfl (.inl rfl) (heard_givesG th sys quiet fun s => ?_) TB.tb hcode (by rw [hq]; exact TB.mem) (by rw [hq]; exact TB.one) (hr.mono (by omega)) hdef ⟨L, hbind, hbody⟩
  · exact .all fun us hl => match us, hl with | [_], _ => rfl
  · exact (hr.mono (show 2 ≤ j by omega)).deeper _
end
end V8

set_option Elab.async false
set_option linter.all false
set_option maxRecDepth 100000
set_option maxHeartbeats 8000000
set_option pp.maxSteps 2000
/-! What the law asks of a value; what is due of a table with a key that is no text. -/
namespace V8
open PySem PySem.Spec PyProof.Rows L2 MX
abbrev s__law_is_word : Stmt := topS 40
abbrev n__law_is_word : List Str := ["_law_value", "_law_least", "_law_most", "_law_sign"]
theorem sc__law_is_word : FnScope ["_law_value", "_law_least", "_law_most", "_law_sign"] ["_law_value", "_law_least", "_law_most"] (defScope s__law_is_word) := ⟨rfl, rfl, rfl, by decide +kernel, rfl, by decide +kernel, by decide +kernel⟩
abbrev s__law_due : Stmt := topS 41
abbrev n__law_due : List Str := ["_law_shapes", "_law_stays", "_law_wrong", "_law_key", "_law_letter"]
theorem sc__law_due : FnScope ["_law_shapes", "_law_stays", "_law_wrong", "_law_key", "_law_letter"] ["_law_shapes", "_law_stays"] (defScope s__law_due) := ⟨rfl, rfl, rfl, by decide +kernel, rfl, by decide +kernel, by decide +kernel⟩
theorem eqv_nil (ds : List PyData) : (PyData.list ds).eqv (.list []) = ds.isEmpty := by
  cases ds with
  | nil => simp [PyData.eqv, PyData.eqvAll]
  | cons a r => simp [PyData.eqv, PyData.eqvAll]
theorem strOk_lt {z : Str} (h : ∀ c ∈ z.cps.toList, c < 128) : PyData.strOk z = true := by
  unfold PyData.strOk
  rw [← Array.all_toList, List.all_eq_true]
  intro c hc
  have := h c hc
  exact decide_eq_true (by omega)
theorem strOk_L1 {c : Nat} (h : c < 128) : PyData.strOk (L1 c) = true := strOk_lt fun d hd => by
  obtain rfl : d = c := by simpa [L1] using hd
  exact h
theorem lay_strs : ∀ cs : List Nat, (∀ c ∈ cs, c < 128) → PyData.canLayAll0 (cs.map fun c => PyData.str (L1 c)) = true
  | [], _ => rfl
  | c :: r, h => by
    have ih := lay_strs r fun d hd => h d (List.mem_cons_of_mem _ hd)
    rw [List.map_cons]
    simp only [PyData.canLayAll0, PyData.canLay0, strOk_L1 (h c List.mem_cons_self), Bool.true_and]
    exact ih
theorem depth_strs : ∀ cs : List Nat, PyData.depthAll (cs.map fun c => PyData.str (L1 c)) = 0
  | [] => by simp [PyData.depthAll]
  | c :: r => by
    have ih := depth_strs r
    rw [List.map_cons]
    simp only [PyData.depthAll, PyData.depth]
    omega
theorem shaped_of {d : PyData} (h : d.canLay0 = true) (h2 : d.depth ≤ 64) : SeqAt.shaped d = true := by
  show (d.canLay0 && decide (d.depth ≤ 64)) = true
  rw [h, decide_eq_true h2]
  rfl
theorem shaped_nil : SeqAt.shaped (.list []) = true := by decide
theorem dp_strs {K : PySem.W.Frag} {H : Hp} : ∀ cs : List Nat, DpAll K H (lets cs) (cs.map fun c => PyData.str (L1 c))
  | [] => .nil
  | c :: r => .cons (.str _) (dp_strs r)
mutual
theorem dp_py {K : PySem.W.Frag} {H : Hp} : ∀ {x : V} {d : PyData}, PyW H x d → d.canLay0 = true → Dp K H x d
  | _, _, .non, _ => .non
  | _, _, .bl b, _ => .bl b
  | _, _, .int i, _ => .int i
  | _, _, .str z, _ => .str z
  | _, _, .tup h r, l => .tup (.inl (.inl h)) (dp_pys r (by simpa only [PyData.canLay0] using l))
  | _, _, .lst h r, l => .lst (SqL.of h) (dp_pys r (by simpa only [PyData.canLay0] using l))
  | _, _, .dic h r, l => by simp [PyData.canLay0] at l
theorem dp_pys {K : PySem.W.Frag} {H : Hp} : ∀ {xs : List V} {ds : List PyData}, PyWs H xs ds → PyData.canLayAll0 ds = true → DpAll K H xs ds
  | _, _, .nil, _ => .nil
  | _, d :: ds, .cons h r, l => by
    have l2 : PyData.canLay0 d = true ∧ PyData.canLayAll0 ds = true := by simpa only [PyData.canLayAll0, Bool.and_eq_true] using l
    exact .cons (dp_py h l2.1) (dp_pys r l2.2)
end
theorem okL_filter (cs : List Nat) : (cs.filter fun c => !decide (isLt c)).isEmpty = okL cs := by
  unfold okL
  induction cs with
  | nil => rfl
  | cons c r ih =>
    rw [List.filter_cons, List.all_cons]
    by_cases h : isLt c
    · rw [decide_eq_true h]
      simpa using ih
    · rw [decide_eq_false h]
      rfl
theorem dp_pair {K : PySem.W.Frag} {H : Hp} {xs : List V} {ds : List PyData} (h : Paired (fun x d => Held H x d) xs ds) (l : ∀ d ∈ ds, d.canLay0 = true) : DpAll K H xs ds := by
  induction h with
  | nil => exact .nil
  | cons r _ ih => exact .cons (dp_py r.pw (l _ List.mem_cons_self)) (ih fun d hd => l d (List.mem_cons_of_mem _ hd))
theorem lay_all : ∀ {ds : List PyData}, (∀ d ∈ ds, d.canLay0 = true) → PyData.canLayAll0 ds = true
  | [], _ => rfl
  | d :: r, l => by
    simp only [PyData.canLayAll0, l d List.mem_cons_self, Bool.true_and]
    exact lay_all fun d hd => l d (List.mem_cons_of_mem _ hd)
theorem lay_pair {ds : List PyData} (l : ∀ d ∈ ds, d.canLay0 = true) : (PyData.list ds).canLay0 = true := by
  simp only [PyData.canLay0]
  exact lay_all l
theorem dep_all : ∀ {ds : List PyData}, (∀ d ∈ ds, d.depth ≤ 1) → PyData.depthAll ds ≤ 1
  | [], _ => by simp [PyData.depthAll]
  | d :: r, l => by
    have ih := dep_all fun d hd => l d (List.mem_cons_of_mem _ hd)
    have h0 := l d List.mem_cons_self
    simp only [PyData.depthAll]
    omega
theorem dep_pair {H : Hp} {xs : List V} {ds : List PyData} (h : Paired (fun x d => Held H x d) xs ds) : (PyData.list ds).depth ≤ 64 := by
  have l : ∀ d ∈ ds, d.depth ≤ 1 := by
    induction h with
    | nil => exact fun d hd => absurd hd List.not_mem_nil
    | cons r _ ih =>
      intro d hd
      rcases List.mem_cons.mp hd with rfl | hd
      · exact r.ni.dp
      · exact ih d hd
  have := dep_all l
  simp only [PyData.depth]
  omega
def spIsWord : Sp := fun vs H Q _ => ∃ x d, ∃ lo hi : Nat, vs = [x, .int lo, .int hi] ∧ PyW H x d ∧ (∀ z, d = .str z → z.length ≤ 2500 ∧ ∀ c ∈ z.cps.toList, c < 128) ∧ ∀ H2, Same H H2 → Q (.bl (wordD lo hi d)) H2
/-- what is heard of a table with a key that is no letter -/
def spDueM (w : World) : Sp := fun vs H Q _ => ∃ a y ks d, vs = [.ref a, y] ∧ TabM w H a ks ∧ ks.find? (fun d => !wordD 1 1 d) = some d ∧ ∀ v H2, Same H H2 → HrV H2 v (some (hearB (.one 1 d))) → Q v H2
section
variable {P : Program} {w : World} {K : PySem.W.Frag} {mg : Str → Option Value} {base : Heap} {CM CJ CE : Addr} {Cz : Nat → Addr}
theorem ok_is_word {f : Addr} {fd : FuncData} (F : Fun K "_law_is_word" "_law_is_word" s__law_is_word f fd) (T : Tx K mg CM CJ) : FnOk P w K mg base CX0 1 f fd ["_law_value", "_law_least", "_law_most"] spIsWord := by
  refine F.ok sc__law_is_word (fun vs H Q E h => ?_) (fun cdv A outer s H vs Q E hr h => ?_)
  · obtain ⟨x, d, lo, hi, rfl, _⟩ := h
    rfl
  · obtain ⟨x, d, lo, hi, rfl, p, tx, q⟩ := h
    refine ⟨_, (pss_cons (ps_if (PW.pt (pw_or (pt_not (pt_val (pe_callB call_isi (by rfl) T.isinstance (by decide +kernel) (pa_cons (pv 0) (pa_cons (pe_bltn (v := .ty "str") (by rfl) T.str (by decide +kernel) rfl) pa_nil))))) (pw_or1 (pt_not (pt_chain op_le op_le (pv 1) (pe_callB call_len_str (by rfl) T.len (by decide +kernel) (pa_cons (pv 0) pa_nil)) (pv 2))))))
        (pss_one (ps_ret pe_bl))
        pss_nil)
      (pss_one (ps_ret (pe_cmpR (op_eqDK (K := K) rfl hr.units) (pe_lc (own := [("_law_sign", 3)]) (g := gName 3) (by rfl) sc__law_is_word.nd (pi_str (pv 0)) (blkOk_by (own := [("_law_sign", 3)]) (N := n__law_is_word) (sc := defScope s__law_is_word) (by decide +kernel)) (fun _ _ _ _ _ => (pg_name (i := 3) sc__law_is_word.nd rfl (.inl rfl))) (fun _ _ _ _ _ => (pts_one (pt_cmpR op_notIn_sign (pv 3) pe_str rfl))) (fun _ _ _ _ _ => (pv 3))) (pe_lst pa_nil) (nomark _))))), ?_⟩
    rcases pw_kind (K := K) p with ⟨z, rfl, rfl⟩ | ⟨n, t, ty, k⟩
    · obtain ⟨l3, l4⟩ := tx z rfl
      have hz : z.length ≤ sizeLine := by rw [sizeLine_eq]; omega
      have q' : ∀ H2, Same H H2 → Q (.bl (decide (lo ≤ z.length) && decide (z.length ≤ hi) && okL z.cps.toList)) H2 := q
      refine ⟨_, rfl, _, .ty "str", .type "str", .type "str", true, rfl, .ty _, ty_str _, kit_ty (by decide +kernel), true, rfl, ?_⟩
      refine ⟨_, rfl, _, rfl, z, rfl, hz, _, _, rfl, rfl, decide ((lo : Int) ≤ (z.length : Int)), rfl, ?_⟩
      by_cases g1 : lo ≤ z.length
      · rw [decide_eq_true (show (lo : Int) ≤ (z.length : Int) by omega)]
        rw [decide_eq_true g1, Bool.true_and] at q'
        refine ⟨_, rfl, _, _, rfl, rfl, decide ((z.length : Int) ≤ (hi : Int)), rfl, ?_⟩
        by_cases g2 : z.length ≤ hi
        · rw [decide_eq_true (show (z.length : Int) ≤ (hi : Int) by omega)]
          rw [decide_eq_true g2, Bool.true_and] at q'
          refine iteF ?_
          have bl : ∀ i, (lets ((z.cps.toList.take i).filter fun c => !decide (isLt c))).length ≤ 2500 := fun i => by
            rw [lets_len]
            have a1 := List.length_filter_le (fun c => !decide (isLt c)) (z.cps.toList.take i)
            have a2 : (z.cps.toList.take i).length ≤ z.cps.toList.length := by rw [List.length_take]; omega
            rw [len_self] at a2
            omega
          refine ⟨_, rfl, z, rfl, fun D nD => lc_it walk_str (fun i H2 => H2 = upd H D (.lst (lets ((z.cps.toList.take i).filter fun c => !decide (isLt c))))) rfl (fun _ _ _ _ => trivial) ?_ ?_⟩
          · rintro i x H2 H2' hi rfl ⟨rfl, c, hc, rfl⟩
            have hc' : z.cps.toList[i]? = some c := by simpa using hc
            have st : (z.cps.toList.take (i + 1)).filter (fun c => !decide (isLt c)) = (z.cps.toList.take i).filter (fun c => !decide (isLt c)) ++ (if isLt c then [] else [c]) := by
              rw [List.take_add_one, hc', List.filter_append]
              congr 1
              show List.filter _ [c] = _
              rw [List.filter_cons]
              by_cases e : isLt c
              · rw [decide_eq_true e, if_pos e]; rfl
              · rw [decide_eq_false e, if_neg e]; rfl
            refine ⟨rfl, _, rfl, c, abcS, rfl, rfl, ?_⟩
            rw [abcS_cps]
            by_cases e : isLt c
            · rw [decide_eq_true (abc_mem.mpr e)]
              refine ⟨false, rfl, iteF ?_⟩
              rw [if_pos e, List.append_nil] at st
              rw [st]
            · rw [decide_eq_false (fun h => e (abc_mem.mp h))]
              refine ⟨true, rfl, iteT ⟨_, rfl, _, upd_same, ?_, ?_⟩⟩
              · exact Nat.lt_of_le_of_lt (bl i) (by rw [sizeLine_eq]; decide)
              · rw [if_neg e] at st
                rw [upd_upd, st, lets_snoc]
                rfl
          · rintro H2 rfl
            have ln : (z.cps.toList.take z.cps.size) = z.cps.toList := List.take_of_length_le (by simp)
            rw [ln]
            refine ⟨Nat.zero_le _, fun o no => ?_⟩
            have hDo : D ≠ o := ne_of_none upd_same no
            have fl : ∀ c ∈ z.cps.toList.filter (fun c => !decide (isLt c)), c < 128 := fun c hc => l4 c (List.mem_filter.mp hc).1
            refine ⟨_, _, .lst (SqL.of (by rw [upd_ne hDo]; exact upd_same)) (dp_strs _), .lst (SqL.of upd_same) .nil, shaped_of (by simp only [PyData.canLay0]; exact lay_strs _ fl) (by simp only [PyData.depth, depth_strs]; omega), shaped_nil, ?_⟩
            rw [eqv_nil]
            have e : (List.map (fun c => PyData.str (L1 c)) (z.cps.toList.filter fun c => !decide (isLt c))).isEmpty = okL z.cps.toList := by
              rw [List.isEmpty_map, okL_filter]
            rw [e]
            exact q' _ (same_put (s := same_put (s := Same.refl H) nD) no)
        · rw [decide_eq_false (show ¬ (z.length : Int) ≤ (hi : Int) by omega)]
          rw [decide_eq_false g2, Bool.false_and] at q'
          exact iteT (q' H (Same.refl H))
      · rw [decide_eq_false (show ¬ (lo : Int) ≤ (z.length : Int) by omega)]
        rw [decide_eq_false g1, Bool.false_and, Bool.false_and] at q'
        exact ⟨false, rfl, iteT (q' H (Same.refl H))⟩
    · refine ⟨_, rfl, _, .ty "str", t, .type "str", false, rfl, .ty _, ty, k, false, rfl, ?_⟩
      have q2 := q H (Same.refl H)
      rw [n] at q2
      exact iteT q2
theorem ok_dueM {f : Addr} {fd : FuncData} (F : Fun K "_law_due" "_law_due" s__law_due f fd) (T : Th K mg CM CJ CE Cz) (sys : SysIn base) (D_is_word : Df P w K mg base 1 "_law_is_word" spIsWord) : FnG P w K mg base CX0 3 f fd ["_law_shapes", "_law_stays"] (spDueM w) := by
  refine F.okG sc__law_due (fun vs H Q E h => ?_) (fun cdv A outer s H vs Q E quiet hr h => ?_)
  · obtain ⟨a, y, ks, d, rfl, _⟩ := h
    rfl
  · obtain ⟨a, y, ks, d, rfl, ⟨⟨kvs, m, pr⟩, few, lay⟩, fn, q⟩ := h
    refine ⟨_, (pss_cons (ps_lock (ps_setLc (i := 2) (own := [("_law_key", 3)]) (g := gName 3) (by rfl) sc__law_due.nd rfl rfl (sw_true rfl rfl rfl (by decide +kernel)) (pi_keysX (pv 0)) (blkOk_by (own := [("_law_key", 3)]) (N := n__law_due) (sc := defScope s__law_due) (by decide +kernel)) (fun _ _ _ _ _ => (pg_name (i := 3) sc__law_due.nd rfl (.inl rfl))) (fun _ _ _ _ _ => (pts_one (pt_not (pt_val (pe_c D_is_word hr (by decide) (by rfl) (pa_cons (pv 3) (pa_cons pe_int (pa_cons pe_int pa_nil)))))))) (fun _ _ _ _ _ => (pv 3))))
      (pss_cons (ps_if (pt_cmpR (op_neDK (K := K) rfl hr.units) (pv 2) (pe_lst pa_nil) (nomark _))
        (pss_one (ps_ret (pe_lst (pa_cons pe_str (pa_cons (pe_callB (call_reprW sys quiet hr) (by rfl) T.repr (by decide +kernel) (pa_cons (pe_ix (ix_listK (K := K) rfl) (pv 2) pe_int (fun _ _ => rfl)) pa_nil)) pa_nil)))))
        pss_nil)
      (pss_cons (ps_set (i := 2) sc__law_due.nd rfl (.inl rfl) (pe_callB cr_sortedS (by rfl) T.sorted (by decide +kernel) (pa_cons (pe_lock (pe_lc (own := [("_law_key", 3)]) (g := gName 3) (by rfl) sc__law_due.nd (pi_keysX (pv 0)) (blkOk_by (own := [("_law_key", 3)]) (N := n__law_due) (sc := defScope s__law_due) (by decide +kernel)) (fun _ _ _ _ _ => (pg_name (i := 3) sc__law_due.nd rfl (.inl rfl))) (fun _ _ _ _ _ => (pts_one (pt_not (pt_val (pe_c D_is_word hr (by decide) (by rfl) (pa_cons (pe_dget (hu_of hr) (pv 0) (pv 3) (fun _ _ => rfl)) (pa_cons pe_int (pa_cons pe_int pa_nil)))))))) (fun _ _ _ _ _ => (pe_callTy call_strS (by rfl) T.str (by decide +kernel) (pa_cons (pv 3) pa_nil))))) pa_nil)))
      (pss_cons (ps_if (pt_cmpR (op_neDK (K := K) rfl hr.units) (pv 2) (pe_lst pa_nil) (nomark _))
        (pss_one (ps_ret (pe_lst (pa_cons pe_str (pa_cons (pe_callB (call_reprW sys quiet hr) (by rfl) T.repr (by decide +kernel) (pa_cons (pe_ix (ix_listK (K := K) rfl) (pv 2) pe_int (fun _ _ => rfl)) pa_nil)) pa_nil)))))
        pss_nil)
      (pss_cons (ps_if (pt_not (pt_val (pe_c D_is_word hr (by decide) (by rfl) (pa_cons (pv 1) (pa_cons pe_int (pa_cons pe_int pa_nil))))))
        (pss_one (ps_ret (pe_lst (pa_cons pe_str (pa_cons (pe_callB (call_reprW sys quiet hr) (by rfl) T.repr (by decide +kernel) (pa_cons (pv 1) pa_nil)) pa_nil)))))
        pss_nil)
      (pss_one (ps_ret (pe_ifExp (pt_cmpR op_gt (pe_lenSetS rfl (by rfl) T.len (by rfl) T.set (pe_lc (own := [("_law_letter", 4)]) (g := gName 4) (by rfl) sc__law_due.nd (pi_list (pe_op op_cat (pe_callTy (call_listD rfl) (by rfl) T.list (by decide +kernel) (pa_cons (pv 0) pa_nil)) (pe_callTy (call_listS rfl) (by rfl) T.list (by decide +kernel) (pa_cons (pv 1) pa_nil)))) (blkOk_by (own := [("_law_letter", 4)]) (N := n__law_due) (sc := defScope s__law_due) (by decide +kernel)) (fun _ _ _ _ _ => (pg_name (i := 4) sc__law_due.nd rfl (.inl rfl))) (fun _ _ _ _ _ => pts_nil) (fun _ _ _ _ _ => (pe_callTy call_strS (by rfl) T.str (by decide +kernel) (pa_cons (pv 4) pa_nil))))) pe_int (nomark _)) (pe_lst (pa_cons pe_str (pa_cons pe_str pa_nil))) pe_non)))))))), ?_⟩
    refine ⟨a, _, m.at_, True.intro, fun od => ⟨_, rfl, a, od, kvs, rfl, upd_same, fun D nD => lc_it (walk_keysM (w := w) (d := a) (o := od) (kvs := kvs)) (fun i H2 => H2 a = some (.frz od (MixO w a kvs)) ∧ (∀ b o, H b = some o → b ≠ a → H2 b = some o) ∧ ∃ xs ds, H2 D = some (.lst xs) ∧ xs.length ≤ i ∧ ds = (ks.take i).filter (fun d => !wordD 1 1 d) ∧ Paired (fun x d => Held H x d) xs ds) ?_ ?_ ?_ ?_⟩⟩
    · have aD : a ≠ D := ne_of_none (show upd H a (.frz od (MixO w a kvs)) a = _ from upd_same) nD
      refine ⟨by rw [upd_ne aD]; exact upd_same, fun b o e nb => ?_, [], [], upd_same, Nat.le_refl _, by simp, .nil⟩
      have e2 : upd H a (.frz od (MixO w a kvs)) b = some o := by rw [upd_ne nb]; exact e
      rw [upd_ne (ne_of_none e2 nD)]
      exact e2
    · rintro i H2 hi ⟨hf, _⟩
      exact hf
    · rintro i x H2 H3 hi ⟨hf, kp, xs, ds, hD, l, e, pr2⟩ ⟨rfl, k, v, hk⟩
      have e0 := pair_len pr
      obtain ⟨d2, hd2, hh⟩ := pair_get pr hk
      have ne : ∀ b, x = .ref b → b ≠ a := fun b e z => by
        have kv := m.keys _ (List.mem_of_getElem? hk)
        dsimp only at kv
        rw [e] at kv
        cases kv with
        | flat g => cases g
        | tup ht _ =>
          rw [z, m.at_] at ht
          cases ht
      have hh2 : Held H3 x d2 := held_move hh fun b o e h => kp b o h (ne b e)
      have st : (ks.take (i + 1)).filter (fun d => !wordD 1 1 d) = (ks.take i).filter (fun d => !wordD 1 1 d) ++ (if wordD 1 1 d2 = true then [] else [d2]) := by
        rw [List.take_add_one, hd2, List.filter_append]
        congr 1
        show List.filter _ [d2] = _
        rw [List.filter_cons]
        cases wordD 1 1 d2 <;> rfl
      refine ⟨rfl, _, rfl, x, d2, 1, 1, rfl, hh2.pw, hh2.ni.tx, fun H4 s4 => ?_⟩
      have kp4 : ∀ b o, H b = some o → b ≠ a → H4 b = some o := fun b o e nb => s4 _ _ (kp b o e nb)
      cases e3 : wordD 1 1 d2 with
      | true =>
        rw [e3, if_pos rfl, List.append_nil] at st
        exact ⟨true, rfl, iteF ⟨s4 _ _ hf, kp4, xs, ds, s4 _ _ hD, by omega, by rw [st]; exact e, pr2⟩⟩
      | false =>
        rw [e3, if_neg Bool.false_ne_true] at st
        have aD : D ≠ a := ne_of hD hf (fun z => nomatch z)
        have DH : H D = none := by
          cases z : H D with
          | none => rfl
          | some o =>
            rw [upd_ne aD, z] at nD
            cases nD
        refine ⟨false, rfl, iteT ⟨_, rfl, xs, s4 _ _ hD, by rw [sizeLine_eq]; omega, ?_, ?_, xs ++ [x], ds ++ [d2], upd_same, by rw [List.length_append]; exact Nat.succ_le_succ l, by rw [st, e], pr2.snoc hh⟩⟩
        · rw [upd_ne (Ne.symm aD)]
          exact s4 _ _ hf
        · intro b o e nb
          rw [upd_ne (ne_of_none e DH)]
          exact kp4 b o e nb
    · rintro H2 ⟨hf, kp, xs, ds, hD, l, e, pr2⟩
      have e0 := pair_len pr
      rw [List.take_of_length_le (by omega)] at e
      have hh : ds.head? = some d := by rw [e, List.head?_filter]; exact fn
      have DH : D ≠ a := ne_of hD hf (fun z => nomatch z)
      have s3 : Same H (upd H2 a (MixO w a kvs)) := fun b o z => by
        by_cases hb : b = a
        · rw [hb, upd_same]
          rw [hb, m.at_] at z
          exact z
        · rw [upd_ne hb]
          exact kp b o z hb
      have hD3 : upd H2 a (MixO w a kvs) D = some (.lst xs) := by rw [upd_ne DH]; exact hD
      have lay2 : ∀ d ∈ ds, d.canLay0 = true := fun d hd => lay d (List.mem_filter.mp (e ▸ hd)).1
      refine ⟨hf, ?_⟩
      generalize upd H2 a (MixO w a kvs) = H3 at s3 hD3 ⊢
      have pr3 : Paired (fun x d => Held H3 x d) xs ds := pair_imp pr2 fun _ _ z => z.same s3
      refine ⟨_, rfl, Nat.zero_le _, fun o no => ?_⟩
      have s4 := same_put (s := Same.refl H3) (o := .lst []) no
      have pr4 : Paired (fun x d => Held (upd H3 o (.lst [])) x d) xs ds := pair_imp pr3 fun _ _ z => z.same s4
      refine ⟨_, _, .lst (SqL.of (s4 _ _ hD3)) (dp_pair pr4 lay2), .lst (SqL.of upd_same) .nil, shaped_of (lay_pair lay2) (dep_pair pr4), shaped_nil, _, rfl, ?_⟩
      rw [eqv_nil]
      match xs, ds, pr4, hh, hD3 with
      | [], [], _, hh, _ => exact nomatch hh
      | x0 :: xr, d0 :: dr, .cons h0 hr0, hh, hD3 =>
        obtain rfl : d0 = d := by simpa using hh
        refine iteT ⟨_, rfl, D, x0 :: xr, 0, x0, rfl, rfl, SqL.of (s4 _ _ hD3), atI_nat (j := 0) rfl, x0, d0, rfl, h0.pw, h0.ni.te, by show 2 ≤ sizeLine; decide, fun l1 nl1 => ?_⟩
        exact q _ _ (fun b o e => same_put (s := s4) nl1 _ _ (s3 _ _ e)) ⟨l1, rfl, upd_same⟩
end
end V8

set_option Elab.async false
set_option linter.all false
set_option maxRecDepth 100000
set_option maxHeartbeats 8000000
set_option pp.maxSteps 2000
/-! What is due of a table whose keys are texts and integers. -/
namespace V8
open PySem PySem.Spec PyProof.Rows L2 MX SetT
def keyS : Key → Str
  | .inl _ => Str.empty
  | .inr z => z
def txS : PyData → List Nat
  | .str z => z.cps.toList
  | _ => []
def cntD (dt : Dt) (st : PyData) : Nat := (uqs (dt.map (fun q => keyS q.1) ++ (txS st).map L1)).length
def dueO (dt : Dt) (st : PyData) : Option (Str × Str) := match toldD dt st with
  | some b => some (hearB b)
  | none => if 12 < cntD dt st then some ("letters", "12") else none
def spDueK : Sp := fun vs H Q _ => ∃ a y dt st, vs = [.ref a, y] ∧ TabA H a dt ∧ Held H y st ∧ ∀ v H2, Same H H2 → HrV H2 v (dueO dt st) → Q v H2
theorem lt_one (a b : Nat) : ltCps [a] [b] = decide (a < b) := by
  simp [ltCps]
theorem rise_min : ∀ (cs : List Nat) (p : Nat), risingS (L1 p) (cs.map L1) = true → ∀ c ∈ cs, p ≤ c
  | [], _, _, c, hc => absurd hc List.not_mem_nil
  | x :: r, p, h, c, hc => by
    have h2 : (!ltCps [x] [p] && risingS (L1 x) (r.map L1)) = true := h
    rw [Bool.and_eq_true, lt_one] at h2
    obtain ⟨h3, h4⟩ := h2
    have px : p ≤ x := by
      have : ¬ x < p := by simpa using h3
      omega
    rcases List.mem_cons.mp hc with rfl | hc
    · exact px
    · exact Nat.le_trans px (rise_min r x h4 c hc)
theorem find_least {f : Nat → Bool} {c : Nat} : ∀ {l : List Nat}, l.Pairwise (· < ·) → c ∈ l → f c = true → (∀ d ∈ l, f d = true → c ≤ d) → l.find? f = some c
  | [], _, hc, _, _ => absurd hc List.not_mem_nil
  | a :: l, pw, hc, hf, hm => by
    rw [List.find?_cons]
    have p2 := List.pairwise_cons.mp pw
    cases e : f a with
    | true =>
      have := hm a List.mem_cons_self e
      rcases List.mem_cons.mp hc with rfl | h
      · rfl
      · have := p2.1 c h
        omega
    | false =>
      rcases List.mem_cons.mp hc with rfl | h
      · rw [hf] at e
        cases e
      · exact find_least p2.2 h hf fun d hd => hm d (List.mem_cons_of_mem _ hd)
theorem abc_pw : abc.Pairwise (· < ·) := by decide
theorem all_L1 : ∀ {ys : List Str}, (∀ y ∈ ys, ∃ c, y = L1 c) → ∃ cs : List Nat, ys = cs.map L1
  | [], _ => ⟨[], rfl⟩
  | y :: r, h => by
    obtain ⟨c, rfl⟩ := h y List.mem_cons_self
    obtain ⟨cs, e⟩ := all_L1 fun z hz => h z (List.mem_cons_of_mem _ hz)
    exact ⟨c :: cs, by rw [e]; rfl⟩
theorem least_first {cs : List Nat} {ys : List Str} {f : Nat → Bool} (pm : ys.Perm ((cs.filter f).map L1)) (so : sortedS ys = true) (hcs : ∀ c ∈ cs, c ∈ abc) (hf : ∀ c ∈ abc, f c = true → c ∈ cs) :
    (ys = [] ∧ abc.find? f = none) ∨ ∃ c rest, ys = L1 c :: rest ∧ abc.find? f = some c := by
  have of : ∀ y ∈ ys, ∃ c, y = L1 c := fun y hy => by
    obtain ⟨c, _, e⟩ := List.mem_map.mp (pm.mem_iff.mp hy)
    exact ⟨c, e.symm⟩
  have into : ∀ c ∈ abc, f c = true → L1 c ∈ ys := fun c hc e => pm.mem_iff.mpr (List.mem_map.mpr ⟨c, List.mem_filter.mpr ⟨hf c hc e, e⟩, rfl⟩)
  match ys, pm, so, of, into with
  | [], _, _, _, into =>
    refine .inl ⟨rfl, find_no fun c hc => ?_⟩
    cases e : f c with
    | false => rfl
    | true => exact absurd (into c hc e) List.not_mem_nil
  | y0 :: r, pm, so, of, into =>
    obtain ⟨c0, hc0, e0⟩ := List.mem_map.mp (pm.mem_iff.mp List.mem_cons_self)
    obtain ⟨rs, rfl⟩ := all_L1 fun y hy => of y (List.mem_cons_of_mem _ hy)
    subst e0
    have mn := rise_min rs c0 so
    obtain ⟨h1, h2⟩ := List.mem_filter.mp hc0
    refine .inr ⟨c0, _, rfl, find_least abc_pw (hcs _ h1) h2 fun d hd e => ?_⟩
    rcases List.mem_cons.mp (into d hd e) with z | z
    · rw [L1_inj z]
      exact Nat.le_refl _
    · obtain ⟨d2, hd2, e2⟩ := List.mem_map.mp z
      rw [← L1_inj e2]
      exact mn d2 hd2
def keyBad (dt : Dt) (k : Key) : Bool := match atD dt k with
  | some d => !wordD 1 4 d
  | none => false
theorem keyOk_let {k : Key} (h : keyOk k = true) : ∃ c ∈ abc, k = .inr (L1 c) := by
  cases k with
  | inl i => cases h
  | inr z =>
    obtain ⟨c, hc, rfl⟩ := word_let.mp h
    exact ⟨c, hc, rfl⟩
theorem keys_let : ∀ {ks : List Key}, (∀ k ∈ ks, keyOk k = true) → ∃ cs : List Nat, ks = cs.map (fun c => Sum.inr (L1 c)) ∧ ∀ c ∈ cs, c ∈ abc
  | [], _ => ⟨[], rfl, fun c hc => absurd hc List.not_mem_nil⟩
  | k :: r, h => by
    obtain ⟨c, hc, rfl⟩ := keyOk_let (h k List.mem_cons_self)
    obtain ⟨cs, e, l⟩ := keys_let fun k hk => h k (List.mem_cons_of_mem _ hk)
    refine ⟨c :: cs, by rw [e]; rfl, fun d hd => ?_⟩
    rcases List.mem_cons.mp hd with rfl | hd
    · exact hc
    · exact l d hd
theorem atD_key {dt : Dt} {k : Key} {d : PyData} (h : atD dt k = some d) : k ∈ dt.map (·.1) := by
  unfold atD at h
  cases e : dt.find? (fun q => decide (q.1 = k)) with
  | none =>
    rw [e] at h
    cases h
  | some q =>
    have h1 := List.find?_some e
    exact List.mem_map.mpr ⟨q, List.mem_of_find?_eq_some e, by simpa using h1⟩
theorem not_self {H : Hp} {a : Addr} {kvs : List (Key × V)} {i : Nat} {k : Key} {v : V} {d : PyData} (ha : H a = some (.dK kvs)) (hk : kvs[i]? = some (k, v)) (h : Held H v d) : ∀ b, v = .ref b → b ≠ a := fun b e z => by
  subst z
  subst e
  have noflat : ¬ Flat (.ref b) := by
    rintro (⟨z, e⟩ | ⟨i, e⟩ | e | ⟨b, e⟩) <;> cases e
  rcases h.tl with f | ⟨c, xs, e, hb, l, g⟩ | ⟨c, kvs2, e, hb, l, n, g⟩
  · exact noflat f
  · cases e
    rcases hb with hb | hb <;> rw [ha] at hb <;> cases hb
  · cases e
    rw [ha] at hb
    cases hb
    exact noflat (g _ (List.mem_map.mpr ⟨(k, _), List.mem_of_getElem? hk, rfl⟩))
theorem filt_snoc {α : Type} {p : α → Bool} {l : List α} {i : Nat} {x : α} (h : l[i]? = some x) : (l.take (i + 1)).filter p = (l.take i).filter p ++ (if p x = true then [x] else []) := by
  rw [List.take_add_one, h, List.filter_append]
  congr 1
  show List.filter _ [x] = _
  rw [List.filter_cons]
  cases p x <;> rfl
theorem pair_keys {H : Hp} {kvs : List (Key × V)} {dt : Dt} (h : Paired (fun (p : Key × V) (q : Key × PyData) => p.1 = q.1 ∧ Held H p.2 q.2) kvs dt) : kvs.map (·.1) = dt.map (·.1) := by
  induction h with
  | nil => rfl
  | cons r _ ih => rw [List.map_cons, List.map_cons, r.1, ih]
theorem dp_keys {K : PySem.W.Frag} {H : Hp} : ∀ ks : List Key, DpAll K H (ks.map kV) (ks.map keyD)
  | [] => .nil
  | k :: r => .cons (by cases k with | inl i => exact .int i | inr z => exact .str z) (dp_keys r)
theorem dp_texts {K : PySem.W.Frag} {H : Hp} : ∀ ks : List Str, DpAll K H (ks.map V.str) (ks.map PyData.str)
  | [] => .nil
  | k :: r => .cons (.str k) (dp_texts r)
theorem lay_nice {d : PyData} (n : NiceD d) (h : ∀ z, d ≠ .str z → d.canLay0 = true) : d.canLay0 = true := by
  cases d with
  | str z =>
    simp only [PyData.canLay0]
    exact strOk_lt (n.tx z rfl).2
  | none => exact h Str.empty (fun z => nomatch z)
  | bool b => exact h Str.empty (fun z => nomatch z)
  | int i => exact h Str.empty (fun z => nomatch z)
  | list l => exact h Str.empty (fun z => nomatch z)
  | tuple l => exact h Str.empty (fun z => nomatch z)
  | dict l => exact h Str.empty (fun z => nomatch z)
theorem lay_key {k : Key} (n : NiceD (keyD k)) : (keyD k).canLay0 = true := by
  cases k with
  | inl i => rfl
  | inr z =>
    show (PyData.str z).canLay0 = true
    simp only [PyData.canLay0]
    exact strOk_lt (n.tx z rfl).2
theorem dep_key (k : Key) : (keyD k).depth = 0 := by cases k <;> simp [keyD, PyData.depth]
theorem dep_list {ds : List PyData} (h : ∀ d ∈ ds, d.depth ≤ 1) : (PyData.list ds).depth ≤ 64 := by
  have := dep_all h
  simp only [PyData.depth]
  omega
section
variable {P : Program} {w : World} {K : PySem.W.Frag} {mg : Str → Option Value} {base : Heap} {CM CJ CE : Addr} {Cz : Nat → Addr}
theorem ok_dueK {f : Addr} {fd : FuncData} (F : Fun K "_law_due" "_law_due" s__law_due f fd) (T : Th K mg CM CJ CE Cz) (sys : SysIn base) (D_is_word : Df P w K mg base 1 "_law_is_word" spIsWord) : FnG P w K mg base CX0 3 f fd ["_law_shapes", "_law_stays"] spDueK := by
  refine F.okG sc__law_due (fun vs H Q E h => ?_) (fun cdv A outer s H vs Q E quiet hr h => ?_)
  · obtain ⟨a, y, dt, st, rfl, _⟩ := h
    rfl
  · obtain ⟨a, y, dt, st, rfl, ⟨⟨kvs, ha, pr⟩, nd, few, tx⟩, hy, q⟩ := h
    refine ⟨_, (pss_cons (ps_lock (ps_setLc (i := 2) (own := [("_law_key", 3)]) (g := gName 3) (by rfl) sc__law_due.nd rfl rfl (sw_true rfl rfl rfl (by decide +kernel)) (pi_keys (pv 0)) (blkOk_by (own := [("_law_key", 3)]) (N := n__law_due) (sc := defScope s__law_due) (by decide +kernel)) (fun _ _ _ _ _ => (pg_name (i := 3) sc__law_due.nd rfl (.inl rfl))) (fun _ _ _ _ _ => (pts_one (pt_not (pt_val (pe_c D_is_word hr (by decide) (by rfl) (pa_cons (pv 3) (pa_cons pe_int (pa_cons pe_int pa_nil)))))))) (fun _ _ _ _ _ => (pv 3))))
      (pss_cons (ps_if (pt_cmpR (op_neDK (K := K) rfl hr.units) (pv 2) (pe_lst pa_nil) (nomark _))
        (pss_one (ps_ret (pe_lst (pa_cons pe_str (pa_cons (pe_callB (call_reprW sys quiet hr) (by rfl) T.repr (by decide +kernel) (pa_cons (pe_ix (ix_listK (K := K) rfl) (pv 2) pe_int (fun _ _ => rfl)) pa_nil)) pa_nil)))))
        pss_nil)
      (pss_cons (ps_set (i := 2) sc__law_due.nd rfl (.inl rfl) (pe_callB cr_sortedS (by rfl) T.sorted (by decide +kernel) (pa_cons (pe_lock (pe_lc (own := [("_law_key", 3)]) (g := gName 3) (by rfl) sc__law_due.nd (pi_keys (pv 0)) (blkOk_by (own := [("_law_key", 3)]) (N := n__law_due) (sc := defScope s__law_due) (by decide +kernel)) (fun _ _ _ _ _ => (pg_name (i := 3) sc__law_due.nd rfl (.inl rfl))) (fun _ _ _ _ _ => (pts_one (pt_not (pt_val (pe_c D_is_word hr (by decide) (by rfl) (pa_cons (pe_dget (hu_of hr) (pv 0) (pv 3) (fun _ _ => rfl)) (pa_cons pe_int (pa_cons pe_int pa_nil)))))))) (fun _ _ _ _ _ => (pe_callTy call_strS (by rfl) T.str (by decide +kernel) (pa_cons (pv 3) pa_nil))))) pa_nil)))
      (pss_cons (ps_if (pt_cmpR (op_neDK (K := K) rfl hr.units) (pv 2) (pe_lst pa_nil) (nomark _))
        (pss_one (ps_ret (pe_lst (pa_cons pe_str (pa_cons (pe_callB (call_reprW sys quiet hr) (by rfl) T.repr (by decide +kernel) (pa_cons (pe_ix (ix_listK (K := K) rfl) (pv 2) pe_int (fun _ _ => rfl)) pa_nil)) pa_nil)))))
        pss_nil)
      (pss_cons (ps_if (pt_not (pt_val (pe_c D_is_word hr (by decide) (by rfl) (pa_cons (pv 1) (pa_cons pe_int (pa_cons pe_int pa_nil))))))
        (pss_one (ps_ret (pe_lst (pa_cons pe_str (pa_cons (pe_callB (call_reprW sys quiet hr) (by rfl) T.repr (by decide +kernel) (pa_cons (pv 1) pa_nil)) pa_nil)))))
        pss_nil)
      (pss_one (ps_ret (pe_ifExp (pt_cmpR op_gt (pe_lenSetS rfl (by rfl) T.len (by rfl) T.set (pe_lc (own := [("_law_letter", 4)]) (g := gName 4) (by rfl) sc__law_due.nd (pi_list (pe_op op_cat (pe_callTy (call_listD rfl) (by rfl) T.list (by decide +kernel) (pa_cons (pv 0) pa_nil)) (pe_callTy (call_listS rfl) (by rfl) T.list (by decide +kernel) (pa_cons (pv 1) pa_nil)))) (blkOk_by (own := [("_law_letter", 4)]) (N := n__law_due) (sc := defScope s__law_due) (by decide +kernel)) (fun _ _ _ _ _ => (pg_name (i := 4) sc__law_due.nd rfl (.inl rfl))) (fun _ _ _ _ _ => pts_nil) (fun _ _ _ _ _ => (pe_callTy call_strS (by rfl) T.str (by decide +kernel) (pa_cons (pv 4) pa_nil))))) pe_int (nomark _)) (pe_lst (pa_cons pe_str (pa_cons pe_str pa_nil))) pe_non)))))))), ?_⟩
    have e0 := pair_len pr
    -- what stands while the dict is gone over
    have back : ∀ {H2 : Hp}, (∀ b o, H b = some o → b ≠ a → H2 b = some o) → Same H (upd H2 a (.dK kvs)) := fun {H2} kp b o z => by
      by_cases hb : b = a
      · rw [hb, upd_same]
        rw [hb, ha] at z
        exact z
      · rw [upd_ne hb]
        exact kp b o z hb
    have start : ∀ {od : Obj} {H0 : Hp} {D : Addr}, H0 a = some (.dK kvs) → Same H H0 → upd H0 a (.frz od (.dK kvs)) D = none → upd (upd H0 a (.frz od (.dK kvs))) D (.lst []) a = some (.frz od (.dK kvs)) ∧ (∀ b o, H b = some o → b ≠ a → upd (upd H0 a (.frz od (.dK kvs))) D (.lst []) b = some o) := fun {od H0 D} h0 s0 nD => by
      have aD : a ≠ D := ne_of_none (show upd H0 a (.frz od (.dK kvs)) a = _ from upd_same) nD
      refine ⟨by rw [upd_ne aD]; exact upd_same, fun b o e nb => ?_⟩
      have e2 : upd H0 a (.frz od (.dK kvs)) b = some o := by rw [upd_ne nb]; exact s0 _ _ e
      rw [upd_ne (ne_of_none e2 nD)]
      exact e2
    refine ⟨a, _, ha, True.intro, fun od => ⟨_, rfl, a, od, rfl, .inl ⟨_, upd_same, fun D nD => lc_it walk_keys (fun i H2 => H2 a = some (.frz od (.dK kvs)) ∧ (∀ b o, H b = some o → b ≠ a → H2 b = some o) ∧ H2 D = some (.lst ((((dt.map (·.1)).take i).filter fun k => !keyOk k).map kV))) ?_ ?_ ?_ ?_⟩⟩⟩
    · exact ⟨(start ha (Same.refl H) nD).1, (start ha (Same.refl H) nD).2, by simpa using upd_same⟩
    · rintro i H2 hi ⟨hf, _⟩
      exact hf
    · rintro i x H2 H3 hi ⟨hf, kp, hD⟩ ⟨rfl, k, v, hk, rfl⟩
      obtain ⟨⟨k2, d2⟩, hd2, ek, hh⟩ := pair_get pr hk
      dsimp only at ek
      subst ek
      have nk := tx _ (List.mem_of_getElem? hd2)
      dsimp only at nk
      have hk2 : (dt.map (·.1))[i]? = some k := by rw [List.getElem?_map, hd2]; rfl
      have fs := filt_snoc (p := fun k => !keyOk k) hk2
      have hh2 : Held H3 (kV k) (keyD k) := key_held nk
      refine ⟨rfl, _, rfl, _, keyD k, 1, 1, rfl, hh2.pw, nk.tx, fun H4 s4 => ?_⟩
      have kp4 : ∀ b o, H b = some o → b ≠ a → H4 b = some o := fun b o e nb => s4 _ _ (kp b o e nb)
      cases e3 : wordD 1 1 (keyD k) with
      | true =>
        rw [if_neg (show ¬ (!keyOk k) = true by show ¬ (!wordD 1 1 (keyD k)) = true; rw [e3]; exact Bool.false_ne_true), List.append_nil] at fs
        exact ⟨true, rfl, iteF ⟨s4 _ _ hf, kp4, by rw [fs]; exact s4 _ _ hD⟩⟩
      | false =>
        rw [if_pos (show (!keyOk k) = true by show (!wordD 1 1 (keyD k)) = true; rw [e3]; rfl)] at fs
        have aD : D ≠ a := ne_of hD hf (fun z => nomatch z)
        have DH : H D = none := by
          cases z : H D with
          | none => rfl
          | some o =>
            rw [upd_ne aD, z] at nD
            cases nD
        refine ⟨false, rfl, iteT ⟨_, rfl, _, s4 _ _ hD, ?_, ?_, fun b o e nb => ?_, ?_⟩⟩
        · rw [List.length_map]
          have a1 := List.length_filter_le (fun k => !keyOk k) ((dt.map (·.1)).take i)
          have a2 : ((dt.map (·.1)).take i).length ≤ 30 := by rw [List.length_take, List.length_map]; omega
          exact small1000 (by omega)
        · rw [upd_ne (Ne.symm aD)]
          exact s4 _ _ hf
        · rw [upd_ne (ne_of_none e DH)]
          exact kp4 b o e nb
        · rw [upd_same, fs, List.map_append]
          rfl
    · rintro H2 ⟨hf, kp, hD⟩
      rw [List.take_of_length_le (by rw [List.length_map]; omega)] at hD
      have DH : D ≠ a := ne_of hD hf (fun z => nomatch z)
      refine ⟨hf, ?_⟩
      have s3 := back kp
      have hD3 : upd H2 a (.dK kvs) D = some (.lst (((dt.map (·.1)).filter fun k => !keyOk k).map kV)) := by rw [upd_ne DH]; exact hD
      have ha3 : upd H2 a (.dK kvs) a = some (.dK kvs) := upd_same
      generalize upd H2 a (.dK kvs) = H3 at s3 hD3 ha3 ⊢
      clear hD hf kp DH nD
      refine ⟨_, rfl, Nat.zero_le _, fun o no => ?_⟩
      have s4 := same_put (s := s3) (o := .lst []) no
      have s34 := same_put (s := Same.refl H3) (o := .lst []) no
      have nice : ∀ k ∈ dt.map (·.1), NiceD (keyD k) := fun k hk => by
        obtain ⟨q, hq, rfl⟩ := List.mem_map.mp hk
        exact tx q hq
      refine ⟨_, _, .lst (SqL.of (s34 _ _ hD3)) (dp_keys _), .lst (SqL.of upd_same) .nil, shaped_of (lay_pair fun d hd => ?_) (dep_list fun d hd => ?_), shaped_nil, _, rfl, ?_⟩
      · obtain ⟨k, hk, rfl⟩ := List.mem_map.mp hd
        exact lay_key (nice k (List.mem_filter.mp hk).1)
      · obtain ⟨k, hk, rfl⟩ := List.mem_map.mp hd
        rw [dep_key]
        decide
      rw [eqv_nil]
      have fd0 : dt.find? (fun q => !keyOk q.1) = none ∨ ∃ q, dt.find? (fun q => !keyOk q.1) = some q := by
        cases e : dt.find? (fun q => !keyOk q.1) with
        | none => exact .inl rfl
        | some q => exact .inr ⟨q, rfl⟩
      have fmap : (dt.map (·.1)).filter (fun k => !keyOk k) = (dt.filter fun q => !keyOk q.1).map (·.1) := by
        rw [List.filter_map]
        rfl
      have hq2 := q
      unfold dueO toldD at hq2
      rcases fd0 with fn | ⟨⟨k0, d0⟩, fn⟩
      rotate_left
      · -- a key that is no letter
        have hh : (dt.filter fun q => !keyOk q.1).head? = some (k0, d0) := by rw [List.head?_filter]; exact fn
        rw [fn] at hq2
        obtain ⟨q1, qr, eb⟩ : ∃ q1 qr, dt.filter (fun q => !keyOk q.1) = q1 :: qr := by
          cases e : dt.filter (fun q => !keyOk q.1) with
          | nil =>
            rw [e] at hh
            cases hh
          | cons q1 qr => exact ⟨q1, qr, rfl⟩
        · rw [eb] at hh
          obtain rfl : q1 = (k0, d0) := by simpa using hh
          rw [fmap, eb] at hD3 ⊢
          refine iteT ⟨_, rfl, D, _, 0, kV k0, rfl, rfl, SqL.of (s34 _ _ hD3), atI_nat (j := 0) rfl, ?_⟩
          have nk := tx (k0, d0) (List.mem_filter.mp (eb ▸ List.mem_cons_self : (k0, d0) ∈ dt.filter fun q => !keyOk q.1)).1
          refine ⟨_, keyD k0, rfl, (key_held nk).pw, nk.te, by show 2 ≤ sizeLine; decide, fun l1 nl1 => ?_⟩
          exact hq2 _ _ (same_put (s := s4) nl1) ⟨l1, rfl, upd_same⟩
      rw [fn] at hq2
      dsimp only at hq2
      have allok : ∀ k ∈ dt.map (·.1), keyOk k = true := fun k hk => by
        obtain ⟨q, hq, rfl⟩ := List.mem_map.mp hk
        have z := List.find?_eq_none.mp fn q hq
        simpa using z
      have fe : (dt.map (·.1)).filter (fun k => !keyOk k) = [] := List.filter_eq_nil_iff.mpr fun k hk => by
        rw [allok k hk]
        exact Bool.false_ne_true
      rw [fe]
      refine iteF ?_
      have ha4 := s34 _ _ ha3
      generalize upd H3 o (.lst []) = H4 at s4 ha4 ⊢
      clear hD3 ha3 s34 s3 no
      obtain ⟨cs, ecs, lcs⟩ := keys_let allok
      -- the images
      refine ⟨a, _, ha4, True.intro, fun od => ⟨_, rfl, a, od, rfl, .inl ⟨_, upd_same, fun D nD => lc_it walk_keys (fun i H2 => H2 a = some (.frz od (.dK kvs)) ∧ (∀ b o, H b = some o → b ≠ a → H2 b = some o) ∧ H2 D = some (.lst (((((dt.map (·.1)).take i).filter (keyBad dt)).map keyS).map V.str))) ?_ ?_ ?_ ?_⟩⟩⟩
      · exact ⟨(start ha4 s4 nD).1, (start ha4 s4 nD).2, by simpa using upd_same⟩
      · rintro i H2 hi ⟨hf, _⟩
        exact hf
      · rintro i x H2 H5 hi ⟨hf, kp, hD⟩ ⟨rfl, k, v, hk, rfl⟩
        obtain ⟨⟨k2, d2⟩, hd2, ek, hh⟩ := pair_get pr hk
        dsimp only at ek
        subst ek
        have hk2 : (dt.map (·.1))[i]? = some k := by rw [List.getElem?_map, hd2]; rfl
        have fs := filt_snoc (p := keyBad dt) hk2
        obtain ⟨c, hc, rfl⟩ := keyOk_let (allok k (List.mem_of_getElem? hk2))
        rcases at_pair pr (.inr (L1 c)) with ⟨e1, e2⟩ | ⟨v2, d3, e1, e2, hv⟩
        · exfalso
          have z : (valV kvs (.inr (L1 c))) ≠ none := by
            unfold valV
            intro z
            rw [Option.map_eq_none_iff] at z
            have z2 := List.find?_eq_none.mp z _ (List.mem_of_getElem? hk)
            simp at z2
          exact z e1
        · have kb : keyBad dt (.inr (L1 c)) = !wordD 1 4 d3 := by
            unfold keyBad
            rw [e2]
          have nv : ∀ b, v2 = .ref b → b ≠ a := by
            have hm : ∃ p ∈ kvs, p.2 = v2 := by
              unfold valV at e1
              cases z : kvs.find? (fun kv => decide (kv.1 = (Sum.inr (L1 c) : Key))) with
              | none =>
                rw [z] at e1
                cases e1
              | some p =>
                rw [z] at e1
                exact ⟨p, List.mem_of_find?_eq_some z, Option.some.inj e1⟩
            obtain ⟨⟨kp1, vp⟩, hp, rfl⟩ := hm
            obtain ⟨j, hj⟩ := List.getElem?_of_mem hp
            exact not_self ha hj hv
          have hv2 : Held H5 v2 d3 := held_move hv fun b o e h => kp b o h (nv b e)
          refine ⟨rfl, _, rfl, _, rfl, a, v2, rfl, .inl ⟨kvs, .inr (L1 c), .inr ⟨od, hf⟩, rfl, e1.symm⟩, v2, d3, 1, 4, rfl, hv2.pw, hv2.ni.tx, fun H6 s6 => ?_⟩
          have kp6 : ∀ b o, H b = some o → b ≠ a → H6 b = some o := fun b o e nb => s6 _ _ (kp b o e nb)
          cases e3 : wordD 1 4 d3 with
          | true =>
            rw [if_neg (show ¬ keyBad dt (.inr (L1 c)) = true by rw [kb, e3]; exact Bool.false_ne_true), List.append_nil] at fs
            exact ⟨true, rfl, iteF ⟨s6 _ _ hf, kp6, by rw [fs]; exact s6 _ _ hD⟩⟩
          | false =>
            rw [if_pos (show keyBad dt (.inr (L1 c)) = true by rw [kb, e3]; rfl)] at fs
            have aD : D ≠ a := ne_of hD hf (fun z => nomatch z)
            have DH : H D = none := by
              cases z : H D with
              | none => rfl
              | some o =>
                rw [upd_ne aD, s4 _ _ z] at nD
                cases nD
            refine ⟨false, rfl, iteT ⟨_, rfl, _, rfl, _, s6 _ _ hD, ?_, ?_, fun b o e nb => ?_, ?_⟩⟩
            · rw [List.length_map, List.length_map]
              have a1 := List.length_filter_le (keyBad dt) ((dt.map (·.1)).take i)
              have a2 : ((dt.map (·.1)).take i).length ≤ 30 := by rw [List.length_take, List.length_map]; omega
              exact small1000 (by omega)
            · rw [upd_ne (Ne.symm aD)]
              exact s6 _ _ hf
            · rw [upd_ne (ne_of_none e DH)]
              exact kp6 b o e nb
            · rw [upd_same, fs, List.map_append, List.map_append]
              rfl
      · rintro H2 ⟨hf, kp, hD⟩
        rw [List.take_of_length_le (by rw [List.length_map]; omega)] at hD
        have DH : D ≠ a := ne_of hD hf (fun z => nomatch z)
        refine ⟨hf, ?_⟩
        have s5 := back kp
        have hD5 : upd H2 a (.dK kvs) D = some (.lst ((((dt.map (·.1)).filter (keyBad dt)).map keyS).map V.str)) := by rw [upd_ne DH]; exact hD
        have ha5 : upd H2 a (.dK kvs) a = some (.dK kvs) := upd_same
        generalize upd H2 a (.dK kvs) = H5 at s5 hD5 ha5 ⊢
        clear hD hf kp DH nD s4 ha4
        have eb : ((dt.map (·.1)).filter (keyBad dt)).map keyS = (cs.filter (badAt dt)).map L1 := by
          rw [ecs, List.filter_map, List.map_map]
          rfl
        rw [eb] at hD5
        have a1 := List.length_filter_le (badAt dt) cs
        have a2 : cs.length = dt.length := by
          have z := congrArg List.length ecs
          rw [List.length_map, List.length_map] at z
          exact z.symm
        refine ⟨D, _, rfl, SqL.of hD5, by rw [List.length_map]; omega, fun ys p pm so np => ?_⟩
        have s6 := same_put (s := s5) (o := .lst (ys.map V.str)) np
        have hp6 : upd H5 p (.lst (ys.map V.str)) p = some (.lst (ys.map V.str)) := upd_same
        have ha6 : upd H5 p (.lst (ys.map V.str)) a = some (.dK kvs) := by rw [upd_ne (ne_of_none ha5 np)]; exact ha5
        generalize upd H5 p (.lst (ys.map V.str)) = H6 at s6 hp6 ha6 ⊢
        clear s5 hD5 ha5 np
        have lf := least_first pm so lcs fun c hc e => by
          have z : ∃ d, atD dt (.inr (L1 c)) = some d := by
            unfold badAt at e
            cases e2 : atD dt (.inr (L1 c)) with
            | none =>
              rw [e2] at e
              cases e
            | some d => exact ⟨d, rfl⟩
          obtain ⟨d, e2⟩ := z
          have m := atD_key e2
          rw [ecs] at m
          obtain ⟨c2, hc2, e3⟩ := List.mem_map.mp m
          rw [← L1_inj (Sum.inr.inj e3)]
          exact hc2
        have ylet : ∀ y ∈ ys, ∃ c ∈ abc, y = L1 c := fun y hy => by
          obtain ⟨c, hc, e⟩ := List.mem_map.mp (pm.mem_iff.mp hy)
          exact ⟨c, lcs c (List.mem_filter.mp hc).1, e.symm⟩
        refine ⟨_, rfl, Nat.zero_le _, fun o no => ?_⟩
        have s7 := same_put (s := s6) (o := .lst []) no
        have s67 := same_put (s := Same.refl H6) (o := .lst []) no
        refine ⟨_, _, .lst (SqL.of (s67 _ _ hp6)) (dp_texts _), .lst (SqL.of upd_same) .nil, shaped_of (lay_pair fun d hd => ?_) (dep_list fun d hd => ?_), shaped_nil, _, rfl, ?_⟩
        · obtain ⟨y, hy, rfl⟩ := List.mem_map.mp hd
          obtain ⟨c, hc, rfl⟩ := ylet y hy
          simp only [PyData.canLay0]
          exact strOk_L1 (by have := (abc_mem.mp hc).2; omega)
        · obtain ⟨y, hy, rfl⟩ := List.mem_map.mp hd
          simp [PyData.depth]
        rw [eqv_nil]
        rcases lf with ⟨rfl, fn2⟩ | ⟨c0, rest, rfl, fn2⟩
        rotate_left
        · -- an image that is none
          rw [fn2] at hq2
          dsimp only at hq2
          have nl := nice_let c0 (List.mem_of_find?_eq_some fn2)
          refine iteT ⟨_, rfl, p, _, 0, .str (L1 c0), rfl, rfl, SqL.of (s67 _ _ hp6), atI_nat (j := 0) rfl, _, .str (L1 c0), rfl, .str _, nl.te, by show 2 ≤ sizeLine; decide, fun l1 nl1 => ?_⟩
          exact hq2 _ _ (same_put (s := s7) nl1) ⟨l1, rfl, upd_same⟩
        rw [fn2] at hq2
        dsimp only at hq2
        refine iteF ?_
        have ha7 := s67 _ _ ha6
        generalize upd H6 o (.lst []) = H7 at s7 ha7 ⊢
        clear s67 s6 hp6 ha6 no
        have hy7 := hy.same s7
        refine ⟨_, rfl, y, st, 0, 2000, rfl, hy7.pw, hy7.ni.tx, fun H8 s8 => ?_⟩
        have s08 : Same H H8 := fun b o e => s8 _ _ (s7 _ _ e)
        cases e5 : wordD 0 2000 st with
        | false =>
          rw [e5, if_neg Bool.false_ne_true] at hq2
          have hy8 := hy.same s08
          refine ⟨false, rfl, iteT ⟨_, rfl, y, st, rfl, hy8.pw, hy8.ni.te, by show 2 ≤ sizeLine; decide, fun l1 nl1 => ?_⟩⟩
          exact hq2 _ _ (same_put (s := s08) nl1) ⟨l1, rfl, upd_same⟩
        | true =>
          rw [e5, if_pos rfl] at hq2
          dsimp only at hq2
          refine ⟨true, rfl, iteF ?_⟩
          have zk : ∃ z, st = .str z := by
            cases st with
            | str z => exact ⟨z, rfl⟩
            | none => cases e5
            | bool b => cases e5
            | int i => cases e5
            | list l => cases e5
            | tuple l => cases e5
            | dict l => cases e5
          obtain ⟨z, rfl⟩ := zk
          have ey := held_str hy
          subst ey
          have zl := (hy.ni.tx z rfl).1
          have ha8 := s8 _ _ ha7
          refine ⟨_, rfl, a, kvs, rfl, .inl ha8, fun p1 np1 => ?_⟩
          have s9 := same_put (s := s08) (o := .lst (kvs.map fun kv => kV kv.1)) np1
          refine ⟨_, rfl, z, rfl, by rw [sizeLine_eq]; omega, fun p2 np2 => ?_⟩
          have n12 : p1 ≠ p2 := ne_of_none (show upd H8 p1 (.lst (kvs.map fun kv => kV kv.1)) p1 = _ from upd_same) np2
          have eA : kvs.map (fun kv => kV kv.1) = (dt.map fun q => keyS q.1).map V.str := by
            have z : kvs.map (fun kv => kV kv.1) = (kvs.map (·.1)).map kV := by
              rw [List.map_map]
              rfl
            have z2 : (dt.map fun q => keyS q.1).map V.str = ((dt.map (·.1)).map keyS).map V.str := by
              rw [List.map_map, List.map_map, List.map_map]
              rfl
            rw [z, z2, pair_keys pr, ecs, List.map_map, List.map_map, List.map_map]
            rfl
          have eB : z.cps.toList.map (fun c => V.str ⟨#[c]⟩) = (z.cps.toList.map L1).map V.str := by
            rw [List.map_map]
            rfl
          rw [eA] at s9 np2 ⊢
          have lA : (dt.map fun q => keyS q.1).length ≤ 30 := by
            rw [List.length_map]
            exact few
          have lB : (z.cps.toList.map L1).length ≤ 2500 := by
            rw [List.length_map, len_self]
            exact zl
          rw [show List.map (fun c => V.str ⟨#[c]⟩) z.cps.toList = (z.cps.toList.map L1).map V.str from eB]
          have h1 : upd (upd H8 p1 (.lst ((dt.map fun q => keyS q.1).map V.str))) p2 (.lst ((z.cps.toList.map L1).map V.str)) p1 = some (.lst ((dt.map fun q => keyS q.1).map V.str)) := by
            rw [upd_ne n12]
            exact upd_same
          have h2 : upd (upd H8 p1 (.lst ((dt.map fun q => keyS q.1).map V.str))) p2 (.lst ((z.cps.toList.map L1).map V.str)) p2 = some (.lst ((z.cps.toList.map L1).map V.str)) := upd_same
          have s10 := same_put (s := s9) (o := .lst ((z.cps.toList.map L1).map V.str)) np2
          generalize upd (upd H8 p1 (.lst ((dt.map fun q => keyS q.1).map V.str))) p2 (.lst ((z.cps.toList.map L1).map V.str)) = H10 at h1 h2 s10 ⊢
          refine ⟨p1, p2, _, _, rfl, rfl, h1, h2, by have la := lA; have lb := lB; simp only [List.length_map, sizeLine_eq] at la lb ⊢; omega, fun p3 np3 => ?_⟩
          rw [← List.map_append]
          have s11 := same_put (s := s10) (o := .lst (((dt.map fun q => keyS q.1) ++ z.cps.toList.map L1).map V.str)) np3
          have h3 : upd H10 p3 (.lst (((dt.map fun q => keyS q.1) ++ z.cps.toList.map L1).map V.str)) p3 = some (.lst (((dt.map fun q => keyS q.1) ++ z.cps.toList.map L1).map V.str)) := upd_same
          generalize upd H10 p3 (.lst (((dt.map fun q => keyS q.1) ++ z.cps.toList.map L1).map V.str)) = H11 at s11 h3 ⊢
          have ec : cntD dt (.str z) = (uqs ((dt.map fun q => keyS q.1) ++ z.cps.toList.map L1)).length := rfl
          rw [ec] at hq2
          have lZ : ((dt.map fun q => keyS q.1) ++ z.cps.toList.map L1).length ≤ 2530 := by
            rw [List.length_append]
            omega
          generalize (dt.map fun q => keyS q.1) ++ z.cps.toList.map L1 = zs at hq2 lZ h3 ⊢
          refine ⟨p3, rfl, ⟨_, SqL.of h3⟩, fun D nD => lc_it (walk_list (K := K) (a := p3) (xs := zs.map V.str)) (fun i H => H = upd H11 D (.lst ((zs.map V.str).take i))) rfl ?_ ?_ ?_⟩
          · rintro i H2 hi rfl
            exact SqL.of (by rw [upd_ne (ne_of_none h3 nD)]; exact h3)
          · rintro i x H2 H3 hi rfl ⟨rfl, hx⟩
            obtain ⟨z1, hz1, rfl⟩ : ∃ z1, zs[i]? = some z1 ∧ x = .str z1 := by
              rw [List.getElem?_map] at hx
              cases e : zs[i]? with
              | none =>
                rw [e] at hx
                cases hx
              | some z1 =>
                rw [e] at hx
                exact ⟨z1, rfl, (Option.some.inj hx).symm⟩
            refine ⟨rfl, _, rfl, z1, rfl, _, upd_same, ?_, ?_⟩
            · rw [List.length_take, List.length_map, sizeLine_eq]
              omega
            · rw [upd_upd, List.take_add_one, List.getElem?_map, hz1]
              rfl
          · rintro H2 rfl
            rw [List.take_length]
            have s12 := same_put (s := s11) (o := .lst (zs.map V.str)) nD
            refine ⟨D, zs, rfl, SqL.of upd_same, by omega, ?_⟩
            refine ⟨_, _, rfl, rfl, _, rfl, ?_⟩
            by_cases g : 12 < (uqs zs).length
            · rw [if_pos g] at hq2
              rw [decide_eq_true (by show (12 : Int) < ((uqs zs).length : Int); omega)]
              exact iteT ⟨by show 2 ≤ sizeLine; decide, fun l1 nl1 => hq2 _ _ (same_put (s := s12) nl1) ⟨l1, rfl, upd_same⟩⟩
            · rw [if_neg g] at hq2
              rw [decide_eq_false (by show ¬ (12 : Int) < ((uqs zs).length : Int); omega)]
              exact iteF (hq2 _ _ s12 rfl)
end
end V8

set_option Elab.async false
set_option linter.all false
set_option maxRecDepth 100000
set_option maxHeartbeats 8000000
set_option pp.maxSteps 2000
/-! A right table as the misreadings take it; what the law draws. -/
namespace V8
open PySem PySem.Spec PyProof.Rows L2 MX SetT
abbrev s__law_images : Stmt := topS 42
abbrev n__law_images : List Str := ["_law_pen_here", "_law_found", "_law_is_odd", "_law_letter", "_law_odd", "_law_key", "_law_right", "_law_wrong"]
theorem sc__law_images : FnScope ["_law_pen_here", "_law_found", "_law_is_odd", "_law_letter", "_law_odd", "_law_key", "_law_right", "_law_wrong"] ["_law_pen_here"] (defScope s__law_images) := ⟨rfl, rfl, rfl, by decide +kernel, rfl, by decide +kernel, by decide +kernel⟩
/-! ### right tables -/
def cdK : Key → Nat
  | .inl _ => 0
  | .inr z => z.cps.toList.headD 0
def tabD (dt : Dt) : Tab := dt.map fun q => (cdK q.1, txS q.2)
theorem put_keys {t : Tab} {c : Nat} {s : List Nat} {x : Nat} : x ∈ (putT t c s).map (·.1) ↔ x ∈ t.map (·.1) ∨ x = c := by
  unfold putT
  split
  · rename_i h
    obtain ⟨q, hq, e⟩ := List.any_eq_true.mp h
    have e2 : q.1 = c := by simpa using e
    rw [List.map_map]
    have e3 : t.map ((·.1) ∘ fun q : Nat × List Nat => if q.1 = c then (q.1, s) else q) = t.map (·.1) := List.map_congr_left fun q _ => by
      show (if q.1 = c then (q.1, s) else q).1 = q.1
      split <;> rfl
    rw [e3]
    refine ⟨.inl, fun z => z.elim id fun z => ?_⟩
    rw [z, ← e2]
    exact List.mem_map.mpr ⟨q, hq, rfl⟩
  · rw [List.map_append, List.mem_append]
    simp
theorem merge_keys {x : Nat} : ∀ {b a : Tab}, x ∈ (mergeT a b).map (·.1) ↔ x ∈ a.map (·.1) ∨ x ∈ b.map (·.1)
  | [], a => by
    show x ∈ a.map (·.1) ↔ _
    simp
  | q :: b, a => by
    show x ∈ (mergeT (putT a q.1 q.2) b).map (·.1) ↔ _
    rw [merge_keys (b := b), put_keys, List.map_cons, List.mem_cons, or_assoc]
theorem told_keys {st : List Nat} {t : Tab} {x : Nat} : x ∈ (toldT st t).map (·.1) ↔ x ∈ st ∨ x ∈ t.map (·.1) := by
  unfold toldT keepT
  rw [merge_keys, merge_keys, merge_keys, List.map_map]
  have e : st.map ((·.1) ∘ fun c => (c, [c])) = st := by
    have : ((fun x : Nat × List Nat => x.1) ∘ fun c => (c, [c])) = id := rfl
    rw [this, List.map_id]
  rw [e]
  simp
theorem L1_nd {cs : List Nat} (h : cs.Nodup) : (cs.map L1).Nodup := by
  rw [List.nodup_iff_pairwise_ne, List.pairwise_map]
  rw [List.nodup_iff_pairwise_ne] at h
  exact h.imp fun ne z => ne (L1_inj z)
/-- how many letters there are -/
theorem told_len {st cs : List Nat} {t : Tab} (g : GoodT abc t) (hst : ∀ c ∈ st, c ∈ abc) (ek : t.map (·.1) = cs) : (toldT st t).length = (uqs (cs.map L1 ++ st.map L1)).length := by
  have gu := toldT_good hst (fun c hc => abc_mem.mp hc) g
  have e1 : (toldT st t).length = (((toldT st t).map (·.1)).map L1).length := by rw [List.length_map, List.length_map]
  rw [e1]
  refine nd_same (L1_nd gu.nd) (uqs_nd _) fun x => ?_
  rw [mem_uqs, List.mem_append]
  constructor
  · intro h
    obtain ⟨c, hc, rfl⟩ := List.mem_map.mp h
    rcases told_keys.mp hc with z | z
    · exact .inr (List.mem_map.mpr ⟨c, z, rfl⟩)
    · exact .inl (List.mem_map.mpr ⟨c, ek ▸ z, rfl⟩)
  · rintro (h | h)
    · obtain ⟨c, hc, rfl⟩ := List.mem_map.mp h
      exact List.mem_map.mpr ⟨c, told_keys.mpr (.inr (ek ▸ hc)), rfl⟩
    · obtain ⟨c, hc, rfl⟩ := List.mem_map.mp h
      exact List.mem_map.mpr ⟨c, told_keys.mpr (.inl hc), rfl⟩
theorem atD_mem : ∀ {dt : Dt} {q : Key × PyData}, (dt.map (·.1)).Nodup → q ∈ dt → atD dt q.1 = some q.2
  | [], q, _, h => absurd h List.not_mem_nil
  | p :: r, q, nd, h => by
    have nd2 := List.nodup_cons.mp (by simpa using nd : (p.1 :: r.map (·.1)).Nodup)
    unfold atD
    rcases List.mem_cons.mp h with rfl | h
    · rw [List.find?_cons_of_pos (by simp)]
      rfl
    · have ne : ¬ p.1 = q.1 := fun z => nd2.1 (z ▸ List.mem_map.mpr ⟨q, h, rfl⟩)
      rw [List.find?_cons_of_neg (by simpa using ne)]
      exact atD_mem nd2.2 h
theorem told_good {H : Hp} {a : Addr} {dt : Dt} {st : PyData} (t : TabA H a dt) (e : toldD dt st = none) : ∃ (tb : Tab) (s : List Nat), st = .str (Sx s) ∧ H a = some (.dK (encT tb)) ∧ GoodT abc tb ∧ (∀ c ∈ s, c ∈ abc) ∧ s.length ≤ 2000 ∧ (toldT s tb).length = cntD dt st := by
  obtain ⟨⟨kvs, ha, pr⟩, nd, few, tx⟩ := t
  unfold toldD at e
  cases fn : dt.find? (fun q => !keyOk q.1) with
  | some q =>
    rw [fn] at e
    cases e
  | none =>
    rw [fn] at e
    dsimp only at e
    cases fn2 : abc.find? (badAt dt) with
    | some c =>
      rw [fn2] at e
      cases e
    | none =>
      rw [fn2] at e
      dsimp only at e
      cases e5 : wordD 0 2000 st with
      | false =>
        rw [e5, if_neg Bool.false_ne_true] at e
        cases e
      | true =>
        obtain ⟨z, rfl⟩ : ∃ z, st = .str z := by
          cases st with
          | str z => exact ⟨z, rfl⟩
          | none => cases e5
          | bool b => cases e5
          | int i => cases e5
          | list l => cases e5
          | tuple l => cases e5
          | dict l => cases e5
        have e6 : (decide (0 ≤ z.length) && decide (z.length ≤ 2000) && okL z.cps.toList) = true := e5
        rw [Bool.and_eq_true, Bool.and_eq_true, decide_eq_true_iff, decide_eq_true_iff] at e6
        have allok : ∀ k ∈ dt.map (·.1), keyOk k = true := fun k hk => by
          obtain ⟨q, hq, rfl⟩ := List.mem_map.mp hk
          have z := List.find?_eq_none.mp fn q hq
          simpa using z
        obtain ⟨cs, ecs, lcs⟩ := keys_let allok
        have img : ∀ q ∈ dt, wordD 1 4 q.2 = true := fun q hq => by
          obtain ⟨c, hc, ek⟩ := keyOk_let (allok q.1 (List.mem_map.mpr ⟨q, hq, rfl⟩))
          have b := List.find?_eq_none.mp fn2 c hc
          have am := atD_mem nd hq
          rw [ek] at am
          unfold badAt at b
          rw [am] at b
          simpa using b
        have enc : kvs = encT (tabD dt) := by
          clear fn fn2 ha nd few tx ecs e
          induction pr with
          | nil => rfl
          | @cons p q l1 l2 r _ ih =>
            have i0 := img q List.mem_cons_self
            obtain ⟨c, hc, ek⟩ := keyOk_let (allok q.1 (by rw [List.map_cons]; exact List.mem_cons_self))
            have ih2 := ih (fun k hk => allok k (by rw [List.map_cons]; exact List.mem_cons_of_mem _ hk)) fun q hq => img q (List.mem_cons_of_mem _ hq)
            obtain ⟨k, d⟩ := q
            obtain ⟨k2, v⟩ := p
            obtain ⟨r1, r2⟩ := r
            dsimp only at r1 r2 ek i0
            subst r1
            subst ek
            rw [ih2]
            obtain ⟨z2, rfl⟩ : ∃ z, d = .str z := by
              cases d with
              | str z => exact ⟨z, rfl⟩
              | none => cases i0
              | bool b => cases i0
              | int i => cases i0
              | list l => cases i0
              | tuple l => cases i0
              | dict l => cases i0
            have ev := held_str r2
            subst ev
            show _ = (Sum.inr (L1 ((L1 c).cps.toList.headD 0)), V.str (Sx z2.cps.toList)) :: encT (tabD l2)
            rw [Sx_self]
            rfl
        have ek : (tabD dt).map (·.1) = cs := by
          unfold tabD
          rw [List.map_map]
          have z : dt.map ((·.1) ∘ fun q : Key × PyData => (cdK q.1, txS q.2)) = (dt.map (·.1)).map cdK := by
            rw [List.map_map]
            rfl
          rw [z, ecs, List.map_map]
          have z2 : (cdK ∘ fun c => (Sum.inr (L1 c) : Key)) = id := rfl
          rw [z2, List.map_id]
        have ndc : cs.Nodup := by
          rw [ecs] at nd
          rw [List.nodup_iff_pairwise_ne, List.pairwise_map] at nd
          rw [List.nodup_iff_pairwise_ne]
          exact nd.imp fun ne z => ne (by rw [z])
        have g : GoodT abc (tabD dt) := by
          refine ⟨by rw [ek]; exact ndc, fun q hq => lcs _ (by rw [← ek]; exact List.mem_map.mpr ⟨q, hq, rfl⟩), fun q hq => ?_⟩
          obtain ⟨q2, hq2, rfl⟩ := List.mem_map.mp hq
          have i0 := img q2 hq2
          obtain ⟨k, d⟩ := q2
          dsimp only at i0 ⊢
          cases d with
          | str z2 =>
            have i1 : (decide (1 ≤ z2.length) && decide (z2.length ≤ 4) && okL z2.cps.toList) = true := i0
            rw [Bool.and_eq_true, Bool.and_eq_true, decide_eq_true_iff, decide_eq_true_iff] at i1
            exact ⟨by show 1 ≤ z2.cps.toList.length; rw [len_self]; exact i1.1.1, by show z2.cps.toList.length ≤ 4; rw [len_self]; exact i1.1.2, fun c hc => abc_mem.mpr (okL_iff.mp i1.2 c hc)⟩
          | none => cases i0
          | bool b => cases i0
          | int i => cases i0
          | list l => cases i0
          | tuple l => cases i0
          | dict l => cases i0
        refine ⟨tabD dt, z.cps.toList, by rw [Sx_self], by rw [ha, enc], g, fun c hc => abc_mem.mpr (okL_iff.mp e6.2 c hc), by rw [len_self]; exact e6.1.2, ?_⟩
        rw [told_len g (fun c hc => abc_mem.mpr (okL_iff.mp e6.2 c hc)) ek]
        unfold cntD
        have e8 : dt.map (fun q => keyS q.1) = cs.map L1 := by
          have z2 : dt.map (fun q => keyS q.1) = (dt.map (·.1)).map keyS := by
            rw [List.map_map]
            rfl
          rw [z2, ecs, List.map_map]
          rfl
        rw [e8]
        rfl
/-! ### what is drawn -/
def okZ (z : Str) : Bool := decide ((PyData.str z).shown.length ≤ 3000) && PyData.strOk (PyData.str z).shown && decide (z.length ≤ 2500) && z.cps.toList.all fun c => decide (c < 128)
theorem nice_okZ {z : Str} (h : okZ z = true) : NiceD (.str z) := by
  unfold okZ at h
  rw [Bool.and_eq_true, Bool.and_eq_true, Bool.and_eq_true, decide_eq_true_iff, decide_eq_true_iff] at h
  exact nice_text h.1.1.1 h.1.1.2 h.1.2 fun c hc => of_decide_eq_true (List.all_eq_true.mp h.2 c hc)
theorem nice_non : NiceD .none := ⟨⟨by simp [PyData.showable], by simp [PyData.depth], by decide +kernel⟩, by decide +kernel, by simp [PyData.depth], by decide +kernel, fun z e => nomatch e⟩
theorem nice_1 : NiceD (.int 1) := nice_int (by decide +kernel) (by decide +kernel) (by decide +kernel)
theorem nice_tup : NiceD (.tuple [.str "a"]) := ⟨⟨by simp [PyData.showable, PyData.showableAll], by simp [PyData.depth, PyData.depthAll], by decide +kernel⟩, by decide +kernel, by simp [PyData.depth, PyData.depthAll], by decide +kernel, fun z e => nomatch e⟩
/-- flat, or a tuple -/
structure Drawn (H : Hp) (x : V) (d : PyData) : Prop where
  held : Held H x d
  lay : d.canLay0 = true
  tup : ∀ a, x = .ref a → ∃ xs, H a = some (.tup xs)
theorem drawn_move {H H2 : Hp} {x : V} {d : PyData} (h : Drawn H x d) (k : ∀ b xs, H b = some (.tup xs) → H2 b = some (.tup xs)) : Drawn H2 x d := by
  refine ⟨held_move h.held fun b o e hb => ?_, h.lay, fun a e => ?_⟩
  · obtain ⟨xs, z⟩ := h.tup b e
    rw [hb] at z
    cases z
    exact k _ _ hb
  · obtain ⟨xs, z⟩ := h.tup a e
    exact ⟨xs, k _ _ z⟩
theorem drawn_str {H : Hp} {z : Str} (h : okZ z = true) : Drawn H (.str z) (.str z) := by
  have n := nice_okZ h
  refine ⟨th_flat n, ?_, fun a e => nomatch e⟩
  simp only [PyData.canLay0]
  exact strOk_lt (n.tx z rfl).2
theorem drawn_non {H : Hp} : Drawn H .non .none := ⟨⟨.inl (.inr (.inr (.inl rfl))), .non, nice_non⟩, rfl, fun a e => nomatch e⟩
theorem drawn_1 {H : Hp} : Drawn H (.int 1) (.int 1) := ⟨⟨.inl (.inr (.inl ⟨1, rfl⟩)), .int 1, nice_1⟩, rfl, fun a e => nomatch e⟩
theorem drawn_tup {H : Hp} {t : Addr} (h : H t = some (.tup [.str "a"])) : Drawn H (.ref t) (.tuple [.str "a"]) := by
  refine ⟨⟨.inr (.inl ⟨t, _, rfl, .inl h, by decide, fun y hy => ?_⟩), .tup h (.cons (.str _) .nil), nice_tup⟩, by decide +kernel, fun a e => ?_⟩
  · rw [List.mem_singleton.mp hy]
    exact .inl ⟨_, rfl⟩
  · cases e
    exact ⟨_, h⟩
theorem up_let : ∀ c ∈ abc, Txt.upper (L1 c) = L1 (c - 32) := by decide +kernel
theorem ok_let : ∀ c ∈ abc, okZ (L1 c) = true ∧ okZ (L1 (c - 32)) = true ∧ okZ (L1 c ++ ("a" : Str)) = true ∧ okZ (L1 c ++ L1 c) = true := by decide +kernel
end V8

set_option Elab.async false
set_option linter.all false
set_option maxRecDepth 100000
set_option maxHeartbeats 8000000
set_option pp.maxSteps 2000
/-! The drawn table. -/
namespace V8
open PySem PySem.Spec PyProof.Rows L2 MX SetT
theorem u9 {j : Nat} {A : Around} (r : Room j A) : A.units + 9 < cLine := by
  have := r.units
  omega
theorem keyv_move {H H2 : Hp} {k : NestedKey} {x : V} (f : KeyV H k x) (m : ∀ b xs, H b = some (.tup xs) → H2 b = some (.tup xs)) : KeyV H2 k x := by
  cases f with
  | flat g => exact .flat g
  | tup h g => exact .tup (m _ _ h) g
theorem mix_fr {w : World} {p d : Addr} {kvs : List (NestedKey × V × V)} {H H2 : Hp} (m : MixD w H d kvs) (f : Fr p H H2) (hp : ∃ xs, H p = some (.lst xs)) : MixD w H2 d kvs := by
  obtain ⟨xs, hp⟩ := hp
  exact ⟨f _ _ m.at_ (ne_of m.at_ hp (fun z => nomatch z)), fun q hq => keyv_move (m.keys q hq) (tup_fr f hp)⟩
/-- what stands while a table is drawn -/
structure ImS (w : World) (p l D d : Addr) (ns : List Int) (n : Nat) (cs : List Nat) (kvs : List (NestedKey × V × V)) (H0 H : Hp) : Prop where
  hD : H D = some (.lst (lets cs))
  m : MixD w H d kvs
  hv : ∀ e ∈ kvs, (∃ dk, Drawn H e.2.1 dk) ∧ ∃ dv, Drawn H e.2.2 dv
  pa : PenAt H p l ns n
  fr : Fr p H0 H
theorem tup_put {H : Hp} {q : Addr} {o : HO} (n : H q = none) : ∀ b xs, H b = some (.tup xs) → upd H q o b = some (.tup xs) := tup_new n
section
variable {w : World} {p l D d : Addr} {ns : List Int} {n m : Nat} {cs : List Nat} {kvs : List (NestedKey × V × V)} {H0 H H2 : Hp}
theorem ImS.less (s : ImS w p l D d ns n cs kvs H0 H) (h : m ≤ n) : ImS w p l D d ns m cs kvs H0 H := ⟨s.hD, s.m, s.hv, s.pa.less h, s.fr⟩
theorem ImS.new (s : ImS w p l D d ns n cs kvs H0 H) {q : Addr} {o : HO} (nq : H q = none) : ImS w p l D d ns n cs kvs H0 (upd H q o) :=
  ⟨by rw [upd_ne (ne_of_none s.hD nq)]; exact s.hD, s.m.same (same_put (s := Same.refl H) nq), fun e he => by
    obtain ⟨⟨a, h1⟩, b, h2⟩ := s.hv e he
    exact ⟨⟨a, drawn_move h1 (tup_put nq)⟩, b, drawn_move h2 (tup_put nq)⟩, s.pa.new nq, s.fr.trans (Fr.new nq)⟩
theorem ImS.move (s : ImS w p l D d ns n cs kvs H0 H) (f : Fr p H H2) (Dp : D ≠ p) (pa : PenAt H2 p l ns m) : ImS w p l D d ns m cs kvs H0 H2 := by
  obtain ⟨xs, hp⟩ := s.pa.pen
  refine ⟨f _ _ s.hD Dp, mix_fr s.m f ⟨xs, hp⟩, fun e he => ?_, pa, s.fr.trans f⟩
  obtain ⟨⟨a, h1⟩, b, h2⟩ := s.hv e he
  exact ⟨⟨a, drawn_move h1 (tup_fr f hp)⟩, b, drawn_move h2 (tup_fr f hp)⟩
theorem ImS.tupf (s : ImS w p l D d ns n cs kvs H0 H) (f : Fr p H H2) : ∀ b xs, H b = some (.tup xs) → H2 b = some (.tup xs) := by
  obtain ⟨xs, hp⟩ := s.pa.pen
  exact tup_fr f hp
theorem ImS.put (s : ImS w p l D d ns n cs kvs H0 H) (d0 : H0 d = none) {k : NestedKey} {x v : V} {dk dv : PyData} (hk : KeyV H k x) (h1 : Drawn H x dk) (h2 : Drawn H v dv) : ImS w p l D d ns n cs (putM kvs k x v) H0 (upd H d (MixO w d (putM kvs k x v))) := by
  have tk : ∀ b xs, H b = some (.tup xs) → upd H d (MixO w d (putM kvs k x v)) b = some (.tup xs) := fun b xs e => by
    rw [upd_ne (ne_of e s.m.at_ (fun z => nomatch z))]
    exact e
  have dp : d ≠ p := fun z => by
    obtain ⟨xs, hp⟩ := s.pa.pen
    have e := s.m.at_
    rw [z, hp] at e
    cases e
  have dl : d ≠ l := fun z => by
    have e := s.m.at_
    rw [z, s.pa.nums] at e
    cases e
  refine ⟨by rw [upd_ne (ne_of s.hD s.m.at_ (fun z => nomatch z))]; exact s.hD, s.m.put hk, fun e he => ?_, s.pa.other dp dl, s.fr.put d0⟩
  rcases putM_mem he with h | rfl | ⟨q, hq, rfl⟩
  · obtain ⟨⟨a, z1⟩, b, z2⟩ := s.hv e h
    exact ⟨⟨a, drawn_move z1 tk⟩, b, drawn_move z2 tk⟩
  · exact ⟨⟨dk, drawn_move h1 tk⟩, dv, drawn_move h2 tk⟩
  · obtain ⟨⟨a, z1⟩, b, z2⟩ := s.hv q hq
    exact ⟨⟨a, drawn_move z1 tk⟩, dv, drawn_move h2 tk⟩
end
def spImages (w : World) : Sp := fun vs H Q _ => ∃ (p l : Addr) (ns : List Int) (n : Nat), vs = [.ref p] ∧ PenAt H p l ns (n + 60) ∧
  ∀ (d : Addr) (kvs : List (NestedKey × V × V)) (H2 : Hp), H d = none → PenAt H2 p l ns n → Fr p H H2 → MixD w H2 d kvs → kvs.length ≤ 14 → (kvs.map (·.1)).Nodup → (∀ e ∈ kvs, (∃ dk, Drawn H2 e.2.1 dk) ∧ ∃ dv, Drawn H2 e.2.2 dv) → Q (.ref d) H2
section
variable {P : Program} {w : World} {K : PySem.W.Frag} {mg : Str → Option Value} {base : Heap}
theorem key_of {H : Hp} {c t : Nat} {v : V} (hc : c ∈ abc) (ht : H t = some (.tup [.str "a"])) (h : v ∈ [V.str (L1 c), .str (L1 c), .str (L1 c), .str (Txt.upper (L1 c)), .str (L1 c ++ ("a" : Str)), .str "", .int 1, .non, .ref t]) : (∃ k, KeyV H k v) ∧ ∃ dk, Drawn H v dk := by
  obtain ⟨o1, o2, o3, o4⟩ := ok_let c hc
  rw [up_let c hc] at h
  simp only [List.mem_cons, List.not_mem_nil, or_false] at h
  rcases h with rfl | rfl | rfl | rfl | rfl | rfl | rfl | rfl | rfl
  · exact ⟨⟨_, .flat (.text _)⟩, _, drawn_str o1⟩
  · exact ⟨⟨_, .flat (.text _)⟩, _, drawn_str o1⟩
  · exact ⟨⟨_, .flat (.text _)⟩, _, drawn_str o1⟩
  · exact ⟨⟨_, .flat (.text _)⟩, _, drawn_str o2⟩
  · exact ⟨⟨_, .flat (.text _)⟩, _, drawn_str o3⟩
  · exact ⟨⟨_, .flat (.text _)⟩, _, drawn_str (by decide +kernel)⟩
  · exact ⟨⟨_, .flat (.int 1)⟩, _, drawn_1⟩
  · exact ⟨⟨_, .flat .none⟩, _, drawn_non⟩
  · exact ⟨⟨_, .tup ht (.cons (.text _) .nil)⟩, _, drawn_tup ht⟩
theorem right_of {H : Hp} {c : Nat} {v : V} (hc : c ∈ abc) (h : v ∈ [V.str "a", .str (L1 c), .str "xyz", .str "abcd", .str (L1 c ++ L1 c)]) : ∃ dk, Drawn H v dk := by
  obtain ⟨o1, o2, o3, o4⟩ := ok_let c hc
  simp only [List.mem_cons, List.not_mem_nil, or_false] at h
  rcases h with rfl | rfl | rfl | rfl | rfl
  · exact ⟨_, drawn_str (by decide +kernel)⟩
  · exact ⟨_, drawn_str o1⟩
  · exact ⟨_, drawn_str (by decide +kernel)⟩
  · exact ⟨_, drawn_str (by decide +kernel)⟩
  · exact ⟨_, drawn_str o4⟩
theorem wrong_of {H : Hp} {t : Nat} {v : V} (ht : H t = some (.tup [.str "a"])) (h : v ∈ [V.str "", .str "abcde", .str "A", .str "a b", .non, .int 1, .ref t, .str "a1"]) : ∃ dk, Drawn H v dk := by
  simp only [List.mem_cons, List.not_mem_nil, or_false] at h
  rcases h with rfl | rfl | rfl | rfl | rfl | rfl | rfl | rfl
  · exact ⟨_, drawn_str (by decide +kernel)⟩
  · exact ⟨_, drawn_str (by decide +kernel)⟩
  · exact ⟨_, drawn_str (by decide +kernel)⟩
  · exact ⟨_, drawn_str (by decide +kernel)⟩
  · exact ⟨_, drawn_non⟩
  · exact ⟨_, drawn_1⟩
  · exact ⟨_, drawn_tup ht⟩
  · exact ⟨_, drawn_str (by decide +kernel)⟩
theorem ok_images {f : Addr} {fd : FuncData} (F : Fun K "_law_images" "_law_images" s__law_images f fd) (T : Blt mg) (D_draw : Df P w K mg base 1 "_law_draw" spDraw) (D_pick : Df P w K mg base 2 "_law_pick" (spPick K)) (D_some_letters : Df P w K mg base 2 "_law_some_letters" spLetters) : FnOk P w K mg base CX0 3 f fd ["_law_pen_here"] (spImages w) := by
  refine F.ok sc__law_images (fun vs H Q E h => ?_) (fun cdv A outer s H vs Q E hr h => ?_)
  · obtain ⟨p, l, ns, n, rfl, _⟩ := h
    rfl
  · obtain ⟨p, l, ns, n, rfl, PA, q⟩ := h
    refine ⟨_, (pss_cons (ps_par (i := 1) (j := 2) (by rfl) sc__law_images.nd rfl rfl (by decide) rfl rfl (pa_cons pe_dnewM (pa_cons (pe_cmpR op_eq (pe_c D_draw hr (by decide) (by rfl) (pa_cons (pv 0) (pa_cons pe_int pa_nil))) pe_int (nomark _)) pa_nil)) (by rfl))
      (pss_cons (ps_for PassesOwn.never rfl (pi_list (pe_c D_some_letters hr (by decide) (by rfl) (pa_cons (pv 0) (pa_cons (pe_c D_draw hr (by decide) (by rfl) (pa_cons (pv 0) (pa_cons pe_int pa_nil))) pa_nil)))) (pg_name (i := 3) sc__law_images.nd rfl (.inl rfl))
        (pss_cons (ps_set (i := 4) sc__law_images.nd rfl (.inl rfl) (pe_lst (pa_cons (pv 3) (pa_cons (pv 3) (pa_cons (pv 3) (pa_cons (pe_upper (pv 3)) (pa_cons (pe_op op_add_str (pv 3) pe_str) (pa_cons pe_str (pa_cons pe_int (pa_cons pe_non (pa_cons (pe_tup (pa_cons pe_str pa_nil)) pa_nil)))))))))))
        (pss_cons (ps_set (i := 5) sc__law_images.nd rfl (.inl rfl) (pe_ifExp (pt_val (pv 2)) (pe_c D_pick hr (by decide) (by rfl) (pa_cons (pv 0) (pa_cons (pv 4) pa_nil))) (pv 3)))
        (pss_cons (ps_set (i := 6) sc__law_images.nd rfl (.inl rfl) (pe_lst (pa_cons pe_str (pa_cons (pv 3) (pa_cons pe_str (pa_cons pe_str (pa_cons (pe_op op_add_str (pv 3) (pv 3)) pa_nil)))))))
        (pss_cons (ps_set (i := 7) sc__law_images.nd rfl (.inl rfl) (pe_lst (pa_cons pe_str (pa_cons pe_str (pa_cons pe_str (pa_cons pe_str (pa_cons pe_non (pa_cons pe_int (pa_cons (pe_tup (pa_cons pe_str pa_nil)) (pa_cons pe_str pa_nil))))))))))
        (pss_one (ps_asg (pe_c D_pick hr (by decide) (by rfl) (pa_cons (pv 0) (pa_cons (pe_ifExp (pt_cmpR op_eq (pe_c D_draw hr (by decide) (by rfl) (pa_cons (pv 0) (pa_cons pe_int pa_nil))) pe_int (nomark _)) (pv 7) (pv 6)) pa_nil))) (pg_sub (pv 1) (pv 5) (set_mix (u9 hr))))))))))
      (pss_one (ps_ret (pv 1))))), ?_⟩
    intro d nd
    have PA0 := PA.new (o := MixO w d []) nd
    have dp := PA.nep nd
    refine ⟨_, rfl, p, l, ns, n + 59, 4, rfl, PA0.less (by omega), by decide, by decide, fun v H1 v0 v1 PA1 fr1 => ⟨rfl, _, _, rfl, ?_⟩⟩
    have m1 : MixD w H1 d [] := mix_fr MixD.new fr1 PA0.pen
    have fr01 : Fr p H H1 := (Fr.new nd).trans fr1
    refine ⟨_, rfl, _, rfl, p, l, ns, n + 58, 14, rfl, PA1.less (by omega), by decide, by decide, fun v2 H2 w0 w1 PA2 fr2 => ?_⟩
    have m2 := mix_fr m1 fr2 PA1.pen
    obtain ⟨k, rfl⟩ : ∃ k : Nat, v2 = k := ⟨v2.toNat, by omega⟩
    refine ⟨p, l, ns, n + 45, k, rfl, PA2.less (by omega), by omega, fun D cs H3 hlen hnd hlt PA3 fr3 nD hD => ?_⟩
    have m3 := mix_fr m2 fr3 PA2.pen
    have Dp : D ≠ p := PA2.nep nD
    refine ⟨D, rfl, ⟨_, SqL.of hD⟩, for_list (K := K) (a := D) (xs := lets cs) (fun i σ H4 => ∃ (kvs : List (NestedKey × V × V)) (v3 v4 v5 v6 v7 : Option V), σ = [some (.ref p), some (.ref d), some (.bl (decide (V.int v = V.int 0))), v3, v4, v5, v6, v7] ∧ kvs.length ≤ i ∧ (kvs.map (·.1)).Nodup ∧ ImS w p l D d ns (n + 3 * (15 - i)) cs kvs H H4) ?_ ?_ ?_ ?_⟩
    · exact ⟨[], none, none, none, none, none, rfl, Nat.le_refl _, List.nodup_nil, hD, m3, fun e he => absurd he List.not_mem_nil, PA3.less (by omega), (fr01.trans fr2).trans fr3⟩
    · rintro i σ H4 hi ⟨kvs, v3, v4, v5, v6, v7, rfl, _, _, s⟩
      exact SqL.of s.hD
    · rintro i x σ H4 hx ⟨kvs, v3, v4, v5, v6, v7, rfl, kl, knd, s⟩
      obtain ⟨hi, rfl⟩ := lets_get hx
      have hc : cs[i] ∈ abc := abc_mem.mpr (hlt _ (List.getElem_mem hi))
      generalize cs[i] = c at hc ⊢
      have ll : i ≤ 12 := by omega
      refine ⟨_, rfl, _, rfl, _, rfl, _, rfl, ⟨_, rfl⟩, L1 c, rfl, rfl, by show 1 ≤ 5592405; decide, _, rfl, _, _, rfl, rfl, by show 1 + 1 ≤ sizeLine; decide, by show 1 ≤ sizeLine; decide, fun t nt => ⟨by show 9 ≤ sizeLine; decide, fun lo nlo => ?_⟩⟩
      have s1 := s.new (o := .tup [.str "a"]) nt
      have s2 := s1.new (o := .lst [V.str (L1 c), .str (L1 c), .str (L1 c), .str (Txt.upper (L1 c)), .str (L1 c ++ ("a" : Str)), .str "", .int 1, .non, .ref t]) nlo
      have ht2 : upd (upd H4 t (.tup [.str "a"])) lo (.lst [V.str (L1 c), .str (L1 c), .str (L1 c), .str (Txt.upper (L1 c)), .str (L1 c ++ ("a" : Str)), .str "", .int 1, .non, .ref t]) t = some (.tup [.str "a"]) := tup_put nlo _ _ upd_same
      have hlo : upd (upd H4 t (.tup [.str "a"])) lo (.lst [V.str (L1 c), .str (L1 c), .str (L1 c), .str (Txt.upper (L1 c)), .str (L1 c ++ ("a" : Str)), .str "", .int 1, .non, .ref t]) lo = some (.lst [V.str (L1 c), .str (L1 c), .str (L1 c), .str (Txt.upper (L1 c)), .str (L1 c ++ ("a" : Str)), .str "", .int 1, .non, .ref t]) := upd_same
      have lop : lo ≠ p := s1.pa.nep nlo
      generalize upd (upd H4 t (.tup [.str "a"])) lo (.lst [V.str (L1 c), .str (L1 c), .str (L1 c), .str (Txt.upper (L1 c)), .str (L1 c ++ ("a" : Str)), .str "", .int 1, .non, .ref t]) = H5 at s2 ht2 hlo ⊢
      refine ⟨_, rfl, _, rfl, ?_⟩
      refine ite2 (fun e => ?g1) (fun e => ?g2)
      case' g1 =>
        refine ⟨_, rfl, _, rfl, p, l, lo, ns, n + 3 * (15 - (i + 1)) + 2, _, rfl, s2.pa.less (by omega), SqL.of hlo, by show 0 < 9; decide, by show 9 < 1000; decide, fun H9 f9 => SqL.of (f9 _ _ hlo lop), fun kx H6 hkx PA6 fr6 => ?_⟩
        have s3 := s2.move fr6 Dp PA6
        obtain ⟨⟨kk, hk⟩, dk, hdk⟩ := key_of hc (s2.tupf fr6 _ _ ht2) hkx
      case' g2 =>
        refine ⟨_, rfl, ?_⟩
        have s3 := s2.less (m := n + 3 * (15 - (i + 1)) + 2) (by omega)
        have hk : KeyV H5 (.text (L1 c)) (V.str (L1 c)) := .flat (.text _)
        have hdk : Drawn H5 (V.str (L1 c)) (.str (L1 c)) := drawn_str (ok_let c hc).1
        obtain ⟨H6, e6⟩ : ∃ H6, H6 = H5 := ⟨_, rfl⟩
        rw [← e6] at s3 hk hdk ⊢
      all_goals
        refine ⟨_, rfl, _, rfl, _, rfl, _, _, rfl, rfl, by show 1 + 1 ≤ sizeLine; decide, by show 5 ≤ sizeLine; decide, fun lr nlr => ?_⟩
        have s4 := s3.new (o := .lst [V.str "a", .str (L1 c), .str "xyz", .str "abcd", .str (L1 c ++ L1 c)]) nlr
        have hlr : upd H6 lr (.lst [V.str "a", .str (L1 c), .str "xyz", .str "abcd", .str (L1 c ++ L1 c)]) lr = some (.lst [V.str "a", .str (L1 c), .str "xyz", .str "abcd", .str (L1 c ++ L1 c)]) := upd_same
        have hk4 := keyv_move hk (tup_put (o := .lst [V.str "a", .str (L1 c), .str "xyz", .str "abcd", .str (L1 c ++ L1 c)]) nlr)
        have hdk4 := drawn_move hdk (tup_put (o := .lst [V.str "a", .str (L1 c), .str "xyz", .str "abcd", .str (L1 c ++ L1 c)]) nlr)
        have lrp : lr ≠ p := s3.pa.nep nlr
        generalize upd H6 lr (.lst [V.str "a", .str (L1 c), .str "xyz", .str "abcd", .str (L1 c ++ L1 c)]) = H7 at s4 hlr hk4 hdk4 ⊢
        refine ⟨by show 1 ≤ sizeLine; decide, fun t2 nt2 => ⟨by show 8 ≤ sizeLine; decide, fun lw nlw => ?_⟩⟩
        have s5 := s4.new (o := .tup [.str "a"]) nt2
        have s6 := s5.new (o := .lst [V.str "", .str "abcde", .str "A", .str "a b", .non, .int 1, .ref t2, .str "a1"]) nlw
        have ht6 : upd (upd H7 t2 (.tup [.str "a"])) lw (.lst [V.str "", .str "abcde", .str "A", .str "a b", .non, .int 1, .ref t2, .str "a1"]) t2 = some (.tup [.str "a"]) := tup_put nlw _ _ upd_same
        have hlw : upd (upd H7 t2 (.tup [.str "a"])) lw (.lst [V.str "", .str "abcde", .str "A", .str "a b", .non, .int 1, .ref t2, .str "a1"]) lw = some (.lst [V.str "", .str "abcde", .str "A", .str "a b", .non, .int 1, .ref t2, .str "a1"]) := upd_same
        have hlr6 : upd (upd H7 t2 (.tup [.str "a"])) lw (.lst [V.str "", .str "abcde", .str "A", .str "a b", .non, .int 1, .ref t2, .str "a1"]) lr = some (.lst [V.str "a", .str (L1 c), .str "xyz", .str "abcd", .str (L1 c ++ L1 c)]) := same_put (s := same_put (s := Same.refl H7) nt2) nlw _ _ hlr
        have hk6 := keyv_move (keyv_move hk4 (tup_put (o := .tup [.str "a"]) nt2)) (tup_put (o := .lst [V.str "", .str "abcde", .str "A", .str "a b", .non, .int 1, .ref t2, .str "a1"]) nlw)
        have hdk6 := drawn_move (drawn_move hdk4 (tup_put (o := .tup [.str "a"]) nt2)) (tup_put (o := .lst [V.str "", .str "abcde", .str "A", .str "a b", .non, .int 1, .ref t2, .str "a1"]) nlw)
        have lwp : lw ≠ p := s5.pa.nep nlw
        generalize upd (upd H7 t2 (.tup [.str "a"])) lw (.lst [V.str "", .str "abcde", .str "A", .str "a b", .non, .int 1, .ref t2, .str "a1"]) = H8 at s6 ht6 hlw hlr6 hk6 hdk6 ⊢
        refine ⟨_, rfl, _, rfl, p, l, ns, n + 3 * (15 - (i + 1)) + 1, 12, rfl, s6.pa.less (by omega), by decide, by decide, fun v12 H9 y0 y1 PA9 fr9 => ⟨rfl, _, rfl, ?_⟩⟩
        have s7 := s6.move fr9 Dp PA9
        have ht7 := s6.tupf fr9 _ _ ht6
        have hlw7 := fr9 _ _ hlw lwp
        have hlr7 := fr9 _ _ hlr6 lrp
        have hk7 := keyv_move hk6 (s6.tupf fr9)
        have hdk7 := drawn_move hdk6 (s6.tupf fr9)
        refine ite2 (fun e12 => ?_) (fun e12 => ?_)
        · refine ⟨_, rfl, p, l, lw, ns, n + 3 * (15 - (i + 1)), _, rfl, s7.pa, SqL.of hlw7, by show 0 < 8; decide, by show 8 < 1000; decide, fun H10 f10 => SqL.of (f10 _ _ hlw7 lwp), fun vx H10 hvx PA10 fr10 => ?_⟩
          have s8 := s7.move fr10 Dp PA10
          obtain ⟨dv, hdv⟩ := wrong_of (s7.tupf fr10 _ _ ht7) hvx
          have hk8 := keyv_move hk7 (s7.tupf fr10)
          have hdk8 := drawn_move hdk7 (s7.tupf fr10)
          refine ⟨_, rfl, _, rfl, d, kvs, _, rfl, s8.m, by rw [sizeLine_eq]; omega, hk8, ?_⟩
          exact ⟨_, _, _, _, _, _, rfl, Nat.le_trans (putM_len _ _ _ _) (by omega), putM_nd knd, s8.put nd hk8 hdk8 hdv⟩
        · refine ⟨_, rfl, p, l, lr, ns, n + 3 * (15 - (i + 1)), _, rfl, s7.pa, SqL.of hlr7, by show 0 < 5; decide, by show 5 < 1000; decide, fun H10 f10 => SqL.of (f10 _ _ hlr7 lrp), fun vx H10 hvx PA10 fr10 => ?_⟩
          have s8 := s7.move fr10 Dp PA10
          obtain ⟨dv, hdv⟩ := right_of (H := H10) hc hvx
          have hk8 := keyv_move hk7 (s7.tupf fr10)
          have hdk8 := drawn_move hdk7 (s7.tupf fr10)
          refine ⟨_, rfl, _, rfl, d, kvs, _, rfl, s8.m, by rw [sizeLine_eq]; omega, hk8, ?_⟩
          exact ⟨_, _, _, _, _, _, rfl, Nat.le_trans (putM_len _ _ _ _) (by omega), putM_nd knd, s8.put nd hk8 hdk8 hdv⟩
    · rintro σ H4 ⟨kvs, v3, v4, v5, v6, v7, rfl, kl, knd, s⟩
      rw [lets_len] at kl
      exact ⟨_, rfl, q d kvs H4 nd (s.pa.less (by omega)) s.fr s.m (by omega) knd s.hv⟩
end
end V8

set_option Elab.async false
set_option linter.all false
set_option maxRecDepth 100000
set_option maxHeartbeats 8000000
set_option pp.maxSteps 2000
/-! What is heard, as the law hears it; what stays of a heap. -/
namespace L2
open PySem PySem.Spec PyProof.Rows
theorem op_repS2 {X : Cx} : OpR X (binaryOp .Mult) (fun x y H Q => ∃ z k, x = .str z ∧ y = .int k ∧ z.length ≤ 4 ∧ 0 ≤ k ∧ k ≤ 3000 ∧ Q (.str (Txt.mul z k)) H) := by
  intro pins s σ H x y v u Q I rx ry h
  obtain ⟨z, k, rfl, rfl, hz, k0, k1, q⟩ := h
  obtain ⟨t, rfl⟩ := rx
  obtain ⟨t', rfl⟩ := ry
  exact SB.mul (PyProof.Rows.mulOk_of 4 3000 hz k1 (by omega) (by decide) (by decide)) fun t' tk => ⟨.str _, H, I.tok _, ⟨_, rfl⟩, q⟩
end L2
namespace V8
open PySem PySem.Spec PyProof.Rows L2 MX SetT LamX PySem.Builtin.Str
abbrev s__law_others_right : Stmt := topS 43
abbrev n__law_others_right : List Str := ["_law_pen_here", "_law_odd", "_law_made", "_law_heard_here", "_law_key"]
theorem sc__law_others_right : FnScope ["_law_pen_here", "_law_odd", "_law_made", "_law_heard_here", "_law_key"] ["_law_pen_here", "_law_odd"] (defScope s__law_others_right) := ⟨rfl, rfl, rfl, by decide +kernel, rfl, by decide +kernel, by decide +kernel⟩
abbrev s_law : Stmt := topS 44
abbrev n_law : List Str := ["_law_script", "_law_pen_here", "_law_turn", "_law_shapes", "_law_odd", "_law_stays", "_law_none", "_law_heard_here"]
theorem sc_law : FnScope ["_law_script", "_law_pen_here", "_law_turn", "_law_shapes", "_law_odd", "_law_stays", "_law_none", "_law_heard_here"] ["_law_script"] (defScope s_law) := ⟨rfl, rfl, rfl, by decide +kernel, rfl, by decide +kernel, by decide +kernel⟩
theorem fold_app (a : Array Nat) : ∀ (k : Nat) (acc : Array Nat), (List.replicate k a).foldl (fun x y => x ++ y) acc = acc ++ ((List.replicate k a.toList).flatten).toArray
  | 0, acc => by simp
  | k + 1, acc => by
    rw [List.replicate_succ, List.foldl_cons, fold_app a k]
    apply Array.toList_inj.mp
    simp [List.replicate_succ, List.append_assoc]
theorem mul_Sx (s : List Nat) (k : Nat) (h : 2 ≤ k) (hs : s ≠ []) : Txt.mul (Sx s) ((k : Nat) : Int) = Sx (List.replicate k s).flatten := by
  have hl : (Sx s).length ≠ 0 := by
    rw [Sx_len]
    exact fun z => hs (List.length_eq_zero_iff.mp z)
  unfold Txt.mul
  rw [if_neg (by omega), if_neg (by
    rw [Bool.or_eq_true, beq_iff_eq, beq_iff_eq]
    rintro (z | z)
    · omega
    · exact hl z)]
  have e : ((k : Nat) : Int).toNat = k := Int.toNat_natCast k
  rw [e, fold_app]
  show (⟨#[] ++ ((List.replicate k s.toArray.toList).flatten).toArray⟩ : Str) = ⟨_⟩
  congr 1
  simp
theorem flat_one (k c : Nat) : (List.replicate k [c]).flatten = List.replicate k c := by
  induction k with
  | zero => rfl
  | succ k ih => rw [List.replicate_succ, List.flatten_cons, ih, List.replicate_succ]; rfl
theorem quote_letters {w : List Nat} (h : ∀ c ∈ w, isLt c) : reprText (Sx w) = Sx (39 :: (w ++ [39])) := by
  have hq : reprQuote (Sx w) = 39 := by
    unfold reprQuote
    have : (Sx w).cps.contains 39 = false := by
      cases z : (Sx w).cps.contains 39 with
      | false => rfl
      | true =>
        have m := Array.contains_iff_mem.mp z
        have m2 : 39 ∈ w := by
          have := Array.mem_toList_iff.mpr m
          exact this |> fun z => by
            have e : (Sx w).cps.toList = w := by show w.toArray.toList = w; simp
            rw [e] at z
            exact z
        have := h _ m2
        exact absurd this (by decide)
    rw [this]
    rfl
  have one : ∀ c, isLt c → reprChar 39 c = [c] := fun c hc => (show ∀ c ∈ abc, reprChar 39 c = [c] by decide +kernel) c (abc_mem.mpr hc)
  have fold : ∀ (l : List Nat) (acc : Array Nat), (∀ c ∈ l, isLt c) → l.foldl (fun out c => out ++ (reprChar 39 c).toArray) acc = acc ++ l.toArray := by
    intro l
    induction l with
    | nil => intro acc _; simp
    | cons a r ih =>
      intro acc hl
      rw [List.foldl_cons, one a (hl a (List.mem_cons_self ..)), ih _ fun c hc => hl c (List.mem_cons_of_mem _ hc)]
      apply Array.toList_inj.mp
      simp
  unfold reprText
  rw [hq, ← Array.foldl_toList]
  have e : (Sx w).cps.toList = w := by show w.toArray.toList = w; simp
  rw [e, fold w _ h]
  show (⟨_⟩ : Str) = ⟨_⟩
  congr 1
  apply Array.toList_inj.mp
  simp
/-- all but the pen and the tables stays -/
def Mv (p : Addr) (H H' : Hp) : Prop := ∀ b o, H b = some o → b ≠ p → (∀ ps, o ≠ .tbl ps) → H' b = some o
theorem Mv.refl {p : Addr} {H : Hp} : Mv p H H := fun _ _ e _ _ => e
theorem Mv.trans {p : Addr} {H H1 H2 : Hp} (a : Mv p H H1) (b : Mv p H1 H2) : Mv p H H2 := fun c o e n t => b c o (a c o e n t) n t
theorem Mv.ofFr {p : Addr} {H H' : Hp} (f : Fr p H H') : Mv p H H' := fun b o e n _ => f b o e n
theorem Mv.ofExt {p : Addr} {H H' : Hp} (f : ExtN H H') : Mv p H H' := fun b o e _ t => f b o e t
theorem Mv.ofSame {p : Addr} {H H' : Hp} (f : Same H H') : Mv p H H' := fun b o e _ _ => f b o e
/-- where the pen is -/
def PenL (H : Hp) (p : Addr) : Prop := ∃ xs, H p = some (.lst xs)
theorem Mv.at {p b : Addr} {H H' : Hp} {o : HO} (m : Mv p H H') (P : PenL H p) (e : H b = some o) (l : ∀ xs, o ≠ .lst xs) (t : ∀ ps, o ≠ .tbl ps) : H' b = some o := m _ _ e (fun z => by
  obtain ⟨xs, h⟩ := P
  rw [z, h] at e
  exact l xs (Option.some.inj e).symm) t
theorem PenAt.pl {H : Hp} {p l : Addr} {ns : List Int} {n : Nat} (P : PenAt H p l ns n) : PenL H p := P.pen
theorem tabs_fr {T : List (Addr × Str)} {p : Addr} {H H' : Hp} (t : Tabs T H) (P : PenL H p) (e : Fr p H H') : Tabs T H' := fun q hq => by
  obtain ⟨ps, h1, h2, h3⟩ := t q hq
  obtain ⟨xs, hp⟩ := P
  have off : ∀ {b : Addr} {o : HO}, H b = some o → (∀ ys, o ≠ .lst ys) → H' b = some o := fun {b o} e1 n => e b o e1 fun z => by
    rw [z, hp] at e1
    exact n _ (Option.some.inj e1).symm
  refine ⟨ps, off h1 (fun _ z => nomatch z), h2, fun pos cv hc => ?_⟩
  obtain ⟨c, e1, e2⟩ := h3 pos cv hc
  exact ⟨c, e1, off e2 (fun _ z => nomatch z)⟩
theorem pen_ext {H H' : Hp} {p l : Addr} {ns : List Int} {n : Nat} (P : PenAt H p l ns n) (s : ExtN H H') : PenAt H' p l ns n := by
  obtain ⟨⟨a, g, h1, h2, h3, h4⟩, i, e, sh⟩ := P
  exact ⟨⟨a, g, s _ _ h1 (fun _ z => nomatch z), h2, h3, h4⟩, s _ _ i (fun _ z => nomatch z), e, sh⟩
section
variable {P : Program} {w : World} {K : PySem.W.Frag} {mg : Str → Option Value} {base : Heap}
theorem FunC.okG {x qual : Str} {st : Stmt} {f c : Addr} {fd : FuncData} {N ps : List Str} {k : Nat} {sp : Sp} (F : FunC K x qual st f c fd) (S : FnScope N ps (defScope st)) (count : ∀ (xs : List V) (H : Hp) (Q : VK) (E : XK), sp xs H Q E → xs.length = ps.length)
    (body : ∀ (A : Around) (outer : List Env) (s : Shared) (H : Hp) (xs : List V) (Q : VK) (E : XK), Quiet A → Room k (A.deeper (envOfC qual (defScope st) s.heap.objs.size f (.ref c))) → sp xs H Q E →
      ∃ t, PSs (cxOf CX0 P w K mg base N qual (defScope st) f (.ref c) A outer s H E).nox (defBody st) t ∧ t { nx := fun _ H2 => Q .non H2, rt := Q } (L2.start N xs) H) : FnG P w K mg base CX0 (k + 1) f fd ps sp := by
  obtain ⟨oc, od, kV, doc, pm, an, ct, osl, e, look, ci⟩ := F.ex
  subst e
  refine ⟨count, fun A outer s H args us xs Q E g r e0 b v h => LamX.run_ofS look ci S r e0 b v (count _ _ _ _ h) fun r2 => ?_⟩
  obtain ⟨t, h1, h2⟩ := body A outer s H xs Q E g r2 h
  exact ⟨t, h1.nox, h2⟩
end
theorem eq_same {K : PySem.W.Frag} {H : Hp} {Q : VK} {x y : V} {d : PyData} (hx : Dp K H x d) (hy : Dp K H y d) (sh : SeqAt.shaped d = true) (q : Q (.bl true) H) : rEqD K x y H Q := by
  refine ⟨d, d, hx, hy, sh, sh, ?_⟩
  rw [SeqAt.eqv_refl d (SeqAt.canLay_of_shaped sh)]
  exact q
theorem neD_same {K : PySem.W.Frag} {H : Hp} {Q : VK} {x y : V} {d : PyData} (hx : Dp K H x d) (hy : Dp K H y d) (sh : SeqAt.shaped d = true) (q : Q (.bl false) H) : rNeD K x y H Q := by
  refine ⟨d, d, hx, hy, sh, sh, ?_⟩
  rw [SeqAt.eqv_refl d (SeqAt.canLay_of_shaped sh)]
  exact q
/-! ### heard -/
def hrD : Option (Str × Str) → PyData
  | none => .none
  | some p => .list [.str p.1, .str p.2]
def OkO (o : Option (Str × Str)) : Prop := ∀ p, o = some p → PyData.strOk p.1 = true ∧ PyData.strOk p.2 = true
theorem hr_dp {K : PySem.W.Frag} {H : Hp} {v : V} {o : Option (Str × Str)} (h : HrV H v o) : Dp K H v (hrD o) := by
  cases o with
  | none =>
    obtain rfl : v = .non := h
    exact .non
  | some p =>
    obtain ⟨l, rfl, e⟩ := h
    exact .lst (SqL.of e) (.cons (.str _) (.cons (.str _) .nil))
theorem hr_lay {o : Option (Str × Str)} (h : OkO o) : (hrD o).canLay0 = true := by
  cases o with
  | none => rfl
  | some p =>
    obtain ⟨h1, h2⟩ := h p rfl
    simp only [hrD, PyData.canLay0, PyData.canLayAll0, h1, h2, Bool.and_true]
theorem hr_dep (o : Option (Str × Str)) : (hrD o).depth ≤ 1 := by
  cases o with
  | none => simp [hrD, PyData.depth]
  | some p => simp [hrD, PyData.depth, PyData.depthAll]
theorem hr_shaped {o : Option (Str × Str)} (h : OkO o) : SeqAt.shaped (hrD o) = true := shaped_of (hr_lay h) (by have := hr_dep o; omega)
theorem hr_ext {H H2 : Hp} {v : V} {o : Option (Str × Str)} (h : HrV H v o) (s : ExtN H H2) : HrV H2 v o := by
  cases o with
  | none => exact h
  | some p =>
    obtain ⟨l, e1, e2⟩ := h
    exact ⟨l, e1, s _ _ e2 (fun _ z => nomatch z)⟩
theorem hr_mv {p0 : Addr} {H H2 : Hp} {v : V} {o : Option (Str × Str)} (h : HrV H v o) (s : Mv p0 H H2) (n : ∀ a, v = .ref a → a ≠ p0) : HrV H2 v o := by
  cases o with
  | none => exact h
  | some p =>
    obtain ⟨l, e1, e2⟩ := h
    exact ⟨l, e1, s _ _ e2 (n l e1) (fun _ z => nomatch z)⟩
def BadOk : Bad → Prop
  | .one i d => i < 5 ∧ NiceD d
  | .many wh m => PyData.strOk wh = true ∧ NiceD (.int m)
theorem word_ok (i : Nat) : PyData.strOk (wordOf i) = true := by
  match i with
  | 0 => decide +kernel
  | 1 => decide +kernel
  | 2 => decide +kernel
  | 3 => decide +kernel
  | _ + 4 => show PyData.strOk "barred" = true; decide +kernel
theorem bad_ok {b : Bad} (h : BadOk b) : OkO (some (hearB b)) := fun p e => by
  cases e
  cases b with
  | one i d => exact ⟨word_ok i, h.2.sh⟩
  | many wh m => exact ⟨h.1, h.2.sh⟩
theorem out_hear {Cz : Nat → Addr} {H : Hp} {b : Bad} {Q : VK} (nb : BadOk b) (k : ∀ v H2, Same H H2 → HrV H2 v (some (hearB b)) → Q v H2) : OutB Cz H b (HearE Cz Q) := by
  cases b with
  | one i d => exact fun dd y H2 s p e => ⟨dd, rfl, .inl ⟨i, y, d, nb.1, rfl, p, nb.2.te, e, fun v H3 s3 hv => k v H3 (fun b o z => s3 _ _ (s _ _ z)) hv⟩⟩
  | many wh m => exact fun dd H2 s e => ⟨dd, rfl, .inr ⟨wh, m, rfl, nb.2.te, e, fun v H3 s3 hv => k v H3 (fun b o z => s3 _ _ (s _ _ z)) hv⟩⟩
/-- what is heard of a lambda, by what it does -/
theorem heard_end {TL : List (Addr × Str)} {Cz : Nat → Addr} {t : XK → TE} {σ : L2.St} {H : Hp} {Q : VK} (o : Option (Str × Str)) (tb : Tabs TL H)
    (body : ∀ (H1 : Hp) (E : XK) (R : VK), ExtN H H1 → Tabs TL H1 → (∀ b, BadOk b → o = some (hearB b) → OutB Cz H1 b E) → (o = none → ∀ v H2, Same H1 H2 → R v H2) → t E σ H1 R) (q : ∀ v H2, ExtN H H2 → Tabs TL H2 → HrV H2 v o → Q v H2) : tLamG TL (TTheard Cz) t σ H Q := by
  refine ⟨tb, fun H1 e1 tb1 R H2 hR s2 => body H2 _ R (e1.trans (ExtN.of s2)) (tb1.ext s2) (fun b nb eo => ?_) (fun eo v H3 s3 => hR v H3 fun H4 s4 => ?_)⟩
  · exact out_hear nb fun v H3 s3 hv => q v H3 ((e1.trans (ExtN.of s2)).trans (ExtN.of s3)) ((tb1.ext s2).ext s3) (eo ▸ hv)
  · refine q .non H4 (((e1.trans (ExtN.of s2)).trans (ExtN.of s3)).trans (ExtN.of s4)) (((tb1.ext s2).ext s3).ext s4) ?_
    rw [eo]
    rfl
/-! ### what stays -/
theorem held_shape {H : Hp} {a : Addr} {d : PyData} (h : Held H (.ref a) d) : ∃ o, H a = some o ∧ (∀ ps, o ≠ .tbl ps) := by
  rcases h.tl with f | ⟨b, xs, e, hb, l, g⟩ | ⟨b, kvs, e, hb, l, n, g⟩
  · rcases f with ⟨z, e⟩ | ⟨i, e⟩ | e | ⟨b, e⟩ <;> cases e
  · cases e
    rcases hb with hb | hb
    · exact ⟨_, hb, fun _ z => nomatch z⟩
    · exact ⟨_, hb, fun _ z => nomatch z⟩
  · cases e
    exact ⟨_, hb, fun _ z => nomatch z⟩
theorem held_mv {p : Addr} {H H2 : Hp} {x : V} {d : PyData} (h : Held H x d) (np : ∀ a, x = .ref a → a ≠ p) (m : Mv p H H2) : Held H2 x d := held_move h fun b o e hb => by
  subst e
  obtain ⟨o2, e2, n2⟩ := held_shape h
  rw [hb] at e2
  cases e2
  exact m _ _ hb (np b rfl) n2
theorem mis_mv {p C x : Addr} {H H2 : Hp} {u : Tab} (m : MisAt C H x u) (P : PenL H p) (s : Mv p H H2) : MisAt C H2 x u := by
  obtain ⟨dx, a, b, c, h1, h2, h3, h4⟩ := m.at_
  exact ⟨dx, a, b, c, s.at P h1 (fun _ z => nomatch z) (fun _ z => nomatch z), s.at P h2 (fun _ z => nomatch z) (fun _ z => nomatch z), s.at P h3 (fun _ z => nomatch z) (fun _ z => nomatch z), s.at P h4 (fun _ z => nomatch z) (fun _ z => nomatch z)⟩
theorem f3_no {a b c : Addr} {m : Str} (h1 : ¬ m = "changed") (h2 : ¬ m = "_images") (h3 : ¬ m = "_letters") : (f3 a b c).lookup m = none := by
  unfold f3 f2 f1
  rw [lookup_putF, if_neg h1, lookup_putF, if_neg h2, lookup_putF, if_neg h3]
  rfl
def u0 : Tab := toldT [99] [(97, [98])]
theorem u0_keys : keysOf u0 = [97, 99] := by decide +kernel
theorem u0_a : lookT u0 97 = some [98] := by decide +kernel
theorem u0_len : u0.length ≤ 12 := by decide +kernel
theorem good_ab : GoodT abc [(97, [98])] := ⟨by decide, by decide, fun q hq => by
  rw [List.mem_singleton.mp hq]
  exact ⟨by decide, by decide, by decide⟩⟩
theorem merge_ab : mergeK [] [((Sum.inr ("a" : Str) : Key), V.str "b")] = encT [(97, [98])] := by decide +kernel
theorem grow_mv {H : Hp} {b : Addr} {o : HO} : Mv b H (upd H b o) := fun c u e nc _ => by
  rw [upd_ne nc]
  exact e
theorem lay_cons {d : PyData} {ds : List PyData} (h : d.canLay0 = true) (r : PyData.canLayAll0 ds = true) : PyData.canLayAll0 (d :: ds) = true := by
  simp only [PyData.canLayAll0, h, r, Bool.and_true]
theorem hr_list_shaped {os : List (Option (Str × Str))} (h : ∀ o ∈ os, OkO o) : SeqAt.shaped (.list (os.map hrD)) = true := by
  refine shaped_of (lay_pair fun d hd => ?_) (dep_list fun d hd => ?_)
  · obtain ⟨o, ho, rfl⟩ := List.mem_map.mp hd
    exact hr_lay (h o ho)
  · obtain ⟨o, ho, rfl⟩ := List.mem_map.mp hd
    exact hr_dep o
theorem hr_new {H : Hp} {l : Addr} {a b : Str} : HrV (upd H l (.lst [.str a, .str b])) (.ref l) (some (a, b)) := ⟨l, rfl, upd_same⟩
theorem nice_bool (b : Bool) : NiceD (.bool b) := by
  cases b
  · exact ⟨⟨by simp [PyData.showable], by simp [PyData.depth], by decide +kernel⟩, by decide +kernel, by simp [PyData.depth], by decide +kernel, fun z e => nomatch e⟩
  · exact ⟨⟨by simp [PyData.showable], by simp [PyData.depth], by decide +kernel⟩, by decide +kernel, by simp [PyData.depth], by decide +kernel, fun z e => nomatch e⟩
theorem nice_lst : NiceD (.list [.str "a"]) := ⟨⟨by simp [PyData.showable, PyData.showableAll], by simp [PyData.depth, PyData.depthAll], by decide +kernel⟩, by decide +kernel, by simp [PyData.depth, PyData.depthAll], by decide +kernel, fun z e => nomatch e⟩
theorem nice_dict : NiceD (.dict []) := ⟨⟨by decide +kernel, by decide +kernel, by decide +kernel⟩, by decide +kernel, by decide +kernel, by decide +kernel, fun z e => nomatch e⟩
theorem held_non {H : Hp} : Held H .non .none := ⟨.inl (.inr (.inr (.inl rfl))), .non, nice_non⟩
theorem held_int {H : Hp} {i : Int} (n : NiceD (.int i)) : Held H (.int i) (.int i) := ⟨.inl (.inr (.inl ⟨i, rfl⟩)), .int i, n⟩
theorem held_bl {H : Hp} (b : Bool) : Held H (.bl b) (.bool b) := ⟨.inl (.inr (.inr (.inr ⟨b, rfl⟩))), .bl b, nice_bool b⟩
theorem held_lst {H : Hp} {t : Addr} (h : H t = some (.lst [.str "a"])) : Held H (.ref t) (.list [.str "a"]) := by
  refine ⟨.inr (.inl ⟨t, _, rfl, .inr h, by decide, fun y hy => ?_⟩), .lst h (.cons (.str _) .nil), nice_lst⟩
  rw [List.mem_singleton.mp hy]
  exact .inl ⟨_, rfl⟩
theorem held_dict {H : Hp} {t : Addr} (h : H t = some (.dK [])) : Held H (.ref t) (.dict []) := ⟨.inr (.inr ⟨t, [], rfl, h, by decide, List.nodup_nil, fun y hy => absurd hy List.not_mem_nil⟩), .dic (ds := []) h .nil, nice_dict⟩
theorem np_flat {p : Addr} {v : V} (h : ∀ a, v ≠ .ref a) : ∀ a, v = .ref a → a ≠ p := fun a e => absurd e (h a)
theorem np_ref {p t : Addr} (h : t ≠ p) : ∀ a, V.ref t = .ref a → a ≠ p := fun a e => by
  cases e
  exact h
/-- what stands for a letter and is none -/
theorem key9_of {H : Hp} {p t l d : Addr} {v : V} (ht : H t = some (.tup [.str "a"])) (hl : H l = some (.lst [.str "a"])) (hd : H d = some (.dK [])) (tp : t ≠ p) (lp : l ≠ p) (dp : d ≠ p)
    (h : v ∈ [V.non, .int 0, .str "", .str "A", .str "ab", .ref t, .ref l, .ref d, .bl true]) : ∃ k, Held H v k ∧ (∀ a, v = .ref a → a ≠ p) ∧ wordD 1 1 k = false := by
  simp only [List.mem_cons, List.not_mem_nil, or_false] at h
  rcases h with rfl | rfl | rfl | rfl | rfl | rfl | rfl | rfl | rfl
  · exact ⟨_, held_non, np_flat (fun _ z => nomatch z), rfl⟩
  · exact ⟨_, held_int nice_0, np_flat (fun _ z => nomatch z), rfl⟩
  · exact ⟨_, (drawn_str (by decide +kernel)).held, np_flat (fun _ z => nomatch z), by decide +kernel⟩
  · exact ⟨_, (drawn_str (by decide +kernel)).held, np_flat (fun _ z => nomatch z), by decide +kernel⟩
  · exact ⟨_, (drawn_str (by decide +kernel)).held, np_flat (fun _ z => nomatch z), by decide +kernel⟩
  · exact ⟨_, (drawn_tup ht).held, np_ref tp, rfl⟩
  · exact ⟨_, held_lst hl, np_ref lp, rfl⟩
  · exact ⟨_, held_dict hd, np_ref dp, rfl⟩
  · exact ⟨_, held_bl true, np_flat (fun _ z => nomatch z), rfl⟩
theorem str_b : ("b" : Str) = L1 98 := by decide +kernel
theorem str_a : ("a" : Str) = L1 97 := by decide +kernel
def cs14 : List Nat := [97, 98, 99, 100, 101, 102, 103, 104, 105, 106, 107, 108, 109, 110, 97, 97, 97]
theorem str_14 : ("abcdefghijklmnaaa" : Str) = Sx cs14 := by decide +kernel
theorem len_14 : 12 < (toldT cs14 []).length := by decide +kernel
def cs12 : List Nat := [97, 98, 99, 100, 101, 102, 103, 104, 105, 106, 107, 108, 97, 98, 99]
theorem str_12 : ("abcdefghijklabc" : Str) = Sx cs12 := by decide +kernel
theorem len_12 : (toldT cs12 []).length ≤ 12 := by decide +kernel
end V8

set_option Elab.async false
set_option linter.all false
set_option maxRecDepth 100000
set_option maxHeartbeats 16000000
set_option pp.maxSteps 1500
/-! The other makers and [ ]. -/
namespace V8
open PySem PySem.Spec PyProof.Rows L2 MX SetT LamX
def spOthers (TL : List (Addr × Str)) : Sp := fun vs H Q _ => ∃ (p l : Addr) (ns : List Int) (n : Nat) (v : V) (d : PyData), vs = [.ref p, v] ∧ PenAt H p l ns (n + 1) ∧ Tabs TL H ∧ Held H v d ∧ (∀ a, v = .ref a → a ≠ p) ∧ wordD 0 2000 d = false ∧ ∀ H2, PenAt H2 p l ns n → Tabs TL H2 → Q (.bl true) H2
section
variable {P : Program} {w : World} {K : PySem.W.Frag} {mg : Str → Option Value} {base : Heap} {CM CJ CE g c PT : Addr} {Cz : Nat → Addr} {TL : List (Addr × Str)}
theorem ok_others {f : Addr} {fd : FuncData} (F : FunC K "_law_others_right" "_law_others_right" s__law_others_right f c fd) (T : Th K mg CM CJ CE Cz) (sys : SysIn base) (D_pick : Df P w K mg base 2 "_law_pick" (spPick K)) (D_mk : MkA P w K mg base CM CJ Cz) (D_only : MfG P w K mg base (L2.CX P w) 6 CM "only" (spOnlyX Cz))
    (D_same : SmG P w K mg base (L2.CX P w) 8 CM "same" (spSameA Cz)) (D_get : MfG P w K mg base (L2.CX P w) 5 CM "__getitem__" (spGetA CM Cz)) (D_heard : HearD K mg g) (TB : TabT base mg TL (("_law_others_right" : Str) ++ ".<locals>.") c PT) : FnG P w K mg base CX0 12 f fd ["_law_pen_here", "_law_odd"] (spOthers TL) := by
  refine F.okG sc__law_others_right (fun vs H Q E h => ?_) (fun A outer s H vs Q E quiet hr h => ?_)
  · obtain ⟨p, l, ns, n, v, d, rfl, _⟩ := h
    rfl
  · obtain ⟨p, l, ns, n, v, d, rfl, PA, tb, hd, np, wd, q⟩ := h
    refine ⟨_, (pss_cons (ps_set (i := 2) sc__law_others_right.nd rfl (.inr rfl) (pe_mkA2 D_mk quiet passL hr (by decide) (by rfl) (pa_cons (pe_disp (pps_cons pe_str pe_str pps_nil) (by rfl) (by rfl) (fun z => by cases z) (by decide)) (pa_cons pe_str pa_nil))))
      (pss_cons (ps_set (i := 3) sc__law_others_right.nd rfl (.inl rfl) (pe_lst (pa_cons (pe_heardG (k := 8) T D_heard TB sys quiet hr (by decide) rfl rfl (by rfl) (lamS_by (sc := defScope s__law_others_right) (by decide +kernel)) (by rfl) (fun _ _ _ _ _ => rfl) (fun A2 o2 s2 H2 E2 f2 c2 quiet2 hr2 => (pe_mtG (pv 2) T.cl D_only quiet2 (passTk (takes_of rfl rfl rfl rfl)) hr2 (by decide) (pa_cons (pv 1) pa_nil)))) pa_nil)))
      (pss_cons (ps_expr (pe_bmK (K := K) rfl PySem.F.plainAttrs_list PySem.F.slot_list_append PySem.F.type_list_append mt_append (pv 3) (pa_cons (pe_heardG (k := 8) T D_heard TB sys quiet hr (by decide) rfl rfl (by rfl) (lamS_by (sc := defScope s__law_others_right) (by decide +kernel)) (by rfl) (fun _ _ _ _ _ => rfl) (fun A2 o2 s2 H2 E2 f2 c2 quiet2 hr2 => (pe_smG (pe_gv T.gMisreading (by rfl)) D_same quiet2 (passTk (takes_of rfl rfl rfl rfl)) hr2 (by decide) (pa_cons (pv 1) pa_nil)))) pa_nil)))
      (pss_cons (ps_if (pt_cmpR (op_neDK (K := K) rfl hr.units) (pv 3) (pe_op op_rep (pe_lst (pa_cons (pe_lst (pa_cons pe_str (pa_cons (pe_callB (call_reprW sys quiet hr) (by rfl) T.repr (by decide +kernel) (pa_cons (pv 1) pa_nil)) pa_nil))) pa_nil)) pe_int) (nomark _))
        (pss_one (ps_ret pe_bl))
        pss_nil)
      (pss_cons (ps_set (i := 4) sc__law_others_right.nd rfl (.inr rfl) (pe_c D_pick hr (by decide) (by rfl) (pa_cons (pv 0) (pa_cons (pe_lst (pa_cons pe_non (pa_cons pe_int (pa_cons pe_str (pa_cons pe_str (pa_cons pe_str (pa_cons (pe_tup (pa_cons pe_str pa_nil)) (pa_cons (pe_lst (pa_cons pe_str pa_nil)) (pa_cons pe_dnewK (pa_cons pe_bl pa_nil)))))))))) pa_nil))))
      (pss_cons (ps_set (i := 3) sc__law_others_right.nd rfl (.inl rfl) (pe_lst (pa_cons (pe_heardG (k := 8) T D_heard TB sys quiet hr (by decide) rfl rfl (by rfl) (lamS_by (sc := defScope s__law_others_right) (by decide +kernel)) (by rfl) (fun _ _ _ _ _ => rfl) (fun A2 o2 s2 H2 E2 f2 c2 quiet2 hr2 => (pe_ixG D_get quiet2 (passTk (takes_of rfl rfl rfl rfl)) hr2 (by decide) (pv 2) (pv 4)))) pa_nil)))
      (pss_cons (ps_expr (pe_bmK (K := K) rfl PySem.F.plainAttrs_list PySem.F.slot_list_append PySem.F.type_list_append mt_append (pv 3) (pa_cons (pe_heardG (k := 8) T D_heard TB sys quiet hr (by decide) rfl rfl (by rfl) (lamS_by (sc := defScope s__law_others_right) (by decide +kernel)) (by rfl) (fun _ _ _ _ _ => rfl) (fun A2 o2 s2 H2 E2 f2 c2 quiet2 hr2 => (pe_ixG D_get quiet2 (passTk (takes_of rfl rfl rfl rfl)) hr2 (by decide) (pv 2) pe_str))) pa_nil)))
      (pss_cons (ps_expr (pe_bmK (K := K) rfl PySem.F.plainAttrs_list PySem.F.slot_list_append PySem.F.type_list_append mt_append (pv 3) (pa_cons (pe_heardG (k := 8) T D_heard TB sys quiet hr (by decide) rfl rfl (by rfl) (lamS_by (sc := defScope s__law_others_right) (by decide +kernel)) (by rfl) (fun _ _ _ _ _ => rfl) (fun A2 o2 s2 H2 E2 f2 c2 quiet2 hr2 => (pe_ixG D_get quiet2 (passTk (takes_of rfl rfl rfl rfl)) hr2 (by decide) (pv 2) pe_str))) pa_nil)))
      (pss_cons (ps_if (pt_cmpR (op_neDK (K := K) rfl hr.units) (pv 3) (pe_lst (pa_cons (pe_lst (pa_cons pe_str (pa_cons (pe_callB (call_reprW sys quiet hr) (by rfl) T.repr (by decide +kernel) (pa_cons (pv 4) pa_nil)) pa_nil))) (pa_cons (pe_lst (pa_cons pe_str (pa_cons pe_str pa_nil))) (pa_cons pe_non pa_nil)))) (nomark _))
        (pss_one (ps_ret pe_bl))
        pss_nil)
      (pss_one (ps_ret (pe_cmpR (op_eqDK (K := K) rfl hr.units) (pe_heardG (k := 8) T D_heard TB sys quiet hr (by decide) rfl rfl (by rfl) (lamS_by (sc := defScope s__law_others_right) (by decide +kernel)) (by rfl) (fun _ _ _ _ _ => rfl) (fun A2 o2 s2 H2 E2 f2 c2 quiet2 hr2 => (pe_smG (pe_gv T.gMisreading (by rfl)) D_same quiet2 (passTk (takes_of rfl rfl rfl rfl)) hr2 (by decide) (pa_cons pe_str pa_nil)))) (pe_lst (pa_cons pe_str (pa_cons pe_str pa_nil))) (nomark _))))))))))))), ?_⟩
    -- made
    refine fun D nD => ⟨upd_same, [(Sum.inr "a", V.str "b")], rfl, by decide, .inl ?_⟩
    rw [merge_ab, upd_upd]
    have sD := same_put (s := Same.refl H) (o := .dK (encT [(97, [98])])) nD
    refine ⟨D, abc, [99], [(97, [98])], rfl, upd_same, good_ab, ⟨u0_len, by rw [abc_len]; exact Nat.le_refl _⟩, fun c hc => abc_mem.mp hc, by decide, by decide, fun x H1 nx mx sx => ?_⟩
    have s1 : Same H H1 := fun b o e => sx _ _ (sD _ _ e)
    have mx1 : MisAt CM H1 x u0 := mx.mis
    have PA1 := pen_ext PA (ExtN.of s1)
    have tb1 := tb.ext s1
    have hd1 := hd.same s1
    have nice := hd.ni
    clear nD sD sx s1 nx mx
    -- only
    refine heard_end (some (hearB (.one 3 d))) tb1 (fun H2 E2 R e2 tb2 hE hR => ?_) (fun w1 H2 e2 tb2 hw1 => ?_)
    · obtain ⟨dx, a1, b1, c1, h1, _⟩ := (mis_mv mx1 PA1.pl (Mv.ofExt e2)).at_
      exact ⟨_, rfl, x, dx, _, rfl, h1, f3_no (by decide +kernel) (by decide +kernel) (by decide +kernel), _, rfl, _, v, d, rfl, held_mv hd1 np (Mv.ofExt e2), wd, hE _ ⟨by decide, nice⟩ rfl⟩
    have PA2 := pen_ext PA1 e2
    have hd2 := held_mv hd1 np (Mv.ofExt e2)
    have mx2 := mis_mv mx1 PA1.pl (Mv.ofExt e2)
    refine ⟨by show 1 ≤ sizeLine; decide, fun hl nhl => ?_⟩
    have s3 := same_put (s := Same.refl H2) (o := .lst [w1]) nhl
    have PA3 := pen_ext PA2 (ExtN.of s3)
    have tb3 := tb2.ext s3
    have hd3 := hd2.same s3
    have mx3 := mis_same mx2 s3
    have hw3 := hr_ext hw1 (ExtN.of s3)
    have hl3 : upd H2 hl (.lst [w1]) hl = some (.lst [w1]) := upd_same
    have hlp : hl ≠ p := PA2.nep nhl
    have hll : hl ≠ l := PA2.nel nhl
    have hlv : ∀ a, v = .ref a → a ≠ hl := fun a e => by
      subst e
      obtain ⟨o, eo, _⟩ := held_shape hd2
      exact ne_of_none eo nhl
    have hlw : ∀ a, w1 = .ref a → a ≠ hl := fun a e => by
      subst e
      obtain ⟨l1, e1, e3⟩ := hw1
      cases e1
      exact ne_of_none e3 nhl
    generalize upd H2 hl (.lst [w1]) = H3 at s3 PA3 tb3 hd3 mx3 hw3 hl3 ⊢
    clear PA1 PA2 PA tb tb1 tb2 hd hd1 hd2 mx1 mx2 hw1 s3 nhl e2
    -- same
    refine ⟨_, rfl, .inl ⟨rfl, _, SqL.of hl3⟩, ?_⟩
    refine heard_end (some (hearB (.one 3 d))) tb3 (fun H4 E2 R e4 tb4 hE hR => ?_) (fun w2 H4 e4 tb4 hw4 => ?_)
    · exact ⟨rfl, _, rfl, v, rfl, .inl ⟨d, held_mv hd3 np (Mv.ofExt e4), wd, hE _ ⟨by decide, nice⟩ rfl⟩⟩
    have hl4 := e4 _ _ hl3 (fun _ z => nomatch z)
    have hw2n : ∀ a, w2 = .ref a → a ≠ hl := fun a e => by
      subst e
      obtain ⟨l1, e1, e3⟩ := hw4
      cases e1
      exact ne_of e3 hl4 (fun z => by cases z)
    refine ⟨hl, [w1], w2, rfl, rfl, hl4, by show 1 < sizeLine; decide, ?_⟩
    have PA5 := (pen_ext PA3 e4).other (o := .lst ([w1] ++ [w2])) hlp hll
    have tb5 : Tabs TL (upd H4 hl (.lst ([w1] ++ [w2]))) := tabs_fr tb4 ⟨_, hl4⟩ Fr.at
    have hd5 := held_mv (held_mv hd3 np (Mv.ofExt e4)) hlv (grow_mv (o := .lst ([w1] ++ [w2])))
    have mx5 := mis_mv (mis_mv mx3 PA3.pl (Mv.ofExt e4)) ⟨_, hl4⟩ (grow_mv (o := .lst ([w1] ++ [w2])))
    have hw51 := hr_mv (hr_ext hw3 e4) (grow_mv (o := .lst ([w1] ++ [w2]))) hlw
    have hw52 := hr_mv hw4 (grow_mv (o := .lst ([w1] ++ [w2]))) hw2n
    have hl5 : upd H4 hl (.lst ([w1] ++ [w2])) hl = some (.lst [w1, w2]) := upd_same
    dsimp only
    generalize upd H4 hl (.lst ([w1] ++ [w2])) = H5 at PA5 tb5 hd5 mx5 hw51 hw52 hl5 ⊢
    clear PA3 tb3 tb4 hd3 mx3 hw3 hw4 hl3 hl4 e4 hw2n hlw hlv
    -- both are refused
    refine ⟨_, rfl, _, rfl, v, d, rfl, hd5.pw, nice.te, by show 2 ≤ sizeLine; decide, fun l1 nl1 => ⟨by show 1 ≤ sizeLine; decide, fun l2 nl2 => ⟨l2, 2, _, rfl, rfl, upd_same, by decide, by decide, by show 1 * 2 ≤ sizeLine; decide, fun l3 nl3 => ?_⟩⟩⟩
    have s1 := same_put (s := Same.refl H5) (o := .lst [.str "word", .str d.shown]) nl1
    have s12 := same_put (s := Same.refl _) (o := .lst [.ref l1]) nl2
    have s23 := same_put (s := Same.refl _) (o := .lst [.ref l1, .ref l1]) nl3
    have hr1 : HrV (upd (upd (upd H5 l1 (.lst [.str "word", .str d.shown])) l2 (.lst [.ref l1])) l3 (.lst [.ref l1, .ref l1])) (.ref l1) (some (hearB (.one 3 d))) := hr_ext (hr_ext (hr_new (a := "word") (b := d.shown)) (ExtN.of s12)) (ExtN.of s23)
    have s5 : Same H5 (upd (upd (upd H5 l1 (.lst [.str "word", .str d.shown])) l2 (.lst [.ref l1])) l3 (.lst [.ref l1, .ref l1])) := fun b o e => s23 _ _ (s12 _ _ (s1 _ _ e))
    have h3 : upd (upd (upd H5 l1 (.lst [.str "word", .str d.shown])) l2 (.lst [.ref l1])) l3 (.lst [.ref l1, .ref l1]) l3 = some (.lst [.ref l1, .ref l1]) := upd_same
    show rNeD K _ _ (upd (upd (upd H5 l1 (.lst [.str "word", .str d.shown])) l2 (.lst [.ref l1])) l3 (.lst [.ref l1, .ref l1])) _
    generalize upd (upd (upd H5 l1 (.lst [.str "word", .str d.shown])) l2 (.lst [.ref l1])) l3 (.lst [.ref l1, .ref l1]) = H6 at hr1 s5 h3 ⊢
    have ok3 : OkO (some (hearB (.one 3 d))) := bad_ok ⟨by decide, nice⟩
    refine neD_same (d := .list ([some (hearB (.one 3 d)), some (hearB (.one 3 d))].map hrD)) (.lst (SqL.of (s5 _ _ hl5)) (.cons (hr_dp (hr_ext hw51 (ExtN.of s5))) (.cons (hr_dp (hr_ext hw52 (ExtN.of s5))) .nil))) (.lst (SqL.of h3) (.cons (hr_dp hr1) (.cons (hr_dp hr1) .nil))) (hr_list_shaped fun o ho => ?_) ⟨_, rfl, iteF ?_⟩
    · simp only [List.mem_cons, List.not_mem_nil, or_false, or_self] at ho
      rw [ho]
      exact ok3
    have PA6 := pen_ext PA5 (ExtN.of s5)
    have tb6 := tb5.ext s5
    have mx6 := mis_same mx5 s5
    clear nl1 nl2 nl3 s1 s12 s23 hr1 s5 h3 PA5 tb5 hd5 mx5 hw51 hw52 hl5
    -- the key
    refine ⟨_, rfl, by show 1 ≤ sizeLine; decide, fun t nt => ⟨by show 1 ≤ sizeLine; decide, fun l4 nl4 => fun d5 nd5 => ⟨by show 9 ≤ sizeLine; decide, fun lk nlk => ?_⟩⟩⟩
    have st := same_put (s := Same.refl H6) (o := .tup [.str "a"]) nt
    have s4 := same_put (s := Same.refl _) (o := .lst [.str "a"]) nl4
    have sd := same_put (s := Same.refl _) (o := .dK []) nd5
    have sk := same_put (s := Same.refl _) (o := .lst [V.non, .int 0, .str "", .str "A", .str "ab", .ref t, .ref l4, .ref d5, .bl true]) nlk
    have s7 : Same H6 (upd (upd (upd (upd H6 t (.tup [.str "a"])) l4 (.lst [.str "a"])) d5 (.dK [])) lk (.lst [V.non, .int 0, .str "", .str "A", .str "ab", .ref t, .ref l4, .ref d5, .bl true])) := fun b o e => sk _ _ (sd _ _ (s4 _ _ (st _ _ e)))
    have ht := sk _ _ (sd _ _ (s4 _ _ (show upd H6 t (.tup [.str "a"]) t = _ from upd_same)))
    have hl4 := sk _ _ (sd _ _ (show upd (upd H6 t (.tup [.str "a"])) l4 (.lst [.str "a"]) l4 = _ from upd_same))
    have hd5 := sk _ _ (show upd (upd (upd H6 t (.tup [.str "a"])) l4 (.lst [.str "a"])) d5 (.dK []) d5 = _ from upd_same)
    have hlk : upd (upd (upd (upd H6 t (.tup [.str "a"])) l4 (.lst [.str "a"])) d5 (.dK [])) lk (.lst [V.non, .int 0, .str "", .str "A", .str "ab", .ref t, .ref l4, .ref d5, .bl true]) lk = some (.lst [V.non, .int 0, .str "", .str "A", .str "ab", .ref t, .ref l4, .ref d5, .bl true]) := upd_same
    have tp := PA6.nep nt
    have PAt := pen_ext PA6 (ExtN.of st)
    have l4p := PAt.nep nl4
    have PAl := pen_ext PAt (ExtN.of s4)
    have d5p := PAl.nep nd5
    have PAd := pen_ext PAl (ExtN.of sd)
    have lkp := PAd.nep nlk
    have PA7 := pen_ext PAd (ExtN.of sk)
    have tb7 := tb6.ext s7
    have mx7 := mis_same mx6 s7
    show spPick K ([V.ref p, V.ref lk] ++ []) (upd (upd (upd (upd H6 t (.tup [.str "a"])) l4 (.lst [.str "a"])) d5 (.dK [])) lk (.lst [V.non, .int 0, .str "", .str "A", .str "ab", .ref t, .ref l4, .ref d5, .bl true])) _ E0
    generalize upd (upd (upd (upd H6 t (.tup [.str "a"])) l4 (.lst [.str "a"])) d5 (.dK [])) lk (.lst [V.non, .int 0, .str "", .str "A", .str "ab", .ref t, .ref l4, .ref d5, .bl true]) = H7 at s7 ht hl4 hd5 hlk PA7 tb7 mx7 ⊢
    clear nt nl4 nd5 nlk st s4 sd sk PAt PAl PAd PA6 tb6 mx6 s7
    refine ⟨p, l, lk, ns, n, _, rfl, PA7, SqL.of hlk, by show 0 < 9; decide, by show 9 < 1000; decide, fun H8 f8 => SqL.of (f8 _ _ hlk lkp), fun kv H8 hkv PA8 fr8 => ?_⟩
    obtain ⟨kd, hk8, knp, wk⟩ := key9_of (fr8 _ _ ht tp) (fr8 _ _ hl4 l4p) (fr8 _ _ hd5 d5p) tp l4p d5p hkv
    have tb8 := tabs_fr tb7 PA7.pl fr8
    have mx8 := mis_mv mx7 PA7.pl (Mv.ofFr fr8)
    have nk := hk8.ni
    clear ht hl4 hd5 hlk tp l4p d5p lkp hkv PA7 tb7 mx7 fr8
    -- made[key]
    refine heard_end (some (hearB (.one 1 kd))) tb8 (fun H9 E2 R e9 tb9 hE hR => ?_) (fun x1 H9 e9 tb9 hx1 => ?_)
    · have m9 := mis_mv mx8 PA8.pl (Mv.ofExt e9)
      obtain ⟨dx, a1, b1, c1, h1, _⟩ := m9.at_
      exact ⟨_, rfl, _, rfl, x, dx, _, rfl, h1, x, u0, kv, kd, rfl, m9, held_mv hk8 knp (Mv.ofExt e9), .inl ⟨wk, hE _ ⟨by decide, nk⟩ rfl⟩⟩
    have PA9 := pen_ext PA8 e9
    have hk9 := held_mv hk8 knp (Mv.ofExt e9)
    have mx9 := mis_mv mx8 PA8.pl (Mv.ofExt e9)
    refine ⟨by show 1 ≤ sizeLine; decide, fun h2 nh2 => ?_⟩
    have s10 := same_put (s := Same.refl H9) (o := .lst [x1]) nh2
    have PA10 := pen_ext PA9 (ExtN.of s10)
    have tb10 := tb9.ext s10
    have hk10 := hk9.same s10
    have mx10 := mis_same mx9 s10
    have hx10 := hr_ext hx1 (ExtN.of s10)
    have hh10 : upd H9 h2 (.lst [x1]) h2 = some (.lst [x1]) := upd_same
    have h2p : h2 ≠ p := PA9.nep nh2
    have h2l : h2 ≠ l := PA9.nel nh2
    have h2k : ∀ a, kv = .ref a → a ≠ h2 := fun a e => by
      subst e
      obtain ⟨o, eo, _⟩ := held_shape hk9
      exact ne_of_none eo nh2
    have h2x : ∀ a, x1 = .ref a → a ≠ h2 := fun a e => by
      subst e
      obtain ⟨l1, e1, e3⟩ := hx1
      cases e1
      exact ne_of_none e3 nh2
    generalize upd H9 h2 (.lst [x1]) = H10 at s10 PA10 tb10 hk10 mx10 hx10 hh10 ⊢
    clear PA8 PA9 tb8 tb9 hk8 hk9 mx8 mx9 hx1 s10 nh2 e9
    -- made["b"]
    refine ⟨_, rfl, .inl ⟨rfl, _, SqL.of hh10⟩, ?_⟩
    refine heard_end (some (hearB (.one 4 (.int 0)))) tb10 (fun H11 E2 R e11 tb11 hE hR => ?_) (fun x2 H11 e11 tb11 hx2 => ?_)
    · have m11 := mis_mv mx10 PA10.pl (Mv.ofExt e11)
      obtain ⟨dx, a1, b1, c1, h1, _⟩ := m11.at_
      exact ⟨_, rfl, x, dx, _, rfl, h1, x, u0, .str "b", .str "b", rfl, m11, (drawn_str (by decide +kernel)).held, .inr (.inl ⟨98, by decide, by rw [str_b], by rw [u0_keys]; decide, hE _ ⟨by decide, nice_0⟩ rfl⟩)⟩
    have hh11 := e11 _ _ hh10 (fun _ z => nomatch z)
    have h2y : ∀ a, x2 = .ref a → a ≠ h2 := fun a e => by
      subst e
      obtain ⟨l1, e1, e3⟩ := hx2
      cases e1
      exact ne_of e3 hh11 (fun z => by cases z)
    refine ⟨h2, [x1], x2, rfl, rfl, hh11, by show 1 < sizeLine; decide, ?_⟩
    have PA12 := (pen_ext PA10 e11).other (o := .lst ([x1] ++ [x2])) h2p h2l
    have tb12 : Tabs TL (upd H11 h2 (.lst ([x1] ++ [x2]))) := tabs_fr tb11 ⟨_, hh11⟩ Fr.at
    have hk12 := held_mv (held_mv hk10 knp (Mv.ofExt e11)) h2k (grow_mv (o := .lst ([x1] ++ [x2])))
    have mx12 := mis_mv (mis_mv mx10 PA10.pl (Mv.ofExt e11)) ⟨_, hh11⟩ (grow_mv (o := .lst ([x1] ++ [x2])))
    have hx12 := hr_mv (hr_ext hx10 e11) (grow_mv (o := .lst ([x1] ++ [x2]))) h2x
    have hy12 := hr_mv hx2 (grow_mv (o := .lst ([x1] ++ [x2]))) h2y
    have hh12 : upd H11 h2 (.lst ([x1] ++ [x2])) h2 = some (.lst [x1, x2]) := upd_same
    dsimp only
    generalize upd H11 h2 (.lst ([x1] ++ [x2])) = H12 at PA12 tb12 hk12 mx12 hx12 hy12 hh12 ⊢
    clear PA10 tb10 tb11 hk10 mx10 hx10 hx2 hh10 hh11 e11
    -- made["a"]
    refine ⟨_, rfl, .inl ⟨rfl, _, SqL.of hh12⟩, ?_⟩
    refine heard_end none tb12 (fun H13 E2 R e13 tb13 hE hR => ?_) (fun x3 H13 e13 tb13 hx3 => ?_)
    · have m13 := mis_mv mx12 PA12.pl (Mv.ofExt e13)
      obtain ⟨dx, a1, b1, c1, h1, _⟩ := m13.at_
      exact ⟨_, rfl, x, dx, _, rfl, h1, x, u0, .str "a", .str "a", rfl, m13, (drawn_str (by decide +kernel)).held, .inr (.inr ⟨97, [98], by rw [str_a], by rw [u0_keys]; decide, u0_a, hR rfl _ _ (Same.refl H13)⟩)⟩
    obtain rfl : x3 = .non := hx3
    have hh13 := e13 _ _ hh12 (fun _ z => nomatch z)
    refine ⟨h2, [x1, x2], .non, rfl, rfl, hh13, by show 2 < sizeLine; decide, ?_⟩
    have PA14 := (pen_ext PA12 e13).other (o := .lst ([x1, x2] ++ [.non])) h2p h2l
    have tb14 : Tabs TL (upd H13 h2 (.lst ([x1, x2] ++ [.non]))) := tabs_fr tb13 ⟨_, hh13⟩ Fr.at
    have hk14 := held_mv (held_mv hk12 knp (Mv.ofExt e13)) h2k (grow_mv (o := .lst ([x1, x2] ++ [.non])))
    have hx14 := hr_mv (hr_ext hx12 e13) (grow_mv (o := .lst ([x1, x2] ++ [.non]))) h2x
    have hy14 := hr_mv (hr_ext hy12 e13) (grow_mv (o := .lst ([x1, x2] ++ [.non]))) h2y
    have hh14 : upd H13 h2 (.lst ([x1, x2] ++ [.non])) h2 = some (.lst [x1, x2, .non]) := upd_same
    dsimp only
    generalize upd H13 h2 (.lst ([x1, x2] ++ [.non])) = H14 at PA14 tb14 hk14 hx14 hy14 hh14 ⊢
    clear PA12 tb12 tb13 hk12 mx12 hx12 hy12 hh12 hh13 e13
    -- as told
    refine ⟨_, rfl, _, rfl, kv, kd, rfl, hk14.pw, nk.te, by show 2 ≤ sizeLine; decide, fun l1 nl1 => ⟨by show 2 ≤ sizeLine; decide, fun l2 nl2 => ⟨by show 3 ≤ sizeLine; decide, fun l3 nl3 => ?_⟩⟩⟩
    have s1 := same_put (s := Same.refl H14) (o := .lst [.str "letter", .str kd.shown]) nl1
    have s12 := same_put (s := Same.refl _) (o := .lst [.str "barred", .str "0"]) nl2
    have s23 := same_put (s := Same.refl _) (o := .lst [.ref l1, .ref l2, .non]) nl3
    have hr1 : HrV (upd (upd (upd H14 l1 (.lst [.str "letter", .str kd.shown])) l2 (.lst [.str "barred", .str "0"])) l3 (.lst [.ref l1, .ref l2, .non])) (.ref l1) (some (hearB (.one 1 kd))) := hr_ext (hr_ext (hr_new (a := "letter") (b := kd.shown)) (ExtN.of s12)) (ExtN.of s23)
    have hr2 : HrV (upd (upd (upd H14 l1 (.lst [.str "letter", .str kd.shown])) l2 (.lst [.str "barred", .str "0"])) l3 (.lst [.ref l1, .ref l2, .non])) (.ref l2) (some (hearB (.one 4 (.int 0)))) := hr_ext (show HrV _ _ (some (("barred" : Str), (PyData.int 0).shown)) from by
      rw [show (PyData.int 0).shown = ("0" : Str) from by decide +kernel]
      exact hr_new) (ExtN.of s23)
    have s5 : Same H14 (upd (upd (upd H14 l1 (.lst [.str "letter", .str kd.shown])) l2 (.lst [.str "barred", .str "0"])) l3 (.lst [.ref l1, .ref l2, .non])) := fun b o e => s23 _ _ (s12 _ _ (s1 _ _ e))
    have h3 : upd (upd (upd H14 l1 (.lst [.str "letter", .str kd.shown])) l2 (.lst [.str "barred", .str "0"])) l3 (.lst [.ref l1, .ref l2, .non]) l3 = some (.lst [.ref l1, .ref l2, .non]) := upd_same
    show rNeD K _ _ (upd (upd (upd H14 l1 (.lst [.str "letter", .str kd.shown])) l2 (.lst [.str "barred", .str "0"])) l3 (.lst [.ref l1, .ref l2, .non])) _
    generalize upd (upd (upd H14 l1 (.lst [.str "letter", .str kd.shown])) l2 (.lst [.str "barred", .str "0"])) l3 (.lst [.ref l1, .ref l2, .non]) = H15 at hr1 hr2 s5 h3 ⊢
    refine neD_same (d := .list ([some (hearB (.one 1 kd)), some (hearB (.one 4 (.int 0))), none].map hrD)) (.lst (SqL.of (s5 _ _ hh14)) (.cons (hr_dp (hr_ext hx14 (ExtN.of s5))) (.cons (hr_dp (hr_ext hy14 (ExtN.of s5))) (.cons .non .nil)))) (.lst (SqL.of h3) (.cons (hr_dp hr1) (.cons (hr_dp hr2) (.cons .non .nil)))) (hr_list_shaped fun o ho => ?_) ⟨_, rfl, iteF ?_⟩
    · simp only [List.mem_cons, List.not_mem_nil, or_false] at ho
      rcases ho with rfl | rfl | rfl
      · exact bad_ok ⟨by decide, nk⟩
      · exact bad_ok ⟨by decide, nice_0⟩
      · exact fun p e => nomatch e
    have PA15 := pen_ext PA14 (ExtN.of s5)
    have tb15 := tb14.ext s5
    clear nl1 nl2 nl3 s1 s12 s23 hr1 hr2 s5 h3 PA14 tb14 hk14 hx14 hy14 hh14
    -- too many letters
    refine heard_end (some (hearB (.many "letters" 12))) tb15 (fun H16 E2 R e16 tb16 hE hR => ?_) (fun x4 H16 e16 tb16 hx4 => ?_)
    · exact ⟨rfl, _, rfl, .inr ⟨cs14, by rw [str_14], by decide, by decide, .inr ⟨len_14, hE _ ⟨by decide +kernel, nice_12⟩ rfl⟩⟩⟩
    refine ⟨by show 2 ≤ sizeLine; decide, fun l1 nl1 => ?_⟩
    have s17 := same_put (s := Same.refl H16) (o := .lst [.str "letters", .str "12"]) nl1
    have hr3 : HrV (upd H16 l1 (.lst [.str "letters", .str "12"])) (.ref l1) (some (hearB (.many "letters" 12))) := show HrV _ _ (some (("letters" : Str), (PyData.int 12).shown)) from by
      rw [show (PyData.int 12).shown = ("12" : Str) from by decide +kernel]
      exact hr_new
    refine eq_same (d := hrD (some (hearB (.many "letters" 12)))) (hr_dp (hr_ext hx4 (ExtN.of s17))) (hr_dp hr3) (hr_shaped (bad_ok ⟨by decide +kernel, nice_12⟩)) ?_
    exact q _ (pen_ext (pen_ext PA15 e16) (ExtN.of s17)) (tb16.ext s17)
end
end V8

set_option Elab.async false
set_option linter.all false
set_option maxRecDepth 100000
set_option maxHeartbeats 16000000
set_option pp.maxSteps 1500
/-! Drawn tables as the law takes them. -/
namespace V8
open PySem PySem.Spec PyProof.Rows L2 MX SetT LamX
structure DrA (H : Hp) (a : Addr) (dt : Dt) : Prop where
  at_ : ∃ kvs, H a = some (.dK kvs) ∧ Paired (fun (p : Key × V) (q : Key × PyData) => p.1 = q.1 ∧ Drawn H p.2 q.2) kvs dt
  nd : (dt.map (·.1)).Nodup
  few : dt.length ≤ 30
  txt : ∀ q ∈ dt, NiceD (keyD q.1)
structure DrM (w : World) (H : Hp) (a : Addr) (ks : List PyData) : Prop where
  at_ : ∃ kvs, MixD w H a kvs ∧ Paired (fun (p : NestedKey × V × V) (d : PyData) => Drawn H p.2.1 d) kvs ks
  few : ks.length ≤ 30
theorem pair_right {α β : Type} {R : α → β → Prop} {xs : List α} {ys : List β} (h : Paired R xs ys) : ∀ y ∈ ys, ∃ x ∈ xs, R x y := by
  induction h with
  | nil => exact fun y hy => absurd hy List.not_mem_nil
  | cons r _ ih =>
    intro y hy
    rcases List.mem_cons.mp hy with rfl | hy
    · exact ⟨_, List.mem_cons_self, r⟩
    · obtain ⟨x, hx, rx⟩ := ih y hy
      exact ⟨x, List.mem_cons_of_mem _ hx, rx⟩
theorem pair_left {α β : Type} {R : α → β → Prop} {xs : List α} {ys : List β} (h : Paired R xs ys) : ∀ x ∈ xs, ∃ y ∈ ys, R x y := by
  induction h with
  | nil => exact fun y hy => absurd hy List.not_mem_nil
  | cons r _ ih =>
    intro y hy
    rcases List.mem_cons.mp hy with rfl | hy
    · exact ⟨_, List.mem_cons_self, r⟩
    · obtain ⟨x, hx, rx⟩ := ih y hy
      exact ⟨x, List.mem_cons_of_mem _ hx, rx⟩
theorem DrA.tab {H : Hp} {a : Addr} {dt : Dt} (t : DrA H a dt) : TabA H a dt := by
  obtain ⟨⟨kvs, h, p⟩, nd, few, tx⟩ := t
  exact ⟨⟨kvs, h, pair_imp p fun _ _ z => ⟨z.1, z.2.held⟩⟩, nd, few, tx⟩
theorem DrM.tab {w : World} {H : Hp} {a : Addr} {ks : List PyData} (t : DrM w H a ks) : TabM w H a ks := by
  obtain ⟨⟨kvs, m, p⟩, few⟩ := t
  refine ⟨⟨kvs, m, pair_imp p fun _ _ z => z.held⟩, few, fun d hd => ?_⟩
  obtain ⟨x, _, r⟩ := pair_right p d hd
  exact r.lay
theorem tup_mv {p : Addr} {H H2 : Hp} (P : PenL H p) (s : Mv p H H2) : ∀ b xs, H b = some (.tup xs) → H2 b = some (.tup xs) := fun b xs e => s.at P e (fun _ z => nomatch z) (fun _ z => nomatch z)
theorem DrA.mv {p : Addr} {H H2 : Hp} {a : Addr} {dt : Dt} (t : DrA H a dt) (P : PenL H p) (s : Mv p H H2) : DrA H2 a dt := by
  obtain ⟨⟨kvs, h, pr⟩, nd, few, tx⟩ := t
  exact ⟨⟨kvs, s.at P h (fun _ z => nomatch z) (fun _ z => nomatch z), pair_imp pr fun _ _ z => ⟨z.1, drawn_move z.2 (tup_mv P s)⟩⟩, nd, few, tx⟩
theorem DrM.mv {w : World} {p : Addr} {H H2 : Hp} {a : Addr} {ks : List PyData} (t : DrM w H a ks) (P : PenL H p) (s : Mv p H H2) : DrM w H2 a ks := by
  obtain ⟨⟨kvs, m, pr⟩, few⟩ := t
  exact ⟨⟨kvs, ⟨s.at P m.at_ (fun _ z => nomatch z) (fun _ z => nomatch z), fun q hq => keyv_move (m.keys q hq) (tup_mv P s)⟩, pair_imp pr fun _ _ z => drawn_move z (tup_mv P s)⟩, few⟩
/-- a drawn table: its keys are texts, or one is none -/
inductive Sh where
  | all (dt : Dt)
  | some (ks : List PyData) (d : PyData)
def ShA (w : World) (H : Hp) (a : Addr) : Sh → Prop
  | .all dt => DrA H a dt
  | .some ks d => DrM w H a ks ∧ ks.find? (fun d => !wordD 1 1 d) = Option.some d
def dueS (z : Sh) (st : PyData) : Option (Str × Str) := match z with
  | .all dt => dueO dt st
  | .some _ d => Option.some (hearB (.one 1 d))
theorem ShA.mv {w : World} {p : Addr} {H H2 : Hp} {a : Addr} {z : Sh} (t : ShA w H a z) (P : PenL H p) (s : Mv p H H2) : ShA w H2 a z := by
  cases z with
  | all dt => exact DrA.mv t P s
  | some ks d => exact ⟨DrM.mv t.1 P s, t.2⟩
theorem hear_many : hearB (.many "letters" 12) = (("letters" : Str), ("12" : Str)) := by decide +kernel
theorem told_ok {H : Hp} {a : Addr} {dt : Dt} {st : PyData} {b : Bad} (t : TabA H a dt) (n : NiceD st) (e : toldD dt st = some b) : BadOk b := by
  unfold toldD at e
  cases fn : dt.find? (fun q => !keyOk q.1) with
  | some q =>
    rw [fn] at e
    cases e
    exact ⟨by decide, t.txt q (List.mem_of_find?_eq_some fn)⟩
  | none =>
    rw [fn] at e
    dsimp only at e
    cases fn2 : abc.find? (badAt dt) with
    | some c =>
      rw [fn2] at e
      cases e
      exact ⟨by decide, nice_let c (List.mem_of_find?_eq_some fn2)⟩
    | none =>
      rw [fn2] at e
      dsimp only at e
      by_cases h : wordD 0 2000 st = true
      · rw [if_pos h] at e
        cases e
      · rw [if_neg h] at e
        cases e
        exact ⟨by decide, n⟩
theorem dueS_ok {w : World} {H : Hp} {a : Addr} {z : Sh} {st : PyData} (t : ShA w H a z) (n : NiceD st) : OkO (dueS z st) := by
  cases z with
  | all dt =>
    intro p e
    have e2 : dueO dt st = some p := e
    unfold dueO at e2
    cases fn : toldD dt st with
    | some b =>
      rw [fn] at e2
      exact bad_ok (told_ok (DrA.tab t) n fn) p e2
    | none =>
      rw [fn] at e2
      dsimp only at e2
      by_cases h : 12 < cntD dt st
      · rw [if_pos h] at e2
        cases e2
        exact ⟨by decide +kernel, by decide +kernel⟩
      · rw [if_neg h] at e2
        cases e2
  | some ks d =>
    obtain ⟨⟨⟨kvs, m, pr⟩, few⟩, f⟩ := t
    obtain ⟨x, _, r⟩ := pair_right pr d (List.mem_of_find?_eq_some f)
    exact bad_ok ⟨by decide, r.held.ni⟩
/-- made of a drawn table, or refused -/
theorem mk_shapes {K : PySem.W.Frag} {w : World} {CM CJ : Addr} {Cz : Nat → Addr} {H : Hp} {a : Addr} {z : Sh} {y : V} {st : PyData} {R : VK} {E : XK} (sh : ShA w H a z) (hd : Held H y st) (hE : ∀ b, BadOk b → dueS z st = some (hearB b) → OutB Cz H b E) (hR : dueS z st = none → ∀ v H2, Same H H2 → R v H2) : mkO K w CM CJ Cz [.ref a, y] H R E := by
  cases z with
  | some ks d =>
    have t := DrM.tab sh.1
    obtain ⟨⟨⟨kvs, m, pr⟩, few⟩, f⟩ := sh
    obtain ⟨x, _, r⟩ := pair_right pr d (List.mem_of_find?_eq_some f)
    exact .inr ⟨_, _, rfl, .inr (.inl ⟨a, ks, d, rfl, t, f, hE _ ⟨by decide, r.held.ni⟩ rfl⟩)⟩
  | all dt =>
    have t : TabA H a dt := DrA.tab sh
    have eD : dueS (.all dt) st = dueO dt st := rfl
    rw [eD] at hE hR
    unfold dueO at hE hR
    cases fn : toldD dt st with
    | some b =>
      rw [fn] at hE
      exact .inr ⟨_, _, rfl, .inr (.inr (.inl ⟨a, dt, st, b, rfl, t, hd, fn, hE b (told_ok t hd.ni fn) rfl⟩))⟩
    | none =>
      rw [fn] at hE hR
      dsimp only at hE hR
      obtain ⟨tb, s, rfl, ha, g, hs, hl, el⟩ := told_good t fn
      have ey := held_str hd
      subst ey
      by_cases h : 12 < cntD dt (.str (Sx s))
      · rw [if_pos h] at hE
        exact .inr ⟨_, _, rfl, .inr (.inr (.inr ⟨a, s, tb, rfl, rfl, ha, g, hs, hl, by rw [el]; exact h, hE _ ⟨by decide +kernel, nice_12⟩ (by rw [hear_many])⟩))⟩
      · rw [if_neg h] at hR
        exact .inl ⟨a, abc, s, tb, rfl, ha, g, ⟨by rw [el]; omega, by rw [abc_len]; exact Nat.le_refl _⟩, fun c hc => abc_mem.mp hc, hs, hl, fun x H2 _ _ s2 => hR rfl _ _ s2⟩
/-! ### tables as they were drawn -/
theorem mkA_pairs {H : Hp} : ∀ {ts : List (Str × V)}, (∀ e ∈ ts, ∃ dv, Drawn H e.2 dv) → ∃ dt : Dt, Paired (fun (p : Key × V) (q : Key × PyData) => p.1 = q.1 ∧ Drawn H p.2 q.2) (txK ts) dt
  | [], _ => ⟨[], .nil⟩
  | e :: r, h => by
    obtain ⟨dv, hv⟩ := h e List.mem_cons_self
    obtain ⟨dt, p⟩ := mkA_pairs fun e he => h e (List.mem_cons_of_mem _ he)
    exact ⟨(Sum.inr e.1, dv) :: dt, .cons ⟨rfl, hv⟩ p⟩
theorem mkM_pairs {H : Hp} : ∀ {kvs : List (NestedKey × V × V)}, (∀ e ∈ kvs, ∃ dk, Drawn H e.2.1 dk) → ∃ ks : List PyData, Paired (fun (p : NestedKey × V × V) (d : PyData) => Drawn H p.2.1 d) kvs ks
  | [], _ => ⟨[], .nil⟩
  | e :: r, h => by
    obtain ⟨dk, hk⟩ := h e List.mem_cons_self
    obtain ⟨ks, p⟩ := mkM_pairs fun e he => h e (List.mem_cons_of_mem _ he)
    exact ⟨dk :: ks, .cons hk p⟩
theorem keyv_text {H : Hp} {k : NestedKey} {z : Str} (h : KeyV H k (.str z)) : k = .text z := by
  cases h with
  | flat g =>
    cases g
    rfl
/-- the keys are texts -/
def AllTx (kvs : List (NestedKey × V × V)) : Prop := ∀ e ∈ kvs, ∃ z, e.1 = .text z ∧ e.2.1 = .str z
theorem sh_all {w : World} {H : Hp} {d : Addr} {ts : List (Str × V)} (m : MixD w H d (txM ts)) (kl : (txM ts).length ≤ 14) (knd : ((txM ts).map (·.1)).Nodup) (hv : ∀ e ∈ txM ts, (∃ dk, Drawn H e.2.1 dk) ∧ ∃ dv, Drawn H e.2.2 dv) : ∃ dt, DrA (upd H d (.dK (txK ts))) d dt := by
  have tk : ∀ b xs, H b = some (.tup xs) → upd H d (.dK (txK ts)) b = some (.tup xs) := fun b xs e => by
    rw [upd_ne (ne_of e m.at_ (fun z => nomatch z))]
    exact e
  obtain ⟨dt, pr⟩ := mkA_pairs (H := upd H d (.dK (txK ts))) (ts := ts) fun e he => by
    obtain ⟨_, dv, h⟩ := hv _ (List.mem_map.mpr ⟨e, he, rfl⟩)
    exact ⟨dv, drawn_move h tk⟩
  have ek : (txK ts).map (·.1) = dt.map (·.1) := by
    clear kl knd hv m tk
    generalize txK ts = l at pr
    generalize upd H d (.dK l) = H2 at pr
    induction pr with
    | nil => rfl
    | cons r _ ih => rw [List.map_cons, List.map_cons, r.1, ih]
  refine ⟨dt, ⟨_, upd_same, pr⟩, by rw [← ek]; exact txK_nd knd, ?_, fun q hq => ?_⟩
  · have l1 := pair_len pr
    have l2 : (txK ts).length = ts.length := List.length_map _
    have l3 : (txM ts).length = ts.length := List.length_map _
    omega
  · have hm : q.1 ∈ (txK ts).map (·.1) := by rw [ek]; exact List.mem_map.mpr ⟨q, hq, rfl⟩
    obtain ⟨e, he, e2⟩ := List.mem_map.mp hm
    obtain ⟨e0, he0, rfl⟩ := List.mem_map.mp he
    obtain ⟨⟨dk, hk⟩, _⟩ := hv _ (List.mem_map.mpr ⟨e0, he0, rfl⟩)
    rw [← e2]
    have hk2 : Drawn H (.str e0.1) dk := hk
    have ed : dk = .str e0.1 := by
      cases hk2.held.pw with
      | str _ => rfl
    rw [ed] at hk2
    exact hk2.held.ni
theorem sh_some {w : World} {H : Hp} {d : Addr} {kvs : List (NestedKey × V × V)} (m : MixD w H d kvs) (kl : kvs.length ≤ 14) (hv : ∀ e ∈ kvs, (∃ dk, Drawn H e.2.1 dk) ∧ ∃ dv, Drawn H e.2.2 dv) (n : ¬ AllTx kvs) : ∃ ks k, DrM w H d ks ∧ ks.find? (fun d => !wordD 1 1 d) = some k := by
  obtain ⟨ks, pr⟩ := mkM_pairs fun e he => (hv e he).1
  have l1 := pair_len pr
  cases fn : ks.find? (fun d => !wordD 1 1 d) with
  | some k => exact ⟨ks, k, ⟨⟨kvs, m, pr⟩, by omega⟩, fn⟩
  | none =>
    refine absurd (fun e he => ?_) n
    obtain ⟨k, hk, r⟩ := pair_left pr e he
    have z := List.find?_eq_none.mp fn k hk
    have z2 : wordD 1 1 k = true := by simpa using z
    cases k with
    | str s =>
      have ex := held_str r.held
      have kv := m.keys e he
      rw [ex] at kv
      exact ⟨s, keyv_text kv, ex⟩
    | none => cases z2
    | bool b => cases z2
    | int i => cases z2
    | list l => cases z2
    | tuple l => cases z2
    | dict l => cases z2
/-! ### other things drawn -/
theorem rep_a (k : Nat) (h : 2 ≤ k) : Txt.mul ("a" : Str) ((k : Nat) : Int) = Sx (List.replicate k 97) := by
  rw [show ("a" : Str) = Sx [97] from by decide +kernel, mul_Sx [97] k h (by decide), flat_one]
theorem nice_rep (k : Nat) (h : k ≤ 2500) : NiceD (.str (Sx (List.replicate k 97))) := by
  have lt : ∀ c ∈ List.replicate k 97, isLt c := fun c hc => by
    rw [(List.mem_replicate.mp hc).2]
    decide
  have e : (PyData.str (Sx (List.replicate k 97))).shown = Sx (39 :: (List.replicate k 97 ++ [39])) := by rw [shown_str, quote_letters lt]
  have cps : (Sx (List.replicate k 97)).cps.toList = List.replicate k 97 := by show (List.replicate k 97).toArray.toList = _; simp
  refine nice_text ?_ ?_ ?_ fun c hc => ?_
  · rw [e, Sx_len, List.length_cons, List.length_append, List.length_replicate]
    show k + 1 + 1 ≤ 3000
    omega
  · rw [e]
    refine strOk_lt fun c hc => ?_
    have c2 : (Sx (39 :: (List.replicate k 97 ++ [39]))).cps.toList = 39 :: (List.replicate k 97 ++ [39]) := by show (39 :: (List.replicate k 97 ++ [39])).toArray.toList = _; simp
    rw [c2] at hc
    rcases List.mem_cons.mp hc with rfl | hc
    · decide
    · rcases List.mem_append.mp hc with h | h
      · rw [(List.mem_replicate.mp h).2]
        decide
      · rw [List.mem_singleton.mp h]
        decide
  · rw [Sx_len, List.length_replicate]
    exact h
  · rw [cps] at hc
    rw [(List.mem_replicate.mp hc).2]
    decide
theorem held_rep {H : Hp} (k : Nat) (h : k ≤ 2500) : Held H (.str (Sx (List.replicate k 97))) (.str (Sx (List.replicate k 97))) := th_flat (nice_rep k h)
/-- what is no text -/
theorem odd_of {H : Hp} {p t l d : Addr} {v : V} (ht : H t = some (.tup [.str "a"])) (hl : H l = some (.lst [.str "a"])) (hd : H d = some (.dK [])) (tp : t ≠ p) (lp : l ≠ p) (dp : d ≠ p)
    (h : v ∈ [V.non, .int 0, .bl true, .str "A", .str "a b", .ref l, .ref t, .ref d, .str (Txt.mul "a" 2001), .str "e1"]) : ∃ k, Held H v k ∧ (∀ a, v = .ref a → a ≠ p) ∧ wordD 0 2000 k = false := by
  rw [show (Txt.mul ("a" : Str) 2001) = Sx (List.replicate 2001 97) from rep_a 2001 (by decide)] at h
  simp only [List.mem_cons, List.not_mem_nil, or_false] at h
  rcases h with rfl | rfl | rfl | rfl | rfl | rfl | rfl | rfl | rfl | rfl
  · exact ⟨_, held_non, np_flat (fun _ z => nomatch z), rfl⟩
  · exact ⟨_, held_int nice_0, np_flat (fun _ z => nomatch z), rfl⟩
  · exact ⟨_, held_bl true, np_flat (fun _ z => nomatch z), rfl⟩
  · exact ⟨_, (drawn_str (by decide +kernel)).held, np_flat (fun _ z => nomatch z), by decide +kernel⟩
  · exact ⟨_, (drawn_str (by decide +kernel)).held, np_flat (fun _ z => nomatch z), by decide +kernel⟩
  · exact ⟨_, held_lst hl, np_ref lp, rfl⟩
  · exact ⟨_, (drawn_tup ht).held, np_ref tp, rfl⟩
  · exact ⟨_, held_dict hd, np_ref dp, rfl⟩
  · refine ⟨_, held_rep 2001 (by decide), np_flat (fun _ z => nomatch z), ?_⟩
    show (decide (0 ≤ (Sx (List.replicate 2001 97)).length) && decide ((Sx (List.replicate 2001 97)).length ≤ 2000) && okL (Sx (List.replicate 2001 97)).cps.toList) = false
    rw [Sx_len, List.length_replicate, decide_eq_false (show ¬ 2001 ≤ 2000 by decide), Bool.and_false, Bool.false_and]
  · exact ⟨_, (drawn_str (by decide +kernel)).held, np_flat (fun _ z => nomatch z), by decide +kernel⟩
/-- letters that stay, or what is none -/
theorem stays_of {H : Hp} {p : Addr} {v o : V} {od : PyData} (ho : Held H o od) (op : ∀ a, o = .ref a → a ≠ p) (h : v ∈ [V.str "", .str "", .str "aab", .str "yz", .str "abcdefghijkl", .str (Txt.mul "a" 2000), o]) : ∃ k, Held H v k ∧ ∀ a, v = .ref a → a ≠ p := by
  rw [show (Txt.mul ("a" : Str) 2000) = Sx (List.replicate 2000 97) from rep_a 2000 (by decide)] at h
  simp only [List.mem_cons, List.not_mem_nil, or_false] at h
  rcases h with rfl | rfl | rfl | rfl | rfl | rfl | rfl
  · exact ⟨_, (drawn_str (by decide +kernel)).held, np_flat (fun _ z => nomatch z)⟩
  · exact ⟨_, (drawn_str (by decide +kernel)).held, np_flat (fun _ z => nomatch z)⟩
  · exact ⟨_, (drawn_str (by decide +kernel)).held, np_flat (fun _ z => nomatch z)⟩
  · exact ⟨_, (drawn_str (by decide +kernel)).held, np_flat (fun _ z => nomatch z)⟩
  · exact ⟨_, (drawn_str (by decide +kernel)).held, np_flat (fun _ z => nomatch z)⟩
  · exact ⟨_, held_rep 2000 (by decide), np_flat (fun _ z => nomatch z)⟩
  · exact ⟨_, ho, op⟩
structure Tl (K : PySem.W.Frag) (mg : Str → Option Value) (CM CJ CE : Addr) (Cz : Nat → Addr) : Prop extends Th K mg CM CJ CE Cz where
  jN : PySem.W.kitOne K (.type "NoneType") (.ref CJ) = some false
  jI : PySem.W.kitOne K (.type "int") (.ref CJ) = some false
  jB : PySem.W.kitOne K (.type "bool") (.ref CJ) = some false
  jS : PySem.W.kitOne K (.type "str") (.ref CJ) = some false
  jL : PySem.W.kitOne K (.type "list") (.ref CJ) = some false
  Md : PySem.W.kitOne K (.ref CM) (.type "dict") = some false
  jT : PySem.W.kitOne K (.type "tuple") (.ref CJ) = some false
/-- no dict, nor joined images -/
def NoDict (K : PySem.W.Frag) (CJ p : Addr) (H : Hp) (v : V) : Prop := ∃ t, PySem.W.kitOne K t (.type "dict") = some false ∧ PySem.W.kitOne K t (.ref CJ) = some false ∧ ∀ H2, Mv p H H2 → TyX K H2 v t
theorem none_of {K : PySem.W.Frag} {mg : Str → Option Value} {CM CJ CE : Addr} {Cz : Nat → Addr} (T : Tl K mg CM CJ CE Cz) {H : Hp} {p l1 t2 l2 x dx : Addr} {fs : List (Str × V)} {xs ys zs : List V} {v : V} (P : PenL H p) (h1 : H l1 = some (.lst xs)) (h2 : H t2 = some (.tup ys)) (h3 : H l2 = some (.lst zs)) (h4 : H x = some (.ins CM dx fs)) (n1 : l1 ≠ p) (n3 : l2 ≠ p)
    (h : v ∈ [V.non, .int 0, .bl true, .ref l1, .str "a:b", .ref t2, .ref l2, .ref x]) : NoDict K CJ p H v := by
  simp only [List.mem_cons, List.not_mem_nil, or_false] at h
  rcases h with rfl | rfl | rfl | rfl | rfl | rfl | rfl | rfl
  · exact ⟨_, kit_ty (by decide +kernel), T.jN, fun _ _ => .base .non⟩
  · exact ⟨_, kit_ty (by decide +kernel), T.jI, fun _ _ => .base (.int 0)⟩
  · exact ⟨_, kit_ty (by decide +kernel), T.jB, fun _ _ => .base (.bl true)⟩
  · exact ⟨_, kit_ty (by decide +kernel), T.jL, fun H2 m => .base (.lst (m _ _ h1 n1 (fun _ z => nomatch z)))⟩
  · exact ⟨_, kit_ty (by decide +kernel), T.jS, fun _ _ => .base (.str _)⟩
  · exact ⟨_, kit_ty (by decide +kernel), T.jT, fun H2 m => .base (.tup (m.at P h2 (fun _ z => nomatch z) (fun _ z => nomatch z)))⟩
  · exact ⟨_, kit_ty (by decide +kernel), T.jL, fun H2 m => .base (.lst (m _ _ h3 n3 (fun _ z => nomatch z)))⟩
  · refine ⟨.ref CM, ?_, T.MJ, fun H2 m => .base (.ins (m.at P h4 (fun _ z => nomatch z) (fun _ z => nomatch z)) T.cl T.tA T.tB T.tC T.tD)⟩
    exact T.Md
section
variable {X : Cx} {K : PySem.W.Frag} {w : World} {j : Nat} {CM CJ : Addr} {Cz : Nat → Addr} {p pos : Pos} {e : Expr} {es : List Expr} {kws : List Keyword} {t tk : TA} {E : XK}
theorem pe_mkA2K (hK : X.K = K) (hw : X.w = w) (M : MkA X.prog X.w X.K X.mg X.base CM CJ Cz) (g : Quiet X.A) (out : Passes (L2.CX X.prog X.w) X E) (hr : Room j X.A) (hj : 7 ≤ j) (hg : Gl X "Misreading") (ha : PA X (e :: es) t) (he : starEach (e :: es) X.env = (false, eval e X.env) :: starEach es X.env := by rfl) (hpl : (backTo pos (starEach es X.env)).any (·.1) = false := by rfl) :
    PE X (.Call (.Name "Misreading" p) (e :: es) [] pos) (tMkA2 K w CM CJ Cz E t) := by
  subst hK hw
  exact pe_mkA2 M g out hr hj hg ha he hpl
theorem pe_mkA1K (hK : X.K = K) (hw : X.w = w) (M : MkA X.prog X.w X.K X.mg X.base CM CJ Cz) (g : Quiet X.A) (out : Passes (L2.CX X.prog X.w) X E) (hr : Room j X.A) (hj : 7 ≤ j) (hg : Gl X "Misreading") (ha : PA X (e :: es) t) (he : starEach (e :: es) X.env = (false, eval e X.env) :: starEach es X.env := by rfl) (hpl : (backTo pos (starEach es X.env)).any (·.1) = false := by rfl) :
    PE X (.Call (.Name "Misreading" p) (e :: es) [] pos) (tMkA1 K w CM CJ Cz E t) := by
  subst hK hw
  exact pe_mkA1 M g out hr hj hg ha he hpl
theorem pe_mkAKK (hK : X.K = K) (hw : X.w = w) (M : MkA X.prog X.w X.K X.mg X.base CM CJ Cz) (g : Quiet X.A) (out : Passes (L2.CX X.prog X.w) X E) (hr : Room j X.A) (hj : 7 ≤ j) (hg : Gl X "Misreading") (hkw : PK X kws tk) (hall : (backToKw pos (keywordEach kws X.env)).all (·.1.isSome) = true := by rfl) (hks : (backToKw pos (keywordEach kws X.env)).filterMap (·.1) = (["keeps", "images"] : List Str) := by rfl)
    (hpl : ((backTo pos (starEach [] X.env)).any (·.1) || (backToKw pos (keywordEach kws X.env)).any (·.1.isNone)) = false := by rfl) : PE X (.Call (.Name "Misreading" p) [] kws pos) (tMkAK K w CM CJ Cz E tk) := by
  subst hK hw
  exact pe_mkAK M g out hr hj hg hkw hall hks hpl
end
end V8

set_option Elab.async false
set_option linter.all false
set_option maxRecDepth 100000
set_option maxHeartbeats 16000000
set_option pp.maxSteps 1200
/-! The law. -/
namespace V8
open PySem PySem.Spec PyProof.Rows L2 MX SetT LamX
def spLaw (TL : List (Addr × Str)) (K : PySem.W.Frag) : Sp := fun vs H Q _ => ∃ (a : Addr) (ns : List Int), vs = [.ref a] ∧ SqL K H a (ns.map V.int) ∧ ns.length ≤ 63 ∧ Tabs TL H ∧ ∀ H2, Q (.bl true) H2
theorem texts_go {w w' : World} (hw : w' = w) {H3 H4 : Hp} {d : Addr} {x : V} {Q : VK} (hx : V.ref d = x) (go : (H4 = H3) ∨ ∃ ts, H3 d = some (MixO w d (txM ts)) ∧ H4 = upd H3 d (.dK (txK ts))) (h : Q x H4) : Q x H3 ∨ ∃ (a : Addr) (ts : List (Str × V)), H3 a = some (MixO w' a (txM ts)) ∧ Q x (upd H3 a (.dK (txK ts))) := by
  subst hw
  rcases go with rfl | ⟨ts, e, rfl⟩
  · exact .inl h
  · exact .inr ⟨d, ts, e, h⟩
theorem due_shapes {w : World} {H : Hp} {a : Addr} {z : Sh} {y : V} {st : PyData} {Q : VK} {E : XK} (sh : ShA w H a z) (hd : Held H y st) (h : ∀ v H2, Same H H2 → HrV H2 v (dueS z st) → Q v H2) : spDueK [.ref a, y] H Q E ∨ spDueM w [.ref a, y] H Q E := by
  cases z with
  | all dt => exact .inl ⟨a, y, dt, st, rfl, DrA.tab sh, hd, h⟩
  | some ks k => exact .inr ⟨a, y, ks, k, rfl, DrM.tab sh.1, sh.2, h⟩
theorem NoDict.mv {K : PySem.W.Frag} {CJ p : Addr} {H H2 : Hp} {v : V} (h : NoDict K CJ p H v) (m : Mv p H H2) : NoDict K CJ p H2 v := by
  obtain ⟨t, a, b, c⟩ := h
  exact ⟨t, a, b, fun H3 m3 => c H3 (m.trans m3)⟩
theorem none_bad {K : PySem.W.Frag} {w : World} {CM CJ p : Addr} {Cz : Nat → Addr} {H : Hp} {v y : V} {R : VK} {E : XK} (h : NoDict K CJ p H v) (hE : OutB Cz H (.one 0 (.str "images")) E) : mkO K w CM CJ Cz [v, y] H R E := by
  obtain ⟨t, a, b, c⟩ := h
  exact .inr ⟨_, _, rfl, .inl ⟨t, fun H2 s => c H2 (Mv.ofSame s), a, b, hE⟩⟩
theorem hear_images : hearB (.one 0 (.str "images")) = (("table" : Str), ("'images'" : Str)) := by decide +kernel
def kA : List (Key × V) := [(Sum.inr ("b" : Str), V.str "x"), (Sum.inr ("A" : Str), V.str "x"), (Sum.inl (1 : Int), V.str "x")]
def dA : Dt := [(Sum.inr ("b" : Str), PyData.str "x"), (Sum.inr ("A" : Str), PyData.str "x"), (Sum.inl (1 : Int), PyData.str "x")]
def kB : List (Key × V) := [(Sum.inr ("b" : Str), V.str ""), (Sum.inr ("a" : Str), V.non)]
def dB : Dt := [(Sum.inr ("b" : Str), PyData.str ""), (Sum.inr ("a" : Str), PyData.none)]
theorem merge_A : mergeK [] kA = kA := by decide +kernel
theorem merge_B : mergeK [] kB = kB := by decide +kernel
theorem tab_A {H : Hp} {d : Addr} (h : H d = some (.dK kA)) : TabA H d dA := by
  refine ⟨⟨_, h, .cons ⟨rfl, (drawn_str (by decide +kernel)).held⟩ (.cons ⟨rfl, (drawn_str (by decide +kernel)).held⟩ (.cons ⟨rfl, (drawn_str (by decide +kernel)).held⟩ .nil))⟩, by decide +kernel, by decide, fun q hq => ?_⟩
  simp only [dA, List.mem_cons, List.not_mem_nil, or_false] at hq
  rcases hq with rfl | rfl | rfl
  · exact (drawn_str (H := H) (z := "b") (by decide +kernel)).held.ni
  · exact (drawn_str (H := H) (z := "A") (by decide +kernel)).held.ni
  · exact nice_1
theorem tab_B {H : Hp} {d : Addr} (h : H d = some (.dK kB)) : TabA H d dB := by
  refine ⟨⟨_, h, .cons ⟨rfl, (drawn_str (by decide +kernel)).held⟩ (.cons ⟨rfl, held_non⟩ .nil)⟩, by decide +kernel, by decide, fun q hq => ?_⟩
  simp only [dB, List.mem_cons, List.not_mem_nil, or_false] at hq
  rcases hq with rfl | rfl
  · exact (drawn_str (H := H) (z := "b") (by decide +kernel)).held.ni
  · exact (drawn_str (H := H) (z := "a") (by decide +kernel)).held.ni
theorem told_A : toldD dA (.str (Sx [])) = some (.one 1 (.str "A")) := by
  unfold toldD
  rw [show dA.find? (fun q => !keyOk q.1) = some (Sum.inr ("A" : Str), PyData.str "x") from by
    unfold dA
    rw [List.find?_cons_of_neg (by decide +kernel), List.find?_cons_of_pos (by decide +kernel)]]
  rfl
theorem told_B : toldD dB (.str (Sx [])) = some (.one 2 (.str (L1 97))) := by
  unfold toldD
  rw [show dB.find? (fun q => !keyOk q.1) = none from by decide +kernel, show abc.find? (badAt dB) = some 97 from by decide +kernel]
theorem hear_A : hearB (.one 1 (.str "A")) = (("letter" : Str), ("'A'" : Str)) := by decide +kernel
theorem hear_B : hearB (.one 2 (.str (L1 97))) = (("image" : Str), ("'a'" : Str)) := by decide +kernel
theorem nice_A : NiceD (.str "A") := (drawn_str (H := fun _ => none) (z := "A") (by decide +kernel)).held.ni
theorem nice_B : NiceD (.str (L1 97)) := nice_let 97 (by decide)
section
variable {P : Program} {w : World} {K : PySem.W.Frag} {mg : Str → Option Value} {base : Heap} {CM CJ CE g c PT : Addr} {Cz : Nat → Addr} {TL : List (Addr × Str)}
theorem ok_law {f : Addr} {fd : FuncData} (F : FunC K "law" "law" s_law f c fd) (T9 : Tl K mg CM CJ CE Cz) (sys : SysIn base) (D_pen : Df P w K mg base 1 "_law_pen" (spPen K)) (D_pick : Df P w K mg base 2 "_law_pick" (spPick K)) (D_images : Df P w K mg base 3 "_law_images" (spImages w)) (D_due : DfG P w K mg base CX0 3 "_law_due" (fun vs H Q E => spDueK vs H Q E ∨ spDueM w vs H Q E))
    (D_others_right : DfG P w K mg base CX0 12 "_law_others_right" (spOthers TL)) (D_mk : MkA P w K mg base CM CJ Cz) (D_same : SmG P w K mg base (L2.CX P w) 8 CM "same" (spSameA Cz)) (D_heard : HearD K mg g) (TB : TabT base mg TL (("law" : Str) ++ ".<locals>.") c PT) : FnG P w K mg base CX0 13 f fd ["_law_script"] (spLaw TL K) := by
  refine F.okG sc_law (fun vs H Q E h => ?_) (fun A outer s H vs Q E quiet hr h => ?_)
  · obtain ⟨a, ns, rfl, _⟩ := h
    rfl
  · obtain ⟨a, ns, rfl, hS, hn0, tb0, q0⟩ := h
    have T : Th K mg CM CJ CE Cz := T9.toTh
    refine ⟨_, (pss_cons (ps_set (i := 1) sc_law.nd rfl (.inl rfl) (pe_c D_pen hr (by decide) (by rfl) (pa_cons (pv 0) pa_nil)))
      (pss_cons (ps_for PassesOwn.never rfl (pi_range1 (by rfl) T.range (pa_cons pe_int pa_nil)) (pg_name (i := 2) sc_law.nd rfl (.inl rfl))
        (pss_cons (ps_set (i := 3) sc_law.nd rfl (.inr rfl) (pe_texts (pe_c D_images hr (by decide) (by rfl) (pa_cons (pv 1) pa_nil))))
        (pss_cons (ps_set (i := 4) sc_law.nd rfl (.inr rfl) (pe_c D_pick hr (by decide) (by rfl) (pa_cons (pv 1) (pa_cons (pe_lst (pa_cons pe_non (pa_cons pe_int (pa_cons pe_bl (pa_cons pe_str (pa_cons pe_str (pa_cons (pe_lst (pa_cons pe_str pa_nil)) (pa_cons (pe_tup (pa_cons pe_str pa_nil)) (pa_cons pe_dnewK (pa_cons (pe_op op_repS2 pe_str pe_int) (pa_cons pe_str pa_nil))))))))))) pa_nil))))
        (pss_cons (ps_set (i := 5) sc_law.nd rfl (.inr rfl) (pe_c D_pick hr (by decide) (by rfl) (pa_cons (pv 1) (pa_cons (pe_lst (pa_cons pe_str (pa_cons pe_str (pa_cons pe_str (pa_cons pe_str (pa_cons pe_str (pa_cons (pe_op op_repS2 pe_str pe_int) (pa_cons (pv 4) pa_nil)))))))) pa_nil))))
        (pss_cons (ps_if (pt_cmpR (op_neDK (K := K) rfl hr.units) (pe_heardG (k := 8) T D_heard TB sys quiet hr (by decide) rfl rfl (by rfl) (lamS_by (sc := defScope s_law) (by decide +kernel)) (by rfl) (fun _ _ _ _ _ => rfl) (fun A2 o2 s2 H2 E2 f2 c2 quiet2 hr2 => (pe_mkA2K (K := K) (w := w) rfl rfl D_mk quiet2 (passTk (takes_of rfl rfl rfl rfl)) hr2 (by decide) (by rfl) (pa_cons (pv 3) (pa_cons (pv 5) pa_nil))))) (pe_cG D_due quiet pass0 hr (by decide) (by rfl) (pa_cons (pv 3) (pa_cons (pv 5) pa_nil))) (nomark _))
          (pss_one (ps_ret pe_bl))
          pss_nil)
        (pss_cons (ps_set (i := 6) sc_law.nd rfl (.inr rfl) (pe_c D_pick hr (by decide) (by rfl) (pa_cons (pv 1) (pa_cons (pe_lst (pa_cons pe_non (pa_cons pe_int (pa_cons pe_bl (pa_cons (pe_lst pa_nil) (pa_cons pe_str (pa_cons (pe_tup (pa_cons (pe_tup (pa_cons pe_str (pa_cons pe_str pa_nil))) pa_nil)) (pa_cons (pe_lst (pa_cons (pe_tup (pa_cons pe_str (pa_cons pe_str pa_nil))) pa_nil)) (pa_cons (pe_mkA1 D_mk quiet passL hr (by decide) (by rfl) (pa_cons pe_dnewK pa_nil)) pa_nil))))))))) pa_nil))))
        (pss_cons (ps_set (i := 7) sc_law.nd rfl (.inl rfl) (pe_lst (pa_cons (pe_heardG (k := 8) T D_heard TB sys quiet hr (by decide) rfl rfl (by rfl) (lamS_by (sc := defScope s_law) (by decide +kernel)) (by rfl) (fun _ _ _ _ _ => rfl) (fun A2 o2 s2 H2 E2 f2 c2 quiet2 hr2 => (pe_mkA2K (K := K) (w := w) rfl rfl D_mk quiet2 (passTk (takes_of rfl rfl rfl rfl)) hr2 (by decide) (by rfl) (pa_cons (pv 6) (pa_cons (pv 4) pa_nil))))) pa_nil)))
        (pss_cons (ps_expr (pe_bmK (K := K) rfl PySem.F.plainAttrs_list PySem.F.slot_list_append PySem.F.type_list_append mt_append (pv 7) (pa_cons (pe_heardG (k := 8) T D_heard TB sys quiet hr (by decide) rfl rfl (by rfl) (lamS_by (sc := defScope s_law) (by decide +kernel)) (by rfl) (fun _ _ _ _ _ => rfl) (fun A2 o2 s2 H2 E2 f2 c2 quiet2 hr2 => (pe_mkAKK (K := K) (w := w) rfl rfl D_mk quiet2 (passTk (takes_of rfl rfl rfl rfl)) hr2 (by decide) (by rfl) (pk_cons pe_str (pk_cons (pv 6) pk_nil))))) pa_nil)))
        (pss_one (ps_if (PW.pt (pw_or (pt_cmpR (op_neDK (K := K) rfl hr.units) (pv 7) (pe_op op_rep (pe_lst (pa_cons (pe_lst (pa_cons pe_str (pa_cons pe_str pa_nil))) pa_nil)) pe_int) (nomark _)) (pw_or1 (pt_not (pt_val (pe_cG D_others_right quiet pass0 hr (by decide) (by rfl) (pa_cons (pv 1) (pa_cons (pv 4) pa_nil))))))))
          (pss_one (ps_ret pe_bl))
          pss_nil))))))))))
      (pss_cons (ps_set (i := 7) sc_law.nd rfl (.inl rfl) (pe_lst (pa_cons (pe_heardG (k := 8) T D_heard TB sys quiet hr (by decide) rfl rfl (by rfl) (lamS_by (sc := defScope s_law) (by decide +kernel)) (by rfl) (fun _ _ _ _ _ => rfl) (fun A2 o2 s2 H2 E2 f2 c2 quiet2 hr2 => (pe_mkA1K (K := K) (w := w) rfl rfl D_mk quiet2 (passTk (takes_of rfl rfl rfl rfl)) hr2 (by decide) (by rfl) (pa_cons (pe_disp (pps_cons pe_str pe_str (pps_cons pe_str pe_str (pps_cons pe_int pe_str pps_nil))) (by rfl) (by rfl) (fun z => by cases z) (by decide)) pa_nil)))) pa_nil)))
      (pss_cons (ps_expr (pe_bmK (K := K) rfl PySem.F.plainAttrs_list PySem.F.slot_list_append PySem.F.type_list_append mt_append (pv 7) (pa_cons (pe_heardG (k := 8) T D_heard TB sys quiet hr (by decide) rfl rfl (by rfl) (lamS_by (sc := defScope s_law) (by decide +kernel)) (by rfl) (fun _ _ _ _ _ => rfl) (fun A2 o2 s2 H2 E2 f2 c2 quiet2 hr2 => (pe_mkA1K (K := K) (w := w) rfl rfl D_mk quiet2 (passTk (takes_of rfl rfl rfl rfl)) hr2 (by decide) (by rfl) (pa_cons (pe_disp (pps_cons pe_str pe_str (pps_cons pe_str pe_non pps_nil)) (by rfl) (by rfl) (fun z => by cases z) (by decide)) pa_nil)))) pa_nil)))
      (pss_cons (ps_if (pt_cmpR (op_neDK (K := K) rfl hr.units) (pv 7) (pe_lst (pa_cons (pe_lst (pa_cons pe_str (pa_cons pe_str pa_nil))) (pa_cons (pe_lst (pa_cons pe_str (pa_cons pe_str pa_nil))) pa_nil))) (nomark _))
        (pss_one (ps_ret pe_bl))
        pss_nil)
      (pss_one (ps_ret (pe_cmpR op_isN (pe_heardG (k := 8) T D_heard TB sys quiet hr (by decide) rfl rfl (by rfl) (lamS_by (sc := defScope s_law) (by decide +kernel)) (by rfl) (fun _ _ _ _ _ => rfl) (fun A2 o2 s2 H2 E2 f2 c2 quiet2 hr2 => (pe_smG (pe_gv T.gMisreading (by rfl)) D_same quiet2 (passTk (takes_of rfl rfl rfl rfl)) hr2 (by decide) (pa_cons pe_str pa_nil)))) pe_non (nomark _))))))))), ?_⟩
    -- the pen
    refine ⟨_, rfl, a, ns, rfl, hS, hn0, fun p l H1 np s1 PA1 => ?_⟩
    have tb1 := tb0.ext s1
    -- the turns
    refine ⟨_, rfl, by decide, by decide, for_it (walk_range (lo := 0) (n := 8)) (fun i σ H2 => (∃ v2 v3 v4 v5 v6 v7 : Option V, σ = [some (.ref a), some (.ref p), v2, v3, v4, v5, v6, v7]) ∧ PenAt H2 p l ns (80 * (8 - i)) ∧ Tabs TL H2) ⟨⟨none, none, none, none, none, none, rfl⟩, PA1.less (by omega), tb1⟩ (fun _ _ _ _ _ => trivial) ?_ ?_⟩
    · rintro i z σ H20 H2 hi ⟨⟨v2, v3, v4, v5, v6, v7, rfl⟩, PA2, tb2⟩ ⟨rfl, rfl⟩
      have hb : 80 * (8 - i) = 80 * (8 - (i + 1)) + 80 := by omega
      rw [hb] at PA2
      generalize 80 * (8 - (i + 1)) = n at PA2 ⊢
      -- the table
      refine ⟨_, rfl, p, l, ns, n + 20, rfl, PA2, fun d kvs H3 nd PA3 fr3 m3 kl knd hv => ?_⟩
      obtain ⟨H4, zs, sh4, PA4, tb4, go⟩ : ∃ (H4 : Hp) (zs : Sh), ShA w H4 d zs ∧ PenAt H4 p l ns (n + 20) ∧ Tabs TL H4 ∧ ((H4 = H3) ∨ ∃ ts, H3 d = some (MixO w d (txM ts)) ∧ H4 = upd H3 d (.dK (txK ts))) := by
        by_cases al : AllTx kvs
        · obtain ⟨ts, rfl⟩ := txM_of al
          obtain ⟨dt, sh⟩ := sh_all m3 kl knd hv
          exact ⟨_, .all dt, sh, PA3.other (PA2.nep nd) (PA2.nel nd), tabs_fr tb2 PA2.pl (fr3.put nd), .inr ⟨ts, m3.at_, rfl⟩⟩
        · obtain ⟨ks, k, sh, fk⟩ := sh_some m3 kl hv al
          exact ⟨H3, .some ks k, ⟨sh, fk⟩, PA3, tabs_fr tb2 PA2.pl fr3, .inl rfl⟩
      generalize hx : V.ref d = x
      apply texts_go (show _ = w from rfl) hx go
      subst hx
      clear go m3 hv knd kl PA3 fr3 nd
      -- a thing that is no text
      refine ⟨_, rfl, by show 1 ≤ sizeLine; decide, fun l1 nl1 => ⟨by show 1 ≤ sizeLine; decide, fun t1 nt1 => fun d1 nd1 => ⟨_, _, rfl, rfl, by decide, by decide, by decide, by show 10 ≤ sizeLine; decide, fun lo nlo => ?_⟩⟩⟩
      have st := same_put (s := Same.refl H4) (o := .lst [.str "a"]) nl1
      have s4 := same_put (s := Same.refl _) (o := .tup [.str "a"]) nt1
      have sd := same_put (s := Same.refl _) (o := .dK []) nd1
      have sk := same_put (s := Same.refl _) (o := .lst [V.non, .int 0, .bl true, .str "A", .str "a b", .ref l1, .ref t1, .ref d1, .str (Txt.mul "a" 2001), .str "e1"]) nlo
      have s5 : Same H4 (upd (upd (upd (upd H4 l1 (.lst [.str "a"])) t1 (.tup [.str "a"])) d1 (.dK [])) lo (.lst [V.non, .int 0, .bl true, .str "A", .str "a b", .ref l1, .ref t1, .ref d1, .str (Txt.mul "a" 2001), .str "e1"])) := fun b o e => sk _ _ (sd _ _ (s4 _ _ (st _ _ e)))
      have hl := sk _ _ (sd _ _ (s4 _ _ (show upd H4 l1 (.lst [.str "a"]) l1 = _ from upd_same)))
      have ht := sk _ _ (sd _ _ (show upd (upd H4 l1 (.lst [.str "a"])) t1 (.tup [.str "a"]) t1 = _ from upd_same))
      have hd := sk _ _ (show upd (upd (upd H4 l1 (.lst [.str "a"])) t1 (.tup [.str "a"])) d1 (.dK []) d1 = _ from upd_same)
      have hlo : upd (upd (upd (upd H4 l1 (.lst [.str "a"])) t1 (.tup [.str "a"])) d1 (.dK [])) lo (.lst [V.non, .int 0, .bl true, .str "A", .str "a b", .ref l1, .ref t1, .ref d1, .str (Txt.mul "a" 2001), .str "e1"]) lo = _ := upd_same
      have lp := PA4.nep nl1
      have PAt := pen_ext PA4 (ExtN.of st)
      have tp := PAt.nep nt1
      have PAl := pen_ext PAt (ExtN.of s4)
      have dp := PAl.nep nd1
      have PAd := pen_ext PAl (ExtN.of sd)
      have lop := PAd.nep nlo
      have PA5 := pen_ext PAd (ExtN.of sk)
      have tb5 := tb4.ext s5
      have sh5 := ShA.mv sh4 PA4.pl (Mv.ofSame s5)
      show spPick K ([V.ref p, V.ref lo] ++ []) (upd (upd (upd (upd H4 l1 (.lst [.str "a"])) t1 (.tup [.str "a"])) d1 (.dK [])) lo (.lst [V.non, .int 0, .bl true, .str "A", .str "a b", .ref l1, .ref t1, .ref d1, .str (Txt.mul "a" 2001), .str "e1"])) _ E0
      generalize upd (upd (upd (upd H4 l1 (.lst [.str "a"])) t1 (.tup [.str "a"])) d1 (.dK [])) lo (.lst [V.non, .int 0, .bl true, .str "A", .str "a b", .ref l1, .ref t1, .ref d1, .str (Txt.mul "a" 2001), .str "e1"]) = H5 at s5 hl ht hd hlo PA5 tb5 sh5 ⊢
      clear nl1 nt1 nd1 nlo st s4 sd sk PAt PAl PAd PA4 tb4 sh4 s5 PA2 tb2
      refine ⟨p, l, lo, ns, n + 19, _, rfl, PA5, SqL.of hlo, by show 0 < 10; decide, by show 10 < 1000; decide, fun H6 f6 => SqL.of (f6 _ _ hlo lop), fun vo H6 hvo PA6 fr6 => ?_⟩
      obtain ⟨od, ho6, onp, ow⟩ := odd_of (fr6 _ _ ht tp) (fr6 _ _ hl lp) (fr6 _ _ hd dp) tp lp dp hvo
      have tb6 := tabs_fr tb5 PA5.pl fr6
      have sh6 := ShA.mv sh5 PA5.pl (Mv.ofFr fr6)
      clear ht hl hd hlo tp lp dp lop hvo PA5 tb5 sh5 fr6
      -- letters that stay
      refine ⟨_, rfl, _, _, rfl, rfl, by decide, by decide, by decide, _, rfl, by show 7 ≤ sizeLine; decide, fun ls nls => ?_⟩
      have s7 := same_put (s := Same.refl H6) (o := .lst [V.str "", .str "", .str "aab", .str "yz", .str "abcdefghijkl", .str (Txt.mul "a" 2000), vo]) nls
      have hls : upd H6 ls (.lst [V.str "", .str "", .str "aab", .str "yz", .str "abcdefghijkl", .str (Txt.mul "a" 2000), vo]) ls = _ := upd_same
      have lsp := PA6.nep nls
      have PA7 := pen_ext PA6 (ExtN.of s7)
      have tb7 := tb6.ext s7
      have sh7 := ShA.mv sh6 PA6.pl (Mv.ofSame s7)
      have ho7 := ho6.same s7
      show spPick K ([V.ref p, V.ref ls] ++ []) (upd H6 ls (.lst [V.str "", .str "", .str "aab", .str "yz", .str "abcdefghijkl", .str (Txt.mul "a" 2000), vo])) _ E0
      generalize upd H6 ls (.lst [V.str "", .str "", .str "aab", .str "yz", .str "abcdefghijkl", .str (Txt.mul "a" 2000), vo]) = H7 at s7 hls PA7 tb7 sh7 ho7 ⊢
      clear nls PA6 tb6 sh6 ho6 s7
      refine ⟨p, l, ls, ns, n + 18, _, rfl, PA7, SqL.of hls, by show 0 < 7; decide, by show 7 < 1000; decide, fun H8 f8 => SqL.of (f8 _ _ hls lsp), fun vs H8 hvs PA8 fr8 => ?_⟩
      have ho8 := held_mv ho7 onp (Mv.ofFr fr8)
      obtain ⟨sd, hs8, snp⟩ := stays_of ho8 onp hvs
      have tb8 := tabs_fr tb7 PA7.pl fr8
      have sh8 := ShA.mv sh7 PA7.pl (Mv.ofFr fr8)
      clear hls lsp hvs PA7 tb7 sh7 ho7 fr8
      -- heard as due
      have dok := dueS_ok sh8 hs8.ni
      refine heard_end (dueS zs sd) tb8 (fun H9 E2 R e9 tb9 hE hR => ?_) (fun x1 H9 e9 tb9 hx1 => ?_)
      · exact ⟨_, rfl, _, rfl, mk_shapes (ShA.mv sh8 PA8.pl (Mv.ofExt e9)) (held_mv hs8 snp (Mv.ofExt e9)) hE hR⟩
      have PA9 := pen_ext PA8 e9
      have ho9 := held_mv ho8 onp (Mv.ofExt e9)
      refine ⟨_, rfl, _, rfl, due_shapes (ShA.mv sh8 PA8.pl (Mv.ofExt e9)) (held_mv hs8 snp (Mv.ofExt e9)) fun x2 H10 s10 hx2 => ?_⟩
      refine neD_same (hr_dp (hr_ext hx1 (ExtN.of s10))) (hr_dp hx2) (hr_shaped dok) ⟨_, rfl, iteF ?_⟩
      have PA10 := pen_ext PA9 (ExtN.of s10)
      have tb10 := tb9.ext s10
      have ho10 := ho9.same s10
      clear PA8 PA9 ho8 ho9 hs8 snp tb8 tb9 sh8 dok hx1 hx2 e9 s10
      -- no images at all
      refine ⟨_, rfl, by show 0 ≤ sizeLine; decide, fun l1 nl1 => ⟨by show 2 ≤ sizeLine; decide, fun t1 nt1 => ⟨by show 1 ≤ sizeLine; decide, fun t2 nt2 => ⟨by show 2 ≤ sizeLine; decide, fun t3 nt3 => ⟨by show 1 ≤ sizeLine; decide, fun l2 nl2 => fun d0 nd0 => ?_⟩⟩⟩⟩⟩
      have m1 := same_put (s := Same.refl H10) (o := .lst []) nl1
      have m2 := same_put (s := Same.refl _) (o := .tup [.str "a", .str "b"]) nt1
      have m3 := same_put (s := Same.refl _) (o := .tup [.ref t1]) nt2
      have m4 := same_put (s := Same.refl _) (o := .tup [.str "a", .str "b"]) nt3
      have m5 := same_put (s := Same.refl _) (o := .lst [.ref t3]) nl2
      have m6 := same_put (s := Same.refl _) (o := .dK []) nd0
      have l1p := PA10.nep nl1
      have PB1 := pen_ext PA10 (ExtN.of m1)
      have PB2 := pen_ext PB1 (ExtN.of m2)
      have PB3 := pen_ext PB2 (ExtN.of m3)
      have PB4 := pen_ext PB3 (ExtN.of m4)
      have l2p := PB4.nep nl2
      have m06 : Same H10 (upd (upd (upd (upd (upd (upd H10 l1 (.lst [])) t1 (.tup [.str "a", .str "b"])) t2 (.tup [.ref t1])) t3 (.tup [.str "a", .str "b"])) l2 (.lst [.ref t3])) d0 (.dK [])) := fun b o e => m6 _ _ (m5 _ _ (m4 _ _ (m3 _ _ (m2 _ _ (m1 _ _ e)))))
      have h1 := m6 _ _ (m5 _ _ (m4 _ _ (m3 _ _ (m2 _ _ (show upd H10 l1 (.lst []) l1 = _ from upd_same)))))
      have h2 := m6 _ _ (m5 _ _ (m4 _ _ (show upd (upd (upd H10 l1 (.lst [])) t1 (.tup [.str "a", .str "b"])) t2 (.tup [.ref t1]) t2 = _ from upd_same)))
      have h3 := m6 _ _ (show upd (upd (upd (upd (upd H10 l1 (.lst [])) t1 (.tup [.str "a", .str "b"])) t2 (.tup [.ref t1])) t3 (.tup [.str "a", .str "b"])) l2 (.lst [.ref t3]) l2 = _ from upd_same)
      have h4 : upd (upd (upd (upd (upd (upd H10 l1 (.lst [])) t1 (.tup [.str "a", .str "b"])) t2 (.tup [.ref t1])) t3 (.tup [.str "a", .str "b"])) l2 (.lst [.ref t3])) d0 (.dK []) d0 = some (.dK (encT [])) := upd_same
      have PA11 := pen_ext PA10 (ExtN.of m06)
      have tb11 := tb10.ext m06
      have ho11 := ho10.same m06
      show mkO _ _ CM CJ Cz ([V.ref d0] ++ [.str (Sx [])]) (upd (upd (upd (upd (upd (upd H10 l1 (.lst [])) t1 (.tup [.str "a", .str "b"])) t2 (.tup [.ref t1])) t3 (.tup [.str "a", .str "b"])) l2 (.lst [.ref t3])) d0 (.dK [])) _ E0
      generalize upd (upd (upd (upd (upd (upd H10 l1 (.lst [])) t1 (.tup [.str "a", .str "b"])) t2 (.tup [.ref t1])) t3 (.tup [.str "a", .str "b"])) l2 (.lst [.ref t3])) d0 (.dK []) = H11 at m06 h1 h2 h3 h4 PA11 tb11 ho11 ⊢
      clear nl1 nt1 nt2 nt3 nl2 nd0 m1 m2 m3 m4 m5 m6 PB1 PB2 PB3 PB4 PA10 tb10 ho10 m06
      refine .inl ⟨d0, abc, [], [], rfl, h4, GoodT.nil, ⟨by decide, by rw [abc_len]; exact Nat.le_refl _⟩, fun c hc => abc_mem.mp hc, fun c hc => absurd hc List.not_mem_nil, by decide, fun x H12 nx mx sx => ?_⟩
      obtain ⟨dx, a1, b1, c1, hx12, _⟩ := mx.mis.at_
      have g1 := sx _ _ h1
      have g2 := sx _ _ h2
      have g3 := sx _ _ h3
      have PA12 := pen_ext PA11 (ExtN.of sx)
      have tb12 := tb11.ext sx
      have ho12 := ho11.same sx
      clear h1 h2 h3 h4 PA11 tb11 ho11
      refine ⟨by show 8 ≤ sizeLine; decide, fun ln nln => ?_⟩
      have s13 := same_put (s := Same.refl H12) (o := .lst [V.non, .int 0, .bl true, .ref l1, .str "a:b", .ref t2, .ref l2, .ref x]) nln
      have hln : upd H12 ln (.lst [V.non, .int 0, .bl true, .ref l1, .str "a:b", .ref t2, .ref l2, .ref x]) ln = _ := upd_same
      have lnp := PA12.nep nln
      have PA13 := pen_ext PA12 (ExtN.of s13)
      have tb13 := tb12.ext s13
      have ho13 := ho12.same s13
      have k1 := s13 _ _ g1
      have k2 := s13 _ _ g2
      have k3 := s13 _ _ g3
      have k4 := s13 _ _ hx12
      show spPick K ([V.ref p, V.ref ln] ++ []) (upd H12 ln (.lst [V.non, .int 0, .bl true, .ref l1, .str "a:b", .ref t2, .ref l2, .ref x])) _ E0
      generalize upd H12 ln (.lst [V.non, .int 0, .bl true, .ref l1, .str "a:b", .ref t2, .ref l2, .ref x]) = H13 at hln PA13 tb13 ho13 k1 k2 k3 k4 ⊢
      clear s13 nln PA12 tb12 ho12 g1 g2 g3 hx12 nx mx sx
      refine ⟨p, l, ln, ns, n + 17, _, rfl, PA13, SqL.of hln, by show 0 < 8; decide, by show 8 < 1000; decide, fun H14 f14 => SqL.of (f14 _ _ hln lnp), fun vn H14 hvn PA14 fr14 => ?_⟩
      have nd14 := (none_of T9 PA13.pl k1 k2 k3 k4 l1p l2p hvn).mv (Mv.ofFr fr14)
      have ho14 := held_mv ho13 onp (Mv.ofFr fr14)
      have tb14 := tabs_fr tb13 PA13.pl fr14
      clear hln lnp k1 k2 k3 k4 l1p l2p hvn PA13 tb13 ho13 fr14
      -- refused, once
      have okI : OkO (some (hearB (.one 0 (.str "images")))) := bad_ok ⟨by decide, nice_images⟩
      refine heard_end (some (hearB (.one 0 (.str "images")))) tb14 (fun H15 E2 R e15 tb15 hE hR => ?_) (fun w1 H15 e15 tb15 hw1 => ?_)
      · exact ⟨_, rfl, _, rfl, none_bad (nd14.mv (Mv.ofExt e15)) (hE _ ⟨by decide, nice_images⟩ rfl)⟩
      have PA15 := pen_ext PA14 e15
      have ho15 := held_mv ho14 onp (Mv.ofExt e15)
      have nd15 := nd14.mv (Mv.ofExt e15)
      refine ⟨by show 1 ≤ sizeLine; decide, fun hl nhl => ?_⟩
      have s16 := same_put (s := Same.refl H15) (o := .lst [w1]) nhl
      have PA16 := pen_ext PA15 (ExtN.of s16)
      have tb16 := tb15.ext s16
      have ho16 := ho15.same s16
      have nd16 := nd15.mv (Mv.ofSame s16)
      have hw16 := hr_ext hw1 (ExtN.of s16)
      have hl16 : upd H15 hl (.lst [w1]) hl = some (.lst [w1]) := upd_same
      have hlp : hl ≠ p := PA15.nep nhl
      have hll : hl ≠ l := PA15.nel nhl
      have hlo : ∀ a, vo = .ref a → a ≠ hl := fun a e => by
        subst e
        obtain ⟨o, eo, _⟩ := held_shape ho15
        exact ne_of_none eo nhl
      have hlw : ∀ a, w1 = .ref a → a ≠ hl := fun a e => by
        subst e
        obtain ⟨l1, e1, e3⟩ := hw1
        cases e1
        exact ne_of_none e3 nhl
      generalize upd H15 hl (.lst [w1]) = H16 at s16 PA16 tb16 ho16 nd16 hw16 hl16 ⊢
      clear PA14 PA15 tb14 tb15 ho14 ho15 nd14 nd15 hw1 s16 nhl e15
      -- refused, twice
      refine ⟨_, rfl, .inl ⟨rfl, _, SqL.of hl16⟩, ?_⟩
      refine heard_end (some (hearB (.one 0 (.str "images")))) tb16 (fun H17 E2 R e17 tb17 hE hR => ?_) (fun w2 H17 e17 tb17 hw17 => ?_)
      · exact ⟨_, rfl, none_bad (nd16.mv (Mv.ofExt e17)) (hE _ ⟨by decide, nice_images⟩ rfl)⟩
      have hl17 := e17 _ _ hl16 (fun _ z => nomatch z)
      have hw2n : ∀ a, w2 = .ref a → a ≠ hl := fun a e => by
        subst e
        obtain ⟨l1, e1, e3⟩ := hw17
        cases e1
        exact ne_of e3 hl17 (fun z => by cases z)
      refine ⟨hl, [w1], w2, rfl, rfl, hl17, by show 1 < sizeLine; decide, ?_⟩
      have PA18 := (pen_ext PA16 e17).other (o := .lst ([w1] ++ [w2])) hlp hll
      have tb18 : Tabs TL (upd H17 hl (.lst ([w1] ++ [w2]))) := tabs_fr tb17 ⟨_, hl17⟩ Fr.at
      have ho18 := held_mv (held_mv ho16 onp (Mv.ofExt e17)) hlo (grow_mv (o := .lst ([w1] ++ [w2])))
      have hw51 := hr_mv (hr_ext hw16 e17) (grow_mv (o := .lst ([w1] ++ [w2]))) hlw
      have hw52 := hr_mv hw17 (grow_mv (o := .lst ([w1] ++ [w2]))) hw2n
      have hl18 : upd H17 hl (.lst ([w1] ++ [w2])) hl = some (.lst [w1, w2]) := upd_same
      dsimp only
      generalize upd H17 hl (.lst ([w1] ++ [w2])) = H18 at PA18 tb18 ho18 hw51 hw52 hl18 ⊢
      clear PA16 tb16 tb17 ho16 nd16 hw16 hw17 hl16 hl17 e17 hw2n hlw hlo hlp hll
      -- as told
      refine ⟨_, rfl, by show 2 ≤ sizeLine; decide, fun l3 nl3 => ⟨by show 1 ≤ sizeLine; decide, fun l4 nl4 => ⟨l4, 2, _, rfl, rfl, upd_same, by decide, by decide, by show 1 * 2 ≤ sizeLine; decide, fun l5 nl5 => ?_⟩⟩⟩
      have s1 := same_put (s := Same.refl H18) (o := .lst [.str "table", .str "'images'"]) nl3
      have s12 := same_put (s := Same.refl _) (o := .lst [.ref l3]) nl4
      have s23 := same_put (s := Same.refl _) (o := .lst [.ref l3, .ref l3]) nl5
      have hr1 : HrV (upd (upd (upd H18 l3 (.lst [.str "table", .str "'images'"])) l4 (.lst [.ref l3])) l5 (.lst [.ref l3, .ref l3])) (.ref l3) (some (hearB (.one 0 (.str "images")))) := by
        rw [hear_images]
        exact hr_ext (hr_ext (hr_new (a := "table") (b := "'images'")) (ExtN.of s12)) (ExtN.of s23)
      have s5 : Same H18 (upd (upd (upd H18 l3 (.lst [.str "table", .str "'images'"])) l4 (.lst [.ref l3])) l5 (.lst [.ref l3, .ref l3])) := fun b o e => s23 _ _ (s12 _ _ (s1 _ _ e))
      have h3 : upd (upd (upd H18 l3 (.lst [.str "table", .str "'images'"])) l4 (.lst [.ref l3])) l5 (.lst [.ref l3, .ref l3]) l5 = some (.lst [.ref l3, .ref l3]) := upd_same
      show rNeD K _ _ (upd (upd (upd H18 l3 (.lst [.str "table", .str "'images'"])) l4 (.lst [.ref l3])) l5 (.lst [.ref l3, .ref l3])) _
      generalize upd (upd (upd H18 l3 (.lst [.str "table", .str "'images'"])) l4 (.lst [.ref l3])) l5 (.lst [.ref l3, .ref l3]) = H19 at hr1 s5 h3 ⊢
      refine neD_same (d := .list ([some (hearB (.one 0 (.str "images"))), some (hearB (.one 0 (.str "images")))].map hrD)) (.lst (SqL.of (s5 _ _ hl18)) (.cons (hr_dp (hr_ext hw51 (ExtN.of s5))) (.cons (hr_dp (hr_ext hw52 (ExtN.of s5))) .nil))) (.lst (SqL.of h3) (.cons (hr_dp hr1) (.cons (hr_dp hr1) .nil))) (hr_list_shaped fun o ho => ?_) ?_
      · simp only [List.mem_cons, List.not_mem_nil, or_false, or_self] at ho
        rw [ho]
        exact okI
      have PA19 := pen_ext PA18 (ExtN.of s5)
      have tb19 := tb18.ext s5
      have ho19 := ho18.same s5
      clear nl3 nl4 nl5 s1 s12 s23 hr1 s5 h3 PA18 tb18 ho18 hw51 hw52 hl18
      refine ⟨_, rfl, iteF ⟨_, rfl, _, rfl, p, l, ns, n + 16, vo, od, rfl, PA19, tb19, ho19, onp, ow, fun H20 PA20 tb20 => ?_⟩⟩
      exact ⟨_, rfl, iteF ⟨⟨_, _, _, _, _, _, rfl⟩, PA20.less (by omega), tb20⟩⟩
    · rintro σ H2 ⟨⟨v2, v3, v4, v5, v6, v7, rfl⟩, PA2, tb2⟩
      refine heard_end (some (hearB (.one 1 (.str "A")))) tb2 (fun H3 E2 R e3 tb3 hE hR => ?_) (fun w1 H3 e3 tb3 hw1 => ?_)
      · refine fun D nD => ⟨upd_same, kA, rfl, by decide, ?_⟩
        rw [merge_A, upd_upd]
        exact .inr ⟨_, _, rfl, .inr (.inr (.inl ⟨D, dA, .str (Sx []), _, rfl, tab_A upd_same, (drawn_str (by decide +kernel)).held, told_A, (hE (.one 1 (.str "A")) ⟨by decide, nice_A⟩ rfl).same (same_put (s := Same.refl H3) nD)⟩))⟩
      refine ⟨by show 1 ≤ sizeLine; decide, fun hl nhl => ?_⟩
      have s4 := same_put (s := Same.refl H3) (o := .lst [w1]) nhl
      have tb4 := tb3.ext s4
      have hw4 := hr_ext hw1 (ExtN.of s4)
      have hl4 : upd H3 hl (.lst [w1]) hl = some (.lst [w1]) := upd_same
      have hlw : ∀ a, w1 = .ref a → a ≠ hl := fun a e => by
        subst e
        obtain ⟨l1, e1, e3⟩ := hw1
        cases e1
        exact ne_of_none e3 nhl
      generalize upd H3 hl (.lst [w1]) = H4 at s4 tb4 hw4 hl4 ⊢
      clear PA2 tb2 tb3 hw1 s4 nhl e3
      refine ⟨_, rfl, .inl ⟨rfl, _, SqL.of hl4⟩, ?_⟩
      refine heard_end (some (hearB (.one 2 (.str (L1 97))))) tb4 (fun H5 E2 R e5 tb5 hE hR => ?_) (fun w2 H5 e5 tb5 hw5 => ?_)
      · refine fun D nD => ⟨upd_same, kB, rfl, by decide, ?_⟩
        rw [merge_B, upd_upd]
        exact .inr ⟨_, _, rfl, .inr (.inr (.inl ⟨D, dB, .str (Sx []), _, rfl, tab_B upd_same, (drawn_str (by decide +kernel)).held, told_B, (hE (.one 2 (.str (L1 97))) ⟨by decide, nice_B⟩ rfl).same (same_put (s := Same.refl H5) nD)⟩))⟩
      have hl5 := e5 _ _ hl4 (fun _ z => nomatch z)
      have hw2n : ∀ a, w2 = .ref a → a ≠ hl := fun a e => by
        subst e
        obtain ⟨l1, e1, e3⟩ := hw5
        cases e1
        exact ne_of e3 hl5 (fun z => by cases z)
      refine ⟨hl, [w1], w2, rfl, rfl, hl5, by show 1 < sizeLine; decide, ?_⟩
      have tb6 : Tabs TL (upd H5 hl (.lst ([w1] ++ [w2]))) := tabs_fr tb5 ⟨_, hl5⟩ Fr.at
      have hw61 := hr_mv (hr_ext hw4 e5) (grow_mv (o := .lst ([w1] ++ [w2]))) hlw
      have hw62 := hr_mv hw5 (grow_mv (o := .lst ([w1] ++ [w2]))) hw2n
      have hl6 : upd H5 hl (.lst ([w1] ++ [w2])) hl = some (.lst [w1, w2]) := upd_same
      dsimp only
      generalize upd H5 hl (.lst ([w1] ++ [w2])) = H6 at tb6 hw61 hw62 hl6 ⊢
      clear tb4 tb5 hw4 hw5 hl4 hl5 e5 hw2n hlw
      refine ⟨_, rfl, by show 2 ≤ sizeLine; decide, fun l1 nl1 => ⟨by show 2 ≤ sizeLine; decide, fun l2 nl2 => ⟨by show 2 ≤ sizeLine; decide, fun l3 nl3 => ?_⟩⟩⟩
      have s1 := same_put (s := Same.refl H6) (o := .lst [.str "letter", .str "'A'"]) nl1
      have s12 := same_put (s := Same.refl _) (o := .lst [.str "image", .str "'a'"]) nl2
      have s23 := same_put (s := Same.refl _) (o := .lst [.ref l1, .ref l2]) nl3
      have hr1 : HrV (upd (upd (upd H6 l1 (.lst [.str "letter", .str "'A'"])) l2 (.lst [.str "image", .str "'a'"])) l3 (.lst [.ref l1, .ref l2])) (.ref l1) (some (hearB (.one 1 (.str "A")))) := by
        rw [hear_A]
        exact hr_ext (hr_ext (hr_new (a := "letter") (b := "'A'")) (ExtN.of s12)) (ExtN.of s23)
      have hr2 : HrV (upd (upd (upd H6 l1 (.lst [.str "letter", .str "'A'"])) l2 (.lst [.str "image", .str "'a'"])) l3 (.lst [.ref l1, .ref l2])) (.ref l2) (some (hearB (.one 2 (.str (L1 97))))) := by
        rw [hear_B]
        exact hr_ext (hr_new (a := "image") (b := "'a'")) (ExtN.of s23)
      have s5 : Same H6 (upd (upd (upd H6 l1 (.lst [.str "letter", .str "'A'"])) l2 (.lst [.str "image", .str "'a'"])) l3 (.lst [.ref l1, .ref l2])) := fun b o e => s23 _ _ (s12 _ _ (s1 _ _ e))
      have h3 : upd (upd (upd H6 l1 (.lst [.str "letter", .str "'A'"])) l2 (.lst [.str "image", .str "'a'"])) l3 (.lst [.ref l1, .ref l2]) l3 = some (.lst [.ref l1, .ref l2]) := upd_same
      show rNeD K _ _ (upd (upd (upd H6 l1 (.lst [.str "letter", .str "'A'"])) l2 (.lst [.str "image", .str "'a'"])) l3 (.lst [.ref l1, .ref l2])) _
      generalize upd (upd (upd H6 l1 (.lst [.str "letter", .str "'A'"])) l2 (.lst [.str "image", .str "'a'"])) l3 (.lst [.ref l1, .ref l2]) = H7 at hr1 hr2 s5 h3 ⊢
      refine neD_same (d := .list ([some (hearB (.one 1 (.str "A"))), some (hearB (.one 2 (.str (L1 97))))].map hrD)) (.lst (SqL.of (s5 _ _ hl6)) (.cons (hr_dp (hr_ext hw61 (ExtN.of s5))) (.cons (hr_dp (hr_ext hw62 (ExtN.of s5))) .nil))) (.lst (SqL.of h3) (.cons (hr_dp hr1) (.cons (hr_dp hr2) .nil))) (hr_list_shaped fun o ho => ?_) ⟨_, rfl, iteF ?_⟩
      · simp only [List.mem_cons, List.not_mem_nil, or_false] at ho
        rcases ho with rfl | rfl
        · exact bad_ok ⟨by decide, nice_A⟩
        · exact bad_ok ⟨by decide, nice_B⟩
      have tb7 := tb6.ext s5
      refine heard_end none tb7 (fun H8 E2 R e8 tb8 hE hR => ?_) (fun x4 H8 e8 tb8 hx4 => ?_)
      · exact ⟨rfl, _, rfl, .inr ⟨cs12, by rw [str_12], by decide, by decide, .inl ⟨len_12, fun x H9 s9 => hR rfl _ _ s9⟩⟩⟩
      obtain rfl : x4 = .non := hx4
      exact ⟨rfl, q0 _⟩
end
end V8

set_option Elab.async false
set_option linter.all false
set_option maxRecDepth 100000
set_option maxHeartbeats 8000000
/-! Letters drawn without putting back. -/
namespace V8
open PySem PySem.Spec PyProof.Rows L2
abbrev s_some_letters : Stmt := topS 38
abbrev n_some_letters : List Str := ["_law_pen_here", "_law_many", "_law_pool", "_law_k"]
theorem sc_some_letters : FnScope ["_law_pen_here", "_law_many", "_law_pool", "_law_k"] ["_law_pen_here", "_law_many"] (defScope s_some_letters) := ⟨rfl, rfl, rfl, by decide +kernel, rfl, by decide +kernel, by decide +kernel⟩
section
variable {P : Program} {w : World} {K : PySem.W.Frag} {mg : Str → Option Value} {base : Heap}
theorem ok_some_letters {f : Addr} {fd : FuncData} (F : Fun K "_law_some_letters" "_law_some_letters" s_some_letters f fd) (T : Blt mg) (D_draw : Df P w K mg base 1 "_law_draw" spDraw) : FnOk P w K mg base CX0 2 f fd ["_law_pen_here", "_law_many"] spLetters := by
  refine F.ok sc_some_letters (fun vs H Q E h => ?_) (fun cdv A outer s H vs Q E hr h => ?_)
  · obtain ⟨p, l, ns, n, many, rfl, _⟩ := h
    rfl
  · obtain ⟨p, l, ns, n, many, rfl, PA, hm, q⟩ := h
    refine ⟨_, (pss_cons (ps_set (i := 2) sc_some_letters.nd rfl (.inr rfl) (pe_callTy (call_listS rfl) (by rfl) T.list (by decide +kernel) (pa_cons pe_str pa_nil)))
      (pss_one (ps_ret (pe_lc (own := [("_law_k", 3)]) (g := gName 3) (by rfl) sc_some_letters.nd (pi_range1 (by rfl) T.range (pa_cons (pv 1) pa_nil)) (blkOk_by (own := [("_law_k", 3)]) (N := n_some_letters) (sc := defScope s_some_letters) (by decide +kernel)) (fun _ _ _ _ _ => (pg_name (i := 3) sc_some_letters.nd rfl (.inl rfl))) (fun _ _ _ _ _ => pts_nil) (fun _ _ _ _ _ => (pe_bmK (K := K) rfl PySem.F.plainAttrs_list PySem.F.slot_list_pop PySem.F.type_list_pop mt_popAt (pv 2) (pa_cons (pe_c D_draw hr (by decide) (by rfl) (pa_cons (pv 0) (pa_cons (pe_callB (call_len_seqK (K := K) rfl) (by rfl) T.len (by decide +kernel) (pa_cons (pv 2) pa_nil)) pa_nil))) pa_nil))))))), ?_⟩
    refine ⟨_, rfl, by decide, fun a na => ?_⟩
    have ePool : (List.map (fun c => V.str ⟨#[c]⟩) (Str.ofString "abcdefghijklmnopqrstuvwxyz").cps.toList) = lets abc := by
      show List.map (fun c => V.str (L1 c)) abcS.cps.toList = lets abc
      rw [abcS_cps]
      rfl
    rw [ePool]
    have PA1 := PA.new (o := .lst (lets abc)) na
    have hap : p ≠ a := by
      obtain ⟨⟨sp, g, h1, _⟩, _⟩ := PA
      exact ne_of_none h1 na
    have hla : l ≠ a := ne_of_none PA.nums na
    refine ⟨_, rfl, many, rfl, by omega, by omega, fun D nD => lc_range (lo := 0) (n := many) (fun i H2 => ∃ got rest : List Nat, (got ++ rest).Perm abc ∧ got.length = i ∧ H2 D = some (.lst (lets got)) ∧ H2 a = some (.lst (lets rest)) ∧ PenAt H2 p l ns (n + (many - i)) ∧ Fr p H H2) ?_ ?_ ?_⟩
    · have hDa : a ≠ D := ne_of_none upd_same nD
      refine ⟨[], abc, List.Perm.refl _, rfl, upd_same, by rw [upd_ne hDa, upd_same], (PA1.new nD).less (by omega), (Fr.new na).trans (Fr.new nD)⟩
    · rintro i H2 hi ⟨got, rest, pm, hg, hD, ha, PA2, fr⟩
      have hlen : got.length + rest.length = 26 := by
        have := pm.length_eq
        rw [List.length_append, abc_len] at this
        exact this
      have hDa : D ≠ a := by
        intro e
        subst e
        rw [upd_same] at nD
        cases nD
      have nDH : H D = none := by
        cases e : H D with
        | none => rfl
        | some o =>
          rw [upd_ne (ne_of_none e na), e] at nD
          cases nD
      have hDp : D ≠ p := by
        intro e
        subst e
        obtain ⟨⟨sp, g, h1, _⟩, _⟩ := PA1
        rw [h1] at nD
        cases nD
      have hDl : D ≠ l := by
        intro e
        subst e
        rw [PA1.nums] at nD
        cases nD
      have hr0 : 0 < (lets rest).length := by rw [lets_len]; omega
      refine ⟨rfl, ⟨_, rfl, .inl ⟨rfl, _, SqL.of ha⟩, _, rfl, _, rfl, a, _, rfl, .inl (SqL.of ha), p, l, ns, n + (many - (i + 1)), _, rfl, PA2.less (by omega), by omega, by rw [lets_len]; omega, fun v H3 v0 v1 PA3 fr3 => ?_⟩⟩
      obtain ⟨j, rfl⟩ : ∃ j : Nat, v = j := ⟨v.toNat, by omega⟩
      have hj : j < rest.length := by rw [lets_len] at v1; omega
      have hx : (lets rest)[j]? = some (.str (L1 rest[j])) := by
        unfold lets
        rw [List.getElem?_map, List.getElem?_eq_getElem hj]
        rfl
      have ha3 : H3 a = some (.lst (lets rest)) := fr3 _ _ ha (Ne.symm hap)
      have hD3 : H3 D = some (.lst (lets got)) := fr3 _ _ hD hDp
      have hk : seqIndex? (j : Int) (lets rest).length = some j := by
        unfold seqIndex?
        rw [lets_len]
        simp
        omega
      refine ⟨a, _, _, j, _, rfl, rfl, ha3, by omega, by omega, hk, hx, lets got, by rw [upd_ne hDa]; exact hD3, by rw [lets_len]; exact small1000 (by omega), got ++ [rest[j]], rest.eraseIdx j, perm_erase pm (List.getElem?_eq_getElem hj), by simp [hg], ?_, ?_, ?_, ?_⟩
      · rw [upd_same]
        unfold lets
        rw [List.map_append]
        rfl
      · rw [upd_ne (Ne.symm hDa), upd_same]
        rw [lets_erase]
      · exact (PA3.other (Ne.symm hap) (Ne.symm hla)).other hDp hDl
      · exact ((fr.trans fr3).put na).put nDH
    · rintro H2 ⟨got, rest, pm, hg, hD, ha, PA2, fr⟩
      have hnd : (got ++ rest).Nodup := pm.nodup_iff.mpr abc_nd
      have nD' : H D = none := by
        cases e : H D with
        | none => rfl
        | some o =>
          rw [upd_ne (ne_of_none e na), e] at nD
          cases nD
      refine q D got H2 hg (List.nodup_append.mp hnd).1 (fun c hc => abc_mem.mp (pm.mem_iff.mp (List.mem_append_left _ hc))) (PA2.less (by omega)) fr nD' hD
end
end V8

set_option Elab.async false
set_option linter.all false
set_option maxRecDepth 100000
set_option maxHeartbeats 4000000
/-! The end of a law, the modules known to stand in the ground. -/
namespace LamX
open PySem PySem.Spec PyProof.Rows L2
theorem law_callS {P : Program} {w : World} {K : PySem.W.Frag} {mg mb mm : Str → Option Value} {C : CXT} {k : Nat} {fa a : Addr} {cs : List (Addr × Addr)} {fd : FuncData} {x : Str} {sp : Sp} {s : Shared} {vs : List Value} {ns : List Int}
    (kin : K.In s.heap) (glob : s.heap.Ns mainGlobals mg) (bns : s.heap.Ns builtinsNs mb) (boot : ∀ y : Str, y ≠ "__name__" → mb y = bootBuiltins y) (lim : s.heap.NoLimit) (gens : s.gens = #[])
    (modules : s.heap.Ns sysModules mm)
    (tabs : ∀ p ∈ cs, s.heap.get? p.2 = some { cls := .none, data := .fields #[] }) (untold : ∀ p ∈ cs, K.lookup p.2 = none) (codes : ∀ p ∈ cs, PySem.W.CodeHd s.heap p.1 p.2)
    (bmod : ∃ (bm : Addr) (ob : Obj), mg "__builtins__" = some (.ref bm) ∧ bm ≠ builtinsNs ∧ s.heap.get? bm = some ob ∧ ob.cls = .type "module" ∧ ob.dict = some builtinsNs ∧ ob.data = .plain)
    (script : s.heap.get? a = some { cls := .type "list", data := .seq vs.toArray }) (whole : IntsAre vs ns) (short : ns.length ≤ sizeLine) (room : Room k callerA)
    (F : ∀ base : Heap, SysIn base → K.In base → base.Ns mainGlobals mg → (∀ p ∈ cs, TabB base mg p.1 p.2) → FnG P w K mg base C k fa fd [x] sp) (binds : ∀ (s : Shared) (u : Value), BindsTo s fd ⟨[u], []⟩ [(x, u)])
    (holds : ∀ H : Hp, (∀ p ∈ cs, H p.2 = some (.tbl #[])) → SqL K H a (ns.map V.int) → sp [.ref a] H (fun v _ => v = .bl true) fun _ _ _ => False)
    (noerr : ∀ H e s', C [] H s (fun _ _ _ => False) e s' → False) :
    codeAny (model P w) callerA (.call (.ref fa) ⟨[.ref a], []⟩) (fun r s' => r = .ok (.ret (.bool true)) ∧ OldK s.heap s'.heap ∧ s'.os = s.os ∧ AllBare s'.gens) s := by
  have rel := vals_ints whole
  have many := whole.length
  generalize hts : cs.map (·.2) = ts
  have inT : ∀ p ∈ cs, p.2 ∈ ts := fun p hp => by
    rw [← hts]
    exact List.mem_map.mpr ⟨p, hp, rfl⟩
  have ofT : ∀ b ∈ ts, ∃ p ∈ cs, p.2 = b := fun b hb => by
    rw [← hts] at hb
    exact List.mem_map.mp hb
  have emp : ∀ b ∈ ts, s.heap.get? b = some { cls := .none, data := .fields #[] } := fun b hb => by
    obtain ⟨p, hp, rfl⟩ := ofT b hb
    exact tabs p hp
  have aT : a ∉ ts := fun z => by
    have e := emp a z
    rw [script] at e
    have e2 := congrArg Obj.data (Option.some.inj e)
    cases e2
  generalize hH : firstH K ts a { cls := .type "list", data := .seq vs.toArray } (ns.map V.int) = H
  have of : ∀ {b u}, H b = some u → (b ∈ ts ∧ u = .tbl #[]) ∨ (b = a ∧ K.lookup a = none ∧ u = .frz { cls := .type "list", data := .seq vs.toArray } (.lst (ns.map V.int))) := fun {b u} z => by
    rw [← hH] at z
    exact firstH_of z
  have atT : ∀ b ∈ ts, H b = some (.tbl #[]) := fun b hb => by
    rw [← hH]
    exact firstH_tab hb
  -- what is neither a list nor an empty table is not tracked
  have off : ∀ {b : Addr} {o : Obj}, s.heap.get? b = some o → (∀ us n, o.data ≠ .seq us n) → o.data ≠ .fields #[] → H b = none := fun {b o} e n1 n2 => by
    cases z : H b with
    | none => rfl
    | some u =>
      rcases of z with ⟨m, _⟩ | ⟨m, _, _⟩
      · rw [emp b m] at e
        cases e
        exact absurd rfl n2
      · rw [m, script] at e
        cases e
        exact absurd rfl (n1 _ _)
  have dict : ∀ {b : Addr} {o : Obj} {es : Array DictEntry} {n : Nat}, s.heap.get? b = some o → o.data = .dict es n → H b = none := fun {b o es n} e d =>
    off e (fun us m z => by rw [d] at z; cases z) fun z => by rw [d] at z; cases z
  have stays : ∀ {b : Addr} {m : Str → Option Value}, s.heap.Ns b m → (hidT s.heap H).Ns b m := fun {b m} z => by
    obtain ⟨o, es, ep, e, d, r⟩ := z
    exact ⟨o, es, ep, hidT_get e (dict e d), d, r⟩
  have kin2 : K.In (hidT s.heap H) := fun b o e => by
    refine hidT_get (kin b o e) ?_
    cases z : H b with
    | none => rfl
    | some u =>
      rcases of z with ⟨m, _⟩ | ⟨m, n, _⟩
      · obtain ⟨p, hp, rfl⟩ := ofT b m
        rw [untold p hp] at e
        cases e
      · rw [m, n] at e
        cases e
  have glob2 := stays glob
  have mod : L2.Mod K mg (hidT s.heap H) := by
    refine ⟨kin2, glob2, ⟨mb, stays bns, boot⟩, ?_⟩
    obtain ⟨mc, l1, l2⟩ := lim
    exact ⟨mc, stays l1, l2⟩
  have tb : ∀ p ∈ cs, TabB (hidT s.heap H) mg p.1 p.2 := fun p hp => by
    have eT := tabs p hp
    refine ⟨?_, ?_, fun z => ?_⟩
    · obtain ⟨o, us, file, tf, flags, tg, inF, text, tt, e1, r1, r2, r3, r⟩ := codes p hp
      refine ⟨o, us, file, tf, flags, tg, inF, text, tt, hidT_get e1 (off e1 (fun ws n z => ?_) fun z => ?_), r1, r2, r3, r⟩
      · rw [r2] at z
        cases z
      · rw [r2] at z
        have z2 : us = #[] := by cases z; rfl
        rw [z2] at r3
        simp at r3
    · obtain ⟨bm, ob, b1, b2, b3, b4, b5, b6⟩ := bmod
      refine ⟨bm, ob, b1, b2, fun z => ?_, fun z => ?_, hidT_get b3 (off b3 (fun ws n z => ?_) fun z => ?_), b4, b5, b6⟩
      · obtain ⟨o, es, ep, e, hd, _⟩ := glob
        rw [z, e] at b3
        cases b3
        rw [hd] at b6
        cases b6
      · rw [z, eT] at b3
        cases b3
        cases b6
      · rw [b6] at z
        cases z
      · rw [b6] at z
        cases z
    · obtain ⟨o, es, ep, e, hd, _⟩ := glob
      rw [z, eT] at e
      cases e
      cases hd
  have held : HOk P w H s.heap := fun b u z => by
    rcases of z with ⟨m, rfl⟩ | ⟨rfl, n, rfl⟩
    · exact emp b m
    · refine ⟨script, ?_, vs, 0, rel, script⟩
      rw [List.length_map]
      exact short
  have seq : SqL K H a (ns.map V.int) := by
    cases hk : K.lookup a with
    | none =>
      refine .inl (.inr ⟨{ cls := .type "list", data := .seq vs.toArray }, ?_⟩)
      rw [← hH]
      exact firstH_at aT hk
    | some o =>
      have e := kin a o hk
      rw [script] at e
      cases e
      refine .inr ⟨_, vs.toArray, _, hk, rfl, rfl, rfl, ?_, by simpa using rel⟩
      rw [List.size_toArray, many]
      exact short
  have start : Env0 P w K mg (hidT s.heap H) callerA [] s H := by
    refine ⟨rfl, mod, fun b o e => of_hidT e, Nat.le_of_eq (hidT_size _ _), trivial, fun b z => ?_, held, .of_eq gens⟩
    exact absurd z (List.not_mem_nil)
  have ran := (F _ (by obtain ⟨o, es, ep, e, d, r⟩ := modules; exact ⟨o, hidT_get e (dict e d)⟩) kin2 glob2 tb).runs callerA [] s H ⟨[.ref a], []⟩ [.ref a] [.ref a] _ _ rfl room start (binds s (.ref a)) (.cons rfl .nil) (holds H (fun p hp => atT _ (inT p hp)) seq)
  refine codeAny_mono ran fun r s2 h => ?_
  match r, h with
  | .error e, h => exact (noerr H e s2 h).elim
  | .ok .next, h => exact h.elim
  | .ok .brk, h => exact h.elim
  | .ok .cont, h => exact h.elim
  | .ok (.ret u), h =>
    obtain ⟨v, H2, os, bare, un, ok2, rv, rfl⟩ := h
    obtain rfl : u = Value.bool true := rv
    have same : ∀ b o, b ∉ ts → s.heap.get? b = some o → s2.heap.get? b = some o := fun b o nb e => by
      cases z : H b with
      | none => exact un.keep b o e z (List.not_mem_nil) (List.not_mem_nil)
      | some u =>
        rcases of z with ⟨m, _⟩ | ⟨rfl, n, rfl⟩
        · exact absurd m nb
        · obtain ⟨e2, _⟩ := ok2 b _ (un.frzs b _ _ z)
          rw [script] at e
          cases e
          exact e2
    have more : ∀ b ∈ ts, ∃ us : Array Value, s2.heap.get? b = some { cls := .none, data := .fields us } := fun b hb => by
      obtain ⟨us, z⟩ := un.tbls b #[] (atT b hb)
      exact ⟨_, ok2 b _ z⟩
    refine ⟨rfl, ⟨fun b o e => ?_, fun b o e => ?_⟩, os, bare⟩
    · by_cases hb : b ∈ ts
      · obtain ⟨us, hu⟩ := more b hb
        obtain ⟨p, hp, rfl⟩ := ofT b hb
        have eT := tabs p hp
        rw [eT] at e
        cases e
        refine .inr (.inl ⟨((codes p hp).tab eT).isCodeTable, rfl, #[], us, rfl, ?_⟩)
        rw [Array.empty_append]
        exact hu
      · exact .inl (same b o hb e)
    · by_cases hb : b ∈ ts
      · obtain ⟨us, hu⟩ := more b hb
        exact ⟨_, hu⟩
      · exact ⟨o, same b o hb e⟩
end LamX

set_option Elab.async false
set_option linter.all false
set_option maxRecDepth 100000
set_option maxHeartbeats 16000000
set_option pp.maxSteps 3000
/-! What the top has left, taken together. -/
namespace V8
open PySem PySem.Spec PyProof.Rows L2 LamX
theorem exm_of {K : PySem.W.Frag} {S R : Addr} (h1 : PySem.W.subIn K (.ref R) (.type "BaseException") = some true) (h2 : PySem.W.isClsIn K R = true) (h3 : PySem.W.typeIn K (.ref R) = some (.type "type")) (h4 : PySem.W.subIn K (.ref S) (.ref R) = some true) : PySem.W.exmOne K (.ref S) (.ref R) = some true := by
  unfold PySem.W.isClsIn at h2
  unfold PySem.W.exmOne
  rw [h1, if_pos (show (some true == some true) = true from rfl)]
  unfold PySem.W.kitCls
  dsimp only
  rw [h2, h3, if_pos (show (true && (some (Value.type "type") == some (Value.type "type"))) = true by decide +kernel), h4]
/-- a class of errors, below CE -/
structure ClsX (K : PySem.W.Frag) (CE C : Addr) : Prop where
  x : ∃ nm q N bs sn sub ab col dd k0 k1 k2 k3 k5, K.lookup C = some (excClassObj nm q C N bs [.ref CE, .type "ValueError", .type "Exception", .type "BaseException", .type "object"] true sn sub ab col dd k0 k1 k2 k3 k5 "ValueError.__new__")
section
variable {K : PySem.W.Frag} {CE C D : Addr}
theorem ClsX.cls (c : ClsX K CE C) : ∃ cd, PySem.W.clsIn K C = some cd ∧ cd.mro = .ref C :: [.ref CE, .type "ValueError", .type "Exception", .type "BaseException", .type "object"] ∧ cd.hasDict = true := by
  obtain ⟨nm, q, N, bs, sn, sub, ab, col, dd, k0, k1, k2, k3, k5, e⟩ := c.x
  unfold PySem.W.clsIn
  rw [e]
  exact ⟨_, rfl, rfl, rfl⟩
theorem ClsX.isC (c : ClsX K CE C) : PySem.W.isClsIn K C = true := by
  obtain ⟨cd, e, _⟩ := c.cls
  unfold PySem.W.isClsIn
  rw [e]
  rfl
theorem ClsX.hd (c : ClsX K CE C) : PySem.W.hasDictIn K C = true := by
  obtain ⟨cd, e, _, h⟩ := c.cls
  unfold PySem.W.hasDictIn
  rw [e]
  exact h
theorem ClsX.ty (c : ClsX K CE C) : PySem.W.typeIn K (.ref C) = some (.type "type") := by
  obtain ⟨nm, q, N, bs, sn, sub, ab, col, dd, k0, k1, k2, k3, k5, e⟩ := c.x
  show (K.lookup C).map _ = _
  rw [e]
  rfl
theorem ClsX.sub (c : ClsX K CE C) (b : Value) : PySem.W.subIn K (.ref C) b = some ((.ref C :: [.ref CE, .type "ValueError", .type "Exception", .type "BaseException", .type "object"] : List Value).contains b) := by
  obtain ⟨cd, e, h, _⟩ := c.cls
  show PySem.W.mroIn K C b = _
  unfold PySem.W.mroIn
  rw [e]
  show (if cd.mro.isEmpty then none else some (cd.mro.contains b)) = _
  rw [h]
  rfl
theorem ClsX.ex (c : ClsX K CE C) : PySem.W.subIn K (.ref C) (.type "BaseException") = some true := by
  rw [c.sub, List.contains_iff_mem.mpr (by simp)]
theorem ClsX.hm (c : ClsX K CE C) : PySem.W.mroIn K C (.type "object") = some true := by
  have e := c.sub (.type "object")
  rw [List.contains_iff_mem.mpr (by simp)] at e
  exact e
theorem ClsX.sE (c : ClsX K CE C) : PySem.W.subIn K (.ref C) (.ref CE) = some true := by
  rw [c.sub, List.contains_iff_mem.mpr (by simp)]
theorem ClsX.kV (c : ClsX K CE C) : PySem.W.kitOne K (.ref C) (.type "ValueError") = some true := by
  unfold PySem.W.kitOne
  rw [if_neg (by intro z; exact nomatch (beq_iff_eq.mp z))]
  show (if PySem.W.kitMeta "ValueError" = true then PySem.W.subIn K (.ref C) (.type "ValueError") else none) = _
  rw [if_pos (by decide +kernel), c.sub, List.contains_iff_mem.mpr (by simp)]
theorem kE_of (c : ClsX K CE C) (ne : C ≠ CE) (h2 : PySem.W.isClsIn K CE = true) (h3 : PySem.W.typeIn K (.ref CE) = some (.type "type")) : PySem.W.kitOne K (.ref C) (.ref CE) = some true := by
  unfold PySem.W.isClsIn at h2
  unfold PySem.W.kitOne
  rw [if_neg (by intro z; cases beq_iff_eq.mp z; exact ne rfl)]
  unfold PySem.W.kitCls
  dsimp only
  rw [h2, h3, if_pos (show (true && (some (Value.type "type") == some (Value.type "type"))) = true by decide +kernel), c.sE]
theorem kk_self {v : Value} : PySem.W.kitOne K v v = some true := by
  unfold PySem.W.kitOne
  rw [if_pos (beq_self_eq_true v)]
theorem kk_of (c : ClsX K CE C) (d : ClsX K CE D) (ne : C ≠ D) (nE : D ≠ CE) : PySem.W.kitOne K (.ref C) (.ref D) = some false := by
  have h2 := d.isC
  have h3 := d.ty
  unfold PySem.W.isClsIn at h2
  unfold PySem.W.kitOne
  rw [if_neg (by intro z; cases beq_iff_eq.mp z; exact ne rfl)]
  unfold PySem.W.kitCls
  dsimp only
  rw [h2, h3, if_pos (show (true && (some (Value.type "type") == some (Value.type "type"))) = true by decide +kernel), c.sub]
  refine congrArg some (Bool.eq_false_iff.mpr fun z => ?_)
  have m := List.contains_iff_mem.mp z
  simp at m
  rcases m with m | m
  · exact ne m.symm
  · exact nE m
end
def CzOf (l : List Addr) (i : Nat) : Addr := l.getD i 0
theorem czof_get {l : List Addr} {i : Nat} (h : i < l.length) : l[i] = CzOf l i := by
  unfold CzOf
  rw [List.getD_eq_getElem?_getD, List.getElem?_eq_getElem h]
  rfl
theorem kit_all {K : PySem.W.Frag} {CE : Addr} {l : List Addr} (nd : (CE :: l).Nodup) (c : ∀ i, i < l.length → ClsX K CE (CzOf l i)) (i j : Nat) (hi : i < l.length) (hj : j < l.length) : PySem.W.kitOne K (.ref (CzOf l i)) (.ref (CzOf l j)) = some (decide (i = j)) := by
  by_cases h : i = j
  · subst h
    rw [kk_self, decide_eq_true rfl]
  · rw [decide_eq_false h]
    have n2 := List.nodup_cons.mp nd
    have pw := List.pairwise_iff_getElem.mp n2.2
    refine kk_of (c i hi) (c j hj) (fun z => ?_) fun z => n2.1 ?_
    · rw [← czof_get hi, ← czof_get hj] at z
      rcases Nat.lt_or_gt_of_ne h with lt | lt
      · exact pw i j hi hj lt z
      · exact pw j i hj hi lt z.symm
    · rw [← z, ← czof_get hj]
      exact List.getElem_mem hj
theorem ne_all {CE : Addr} {l : List Addr} (nd : (CE :: l).Nodup) (i : Nat) (hi : i < l.length) : CzOf l i ≠ CE := fun z => (List.nodup_cons.mp nd).1 (by rw [← z, ← czof_get hi]; exact List.getElem_mem hi)
theorem vals_two {x y : V} {us : List Value} (h : Vals [x, y] us) : Vals [y, x] us.reverse := by
  match us, h with
  | [a, b], .cons r1 (.cons r2 .nil) => exact .cons r2 (.cons r1 .nil)
theorem vals_revW : ∀ {xs : List V} {us : List Value}, Vals xs us → Vals xs.reverse us.reverse
  | [], _, .nil => .nil
  | x :: xs, u :: us, .cons r h => by
    rw [List.reverse_cons, List.reverse_cons]
    exact (vals_revW h).append (.cons r .nil)
/-- what the law promises where the script is laid -/
structure LawG (l : PySem.W.OpenLaw) (w : World) (K : PySem.W.Frag) (k : Nat) (mg : Str → Option Value) (fa : Addr) (h : Heap) (fd : FuncData) (cs : List (Addr × Addr)) (sp : Sp) : Prop where
  tabs : ∀ p ∈ cs, h.get? p.2 = some { cls := .none, data := .fields #[] }
  untold : ∀ p ∈ cs, K.lookup p.2 = none
  codes : ∀ p ∈ cs, PySem.W.CodeHd h p.1 p.2
  binds : ∀ (s : Shared) (u : Value), BindsTo s fd ⟨[u], []⟩ [("_law_script", u)]
  starts : ∀ (H : Hp) (a : Addr) (ns : List Int), ns.length ≤ 63 → (∀ z ∈ ns, Builtin.Int.intBits z ≤ 1048576) → (∀ p ∈ cs, H p.2 = some (.tbl #[])) → SqL K H a (ns.map V.int) → sp [.ref a] H (fun v _ => v = .bl true) fun _ _ _ => False
  runs : ∀ base : Heap, SysIn base → K.In base → base.Ns mainGlobals mg → (∀ p ∈ cs, TabB base mg p.1 p.2) → FnG l.prog w K mg base CX0 k fa fd ["_law_script"] sp
/-- the names of the lambdas, by their tables -/
def TLs (p1 p2 : Addr) : List (Addr × Str) := [(p1, (("_law_others_right" : Str) ++ ".<locals>.") ++ "<lambda>"), (p2, (("law" : Str) ++ ".<locals>.") ++ "<lambda>")]
theorem all_mk {l : PySem.W.OpenLaw} {w : World} {K : PySem.W.Frag} {fa : Addr} {h : Heap} {mg : Str → Option Value} {CM CJ CE pS TI q1 q2 p1 p2 C0 N0 C1 N1 C2 N2 C3 N3 C4 N4 C5 N5 f0 f1 f2 f3 f4 f5 f6 f7 f8 f9 f10 f11 f12 f13 f14 f15 f16 f17 f18 f19 f20 f21 f22 f23 f24 f25 f26 : Addr} {od0 an0 od1 an1 od2 an2 od3 an3 od4 an4 od5 an5 od6 an6 od7 an7 od8 an8 od9 an9 od10 an10 od11 an11 od12 an12 od13 an13 od14 an14 od15 an15 od16 an16 od17 an17 od18 an18 od19 an19 od20 an20 od21 an21 od22 an22 od23 an23 od24 an24 od25 an25 od26 an26 odT qd1 qd2 : Option Addr} {sl0 sl1 sl2 sl3 sl4 sl5 sl6 sl7 sl8 sl9 sl10 sl11 sl12 sl13 sl14 sl15 sl16 sl17 sl18 sl19 sl20 sl21 sl22 sl23 sl24 sl25 sl26 slT qs1 qs2 : Array (Option Value)} {oc0 kV0 dc0 pm0 cd0 ct0 oc1 kV1 dc1 pm1 cd1 ct1 oc2 kV2 dc2 pm2 cd2 ct2 oc3 kV3 dc3 pm3 cd3 ct3 oc4 kV4 dc4 pm4 cd4 ct4 oc5 kV5 dc5 pm5 cd5 ct5 oc6 kV6 dc6 pm6 cd6 ct6 oc7 kV7 dc7 pm7 cd7 ct7 oc8 kV8 dc8 pm8 cd8 ct8 oc9 kV9 dc9 pm9 cd9 ct9 oc10 kV10 dc10 pm10 cd10 ct10 oc11 kV11 dc11 pm11 cd11 ct11 oc12 kV12 dc12 pm12 cd12 ct12 oc13 kV13 dc13 pm13 cd13 ct13 oc14 kV14 dc14 pm14 cd14 ct14 oc15 kV15 dc15 pm15 ct15 oc16 kV16 dc16 pm16 ct16 oc17 kV17 dc17 pm17 cd17 ct17 oc18 kV18 dc18 pm18 cd18 ct18 oc19 kV19 dc19 pm19 cd19 ct19 oc20 kV20 dc20 pm20 cd20 ct20 oc21 kV21 dc21 pm21 cd21 ct21 oc22 kV22 dc22 pm22 cd22 ct22 oc23 kV23 dc23 pm23 cd23 ct23 oc24 kV24 dc24 pm24 cd24 ct24 oc25 kV25 dc25 pm25 cd25 ct25 oc26 kV26 dc26 pm26 cd26 ct26 ocT : Value} {vs1 vs2 : Array Value} {bs0 sub0 bs1 sub1 bs2 sub2 bs3 sub3 bs4 sub4 bs5 sub5 restS : List Value} {nT : Nat} {tkT tk1 tk2 tk3 tk4 qt1 qt2 qm1 qm2 qy1 qy2 : Tok} {ql1 ql2 qx1 qx2 : Int} {qi1 qi2 : Bool} {qf1 qf2 nm0 qq0 nm1 qq1 nm2 qq2 nm3 qq3 nm4 qq4 nm5 qq5 : Str} {sn0 sn1 sn2 sn3 sn4 sn5 : List Str} {ab0 ab1 ab2 ab3 ab4 ab5 : Bool} {col0 col1 col2 col3 col4 col5 : Option Bool} {dd0 dd1 dd2 dd3 dd4 dd5 : Option Addr} {m00 m01 m02 m03 m05 m10 m11 m12 m13 m15 m20 m21 m22 m23 m25 m30 m31 m32 m33 m35 m40 m41 m42 m43 m45 m50 m51 m52 m53 m55 : Option Value} (X : K.In h) (G : h.Ns mainGlobals mg) (hfa : mg "law" = some (.ref fa)) (own : OwnTab K fa h) (own2 : ∀ fb, mg "_law_others_right" = some (.ref fb) → OwnTab K fb h)
    (aC : PySem.W.nsIn K mainGlobals "Misreading" = some (some (.ref CM)))
    (aJ : PySem.W.nsIn K mainGlobals "Joined" = some (some (.ref CJ)))
    (aE : PySem.W.nsIn K mainGlobals "RepairError" = some (some (.ref CE)))
    (a_BadTable : PySem.W.nsIn K mainGlobals "BadTable" = some (some (.ref C0)))
    (a_BadLetter : PySem.W.nsIn K mainGlobals "BadLetter" = some (some (.ref C1)))
    (a_BadImage : PySem.W.nsIn K mainGlobals "BadImage" = some (some (.ref C2)))
    (a_BadWord : PySem.W.nsIn K mainGlobals "BadWord" = some (some (.ref C3)))
    (a_Barred : PySem.W.nsIn K mainGlobals "Barred" = some (some (.ref C4)))
    (a_TooMany : PySem.W.nsIn K mainGlobals "TooMany" = some (some (.ref C5)))
    (a0 : PySem.W.nsIn K mainGlobals "copied" = some (some (.ref f0)))
    (l0 : K.lookup f0 = some ⟨oc0, od0, .func (PySem.W.fnOf "copied" "copied" (defArgs s_copied) (defBody s_copied) (defScope s_copied) .none kV0 dc0 pm0 an0 cd0 ct0), sl0⟩) (c0 : PySem.W.codeIn K cd0 "copied" = true) (k0 : PySem.W.keepIn K (.ref f0) = true)
    (a1 : PySem.W.nsIn K mainGlobals "is_letter" = some (some (.ref f1)))
    (l1 : K.lookup f1 = some ⟨oc1, od1, .func (PySem.W.fnOf "is_letter" "is_letter" (defArgs s_is_letter) (defBody s_is_letter) (defScope s_is_letter) .none kV1 dc1 pm1 an1 cd1 ct1), sl1⟩) (c1 : PySem.W.codeIn K cd1 "is_letter" = true) (k1 : PySem.W.keepIn K (.ref f1) = true)
    (a2 : PySem.W.nsIn K mainGlobals "all_letters" = some (some (.ref f2)))
    (l2 : K.lookup f2 = some ⟨oc2, od2, .func (PySem.W.fnOf "all_letters" "all_letters" (defArgs s_all_letters) (defBody s_all_letters) (defScope s_all_letters) .none kV2 dc2 pm2 an2 cd2 ct2), sl2⟩) (c2 : PySem.W.codeIn K cd2 "all_letters" = true) (k2 : PySem.W.keepIn K (.ref f2) = true)
    (a3 : PySem.W.nsIn K mainGlobals "is_text" = some (some (.ref f3)))
    (l3 : K.lookup f3 = some ⟨oc3, od3, .func (PySem.W.fnOf "is_text" "is_text" (defArgs s_is_text) (defBody s_is_text) (defScope s_is_text) .none kV3 dc3 pm3 an3 cd3 ct3), sl3⟩) (c3 : PySem.W.codeIn K cd3 "is_text" = true) (k3 : PySem.W.keepIn K (.ref f3) = true)
    (a4 : PySem.W.nsIn K mainGlobals "is_image" = some (some (.ref f4)))
    (l4 : K.lookup f4 = some ⟨oc4, od4, .func (PySem.W.fnOf "is_image" "is_image" (defArgs s_is_image) (defBody s_is_image) (defScope s_is_image) .none kV4 dc4 pm4 an4 cd4 ct4), sl4⟩) (c4 : PySem.W.codeIn K cd4 "is_image" = true) (k4 : PySem.W.keepIn K (.ref f4) = true)
    (a5 : PySem.W.nsIn K mainGlobals "told_images" = some (some (.ref f5)))
    (l5 : K.lookup f5 = some ⟨oc5, od5, .func (PySem.W.fnOf "told_images" "told_images" (defArgs s_told_images) (defBody s_told_images) (defScope s_told_images) .none kV5 dc5 pm5 an5 cd5 ct5), sl5⟩) (c5 : PySem.W.codeIn K cd5 "told_images" = true) (k5 : PySem.W.keepIn K (.ref f5) = true)
    (a6 : PySem.W.nsIn K mainGlobals "check_text" = some (some (.ref f6)))
    (l6 : K.lookup f6 = some ⟨oc6, od6, .func (PySem.W.fnOf "check_text" "check_text" (defArgs s_check_text) (defBody s_check_text) (defScope s_check_text) .none kV6 dc6 pm6 an6 cd6 ct6), sl6⟩) (c6 : PySem.W.codeIn K cd6 "check_text" = true) (k6 : PySem.W.keepIn K (.ref f6) = true)
    (a7 : PySem.W.nsIn K mainGlobals "_law_pen" = some (some (.ref f7)))
    (l7 : K.lookup f7 = some ⟨oc7, od7, .func (PySem.W.fnOf "_law_pen" "_law_pen" (defArgs s_pen) (defBody s_pen) (defScope s_pen) .none kV7 dc7 pm7 an7 cd7 ct7), sl7⟩) (c7 : PySem.W.codeIn K cd7 "_law_pen" = true) (k7 : PySem.W.keepIn K (.ref f7) = true)
    (a8 : PySem.W.nsIn K mainGlobals "_law_draw" = some (some (.ref f8)))
    (l8 : K.lookup f8 = some ⟨oc8, od8, .func (PySem.W.fnOf "_law_draw" "_law_draw" (defArgs s_draw) (defBody s_draw) (defScope s_draw) .none kV8 dc8 pm8 an8 cd8 ct8), sl8⟩) (c8 : PySem.W.codeIn K cd8 "_law_draw" = true) (k8 : PySem.W.keepIn K (.ref f8) = true)
    (a9 : PySem.W.nsIn K mainGlobals "_law_pick" = some (some (.ref f9)))
    (l9 : K.lookup f9 = some ⟨oc9, od9, .func (PySem.W.fnOf "_law_pick" "_law_pick" (defArgs s_pick) (defBody s_pick) (defScope s_pick) .none kV9 dc9 pm9 an9 cd9 ct9), sl9⟩) (c9 : PySem.W.codeIn K cd9 "_law_pick" = true) (k9 : PySem.W.keepIn K (.ref f9) = true)
    (a10 : PySem.W.nsIn K mainGlobals "_law_some_letters" = some (some (.ref f10)))
    (l10 : K.lookup f10 = some ⟨oc10, od10, .func (PySem.W.fnOf "_law_some_letters" "_law_some_letters" (defArgs s_some_letters) (defBody s_some_letters) (defScope s_some_letters) .none kV10 dc10 pm10 an10 cd10 ct10), sl10⟩) (c10 : PySem.W.codeIn K cd10 "_law_some_letters" = true) (k10 : PySem.W.keepIn K (.ref f10) = true)
    (a11 : PySem.W.nsIn K mainGlobals "_law_heard" = some (some (.ref f11)))
    (l11 : K.lookup f11 = some ⟨oc11, od11, .func (PySem.W.fnOf "_law_heard" "_law_heard" (defArgs s_heard) (defBody s_heard) (defScope s_heard) .none kV11 dc11 pm11 an11 cd11 ct11), sl11⟩) (c11 : PySem.W.codeIn K cd11 "_law_heard" = true) (k11 : PySem.W.keepIn K (.ref f11) = true)
    (a12 : PySem.W.nsIn K mainGlobals "_law_is_word" = some (some (.ref f12)))
    (l12 : K.lookup f12 = some ⟨oc12, od12, .func (PySem.W.fnOf "_law_is_word" "_law_is_word" (defArgs s__law_is_word) (defBody s__law_is_word) (defScope s__law_is_word) .none kV12 dc12 pm12 an12 cd12 ct12), sl12⟩) (c12 : PySem.W.codeIn K cd12 "_law_is_word" = true) (k12 : PySem.W.keepIn K (.ref f12) = true)
    (a13 : PySem.W.nsIn K mainGlobals "_law_due" = some (some (.ref f13)))
    (l13 : K.lookup f13 = some ⟨oc13, od13, .func (PySem.W.fnOf "_law_due" "_law_due" (defArgs s__law_due) (defBody s__law_due) (defScope s__law_due) .none kV13 dc13 pm13 an13 cd13 ct13), sl13⟩) (c13 : PySem.W.codeIn K cd13 "_law_due" = true) (k13 : PySem.W.keepIn K (.ref f13) = true)
    (a14 : PySem.W.nsIn K mainGlobals "_law_images" = some (some (.ref f14)))
    (l14 : K.lookup f14 = some ⟨oc14, od14, .func (PySem.W.fnOf "_law_images" "_law_images" (defArgs s__law_images) (defBody s__law_images) (defScope s__law_images) .none kV14 dc14 pm14 an14 cd14 ct14), sl14⟩) (c14 : PySem.W.codeIn K cd14 "_law_images" = true) (k14 : PySem.W.keepIn K (.ref f14) = true)
    (a15 : PySem.W.nsIn K mainGlobals "_law_others_right" = some (some (.ref f15)))
    (l15 : K.lookup f15 = some ⟨oc15, od15, .func (PySem.W.fnOf "_law_others_right" "_law_others_right" (defArgs s__law_others_right) (defBody s__law_others_right) (defScope s__law_others_right) .none kV15 dc15 pm15 an15 (.ref q1) ct15), sl15⟩) (c15 : PySem.W.codeIn K (.ref q1) "_law_others_right" = true) (k15 : PySem.W.keepIn K (.ref f15) = true)
    (a16 : PySem.W.nsIn K mainGlobals "law" = some (some (.ref f16)))
    (l16 : K.lookup f16 = some ⟨oc16, od16, .func (PySem.W.fnOf "law" "law" (defArgs s_law) (defBody s_law) (defScope s_law) .none kV16 dc16 pm16 an16 (.ref q2) ct16), sl16⟩) (c16 : PySem.W.codeIn K (.ref q2) "law" = true) (k16 : PySem.W.keepIn K (.ref f16) = true)
    (a17 : PySem.W.findIn K (.ref CM) "only" = some (some (.ref f17)))
    (i17 : PySem.W.isFn K (.ref f17) = true)
    (l17 : K.lookup f17 = some ⟨oc17, od17, .func (PySem.W.fnOf "only" "Misreading.only" (defArgs s_Misreading_only) (defBody s_Misreading_only) (defScope s_Misreading_only) .none kV17 dc17 pm17 an17 cd17 ct17), sl17⟩) (c17 : PySem.W.codeIn K cd17 "Misreading.only" = true) (k17 : PySem.W.keepIn K (.ref f17) = true)
    (n17 : PySem.W.fnIn K f17 = true)
    (a18 : PySem.W.findIn K (.ref CM) "__getitem__" = some (some (.ref f18)))
    (i18 : PySem.W.isFn K (.ref f18) = true)
    (l18 : K.lookup f18 = some ⟨oc18, od18, .func (PySem.W.fnOf "__getitem__" "Misreading.__getitem__" (defArgs s_Misreading_getitem) (defBody s_Misreading_getitem) (defScope s_Misreading_getitem) .none kV18 dc18 pm18 an18 cd18 ct18), sl18⟩) (c18 : PySem.W.codeIn K cd18 "Misreading.__getitem__" = true) (k18 : PySem.W.keepIn K (.ref f18) = true)
    (n18 : PySem.W.fnIn K f18 = true)
    (sC : PySem.W.findCls K (.ref CM) (.type "type") "same" = some (.get (.builtin "staticmethod.__get__") (.ref pS) .none (.ref CM)))
    (sR : PySem.W.recIn K pS "staticmethod" = some (.ref f19 :: restS))
    (l19 : K.lookup f19 = some ⟨oc19, od19, .func (PySem.W.fnOf "same" "Misreading.same" (defArgs s_Misreading_same) (defBody s_Misreading_same) (defScope s_Misreading_same) .none kV19 dc19 pm19 an19 cd19 ct19), sl19⟩) (c19 : PySem.W.codeIn K cd19 "Misreading.same" = true) (k19 : PySem.W.keepIn K (.ref f19) = true)
    (a20 : PySem.W.findIn K (.ref CM) "__init__" = some (some (.ref f20)))
    (i20 : PySem.W.isFn K (.ref f20) = true)
    (l20 : K.lookup f20 = some ⟨oc20, od20, .func (PySem.W.fnOf "__init__" "Misreading.__init__" (defArgs s_Misreading_init) (defBody s_Misreading_init) (defScope s_Misreading_init) (.ref TI) kV20 dc20 pm20 an20 cd20 ct20), sl20⟩) (c20 : PySem.W.codeIn K cd20 "Misreading.__init__" = true) (k20 : PySem.W.keepIn K (.ref f20) = true)
    (tI : K.lookup TI = some ⟨ocT, odT, .seq #[.str "" tkT] nT, slT⟩)
    (a21 : PySem.W.findIn K (.ref C0) "__init__" = some (some (.ref f21)))
    (y21 : PySem.W.typeIn K (.ref f21) = some (.type "function"))
    (l21 : K.lookup f21 = some ⟨oc21, od21, .func (PySem.W.fnOf "__init__" "BadTable.__init__" (defArgs s_BadTable_init) (defBody s_BadTable_init) (defScope s_BadTable_init) .none kV21 dc21 pm21 an21 cd21 ct21), sl21⟩) (c21 : PySem.W.codeIn K cd21 "BadTable.__init__" = true) (k21 : PySem.W.keepIn K (.ref f21) = true)
    (a22 : PySem.W.findIn K (.ref C1) "__init__" = some (some (.ref f22)))
    (y22 : PySem.W.typeIn K (.ref f22) = some (.type "function"))
    (l22 : K.lookup f22 = some ⟨oc22, od22, .func (PySem.W.fnOf "__init__" "BadLetter.__init__" (defArgs s_BadLetter_init) (defBody s_BadLetter_init) (defScope s_BadLetter_init) .none kV22 dc22 pm22 an22 cd22 ct22), sl22⟩) (c22 : PySem.W.codeIn K cd22 "BadLetter.__init__" = true) (k22 : PySem.W.keepIn K (.ref f22) = true)
    (a23 : PySem.W.findIn K (.ref C2) "__init__" = some (some (.ref f23)))
    (y23 : PySem.W.typeIn K (.ref f23) = some (.type "function"))
    (l23 : K.lookup f23 = some ⟨oc23, od23, .func (PySem.W.fnOf "__init__" "BadImage.__init__" (defArgs s_BadImage_init) (defBody s_BadImage_init) (defScope s_BadImage_init) .none kV23 dc23 pm23 an23 cd23 ct23), sl23⟩) (c23 : PySem.W.codeIn K cd23 "BadImage.__init__" = true) (k23 : PySem.W.keepIn K (.ref f23) = true)
    (a24 : PySem.W.findIn K (.ref C3) "__init__" = some (some (.ref f24)))
    (y24 : PySem.W.typeIn K (.ref f24) = some (.type "function"))
    (l24 : K.lookup f24 = some ⟨oc24, od24, .func (PySem.W.fnOf "__init__" "BadWord.__init__" (defArgs s_BadWord_init) (defBody s_BadWord_init) (defScope s_BadWord_init) .none kV24 dc24 pm24 an24 cd24 ct24), sl24⟩) (c24 : PySem.W.codeIn K cd24 "BadWord.__init__" = true) (k24 : PySem.W.keepIn K (.ref f24) = true)
    (a25 : PySem.W.findIn K (.ref C4) "__init__" = some (some (.ref f25)))
    (y25 : PySem.W.typeIn K (.ref f25) = some (.type "function"))
    (l25 : K.lookup f25 = some ⟨oc25, od25, .func (PySem.W.fnOf "__init__" "Barred.__init__" (defArgs s_Barred_init) (defBody s_Barred_init) (defScope s_Barred_init) .none kV25 dc25 pm25 an25 cd25 ct25), sl25⟩) (c25 : PySem.W.codeIn K cd25 "Barred.__init__" = true) (k25 : PySem.W.keepIn K (.ref f25) = true)
    (a26 : PySem.W.findIn K (.ref C5) "__init__" = some (some (.ref f26)))
    (y26 : PySem.W.typeIn K (.ref f26) = some (.type "function"))
    (l26 : K.lookup f26 = some ⟨oc26, od26, .func (PySem.W.fnOf "__init__" "TooMany.__init__" (defArgs s_TooMany_init) (defBody s_TooMany_init) (defScope s_TooMany_init) .none kV26 dc26 pm26 an26 cd26 ct26), sl26⟩) (c26 : PySem.W.codeIn K cd26 "TooMany.__init__" = true) (k26 : PySem.W.keepIn K (.ref f26) = true)
    (x_BadTable : K.lookup C0 = some (excClassObj nm0 qq0 C0 N0 bs0 [.ref CE, .type "ValueError", .type "Exception", .type "BaseException", .type "object"] true sn0 sub0 ab0 col0 dd0 m00 m01 m02 m03 m05 "ValueError.__new__"))
    (s_BadTable : PySem.W.findIn K (.ref C0) "__setattr__" = some (some (.builtin "object.__setattr__")))
    (k_BadTable : PySem.W.keepIn K (.ref C0) = true)
    (hg_BadTable : PySem.W.findIn K (.ref C0) "__getattribute__" = some (some (.builtin "BaseException.__getattribute__")))
    (hk_BadTable : PySem.W.findIn K (.ref C0) "__getattr__" = some none)
    (ha_BadTable : PySem.W.findIn K (.ref C0) "__class__" = some (some (.builtin "object.__class__")))
    (n_BadTable_part : PySem.W.findIn K (.ref C0) "part" = some none)
    (x_BadLetter : K.lookup C1 = some (excClassObj nm1 qq1 C1 N1 bs1 [.ref CE, .type "ValueError", .type "Exception", .type "BaseException", .type "object"] true sn1 sub1 ab1 col1 dd1 m10 m11 m12 m13 m15 "ValueError.__new__"))
    (s_BadLetter : PySem.W.findIn K (.ref C1) "__setattr__" = some (some (.builtin "object.__setattr__")))
    (k_BadLetter : PySem.W.keepIn K (.ref C1) = true)
    (hg_BadLetter : PySem.W.findIn K (.ref C1) "__getattribute__" = some (some (.builtin "BaseException.__getattribute__")))
    (hk_BadLetter : PySem.W.findIn K (.ref C1) "__getattr__" = some none)
    (ha_BadLetter : PySem.W.findIn K (.ref C1) "__class__" = some (some (.builtin "object.__class__")))
    (n_BadLetter_value : PySem.W.findIn K (.ref C1) "value" = some none)
    (x_BadImage : K.lookup C2 = some (excClassObj nm2 qq2 C2 N2 bs2 [.ref CE, .type "ValueError", .type "Exception", .type "BaseException", .type "object"] true sn2 sub2 ab2 col2 dd2 m20 m21 m22 m23 m25 "ValueError.__new__"))
    (s_BadImage : PySem.W.findIn K (.ref C2) "__setattr__" = some (some (.builtin "object.__setattr__")))
    (k_BadImage : PySem.W.keepIn K (.ref C2) = true)
    (hg_BadImage : PySem.W.findIn K (.ref C2) "__getattribute__" = some (some (.builtin "BaseException.__getattribute__")))
    (hk_BadImage : PySem.W.findIn K (.ref C2) "__getattr__" = some none)
    (ha_BadImage : PySem.W.findIn K (.ref C2) "__class__" = some (some (.builtin "object.__class__")))
    (n_BadImage_letter : PySem.W.findIn K (.ref C2) "letter" = some none)
    (x_BadWord : K.lookup C3 = some (excClassObj nm3 qq3 C3 N3 bs3 [.ref CE, .type "ValueError", .type "Exception", .type "BaseException", .type "object"] true sn3 sub3 ab3 col3 dd3 m30 m31 m32 m33 m35 "ValueError.__new__"))
    (s_BadWord : PySem.W.findIn K (.ref C3) "__setattr__" = some (some (.builtin "object.__setattr__")))
    (k_BadWord : PySem.W.keepIn K (.ref C3) = true)
    (hg_BadWord : PySem.W.findIn K (.ref C3) "__getattribute__" = some (some (.builtin "BaseException.__getattribute__")))
    (hk_BadWord : PySem.W.findIn K (.ref C3) "__getattr__" = some none)
    (ha_BadWord : PySem.W.findIn K (.ref C3) "__class__" = some (some (.builtin "object.__class__")))
    (n_BadWord_value : PySem.W.findIn K (.ref C3) "value" = some none)
    (x_Barred : K.lookup C4 = some (excClassObj nm4 qq4 C4 N4 bs4 [.ref CE, .type "ValueError", .type "Exception", .type "BaseException", .type "object"] true sn4 sub4 ab4 col4 dd4 m40 m41 m42 m43 m45 "ValueError.__new__"))
    (s_Barred : PySem.W.findIn K (.ref C4) "__setattr__" = some (some (.builtin "object.__setattr__")))
    (k_Barred : PySem.W.keepIn K (.ref C4) = true)
    (hg_Barred : PySem.W.findIn K (.ref C4) "__getattribute__" = some (some (.builtin "BaseException.__getattribute__")))
    (hk_Barred : PySem.W.findIn K (.ref C4) "__getattr__" = some none)
    (ha_Barred : PySem.W.findIn K (.ref C4) "__class__" = some (some (.builtin "object.__class__")))
    (n_Barred_at : PySem.W.findIn K (.ref C4) "at" = some none)
    (x_TooMany : K.lookup C5 = some (excClassObj nm5 qq5 C5 N5 bs5 [.ref CE, .type "ValueError", .type "Exception", .type "BaseException", .type "object"] true sn5 sub5 ab5 col5 dd5 m50 m51 m52 m53 m55 "ValueError.__new__"))
    (s_TooMany : PySem.W.findIn K (.ref C5) "__setattr__" = some (some (.builtin "object.__setattr__")))
    (k_TooMany : PySem.W.keepIn K (.ref C5) = true)
    (hg_TooMany : PySem.W.findIn K (.ref C5) "__getattribute__" = some (some (.builtin "BaseException.__getattribute__")))
    (hk_TooMany : PySem.W.findIn K (.ref C5) "__getattr__" = some none)
    (ha_TooMany : PySem.W.findIn K (.ref C5) "__class__" = some (some (.builtin "object.__class__")))
    (n_TooMany_what : PySem.W.findIn K (.ref C5) "what" = some none)
    (n_TooMany_most : PySem.W.findIn K (.ref C5) "most" = some none)
    (eR : PySem.W.subIn K (.ref CE) (.type "BaseException") = some true)
    (tyR : PySem.W.typeIn K (.ref CE) = some (.type "type"))
    (iR : PySem.W.isClsIn K CE = true)
    (rdR : PySem.W.readsIn K CE (.type "type") = true)
    (gaR : PySem.W.specialIn K (.ref CE) "__getattribute__" = some (some (.builtin "type.__getattribute__")))
    (vR : PySem.W.findCls K (.ref CE) (.type "type") "__init__" = some (.val (.builtin "ValueError.__init__")))
    (rd : PySem.W.readsIn K CM (.type "type") = true)
    (ga : PySem.W.specialIn K (.ref CM) "__getattribute__" = some (some (.builtin "type.__getattribute__")))
    (pg : PySem.W.plainGet K CM Str.empty = true)
    (hd : PySem.W.hasDictIn K CM = true)
    (po : PySem.W.plainOver K CM = true)
    (sa : PySem.W.findIn K (.ref CM) "__setattr__" = some (some (.builtin "object.__setattr__")))
    (mk : PySem.W.makesIn K CM = true)
    (kc : PySem.W.keepIn K (.ref CM) = true)
    (nL : PySem.W.findIn K (.ref CM) "_letters" = some none)
    (nI : PySem.W.findIn K (.ref CM) "_images" = some none)
    (nC : PySem.W.findIn K (.ref CM) "changed" = some none)
    (tA : PySem.W.findIn K (.ref CM) "__class__" = some (some (.builtin "object.__class__")))
    (tB : PySem.W.specialIn K (.builtin "object.__class__") "__get__" = some (some (.builtin "getset_descriptor.__get__")))
    (tC : PySem.W.takesIn K (.builtin "object.__class__") = some true)
    (tD : PySem.W.mroIn K CM (.type "object") = some true)
    (ne : PySem.W.findIn K (.ref CM) "__ne__" = some (some (.builtin "object.__ne__")))
    (ow_str : PySem.W.notFirst K CM (.type "str") = true)
    (ow_int : PySem.W.notFirst K CM (.type "int") = true)
    (ow_dict : PySem.W.notFirst K CM (.type "dict") = true)
    (ok_str : PySem.W.kitOne K (.type "str") (.ref CM) = some false)
    (ok_int : PySem.W.kitOne K (.type "int") (.ref CM) = some false)
    (ok_dict : PySem.W.kitOne K (.type "dict") (.ref CM) = some false)
    (kMM : PySem.W.kitOne K (.ref CM) (.ref CM) = some true)
    (kMJ : PySem.W.kitOne K (.ref CM) (.ref CJ) = some false)
    (kMs : PySem.W.kitOne K (.ref CM) (.type "str") = some false)
    (kMd : PySem.W.kitOne K (.ref CM) (.type "dict") = some false)
    (kls : PySem.W.kitOne K (.type "list") (.type "str") = some false)
    (kj_dict : PySem.W.kitOne K (.type "dict") (.ref CJ) = some false)
    (kj_NoneType : PySem.W.kitOne K (.type "NoneType") (.ref CJ) = some false)
    (kj_int : PySem.W.kitOne K (.type "int") (.ref CJ) = some false)
    (kj_bool : PySem.W.kitOne K (.type "bool") (.ref CJ) = some false)
    (kj_str : PySem.W.kitOne K (.type "str") (.ref CJ) = some false)
    (kj_list : PySem.W.kitOne K (.type "list") (.ref CJ) = some false)
    (kj_tuple : PySem.W.kitOne K (.type "tuple") (.ref CJ) = some false)
    (kn0 : PySem.W.kitOne K (.type "NoneType") (.ref C0) = some false)
    (kn1 : PySem.W.kitOne K (.type "NoneType") (.ref C1) = some false)
    (kn2 : PySem.W.kitOne K (.type "NoneType") (.ref C2) = some false)
    (kn3 : PySem.W.kitOne K (.type "NoneType") (.ref C3) = some false)
    (kn4 : PySem.W.kitOne K (.type "NoneType") (.ref C4) = some false)
    (kn5 : PySem.W.kitOne K (.type "NoneType") (.ref C5) = some false)
    (g1 : PySem.W.nsIn K mainGlobals "LETTERS" = some (some (.str "abcdefghijklmnopqrstuvwxyz" tk1)))
    (g2 : PySem.W.nsIn K mainGlobals "LONGEST" = some (some (.int 2000 tk2)))
    (g3 : PySem.W.nsIn K mainGlobals "LONGEST_TOLD" = some (some (.int 4 tk3)))
    (g4 : PySem.W.nsIn K mainGlobals "MOST_LETTERS" = some (some (.int 12 tk4)))
    (z_list : PySem.W.nsIn K mainGlobals "list" = some none)
    (z_int : PySem.W.nsIn K mainGlobals "int" = some none)
    (z_len : PySem.W.nsIn K mainGlobals "len" = some none)
    (z_abs : PySem.W.nsIn K mainGlobals "abs" = some none)
    (z_range : PySem.W.nsIn K mainGlobals "range" = some none)
    (z_dict : PySem.W.nsIn K mainGlobals "dict" = some none)
    (z_str : PySem.W.nsIn K mainGlobals "str" = some none)
    (z_sorted : PySem.W.nsIn K mainGlobals "sorted" = some none)
    (z_tuple : PySem.W.nsIn K mainGlobals "tuple" = some none)
    (z_isinstance : PySem.W.nsIn K mainGlobals "isinstance" = some none)
    (z_iter : PySem.W.nsIn K mainGlobals "iter" = some none)
    (z_enumerate : PySem.W.nsIn K mainGlobals "enumerate" = some none)
    (z_repr : PySem.W.nsIn K mainGlobals "repr" = some none)
    (z_set : PySem.W.nsIn K mainGlobals "set" = some none)
    (qc1 : K.lookup q1 = some ⟨.type "code", qd1, .fields vs1, qs1⟩)
    (qv1 : vs1[11]? = some (.ref p1))
    (qa1 : vs1.getD 18 .none = .str qf1 qt1)
    (qb1 : vs1.getD 7 .none = .int ql1 qm1)
    (qe1 : vs1.getD 9 .none = .bool qi1)
    (qg1 : vs1.getD 10 .none = .int qx1 qy1)
    (qn1 : (q1 == p1) = false)
    (qk1 : K.lookup p1 = none)
    (qc2 : K.lookup q2 = some ⟨.type "code", qd2, .fields vs2, qs2⟩)
    (qv2 : vs2[11]? = some (.ref p2))
    (qa2 : vs2.getD 18 .none = .str qf2 qt2)
    (qb2 : vs2.getD 7 .none = .int ql2 qm2)
    (qe2 : vs2.getD 9 .none = .bool qi2)
    (qg2 : vs2.getD 10 .none = .int qx2 qy2)
    (qn2 : (q2 == p2) = false)
    (qk2 : K.lookup p2 = none)
    (pp : (p1 == p2) = false)
    (nd : (CE :: ([C0, C1, C2, C3, C4, C5] : List Addr)).Nodup) :
    ∃ fd cs sp, LawG l w K 13 mg fa h fd cs sp := by
  have e := hfa.symm.trans (PySem.W.mg_of X G a16)
  cases e
  have B : Blt mg := ⟨PySem.W.mg_none_of X G z_list, PySem.W.mg_none_of X G z_int, PySem.W.mg_none_of X G z_len, PySem.W.mg_none_of X G z_abs, PySem.W.mg_none_of X G z_range, PySem.W.mg_none_of X G z_dict, PySem.W.mg_none_of X G z_str, PySem.W.mg_none_of X G z_sorted, PySem.W.mg_none_of X G z_tuple⟩
  have TQ : Tq mg := ⟨B, PySem.W.mg_none_of X G z_isinstance, PySem.W.mg_none_of X G z_repr, PySem.W.mg_none_of X G z_enumerate⟩
  have T1 : Tx K mg CM CJ := ⟨B, PySem.W.mg_none_of X G z_isinstance, PySem.W.mg_none_of X G z_iter, ⟨_, PySem.W.mg_of X G g1, ⟨tk1, rfl⟩⟩, ⟨_, PySem.W.mg_of X G g2, ⟨tk2, rfl⟩⟩, ⟨_, PySem.W.mg_of X G g3, ⟨tk3, rfl⟩⟩, ⟨_, PySem.W.mg_of X G g4, ⟨tk4, rfl⟩⟩,
    ⟨_, PySem.W.mg_of X G aC, rfl⟩, ⟨_, PySem.W.mg_of X G aJ, rfl⟩, kj_dict, ok_dict, ok_str, ok_int, ⟨pg, hd, po, sa⟩, nL, nI, nC, tA, tB, tC, tD, ne, ow_dict, ow_str, ow_int⟩
  have T2 : Ty K mg CM CJ := ⟨T1, kMM, kMJ, kMs, kls⟩
  have TB : Tb K mg CE := ⟨PySem.W.mg_of X G aE, ⟨rdR, gaR⟩, vR⟩
  have Y0 : ClsX K CE C0 := ⟨⟨nm0, qq0, N0, bs0, sn0, sub0, ab0, col0, dd0, m00, m01, m02, m03, m05, x_BadTable⟩⟩
  have O0 : OexC K C0 := ⟨⟨nm0, qq0, N0, bs0, _, sn0, sub0, ab0, col0, dd0, m00, m01, m02, m03, m05, x_BadTable, show PySem.HandSPX.refsVE [.type "ValueError", .type "Exception", .type "BaseException", .type "object"] = true by decide +kernel⟩, s_BadTable, Y0.ex, Y0.ty, k_BadTable⟩
  have X0 : ExcC K C0 := ⟨hg_BadTable, hk_BadTable, Y0.ex, Y0.hd, ha_BadTable, tB, tC, Y0.hm⟩
  have Y1 : ClsX K CE C1 := ⟨⟨nm1, qq1, N1, bs1, sn1, sub1, ab1, col1, dd1, m10, m11, m12, m13, m15, x_BadLetter⟩⟩
  have O1 : OexC K C1 := ⟨⟨nm1, qq1, N1, bs1, _, sn1, sub1, ab1, col1, dd1, m10, m11, m12, m13, m15, x_BadLetter, show PySem.HandSPX.refsVE [.type "ValueError", .type "Exception", .type "BaseException", .type "object"] = true by decide +kernel⟩, s_BadLetter, Y1.ex, Y1.ty, k_BadLetter⟩
  have X1 : ExcC K C1 := ⟨hg_BadLetter, hk_BadLetter, Y1.ex, Y1.hd, ha_BadLetter, tB, tC, Y1.hm⟩
  have Y2 : ClsX K CE C2 := ⟨⟨nm2, qq2, N2, bs2, sn2, sub2, ab2, col2, dd2, m20, m21, m22, m23, m25, x_BadImage⟩⟩
  have O2 : OexC K C2 := ⟨⟨nm2, qq2, N2, bs2, _, sn2, sub2, ab2, col2, dd2, m20, m21, m22, m23, m25, x_BadImage, show PySem.HandSPX.refsVE [.type "ValueError", .type "Exception", .type "BaseException", .type "object"] = true by decide +kernel⟩, s_BadImage, Y2.ex, Y2.ty, k_BadImage⟩
  have X2 : ExcC K C2 := ⟨hg_BadImage, hk_BadImage, Y2.ex, Y2.hd, ha_BadImage, tB, tC, Y2.hm⟩
  have Y3 : ClsX K CE C3 := ⟨⟨nm3, qq3, N3, bs3, sn3, sub3, ab3, col3, dd3, m30, m31, m32, m33, m35, x_BadWord⟩⟩
  have O3 : OexC K C3 := ⟨⟨nm3, qq3, N3, bs3, _, sn3, sub3, ab3, col3, dd3, m30, m31, m32, m33, m35, x_BadWord, show PySem.HandSPX.refsVE [.type "ValueError", .type "Exception", .type "BaseException", .type "object"] = true by decide +kernel⟩, s_BadWord, Y3.ex, Y3.ty, k_BadWord⟩
  have X3 : ExcC K C3 := ⟨hg_BadWord, hk_BadWord, Y3.ex, Y3.hd, ha_BadWord, tB, tC, Y3.hm⟩
  have Y4 : ClsX K CE C4 := ⟨⟨nm4, qq4, N4, bs4, sn4, sub4, ab4, col4, dd4, m40, m41, m42, m43, m45, x_Barred⟩⟩
  have O4 : OexC K C4 := ⟨⟨nm4, qq4, N4, bs4, _, sn4, sub4, ab4, col4, dd4, m40, m41, m42, m43, m45, x_Barred, show PySem.HandSPX.refsVE [.type "ValueError", .type "Exception", .type "BaseException", .type "object"] = true by decide +kernel⟩, s_Barred, Y4.ex, Y4.ty, k_Barred⟩
  have X4 : ExcC K C4 := ⟨hg_Barred, hk_Barred, Y4.ex, Y4.hd, ha_Barred, tB, tC, Y4.hm⟩
  have Y5 : ClsX K CE C5 := ⟨⟨nm5, qq5, N5, bs5, sn5, sub5, ab5, col5, dd5, m50, m51, m52, m53, m55, x_TooMany⟩⟩
  have O5 : OexC K C5 := ⟨⟨nm5, qq5, N5, bs5, _, sn5, sub5, ab5, col5, dd5, m50, m51, m52, m53, m55, x_TooMany, show PySem.HandSPX.refsVE [.type "ValueError", .type "Exception", .type "BaseException", .type "object"] = true by decide +kernel⟩, s_TooMany, Y5.ex, Y5.ty, k_TooMany⟩
  have X5 : ExcC K C5 := ⟨hg_TooMany, hk_TooMany, Y5.ex, Y5.hd, ha_TooMany, tB, tC, Y5.hm⟩
  have YY : ∀ i, i < ([C0, C1, C2, C3, C4, C5] : List Addr).length → ClsX K CE (CzOf [C0, C1, C2, C3, C4, C5] i) := fun i hi => by
    match i, hi with
    | 0, _ => exact Y0
    | 1, _ => exact Y1
    | 2, _ => exact Y2
    | 3, _ => exact Y3
    | 4, _ => exact Y4
    | 5, _ => exact Y5
    | k + 6, z => exact absurd (show k + 6 < 6 from z) (by omega)
  have T : Th K mg CM CJ CE (CzOf [C0, C1, C2, C3, C4, C5]) := ⟨T2, ⟨_, PySem.W.mg_of X G a_BadTable, rfl⟩, ⟨_, PySem.W.mg_of X G a_BadLetter, rfl⟩, ⟨_, PySem.W.mg_of X G a_BadImage, rfl⟩, ⟨_, PySem.W.mg_of X G a_BadWord, rfl⟩, ⟨_, PySem.W.mg_of X G a_Barred, rfl⟩, ⟨_, PySem.W.mg_of X G a_TooMany, rfl⟩, PySem.W.mg_of X G aE, PySem.W.mg_none_of X G z_repr, PySem.W.mg_none_of X G z_set, fun i hi => exm_of eR iR tyR (YY i hi).sE, fun i j hi hj => kit_all nd YY i j hi hj,
    (fun i hi => by
      match i, hi with
      | 0, _ => exact kn0
      | 1, _ => exact kn1
      | 2, _ => exact kn2
      | 3, _ => exact kn3
      | 4, _ => exact kn4
      | 5, _ => exact kn5
      | k + 6, z => exact absurd z (by omega)),
    (fun i hi => by
      match i, hi with
      | 0, _ => exact X0
      | 1, _ => exact X1
      | 2, _ => exact X2
      | 3, _ => exact X3
      | 4, _ => exact X4
      | 5, _ => exact X5
      | k + 6, z => exact absurd z (by omega)),
    (fun i hi => by
      match i, hi with
      | 0, _ => exact n_BadTable_part
      | 1, _ => exact n_BadLetter_value
      | 2, _ => exact n_BadImage_letter
      | 3, _ => exact n_BadWord_value
      | 4, _ => exact n_Barred_at
      | k + 5, z => exact absurd z (by omega)), n_TooMany_what, n_TooMany_most⟩
  have TL9 : Tl K mg CM CJ CE (CzOf [C0, C1, C2, C3, C4, C5]) := ⟨T, kj_NoneType, kj_int, kj_bool, kj_str, kj_list, kMd, kj_tuple⟩
  have F0 := fun_mk (st := s_copied) l0 c0 k0
  have b0 := F0.binds (ps := ["value"]) fun _ _ _ _ _ _ us hl => match us, hl with | [_], _ => rfl
  have F1 := fun_mk (st := s_is_letter) l1 c1 k1
  have b1 := F1.binds (ps := ["value"]) fun _ _ _ _ _ _ us hl => match us, hl with | [_], _ => rfl
  have F2 := fun_mk (st := s_all_letters) l2 c2 k2
  have b2 := F2.binds (ps := ["string"]) fun _ _ _ _ _ _ us hl => match us, hl with | [_], _ => rfl
  have F3 := fun_mk (st := s_is_text) l3 c3 k3
  have b3 := F3.binds (ps := ["value"]) fun _ _ _ _ _ _ us hl => match us, hl with | [_], _ => rfl
  have F4 := fun_mk (st := s_is_image) l4 c4 k4
  have b4 := F4.binds (ps := ["value"]) fun _ _ _ _ _ _ us hl => match us, hl with | [_], _ => rfl
  have F5 := fun_mk (st := s_told_images) l5 c5 k5
  have b5 := F5.binds (ps := ["images", "keeps"]) fun _ _ _ _ _ _ us hl => match us, hl with | [_, _], _ => rfl
  have F6 := fun_mk (st := s_check_text) l6 c6 k6
  have b6 := F6.binds (ps := ["value"]) fun _ _ _ _ _ _ us hl => match us, hl with | [_], _ => rfl
  have F7 := fun_mk (st := s_pen) l7 c7 k7
  have b7 := F7.binds (ps := ["_law_script"]) fun _ _ _ _ _ _ us hl => match us, hl with | [_], _ => rfl
  have F8 := fun_mk (st := s_draw) l8 c8 k8
  have b8 := F8.binds (ps := ["_law_pen_here", "_law_many"]) fun _ _ _ _ _ _ us hl => match us, hl with | [_, _], _ => rfl
  have F9 := fun_mk (st := s_pick) l9 c9 k9
  have b9 := F9.binds (ps := ["_law_pen_here", "_law_some"]) fun _ _ _ _ _ _ us hl => match us, hl with | [_, _], _ => rfl
  have F10 := fun_mk (st := s_some_letters) l10 c10 k10
  have b10 := F10.binds (ps := ["_law_pen_here", "_law_many"]) fun _ _ _ _ _ _ us hl => match us, hl with | [_, _], _ => rfl
  have F11 := fun_mk (st := s_heard) l11 c11 k11
  have b11 := F11.binds (ps := ["_law_ask"]) fun _ _ _ _ _ _ us hl => match us, hl with | [_], _ => rfl
  have F12 := fun_mk (st := s__law_is_word) l12 c12 k12
  have b12 := F12.binds (ps := ["_law_value", "_law_least", "_law_most"]) fun _ _ _ _ _ _ us hl => match us, hl with | [_, _, _], _ => rfl
  have F13 := fun_mk (st := s__law_due) l13 c13 k13
  have b13 := F13.binds (ps := ["_law_shapes", "_law_stays"]) fun _ _ _ _ _ _ us hl => match us, hl with | [_, _], _ => rfl
  have F14 := fun_mk (st := s__law_images) l14 c14 k14
  have b14 := F14.binds (ps := ["_law_pen_here"]) fun _ _ _ _ _ _ us hl => match us, hl with | [_], _ => rfl
  have F15 := fun_mk (st := s__law_others_right) l15 c15 k15
  have b15 := F15.binds (ps := ["_law_pen_here", "_law_odd"]) fun _ _ _ _ _ _ us hl => match us, hl with | [_, _], _ => rfl
  have F16 := fun_mk (st := s_law) l16 c16 k16
  have F17 := fun_mk (st := s_Misreading_only) l17 c17 k17
  have b17 := F17.binds (ps := ["self", "letters"]) fun _ _ _ _ _ _ us hl => match us, hl with | [_, _], _ => rfl
  have F18 := fun_mk (st := s_Misreading_getitem) l18 c18 k18
  have b18 := F18.binds (ps := ["self", "at"]) fun _ _ _ _ _ _ us hl => match us, hl with | [_, _], _ => rfl
  have F19 := fun_mk (st := s_Misreading_same) l19 c19 k19
  have b19 := F19.binds (ps := ["letters"]) fun _ _ _ _ _ _ us hl => match us, hl with | [_], _ => rfl
  have ee : ("" : Str) = Sx [] := by decide +kernel
  have F20 : FunD K "__init__" "Misreading.__init__" (defArgs s_Misreading_init) (defBody s_Misreading_init) (defScope s_Misreading_init) [.str (Sx [])] [] f20 _ := ⟨⟨oc20, od20, .ref TI, kV20, dc20, pm20, an20, cd20, ct20, sl20, rfl, l20, c20, .inr ⟨(fun z => nomatch z), TI, _, [.str "" tkT], nT, rfl, tI, rfl, .cons ⟨tkT, by rw [← ee]⟩ .nil⟩, .inl rfl⟩, k20⟩
  have F21 := fun_mk (st := s_BadTable_init) l21 c21 k21
  have b21 := F21.binds (ps := ["self", "part"]) fun _ _ _ _ _ _ us hl => match us, hl with | [_, _], _ => rfl
  have kb0 : KBn K (PySem.W.fnOf "__init__" "BadTable.__init__" (defArgs s_BadTable_init) (defBody s_BadTable_init) (defScope s_BadTable_init) .none kV21 dc21 pm21 an21 cd21 ct21) ["self", "part"] 1 ["part"] (fun us ws => us ++ ws) (fun vs zs => vs ++ zs) := ⟨fun s us ws _ h0 h2 => match us, ws, h0, h2 with
    | [_], [_], _, _ => .of_eq rfl, fun r1 r2 => r1.append r2⟩
  have F22 := fun_mk (st := s_BadLetter_init) l22 c22 k22
  have b22 := F22.binds (ps := ["self", "value"]) fun _ _ _ _ _ _ us hl => match us, hl with | [_, _], _ => rfl
  have kb1 : KBn K (PySem.W.fnOf "__init__" "BadLetter.__init__" (defArgs s_BadLetter_init) (defBody s_BadLetter_init) (defScope s_BadLetter_init) .none kV22 dc22 pm22 an22 cd22 ct22) ["self", "value"] 1 ["value"] (fun us ws => us ++ ws) (fun vs zs => vs ++ zs) := ⟨fun s us ws _ h0 h2 => match us, ws, h0, h2 with
    | [_], [_], _, _ => .of_eq rfl, fun r1 r2 => r1.append r2⟩
  have F23 := fun_mk (st := s_BadImage_init) l23 c23 k23
  have b23 := F23.binds (ps := ["self", "letter"]) fun _ _ _ _ _ _ us hl => match us, hl with | [_, _], _ => rfl
  have kb2 : KBn K (PySem.W.fnOf "__init__" "BadImage.__init__" (defArgs s_BadImage_init) (defBody s_BadImage_init) (defScope s_BadImage_init) .none kV23 dc23 pm23 an23 cd23 ct23) ["self", "letter"] 1 ["letter"] (fun us ws => us ++ ws) (fun vs zs => vs ++ zs) := ⟨fun s us ws _ h0 h2 => match us, ws, h0, h2 with
    | [_], [_], _, _ => .of_eq rfl, fun r1 r2 => r1.append r2⟩
  have F24 := fun_mk (st := s_BadWord_init) l24 c24 k24
  have b24 := F24.binds (ps := ["self", "value"]) fun _ _ _ _ _ _ us hl => match us, hl with | [_, _], _ => rfl
  have kb3 : KBn K (PySem.W.fnOf "__init__" "BadWord.__init__" (defArgs s_BadWord_init) (defBody s_BadWord_init) (defScope s_BadWord_init) .none kV24 dc24 pm24 an24 cd24 ct24) ["self", "value"] 1 ["value"] (fun us ws => us ++ ws) (fun vs zs => vs ++ zs) := ⟨fun s us ws _ h0 h2 => match us, ws, h0, h2 with
    | [_], [_], _, _ => .of_eq rfl, fun r1 r2 => r1.append r2⟩
  have F25 := fun_mk (st := s_Barred_init) l25 c25 k25
  have b25 := F25.binds (ps := ["self", "at"]) fun _ _ _ _ _ _ us hl => match us, hl with | [_, _], _ => rfl
  have kb4 : KBn K (PySem.W.fnOf "__init__" "Barred.__init__" (defArgs s_Barred_init) (defBody s_Barred_init) (defScope s_Barred_init) .none kV25 dc25 pm25 an25 cd25 ct25) ["self", "at"] 1 ["at"] (fun us ws => us ++ ws) (fun vs zs => vs ++ zs) := ⟨fun s us ws _ h0 h2 => match us, ws, h0, h2 with
    | [_], [_], _, _ => .of_eq rfl, fun r1 r2 => r1.append r2⟩
  have F26 := fun_mk (st := s_TooMany_init) l26 c26 k26
  have b26 := F26.binds (ps := ["self", "what", "most"]) fun _ _ _ _ _ _ us hl => match us, hl with | [_, _, _], _ => rfl
  have kb5 : KBn K (PySem.W.fnOf "__init__" "TooMany.__init__" (defArgs s_TooMany_init) (defBody s_TooMany_init) (defScope s_TooMany_init) .none kV26 dc26 pm26 an26 cd26 ct26) ["self", "what", "most"] 1 ["most", "what"] (fun us ws => us ++ ws.reverse) (fun vs zs => vs ++ zs.reverse) := ⟨fun s us ws _ h0 h2 => match us, ws, h0, h2 with
    | [_], [_, _], _, _ => .of_eq rfl, fun r1 r2 => r1.append (vals_revW r2)⟩
  have N1 : q1 ≠ p1 := fun z => by rw [z] at qn1; simp at qn1
  have hd11_1 : vs1.getD 11 .none = .ref p1 := by rw [Array.getD_eq_getD_getElem?, qv1]; rfl
  have H1 : PySem.W.CodeHd h q1 p1 := ⟨_, vs1, _, _, _, _, _, _, _, X _ _ qc1, rfl, rfl, qv1, hd11_1, qa1, qb1, qe1, qg1, N1⟩
  have N2 : q2 ≠ p2 := fun z => by rw [z] at qn2; simp at qn2
  have hd11_2 : vs2.getD 11 .none = .ref p2 := by rw [Array.getD_eq_getD_getElem?, qv2]; rfl
  have H2 : PySem.W.CodeHd h q2 p2 := ⟨_, vs2, _, _, _, _, _, _, _, X _ _ qc2, rfl, rfl, qv2, hd11_2, qa2, qb2, qe2, qg2, N2⟩
  have P1 : h.get? p1 = some { cls := .none, data := .fields #[] } := own2 f15 (PySem.W.mg_of X G a15) q1 p1 _ _ _ _ _ _ l15 rfl rfl qc1 qv1
  have P2 : h.get? p2 = some { cls := .none, data := .fields #[] } := own q2 p2 _ _ _ _ _ _ l16 rfl rfl qc2 qv2
  have pne : p1 ≠ p2 := fun z => by rw [z] at pp; simp at pp
  have two : ∀ {C : Addr × Addr → Prop}, C (q1, p1) → C (q2, p2) → ∀ p ∈ [(q1, p1), (q2, p2)], C p := fun a b p hp => by
    rcases List.mem_cons.mp hp with rfl | hp
    · exact a
    · rw [List.mem_singleton.mp hp]
      exact b
  refine ⟨PySem.W.fnOf "law" "law" (defArgs s_law) (defBody s_law) (defScope s_law) .none kV16 dc16 pm16 an16 (.ref q2) ct16, [(q1, p1), (q2, p2)], spLaw (TLs p1 p2) K, ⟨two P1 P2, two qk1 qk2, two H1 H2, fun s v => .of_eq rfl, fun Hh a ns hl _ ht hS => ⟨a, ns, rfl, hS, hl, fun p hp => ?_, fun _ => rfl⟩, fun base sys _ _ hb => ?_⟩⟩
  · rcases List.mem_cons.mp hp with rfl | hp
    · exact TabS.nil (ht (q1, p1) (by simp))
    · rw [List.mem_singleton.mp hp]
      exact TabS.nil (ht (q2, p2) (by simp))
  have K1 : TabT base mg (TLs p1 p2) (("_law_others_right" : Str) ++ ".<locals>.") q1 p1 := ⟨hb (q1, p1) (by simp), by simp [TLs], fun p hp e => by
    rcases List.mem_cons.mp hp with rfl | hp
    · rfl
    · rw [List.mem_singleton.mp hp] at e
      exact absurd e.symm pne⟩
  have K2 : TabT base mg (TLs p1 p2) (("law" : Str) ++ ".<locals>.") q2 p2 := ⟨hb (q2, p2) (by simp), by simp [TLs], fun p hp e => by
    rcases List.mem_cons.mp hp with rfl | hp
    · exact absurd e pne
    · rw [List.mem_singleton.mp hp]⟩
  have FJ : FunC K "_law_others_right" "_law_others_right" s__law_others_right f15 q1 _ := ⟨⟨oc15, od15, kV15, dc15, pm15, an15, ct15, sl15, rfl, l15, c15⟩⟩
  have FL : FunC K "law" "law" s_law fa q2 (PySem.W.fnOf "law" "law" (defArgs s_law) (defBody s_law) (defScope s_law) .none kV16 dc16 pm16 an16 (.ref q2) ct16) := ⟨⟨oc16, od16, kV16, dc16, pm16, an16, ct16, sl16, rfl, l16, c16⟩⟩
  have D_heard : HearD K mg f11 := ⟨PySem.W.mg_of X G a11, k11, ⟨oc11, od11, kV11, dc11, pm11, an11, cd11, ct11, sl11, l11, c11⟩⟩
  have D_pen : Df l.prog w K mg base 1 "_law_pen" (spPen K) := ⟨⟨f7, _, _, ok_pen F7 B, PySem.W.mg_of X G a7, k7, b7⟩⟩
  have D_draw : Df l.prog w K mg base 1 "_law_draw" spDraw := ⟨⟨f8, _, _, ok_draw (k := 0) F8 B, PySem.W.mg_of X G a8, k8, b8⟩⟩
  have D_pick : Df l.prog w K mg base 2 "_law_pick" (spPick K) := ⟨⟨f9, _, _, ok_pick F9 B D_draw, PySem.W.mg_of X G a9, k9, b9⟩⟩
  have D_some_letters : Df l.prog w K mg base 2 "_law_some_letters" spLetters := ⟨⟨f10, _, _, ok_some_letters F10 B D_draw, PySem.W.mg_of X G a10, k10, b10⟩⟩
  have D_images : Df l.prog w K mg base 3 "_law_images" (spImages w) := ⟨⟨f14, _, _, ok_images F14 B D_draw D_pick D_some_letters, PySem.W.mg_of X G a14, k14, b14⟩⟩
  have D_cop0 : Df l.prog w K mg base 0 "copied" (fun _ _ _ _ => False) := ⟨⟨f0, _, _, ⟨fun _ _ _ _ z => z.elim, fun _ _ _ _ _ _ _ _ _ _ _ _ _ z => z.elim⟩, PySem.W.mg_of X G a0, k0, b0⟩⟩
  have D_cop1 : Df l.prog w K mg base 1 "copied" (spCopied K) := ⟨⟨f0, _, _, ok_copied F0 TQ D_cop0, PySem.W.mg_of X G a0, k0, b0⟩⟩
  have D_copied : Df l.prog w K mg base 2 "copied" spCopyW := ⟨⟨f0, _, _, ok_copyW F0 TQ D_cop1, PySem.W.mg_of X G a0, k0, b0⟩⟩
  have E0 : Er1 l.prog w K mg base "BadTable" "part" (CzOf [C0, C1, C2, C3, C4, C5] 0) := ⟨O0, X0, n_BadTable_part, PySem.W.mg_of X G a_BadTable, f21, _, _, a21, y21, ok_BadTable F21 TB sys D_copied, b21, kb0⟩
  have E1 : Er1 l.prog w K mg base "BadLetter" "value" (CzOf [C0, C1, C2, C3, C4, C5] 1) := ⟨O1, X1, n_BadLetter_value, PySem.W.mg_of X G a_BadLetter, f22, _, _, a22, y22, ok_BadLetter F22 TB sys D_copied, b22, kb1⟩
  have E2 : Er1 l.prog w K mg base "BadImage" "letter" (CzOf [C0, C1, C2, C3, C4, C5] 2) := ⟨O2, X2, n_BadImage_letter, PySem.W.mg_of X G a_BadImage, f23, _, _, a23, y23, ok_BadImage F23 TB sys D_copied, b23, kb2⟩
  have E3 : Er1 l.prog w K mg base "BadWord" "value" (CzOf [C0, C1, C2, C3, C4, C5] 3) := ⟨O3, X3, n_BadWord_value, PySem.W.mg_of X G a_BadWord, f24, _, _, a24, y24, ok_BadWord F24 TB sys D_copied, b24, kb3⟩
  have E4 : Er1 l.prog w K mg base "Barred" "at" (CzOf [C0, C1, C2, C3, C4, C5] 4) := ⟨O4, X4, n_Barred_at, PySem.W.mg_of X G a_Barred, f25, _, _, a25, y25, ok_Barred F25 TB sys D_copied, b25, kb4⟩
  have E5 : Er2 l.prog w K mg base "TooMany" "what" "most" (CzOf [C0, C1, C2, C3, C4, C5] 5) := ⟨O5, X5, n_TooMany_what, n_TooMany_most, PySem.W.mg_of X G a_TooMany, f26, _, _, a26, y26, ok_TooMany F26 TB sys D_copied, b26, kb5⟩
  have D_let0 : Df l.prog w K mg base 1 "is_letter" (spIsLetter K) := ⟨⟨f1, _, _, ok_is_letter F1 T1, PySem.W.mg_of X G a1, k1, b1⟩⟩
  have D_is_letter : Df l.prog w K mg base 1 "is_letter" (spWordD 1 1) := ⟨⟨f1, _, _, isLetter_D (ok_is_letter F1 T1), PySem.W.mg_of X G a1, k1, b1⟩⟩
  have D_all : Df l.prog w K mg base 1 "all_letters" spAllLetters := ⟨⟨f2, _, _, ok_all_letters F2 T1, PySem.W.mg_of X G a2, k2, b2⟩⟩
  have D_allG : Df l.prog w K mg base 1 "all_letters" spAllG := ⟨⟨f2, _, _, ok_all_lettersG F2 T1, PySem.W.mg_of X G a2, k2, b2⟩⟩
  have D_txt0 : Df l.prog w K mg base 2 "is_text" spIsText := ⟨⟨f3, _, _, ok_is_text F3 T1 D_all, PySem.W.mg_of X G a3, k3, b3⟩⟩
  have D_txtA : Df l.prog w K mg base 2 "is_text" (spTxtA K) := ⟨⟨f3, _, _, ok_is_textA F3 T1 D_allG, PySem.W.mg_of X G a3, k3, b3⟩⟩
  have D_is_text : Df l.prog w K mg base 2 "is_text" (spWordD 0 2000) := ⟨⟨f3, _, _, isText_D (ok_is_textA F3 T1 D_allG), PySem.W.mg_of X G a3, k3, b3⟩⟩
  have D_img0 : Df l.prog w K mg base 3 "is_image" spIsImage := ⟨⟨f4, _, _, ok_is_image F4 T1 D_txt0, PySem.W.mg_of X G a4, k4, b4⟩⟩
  have D_is_image : Df l.prog w K mg base 3 "is_image" (spWordD 1 4) := ⟨⟨f4, _, _, ok_is_imageD F4 T1 D_txtA, PySem.W.mg_of X G a4, k4, b4⟩⟩
  have D_told0 : Df l.prog w K mg base 4 "told_images" spTold := ⟨⟨f5, _, _, ok_told_images F5 T1 D_let0 D_txt0 D_img0, PySem.W.mg_of X G a5, k5, b5⟩⟩
  have D_told : DfG l.prog w K mg base (L2.CX l.prog w) 5 "told_images" (spTo K w (CzOf [C0, C1, C2, C3, C4, C5])) := ⟨⟨f5, _, _, ok_told_all F5 T1 D_let0 D_txt0 D_img0 D_is_letter D_is_text D_is_image E0 E1 E2 E3, PySem.W.mg_of X G a5, k5, b5⟩⟩
  have D_check_text : DfG l.prog w K mg base (L2.CX l.prog w) 5 "check_text" (spChkD (CzOf [C0, C1, C2, C3, C4, C5])) := ⟨⟨f6, _, _, ok_check_textD F6 T1 D_is_text E3, PySem.W.mg_of X G a6, k6, b6⟩⟩
  have D_mk : MkA l.prog w K mg base CM CJ (CzOf [C0, C1, C2, C3, C4, C5]) := by
    refine ⟨f20, _, ⟨mk, a20, i20, kc⟩, ok_init_all F20 T1 D_told0 D_told E5, PySem.W.mg_of X G aC, ?_, ?_, ?_⟩
    · obtain ⟨ds, h1, h2⟩ := F20.binds1 (ps := pI) 3 1 (fun z => nomatch z) rfl (fun T kV doc pm an cdv ct us its h1 h2 => match us, its, h1, h2 with | [_, _, _], [_], _, _ => ⟨_, rfl, rfl⟩)
      cases h1
      exact h2
    · obtain ⟨ds, h1, h2⟩ := F20.binds1 (ps := pI) 2 0 (fun z => nomatch z) rfl (fun T kV doc pm an cdv ct us its h1 h2 => match us, its, h1, h2 with | [_, _], [_], _, _ => ⟨_, rfl, rfl⟩)
      exact ⟨ds, h1, h2⟩
    · obtain ⟨its, h⟩ := F20.kbindsD (ps := pI) 1 ["keeps", "images"] (fun us _ ws => us ++ ws.reverse) (fun z => nomatch z) (fun r1 _ r3 => r1.append (vals_rev r3)) (fun T kV doc pm an cdv ct us its ws h1 h2 h3 => match us, its, ws, h1, h2, h3 with | [_], [_], [_, _], _, _, _ => ⟨_, rfl, rfl⟩)
      exact h
  have D_only : MfG l.prog w K mg base (L2.CX l.prog w) 6 CM "only" (spOnlyX (CzOf [C0, C1, C2, C3, C4, C5])) := ⟨⟨f17, _, _, ok_onlyX F17 D_check_text, ⟨a17, i17, k17⟩, ⟨a17, i17⟩, n17, b17⟩⟩
  have D_get : MfG l.prog w K mg base (L2.CX l.prog w) 5 CM "__getitem__" (spGetA CM (CzOf [C0, C1, C2, C3, C4, C5])) := ⟨⟨f18, _, _, ok_getA F18 T1 D_is_letter E1 E4, ⟨a18, i18, k18⟩, ⟨a18, i18⟩, n18, b18⟩⟩
  have D_same : SmG l.prog w K mg base (L2.CX l.prog w) 8 CM "same" (spSameA (CzOf [C0, C1, C2, C3, C4, C5])) := ⟨⟨pS, f19, _, .type "type", _, ⟨rd, ga⟩, ⟨sC, ⟨restS, sR⟩, k19⟩, ok_sameA F19 D_mk, b19⟩⟩
  have D_is_word : Df l.prog w K mg base 1 "_law_is_word" spIsWord := ⟨⟨f12, _, _, ok_is_word F12 T1, PySem.W.mg_of X G a12, k12, b12⟩⟩
  have D_due : DfG l.prog w K mg base CX0 3 "_law_due" (fun vs H Q E => spDueK vs H Q E ∨ spDueM w vs H Q E) := ⟨⟨f13, _, _, (ok_dueK F13 T sys D_is_word).both (ok_dueM F13 T sys D_is_word), PySem.W.mg_of X G a13, k13, b13⟩⟩
  have D_others : DfG l.prog w K mg base CX0 12 "_law_others_right" (spOthers (TLs p1 p2)) := ⟨⟨f15, _, _, ok_others FJ T sys D_pick D_mk D_only D_same D_get D_heard K1, PySem.W.mg_of X G a15, k15, b15⟩⟩
  exact ok_law FL TL9 sys D_pen D_pick D_images D_due D_others D_mk D_same D_heard K2
/-- the end, where the tables of two defs are known -/
theorem walk {l : PySem.W.OpenLaw} {q : Program} {loose : List Str} {XP : (Str → Option Value) → Heap → Prop} {YP : World → Heap → Prop} {d : DefRec} {K : Params → PySem.W.Frag} (hn : l.most = some 63) (hdf : d.params.defaults = []) (him : importsNone q = true) (hrec : ((recsOf q).any fun e => e.name == d.name) = true) (hrec2 : ((recsOf q).any fun e => e.name == "_law_others_right") = true)
    (hY : ∀ (w : World) (h : Heap), YP w h → (K w.params).In h)
    (F : ∀ (w : World) (mg : Str → Option Value) (fa : Addr) (h : Heap), (K w.params).In h → h.Ns mainGlobals mg → mg d.name = some (.ref fa) → OwnTab (K w.params) fa h → (∀ fb, mg "_law_others_right" = some (.ref fb) → OwnTab (K w.params) fb h) → ∃ fd cs sp, LawG l w (K w.params) 13 mg fa h fd cs sp) :
    PySem.W.WalkO q loose XP YP l.row.toRowW d [] (fun f vs => PySem.call f vs) := by
  refine Att.attach_callB hn hdf fun w s₀ s₁ mg mb fa o pm cd doc a vs ns G Y ho hd hcd hmg hobj hints hlen hbits hg => ?_
  have KX := hY w _ Y
  have tab : ∀ (x : Str) (fb : Addr), ((recsOf q).any fun e => e.name == x) = true → mg x = some (.ref fb) → OwnTab (K w.params) fb s₁.heap := fun x fb hr hm0 c P o1 fd1 e dd vs1 sl k1 k2 k3 k4 k5 => by
    obtain ⟨dL, hm, hn1⟩ := List.any_eq_true.mp hr
    have hn2 : dL.name = x := beq_iff_eq.mp hn1
    obtain ⟨a', o', fd', c', P', h1, h2, h3, h4, h5, h6⟩ := G.T.tab dL hm
    rw [hn2, hm0] at h1
    cases h1
    have g1 := KX _ _ k1
    rw [g1] at h2
    cases h2
    rw [k2] at h3
    cases h3
    rw [k3] at h4
    cases h4
    obtain ⟨⟨oc, vc, e1, _, e3, e4⟩, hP⟩ := h6
    have g2 := KX _ _ k4
    rw [g2] at e1
    cases e1
    cases e3
    rw [k5] at e4
    cases e4
    exact hP
  obtain ⟨mm, hmods, _⟩ := (G.T.seer him).mods
  obtain ⟨fd, cs, sp, L⟩ := F w mg fa _ KX G.T.g hmg (tab _ fa hrec hmg) fun fb hm0 => tab _ fb hrec2 hm0
  exact law_callS KX G.T.g G.T.b G.T.builtins G.T.nolimit hg hmods L.tabs L.untold L.codes G.T.bmain hobj hints (Nat.le_trans hlen (by decide)) ⟨rfl, by decide, by decide⟩ (fun base sys kin g hb => L.runs base sys kin g hb) L.binds (fun H hH hS => L.starts H a ns hlen hbits hH hS) fun _ _ _ z => z
end V8

set_option Elab.async false
set_option linter.all false
set_option maxRecDepth 100000
open PySem PySem.W PyProof.Rows
set_option maxHeartbeats 0 in
theorem PySem.Challenge.cw_blindrepair_k09_misreadings_refused_holds : PySem.Challenge.rw_blindrepair_k09_misreadings_refused.Holds := by
  w_on; o_law; k_head; (case hw => w_witness2)
  k_fill
  refine V8.walk (l := PySem.Challenge.rw_blindrepair_k09_misreadings_refused) rfl rfl (by decide +kernel) (by decide +kernel) (by decide +kernel) (fun w h Y => PySem.W.km_in_of Y) ?F
  case F =>
    intro w mg fa h KX G hmg own own2
    refine' V8.all_mk KX G hmg own own2 ?aC ?aJ ?aE ?a_BadTable ?a_BadLetter ?a_BadImage ?a_BadWord ?a_Barred ?a_TooMany ?a0 ?l0 ?c0 ?k0 ?a1 ?l1 ?c1 ?k1 ?a2 ?l2 ?c2 ?k2 ?a3 ?l3 ?c3 ?k3 ?a4 ?l4 ?c4 ?k4 ?a5 ?l5 ?c5 ?k5 ?a6 ?l6 ?c6 ?k6 ?a7 ?l7 ?c7 ?k7 ?a8 ?l8 ?c8 ?k8 ?a9 ?l9 ?c9 ?k9 ?a10 ?l10 ?c10 ?k10 ?a11 ?l11 ?c11 ?k11 ?a12 ?l12 ?c12 ?k12 ?a13 ?l13 ?c13 ?k13 ?a14 ?l14 ?c14 ?k14 ?a15 ?l15 ?c15 ?k15 ?a16 ?l16 ?c16 ?k16 ?a17 ?i17 ?l17 ?c17 ?k17 ?n17 ?a18 ?i18 ?l18 ?c18 ?k18 ?n18 ?sC ?sR ?l19 ?c19 ?k19 ?a20 ?i20 ?l20 ?c20 ?k20 ?tI ?a21 ?y21 ?l21 ?c21 ?k21 ?a22 ?y22 ?l22 ?c22 ?k22 ?a23 ?y23 ?l23 ?c23 ?k23 ?a24 ?y24 ?l24 ?c24 ?k24 ?a25 ?y25 ?l25 ?c25 ?k25 ?a26 ?y26 ?l26 ?c26 ?k26 ?x_BadTable ?s_BadTable ?k_BadTable ?hg_BadTable ?hk_BadTable ?ha_BadTable ?n_BadTable_part ?x_BadLetter ?s_BadLetter ?k_BadLetter ?hg_BadLetter ?hk_BadLetter ?ha_BadLetter ?n_BadLetter_value ?x_BadImage ?s_BadImage ?k_BadImage ?hg_BadImage ?hk_BadImage ?ha_BadImage ?n_BadImage_letter ?x_BadWord ?s_BadWord ?k_BadWord ?hg_BadWord ?hk_BadWord ?ha_BadWord ?n_BadWord_value ?x_Barred ?s_Barred ?k_Barred ?hg_Barred ?hk_Barred ?ha_Barred ?n_Barred_at ?x_TooMany ?s_TooMany ?k_TooMany ?hg_TooMany ?hk_TooMany ?ha_TooMany ?n_TooMany_what ?n_TooMany_most ?eR ?tyR ?iR ?rdR ?gaR ?vR ?rd ?ga ?pg ?hd ?po ?sa ?mk ?kc ?nL ?nI ?nC ?tA ?tB ?tC ?tD ?ne ?ow_str ?ow_int ?ow_dict ?ok_str ?ok_int ?ok_dict ?kMM ?kMJ ?kMs ?kMd ?kls ?kj_dict ?kj_NoneType ?kj_int ?kj_bool ?kj_str ?kj_list ?kj_tuple ?kn0 ?kn1 ?kn2 ?kn3 ?kn4 ?kn5 ?g1 ?g2 ?g3 ?g4 ?z_list ?z_int ?z_len ?z_abs ?z_range ?z_dict ?z_str ?z_sorted ?z_tuple ?z_isinstance ?z_iter ?z_enumerate ?z_repr ?z_set ?qc1 ?qv1 ?qa1 ?qb1 ?qe1 ?qg1 ?qn1 ?qk1 ?qc2 ?qv2 ?qa2 ?qb2 ?qe2 ?qg2 ?qn2 ?qk2 ?pp ?nd
    (case aC => k_is)
    (case aJ => k_is)
    (case aE => k_is)
    (case a_BadTable => k_is)
    (case a_BadLetter => k_is)
    (case a_BadImage => k_is)
    (case a_BadWord => k_is)
    (case a_Barred => k_is)
    (case a_TooMany => k_is)
    (case a0 => k_is)
    (case l0 => k_is)
    (case c0 => k_is)
    (case k0 => k_is)
    (case a1 => k_is)
    (case l1 => k_is)
    (case c1 => k_is)
    (case k1 => k_is)
    (case a2 => k_is)
    (case l2 => k_is)
    (case c2 => k_is)
    (case k2 => k_is)
    (case a3 => k_is)
    (case l3 => k_is)
    (case c3 => k_is)
    (case k3 => k_is)
    (case a4 => k_is)
    (case l4 => k_is)
    (case c4 => k_is)
    (case k4 => k_is)
    (case a5 => k_is)
    (case l5 => k_is)
    (case c5 => k_is)
    (case k5 => k_is)
    (case a6 => k_is)
    (case l6 => k_is)
    (case c6 => k_is)
    (case k6 => k_is)
    (case a7 => k_is)
    (case l7 => k_is)
    (case c7 => k_is)
    (case k7 => k_is)
    (case a8 => k_is)
    (case l8 => k_is)
    (case c8 => k_is)
    (case k8 => k_is)
    (case a9 => k_is)
    (case l9 => k_is)
    (case c9 => k_is)
    (case k9 => k_is)
    (case a10 => k_is)
    (case l10 => k_is)
    (case c10 => k_is)
    (case k10 => k_is)
    (case a11 => k_is)
    (case l11 => k_is)
    (case c11 => k_is)
    (case k11 => k_is)
    (case a12 => k_is)
    (case l12 => k_is)
    (case c12 => k_is)
    (case k12 => k_is)
    (case a13 => k_is)
    (case l13 => k_is)
    (case c13 => k_is)
    (case k13 => k_is)
    (case a14 => k_is)
    (case l14 => k_is)
    (case c14 => k_is)
    (case k14 => k_is)
    (case a15 => k_is)
    (case l15 => k_is)
    (case c15 => k_is)
    (case k15 => k_is)
    (case a16 => k_is)
    (case l16 => k_is)
    (case c16 => k_is)
    (case k16 => k_is)
    (case a17 => k_is)
    (case i17 => k_is)
    (case l17 => k_is)
    (case c17 => k_is)
    (case k17 => k_is)
    (case n17 => k_is)
    (case a18 => k_is)
    (case i18 => k_is)
    (case l18 => k_is)
    (case c18 => k_is)
    (case k18 => k_is)
    (case n18 => k_is)
    (case sC => k_is)
    (case sR => k_is)
    (case l19 => k_is)
    (case c19 => k_is)
    (case k19 => k_is)
    (case a20 => k_is)
    (case i20 => k_is)
    (case l20 => k_is)
    (case c20 => k_is)
    (case k20 => k_is)
    (case tI => k_is)
    (case a21 => k_is)
    (case y21 => k_is)
    (case l21 => k_is)
    (case c21 => k_is)
    (case k21 => k_is)
    (case a22 => k_is)
    (case y22 => k_is)
    (case l22 => k_is)
    (case c22 => k_is)
    (case k22 => k_is)
    (case a23 => k_is)
    (case y23 => k_is)
    (case l23 => k_is)
    (case c23 => k_is)
    (case k23 => k_is)
    (case a24 => k_is)
    (case y24 => k_is)
    (case l24 => k_is)
    (case c24 => k_is)
    (case k24 => k_is)
    (case a25 => k_is)
    (case y25 => k_is)
    (case l25 => k_is)
    (case c25 => k_is)
    (case k25 => k_is)
    (case a26 => k_is)
    (case y26 => k_is)
    (case l26 => k_is)
    (case c26 => k_is)
    (case k26 => k_is)
    (case x_BadTable => k_is)
    (case s_BadTable => k_is)
    (case k_BadTable => k_is)
    (case hg_BadTable => k_is)
    (case hk_BadTable => k_is)
    (case ha_BadTable => k_is)
    (case n_BadTable_part => k_is)
    (case x_BadLetter => k_is)
    (case s_BadLetter => k_is)
    (case k_BadLetter => k_is)
    (case hg_BadLetter => k_is)
    (case hk_BadLetter => k_is)
    (case ha_BadLetter => k_is)
    (case n_BadLetter_value => k_is)
    (case x_BadImage => k_is)
    (case s_BadImage => k_is)
    (case k_BadImage => k_is)
    (case hg_BadImage => k_is)
    (case hk_BadImage => k_is)
    (case ha_BadImage => k_is)
    (case n_BadImage_letter => k_is)
    (case x_BadWord => k_is)
    (case s_BadWord => k_is)
    (case k_BadWord => k_is)
    (case hg_BadWord => k_is)
    (case hk_BadWord => k_is)
    (case ha_BadWord => k_is)
    (case n_BadWord_value => k_is)
    (case x_Barred => k_is)
    (case s_Barred => k_is)
    (case k_Barred => k_is)
    (case hg_Barred => k_is)
    (case hk_Barred => k_is)
    (case ha_Barred => k_is)
    (case n_Barred_at => k_is)
    (case x_TooMany => k_is)
    (case s_TooMany => k_is)
    (case k_TooMany => k_is)
    (case hg_TooMany => k_is)
    (case hk_TooMany => k_is)
    (case ha_TooMany => k_is)
    (case n_TooMany_what => k_is)
    (case n_TooMany_most => k_is)
    (case eR => k_is)
    (case tyR => k_is)
    (case iR => k_is)
    (case rdR => k_is)
    (case gaR => k_is)
    (case vR => k_is)
    (case rd => k_is)
    (case ga => k_is)
    (case pg => k_is)
    (case hd => k_is)
    (case po => k_is)
    (case sa => k_is)
    (case mk => k_is)
    (case kc => k_is)
    (case nL => k_is)
    (case nI => k_is)
    (case nC => k_is)
    (case tA => k_is)
    (case tB => k_is)
    (case tC => k_is)
    (case tD => k_is)
    (case ne => k_is)
    (case ow_str => k_is)
    (case ow_int => k_is)
    (case ow_dict => k_is)
    (case ok_str => first | kit_is | exact L2.kit_ty (by decide +kernel))
    (case ok_int => first | kit_is | exact L2.kit_ty (by decide +kernel))
    (case ok_dict => first | kit_is | exact L2.kit_ty (by decide +kernel))
    (case kMM => first | kit_is | exact L2.kit_ty (by decide +kernel))
    (case kMJ => first | kit_is | exact L2.kit_ty (by decide +kernel))
    (case kMs => first | kit_is | exact L2.kit_ty (by decide +kernel))
    (case kMd => first | kit_is | exact L2.kit_ty (by decide +kernel))
    (case kls => first | kit_is | exact L2.kit_ty (by decide +kernel))
    (case kj_dict => first | kit_is | exact L2.kit_ty (by decide +kernel))
    (case kj_NoneType => first | kit_is | exact L2.kit_ty (by decide +kernel))
    (case kj_int => first | kit_is | exact L2.kit_ty (by decide +kernel))
    (case kj_bool => first | kit_is | exact L2.kit_ty (by decide +kernel))
    (case kj_str => first | kit_is | exact L2.kit_ty (by decide +kernel))
    (case kj_list => first | kit_is | exact L2.kit_ty (by decide +kernel))
    (case kj_tuple => first | kit_is | exact L2.kit_ty (by decide +kernel))
    (case kn0 => first | kit_is | exact L2.kit_ty (by decide +kernel))
    (case kn1 => first | kit_is | exact L2.kit_ty (by decide +kernel))
    (case kn2 => first | kit_is | exact L2.kit_ty (by decide +kernel))
    (case kn3 => first | kit_is | exact L2.kit_ty (by decide +kernel))
    (case kn4 => first | kit_is | exact L2.kit_ty (by decide +kernel))
    (case kn5 => first | kit_is | exact L2.kit_ty (by decide +kernel))
    (case g1 => k_is)
    (case g2 => k_is)
    (case g3 => k_is)
    (case g4 => k_is)
    (case z_list => k_is)
    (case z_int => k_is)
    (case z_len => k_is)
    (case z_abs => k_is)
    (case z_range => k_is)
    (case z_dict => k_is)
    (case z_str => k_is)
    (case z_sorted => k_is)
    (case z_tuple => k_is)
    (case z_isinstance => k_is)
    (case z_iter => k_is)
    (case z_enumerate => k_is)
    (case z_repr => k_is)
    (case z_set => k_is)
    (case qc1 => k_is)
    (case qv1 => first | rfl | k_is)
    (case qa1 => first | rfl | k_is)
    (case qb1 => first | rfl | k_is)
    (case qe1 => first | rfl | k_is)
    (case qg1 => first | rfl | k_is)
    (case qn1 => first | rfl | k_is)
    (case qk1 => first | rfl | k_is)
    (case qc2 => k_is)
    (case qv2 => first | rfl | k_is)
    (case qa2 => first | rfl | k_is)
    (case qb2 => first | rfl | k_is)
    (case qe2 => first | rfl | k_is)
    (case qg2 => first | rfl | k_is)
    (case qn2 => first | rfl | k_is)
    (case qk2 => first | rfl | k_is)
    (case pp => first | rfl | k_is)
    (case nd => decide +kernel)

