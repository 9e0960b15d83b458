import PyProof.Rows.All
import Wide.All
import OpenK.AllK
import Wide.FinOn
import HandS.ForMost
import HandS.OwnEq
import HandS.Wide
import HandS.DictComp
import HandS.IsInst
import HandS.Codes
import HandS.Flow
import PyProof.ListStr
import PyProof.InstNe
import KE.KCallOwn
import KE.KOwnIter
import KE.KFmtOwn
import HandS.Style
import HandS.IterNext
import HandS.StrMore
import HandS.MakeKw
import HandS.IterVal
import HandS.More
import PyProof.DictUpdate
import HandS.RaiseMore
import HandS.Walk
import HandS.FStr
import HandS.ClsMeth
import HandS.MakeKwOnly
import HandS.ExcInit
import KE.GoesMore
import PySem.Challenge.RW_blindrepair_k11_misreadings_composed
import HandS.Defaults
import PyProof.P3Eq
import HandS.TryOnly
import HandS.Star
import HandS.WordsExc
import KE.KOpsOwn
import KE.KxText
import PyProof.Rows.StrReprJoin
import HandS.ExcValue
import HandS.ExcIs
import HandS.Lambda
import KE.KExcIs
import PyProof.InstEq
import PyProof.Rows.RegStrFacts
import HandS.Zip
import KE.GoesZip
import PyProof.Rows.StrMul
import HandS.EndOwn
import KE.RegKIsAll
set_option Elab.async false
set_option linter.all false
set_option maxRecDepth 100000
set_option maxHeartbeats 4000000
/-! Rules of our own: the methods with two underscores of a text's own class, called by Python's signs; list(text). -/
namespace L2
open PySem PySem.Spec PyProof.Rows
section
variable {X : Cx} {n : Nat} {CX : CXT} {C f : Addr} {fd : FuncData} {ps : List Str} {sp : Sp} {E : XK}
/-- a def that is called from within a built-in -/
theorem run_own {A : Around} {pins : List (Addr × Obj)} {σ : St} {H : Hp} {s : Shared} {Q : VK} {us : List Value} {vs : List V} (sb : Sub X n A) (F : FnOk X.prog X.w X.K X.mg X.base CX n f fd ps sp) (hb : Binds X.K fd ps []) (hx : Passes CX X E)
    (I : Inv X pins σ H s) (r : Vals vs us) (h : sp vs H Q E) : wpAny (model X.prog X.w) A (call (.ref f) us) (EP X pins σ Q) X.xe s := by
  have e0 : Env0 X.prog X.w X.K X.mg X.base A X.stack s H := by
    have e := I.env0
    exact ⟨by rw [sb.fr]; exact e.frames, e.mod, e.bs, e.bsz, e.funs, e.frf, e.hok, e.bare⟩
  have hl := F.len _ _ _ _ h
  have hl2 : us.length = ps.length := by rw [← r.length]; exact hl
  refine wpAny_call (codeAny_mono (F.run A X.stack s H ⟨us, []⟩ us vs Q E sb.room e0 (by
    have := hb s us I.kIn (by simpa using hl2)
    simpa using this) r h) fun r s' hq => ?_)
  cases r with
  | error e => exact hx pins σ H s e s' I hq
  | ok fl =>
    cases fl with
    | ret w => exact I.after hq
    | next => exact False.elim hq
    | brk => exact False.elim hq
    | cont => exact False.elim hq
/-- the instance that H tells, for the library's rules -/
theorem inst_at {pins : List (Addr × Obj)} {σ : St} {H : Hp} {s : Shared} {a dx : Addr} {fs : List (Str × V)} (I : Inv X pins σ H s) (ha : H a = some (.ins C dx fs)) : ∃ od, PySem.W.InstAt s.heap a (PySem.W.instObj C dx) C od := by
  obtain ⟨mA, J, _⟩ := ins_get I.hok ha
  obtain ⟨od, J, _⟩ := J.look
  exact ⟨od, J⟩
/-- where one stands in a built-in, once or twice deeper -/
theorem Sub.here (hr : Room n X.A) : Sub X n X.A := ⟨hr, rfl⟩
/-- the facts of a method that a sign calls -/
structure Own (K : PySem.W.Frag) (C : Addr) (m : Str) (f : Addr) : Prop where
  find : PySem.W.findIn K (.ref C) m = some (some (.ref f))
  fn : PySem.W.isFn K (.ref f) = true
/-- list(text) -/
theorem call_listS (hc : X.calm = true) : CallR X (.type "list") (fun xs H Q => ∃ z, xs = [.str z] ∧ z.length ≤ sizeLine ∧ ∀ l, H l = none → Q (.ref l) (upd H l (.lst (z.cps.toList.map fun c => V.str ⟨#[c]⟩)))) := by
  intro pins s σ H xs us Q I r h
  obtain ⟨z, rfl, hz, q⟩ := h
  obtain ⟨u, rfl, t, rfl⟩ := vals1 r
  refine call_list_str (I.ok.hd hc) z t (fun h' tk acc c' kp e it => ?_) hz
  have rv : ∀ (xs : List Nat) (acc : List Value), acc.length = xs.length → (∀ (j : Nat) (v : Value), acc[j]? = some v → ∃ (c : Nat) (u : Tok), xs[j]? = some c ∧ v = Value.str ⟨#[c]⟩ u) → Vals (xs.map fun c => V.str ⟨#[c]⟩) acc := by
    intro xs
    induction xs with
    | nil =>
      intro acc hl _
      cases acc with
      | nil => exact .nil
      | cons a r => cases hl
    | cons x xs ih =>
      intro acc hl hi
      cases acc with
      | nil => cases hl
      | cons a r =>
        obtain ⟨c, u, e1, e2⟩ := hi 0 a rfl
        have e1' : x = c := by simpa using e1
        subst e1'
        exact .cons ⟨u, e2⟩ (ih r (by simpa using hl) fun j v hj => by
          obtain ⟨c, u, e1, e2⟩ := hi (j + 1) v (by simpa using hj)
          exact ⟨c, u, by simpa using e1, e2⟩)
  have R : Vals (z.cps.toList.map fun c => V.str ⟨#[c]⟩) acc.toList := rv _ _ (by rw [Array.length_toList, it.1, Array.length_toList]) fun j v hj => by
    obtain ⟨c, u, e1, e2⟩ := it.2 j v (by rw [← Array.getElem?_toList]; exact hj)
    exact ⟨c, u, by rw [Array.getElem?_toList]; exact e1, e2⟩
  refine ⟨.ref s.heap.objs.size, _, I.laid (t' := tk) kp (Nat.le_refl _) (show ObjOk X.prog X.w _ h' _ (.lst _) from ⟨?_, acc.toList, c', R, by rw [Array.toArray_toList]; exact e⟩), rfl, q _ (I.hok.fresh (Nat.le_refl _))⟩
  rw [List.length_map, Array.length_toList]
  exact hz
/-- len(o) by an own __len__ -/
theorem call_lenOwn (F : FnOk X.prog X.w X.K X.mg X.base CX n f fd ps sp) (hb : Binds X.K fd ps []) (hx : Passes CX X E) (o : Own X.K C "__len__" f) (hr : Room (n + 1) X.A) :
    CallR X (.builtin "len") (fun xs H Q => ∃ a dx fs, xs = [.ref a] ∧ H a = some (.ins C dx fs) ∧ sp [.ref a] H (fun v H' => ∃ k : Nat, v = .int k ∧ k ≤ sizeLine ∧ Q (.int k) H') E) := by
  intro pins s σ H xs us Q I r h
  obtain ⟨a, dx, fs, rfl, ha, hs⟩ := h
  obtain ⟨u, rfl, rx⟩ := vals1 r
  cases rx
  obtain ⟨od, J⟩ := inst_at I ha
  obtain ⟨m, hF⟩ := I.fr
  refine PySem.W.len_K hF I.ok.mod.kin J o.find o.fn (thn (run_own (Sub.here hr).in1 F hb hx I (show Vals [V.ref a] [Value.ref a] from .cons rfl .nil) hs) fun v s' q => ?_)
  obtain ⟨y, H', I', ry, k, rfl, hk, q⟩ := q
  obtain ⟨t, rfl⟩ := ry
  have h63 := line63
  exact ⟨⟨by omega, by omega⟩, .int k, H', I'.tok _, ⟨_, rfl⟩, q⟩
/-- v in o, v not in o by an own __contains__ that gives True or False -/
theorem op_inOwn (F : FnOk X.prog X.w X.K X.mg X.base CX n f fd ps sp) (hb : Binds X.K fd ps []) (hx : Passes CX X E) (o : Own X.K C "__contains__" f) (hr : Room n X.A) :
    OpR X (compareOp .In) (fun x y H Q => ∃ a dx fs, y = .ref a ∧ H a = some (.ins C dx fs) ∧ sp [.ref a, x] H (fun v H' => ∃ b, v = .bl b ∧ Q (.bl b) H') E) := by
  intro pins s σ H x y v u Q I rx ry h
  obtain ⟨a, dx, fs, rfl, ha, hs⟩ := h
  cases ry
  obtain ⟨od, J⟩ := inst_at I ha
  obtain ⟨m, hF⟩ := I.fr
  refine PySem.W.in_K hF I.ok.mod.kin J o.find o.fn (thn (run_own (Sub.here hr) F hb hx I (show Vals [V.ref a, x] [Value.ref a, v] from .cons rfl (.cons rx .nil)) hs) fun v s' q => ?_)
  obtain ⟨y, H', I', ry, b, rfl, q⟩ := q
  cases ry
  exact wpAny_truthy_bool ⟨.bl b, H', I', rfl, q⟩
theorem op_notInOwn (F : FnOk X.prog X.w X.K X.mg X.base CX n f fd ps sp) (hb : Binds X.K fd ps []) (hx : Passes CX X E) (o : Own X.K C "__contains__" f) (hr : Room n X.A) :
    OpR X (compareOp .NotIn) (fun x y H Q => ∃ a dx fs, y = .ref a ∧ H a = some (.ins C dx fs) ∧ sp [.ref a, x] H (fun v H' => ∃ b, v = .bl b ∧ Q (.bl (!b)) H') E) := by
  intro pins s σ H x y v u Q I rx ry h
  obtain ⟨a, dx, fs, rfl, ha, hs⟩ := h
  cases ry
  obtain ⟨od, J⟩ := inst_at I ha
  obtain ⟨m, hF⟩ := I.fr
  refine PySem.W.notIn_K hF I.ok.mod.kin J o.find o.fn (thn (run_own (Sub.here hr) F hb hx I (show Vals [V.ref a, x] [Value.ref a, v] from .cons rfl (.cons rx .nil)) hs) fun v s' q => ?_)
  obtain ⟨y, H', I', ry, b, rfl, q⟩ := q
  cases ry
  exact wpAny_truthy_bool ⟨.bl (!b), H', I', rfl, q⟩
/-- o[k] by an own __getitem__ -/
theorem pe_ixOwn {a b : Expr} {ta tb : TE} {pos : Pos} (F : FnOk X.prog X.w X.K X.mg X.base CX n f fd ps sp) (hb : Binds X.K fd ps []) (hx : Passes CX X E) (o : Own X.K C "__getitem__" f) (hf : PySem.W.fnIn X.K f = true) (hr : Room (n + 1) X.A) (hA : PE X a ta) (hB : PE X b tb)
    (hsl : ∀ v u, subscripted b true v u = runValue (.builtin "lifetime.subscript" ⟨[v, u], []⟩) := by intro _ _; rfl) :
    PE X (.Subscript a b pos) (tOp (fun x y H Q => ∃ a dx fs, x = .ref a ∧ H a = some (.ins C dx fs) ∧ sp [.ref a, y] H Q E) ta tb) := by
  refine ⟨fun pins s σ H Q I h => ?_⟩
  refine Subscript_ (binT hA hB I h fun v u s2 x y H2 I2 rx ry q => ?_)
  obtain ⟨a, dx, fs, rfl, ha, hs⟩ := q
  cases rx
  obtain ⟨od, J⟩ := inst_at I2 ha
  obtain ⟨m, hF⟩ := I2.fr
  exact PySem.W.sub_K hF I2.ok.mod.kin J o.find hf o.fn (run_own (Sub.here hr).in1 F hb hx I2 (show Vals [V.ref a, y] [Value.ref a, u] from .cons rfl (.cons ry .nil)) hs) (hsl _ _)
/-- str(o) by an own __str__ -/
theorem call_strOwn (F : FnOk X.prog X.w X.K X.mg X.base CX n f fd ps sp) (hb : Binds X.K fd ps []) (hx : Passes CX X E) (o : Own X.K C "__str__" f) (hr : Room (n + 2) X.A) :
    CallR X (.type "str") (fun xs H Q => ∃ a dx fs, xs = [.ref a] ∧ H a = some (.ins C dx fs) ∧ sp [.ref a] H (fun v H' => ∃ z, v = .str z ∧ Q (.str z) H') E) := by
  intro pins s σ H xs us Q I r h
  obtain ⟨a, dx, fs, rfl, ha, hs⟩ := h
  obtain ⟨u, rfl, rx⟩ := vals1 r
  cases rx
  obtain ⟨od, J⟩ := inst_at I ha
  have sb : Sub X n X.A.in1.in1 := (Sub.in1 (Sub.in1 (Sub.here hr)))
  refine PySem.W.kso_call sb.room.units0 I.kIn J o.find o.fn (thn (run_own sb F hb hx I (show Vals [V.ref a] [Value.ref a] from .cons rfl .nil) hs) fun v s' q => ?_)
  obtain ⟨y, H', I', ry, z, rfl, q⟩ := q
  obtain ⟨t, rfl⟩ := ry
  exact ⟨.str z, H', I', ⟨_, rfl⟩, q⟩
end
end L2

set_option Elab.async false
set_option linter.all false
set_option maxRecDepth 100000
set_option maxHeartbeats 4000000
/-! == and != by an own __eq__ that gives True or False. -/
namespace PySem.W
open PySem PySem.Calls PyProof.Rows Builtin
section
variable {prog : Program} {w : World} {A : Around} {E : Value → Shared → Prop} {s : Shared} {K : Frag} {x C L f : Addr} {h₀ : Heap} {m : Str → Option Value} {ox : Obj} {od : Option Obj} {b tb : Value}
theorem ifBoundB_K {M : Model} {name : Str} {id : String} {args : List Value} {Q : Option Value → Shared → Prop} (X : K.In s.heap) (I : InstAt s.heap x ox C od) (hs : findIn K (.ref C) name = some (some (.builtin id)))
    (hb : ∀ self, bindSpecial (.builtin id) self = pure (.builtin id, [self]))
    (h : wpAny M A (call (.builtin id) (.ref x :: args)) (fun v => Q (some v)) E s) : wpAny M A (callSpecialIfBound? (.ref x) name args) Q E s := by
  simp only [callSpecialIfBound?, bindSpecialIfBound?]
  refine wpAny_holding (wpAny_bind (wpAny_bind (wpAny_bind (I.type.here ((looks_findIn X hs).here ?_)))))
  simp only [hb]
  refine wpAny_bind (wpAny_askSetting (wpAny_ite ?_))
  have fin : wpAny M A (call (.builtin id) ([.ref x] ++ args) >>= fun v => pure (some v)) Q E s := wpAny_bind (wpAny_mono h (fun v s' h' => wpAny_pure h') fun _ _ h' => h')
  split
  · exact wpAny_bind (wpAny_pure (wpAny_pure (by exact fin)))
  · exact wpAny_tryCatch (wpAny_bind (wpAny_pure (wpAny_pure (by exact fin))))
theorem neO_K {Q : Value → Shared → Prop} (hu : A.in1.units < cLine) (X : K.In s.heap) (I : InstAt s.heap x ox C od) (hm : mroIn K C (.type "object") = some true) (hs : findIn K (.ref C) "__eq__" = some (some (.ref f))) (hf : isFn K (.ref f) = true)
    (h : wpAny (model prog w) A.in1 (call (.ref f) [.ref x, b]) (fun v s' => ∃ r, v = .bool r ∧ Q (.bool (!r)) s') E s) : wpAny (model prog w) A (call (.builtin "object.__ne__") [.ref x, b]) Q E s := by
  refine wpAny_call (codeAny_call_builtin F.cmp_object.ne.plain F.cmpEntry_ne (check_slot (i := "object.__ne__") (owner := "object") (n := "__ne__") F.cmpKind_ne F.cmpSplit_ne (I.type.andThen (looks_mroIn X hm)) (F.cmpArgs_ne _ _) ?_))
  unfold Builtin.«object.__ne__»
  refine wpAny_bind (m := slotArgs "__ne__" 1 _) (wpAny_pure ?_)
  refine wpAny_bind (m := cRoomFor _ _) (wpAny_cRoomFor hu ?_)
  refine wpAny_bind (m := callSpecialIfBound? (.ref x) (Str.ofString "__eq__") _) (ifBound_K X I hs hf (wpAny_mono h (fun r s' hq => ?_) fun _ _ y => y))
  obtain ⟨r, rfl, hq⟩ := hq
  exact wpAny_bind (wpAny_truthy_bool (wpAny_pure hq))
theorem neq_K {Q : Value → Shared → Prop} (hu : A.in1.units < cLine) (hu0 : A.units < cLine) (F : Fr h₀ L s.heap m) (X₀ : K.In h₀) (I : InstAt s.heap x ox C od) (hb : Looks (model prog w) s.heap (typeOf b) tb) (hn : notFirst K C tb = true)
    (hne : findIn K (.ref C) "__ne__" = some (some (.builtin "object.__ne__"))) (hm : mroIn K C (.type "object") = some true) (hs : findIn K (.ref C) "__eq__" = some (some (.ref f))) (hf : isFn K (.ref f) = true)
    (h : wpAny (model prog w) A.in1 (call (.ref f) [.ref x, b]) (fun v s' => ∃ r, v = .bool r ∧ Q (.bool (!r)) s') E s) : wpAny (model prog w) A (richCompare .NotEq (.ref x) b) Q E s := by
  have X := X₀.keeps F.keep
  have one : wpAny (model prog w) A (tryCompare (.ref x) (cmpInfo .NotEq).2.1 b) (fun r s' => ∃ v, r = some v ∧ Q v s') E s := by
    unfold tryCompare
    refine wpAny_bind (ifBoundB_K X I (by exact hne) PySem.F.cmp_object.ne.bind ?_)
    refine wpAny_mono (neO_K (Q := fun v s' => ∃ r, v = .bool r ∧ Q (.bool r) s') hu X I hm hs hf (wpAny_mono h (fun v s' hv => ?_) fun _ _ e => e)) (fun v s' hv => ?_) fun _ _ e => e
    · obtain ⟨r, rfl, hq⟩ := hv
      exact ⟨r, rfl, !r, rfl, hq⟩
    · obtain ⟨r, rfl, hq⟩ := hv
      exact wpAny_pure ⟨_, rfl, hq⟩
  unfold richCompare
  simp only [oneThing_ref]
  refine wpAny_holding (wpAny_bind (wpAny_cRoomFor hu0 ?_))
  refine wpAny_bind (I.type.here (wpAny_bind (hb.here ?_)))
  split
  · rename_i q
    have e : subIn K tb (.ref C) = some false := by
      rcases Bool.or_eq_true_iff.mp hn with e | e
      · rw [beq_iff_eq.mp e] at q; simp at q
      · exact beq_iff_eq.mp e
    refine wpAny_bind ((looks_subIn X e).here ?_)
    simp only [Bool.false_eq_true, if_false]
    refine wpAny_bind (wpAny_mono one (fun r s' z => ?_) fun _ _ e => e)
    obtain ⟨v, rfl, hq⟩ := z
    exact wpAny_pure hq
  · refine wpAny_bind (wpAny_pure ?_)
    simp only [Bool.false_eq_true, if_false]
    refine wpAny_bind (wpAny_mono one (fun r s' z => ?_) fun _ _ e => e)
    obtain ⟨v, rfl, hq⟩ := z
    exact wpAny_pure hq
end
end PySem.W
namespace L2
open PySem PySem.Spec PyProof.Rows
section
variable {X : Cx} {n : Nat} {CX : CXT} {C f : Addr} {fd : FuncData} {ps : List Str} {sp : Sp} {E : XK}
def rEqOwn (K : PySem.W.Frag) (C : Addr) (sp : Sp) (E : XK) (g : Bool → Bool) : R2 := fun x y H Q => ∃ a dx fs tb, x = .ref a ∧ H a = some (.ins C dx fs) ∧ TyX K H y tb ∧ PySem.W.notFirst K C tb = true ∧ sp [.ref a, y] H (fun v H' => ∃ b, v = .bl b ∧ Q (.bl (g b)) H') E
theorem op_eqOwn (F : FnOk X.prog X.w X.K X.mg X.base CX n f fd ps sp) (hb : Binds X.K fd ps []) (hx : Passes CX X E) (o : Own X.K C "__eq__" f) (hr : Room n X.A) : OpR X (compareOp .Eq) (rEqOwn X.K C sp E id) := by
  intro pins s σ H x y v u Q I rx ry h
  obtain ⟨a, dx, fs, tb, rfl, ha, ty, hn, hs⟩ := h
  cases rx
  obtain ⟨od, J⟩ := inst_at I ha
  obtain ⟨m, hF⟩ := I.fr
  obtain ⟨P, Z, p, _⟩ := kit_of I ry ty
  refine PySem.W.cmp_K (op := .Eq) hr.units0 hF I.ok.mod.kin J (Z.ty _ _ I.kIn p) hn o.find o.fn (thn (run_own (Sub.here hr) F hb hx I (show Vals [V.ref a, y] [Value.ref a, u] from .cons rfl (.cons ry .nil)) hs) fun v s' q => ?_)
  obtain ⟨y, H', I', ry, b, rfl, q⟩ := q
  cases ry
  exact ⟨.bl b, H', I', rfl, q⟩
theorem op_neOwn (F : FnOk X.prog X.w X.K X.mg X.base CX n f fd ps sp) (hb : Binds X.K fd ps []) (hx : Passes CX X E) (o : Own X.K C "__eq__" f) (hne : PySem.W.findIn X.K (.ref C) "__ne__" = some (some (.builtin "object.__ne__")))
    (hm : PySem.W.mroIn X.K C (.type "object") = some true) (hr : Room (n + 1) X.A) : OpR X (compareOp .NotEq) (rEqOwn X.K C sp E not) := by
  intro pins s σ H x y v u Q I rx ry h
  obtain ⟨a, dx, fs, tb, rfl, ha, ty, hn, hs⟩ := h
  cases rx
  obtain ⟨od, J⟩ := inst_at I ha
  obtain ⟨m, hF⟩ := I.fr
  obtain ⟨P, Z, p, _⟩ := kit_of I ry ty
  refine PySem.W.neq_K hr.in1.units0 hr.units0 hF I.ok.mod.kin J (Z.ty _ _ I.kIn p) hn hne hm o.find o.fn (thn (run_own (Sub.here hr).in1 F hb hx I (show Vals [V.ref a, y] [Value.ref a, u] from .cons rfl (.cons ry .nil)) hs) fun v s' q => ?_)
  obtain ⟨y, H', I', ry, b, rfl, q⟩ := q
  cases ry
  exact ⟨b, rfl, .bl (!b), H', I', rfl, q⟩
end
end L2

set_option Elab.async false
set_option linter.all false
set_option maxRecDepth 100000
set_option maxHeartbeats 4000000
/-! for x in o, by an own __iter__ that gives iter(a tuple). -/
namespace L2
open PySem PySem.Spec PyProof.Rows ItX
abbrev itTObj (l : Addr) : Obj := { cls := .type "tuple_iterator", data := .fields #[.ref l, .int 0 0] }
/-- at it a fresh iterator of the tuple at l -/
def ItT (l it : Addr) : HO := .ext fun h => h.get? it = some (itTObj l)
theorem itT_ok {P : Program} {w : World} {H : Hp} {h : Heap} {l it : Addr} (e : h.get? it = some (itTObj l)) : ObjOk P w H h it (ItT l it) := ⟨e, ⟨_, e⟩, fun h1 h2 q k => k _ q⟩
theorem call_iterTup {prog : Program} {w : World} {A : Around} {E : Value → Shared → Prop} {s : Shared} {l : Addr} {items : Array Value} {Q : Value → Shared → Prop} (hl : s.heap.IsTuple l items) (h : Q (.ref s.heap.objs.size) { s with heap := s.heap.push (itTObj l) }) : wpAny (model prog w) A (call (.builtin "iter") [.ref l]) Q E s := by
  refine Calls.call_function_entry (by decide +kernel) (by decide +kernel) PySem.W.kdk_entry_iter (PySem.W.kdk_args_iter _) ?_
  unfold Builtin.«iter»
  refine wpAny_bind (m := someArgs "iter" 1 2 _) (wpAny_of_eq (a := [Value.ref l]) (by first | rfl | kernel_rfl!) ?_)
  show wpAny _ _ (pyIter (.ref l) >>= _) _ _ _
  refine wpAny_bind (wpAny_pyIter_tuple hl ?_)
  exact wpAny_pure ⟨_, rfl, h⟩
section
variable {X : Cx}
theorem call_iterT : CallR X (.builtin "iter") (fun xs H Q => ∃ (l : Addr) (zs : List V), xs = [.ref l] ∧ SqT X.K H l zs ∧ ∀ it, H it = none → X.s_0.heap.objs.size ≤ it → Q (.ref it) (upd H it (ItT l it))) := by
  intro pins s σ H xs us Q I r h
  obtain ⟨l, zs, rfl, hq, q⟩ := h
  obtain rfl := Vals.ref1 r
  obtain ⟨its, rv, pl, hz⟩ := I.tuple hq
  refine call_iterTup (show s.heap.IsTuple l its.toArray from pl) ?_
  exact ⟨.ref s.heap.objs.size, _, I.laid (t' := s.toks) (fun b u e => Heap.get?_push_of_some _ e) (Nat.le_refl _) (itT_ok (Heap.get?_push_size _ rfl)), rfl, q _ (I.hok.fresh (Nat.le_refl _)) I.sz⟩
variable {n : Nat} {CX : CXT} {C f : Addr} {fd : FuncData} {ps : List Str} {sp : Sp} {E : XK}
/-- a def whose promise may speak of how many objects stand at its entry -/
structure FnN (P : Program) (w : World) (K : PySem.W.Frag) (mg : Str → Option Value) (base : Heap) (CX : CXT) (k : Nat) (f : Addr) (fd : FuncData) (ps : List Str) (sn : Nat → Sp) : Prop where
  many : ∀ m vs H Q E, sn m vs H Q E → vs.length = ps.length
  goes : ∀ (A : Around) (outer : List Env) (s : Shared) (H : Hp) (args : Args) (us : List Value) (vs : List V) (Q : VK) (E : XK), Room k A → Env0 P w K mg base A outer s H → BindsTo s fd args (ps.zip us) → Vals vs us →
    sn s.heap.objs.size vs H Q E → codeAny (model P w) A (.call (.ref f) args) (CR CX outer P w H s Q E) s
theorem fnN_mk {CX : CXT} {P : Program} {w : World} {K : PySem.W.Frag} {mg : Str → Option Value} {base : Heap} {k : Nat} {f : Addr} {x qual : Str} {st : Stmt} {fd : FuncData} {N ps : List Str} {sn : Nat → Sp}
    (F : Fun K x qual st f fd) (S : FnScope N ps (defScope st)) (many : ∀ m vs H Q E, sn m vs H Q E → vs.length = ps.length)
    (body : ∀ (cdv : Value) (A : Around) (outer : List Env) (s : Shared) (H : Hp) (vs : List V) (Q : VK) (E : XK), Room k (A.deeper (envOfC qual (defScope st) s.heap.objs.size f cdv)) → sn s.heap.objs.size vs H Q E →
      ∃ t, PSs (cxOf CX P w K mg base N qual (defScope st) f cdv A outer s H E) (defBody st) t ∧ t { nx := fun _ H' => Q .non H', rt := Q } (start N vs) H) : FnN P w K mg base CX (k + 1) f fd ps sn := by
  obtain ⟨oc, od, kV, doc, pm, an, cdv, ct, osl, rfl, lk, hcd⟩ := F.ex
  refine ⟨many, fun A₁ out s₁ H₁ ar us₁ vs₁ Q₁ E₁ room ev bd rel prom => ?_⟩
  have len₁ := many _ _ _ _ _ prom
  have kin₁ : K.In s₁.heap := ev.mod.kin.keeps (fun a o z => (ev.bs a o z).left)
  have kinds : ∀ y ∈ ps.zip us₁, (defScope st).names.lookup y.1 = some .local ∨ ((defScope st).names.lookup y.1 = some .cell ∧ ((cellsFrom (s₁.heap.objs.size + 1) (defScope st).names []).lookup y.1).isSome = true) := by
    rintro ⟨nm, vl⟩ mem
    rcases S.par nm (List.of_mem_zip mem).1 with z | z
    · exact Or.inl z
    · exact Or.inr ⟨z, PySem.W.cellsFrom_some _ _ _ (Or.inl z)⟩
  refine codeAny_call_function room.depth (kin₁ _ _ lk) rfl S.co S.gen rfl (PySem.W.codeRec_of kin₁ hcd) (bd _ _ _ _ ?_)
  refine wpAny_newFunctionEnv_cells S.kind kinds (fun e₁ is₁ s₂ made => ?_)
  subst is₁
  refine ⟨Heap.NoLimit.keeps (ev.mod.nolimit.keeps fun a o z => (ev.bs a o z).left) made.toInCall.keep, codeAny_func ?_⟩
  obtain ⟨t₁, term, reads⟩ := body cdv A₁ out s₁ H₁ vs₁ Q₁ E₁ (room.deeper _) prom
  have inv₁ := inv_start (CX := CX) (P := P) (w := w) (mg := mg) (base := base) (E := E₁) S room.hd ev len₁ rel made
  refine wpAny_mono (term.run [] s₂ (start N vs₁) H₁ _ inv₁ reads) (fun flow s₃ done => ?_) (fun _ _ z => z)
  cases flow with
  | ret u₁ =>
    obtain ⟨v₁, _, H₂, J, rv, q⟩ := done
    exact ⟨v₁, H₂, J.os, J.bare, J.base, J.hok, rv, q⟩
  | next =>
    obtain ⟨_, H₂, J, q⟩ := done
    exact ⟨V.non, H₂, J.os, J.bare, J.base, J.hok, rfl, q⟩
  | brk => exact (done.elim fun _ z => z.elim fun _ z => z.2).elim
  | cont => exact (done.elim fun _ z => z.elim fun _ z => z.2).elim
variable {sn : Nat → Sp}
theorem run_N {A : Around} {pins : List (Addr × Obj)} {σ : St} {H : Hp} {s : Shared} {Q : VK} {us : List Value} {vs : List V} (sb : Sub X n A) (F : FnN X.prog X.w X.K X.mg X.base CX n f fd ps sn) (hb : Binds X.K fd ps []) (hx : Passes CX X E)
    (I : Inv X pins σ H s) (r : Vals vs us) (h : sn s.heap.objs.size vs H Q E) : wpAny (model X.prog X.w) A (call (.ref f) us) (EP X pins σ Q) X.xe s := by
  have e0 : Env0 X.prog X.w X.K X.mg X.base A X.stack s H := by
    have e := I.env0
    exact ⟨by rw [sb.fr]; exact e.frames, e.mod, e.bs, e.bsz, e.funs, e.frf, e.hok, e.bare⟩
  have hl := F.many _ _ _ _ _ h
  have hl2 : us.length = ps.length := by rw [← r.length]; exact hl
  refine wpAny_call (codeAny_mono (F.goes A X.stack s H ⟨us, []⟩ us vs Q E sb.room e0 (by
    have := hb s us I.kIn (by simpa using hl2)
    simpa using this) r h) fun r s' hq => ?_)
  cases r with
  | error e => exact hx pins σ H s e s' I hq
  | ok fl =>
    cases fl with
    | ret w => exact I.after hq
    | next => exact False.elim hq
    | brk => exact False.elim hq
    | cont => exact False.elim hq
def iOwn (K : PySem.W.Frag) (C : Addr) (m : Nat) (sn : Nat → Sp) (E : XK) (tl : TE) : TI := fun σ H R => tl σ H fun x H1 => ∃ a dx fs, x = .ref a ∧ H1 a = some (.ins C dx fs) ∧
  ∀ k, m ≤ k → sn k [.ref a] H1 (fun v H' => ∃ it t, v = .ref it ∧ k ≤ it ∧ H' it = some (ItT t it) ∧ R (Itt K t) (dropH H' it)) E
theorem pi_own {tg l : Expr} {tl : TE} (F : FnN X.prog X.w X.K X.mg X.base CX n f fd ps sn) (hb : Binds X.K fd ps []) (hx : Passes CX X E) (o : Own X.K C "__iter__" f) (hr : Room n X.A) (hl : PE X l tl) : PI X tg l (iOwn X.K C X.s_0.heap.objs.size sn E tl) := by
  refine ⟨fun pins s σ H R I h => ?_⟩
  refine thn (hl.run pins s σ H _ I h) fun v s1 ⟨x, H1, I1, r1, q1⟩ => ?_
  obtain ⟨a, dx, fs, rfl, ha, hs⟩ := q1
  cases r1
  obtain ⟨od, J⟩ := inst_at I1 ha
  obtain ⟨m, hF⟩ := I1.fr
  refine PySem.W.owit_iter hF I1.ok.mod.kin J o.find o.fn (thn (run_N (Sub.here hr) F hb hx I1 (show Vals [V.ref a] [Value.ref a] from .cons rfl .nil) (hs s1.heap.objs.size I1.sz)) fun v s' q => ?_)
  obtain ⟨y, H', I', ry, ⟨it, t, rfl, hn, hi, q⟩⟩ := q
  cases ry
  have hy := Nat.le_trans I1.sz hn
  have hit : s'.heap.get? it = some (itTObj t) := (I'.hok it _ hi).1
  unfold PySem.W.OwitIt
  refine wpAny_specialOf (T := "tuple_iterator") (v := .ref it) ⟨_, hit, rfl⟩ PySem.F.slot_tuple_iterator_next.lookup ?_
  refine ⟨it, [it], _, _, dropH H' it, rfl, inv_drop I' hi, turn_tuple t _, ⟨_, hit, rfl, rfl⟩, fun b hb => ?_, q⟩
  have e : b = it := by simpa using hb
  subst e
  exact inv_fp I' hi hy
end
end L2

set_option Elab.async false
set_option linter.all false
set_option maxRecDepth 100000
set_option maxHeartbeats 4000000
/-! {**a, **b}: two dicts of ints and texts, one behind the other, into a new one. -/
namespace PySem
open PyProof.Rows
section
variable {prog : Program} {w : World} {A : Around} {E : Value → Shared → Prop} {s : Shared} {K : Type} [DecidableEq K] {knd : KeyKind prog w K}
theorem put_pairs {a : Addr} {old : List (K × Value)} {c : K} {u v : Value} {R : Unit → Shared → Prop} (isC : knd.is c u = true) (D : s.heap.DictOf knd a old)
    (next : ∀ hp, hp.DictOf knd a (stored old c v) → Heap.SameBut a s.heap hp → R () { s with heap := hp }) (few : old.length ≤ sizeLine) :
    wpAny (model prog w) A (dictPut a (knd.hash c) u v) R E s := by
  obtain ⟨ob, es, ep, at_, exact_, dat, keyed, prs, uniq⟩ := D
  have szs : es.size ≤ sizeLine := by
    have l1 := prs.length
    have l2 : es.toList.length = es.size := by simp
    omega
  unfold dictPut
  refine wpAny_bind (wpAny_dictFind_of isC at_ dat keyed ?_)
  have same : (es.findIdx? fun e => knd.is c e.key) = old.findIdx? fun kv => decide (kv.1 = c) := by
    have z := prs.findIdx c
    obtain ⟨lst⟩ := es
    simpa using z
  cases found : es.findIdx? fun e => knd.is c e.key with
  | some j =>
    have there : (old.any fun kv => decide (kv.1 = c)) = true := any_of_findIdx_some (same ▸ found)
    refine wpAny_updateDict at_ dat (next _ ⟨_, _, ep, Heap.get?_update_self _ at_ (Obj.isFreed_of_dict (Obj.data_mapDict dat _)), exact_.mapDict _, Obj.data_mapDict dat _, keyed.modify _ _, ?_, ?_⟩ (Heap.SameBut.update ..))
    · have inList : (es.toList.findIdx? fun e => knd.is c e.key) = some j := by
        rw [← found]
        obtain ⟨lst⟩ := es
        simp
      have z := prs.modify uniq inList v
      rw [stored, if_pos there]
      obtain ⟨lst⟩ := es
      simpa using z
    · rw [stored, if_pos there, keys_map_store]
      exact uniq
  | none =>
    have notIn : c ∉ old.map (·.1) := not_mem_of_findIdx_none (same ▸ found)
    have gone : ¬ (old.any fun kv => decide (kv.1 = c)) = true := fun z => by
      obtain ⟨kv, mem, eq⟩ := List.any_eq_true.mp z
      exact notIn (List.mem_map.mpr ⟨kv, mem, of_decide_eq_true eq⟩)
    refine wpAny_updateDictKeys (hz := szs) at_ dat (next _ ⟨_, _, ep + 1, Heap.get?_update_self _ at_ (Obj.isFreed_of_dict (Obj.data_mapDictKeys dat _)), exact_.mapDictKeys _, Obj.data_mapDictKeys dat _, keyed.push isC _, ?_, ?_⟩ (Heap.SameBut.update ..))
    · have z := prs.append isC (knd.hash c) v
      rw [stored, if_neg gone]
      obtain ⟨lst⟩ := es
      simpa using z
    · rw [stored, if_neg gone, List.map_append]
      refine List.nodup_append.mpr ⟨uniq, by simp, fun x hx y hy => ?_⟩
      have ey : y = c := by simpa using hy
      intro exy
      exact notIn (by rw [← ey, ← exy]; exact hx)
end
section
variable {prog : Program} {w : World} {A : Around} {E : Value → Shared → Prop} {s : Shared}
open L2
theorem dict_sub : isSubtype (.type "dict") (.type "dict") = pure true := by rw [isSubtype_type]; kernel_rfl
theorem mergeMapping_mix {d o : Addr} {kvs more : List (Key × Value)} {Q : Unit → Shared → Prop} (hdo : d ≠ o) (hoS : (o == sysModules) = false)
    (hd : s.heap.DictOf (mixKind prog w) d kvs) (ho : s.heap.DictOf (mixKind prog w) o more)
    (hQ : ∀ h', h'.DictOf (mixKind prog w) d (merged kvs more) → Heap.SameBut d s.heap h' → Q () { s with heap := h' }) (hsz : kvs.length + more.length ≤ sizeLine) :
    wpAny (model prog w) A (mergeMapping d (.ref o) false) Q E s := by
  obtain ⟨oo, eso, epo, hoo, hco, hdo', hko, hpo, hno⟩ := id ho
  obtain ⟨od, esd, epd, hod, hcd, hdd, _⟩ := id hd
  have hlen : more.length = eso.size := by
    have z := hpo.length
    simpa using z.symm
  have loop : wpAny (model prog w) A (do
      let l ← dictEntries o
      let epoch ← dictEpoch o
      forIn (List.range l.size) PUnit.unit fun i (_ : PUnit) => (do
        let l' ← dictEntries o
        match l'[i]? with
          | some e => do
            holding [e.key, e.val] (dictPut d e.hash e.key e.val)
            let ep' ← dictEpoch o
            if (ep' != epoch) = true then do
                (unsupported "dict.changed-during-merge" : Sem PUnit)
                pure (ForInStep.yield PUnit.unit)
              else pure (ForInStep.yield PUnit.unit)
          | _ => do
            (unsupported "dict.changed-during-merge" : Sem PUnit)
            pure (ForInStep.yield PUnit.unit) : Sem (ForInStep PUnit))
      pure ()) Q E s := by
    refine wpAny_bind (wpAny_dictEntries hoo hdo' ?_)
    refine wpAny_bind (wpAny_dictEpoch hoo hdo' ?_)
    refine wpAny_bind ?_
    refine wpAny_forIn_list _ (fun left _ t => ∃ hp j, t = { s with heap := hp } ∧ left = (List.range eso.size).drop j ∧ j ≤ eso.size ∧ hp.DictOf (mixKind prog w) d (merged kvs (more.take j)) ∧ hp.get? o = some oo ∧ Heap.SameBut d s.heap hp) _ ?_ ?_ _ _
      ⟨s.heap, 0, rfl, by simp, Nat.zero_le _, by simpa [merged] using hd, hoo, Heap.SameBut.refl _ _⟩
    · rintro y left b t ⟨hp, j, rfl, hr, hj, hdj, hoj, hsb⟩
      have hlt : j < eso.size := by
        rcases Nat.lt_or_ge j eso.size with z | z
        · exact z
        · rw [List.drop_of_length_le (by rw [List.length_range]; exact z)] at hr
          cases hr
      have hd1 : (List.range eso.size).drop j = j :: (List.range eso.size).drop (j + 1) := by
        rw [List.drop_eq_getElem_cons (by rw [List.length_range]; exact hlt), List.getElem_range]
      rw [hd1] at hr
      obtain ⟨rfl, hleft⟩ : y = j ∧ left = (List.range eso.size).drop (j + 1) := by
        injection hr with z1 z2
        exact ⟨z1, z2⟩
      refine wpAny_bind (wpAny_dictEntries hoj hdo' ?_)
      rw [Array.getElem?_eq_getElem hlt]
      have hym : y < more.length := by rw [hlen]; exact hlt
      obtain ⟨isK, isV⟩ := hpo.get? (e := eso[y]) (by simp [hlt]) (List.getElem?_eq_getElem hym)
      obtain ⟨c, isC, isH⟩ := hko eso[y] (Array.getElem_mem hlt)
      have ec : c = more[y].1 := (mixKind prog w).inj _ _ _ isC isK
      show wpAny _ _ (holding [eso[y].key, eso[y].val] (dictPut d eso[y].hash eso[y].key eso[y].val) >>= _) _ _ _
      rw [isH, isV]
      have few : (merged kvs (more.take y)).length ≤ sizeLine := by
        have z1 := merged_length_le kvs (more.take y)
        have z2 : (more.take y).length ≤ more.length := by rw [List.length_take]; omega
        omega
      refine wpAny_bind (wpAny_holding (put_pairs isC hdj (fun hp2 hd2 hs2 => ?_) few))
      have ho2 : hp2.get? o = some oo := (hs2.2 o (Ne.symm hdo)).trans hoj
      refine wpAny_bind (wpAny_dictEpoch ho2 hdo' ?_)
      rw [if_neg (by simp)]
      refine wpAny_pure ⟨hp2, y + 1, rfl, hleft, hlt, ?_, ho2, hsb.trans hs2⟩
      rw [merged_take_succ kvs more y more[y] (List.getElem?_eq_getElem hym), ← ec]
      exact hd2
    · rintro b t ⟨hp, j, rfl, hr, hj, hdj, hoj, hsb⟩
      have hje : j = eso.size := by
        rcases Nat.lt_or_ge j eso.size with z | z
        · have e := congrArg List.length hr
          rw [List.length_drop, List.length_range] at e
          simp at e
          omega
        · exact Nat.le_antisymm hj z
      refine wpAny_pure (hQ hp ?_ hsb)
      rw [hje, ← hlen, List.take_length] at hdj
      exact hdj
  unfold mergeMapping
  refine wpAny_bind (wpAny_isInstance (T := "dict") (b := true) ho.typeIs dict_sub ?_)
  simp only [if_true]
  refine wpAny_bind (wpAny_specialOf (T := "dict") (v := .ref o) ho.typeIs PySem.F.slot_dict_iter.lookup (wpAny_bind (wpAny_pure ?_)))
  rw [show (some (Value.builtin "dict.__iter__") == some (Value.builtin "dict.__iter__")) = true from beq_self_eq_true _]
  dsimp only
  rw [if_neg (by rw [hoS]; exact Bool.false_ne_true)]
  refine wpAny_bind (wpAny_dictEntries hod hdd ?_)
  split
  · refine wpAny_bind (wpAny_dictEntries hoo hdo' ?_)
    refine wpAny_bind ?_
    rw [← Array.forIn_toList]
    refine wpAny_forIn_list _ (fun (left : List DictEntry) _ t => t = s ∧ ∀ e ∈ left, ∃ c : Key, keyIs c e.key = true) _ ?_ ?_ _ _ ⟨rfl, fun e he => ?_⟩
    · rintro e left b t ⟨rfl, all⟩
      obtain ⟨c, hc⟩ := all e List.mem_cons_self
      have more' : ∀ e ∈ left, ∃ c : Key, keyIs c e.key = true := fun e he => all e (List.mem_cons_of_mem _ he)
      rcases keyIs_shape hc with ⟨i, u, _, ek⟩ | ⟨z, u, _, ek⟩
      · rw [ek]
        exact wpAny_pure ⟨rfl, more'⟩
      · rw [ek]
        exact wpAny_pure ⟨rfl, more'⟩
    · rintro b t ⟨rfl, _⟩
      exact loop
    · obtain ⟨c, hc, _⟩ := hko e (by simpa using he)
      exact ⟨c, hc⟩
  · exact loop
end
end PySem

set_option Elab.async false
set_option linter.all false
set_option maxRecDepth 100000
set_option maxHeartbeats 4000000
namespace L2
open PySem PySem.Spec PyProof.Rows
/-- {**a, **b}: a new dict stands empty at p, the first one's pairs come into it, then the second one's -/
def tMerge2 (t1 t2 : TE) : TE := fun σ H Q => ∀ p, H p = none → t1 σ (upd H p (.dK [])) fun x H1 => ∃ a kvs, x = .ref a ∧ a ≠ p ∧ H1 p = some (.dK []) ∧ Rd H1 a (.dK kvs) ∧ kvs.length ≤ 1000 ∧
  t2 σ (upd H1 p (.dK (mergeK [] kvs))) fun y H2 => ∃ b acc more, y = .ref b ∧ b ≠ p ∧ H2 p = some (.dK acc) ∧ acc.length ≤ 1000 ∧ Rd H2 b (.dK more) ∧ more.length ≤ 1000 ∧ Q (.ref p) (upd H2 p (.dK (mergeK acc more)))
section
variable {X : Cx}
theorem merge_in {pins : List (Addr × Obj)} {σ : St} {H : Hp} {s : Shared} {p a : Addr} {acc kvs : List (Key × V)} {R : Unit → Shared → Prop} {E : Value → Shared → Prop} {A : Around} (I : Inv X pins σ H s) (ne : a ≠ p) (hp : H p = some (.dK acc)) (ha : Rd H a (.dK kvs))
    (l1 : acc.length ≤ 1000) (l2 : kvs.length ≤ 1000) (k : ∀ s', Inv X pins σ (upd H p (.dK (mergeK acc kvs))) s' → R () s') : wpAny (model X.prog X.w) A (mergeMapping p (.ref a) false) R E s := by
  obtain ⟨z, hd, vs, r, dd⟩ := dk_of I.hok hp
  obtain ⟨z2, hd2, ws, r2, dd2⟩ := dk_rd I.hok ha
  have e1 : vs.length = acc.length := (Paired.length r).symm
  have e2 : ws.length = kvs.length := (Paired.length r2).symm
  refine mergeMapping_mix (Ne.symm ne) hd2 dd dd2 (fun h' dd' sb => k _ ?_) (by rw [sizeLine_eq]; omega)
  have hz : (mergeK acc kvs).length ≤ sizeLine := by
    have h1 := length_mergeK kvs acc
    rw [sizeLine_eq]; omega
  have he : ∃ q, h'.get? p = some q := let ⟨q, _, _, hq, _⟩ := dd'; ⟨q, hq⟩
  exact d_write I (by rw [hp]; exact True.intro) sb he (dk_new hz hd (r2.merge r) dd')
theorem pe_merge2 {e1 e2 : Expr} {t1 t2 : TE} {pos : Pos} (h1 : PE X e1 t1) (h2 : PE X e2 t2) : PE X (.Dict [none, none] [e1, e2] pos) (tMerge2 t1 t2) := by
  refine ⟨fun pins s σ H Q I q => ?_⟩
  have hn := I.hok.fresh (Nat.le_refl s.heap.objs.size)
  have I1 := I.laid (a := s.heap.objs.size) (o := .dK []) (h' := s.heap.push { cls := .type "dict", data := .dict #[] }) (t' := s.toks) (fun _ _ q => Heap.get?_push_of_some _ q) (Nat.le_refl _) (dk_empty s.heap I.big)
  rw [arm_eval_Dict]
  refine wpAny_bind (wpAny_standAt ?_)
  show wpAny _ _ (dictDisplay [(none, do let x ← eval e1 X.env; standAt pos; pure x), (none, do let x ← eval e2 X.env; standAt pos; pure x)]) _ _ _
  unfold dictDisplay
  simp only [List.forIn_cons, List.forIn_nil, List.isEmpty_nil, if_true]
  refine wpAny_bind (wpAny_bind (wpAny_bind (wpAny_pure ?_)))
  dsimp only
  refine wpAny_bind (wpAny_alloc ?_)
  refine wpAny_bind (wpAny_holding (wpAny_bind (thn (h1.run pins _ σ _ _ I1 (q _ hn)) fun u s1 ⟨x, H1, I2, r1, a, kvs, ex, ne, e0, ra, l1, q1⟩ => ?_)))
  subst ex
  cases r1
  refine wpAny_bind (wpAny_standAt (wpAny_pure ?_))
  refine wpAny_bind (wpAny_onRaise (wpAny_tryCatch (wpAny_onRaise (wpAny_holding (merge_in I2 ne e0 ra (by simp) l1 fun s2 I3 => ?_)))))
  refine wpAny_pure ?_
  dsimp only
  simp only [List.isEmpty_nil, if_true]
  refine wpAny_bind (wpAny_bind (wpAny_pure ?_))
  dsimp only
  refine wpAny_bind (wpAny_pure ?_)
  refine wpAny_bind (wpAny_holding (wpAny_bind (thn (h2.run pins _ σ _ _ I3 q1) fun u s3 ⟨y, H2, I4, r2, b, acc, more, ey, ne2, e1', l2, rb, l3, q2⟩ => ?_)))
  subst ey
  cases r2
  refine wpAny_bind (wpAny_standAt (wpAny_pure ?_))
  refine wpAny_bind (wpAny_onRaise (wpAny_tryCatch (wpAny_onRaise (wpAny_holding (merge_in I4 ne2 e1' rb l2 l3 fun s4 I5 => ?_)))))
  refine wpAny_pure ?_
  dsimp only
  refine wpAny_pure ?_
  simp only [List.isEmpty_nil, if_true]
  refine wpAny_bind (wpAny_pure ?_)
  dsimp only
  exact wpAny_pure ⟨.ref _, _, I5, rfl, q2⟩
end
end L2

set_option Elab.async false
set_option linter.all false
set_option maxRecDepth 100000
set_option maxHeartbeats 4000000
namespace L2
open PySem PySem.Spec PyProof.Rows
/-- a def of the text, by its name, without defaults -/
structure Df (P : Program) (w : World) (K : PySem.W.Frag) (mg : Str → Option Value) (base : Heap) (k : Nat) (x : Str) (sp : Sp) : Prop where
  ex : ∃ (f : Addr) (fd : FuncData) (ps : List Str), FnOk P w K mg base CX0 k f fd ps sp ∧ mg x = some (.ref f) ∧ PySem.W.keepIn K (.ref f) = true ∧ Binds K fd ps []
/-- a method of the text's own, by its address -/
structure Mf (P : Program) (w : World) (K : PySem.W.Frag) (mg : Str → Option Value) (base : Heap) (k : Nat) (C : Addr) (m : Str) (sp : Sp) : Prop where
  ex : ∃ (f : Addr) (fd : FuncData) (ps : List Str), FnOk P w K mg base CX0 k f fd ps sp ∧ Meth K C m f ∧ Own K C m f ∧ PySem.W.fnIn K f = true ∧ Binds K fd ps []
section
variable {X : Cx} {k j : Nat} {C : Addr} {x m : Str} {sp : Sp} {p pos apos : Pos} {e o : Expr} {es : List Expr} {ta tb : TE} {t : TA}
theorem pe_c (c : Df X.prog X.w X.K X.mg X.base k x sp) (hr : Room j X.A) (hk : k ≤ j) (hg : Gl X x) (ha : PA X (e :: es) t)
    (hdb : (x == ("__debug__" : Str)) = false := by decide) (he : starEach (e :: es) X.env = (false, eval e X.env) :: starEach es X.env := by rfl) (hpl : (backTo pos (starEach es X.env)).any (·.1) = false := by rfl) :
    PE X (.Call (.Name x p) (e :: es) [] pos) (tCall sp [] E0 t) := by
  obtain ⟨f, fd, ps, F, hm, kp, b⟩ := c.ex
  exact pe_call F (hr.mono hk) hg hm kp b .nil pass0 ha hdb he hpl
theorem op_inO (c : Mf X.prog X.w X.K X.mg X.base k C "__contains__" sp) (hr : Room j X.A) (hk : k ≤ j) :
    OpR X (compareOp .In) (fun x y H Q => ∃ a dx fs, y = .ref a ∧ H a = some (.ins C dx fs) ∧ sp [.ref a, x] H (fun v H' => ∃ b, v = .bl b ∧ Q (.bl b) H') E0) := by
  obtain ⟨f, fd, ps, F, _, o, _, b⟩ := c.ex
  exact op_inOwn F b pass0 o (hr.mono hk)
theorem op_notInO (c : Mf X.prog X.w X.K X.mg X.base k C "__contains__" sp) (hr : Room j X.A) (hk : k ≤ j) :
    OpR X (compareOp .NotIn) (fun x y H Q => ∃ a dx fs, y = .ref a ∧ H a = some (.ins C dx fs) ∧ sp [.ref a, x] H (fun v H' => ∃ b, v = .bl b ∧ Q (.bl (!b)) H') E0) := by
  obtain ⟨f, fd, ps, F, _, o, _, b⟩ := c.ex
  exact op_notInOwn F b pass0 o (hr.mono hk)
theorem call_lenO (c : Mf X.prog X.w X.K X.mg X.base k C "__len__" sp) (hr : Room j X.A) (hk : k + 1 ≤ j) :
    CallR X (.builtin "len") (fun xs H Q => ∃ a dx fs, xs = [.ref a] ∧ H a = some (.ins C dx fs) ∧ sp [.ref a] H (fun v H' => ∃ k : Nat, v = .int k ∧ k ≤ sizeLine ∧ Q (.int k) H') E0) := by
  obtain ⟨f, fd, ps, F, _, o, _, b⟩ := c.ex
  exact call_lenOwn F b pass0 o (hr.mono hk)
theorem call_strO (c : Mf X.prog X.w X.K X.mg X.base k C "__str__" sp) (hr : Room j X.A) (hk : k + 2 ≤ j) :
    CallR X (.type "str") (fun xs H Q => ∃ a dx fs, xs = [.ref a] ∧ H a = some (.ins C dx fs) ∧ sp [.ref a] H (fun v H' => ∃ z, v = .str z ∧ Q (.str z) H') E0) := by
  obtain ⟨f, fd, ps, F, _, o, _, b⟩ := c.ex
  exact call_strOwn F b pass0 o (hr.mono hk)
theorem pe_ixO {a b : Expr} (c : Mf X.prog X.w X.K X.mg X.base k C "__getitem__" sp) (hr : Room j X.A) (hk : k + 1 ≤ j) (hA : PE X a ta) (hB : PE X b tb)
    (hsl : ∀ v u, subscripted b true v u = runValue (.builtin "lifetime.subscript" ⟨[v, u], []⟩) := by intro _ _; rfl) :
    PE X (.Subscript a b pos) (tOp (fun x y H Q => ∃ a dx fs, x = .ref a ∧ H a = some (.ins C dx fs) ∧ sp [.ref a, y] H Q E0) ta tb) := by
  obtain ⟨f, fd, ps, F, _, o, fi, b⟩ := c.ex
  exact pe_ixOwn F b pass0 o fi (hr.mono hk) hA hB hsl
theorem op_eqO (c : Mf X.prog X.w X.K X.mg X.base k C "__eq__" sp) (hr : Room j X.A) (hk : k ≤ j) : OpR X (compareOp .Eq) (rEqOwn X.K C sp E0 id) := by
  obtain ⟨f, fd, ps, F, _, o, _, b⟩ := c.ex
  exact op_eqOwn F b pass0 o (hr.mono hk)
theorem op_neO (c : Mf X.prog X.w X.K X.mg X.base k C "__eq__" sp) (hne : PySem.W.findIn X.K (.ref C) "__ne__" = some (some (.builtin "object.__ne__"))) (hm : PySem.W.mroIn X.K C (.type "object") = some true) (hr : Room j X.A) (hk : k + 1 ≤ j) :
    OpR X (compareOp .NotEq) (rEqOwn X.K C sp E0 not) := by
  obtain ⟨f, fd, ps, F, _, o, _, b⟩ := c.ex
  exact op_neOwn F b pass0 o hne hm (hr.mono hk)
end
end L2

set_option Elab.async false
set_option linter.all false
set_option maxRecDepth 100000
set_option maxHeartbeats 4000000
/-! The rules whose readings name X.K, with K said: for what stands in a comprehension's block. -/
namespace L2
open PySem PySem.Spec PyProof.Rows
section
variable {X : Cx} {K : PySem.W.Frag} {o e a b : Expr} {es : List Expr} {to ta tb : TE} {t : TA} {name f : Str} {apos cpos pos : Pos} {T id : String} {r : V → List V → Hp → VK → Prop}
theorem pe_bm0K (hK : X.K = K) (pa : PlainAttrs T) (slot : Slot T name id) (hty : typeOf (.builtin id) = pure (.type "method_descriptor")) (hm : MtR X id r) (ho : PE X o to) (hbase : attributeBase o name X.env (eval o X.env) = eval o X.env := by rfl) (hline : (apos.endLine == cpos.line) = true := by rfl) : PE X (.Call (.Attribute o name apos) [] [] cpos) (tBM0 K T r to) := by
  subst hK
  exact pe_bm0 pa slot hty hm ho hbase hline
theorem pe_bmK (hK : X.K = K) (pa : PlainAttrs T) (slot : Slot T name id) (hty : typeOf (.builtin id) = pure (.type "method_descriptor")) (hm : MtR X id r) (ho : PE X o to) (ha : PA X (e :: es) t) (hbase : attributeBase o name X.env (eval o X.env) = eval o X.env := by rfl) (hfew : ((backTo cpos (starEach (e :: es) X.env)).all (fun x => !x.1) && (backToKw cpos (keywordEach [] X.env)).all (fun x => x.1.isSome) && decide ((e :: es).length + ([] : List Keyword).length + (if ([] : List Keyword).isEmpty then 0 else 1) < 30)) = true := by rfl) (hline : (apos.endLine == cpos.line) = true := by rfl) (hs : starEach (e :: es) X.env = (false, eval e X.env) :: starEach es X.env := by rfl) (hplain : (backTo cpos (starEach es X.env)).any (·.1) = false := by rfl) :
    PE X (.Call (.Attribute o name apos) (e :: es) [] cpos) (tBM K T r to t) := by
  subst hK
  exact pe_bm pa slot hty hm ho ha hbase hfew hline hs hplain
theorem pe_fldK (hK : X.K = K) (he : PE X e ta) (hb : attributeBase e f X.env (eval e X.env) = eval e X.env) : PE X (.Attribute e f pos) (tFld K ta f) := by
  subst hK
  exact pe_fld he hb
def rLenSeq (K : PySem.W.Frag) : List V → Hp → VK → Prop := fun xs H Q => ∃ p ys, xs = [.ref p] ∧ (SqL K H p ys ∨ SqT K H p ys) ∧ Q (.int ys.length) H
theorem call_len_seqK (hK : X.K = K) : CallR X (.builtin "len") (rLenSeq K) := by
  subst hK
  exact call_len_seq
theorem ix_listK (hK : X.K = K) : IxR X (rIxL K) := by
  subst hK
  exact ix_list
theorem ix_tupK (hK : X.K = K) : IxR X (rIxT K) := by
  subst hK
  exact ix_tup
theorem sl_listK (hK : X.K = K) : SlR X (rSlL K) := by
  subst hK
  exact sl_list
theorem op_neDK (hK : X.K = K) (hu : X.A.units + 64 < cLine) : OpR X (compareOp .NotEq) (rNeD K) := by
  subst hK
  exact op_neD hu
theorem op_eqDK (hK : X.K = K) (hu : X.A.units + 64 < cLine) : OpR X (compareOp .Eq) (rEqD K) := by
  subst hK
  exact op_eqD hu
def rListOf (K : PySem.W.Frag) : List V → Hp → VK → Prop := fun xs H Q => ∃ p ys, xs = [.ref p] ∧ (SqL K H p ys ∨ SqT K H p ys) ∧ ∀ l, H l = none → Q (.ref l) (upd H l (.lst ys))
theorem call_list_ofK (hK : X.K = K) : CallR X (.type "list") (rListOf K) := by
  subst hK
  exact call_list_of
def rJoin (K : PySem.W.Frag) : V → List V → Hp → VK → Prop := fun x xs H Q => ∃ a p, ∃ ys : List Str, x = .str a ∧ xs = [.ref p] ∧ (SqL K H p (ys.map V.str) ∨ SqT K H p (ys.map V.str)) ∧ (ys.map (·.length)).sum + ys.length * a.length ≤ 16777216 ∧ Q (.str (Txt.join a ys)) H
theorem pe_joinK (hK : X.K = K) (ho : PE X o to) (he : PE X e ta) (hs : starEach [e] X.env = [(false, eval e X.env)] := by rfl) (hbase : attributeBase o "join" X.env (eval o X.env) = eval o X.env := by rfl) (hline : (apos.endLine == pos.line) = true := by rfl) : PE X (.Call (.Attribute o "join" apos) [e] [] pos) (tM1 (rJoin K) to ta) := by
  subst hK
  exact pe_join ho he hs hbase hline
theorem call_strS : CallR X (.type "str") (fun xs H Q => ∃ a, xs = [.str a] ∧ Q (.str a) H) := SkE.call_str_str
def rTupleOf (K : PySem.W.Frag) : List V → Hp → VK → Prop := fun xs H Q => ∃ p ys, xs = [.ref p] ∧ ((SqL K H p ys ∧ ∀ l, H l = none → Q (.ref l) (upd H l (.tup ys))) ∨ (SqT K H p ys ∧ Q (.ref p) H))
theorem call_tuple_ofK (hK : X.K = K) : CallR X (.type "tuple") (rTupleOf K) := by
  subst hK
  exact call_tuple_of
end
end L2

set_option Elab.async false
set_option linter.all false
set_option maxRecDepth 100000
set_option maxHeartbeats 4000000
namespace L2
open PySem PySem.Spec PyProof.Rows
/-- a name of the module holds a value -/
def GV (mg : Str → Option Value) (x : Str) (v : V) : Prop := ∃ u, mg x = some u ∧ RelV v u
theorem pe_gv {X : Cx} {x : Str} {v : V} {pos : Pos} (h : GV X.mg x v) (hg : Gl X x) (hd : (x == ("__debug__" : Str)) = false := by decide) : PE X (.Name x pos) (tC v) := by
  obtain ⟨u, h1, h2⟩ := h
  exact pe_glob hg h1 h2 hd
theorem pj_nil {X : Cx} : PJ X [] [] := .nil
theorem pj_cons {X : Cx} {e : Expr} {t : TE} {es : List Expr} {ts : List TE} (h : PE X e t) (r : PJ X es ts) : PJ X (e :: es) (t :: ts) := .cons h r
/-- a dict comprehension over what a Walk tells -/
theorem dc_it {J : It} {m : Nat} {G : Hp → Prop} {Y : Nat → Hp → V → Hp → Prop} (w : Walk J m G Y) {g : TG} {tt : TT} {tk tv : TE} {own : List Nat} {σ : St} {H1 : Hp} {D : Addr} {Qd : Hp → Prop} (Pv : Nat → Hp → Prop) (start : Pv 0 (upd H1 D (.dK []))) (keeps : ∀ i H, i ≤ m → Pv i H → G H)
    (turn : ∀ i x H H', i < m → Pv i H → Y i H x H' → g x (wipe σ own) H' fun σ2 H2 => wipe σ2 own = wipe σ own ∧ tt σ2 H2 fun b H3 =>
      if b = true then tk σ2 H3 fun y H4 => tv σ2 H4 fun z H5 => ∃ kvs k, y = kV k ∧ H5 D = some (.dK kvs) ∧ kvs.length < sizeLine ∧ Pv (i + 1) (upd H5 D (.dK (putK kvs k z))) else Pv (i + 1) H3) (done : ∀ H, Pv m H → Qd H) :
    ∃ W : Nat → Nat → Hp → Prop, (∃ j, W 0 j (upd H1 D (.dK []))) ∧ ∀ i j H, W i j H →
      (J.stop i H ∧ Qd H) ∨ (J.go i H ∧ ∃ Nx : Hp → Prop, (∀ H', Nx H' → ∃ j', j' < j ∧ W (i + 1) j' H') ∧ ∀ x H', J.yld i H x H' → g x (wipe σ own) H' fun σ2 H2 => wipe σ2 own = wipe σ own ∧ tt σ2 H2 fun b H3 =>
        if b = true then tk σ2 H3 fun y H4 => tv σ2 H4 fun z H5 => ∃ kvs k, y = kV k ∧ H5 D = some (.dK kvs) ∧ kvs.length < sizeLine ∧ Nx (upd H5 D (.dK (putK kvs k z))) else Nx H3) := by
  refine ⟨fun i j H => j = m - i ∧ i ≤ m ∧ Pv i H, ⟨m, by simp, Nat.zero_le _, start⟩, ?_⟩
  rintro i j H ⟨rfl, hi, pv⟩
  have kp := keeps i H hi pv
  rcases Nat.lt_or_ge i m with less | more
  · exact .inr ⟨w.goes i H less kp, Pv (i + 1), fun H' p' => ⟨m - (i + 1), by omega, rfl, less, p'⟩, fun x H' y => turn i x H H' less pv (w.yields i H x H' less kp y)⟩
  · obtain rfl : i = m := Nat.le_antisymm hi more
    exact .inl ⟨w.stops H kp, done H pv⟩
section
variable {X : Cx}
/-- y = {k: v for ..}: the name is stored within the comprehension's frame -/
theorem ps_setDc {j : Nat} {y : Str} {yp : Pos} {kx vx tg iter : Expr} {ifs : List Expr} {scope : Scope} {own : List (Str × Nat)} {cp sp : Pos} {wi : TI} {g : TG} {tt : TT} {tk tv : TE} (calm : X.calm = true) (nodup : X.N.Nodup) (atJ : X.N[j]? = some y) (isLoc : X.env.scope.names.lookup y = some .local)
    (swaps : swapsWith (.DictComp kx vx [⟨tg, iter, ifs, 0⟩] scope cp) (some (.Name y yp)) sp.line X.env = pure true) (walks : PI X tg iter wi) (blk : BlkOk X.N X.env.scope scope own)
    (target : ∀ (s : Shared) (H : Hp) (C : Addr) (cl : List (Str × Addr)) (fp : List Addr), PG (X.blk s H scope (compEnvC scope cl C X.env) fp) tg g) (tests : ∀ (s : Shared) (H : Hp) (C : Addr) (cl : List (Str × Addr)) (fp : List Addr), PTs (X.blk s H scope (compEnvC scope cl C X.env) fp) ifs tt)
    (keys : ∀ (s : Shared) (H : Hp) (C : Addr) (cl : List (Str × Addr)) (fp : List Addr), PE (X.blk s H scope (compEnvC scope cl C X.env) fp) kx tk)
    (vals : ∀ (s : Shared) (H : Hp) (C : Addr) (cl : List (Str × Addr)) (fp : List Addr), PE (X.blk s H scope (compEnvC scope cl C X.env) fp) vx tv) (plain : ∀ x, foldedSetIterable iter X.env x = pure x := by intro _; rfl) :
    PS X (.Assign [.Name y yp] (.DictComp kx vx [⟨tg, iter, ifs, 0⟩] scope cp) sp) (tAsg (tDc wi g tt tk tv (own.map (·.2))) (gName j)) := by
  refine ⟨fun pins s σ H D I want => ?_⟩
  rw [exec_Assign_Name_used _ _ _ _ swaps]
  refine wpAny_bind (wpAny_standAt (wpAny_bind ?_))
  show wpAny _ X.A (do let _ ← comprehension (.DictComp kx vx [⟨tg, iter, ifs, 0⟩] scope cp) scope X.env (firstIterPos [⟨tg, iter, ifs, 0⟩] cp) newDict false (eval iter X.env) (some (assign (.Name y yp) X.env))) _ _ s
  have want' : tDc wi g tt tk tv (own.map (·.2)) σ H (fun x H1 => gName j x σ H1 D.nx) := want
  refine wpAny_bind (thn (dc_core (Qf := fun _ s' => SP X pins D .next s') calm nodup I walks blk target tests keys vals plain want' fun made frame s' m H' J q hn young => ?_) fun _ s' z => wpAny_pure (wpAny_pure z))
  show wpAny _ _ (assign (.Name y yp) X.env (.ref made)) _ _ _
  refine wpAny_assign_Name (store_ok2 (v := V.ref made) J nodup atJ (.inl isLoc) rfl (fun s2 J2 ⟨a, but, isA⟩ => ?_) (.inr isLoc))
  obtain ⟨y0, y1, y2, y3, y4, y5⟩ := young
  have apart : frame ≠ a := by
    rcases isA with z | z
    · rw [z]
      exact y1
    · intro e
      exact y4 y a z e.symm
  refine ⟨m, hn.sameBut but apart, fun h3 but3 => ?_⟩
  exact ⟨_, H', J2.turned (t' := s2.toks) (fun b o hb e => (but3.2 b hb).trans e) y0 y1 y3 y4 y5, q⟩
theorem sw_trueD {kx vx : Expr} {gs : List Comprehension} {scope : Scope} {pos py : Pos} {y : Str} {l : Nat} {env : Env} (isFun : env.scope.kind = .function) (isLoc : env.scope.names.lookup y = some .local) (line : (py.line == pos.line) = true)
    (apart : (scope.names.any fun (n, k) => n == y && (k == .local || k == .cell)) = false) : swapsWith (.DictComp kx vx gs scope pos) (some (.Name y py)) l env = pure true := by
  have k1 : env.kindOf y = some .local := isLoc
  have k2 : env.blockKind = .function := by
    unfold Env.blockKind
    rw [isFun]
    rfl
  unfold swapsWith
  simp only [k2, k1, apart, Expr.pos, line]
  rfl
end
/-- not x, by truth, K said -/
theorem pe_notTK {X : Cx} {K : PySem.W.Frag} {a : Expr} {ta : TE} {pos : Pos} (hK : X.K = K) (ha : PE X a ta) : PE X (.UnaryOp .Not a pos) (tNotT K ta) := by
  subst hK
  exact pe_notT ha
end L2

set_option Elab.async false
set_option linter.all false
set_option maxRecDepth 100000
set_option maxHeartbeats 4000000
/-! Dicts of texts compared both ways; a staticmethod called by the class's name. -/
namespace L2
open PySem PySem.Spec PyProof.Rows
def Strs (ks : List (Key × V)) : Prop := ∀ p ∈ ks, ∃ z, p.2 = .str z
def sameD (ks ls : List (Key × V)) : Bool := ks.length == ls.length && ks.all fun p => decide (valV ls p.1 = some p.2)
theorem valV_mem {ls : List (Key × V)} {k : Key} {y : V} (h : valV ls k = some y) : ∃ p ∈ ls, p.2 = y := by
  unfold valV at h
  cases e : ls.find? (fun kv => decide (kv.1 = k)) with
  | none =>
    rw [e] at h
    cases h
  | some q =>
    rw [e] at h
    exact ⟨q, List.mem_of_find?_eq_some e, Option.some.inj h⟩
theorem eqAt_strs {A : Around} {s : Shared} {x y : Str} {u u' : Value} (r : RelV (.str x) u) (r' : RelV (.str y) u') : SeqAt.EqAt A s u u' (decide (x = y)) := by
  obtain ⟨t, rfl⟩ := (show ∃ t, u = Value.str x t from r)
  obtain ⟨t', rfl⟩ := (show ∃ t, u' = Value.str y t from r')
  have q := SeqAt.EqAt.str_str (A := A) (s := s) x t y t'
  have e : (x == y) = decide (x = y) := by
    rw [Bool.eq_iff_iff]
    simp
  rw [e] at q
  exact q
theorem hits_str {A : Around} {s : Shared} {ls : List (Key × V)} {vb : List (Key × Value)} (rb : KV ls vb) (sl : Strs ls) {ks : List (Key × V)} {va : List (Key × Value)} (ra : KV ks va) :
    Strs ks → PySem.W.KeqHits A s vb va (ks.all fun p => decide (valV ls p.1 = some p.2)) := by
  unfold KV at ra
  induction ra with
  | nil => intro _; exact .nil
  | @cons p q ps qs h t ih =>
    intro hp
    obtain ⟨h1, h2⟩ := h
    obtain ⟨z, ez⟩ := hp p List.mem_cons_self
    have rr : RelO (valV ls p.1) (valueAt vb p.1) := rb.val p.1
    obtain ⟨k, v⟩ := q
    have h1' : p.1 = k := h1
    rw [h1'] at rr
    rw [List.all_cons, h1']
    cases e : valV ls k with
    | none =>
      rw [e] at rr
      have hn : valueAt vb k = none := RelO.none_of rr
      have ef : decide ((none : Option V) = some p.2) = false := rfl
      rw [ef, Bool.false_and]
      exact .miss hn
    | some y =>
      rw [e] at rr
      obtain ⟨y', hy, ry⟩ := rr.some_of
      obtain ⟨q2, hm, e2⟩ := valV_mem e
      obtain ⟨z2, ez2⟩ := sl q2 hm
      have ey : y = .str z2 := e2.symm.trans ez2
      subst ey
      rw [ez] at h2
      have hh := eqAt_strs (A := A) (s := s) h2 ry
      have ed : decide (some (V.str z2) = some p.2) = decide (z = z2) := by
        rw [ez]
        by_cases c : z = z2
        · rw [c]
          simp
        · rw [decide_eq_false c, decide_eq_false]
          intro w
          exact c (V.str.inj (Option.some.inj w)).symm
      rw [ed]
      exact .hit hy hh (ih fun p' hm => hp p' (List.mem_cons_of_mem _ hm))
section
variable {X : Cx}
def rEqDT (g : Bool → Bool) : R2 := fun x y H Q => ∃ a b ks ls, x = .ref a ∧ y = .ref b ∧ Rd H a (.dK ks) ∧ Rd H b (.dK ls) ∧ Strs ks ∧ Strs ls ∧ Q (.bl (g (sameD ks ls))) H
theorem op_eqDT (hu : X.A.units + 1 < cLine) : OpR X (compareOp .Eq) (rEqDT id) := by
  intro pins s σ H x y v u Q I rx ry h
  obtain ⟨a, b, ks, ls, rfl, rfl, ea, eb, sk, sl, q⟩ := h
  obtain rfl : v = Value.ref a := rx
  obtain rfl : u = Value.ref b := ry
  obtain ⟨_, ya, va, ra, da⟩ := dk_rd I.hok ea
  obtain ⟨_, yb, vb, rb, db⟩ := dk_rd I.hok eb
  have h1 : va.length = ks.length := (Paired.length ra).symm
  have h2 : vb.length = ls.length := (Paired.length rb).symm
  exact PySem.W.keq_eq (knd := mixKind X.prog X.w) ya yb da db (Nat.lt_of_succ_lt hu) (fun _ => hits_str rb sl ra sk) (fin_bl I q (by rw [h1, h2]; rfl))
theorem op_neDT (hu : X.A.units + 1 < cLine) : OpR X (compareOp .NotEq) (rEqDT not) := by
  intro pins s σ H x y v u Q I rx ry h
  obtain ⟨a, b, ks, ls, rfl, rfl, ea, eb, sk, sl, q⟩ := h
  obtain rfl : v = Value.ref a := rx
  obtain rfl : u = Value.ref b := ry
  obtain ⟨_, ya, va, ra, da⟩ := dk_rd I.hok ea
  obtain ⟨_, yb, vb, rb, db⟩ := dk_rd I.hok eb
  have h1 : va.length = ks.length := (Paired.length ra).symm
  have h2 : vb.length = ls.length := (Paired.length rb).symm
  exact PySem.W.keq_ne (knd := mixKind X.prog X.w) ya yb da db (Nat.lt_of_succ_lt hu) (fun _ => hits_str rb sl ra sk) (fin_bl I q (by rw [h1, h2]; rfl))
end
/-- C.m is a staticmethod: its record at p, its def at g -/
structure SMet (K : PySem.W.Frag) (C : Addr) (mc : Value) (m : Str) (p g : Addr) : Prop where
  at_ : PySem.W.findCls K (.ref C) mc m = some (.get (.builtin "staticmethod.__get__") (.ref p) .none (.ref C))
  rc : ∃ rest, PySem.W.recIn K p "staticmethod" = some (.ref g :: rest)
  kp : PySem.W.keepIn K (.ref g) = true
section
variable {X : Cx} {CX : CXT} {k : Nat} {C p g : Addr} {mc : Value} {sp : Sp} {E : XK} {o e : Expr} {es : List Expr} {m : Str} {pos apos : Pos} {ta : TE} {t : TA} {pl : Sem Bool} {fd : FuncData} {ps : List Str}
theorem getmethsm_ok {pins : List (Addr × Obj)} {σ : L2.St} {H : Hp} {s : Shared} {A : Around} {E : Value → Shared → Prop} {Q : Value × List Value → Shared → Prop} (I : Inv X pins σ H s) (r : ClX.CRead X.K C mc) (k : SMet X.K C mc m p g)
    (h : ∀ s', Inv X pins σ H s' → Q (.ref g, []) s') : wpAny (model X.prog X.w) A (getMethod (.ref C) m pl) Q E s := by
  obtain ⟨rest, hp⟩ := k.rc
  refine PySem.W.method_cls I.kIn r.ga ?_
  refine PySem.W.cls_bind I.kIn r.rd k.at_ ?_
  refine wpAny_call (PySem.W.sm_get (s := { s with toks := s.toks + 1 }) I.kIn hp (PySem.W.handed_on rfl ?_))
  exact h _ (I.tok _)
/-- e.m(..), e the class at C, m a staticmethod -/
def tSMeth (C : Addr) (sp : Sp) (E : XK) (ta : TE) (t : TA) : TE := fun σ H Q => ta σ H fun x H1 => x = .ref C ∧ t σ H1 fun vs H2 => sp vs H2 Q E
theorem pe_smeth (he : PE X o ta) (r : ClX.CRead X.K C mc) (c : SMet X.K C mc m p g) (F : FnOk X.prog X.w X.K X.mg X.base CX k g fd ps sp) (hr : Room k X.A) (hb : Binds X.K fd ps []) (hx : Passes CX X E) (ha : PA X (e :: es) t)
    (hst : starEach (e :: es) X.env = (false, eval e X.env) :: starEach es X.env := by rfl) (hpl : (backTo pos (starEach es X.env)).any (·.1) = false := by rfl)
    (ht : eval (.Call (.Attribute o m apos) (e :: es) [] pos) X.env = (do
      let ov ← eval o X.env
      standAt apos.atName
      let (f, first) ← holding [ov] (getMethod ov m pl)
      callWith pos f first (backTo pos (starEach (e :: es) X.env)) (backToKw pos (keywordEach [] X.env))) := by rfl) :
    PE X (.Call (.Attribute o m apos) (e :: es) [] pos) (tSMeth C sp E ta t) := by
  refine ⟨fun pins s σ H Q I h => ?_⟩
  refine PySem.W.methodCall_KW (pl := pl) (thn (he.run pins s σ H _ I h) fun u s1 ⟨x, H1, I1, rx, ex, q⟩ => ?_) ht
  subst ex
  obtain rfl : u = Value.ref C := rx
  refine getmethsm_ok I1 r c fun s2 I2 => ?_
  refine PySem.W.callWith_K (h₀ := X.base) I.ok.mod.kin c.kp (thn (ha.run pos pins s2 σ H1 _ I2 q) fun us s3 ⟨vs, H2, I3, rv, q2⟩ => ⟨I3.kIn, ?_⟩) hst hpl
  exact run_fn (us := us) (dvs := []) (ds := []) F hr hb .nil hx I3 rv (by rw [List.append_nil]; exact q2)
/-- e.m(k = v, ..) -/
def tSMethK (C : Addr) (sp : Sp) (gV : List V → List V → List V) (E : XK) (ta : TE) (tk : TA) : TE := fun σ H Q => ta σ H fun x H1 => x = .ref C ∧ tk σ H1 fun zs H2 => sp (gV [] zs) H2 Q E
theorem pe_smethK0 {kws : List Keyword} {tk : TA} {ks : List Str} {gg : List Value → List Value → List Value} {gV : List V → List V → List V} (he : PE X o ta) (r : ClX.CRead X.K C mc) (c : SMet X.K C mc m p g) (F : FnOk X.prog X.w X.K X.mg X.base CX k g fd ps sp) (hr : Room k X.A) (hb : KBinds X.K fd ps ks gg gV) (hx : Passes CX X E) (hkw : PK X kws tk)
    (hall : (backToKw pos (keywordEach kws X.env)).all (·.1.isSome) = true := by rfl) (hks : (backToKw pos (keywordEach kws X.env)).filterMap (·.1) = ks := by rfl)
    (hpl : ((backTo pos (starEach [] X.env)).any (·.1) || (backToKw pos (keywordEach kws X.env)).any (·.1.isNone)) = false := by rfl)
    (ht : eval (.Call (.Attribute o m apos) [] kws pos) X.env = (do
      let ov ← eval o X.env
      standAt apos.atName
      let (f, first) ← holding [ov] (getMethod ov m pl)
      callWith pos f first (backTo pos (starEach [] X.env)) (backToKw pos (keywordEach kws X.env))) := by rfl) :
    PE X (.Call (.Attribute o m apos) [] kws pos) (tSMethK C sp gV E ta tk) := by
  refine ⟨fun pins s σ H Q I h => ?_⟩
  refine PySem.W.methodCall_KW (pl := pl) (thn (he.run pins s σ H _ I h) fun u s1 ⟨x, H1, I1, rx, ex, q⟩ => ?_) ht
  subst ex
  obtain rfl : u = Value.ref C := rx
  refine getmethsm_ok I1 r c fun s2 I2 => ?_
  refine PySem.W.callWith_KW0 (h₀ := X.base) I.ok.mod.kin c.kp hall (thn (hkw.run pos pins s2 σ H1 _ I2 q) fun ws s3 ⟨zs, H2, I3, rz, q2⟩ => ⟨I3.kIn, ?_⟩) hpl
  rw [hks]
  exact run_fnk (us := []) (vs := []) F hr hb hx I3 .nil rz q2
end
/-- f'..' of two parts or more, by a name -/
def tJo (ts : List TE) : TE := fun σ H Q => tJs ts Str.empty σ H fun out H1 => Q (.str out) H1
theorem pe_joinedT {X : Cx} {v1 v2 : Expr} {rest : List Expr} {ts : List TE} {pos : Pos} (h : PJ X (v1 :: v2 :: rest) ts) : PE X (.JoinedStr (v1 :: v2 :: rest) pos) (tJo ts) := pe_joined h
end L2

set_option Elab.async false
set_option linter.all false
set_option maxRecDepth 100000
set_option maxHeartbeats 4000000
/-! An own error's `__init__` that calls the base error's by the base's name, where the base has none of its own. -/
namespace L2
open PySem PySem.Spec PyProof.Rows
section
variable {X : Cx} {e : Expr} {es : List Expr} {ta : TA} {x : Str} {CR : Addr} {mc : Value} {p1 p2 pos : Pos} {pl : Sem Bool}
theorem pe_baseinit (hg : Gl X x) (hm : X.mg x = some (.ref CR)) (r : ClX.CRead X.K CR mc) (vV : PySem.W.findCls X.K (.ref CR) mc "__init__" = some (.val (.builtin "ValueError.__init__"))) (ha : PA X (e :: es) ta)
    (hdb : (x == ("__debug__" : Str)) = false := by decide)
    (hc : eval (.Call (.Attribute (.Name x p1) "__init__" p2) (e :: es) [] pos) X.env = (do
      let ov ← eval (.Name x p1) X.env
      standAt p2.atName
      let (f, first) ← holding [ov] (getMethod ov "__init__" pl)
      callWith pos f first (backTo pos (starEach (e :: es) X.env)) (backToKw pos (keywordEach [] X.env))) := by rfl)
    (he : starEach (e :: es) X.env = (false, eval e X.env) :: starEach es X.env := by rfl) (hpl : (backTo pos (starEach es X.env)).any (·.1) = false := by rfl) :
    PE X (.Call (.Attribute (.Name x p1) "__init__" p2) (e :: es) [] pos) (tVeI X.K ta) := by
  refine ⟨fun pins s σ H Q I h => ?_⟩
  refine PySem.W.methodCall_KW (pl := pl) (ld_glob I hg hm ?_ hdb) hc
  refine PySem.W.method_cls I.kIn r.ga ?_
  refine PySem.W.cls_value I.kIn r.rd vV (by decide +kernel) ?_
  show wpAny _ _ (callWith pos (Value.builtin "ValueError.__init__") [] (backTo pos (starEach (e :: es) X.env)) []) _ _ _
  refine PyProof.Rows.callWith_method1 (thn (ha.run pos pins _ σ H _ (I.tok _) h) fun us s1 ⟨vs, H1, I1, r1, a, C, ws, ev, hl, T, ea, q⟩ => ?_) he hpl
  subst ev
  cases r1 with
  | @cons _ u0 _ ur ra rw' =>
    obtain rfl : u0 = Value.ref a := ra
    have hlen : ur.length ≤ sizeLine := by
      rw [← Paired.length rw', sizeLine_eq]
      omega
    exact oinit_ok T I1 ea hlen fun s' J => ⟨.non, H1, J, rfl, q⟩
end
end L2

set_option Elab.async false
set_option linter.all false
set_option maxRecDepth 100000
set_option maxHeartbeats 4000000
/-! a | b, a >> b .. by an own method, both of the same class; a <= b by an own one (its answer a bool). -/
namespace L2
open PySem PySem.Spec PyProof.Rows
section
variable {X : Cx} {n : Nat} {CX : CXT} {C f : Addr} {fd : FuncData} {ps : List Str} {sp : Sp} {E : XK}
theorem notNI {v : V} {u : Value} (r : RelV v u) {Q : Value → Shared → Prop} {s : Shared} (q : Q u s) : PySem.W.CmpBack Q u s := by
  cases v <;> first
    | (obtain ⟨t, rfl⟩ := r; exact q)
    | (cases r; exact q)
def rBinOwn (K : PySem.W.Frag) (C : Addr) (sp : Sp) (E : XK) : R2 := fun x y H Q => ∃ a dx fs b dy gs, x = .ref a ∧ H a = some (.ins C dx fs) ∧ y = .ref b ∧ H b = some (.ins C dy gs) ∧ sp [.ref a, y] H Q E
theorem op_binOwn {op : Operator} (F : FnOk X.prog X.w X.K X.mg X.base CX n f fd ps sp) (hb : Binds X.K fd ps []) (hx : Passes CX X E) (hs : PySem.W.findIn X.K (.ref C) (PySem.dunder op.info.2) = some (some (.ref f))) (hf : PySem.W.isFn X.K (.ref f) = true) (hc : PySem.W.selfFirst X.K C = true) (hr : Room n X.A) :
    OpR X (binaryOp op) (rBinOwn X.K C sp E) := by
  intro pins s σ H x y v u Q I rx ry h
  obtain ⟨a, dx, fs, b, dy, gs, rfl, ha, rfl, hbb, hsp⟩ := h
  cases rx
  cases ry
  obtain ⟨od, J⟩ := inst_at I ha
  obtain ⟨od2, J2⟩ := inst_at I hbb
  obtain ⟨m, hF⟩ := I.fr
  refine PySem.W.binop_K hF I.ok.mod.kin J J2.type hc hs hf (thn (run_own (Sub.here hr) F hb hx I (show Vals [V.ref a, V.ref b] [Value.ref a, Value.ref b] from .cons rfl (.cons rfl .nil)) hsp) fun r s' q => ?_)
  obtain ⟨z, H', I', rz, q⟩ := q
  exact notNI rz ⟨z, H', I', rz, q⟩
def rLeOwn (K : PySem.W.Frag) (C : Addr) (sp : Sp) (E : XK) : R2 := fun x y H Q => ∃ a dx fs tb, x = .ref a ∧ H a = some (.ins C dx fs) ∧ TyX K H y tb ∧ PySem.W.notFirst K C tb = true ∧ sp [.ref a, y] H Q E
theorem op_leOwn (F : FnOk X.prog X.w X.K X.mg X.base CX n f fd ps sp) (hb : Binds X.K fd ps []) (hx : Passes CX X E) (o : Own X.K C "__le__" f) (hr : Room n X.A) : OpR X (compareOp .LtE) (rLeOwn X.K C sp E) := by
  intro pins s σ H x y v u Q I rx ry h
  obtain ⟨a, dx, fs, tb, rfl, ha, ty, hn, hs⟩ := h
  cases rx
  obtain ⟨od, J⟩ := inst_at I ha
  obtain ⟨m, hF⟩ := I.fr
  obtain ⟨P, Z, p, _⟩ := kit_of I ry ty
  refine PySem.W.cmp_K (op := .LtE) hr.units0 hF I.ok.mod.kin J (Z.ty _ _ I.kIn p) hn o.find o.fn (thn (run_own (Sub.here hr) F hb hx I (show Vals [V.ref a, y] [Value.ref a, u] from .cons rfl (.cons ry .nil)) hs) fun r s' q => ?_)
  obtain ⟨z, H', I', rz, q⟩ := q
  exact notNI rz ⟨z, H', I', rz, q⟩
end
end L2

set_option Elab.async false
set_option linter.all false
set_option maxRecDepth 100000
set_option maxHeartbeats 4000000
/-! enumerate(text). -/
namespace L2
open PySem PySem.Spec PyProof.Rows
/-- the signs of a text, each in a new pair behind its number -/
def ItSe (z : Str) : It :=
  ⟨fun i _ => i < z.cps.size, fun i H v H' => ∃ T c, v = .ref T ∧ H T = none ∧ H' = upd H T (.tup [.int (i : Nat), .str ⟨#[c]⟩]) ∧ z.cps[i]? = some c, fun i _ => i = z.cps.size⟩
theorem turn_enumS {P : Program} {w : World} {K : PySem.W.Frag} {elts : List Expr} {kk : Nat} {tpos : Pos} (z : Str) (t : Tok) (e it : Addr) :
    Turn P w K (.Tuple elts kk tpos) (ItSe z) [e, it] e (fun i h => (∃ old, IsEnum h e it ((i : Nat) : Int) old) ∧ h.IsStrIter it (strIterType z) z t i ∧ e ≠ it) where
  mem := by simp
  obj := fun i h st b hb => by
    obtain ⟨⟨old, he⟩, ⟨o, ho, hc, hd⟩, _⟩ := st
    have e' : b = e ∨ b = it := by simpa using hb
    rcases e' with z | z
    · rw [z]; exact ⟨_, he, fun v q => nomatch q⟩
    · rw [z]; exact ⟨o, ho, fun v q => by rw [hd] at q; cases q⟩
  keep := fun i h h' st k => by
    obtain ⟨⟨old, he⟩, ⟨o, ho, r⟩, hne⟩ := st
    exact ⟨⟨old, k e (by simp) _ he⟩, ⟨o, k it (by simp) o ho, r⟩, hne⟩
  item := by
    intro X hP hw hK hc i pins s σ H E I hf st hg
    subst hP hw hK
    obtain ⟨⟨old, he⟩, hit, hne⟩ := st
    have hel : e < s.heap.objs.size := Heap.lt_size he
    have hil : it < s.heap.objs.size := by obtain ⟨_, q, _⟩ := hit; exact Heap.lt_size q
    refine wpAny_pyNext_enum_itemD (Draws.text (A := X.A.in1) (I.ok.hd hc) it z t) he hit hg hne (by simpa using hne) fun x h' tk hx ho hit' hT hsz hk => ?_
    obtain ⟨c, u, hcx, rfl⟩ := hx
    refine ⟨_, rfl, wpAny_letOwnedTupleGo_enum (s := { s with heap := h', toks := tk + 1 }) ho fun h'' he' sb => ?_⟩
    have hT2 : h''.get? s.heap.objs.size = some { cls := .type "tuple", data := .seq #[.int i tk, .str ⟨#[c]⟩ u] } := (sb.2 _ (Nat.ne_of_gt hel)).trans hT
    have new : ObjOk X.prog X.w (upd H s.heap.objs.size (.tup [.int (i : Nat), .str ⟨#[c]⟩])) h'' s.heap.objs.size (.tup [.int (i : Nat), .str ⟨#[c]⟩]) :=
      ⟨by show 2 ≤ sizeLine; decide, [.int i tk, .str ⟨#[c]⟩ u], .cons ⟨_, rfl⟩ (.cons ⟨_, rfl⟩ .nil), ⟨_, hT2, rfl, _, rfl⟩⟩
    have I1 : Inv X pins σ (upd H s.heap.objs.size (.tup [.int (i : Nat), .str ⟨#[c]⟩])) { s with heap := h'', toks := tk + 1 } :=
      I.turnedNew (ch := [e, it]) (fun b ob hb q => (sb.2 b (fun z => hb (by simp [z]))).trans (hk b ob (fun z => hb (by simp [z])) (fun z => hb (by simp [z])) q)) hf (Nat.le_refl _) new
    refine ⟨.ref s.heap.objs.size, _, I1, rfl, ⟨_, c, rfl, I.hok.fresh (Nat.le_refl _), rfl, hcx⟩, ⟨⟨.str ⟨#[c]⟩ u, ?_⟩, ?_, hne⟩, fun b hb => ?_⟩
    · have e1 : ((i + 1 : Nat) : Int) = (i : Int) + 1 := by omega
      rw [e1]; exact he'
    · obtain ⟨o, q, r⟩ := hit'
      exact ⟨o, (sb.2 it (Ne.symm hne)).trans q, r⟩
    · have hb' : b < s.heap.objs.size := by
        have e' : b = e ∨ b = it := by simpa using hb
        rcases e' with z | z
        · rw [z]; exact hel
        · rw [z]; exact hil
      rw [upd_ne (Nat.ne_of_lt hb')]
      exact (hf b hb).1
  done := by
    intro X hP hw hK hc i pins s σ H E I hf st hg
    subst hP hw hK
    obtain ⟨⟨old, he⟩, hit, hne⟩ := st
    have hi : i = z.cps.size := hg
    obtain ⟨f0, f1, f2, f3, f4, f5⟩ := hf it (by simp)
    subst hi
    exact wpAny_pyNext_enum_endD (Draws.text (A := X.A.in1) (I.ok.hd hc) it z t) he hit fun h' eb => ⟨rfl, I.turned (t' := s.toks) (fun b o hb q => eb b o hb q) f0 f1 f3 f4 f5⟩
  self := fun A i s Q E st h => let ⟨⟨_, he⟩, _⟩ := st; wpAny_pyIter_enum he h
def iEnumS (ta : TA) : TI := fun σ H R => ta σ H fun vs H1 => ∃ z, vs = [.str z] ∧ R (ItSe z) H1
theorem pi_enumS {X : Cx} {e : Expr} {ta : TA} {p pos tpos : Pos} {elts : List Expr} {kk : Nat} (hg : Gl X "enumerate") (hm : X.mg "enumerate" = none) (ha : PA X [e] ta) (hs : starEach [e] X.env = [(false, eval e X.env)] := by rfl) :
    PI X (.Tuple elts kk tpos) (.Call (.Name "enumerate" p) [e] [] pos) (iEnumS ta) := by
  refine ⟨fun pins s σ H R I h => ?_⟩
  refine Call_ (ld_blt I hg hm boot_enumerate (PyProof.Rows.callWith_type1 (thn (ha.run pos pins s σ H _ I h) fun us s1 ⟨vs, H1, I1, r1, q1⟩ => ?_) hs rfl))
  obtain ⟨z, ex, q⟩ := q1
  subst ex
  cases r1 with
  | cons r rr =>
    cases rr
    obtain ⟨t, rfl⟩ := r
    refine call_enumerate_str fun h' he hit hsz hk => wpAny_pyIter_enum he ?_
    have I2 : Inv X pins σ H1 { s1 with heap := h' } := I1.kept (t' := s1.toks) hk
    refine ⟨s1.heap.objs.size + 1, [s1.heap.objs.size + 1, s1.heap.objs.size], _, _, H1, rfl, I2, turn_enumS z t (s1.heap.objs.size + 1) s1.heap.objs.size, ⟨⟨.none, he⟩, hit, Nat.succ_ne_self _⟩, fun b hb => ?_, q⟩
    have e' : b = s1.heap.objs.size + 1 ∨ b = s1.heap.objs.size := by simpa using hb
    have hle : s1.heap.objs.size ≤ b := by
      rcases e' with z | z
      · rw [z]; exact Nat.le_add_right _ _
      · rw [z]; exact Nat.le_refl _
    exact I1.fpOk hle (I1.hok.fresh hle)
theorem walk_enumS {z : Str} : Walk (ItSe z) z.cps.size (fun _ => True) (fun i H v H' => ∃ T c, v = .ref T ∧ H T = none ∧ H' = upd H T (.tup [.int (i : Nat), .str ⟨#[c]⟩]) ∧ z.cps[i]? = some c) :=
  ⟨fun _ _ hi _ => hi, fun _ _ => rfl, fun _ _ _ _ _ _ y => y⟩
end L2

set_option Elab.async false
set_option linter.all false
set_option maxRecDepth 100000
set_option maxHeartbeats 4000000
/-! The drawing of the law: the pen, a draw, a pick. -/
namespace V8
open PySem PySem.Spec PyProof.Rows L2
def topS (i : Nat) : Stmt := PySem.Challenge.pw_blindrepair_k11_misreadings_composed.main.body.getD i (.Pass ⟨0, 0, 0, 0⟩)
abbrev s_pen : Stmt := topS 35
abbrev n_pen : List Str := ["_law_script"]
theorem sc_pen : FnScope ["_law_script"] ["_law_script"] (defScope s_pen) := ⟨rfl, rfl, rfl, by decide +kernel, rfl, by decide +kernel, by decide +kernel⟩
abbrev s_draw : Stmt := topS 36
abbrev n_draw : List Str := ["_law_pen_here", "_law_many", "_law_digit", "_law_spot", "_law_cell", "_law_great", "_law_stirred"]
theorem sc_draw : FnScope ["_law_pen_here", "_law_many", "_law_digit", "_law_spot", "_law_cell", "_law_great", "_law_stirred"] ["_law_pen_here", "_law_many"] (defScope s_draw) := ⟨rfl, rfl, rfl, by decide +kernel, rfl, by decide +kernel, by decide +kernel⟩
abbrev s_pick : Stmt := topS 37
abbrev n_pick : List Str := ["_law_pen_here", "_law_some"]
theorem sc_pick : FnScope ["_law_pen_here", "_law_some"] ["_law_pen_here", "_law_some"] (defScope s_pick) := ⟨rfl, rfl, rfl, by decide +kernel, rfl, by decide +kernel, by decide +kernel⟩

/-- all but the object at p stands as it stood -/
def Fr (p : Addr) (H H' : Hp) : Prop := ∀ b o, H b = some o → b ≠ p → H' b = some o
theorem Fr.refl {p : Addr} {H : Hp} : Fr p H H := fun _ _ h _ => h
theorem Fr.trans {p : Addr} {H H1 H2 : Hp} (a : Fr p H H1) (b : Fr p H1 H2) : Fr p H H2 := fun c o h n => b c o (a c o h n) n
theorem Fr.new {p q : Addr} {o : HO} {H : Hp} (h : H q = none) : Fr p H (upd H q o) := fun b u e _ => by
  rw [upd_ne (ne_of_none e h)]; exact e
theorem Fr.at {p : Addr} {o : HO} {H : Hp} : Fr p H (upd H p o) := fun b u e n => by
  rw [upd_ne n]; exact e
theorem Fr.none' {p q : Addr} {H H' : Hp} (a : Fr p H H') (hp : H' p ≠ none) (h : H' q = none) : H q = none := by
  cases e : H q with
  | none => rfl
  | some o =>
    by_cases hq : q = p
    · subst hq; exact absurd h hp
    · rw [a q o e hq] at h; cases h
/-- the pen at p, the script's ints at l, n draws are let -/
structure PenAt (H : Hp) (p l : Addr) (ns : List Int) (n : Nat) : Prop where
  here : ∃ (spot great : Int), H p = some (.lst [.ref l, .int spot, .int great]) ∧ 0 ≤ spot ∧ spot + n ≤ 1000000 ∧ 0 ≤ great
  nums : H l = some (.lst (ns.map V.int))
  ne : l ≠ p
  short : ns.length ≤ 63
theorem PenAt.less {H : Hp} {p l : Addr} {ns : List Int} {n m : Nat} (P : PenAt H p l ns n) (h : m ≤ n) : PenAt H p l ns m := by
  obtain ⟨⟨s, g, h1, h2, h3, h4⟩, i, e, sh⟩ := P
  exact ⟨⟨s, g, h1, h2, by omega, h4⟩, i, e, sh⟩
theorem PenAt.some' {H : Hp} {p l : Addr} {ns : List Int} {n : Nat} (P : PenAt H p l ns n) : H p ≠ none := by
  obtain ⟨⟨s, g, h1, _⟩, _⟩ := P
  rw [h1]; exact fun z => nomatch z
theorem PenAt.new {H : Hp} {p l q : Addr} {o : HO} {ns : List Int} {n : Nat} (P : PenAt H p l ns n) (h : H q = none) : PenAt (upd H q o) p l ns n := by
  obtain ⟨⟨s, g, h1, h2, h3, h4⟩, i, e, sh⟩ := P
  exact ⟨⟨s, g, by rw [upd_ne (ne_of_none h1 h)]; exact h1, h2, h3, h4⟩, by rw [upd_ne (ne_of_none i h)]; exact i, e, sh⟩
/-- another object is written -/
theorem PenAt.other {H : Hp} {p l q : Addr} {o : HO} {ns : List Int} {n : Nat} (P : PenAt H p l ns n) (h : q ≠ p) (h' : q ≠ l) : PenAt (upd H q o) p l ns n := by
  obtain ⟨⟨s, g, h1, h2, h3, h4⟩, i, e, sh⟩ := P
  exact ⟨⟨s, g, by rw [upd_ne (Ne.symm h)]; exact h1, h2, h3, h4⟩, by rw [upd_ne (Ne.symm h')]; exact i, e, sh⟩
def spDraw : Sp := fun vs H Q _ => ∃ (p l : Addr) (ns : List Int) (n : Nat) (many : Int), vs = [.ref p, .int many] ∧ PenAt H p l ns (n + 1) ∧ 0 < many ∧ many < 1000 ∧
  ∀ (v : Int) (H' : Hp), 0 ≤ v → v < many → PenAt H' p l ns n → Fr p H H' → Q (.int v) H'
section
variable {P : Program} {w : World} {K : PySem.W.Frag} {mg : Str → Option Value} {base : Heap}
theorem ints_at {ns : List Int} {i : Int} (h0 : 0 ≤ i) (h : i < ns.length) : ∃ z : Int, atI (ns.map V.int) i = some (.int z) := by
  obtain ⟨j, rfl⟩ : ∃ j : Nat, i = j := ⟨i.toNat, by omega⟩
  have hj : j < ns.length := by omega
  exact ⟨ns[j], atI_nat (by rw [List.getElem?_map, List.getElem?_eq_getElem hj]; rfl)⟩
def dInts (ns : List Int) : List PyData := ns.map PyData.int
theorem dp_ints {H : Hp} : ∀ ns : List Int, DpAll K H (ns.map V.int) (dInts ns)
  | [] => .nil
  | n :: ns => .cons (.int n) (dp_ints ns)
theorem lay_ints : ∀ ns : List Int, PyData.canLayAll0 (dInts ns) = true
  | [] => by simp [dInts, PyData.canLayAll0]
  | n :: ns => by
    have h := lay_ints ns
    simp only [dInts, List.map_cons, PyData.canLayAll0, PyData.canLay0, Bool.true_and]
    exact h
theorem depth_ints : ∀ ns : List Int, PyData.depthAll (dInts ns) = 0
  | [] => by simp [dInts, PyData.depthAll]
  | n :: ns => by
    have h := depth_ints ns
    simp only [dInts, List.map_cons, PyData.depthAll, PyData.depth]
    unfold dInts at h
    omega
theorem shaped_ints (ns : List Int) : SeqAt.shaped (.list (dInts ns)) = true := by
  have h2 : PyData.depth (.list (dInts ns)) ≤ 64 := by
    simp only [PyData.depth, depth_ints]
    omega
  show (PyData.canLay0 (.list (dInts ns)) && decide (PyData.depth (.list (dInts ns)) ≤ 64)) = true
  rw [Bool.and_eq_true]
  exact ⟨by simp only [PyData.canLay0]; exact lay_ints ns, decide_eq_true h2⟩
structure Blt (mg : Str → Option Value) : Prop where
  list : mg "list" = none
  int : mg "int" = none
  len : mg "len" = none
  abs : mg "abs" = none
  range : mg "range" = none
  dict : mg "dict" = none
  str : mg "str" = none
  sorted : mg "sorted" = none
  tuple : mg "tuple" = none
theorem pw2 {st spot : Int} (s0 : 0 ≤ st) (s1 : st < 2147469917) (h0 : 0 ≤ spot) (h1 : spot ≤ 1000000) : (st * (2 * spot + 117) + 60049 * spot * spot + 83).natAbs < 2 ^ 64 := by
  have a1 : st * (2 * spot + 117) ≤ 2147483647 * 2000999 := Int.mul_le_mul (by omega) (by omega) (by omega) (by omega)
  have a0 : 0 ≤ st * (2 * spot + 117) := Int.mul_nonneg s0 (by omega)
  have c1 : 60049 * spot * spot ≤ 99999000000 * 1000000 := Int.mul_le_mul (by omega) h1 h0 (by omega)
  have c0 : 0 ≤ 60049 * spot * spot := Int.mul_nonneg (by omega) h0
  omega
theorem ok_draw {f : Addr} {fd : FuncData} {k : Nat} (F : Fun K "_law_draw" "_law_draw" s_draw f fd) (T : Blt mg) : FnOk P w K mg base CX0 (k + 1) f fd ["_law_pen_here", "_law_many"] spDraw := by
  refine F.ok sc_draw (fun vs H Q E h => ?_) (fun cdv A outer s H vs Q E hr h => ?_)
  · obtain ⟨p, l, ns, n, many, rfl, _⟩ := h
    rfl
  · obtain ⟨p, l, ns, n, many, rfl, PA, m0, m1, q⟩ := h
    obtain ⟨⟨spot, great, hp, hs0, hsn, hg⟩, hl, hne, hsh⟩ := id PA
    refine ⟨_, (pss_cons (ps_if (pt_cmpR op_gt (pe_ix (ix_listK (K := K) rfl) (pv 0) pe_int (fun _ _ => rfl)) pe_int (nomark _))
        (pss_cons (ps_set (i := 2) sc_draw.nd rfl (.inl rfl) (pe_op op_mod (pe_callTy call_int1 (by rfl) T.int (by decide +kernel) (pa_cons (pe_ix (ix_listK (K := K) rfl) (pv 0) pe_int (fun _ _ => rfl)) pa_nil)) (pv 1)))
        (pss_cons (ps_asg (pe_op op_fdiv (pe_callTy call_int1 (by rfl) T.int (by decide +kernel) (pa_cons (pe_ix (ix_listK (K := K) rfl) (pv 0) pe_int (fun _ _ => rfl)) pa_nil)) (pv 1)) (pg_sub (pv 0) pe_int set_list))
        (pss_one (ps_ret (pv 2)))))
        pss_nil)
      (pss_cons (ps_set (i := 3) sc_draw.nd rfl (.inl rfl) (pe_ix (ix_listK (K := K) rfl) (pv 0) pe_int (fun _ _ => rfl)))
      (pss_cons (ps_asg (pe_op op_add (pv 3) pe_int) (pg_sub (pv 0) pe_int set_list))
      (pss_cons (ps_set (i := 4) sc_draw.nd rfl (.inl rfl) (pe_op op_add (pe_op op_mul pe_int (pv 3)) pe_int))
      (pss_cons (ps_if (pt_cmpR (op_neDK (K := K) rfl hr.units) (pe_ix (ix_listK (K := K) rfl) (pv 0) pe_int (fun _ _ => rfl)) (pe_lst pa_nil) (nomark _))
        (pss_one (ps_set (i := 4) sc_draw.nd rfl (.inl rfl) (pe_ix (ix_listK (K := K) rfl) (pe_ix (ix_listK (K := K) rfl) (pv 0) pe_int (fun _ _ => rfl)) (pe_op op_mod (pe_callTy call_int1 (by rfl) T.int (by decide +kernel) (pa_cons (pv 3) pa_nil)) (pe_callB (call_len_seqK (K := K) rfl) (by rfl) T.len (by decide +kernel) (pa_cons (pe_ix (ix_listK (K := K) rfl) (pv 0) pe_int (fun _ _ => rfl)) pa_nil))) (fun _ _ => rfl))))
        pss_nil)
      (pss_cons (ps_if (PW.pt (pw_and (pt_cmpR op_lt (pv 3) (pe_callB (call_len_seqK (K := K) rfl) (by rfl) T.len (by decide +kernel) (pa_cons (pe_ix (ix_listK (K := K) rfl) (pv 0) pe_int (fun _ _ => rfl)) pa_nil)) (nomark _)) (pw_and1 (pt_cmpR op_ge (pe_callB call_abs (by rfl) T.abs (by decide +kernel) (pa_cons (pv 4) pa_nil)) (pe_op op_pow pe_int pe_int) (nomark _)))))
        (pss_cons (ps_set (i := 5) sc_draw.nd rfl (.inl rfl) (pe_op op_add (pe_op op_mul pe_int (pe_op op_sub (pe_callB call_abs (by rfl) T.abs (by decide +kernel) (pa_cons (pv 4) pa_nil)) (pe_op op_pow pe_int pe_int))) (pe_callTy call_int1 (by rfl) T.int (by decide +kernel) (pa_cons (pe_cmpR op_lt (pv 4) pe_int (nomark _)) pa_nil))))
        (pss_cons (ps_asg (pe_op op_fdiv (pe_callTy call_int1 (by rfl) T.int (by decide +kernel) (pa_cons (pv 5) pa_nil)) (pv 1)) (pg_sub (pv 0) pe_int set_list))
        (pss_one (ps_ret (pe_op op_mod (pe_callTy call_int1 (by rfl) T.int (by decide +kernel) (pa_cons (pv 5) pa_nil)) (pv 1))))))
        pss_nil)
      (pss_cons (ps_set (i := 6) sc_draw.nd rfl (.inl rfl) (pe_op op_mod (pe_callTy call_int1 (by rfl) T.int (by decide +kernel) (pa_cons (pe_op op_pow (pe_op op_add (pe_op op_add (pe_op op_mod (pe_callTy call_int1 (by rfl) T.int (by decide +kernel) (pa_cons (pv 4) pa_nil)) pe_int) (pe_op op_mul pe_int (pv 3))) pe_int) pe_int) pa_nil)) pe_int))
      (pss_cons (ps_set (i := 6) sc_draw.nd rfl (.inl rfl) (pe_op op_mod (pe_callTy call_int1 (by rfl) T.int (by decide +kernel) (pa_cons (pe_op op_pow (pe_op op_add (pe_op op_add (pe_op op_mul (pv 6) (pe_op op_add (pe_op op_mul pe_int (pv 3)) pe_int)) (pe_op op_mul (pe_op op_mul pe_int (pv 3)) (pv 3))) pe_int) pe_int) pa_nil)) pe_int))
      (pss_one (ps_ret (pe_op op_mod (pe_callTy call_int1 (by rfl) T.int (by decide +kernel) (pa_cons (pe_op op_fdiv (pv 6) pe_int) pa_nil)) (pv 1)))))))))))), ?_⟩
    -- pen[2] > 0
    refine ⟨_, rfl, p, _, 2, _, rfl, rfl, SqL.of hp, rfl, great, 0, rfl, rfl, _, rfl, ?_⟩
    refine ite2 (fun e => ?_) (fun e => ?_)
    · refine ⟨_, rfl, p, _, 2, _, rfl, rfl, SqL.of hp, rfl, .inl ⟨_, rfl, _, rfl, _, _, rfl, rfl, m0, ?_⟩⟩
      refine ⟨_, rfl, p, _, 2, _, rfl, rfl, SqL.of hp, rfl, .inl ⟨_, rfl, _, rfl, _, _, rfl, rfl, ⟨m0, by omega⟩, _, rfl, p, _, 2, 2, rfl, rfl, hp, rfl, ?_⟩⟩
      refine ⟨_, rfl, q _ _ (Int.emod_nonneg _ (by omega)) (Int.emod_lt_of_pos _ m0) ⟨⟨spot, great / many, upd_same, hs0, by omega, Int.ediv_nonneg hg (by omega)⟩, by rw [upd_ne hne]; exact hl, hne, hsh⟩ Fr.at⟩
    -- spot = pen[1]; pen[1] = spot + 1; cell = ..
    refine ⟨_, rfl, p, _, 1, _, rfl, rfl, SqL.of hp, rfl, ?_⟩
    refine ⟨_, rfl, _, _, rfl, rfl, _, rfl, p, _, 1, 1, rfl, rfl, hp, rfl, ?_⟩
    refine ⟨_, rfl, _, _, rfl, rfl, .inl ⟨by decide, by decide⟩, _, _, rfl, rfl, ?_⟩
    have hp1 : upd H p (.lst [.ref l, .int (spot + 1), .int great]) p = some (.lst [.ref l, .int (spot + 1), .int great]) := upd_same
    have hl1 : upd H p (.lst [.ref l, .int (spot + 1), .int great]) l = some (.lst (ns.map V.int)) := by rw [upd_ne hne]; exact hl
    dsimp only [List.set_cons_succ, List.set_cons_zero]
    -- pen[0] != []
    refine ⟨_, rfl, p, _, 0, _, rfl, rfl, SqL.of hp1, rfl, Nat.zero_le _, fun o no => ?_⟩
    have hpo : p ≠ o := ne_of_none hp1 no
    have hlo : l ≠ o := ne_of_none hl1 no
    have hp2 : upd (upd H p (.lst [.ref l, .int (spot + 1), .int great])) o (.lst []) p = some (.lst [.ref l, .int (spot + 1), .int great]) := by rw [upd_ne hpo]; exact hp1
    have hl2 : upd (upd H p (.lst [.ref l, .int (spot + 1), .int great])) o (.lst []) l = some (.lst (ns.map V.int)) := by rw [upd_ne hlo]; exact hl1
    have fr2 : Fr p H (upd (upd H p (.lst [.ref l, .int (spot + 1), .int great])) o (.lst [])) := Fr.at.trans (Fr.new no)
    refine ⟨_, _, .lst (SqL.of hl2) (dp_ints ns), .lst (SqL.of upd_same) .nil, shaped_ints ns, by decide, _, rfl, ?_⟩
    generalize upd (upd H p (.lst [.ref l, .int (spot + 1), .int great])) o (.lst []) = H2 at hp2 hl2 fr2 ⊢
    refine ite2 (fun e => ?g1) (fun e => ?g2)
    case' g1 =>
      have hns : 0 < ns.length := by
        cases ns with
        | nil => simp [dInts, PyData.eqv, PyData.eqvAll] at e
        | cons a r => simp
      have hpos : (0 : Int) < ((ns.map V.int).length : Int) := by rw [List.length_map]; omega
      obtain ⟨z, hz⟩ := ints_at (ns := ns) (i := spot % ((ns.map V.int).length : Int)) (Int.emod_nonneg _ (by omega)) (by
        have := Int.emod_lt_of_pos spot hpos
        rw [List.length_map] at this ⊢
        exact this)
      refine ⟨_, rfl, p, _, 0, _, rfl, rfl, SqL.of hp2, rfl, _, rfl, .inl ⟨_, rfl, _, rfl, p, _, 0, _, rfl, rfl, SqL.of hp2, rfl, l, _, rfl, .inl (SqL.of hl2), _, _, rfl, rfl, hpos, l, _, _, _, rfl, rfl, SqL.of hl2, hz, ?_⟩⟩
      generalize z = c
      refine ⟨_, rfl, _, rfl, p, _, 0, _, rfl, rfl, SqL.of hp2, rfl, l, _, rfl, .inl (SqL.of hl2), _, _, rfl, rfl, _, rfl, ?_⟩
      refine ite2 (fun e1 => ?a3) (fun e1 => ?a4)
      case' a3 =>
        refine ⟨_, rfl, _, rfl, _, _, rfl, rfl, ⟨by decide, by decide, by decide⟩, _, _, rfl, rfl, _, rfl, ?_⟩
        refine ite2 (fun e2 => ?a5) (fun e2 => ?a6)
        case' a5 =>
          have hge := of_decide_eq_true e2
          refine ⟨_, rfl, _, rfl, _, _, rfl, rfl, ⟨by decide, by decide, by decide⟩, _, _, rfl, rfl, _, _, rfl, rfl, .inl ⟨by decide, by decide⟩, _, rfl, _, _, rfl, rfl, .inr ⟨_, rfl, _, _, rfl, rfl, ?_⟩⟩
          have hG : 0 ≤ 2 * ((if c < 0 then -c else c) - 10 ^ (18 : Int).toNat) + (if decide (c < 0) = true then 1 else 0) := by
            have h1 : (10 : Int) ^ (18 : Int).toNat ≤ (if c < 0 then -c else c) := hge
            have h2 : (0 : Int) ≤ (if decide (c < 0) = true then 1 else 0) := by split <;> decide
            omega
          refine ⟨_, rfl, .inl ⟨_, rfl, _, rfl, _, _, rfl, rfl, ⟨m0, by omega⟩, _, rfl, p, _, 2, 2, rfl, rfl, hp2, rfl, ?_⟩⟩
          refine ⟨_, rfl, .inl ⟨_, rfl, _, rfl, _, _, rfl, rfl, m0, ?_⟩⟩
          exact q _ _ (Int.emod_nonneg _ (by omega)) (Int.emod_lt_of_pos _ m0) ⟨⟨spot + 1, _, upd_same, by omega, by omega, Int.ediv_nonneg hG (by omega)⟩, by rw [upd_ne hne]; exact hl2, hne, hsh⟩ (fr2.trans Fr.at)
      case' a4 => refine iteF ?_
    case' g2 =>
      generalize 80063 * spot + 719 = c
      refine ⟨_, rfl, _, rfl, p, _, 0, _, rfl, rfl, SqL.of hp2, rfl, l, _, rfl, .inl (SqL.of hl2), _, _, rfl, rfl, _, rfl, ?_⟩
      refine ite2 (fun e1 => ?b3) (fun e1 => ?b4)
      case' b3 =>
        refine ⟨_, rfl, _, rfl, _, _, rfl, rfl, ⟨by decide, by decide, by decide⟩, _, _, rfl, rfl, _, rfl, ?_⟩
        refine ite2 (fun e2 => ?b5) (fun e2 => ?b6)
        case' b5 =>
          have hge := of_decide_eq_true e2
          refine ⟨_, rfl, _, rfl, _, _, rfl, rfl, ⟨by decide, by decide, by decide⟩, _, _, rfl, rfl, _, _, rfl, rfl, .inl ⟨by decide, by decide⟩, _, rfl, _, _, rfl, rfl, .inr ⟨_, rfl, _, _, rfl, rfl, ?_⟩⟩
          have hG : 0 ≤ 2 * ((if c < 0 then -c else c) - 10 ^ (18 : Int).toNat) + (if decide (c < 0) = true then 1 else 0) := by
            have h1 : (10 : Int) ^ (18 : Int).toNat ≤ (if c < 0 then -c else c) := hge
            have h2 : (0 : Int) ≤ (if decide (c < 0) = true then 1 else 0) := by split <;> decide
            omega
          refine ⟨_, rfl, .inl ⟨_, rfl, _, rfl, _, _, rfl, rfl, ⟨m0, by omega⟩, _, rfl, p, _, 2, 2, rfl, rfl, hp2, rfl, ?_⟩⟩
          refine ⟨_, rfl, .inl ⟨_, rfl, _, rfl, _, _, rfl, rfl, m0, ?_⟩⟩
          exact q _ _ (Int.emod_nonneg _ (by omega)) (Int.emod_lt_of_pos _ m0) ⟨⟨spot + 1, _, upd_same, by omega, by omega, Int.ediv_nonneg hG (by omega)⟩, by rw [upd_ne hne]; exact hl2, hne, hsh⟩ (fr2.trans Fr.at)
      case' b4 => refine iteF ?_
    all_goals
      have b0 := Int.emod_nonneg c (show (2147479897 : Int) ≠ 0 by decide)
      have b1 := Int.emod_lt_of_pos c (show (0 : Int) < 2147479897 by decide)
      refine ⟨_, rfl, .inl ⟨_, rfl, _, _, rfl, rfl, (show (0 : Int) < 2147479897 by decide), _, rfl, _, _, rfl, rfl, .inl ⟨by decide, by decide⟩, _, _, rfl, rfl, _, _, rfl, rfl, _, _, rfl, rfl, ⟨by decide, by decide, by omega⟩, .inl ⟨_, rfl, _, _, rfl, rfl, (show (0 : Int) < 2147469917 by decide), ?_⟩⟩⟩
      have s0 : 0 ≤ ((c % 2147479897 + 71077 * spot + 325) ^ (5 : Int).toNat) % 2147469917 := Int.emod_nonneg _ (by decide)
      have s1 : ((c % 2147479897 + 71077 * spot + 325) ^ (5 : Int).toNat) % 2147469917 < 2147469917 := Int.emod_lt_of_pos _ (by decide)
      have hsp : spot ≤ 1000000 := by omega
      refine ⟨_, rfl, _, rfl, _, _, rfl, rfl, .inl ⟨by decide, by decide⟩, _, _, rfl, rfl, _, _, rfl, rfl, .inl ⟨by omega, by omega⟩, _, rfl, _, _, rfl, rfl, .inl ⟨by decide, by decide⟩, _, rfl, _, _, rfl, rfl, .inl ⟨by omega, by omega⟩, _, _, rfl, rfl, _, _, rfl, rfl, _, _, rfl, rfl, ⟨by decide, by decide, pw2 s0 s1 hs0 hsp⟩, .inl ⟨_, rfl, _, _, rfl, rfl, (show (0 : Int) < 2147459969 by decide), ?_⟩⟩
      refine ⟨_, rfl, _, _, rfl, rfl, ⟨by decide, by decide⟩, .inl ⟨_, rfl, _, rfl, _, _, rfl, rfl, m0, ?_⟩⟩
      exact q _ _ (Int.emod_nonneg _ (by omega)) (Int.emod_lt_of_pos _ m0) ⟨⟨spot + 1, great, hp2, by omega, by omega, hg⟩, hl2, hne, hsh⟩ fr2
end
end V8

set_option Elab.async false
set_option linter.all false
set_option maxRecDepth 100000
set_option maxHeartbeats 4000000
/-! What the law draws: a pick, letters, images, tables. -/
namespace V8
open PySem PySem.Spec PyProof.Rows L2
/-- the text of one sign; of several -/
def L1 (c : Nat) : Str := ⟨#[c]⟩
def Sx (cs : List Nat) : Str := ⟨cs.toArray⟩
theorem L1_Sx (c : Nat) : L1 c = Sx [c] := rfl
theorem L1_inj {a b : Nat} (h : L1 a = L1 b) : a = b := by
  have h1 : (#[a] : Array Nat) = #[b] := congrArg Str.cps h
  simpa using h1
theorem Sx_inj {a b : List Nat} (h : Sx a = Sx b) : a = b := by
  have h1 : a.toArray = b.toArray := congrArg Str.cps h
  simpa using h1
def isLt (c : Nat) : Prop := 97 ≤ c ∧ c ≤ 122
instance (c : Nat) : Decidable (isLt c) := inferInstanceAs (Decidable (97 ≤ c ∧ c ≤ 122))
def lets (cs : List Nat) : List V := cs.map fun c => V.str (L1 c)
theorem lets_len (cs : List Nat) : (lets cs).length = cs.length := List.length_map ..
theorem lets_erase (cs : List Nat) (k : Nat) : (lets cs).eraseIdx k = lets (cs.eraseIdx k) := by
  unfold lets
  rw [List.eraseIdx_eq_take_drop_succ, List.eraseIdx_eq_take_drop_succ, List.map_append, List.map_take, List.map_drop]
theorem lets_snoc (cs : List Nat) (c : Nat) : lets (cs ++ [c]) = lets cs ++ [V.str (L1 c)] := by
  unfold lets
  rw [List.map_append]
  rfl
/-- a thing that is new, as seen from the start, is written -/
theorem Fr.put {p a : Addr} {o : HO} {H H1 : Hp} (f : Fr p H H1) (hn : H a = none) : Fr p H (upd H1 a o) := fun b u e n => by
  rw [upd_ne (ne_of_none e hn)]
  exact f b u e n
theorem lets_mem {cs : List Nat} {v : V} (h : v ∈ lets cs) : ∃ c ∈ cs, v = .str (L1 c) := by
  obtain ⟨c, hc, e⟩ := List.mem_map.mp h
  exact ⟨c, hc, e.symm⟩
/-- a to z -/
def abc : List Nat := (List.range 26).map (· + 97)
theorem abc_len : abc.length = 26 := by decide
theorem abc_nd : abc.Nodup := by decide
theorem abc_mem {c : Nat} : c ∈ abc ↔ isLt c := by
  unfold abc isLt
  rw [List.mem_map]
  constructor
  · rintro ⟨a, ha, rfl⟩
    have := List.mem_range.mp ha
    omega
  · rintro ⟨h1, h2⟩
    exact ⟨c - 97, List.mem_range.mpr (by omega), by omega⟩
def abcS : Str := "abcdefghijklmnopqrstuvwxyz"
theorem abcS_cps : abcS.cps.toList = abc := by decide +kernel
abbrev s_some_letters : Stmt := topS 38
abbrev n_some_letters : List Str := ["_law_pen_here", "_law_many", "_law_pool", "_law_k"]
theorem sc_some_letters : FnScope ["_law_pen_here", "_law_many", "_law_pool", "_law_k"] ["_law_pen_here", "_law_many"] (defScope s_some_letters) := ⟨rfl, rfl, rfl, by decide +kernel, rfl, by decide +kernel, by decide +kernel⟩

def spPick (K : PySem.W.Frag) : Sp := fun vs H Q _ => ∃ (p l a : Addr) (ns : List Int) (n : Nat) (xs : List V), vs = [.ref p, .ref a] ∧ PenAt H p l ns (n + 1) ∧ SqL K H a xs ∧ 0 < xs.length ∧ xs.length < 1000 ∧
  (∀ H', Fr p H H' → SqL K H' a xs) ∧ ∀ (v : V) (H' : Hp), v ∈ xs → PenAt H' p l ns n → Fr p H H' → Q v H'
theorem SqL.fr {K : PySem.W.Frag} {H H' : Hp} {p a : Addr} {xs : List V} (h : SqL K H a xs) (f : Fr p H H') (ne : a ≠ p) : SqL K H' a xs :=
  h.elim (fun h => .inl (h.elim (fun h => .inl (f _ _ h ne)) fun ⟨o, h⟩ => .inr ⟨o, f _ _ h ne⟩)) fun h => .inr h
def spLetters : Sp := fun vs H Q _ => ∃ (p l : Addr) (ns : List Int) (n : Nat) (many : Nat), vs = [.ref p, .int many] ∧ PenAt H p l ns (n + many) ∧ many ≤ 26 ∧
  ∀ (D : Addr) (cs : List Nat) (H' : Hp), cs.length = many → cs.Nodup → (∀ c ∈ cs, isLt c) → PenAt H' p l ns n → Fr p H H' → H D = none → H' D = some (.lst (lets cs)) → Q (.ref D) H'
section
variable {P : Program} {w : World} {K : PySem.W.Frag} {mg : Str → Option Value} {base : Heap}
theorem ok_pick {f : Addr} {fd : FuncData} (F : Fun K "_law_pick" "_law_pick" s_pick f fd) (T : Blt mg) (D_draw : Df P w K mg base 1 "_law_draw" spDraw) : FnOk P w K mg base CX0 2 f fd ["_law_pen_here", "_law_some"] (spPick K) := by
  refine F.ok sc_pick (fun vs H Q E h => ?_) (fun cdv A outer s H vs Q E hr h => ?_)
  · obtain ⟨p, l, a, ns, n, xs, rfl, _⟩ := h
    rfl
  · obtain ⟨p, l, a, ns, n, xs, rfl, PA, hS, h0, h1, st, q⟩ := h
    refine ⟨_, (pss_one (ps_ret (pe_ix (ix_listK (K := K) rfl) (pv 1) (pe_c D_draw hr (by decide) (by rfl) (pa_cons (pv 0) (pa_cons (pe_callB (call_len_seqK (K := K) rfl) (by rfl) T.len (by decide +kernel) (pa_cons (pv 1) pa_nil)) pa_nil))) (fun _ _ => rfl)))), ?_⟩
    refine ⟨.ref a, rfl, .ref p, rfl, .ref a, rfl, a, xs, rfl, .inl hS, p, l, ns, n, _, rfl, PA, by omega, by omega, fun v H' v0 v1 PA' fr => ?_⟩
    obtain ⟨j, rfl⟩ : ∃ j : Nat, v = j := ⟨v.toNat, by omega⟩
    have hj : j < xs.length := by omega
    exact ⟨a, xs, j, xs[j], rfl, rfl, st H' fr, atI_nat (List.getElem?_eq_getElem hj), q _ _ (List.getElem_mem hj) PA' fr⟩
theorem perm_erase {got rest : List Nat} {k : Nat} {y : Nat} (hp : (got ++ rest).Perm abc) (hy : rest[k]? = some y) : ((got ++ [y]) ++ rest.eraseIdx k).Perm abc := by
  refine List.Perm.trans ?_ hp
  rw [List.append_assoc]
  refine List.Perm.append_left got ?_
  show (y :: rest.eraseIdx k).Perm rest
  obtain ⟨hk, e⟩ := List.getElem?_eq_some_iff.mp hy
  rw [List.eraseIdx_eq_take_drop_succ]
  have h2 : rest = rest.take k ++ (y :: rest.drop (k + 1)) := by
    rw [← e, ← List.drop_eq_getElem_cons hk, List.take_append_drop]
  exact (List.perm_middle.symm).trans (List.Perm.of_eq h2.symm)
theorem ok_some_letters {f : Addr} {fd : FuncData} (F : Fun K "_law_some_letters" "_law_some_letters" s_some_letters f fd) (T : Blt mg) (D_draw : Df P w K mg base 1 "_law_draw" spDraw) : FnOk P w K mg base CX0 2 f fd ["_law_pen_here", "_law_many"] spLetters := by
  refine F.ok sc_some_letters (fun vs H Q E h => ?_) (fun cdv A outer s H vs Q E hr h => ?_)
  · obtain ⟨p, l, ns, n, many, rfl, _⟩ := h
    rfl
  · obtain ⟨p, l, ns, n, many, rfl, PA, hm, q⟩ := h
    refine ⟨_, (pss_cons (ps_set (i := 2) sc_some_letters.nd rfl (.inr rfl) (pe_callTy (call_listS rfl) (by rfl) T.list (by decide +kernel) (pa_cons pe_str pa_nil)))
      (pss_one (ps_ret (pe_lc (own := [("_law_k", 3)]) (g := gName 3) (by rfl) sc_some_letters.nd (pi_range1 (by rfl) T.range (pa_cons (pv 1) pa_nil)) (blkOk_by (own := [("_law_k", 3)]) (N := n_some_letters) (sc := defScope s_some_letters) (by decide +kernel)) (fun _ _ _ _ _ => (pg_name (i := 3) sc_some_letters.nd rfl (.inl rfl))) (fun _ _ _ _ _ => pts_nil) (fun _ _ _ _ _ => (pe_bmK (K := K) rfl PySem.F.plainAttrs_list PySem.F.slot_list_pop PySem.F.type_list_pop mt_popAt (pv 2) (pa_cons (pe_c D_draw hr (by decide) (by rfl) (pa_cons (pv 0) (pa_cons (pe_callB (call_len_seqK (K := K) rfl) (by rfl) T.len (by decide +kernel) (pa_cons (pv 2) pa_nil)) pa_nil))) pa_nil))))))), ?_⟩
    refine ⟨_, rfl, by decide, fun a na => ?_⟩
    have ePool : (List.map (fun c => V.str ⟨#[c]⟩) (Str.ofString "abcdefghijklmnopqrstuvwxyz").cps.toList) = lets abc := by
      show List.map (fun c => V.str (L1 c)) abcS.cps.toList = lets abc
      rw [abcS_cps]
      rfl
    rw [ePool]
    have PA1 := PA.new (o := .lst (lets abc)) na
    have hap : p ≠ a := by
      obtain ⟨⟨sp, g, h1, _⟩, _⟩ := PA
      exact ne_of_none h1 na
    have hla : l ≠ a := ne_of_none PA.nums na
    refine ⟨_, rfl, many, rfl, by omega, by omega, fun D nD => lc_range (lo := 0) (n := many) (fun i H2 => ∃ got rest : List Nat, (got ++ rest).Perm abc ∧ got.length = i ∧ H2 D = some (.lst (lets got)) ∧ H2 a = some (.lst (lets rest)) ∧ PenAt H2 p l ns (n + (many - i)) ∧ Fr p H H2) ?_ ?_ ?_⟩
    · have hDa : a ≠ D := ne_of_none upd_same nD
      refine ⟨[], abc, List.Perm.refl _, rfl, upd_same, by rw [upd_ne hDa, upd_same], (PA1.new nD).less (by omega), (Fr.new na).trans (Fr.new nD)⟩
    · rintro i H2 hi ⟨got, rest, pm, hg, hD, ha, PA2, fr⟩
      have hlen : got.length + rest.length = 26 := by
        have := pm.length_eq
        rw [List.length_append, abc_len] at this
        exact this
      have hDa : D ≠ a := by
        intro e
        subst e
        rw [upd_same] at nD
        cases nD
      have nDH : H D = none := by
        cases e : H D with
        | none => rfl
        | some o =>
          rw [upd_ne (ne_of_none e na), e] at nD
          cases nD
      have hDp : D ≠ p := by
        intro e
        subst e
        obtain ⟨⟨sp, g, h1, _⟩, _⟩ := PA1
        rw [h1] at nD
        cases nD
      have hDl : D ≠ l := by
        intro e
        subst e
        rw [PA1.nums] at nD
        cases nD
      have hr0 : 0 < (lets rest).length := by rw [lets_len]; omega
      refine ⟨rfl, ⟨_, rfl, .inl ⟨rfl, _, SqL.of ha⟩, _, rfl, _, rfl, a, _, rfl, .inl (SqL.of ha), p, l, ns, n + (many - (i + 1)), _, rfl, PA2.less (by omega), by omega, by rw [lets_len]; omega, fun v H3 v0 v1 PA3 fr3 => ?_⟩⟩
      obtain ⟨j, rfl⟩ : ∃ j : Nat, v = j := ⟨v.toNat, by omega⟩
      have hj : j < rest.length := by rw [lets_len] at v1; omega
      have hx : (lets rest)[j]? = some (.str (L1 rest[j])) := by
        unfold lets
        rw [List.getElem?_map, List.getElem?_eq_getElem hj]
        rfl
      have ha3 : H3 a = some (.lst (lets rest)) := fr3 _ _ ha (Ne.symm hap)
      have hD3 : H3 D = some (.lst (lets got)) := fr3 _ _ hD hDp
      have hk : seqIndex? (j : Int) (lets rest).length = some j := by
        unfold seqIndex?
        rw [lets_len]
        simp
        omega
      refine ⟨a, _, _, j, _, rfl, rfl, ha3, by omega, by omega, hk, hx, lets got, by rw [upd_ne hDa]; exact hD3, by rw [lets_len]; exact small1000 (by omega), got ++ [rest[j]], rest.eraseIdx j, perm_erase pm (List.getElem?_eq_getElem hj), by simp [hg], ?_, ?_, ?_, ?_⟩
      · rw [upd_same]
        unfold lets
        rw [List.map_append]
        rfl
      · rw [upd_ne (Ne.symm hDa), upd_same]
        rw [lets_erase]
      · exact (PA3.other (Ne.symm hap) (Ne.symm hla)).other hDp hDl
      · exact ((fr.trans fr3).put na).put nDH
    · rintro H2 ⟨got, rest, pm, hg, hD, ha, PA2, fr⟩
      have hnd : (got ++ rest).Nodup := pm.nodup_iff.mpr abc_nd
      have nD' : H D = none := by
        cases e : H D with
        | none => rfl
        | some o =>
          rw [upd_ne (ne_of_none e na), e] at nD
          cases nD
      refine q D got H2 hg (List.nodup_append.mp hnd).1 (fun c hc => abc_mem.mp (pm.mem_iff.mp (List.mem_append_left _ hc))) (PA2.less (by omega)) fr nD' hD
end
end V8

set_option Elab.async false
set_option linter.all false
set_option maxRecDepth 100000
set_option maxHeartbeats 4000000
/-! Tables of letters and images, as the law draws them. -/
namespace V8
open PySem PySem.Spec PyProof.Rows L2
abbrev Tab := List (Nat × List Nat)
def encT (t : Tab) : List (Key × V) := t.map fun q => (Sum.inr (L1 q.1), V.str (Sx q.2))
def lookT (t : Tab) (c : Nat) : Option (List Nat) := (t.find? fun q => decide (q.1 = c)).map (·.2)
def putT (t : Tab) (c : Nat) (s : List Nat) : Tab := if (t.any fun q => decide (q.1 = c)) = true then t.map (fun q => if q.1 = c then (q.1, s) else q) else t ++ [(c, s)]
theorem encT_len (t : Tab) : (encT t).length = t.length := List.length_map ..
theorem key_dec (a c : Nat) : decide ((Sum.inr (L1 a) : Key) = Sum.inr (L1 c)) = decide (a = c) := by
  by_cases h : a = c
  · subst h
    simp
  · rw [decide_eq_false h, decide_eq_false]
    intro e
    exact h (L1_inj (Sum.inr.inj e))
theorem key_iff (a c : Nat) : ((Sum.inr (L1 a) : Key) = Sum.inr (L1 c)) ↔ a = c := by
  have := key_dec a c
  constructor
  · intro e
    exact L1_inj (Sum.inr.inj e)
  · intro e
    rw [e]
theorem valV_enc (c : Nat) : ∀ t : Tab, valV (encT t) (Sum.inr (L1 c)) = (lookT t c).map fun s => V.str (Sx s)
  | [] => rfl
  | q :: t => by
    have ih := valV_enc c t
    by_cases h : q.1 = c
    · subst h
      show valV ((Sum.inr (L1 q.1), V.str (Sx q.2)) :: encT t) _ = _
      rw [valV_pos rfl]
      simp [lookT]
    · show valV ((Sum.inr (L1 q.1), V.str (Sx q.2)) :: encT t) _ = _
      rw [valV_neg (fun e => h ((key_iff _ _).mp e)), ih]
      simp [lookT, List.find?_cons, h]
theorem any_enc (c : Nat) : ∀ t : Tab, ((encT t).any fun kv => decide (kv.1 = (Sum.inr (L1 c) : Key))) = t.any fun q => decide (q.1 = c)
  | [] => rfl
  | q :: t => by
    show (decide ((Sum.inr (L1 q.1) : Key) = Sum.inr (L1 c)) || (encT t).any _) = _
    rw [any_enc c t, key_dec]
    rfl
theorem putK_enc (t : Tab) (c : Nat) (s : List Nat) : putK (encT t) (Sum.inr (L1 c)) (V.str (Sx s)) = encT (putT t c s) := by
  unfold putK putT
  rw [any_enc]
  split
  · unfold encT
    rw [List.map_map, List.map_map]
    refine List.map_congr_left fun q _ => ?_
    show (if (Sum.inr (L1 q.1) : Key) = Sum.inr (L1 c) then _ else _) = _
    by_cases h : q.1 = c
    · rw [if_pos ((key_iff _ _).mpr h)]
      simp [h]
    · rw [if_neg (fun e => h ((key_iff _ _).mp e))]
      simp [h]
  · unfold encT
    rw [List.map_append]
    rfl
theorem keys_put {t : Tab} {c : Nat} {s : List Nat} : ∀ x ∈ putT t c s, (x ∈ t ∨ x = (c, s)) := by
  intro x hx
  unfold putT at hx
  split at hx
  · obtain ⟨q, hq, e⟩ := List.mem_map.mp hx
    by_cases h : q.1 = c
    · rw [if_pos h] at e
      rw [← e, h]
      exact .inr rfl
    · rw [if_neg h] at e
      rw [← e]
      exact .inl hq
  · rcases List.mem_append.mp hx with h | h
    · exact .inl h
    · exact .inr (List.mem_singleton.mp h)
theorem put_nd {t : Tab} {c : Nat} {s : List Nat} (h : (t.map (·.1)).Nodup) : ((putT t c s).map (·.1)).Nodup := by
  unfold putT
  split
  · rw [List.map_map]
    have e : t.map ((·.1) ∘ fun q : Nat × List Nat => if q.1 = c then (q.1, s) else q) = t.map (·.1) := List.map_congr_left fun q _ => by
      show (if q.1 = c then (q.1, s) else q).1 = q.1
      split <;> rfl
    rw [e]
    exact h
  · rename_i hn
    rw [List.map_append]
    refine List.nodup_append.mpr ⟨h, by simp, fun x hx y hy e => ?_⟩
    have ey : y = c := by simpa using hy
    obtain ⟨q, hq, eq⟩ := List.mem_map.mp hx
    refine hn (List.any_eq_true.mpr ⟨q, hq, decide_eq_true ?_⟩)
    rw [eq, e, ey]
theorem put_len (t : Tab) (c : Nat) (s : List Nat) : (putT t c s).length ≤ t.length + 1 := by
  unfold putT
  split
  · rw [List.length_map]
    omega
  · rw [List.length_append]
    exact Nat.le_refl _
/-- an image that may be told -/
def GoodI (cs s : List Nat) : Prop := 1 ≤ s.length ∧ s.length ≤ 4 ∧ ∀ d ∈ s, d ∈ cs
structure GoodT (cs : List Nat) (t : Tab) : Prop where
  nd : (t.map (·.1)).Nodup
  key : ∀ q ∈ t, q.1 ∈ cs
  img : ∀ q ∈ t, GoodI cs q.2
theorem GoodT.nil {cs : List Nat} : GoodT cs [] := by
  refine ⟨List.nodup_nil, fun q h => ?_, fun q h => ?_⟩
  · cases h
  · cases h
theorem GoodT.put {cs : List Nat} {t : Tab} {c : Nat} {s : List Nat} (g : GoodT cs t) (hc : c ∈ cs) (hs : GoodI cs s) : GoodT cs (putT t c s) := by
  refine ⟨put_nd g.nd, fun q hq => ?_, fun q hq => ?_⟩
  · rcases keys_put q hq with h | rfl
    · exact g.key q h
    · exact hc
  · rcases keys_put q hq with h | rfl
    · exact g.img q h
    · exact hs
/-- joined signs -/
theorem join_L1 : ∀ cs : List Nat, Txt.join Str.empty (cs.map L1) = Sx cs := by
  intro cs
  rw [TL.join_eq]
  have h : TL.tl (Str.join Str.empty (cs.map L1)) = cs := by
    rw [TL.tl_join]
    have : ∀ l : List Nat, TL.joinL (TL.tl Str.empty) ((l.map L1).map TL.tl) = l := by
      intro l
      induction l with
      | nil => rfl
      | cons c r ih =>
        cases r with
        | nil => rfl
        | cons d r =>
          show TL.tl (L1 c) ++ (TL.tl Str.empty ++ TL.joinL (TL.tl Str.empty) ((((d :: r).map L1).map TL.tl))) = _
          rw [ih]
          rfl
    exact this cs
  have e2 : (Str.join Str.empty (cs.map L1)).cps.toList = cs := h
  show Str.join Str.empty (cs.map L1) = Sx cs
  unfold Sx
  cases hx : Str.join Str.empty (cs.map L1) with
  | mk a =>
    rw [hx] at e2
    have : a.toList = cs := e2
    rw [← this]
theorem sum_ones : ∀ l : List Nat, (l.map fun _ => 1).sum = l.length
  | [] => rfl
  | a :: r => by
    rw [List.map_cons, List.sum_cons, sum_ones r, List.length_cons]
    omega
theorem Sx_len (cs : List Nat) : (Sx cs).length = cs.length := by
  show cs.toArray.size = cs.length
  simp
abbrev s_any_image : Stmt := topS 40
abbrev n_any_image : List Str := ["_law_pen_here", "_law_some", "_law_many", "_law_k"]
theorem sc_any_image : FnScope ["_law_pen_here", "_law_some", "_law_many", "_law_k"] ["_law_pen_here", "_law_some"] (defScope s_any_image) := ⟨rfl, rfl, rfl, by decide +kernel, rfl, by decide +kernel, by decide +kernel⟩
abbrev s_escaped : Stmt := topS 39
abbrev n_escaped : List Str := ["_law_pen_here", "_law_some", "_law_tails", "_law_found", "_law_letter", "_law_stays"]
theorem sc_escaped : FnScope ["_law_pen_here", "_law_some", "_law_tails", "_law_found", "_law_letter", "_law_stays"] ["_law_pen_here", "_law_some"] (defScope s_escaped) := ⟨rfl, rfl, rfl, by decide +kernel, rfl, by decide +kernel, by decide +kernel⟩
abbrev s_table : Stmt := topS 41
abbrev n_table : List Str := ["_law_pen_here", "_law_some", "_law_way", "_law_left", "_law_found", "_law_letter"]
theorem sc_table : FnScope ["_law_pen_here", "_law_some", "_law_way", "_law_left", "_law_found", "_law_letter"] ["_law_pen_here", "_law_some"] (defScope s_table) := ⟨rfl, rfl, rfl, by decide +kernel, rfl, by decide +kernel, by decide +kernel⟩
def spImage : Sp := fun vs H Q _ => ∃ (p l a : Addr) (ns : List Int) (n : Nat) (cs : List Nat), vs = [.ref p, .ref a] ∧ PenAt H p l ns (n + 5) ∧ H a = some (.lst (lets cs)) ∧ a ≠ p ∧ cs ≠ [] ∧ cs.length ≤ 26 ∧ (∀ c ∈ cs, isLt c) ∧
  ∀ (s : List Nat) (H' : Hp), GoodI cs s → PenAt H' p l ns n → Fr p H H' → Q (.str (Sx s)) H'
def spTab (cost : Nat) : Sp := fun vs H Q _ => ∃ (p l a : Addr) (ns : List Int) (n : Nat) (cs : List Nat), vs = [.ref p, .ref a] ∧ PenAt H p l ns (n + cost) ∧ H a = some (.lst (lets cs)) ∧ a ≠ p ∧ cs ≠ [] ∧ cs.Nodup ∧ cs.length ≤ 26 ∧ (∀ c ∈ cs, isLt c) ∧
  ∀ (d : Addr) (t : Tab) (H' : Hp), GoodT cs t → PenAt H' p l ns n → Fr p H H' → H d = none → H' d = some (.dK (encT t)) → Q (.ref d) H'
theorem Fr.back {p q : Addr} {H H1 : Hp} (f : Fr p H H1) (hn : H1 q = none) (hp : q ≠ p) : H q = none := by
  cases e : H q with
  | none => rfl
  | some o =>
    rw [f _ _ e hp] at hn
    cases hn
theorem PenAt.nep {H : Hp} {p l q : Addr} {ns : List Int} {n : Nat} (P : PenAt H p l ns n) (h : H q = none) : q ≠ p := by
  intro e
  subst e
  exact P.some' h
theorem PenAt.nel {H : Hp} {p l q : Addr} {ns : List Int} {n : Nat} (P : PenAt H p l ns n) (h : H q = none) : q ≠ l := by
  intro e
  subst e
  rw [P.nums] at h
  cases h
section
variable {P : Program} {w : World} {K : PySem.W.Frag} {mg : Str → Option Value} {base : Heap}
theorem ok_any_image {f : Addr} {fd : FuncData} (F : Fun K "_law_any_image" "_law_any_image" s_any_image f fd) (T : Blt mg) (D_pick : Df P w K mg base 2 "_law_pick" (spPick K)) : FnOk P w K mg base CX0 3 f fd ["_law_pen_here", "_law_some"] spImage := by
  refine F.ok sc_any_image (fun vs H Q E h => ?_) (fun cdv A outer s H vs Q E hr h => ?_)
  · obtain ⟨p, l, a, ns, n, cs, rfl, _⟩ := h
    rfl
  · obtain ⟨p, l, a, ns, n, cs, rfl, PA, ha, hap, hne, h26, hlt, q⟩ := h
    refine ⟨_, (pss_cons (ps_set (i := 2) sc_any_image.nd rfl (.inl rfl) (pe_c D_pick hr (by decide) (by rfl) (pa_cons (pv 0) (pa_cons (pe_lst (pa_cons pe_int (pa_cons pe_int (pa_cons pe_int (pa_cons pe_int (pa_cons pe_int (pa_cons pe_int pa_nil))))))) pa_nil))))
      (pss_one (ps_ret (pe_joinK (K := K) rfl pe_str (pe_lc (own := [("_law_k", 3)]) (g := gName 3) (by rfl) sc_any_image.nd (pi_range1 (by rfl) T.range (pa_cons (pv 2) pa_nil)) (blkOk_by (own := [("_law_k", 3)]) (N := n_any_image) (sc := defScope s_any_image) (by decide +kernel)) (fun _ _ _ _ _ => (pg_name (i := 3) sc_any_image.nd rfl (.inl rfl))) (fun _ _ _ _ _ => pts_nil) (fun _ _ _ _ _ => (pe_c D_pick hr (by decide) (by rfl) (pa_cons (pv 0) (pa_cons (pv 1) pa_nil))))))))), ?_⟩
    have hcs : 0 < cs.length := List.length_pos_iff.mpr hne
    -- pick(pen, [1, 1, 2, 2, 3, 4])
    refine ⟨.ref p, rfl, by decide, fun b nb => ?_⟩
    have hbp := PA.nep nb
    refine ⟨p, l, b, ns, n + 4, [.int 1, .int 1, .int 2, .int 2, .int 3, .int 4], rfl, PA.new nb, SqL.of upd_same, by decide, by decide, fun H' fr => SqL.of (fr _ _ upd_same hbp), fun v H1 hv PA1 fr1 => ?_⟩
    obtain ⟨k, rfl, k1, k4⟩ : ∃ k : Nat, v = .int k ∧ 1 ≤ k ∧ k ≤ 4 := by
      simp at hv
      rcases hv with rfl | rfl | rfl | rfl
      · exact ⟨1, rfl, by omega, by omega⟩
      · exact ⟨2, rfl, by omega, by omega⟩
      · exact ⟨3, rfl, by omega, by omega⟩
      · exact ⟨4, rfl, by omega, by omega⟩
    have fr01 : Fr p H H1 := (Fr.new nb).trans fr1
    -- ''.join([..])
    refine ⟨⟨_, rfl⟩, _, rfl, k, rfl, by omega, by omega, fun D nD => lc_range (lo := 0) (n := k) (fun i H2 => ∃ got : List Nat, got.length = i ∧ (∀ d ∈ got, d ∈ cs) ∧ H2 D = some (.lst (lets got)) ∧ PenAt H2 p l ns (n + (4 - i)) ∧ Fr p H H2) ?_ ?_ ?_⟩
    · exact ⟨[], rfl, fun d h => (by cases h), upd_same, (PA1.new nD).less (by omega), fr01.trans (Fr.new nD)⟩
    · rintro i H2 hi ⟨got, hg, hin, hD, PA2, fr2⟩
      have hDp := PA1.nep nD
      have ha2 := fr2 _ _ ha hap
      refine ⟨rfl, ⟨_, rfl, _, rfl, p, l, a, ns, n + (4 - (i + 1)), lets cs, rfl, PA2.less (by omega), SqL.of ha2, by rw [lets_len]; omega, by rw [lets_len]; omega, fun H' fr => SqL.of (fr _ _ ha2 hap), fun v H3 hv PA3 fr3 => ?_⟩⟩
      obtain ⟨c, hc, rfl⟩ := lets_mem hv
      have hD3 := fr3 _ _ hD hDp
      refine ⟨lets got, hD3, by rw [lets_len]; exact small1000 (by omega), got ++ [c], by simp [hg], ?_, by rw [upd_same, lets_snoc], PA3.other hDp (PA1.nel nD), (fr2.trans fr3).put (fr01.back nD hDp)⟩
      intro d hd
      rcases List.mem_append.mp hd with h | h
      · exact hin d h
      · rw [List.mem_singleton.mp h]
        exact hc
    · rintro H2 ⟨got, hg, hin, hD, PA2, fr2⟩
      refine ⟨Str.empty, D, got.map L1, rfl, rfl, .inl (by rw [List.map_map]; exact SqL.of hD), ?_, ?_⟩
      · have e : (got.map L1).map (·.length) = got.map fun _ => 1 := by
          rw [List.map_map]
          rfl
        rw [e, List.length_map]
        rw [sum_ones]
        show got.length + got.length * 0 ≤ _
        omega
      · rw [join_L1]
        exact q got H2 ⟨by omega, by omega, hin⟩ (PA2.less (by omega)) fr2
end
end V8

set_option Elab.async false
set_option linter.all false
set_option maxRecDepth 100000
set_option maxHeartbeats 4000000
namespace V8
open PySem PySem.Spec PyProof.Rows L2
theorem app_Sx (a : Nat) (s : List Nat) : L1 a ++ Sx s = Sx (a :: s) := by
  show Str.append _ _ = _
  unfold Sx L1
  show (⟨#[a] ++ s.toArray⟩ : Str) = ⟨(a :: s).toArray⟩
  congr 1
  simp
section
variable {P : Program} {w : World} {K : PySem.W.Frag} {mg : Str → Option Value} {base : Heap}
theorem lets_get {cs : List Nat} {i : Nat} {x : V} (h : (lets cs)[i]? = some x) : ∃ hi : i < cs.length, x = .str (L1 cs[i]) := by
  unfold lets at h
  rw [List.getElem?_map] at h
  cases e : cs[i]? with
  | none =>
    rw [e] at h
    cases h
  | some c =>
    obtain ⟨hi, ec⟩ := List.getElem?_eq_some_iff.mp e
    rw [e] at h
    exact ⟨hi, by rw [ec]; exact (Option.some.inj h).symm⟩
theorem lets_at {cs : List Nat} {j : Nat} (hj : j < cs.length) : (lets cs)[j]? = some (.str (L1 cs[j])) := by
  unfold lets
  rw [List.getElem?_map, List.getElem?_eq_getElem hj]
  rfl
theorem seq_ix {j n : Nat} (h : j < n) : seqIndex? (j : Int) n = some j := by
  unfold seqIndex?
  simp
  omega
theorem erase_len {xs : List Nat} {k : Nat} (h : k < xs.length) : (xs.eraseIdx k).length = xs.length - 1 := List.length_eraseIdx_of_lt h
theorem goodI1 {cs : List Nat} {a : Nat} (h : a ∈ cs) : GoodI cs [a] := ⟨Nat.le_refl _, by show 1 ≤ 4; decide, fun x hx => by rw [List.mem_singleton.mp hx]; exact h⟩
theorem goodI2 {cs : List Nat} {a b : Nat} (h : a ∈ cs) (h' : b ∈ cs) : GoodI cs [a, b] := by
  refine ⟨by show 1 ≤ 2; decide, by show 2 ≤ 4; decide, fun x hx => ?_⟩
  rcases List.mem_cons.mp hx with e | hx
  · rw [e]
    exact h
  · rw [List.mem_singleton.mp hx]
    exact h'
theorem ok_escaped {f : Addr} {fd : FuncData} (F : Fun K "_law_escaped" "_law_escaped" s_escaped f fd) (T : Blt mg) (D_draw : Df P w K mg base 1 "_law_draw" spDraw) : FnOk P w K mg base CX0 2 f fd ["_law_pen_here", "_law_some"] (spTab 52) := by
  refine F.ok sc_escaped (fun vs H Q E h => ?_) (fun cdv A outer s H vs Q E hr h => ?_)
  · obtain ⟨p, l, a, ns, n, cs, rfl, _⟩ := h
    rfl
  · obtain ⟨p, l, a, ns, n, cs, rfl, PA, ha, hap, hne, hnd, h26, hlt, q⟩ := h
    refine ⟨_, (pss_cons (ps_par (i := 2) (j := 3) (by rfl) sc_escaped.nd rfl rfl (by decide) rfl rfl (pa_cons (pe_callTy (call_list_ofK (K := K) rfl) (by rfl) T.list (by decide +kernel) (pa_cons (pv 1) pa_nil)) (pa_cons pe_dnewK pa_nil)) (by rfl))
      (pss_cons (ps_for PassesOwn.never rfl (pi_list (pv 1)) (pg_name (i := 4) sc_escaped.nd rfl (.inl rfl))
        (pss_cons (ps_set (i := 5) sc_escaped.nd rfl (.inl rfl) (pe_and (pe_cmpR op_ne (pv 4) (pe_ix (ix_listK (K := K) rfl) (pv 1) pe_int (fun _ _ => rfl)) (nomark _)) (pe_one (pe_cmpR op_eq (pe_c D_draw hr (by decide) (by rfl) (pa_cons (pv 0) (pa_cons pe_int pa_nil))) pe_int (nomark _)))))
        (pss_one (ps_dput (hu_of hr) (pv 3) (pv 4) (pe_ifExp (pt_val (pv 5)) (pv 4) (pe_op op_add_str (pe_ix (ix_listK (K := K) rfl) (pv 1) pe_int (fun _ _ => rfl)) (pe_bmK (K := K) rfl PySem.F.plainAttrs_list PySem.F.slot_list_pop PySem.F.type_list_pop mt_popAt (pv 2) (pa_cons (pe_c D_draw hr (by decide) (by rfl) (pa_cons (pv 0) (pa_cons (pe_callB (call_len_seqK (K := K) rfl) (by rfl) T.len (by decide +kernel) (pa_cons (pv 2) pa_nil)) pa_nil))) pa_nil)))) rfl))))
      (pss_one (ps_ret (pv 3))))), ?_⟩
    have hcs : 0 < cs.length := List.length_pos_iff.mpr hne
    -- tails, found = list(some), {}
    refine ⟨.ref a, rfl, a, _, rfl, .inl (SqL.of ha), fun b nb d nd => ⟨_, _, rfl, ?_⟩⟩
    have hbp := PA.nep nb
    have hbl := PA.nel nb
    have PA1 := (PA.new (o := .lst (lets cs)) nb).new (o := .dK []) nd
    have hdp := (PA.new (o := .lst (lets cs)) nb).nep nd
    have hdl := (PA.new (o := .lst (lets cs)) nb).nel nd
    have hbd : b ≠ d := ne_of_none upd_same nd
    have hab : a ≠ b := ne_of_none ha nb
    have ndH : H d = none := (Fr.new (p := p) nb).back nd hdp
    have had : a ≠ d := ne_of_none ha ndH
    refine ⟨_, rfl, a, rfl, ⟨_, SqL.of (by rw [upd_ne had, upd_ne hab]; exact ha)⟩, for_list (K := K) (a := a) (xs := lets cs) (fun i σ H2 => ∃ (tails : List Nat) (t : Tab) (v4 v5 : Option V), σ = [some (.ref p), some (.ref a), some (.ref b), some (.ref d), v4, v5] ∧
        H2 a = some (.lst (lets cs)) ∧ H2 b = some (.lst (lets tails)) ∧ cs.length ≤ tails.length + i ∧ tails.length ≤ 26 ∧ (∀ x ∈ tails, x ∈ cs) ∧ H2 d = some (.dK (encT t)) ∧ t.length ≤ i ∧ GoodT cs t ∧ PenAt H2 p l ns (n + 2 * (26 - i)) ∧ Fr p H H2) ?_ ?_ ?_ ?_⟩
    · exact ⟨cs, [], none, none, rfl, by rw [upd_ne had, upd_ne hab]; exact ha, by rw [upd_ne hbd, upd_same], by omega, h26, fun x h => h, upd_same, Nat.le_refl _, GoodT.nil, PA1.less (by omega), (Fr.new nb).trans (Fr.new nd)⟩
    · rintro i σ H2 hi ⟨tails, t, v4, v5, rfl, ha2, _⟩
      exact SqL.of ha2
    · rintro i x σ H2 hx ⟨tails, t, v4, v5, rfl, ha2, hb2, htl, ht6, hts, hd2, htn, G, PA2, fr2⟩
      obtain ⟨hi, rfl⟩ := lets_get hx
      -- stays = letter != some[0] and draw(pen, 2) == 0
      refine ⟨_, rfl, _, rfl, a, _, 0, _, rfl, rfl, SqL.of ha2, atI_nat (j := 0) (lets_at hcs), rfl, _, rfl, ?_⟩
      refine ite2 (fun e => ?g1) (fun e => ?g2)
      case' g1 =>
        refine ⟨_, rfl, p, l, ns, n + 2 * (26 - (i + 1)) + 1, 2, rfl, PA2.less (by omega), by decide, by decide, fun v H3 v0 v1 PA3 fr3 => ?_⟩
        refine ⟨rfl, ?_⟩
        generalize decide (V.int v = V.int 0) = bb
      case' g2 =>
        have PA3 : PenAt H2 p l ns (n + 2 * (26 - (i + 1)) + 1) := PA2.less (by omega)
        have fr3 : Fr p H2 H2 := Fr.refl
        generalize false = bb
      all_goals
        have ha3 := fr3 _ _ ha2 hap
        have hb3 := fr3 _ _ hb2 hbp
        have hd3 := fr3 _ _ hd2 hdp
        refine ⟨_, rfl, _, rfl, ?_⟩
        refine ite2 (fun e5 => ?_) (fun e5 => ?_)
        · refine ⟨_, rfl, _, rfl, _, rfl, d, _, rfl, DPut.k (k := Sum.inr (L1 cs[i])) hd3 (by rw [encT_len]; exact small1000 (by omega)), ?_⟩
          have ep : putK (encT t) (Sum.inr (L1 cs[i])) (V.str (L1 cs[i])) = encT (putT t cs[i] [cs[i]]) := putK_enc t cs[i] [cs[i]]
          rw [ep]
          have hmem : cs[i] ∈ cs := List.getElem_mem hi
          refine ⟨tails, putT t cs[i] [cs[i]], _, _, rfl, by rw [upd_ne had]; exact ha3, by rw [upd_ne hbd]; exact hb3, by omega, ht6, hts, upd_same, Nat.le_trans (put_len t _ _) (by omega), G.put hmem (goodI1 hmem), (PA3.other hdp hdl).less (by omega), (fr2.trans fr3).put ndH⟩
        · have htp : 0 < tails.length := by omega
          refine ⟨_, rfl, a, _, 0, _, rfl, rfl, SqL.of ha3, atI_nat (j := 0) (lets_at hcs), ?_⟩
          refine ⟨_, rfl, .inl ⟨rfl, _, SqL.of hb3⟩, _, rfl, _, rfl, b, _, rfl, .inl (SqL.of hb3), p, l, ns, n + 2 * (26 - (i + 1)), _, rfl, PA3, by rw [lets_len]; omega, by rw [lets_len]; omega, fun v4 H4 w0 w1 PA4 fr4 => ?_⟩
          obtain ⟨j, rfl⟩ : ∃ j : Nat, v4 = j := ⟨v4.toNat, by omega⟩
          have hj : j < tails.length := by rw [lets_len] at w1; omega
          have hb4 := fr4 _ _ hb3 hbp
          have hd4 := fr4 _ _ hd3 hdp
          have ha4 := fr4 _ _ ha3 hap
          refine ⟨b, _, _, j, _, rfl, rfl, hb4, by omega, by omega, by rw [lets_len]; exact seq_ix hj, lets_at hj, _, _, rfl, rfl, by show 1 + 1 ≤ sizeLine; decide, ?_⟩
          refine ⟨_, rfl, _, rfl, d, _, rfl, DPut.k (k := Sum.inr (L1 cs[i])) (by rw [upd_ne (Ne.symm hbd)]; exact hd4) (by rw [encT_len]; exact small1000 (by omega)), ?_⟩
          have ep : putK (encT t) (Sum.inr (L1 cs[i])) (V.str (L1 cs[0] ++ L1 tails[j])) = encT (putT t cs[i] [cs[0], tails[j]]) := by
            rw [← putK_enc]
            rfl
          rw [ep]
          have hmem : cs[i] ∈ cs := List.getElem_mem hi
          have htm : tails[j] ∈ cs := hts _ (List.getElem_mem hj)
          refine ⟨tails.eraseIdx j, putT t cs[i] [cs[0], tails[j]], _, _, rfl, by rw [upd_ne had, upd_ne hab]; exact ha4, by rw [upd_ne hbd, upd_same, lets_erase], by rw [erase_len hj]; omega, by rw [erase_len hj]; omega, fun x hx => hts x (List.mem_of_mem_eraseIdx hx), upd_same,
            Nat.le_trans (put_len t _ _) (by omega), G.put hmem (goodI2 (List.getElem_mem hcs) htm), ((PA4.other hbp hbl).other hdp hdl).less (by omega), (((fr2.trans fr3).trans fr4).put nb).put ndH⟩
    · rintro σ H2 ⟨tails, t, v4, v5, rfl, ha2, hb2, htl, ht6, hts, hd2, htn, G, PA2, fr2⟩
      exact ⟨_, rfl, q d t H2 G (PA2.less (by omega)) fr2 ndH hd2⟩
end
end V8

set_option Elab.async false
set_option linter.all false
set_option maxRecDepth 100000
set_option maxHeartbeats 8000000
namespace V8
open PySem PySem.Spec PyProof.Rows L2
theorem nd_len : ∀ {a b : List Nat}, a.Nodup → (∀ x ∈ a, x ∈ b) → a.length ≤ b.length
  | [], _, _, _ => Nat.zero_le _
  | x :: a, b, h, hs => by
    have hx : x ∈ b := hs x (List.mem_cons_self ..)
    have h1 := List.nodup_cons.mp h
    have ih := nd_len (a := a) (b := b.erase x) h1.2 fun y hy => by
      have hne : y ≠ x := fun e => h1.1 (e ▸ hy)
      exact (List.mem_erase_of_ne hne).mpr (hs y (List.mem_cons_of_mem _ hy))
    rw [List.length_erase_of_mem hx] at ih
    have : 0 < b.length := List.length_pos_of_mem hx
    rw [List.length_cons]
    omega
theorem GoodT.len {cs : List Nat} {t : Tab} (g : GoodT cs t) : t.length ≤ cs.length := by
  have := nd_len g.nd fun x hx => by
    obtain ⟨q, hq, rfl⟩ := List.mem_map.mp hx
    exact g.key q hq
  rw [List.length_map] at this
  exact this
def mergeT (a b : Tab) : Tab := b.foldl (fun acc q => putT acc q.1 q.2) a
theorem mergeK_enc : ∀ (b a : Tab), mergeK (encT a) (encT b) = encT (mergeT a b)
  | [], _ => rfl
  | q :: b, a => by
    show mergeK (putK (encT a) (Sum.inr (L1 q.1)) (V.str (Sx q.2))) (encT b) = _
    rw [putK_enc, mergeK_enc b]
    rfl
theorem GoodT.merge {cs : List Nat} : ∀ {b a : Tab}, GoodT cs a → (∀ q ∈ b, q.1 ∈ cs ∧ GoodI cs q.2) → GoodT cs (mergeT a b)
  | [], _, g, _ => g
  | q :: b, a, g, h => by
    have h1 := h q (List.mem_cons_self ..)
    exact GoodT.merge (b := b) (a := putT a q.1 q.2) (g.put h1.1 h1.2) fun x hx => h x (List.mem_cons_of_mem _ hx)
/-- tuples of a letter and its image stand at ps -/
def PairsAt (H : Hp) (ps : List Addr) (t : Tab) : Prop := Paired (fun b (q : Nat × List Nat) => H b = some (.tup [V.str (L1 q.1), V.str (Sx q.2)])) ps t
theorem PairsAt.mono {H H' : Hp} {ps : List Addr} {t : Tab} (h : PairsAt H ps t) (k : ∀ b xs, H b = some (.tup xs) → H' b = some (.tup xs)) : PairsAt H' ps t := Paired.mapP h fun _ _ e => k _ _ e
theorem PairsAt.snoc {H : Hp} : ∀ {ps : List Addr} {t : Tab} {b : Addr} {q : Nat × List Nat}, PairsAt H ps t → H b = some (.tup [V.str (L1 q.1), V.str (Sx q.2)]) → PairsAt H (ps ++ [b]) (t ++ [q])
  | _, _, _, _, .nil, e => .cons e .nil
  | _, _, _, _, .cons h r, e => .cons h (PairsAt.snoc r e)
theorem PairsAt.sq {K : PySem.W.Frag} {H : Hp} : ∀ {ps : List Addr} {t : Tab}, PairsAt H ps t → Paired (fun p (kv : Key × V) => SqT K H p [kV kv.1, kv.2]) ps (encT t)
  | _, _, .nil => .nil
  | _, _, .cons h r => .cons (.inl (.inl h)) (PairsAt.sq r)
theorem PairsAt.len {H : Hp} {ps : List Addr} {t : Tab} (h : PairsAt H ps t) : ps.length = t.length := Paired.length h
theorem tup_fr {p : Addr} {xs : List V} {H H' : Hp} (f : Fr p H H') (hp : H p = some (.lst xs)) : ∀ b ys, H b = some (.tup ys) → H' b = some (.tup ys) := fun b ys e => f b _ e (ne_of e hp (fun z => nomatch z))
theorem tup_upd {D : Addr} {xs : List V} {o : HO} {H : Hp} (hp : H D = some (.lst xs)) : ∀ b ys, H b = some (.tup ys) → upd H D o b = some (.tup ys) := fun b ys e => by
  rw [upd_ne (ne_of e hp (fun z => nomatch z))]
  exact e
theorem tup_new {q : Addr} {o : HO} {H : Hp} (hp : H q = none) : ∀ b ys, H b = some (.tup ys) → upd H q o b = some (.tup ys) := fun b ys e => by
  rw [upd_ne (ne_of_none e hp)]
  exact e
theorem PenAt.pen {H : Hp} {p l : Addr} {ns : List Int} {n : Nat} (P : PenAt H p l ns n) : ∃ xs, H p = some (.lst xs) := by
  obtain ⟨⟨s, g, h1, _⟩, _⟩ := P
  exact ⟨_, h1⟩
theorem enc_at {t : Tab} {i : Nat} {k : Key} {v : V} (h : (encT t)[i]? = some (k, v)) : ∃ hi : i < t.length, k = Sum.inr (L1 t[i].1) ∧ v = V.str (Sx t[i].2) := by
  unfold encT at h
  rw [List.getElem?_map] at h
  cases e : t[i]? with
  | none =>
    rw [e] at h
    cases h
  | some c =>
    obtain ⟨hi, ec⟩ := List.getElem?_eq_some_iff.mp e
    rw [e] at h
    have h' := Option.some.inj h
    refine ⟨hi, ?_, ?_⟩
    · rw [ec]
      exact (congrArg Prod.fst h').symm
    · rw [ec]
      exact (congrArg Prod.snd h').symm
theorem look_at : ∀ {t : Tab} {i : Nat}, (t.map (·.1)).Nodup → ∀ hi : i < t.length, lookT t t[i].1 = some t[i].2
  | [], i, _, hi => absurd hi (Nat.not_lt_zero _)
  | q :: t, 0, _, _ => by
    unfold lookT
    simp
  | q :: t, i + 1, h, hi => by
    have hi' : i < t.length := by simpa using hi
    have h1 := List.nodup_cons.mp (by simpa using h : (q.1 :: t.map (·.1)).Nodup)
    have hne : ¬ q.1 = t[i].1 := fun e => h1.1 (e ▸ List.mem_map_of_mem (List.getElem_mem hi'))
    have ih := look_at (t := t) (i := i) h1.2 hi'
    show lookT (q :: t) t[i].1 = some t[i].2
    unfold lookT at ih ⊢
    rw [List.find?_cons_of_neg (by simpa using hne)]
    exact ih
section
variable {P : Program} {w : World} {K : PySem.W.Frag} {mg : Str → Option Value} {base : Heap}
theorem ok_table {f : Addr} {fd : FuncData} (F : Fun K "_law_table" "_law_table" s_table f fd) (T : Blt mg) (D_draw : Df P w K mg base 1 "_law_draw" spDraw) (D_escaped : Df P w K mg base 2 "_law_escaped" (spTab 52)) (D_any_image : Df P w K mg base 3 "_law_any_image" spImage) : FnOk P w K mg base CX0 4 f fd ["_law_pen_here", "_law_some"] (spTab 260) := by
  refine F.ok sc_table (fun vs H Q E h => ?_) (fun cdv A outer s H vs Q E hr h => ?_)
  · obtain ⟨p, l, a, ns, n, cs, rfl, _⟩ := h
    rfl
  · obtain ⟨p, l, a, ns, n, cs, rfl, PA, ha, hap, hne, hnd, h26, hlt, q⟩ := h
    refine ⟨_, (pss_cons (ps_asg (pe_tup (pa_cons (pe_c D_draw hr (by decide) (by rfl) (pa_cons (pv 0) (pa_cons pe_int pa_nil))) (pa_cons (pe_callTy (call_list_ofK (K := K) rfl) (by rfl) T.list (by decide +kernel) (pa_cons (pv 1) pa_nil)) (pa_cons pe_dnewK pa_nil)))) (pg_tup (by rfl) (pgs_cons (pg_name (i := 2) sc_table.nd rfl (.inl rfl)) (pgs_cons (pg_name (i := 3) sc_table.nd rfl (.inl rfl)) (pgs_cons (pg_name (i := 4) sc_table.nd rfl (.inr rfl)) pgs_nil)))))
      (pss_cons (ps_if (pt_cmpR op_lt (pv 2) pe_int (nomark _))
        (pss_one (ps_set (i := 4) sc_table.nd rfl (.inr rfl) (pe_c D_escaped hr (by decide) (by rfl) (pa_cons (pv 0) (pa_cons (pv 1) pa_nil)))))
        pss_nil)
      (pss_cons (ps_for PassesOwn.never rfl (pi_list (pv 1)) (pg_name (i := 5) sc_table.nd rfl (.inl rfl))
        (pss_one (ps_if (pt_cmpR op_eq (pv 2) pe_int (nomark _))
          (pss_one (ps_dput (hu_of hr) (pv 4) (pv 5) (pe_bmK (K := K) rfl PySem.F.plainAttrs_list PySem.F.slot_list_pop PySem.F.type_list_pop mt_popAt (pv 3) (pa_cons (pe_c D_draw hr (by decide) (by rfl) (pa_cons (pv 0) (pa_cons (pe_callB (call_len_seqK (K := K) rfl) (by rfl) T.len (by decide +kernel) (pa_cons (pv 3) pa_nil)) pa_nil))) pa_nil)) rfl))
          (pss_one (ps_if (pt_cmpR op_gt (pv 2) pe_int (nomark _))
            (pss_one (ps_dput (hu_of hr) (pv 4) (pv 5) (pe_ifExp (pt_cmpR op_eq (pe_c D_draw hr (by decide) (by rfl) (pa_cons (pv 0) (pa_cons pe_int pa_nil))) pe_int (nomark _)) (pv 5) (pe_c D_any_image hr (by decide) (by rfl) (pa_cons (pv 0) (pa_cons (pv 1) pa_nil)))) rfl))
            pss_nil)))))
      (pss_cons (ps_if (pt_cmpR op_gt (pe_c D_draw hr (by decide) (by rfl) (pa_cons (pv 0) (pa_cons pe_int pa_nil))) pe_int (nomark _))
        (pss_one (ps_ret (pv 4)))
        pss_nil)
      (pss_one (ps_ret (pe_callTy (call_dictP rfl) (by rfl) T.dict (by decide +kernel) (pa_cons (pe_lock (pe_lc (own := [("_law_letter", 5)]) (g := gName 5) (by rfl) sc_table.nd (pi_keys (pv 4)) (blkOk_by (own := [("_law_letter", 5)]) (N := n_table) (sc := defScope s_table) (by decide +kernel)) (fun _ _ _ _ _ => (pg_name (i := 5) sc_table.nd rfl (.inl rfl))) (fun _ _ _ _ _ => (pts_one (pt_cmpR op_gt (pe_c D_draw hr (by decide) (by rfl) (pa_cons (pv 0) (pa_cons pe_int pa_nil))) pe_int (nomark _)))) (fun _ _ _ _ _ => (pe_tup (pa_cons (pv 5) (pa_cons (pe_dget (hu_of hr) (pv 4) (pv 5) (fun _ _ => rfl)) pa_nil)))))) pa_nil)))))))), ?_⟩
    have hcs : 0 < cs.length := List.length_pos_iff.mpr hne
    -- way, left, found = draw(pen, 6), list(some), {}
    refine ⟨_, rfl, p, l, ns, n + 259, 6, rfl, PA.less (by omega), by decide, by decide, fun way H1 y0 y1 PA1 fr1 => ?_⟩
    have ha1 := fr1 _ _ ha hap
    refine ⟨.ref a, rfl, a, _, rfl, .inl (SqL.of ha1), fun b nb d nd => ⟨by show 3 ≤ sizeLine; decide, fun tp ntp => ?_⟩⟩
    refine ⟨tp, [.int way, .ref b, .ref d], rfl, .inl (.inl upd_same), rfl, _, _, rfl, _, _, rfl, _, _, rfl, rfl, ?_⟩
    have hbp := PA1.nep nb
    have hbl := PA1.nel nb
    have PAb := PA1.new (o := .lst (lets cs)) nb
    have hdp := PAb.nep nd
    have hdl := PAb.nel nd
    have PAd := PAb.new (o := .dK []) nd
    have hbd : b ≠ d := ne_of_none upd_same nd
    have hab : a ≠ b := ne_of_none ha1 nb
    have had : a ≠ d := by
      refine ne_of_none (o := .lst (lets cs)) ?_ nd
      rw [upd_ne hab]
      exact ha1
    have htd : d ≠ tp := ne_of_none upd_same ntp
    have htb : b ≠ tp := ne_of_none (o := .lst (lets cs)) (by rw [upd_ne hbd]; exact upd_same) ntp
    have hta : a ≠ tp := ne_of_none (o := .lst (lets cs)) (by rw [upd_ne had, upd_ne hab]; exact ha1) ntp
    have nbH : H b = none := fr1.back nb hbp
    have ndH : H d = none := (fr1.trans (Fr.new nb)).back nd hdp
    have PAx := (PAd.new (o := .tup [.int way, .ref b, .ref d]) ntp).less (m := n + 259) (by omega)
    have frx : Fr p H (upd (upd (upd H1 b (.lst (lets cs))) d (.dK [])) tp (.tup [.int way, .ref b, .ref d])) := ((fr1.trans (Fr.new nb)).trans (Fr.new nd)).trans (Fr.new ntp)
    have hax : upd (upd (upd H1 b (.lst (lets cs))) d (.dK [])) tp (.tup [.int way, .ref b, .ref d]) a = some (.lst (lets cs)) := by rw [upd_ne hta, upd_ne had, upd_ne hab]; exact ha1
    have hbx : upd (upd (upd H1 b (.lst (lets cs))) d (.dK [])) tp (.tup [.int way, .ref b, .ref d]) b = some (.lst (lets cs)) := by rw [upd_ne htb, upd_ne hbd, upd_same]
    have hdx : upd (upd (upd H1 b (.lst (lets cs))) d (.dK [])) tp (.tup [.int way, .ref b, .ref d]) d = some (.dK (encT [])) := by rw [upd_ne htd, upd_same]; rfl
    generalize upd (upd (upd H1 b (.lst (lets cs))) d (.dK [])) tp (.tup [.int way, .ref b, .ref d]) = Hx at PAx frx hax hbx hdx ⊢
    clear PAd PAb nd ntp nb
    -- if way < 2: found = escaped(pen, some)
    refine ⟨_, rfl, way, 2, rfl, rfl, _, rfl, ?_⟩
    refine ite2 (fun e => ?g1) (fun e => ?g2)
    case' g1 =>
      refine ⟨_, rfl, _, rfl, p, l, a, ns, n + 207, cs, rfl, PAx.less (by omega), hax, hap, hne, hnd, h26, hlt, fun d2 t2 H3 G2 PA3 fr3 nd2 hd2 => ?_⟩
      have ha3 := fr3 _ _ hax hap
      have hb3 := fr3 _ _ hbx hbp
      have hbd2 : b ≠ d2 := ne_of_none hbx nd2
      have had2 : a ≠ d2 := ne_of_none hax nd2
      have hd2p := PAx.nep nd2
      have hd2l := PAx.nel nd2
      have nd2H : H d2 = none := frx.back nd2 hd2p
      have fr03 := frx.trans fr3
    case' g2 =>
      obtain ⟨d2, rfl⟩ : ∃ d2, d2 = d := ⟨d, rfl⟩
      have G2 : GoodT cs [] := GoodT.nil
      have PA3 : PenAt Hx p l ns (n + 207) := PAx.less (by omega)
      have ha3 := hax
      have hb3 := hbx
      have hd2 := hdx
      have hbd2 := hbd
      have had2 := had
      have hd2p := hdp
      have hd2l := hdl
      have nd2H := ndH
      have fr03 := frx
    all_goals
      refine ⟨_, rfl, a, rfl, ⟨_, SqL.of ha3⟩, for_list (K := K) (a := a) (xs := lets cs) (fun i σ H2 => ∃ (left : List Nat) (t : Tab) (v5 : Option V), σ = [some (.ref p), some (.ref a), some (.int way), some (.ref b), some (.ref d2), v5] ∧
        H2 a = some (.lst (lets cs)) ∧ H2 b = some (.lst (lets left)) ∧ (way = 2 → cs.length ≤ left.length + i) ∧ left.length ≤ 26 ∧ (∀ x ∈ left, x ∈ cs) ∧ H2 d2 = some (.dK (encT t)) ∧ GoodT cs t ∧ PenAt H2 p l ns (n + 30 + 6 * (26 - i)) ∧ Fr p H H2) ?_ ?_ ?_ ?_⟩
      · exact ⟨cs, _, none, rfl, ha3, hb3, fun _ => by omega, h26, fun x h => h, hd2, G2, PA3.less (by omega), fr03⟩
      · rintro i σ H2 hi ⟨left, t, v5, rfl, ha2, _⟩
        exact SqL.of ha2
      · rintro i x σ H2 hx ⟨left, t, v5, rfl, ha2, hb2, hl2, hl6, hls, hd4, G, PA2, fr2⟩
        obtain ⟨hi, rfl⟩ := lets_get hx
        have hmem : cs[i] ∈ cs := List.getElem_mem hi
        have tl26 := G.len
        have small : (encT t).length < sizeLine := by rw [encT_len]; exact small1000 (by omega)
        refine ⟨_, rfl, rfl, _, rfl, ?_⟩
        refine ite2 (fun e2 => ?_) (fun e2 => ?_)
        · have ew : way = 2 := V.int.inj (of_decide_eq_true e2)
          have hlp := hl2 ew
          refine ⟨_, rfl, .inl ⟨rfl, _, SqL.of hb2⟩, _, rfl, _, rfl, b, _, rfl, .inl (SqL.of hb2), p, l, ns, n + 30 + 6 * (26 - (i + 1)), _, rfl, PA2.less (by omega), by rw [lets_len]; omega, by rw [lets_len]; omega, fun v4 H4 w0 w1 PA4 fr4 => ?_⟩
          obtain ⟨j, rfl⟩ : ∃ j : Nat, v4 = j := ⟨v4.toNat, by omega⟩
          have hj : j < left.length := by rw [lets_len] at w1; omega
          have hb4 := fr4 _ _ hb2 hbp
          have hd5 := fr4 _ _ hd4 hd2p
          have ha4 := fr4 _ _ ha2 hap
          refine ⟨b, _, _, j, _, rfl, rfl, hb4, by omega, by omega, by rw [lets_len]; exact seq_ix hj, lets_at hj, ?_⟩
          refine ⟨_, rfl, _, rfl, d2, _, rfl, DPut.k (k := Sum.inr (L1 cs[i])) (by rw [upd_ne (Ne.symm hbd2)]; exact hd5) small, ?_⟩
          have ep : putK (encT t) (Sum.inr (L1 cs[i])) (V.str (L1 left[j])) = encT (putT t cs[i] [left[j]]) := putK_enc t cs[i] [left[j]]
          rw [ep]
          have htm : left[j] ∈ cs := hls _ (List.getElem_mem hj)
          exact ⟨left.eraseIdx j, putT t cs[i] [left[j]], _, rfl, by rw [upd_ne had2, upd_ne hab]; exact ha4, by rw [upd_ne hbd2, upd_same, lets_erase], fun _ => by rw [erase_len hj]; omega, by rw [erase_len hj]; omega, fun x hx => hls x (List.mem_of_mem_eraseIdx hx), upd_same,
            G.put hmem (goodI1 htm), (PA4.other hbp hbl).other hd2p hd2l, ((fr2.trans fr4).put nbH).put nd2H⟩
        · have ew : way ≠ 2 := fun z => e2 (by rw [z]; decide)
          refine ⟨_, rfl, _, _, rfl, rfl, _, rfl, ?_⟩
          refine ite2 (fun e3 => ?_) (fun e3 => ?_)
          · refine ⟨_, rfl, p, l, ns, n + 35 + 6 * (26 - (i + 1)), 3, rfl, PA2.less (by omega), by decide, by decide, fun v4 H4 w0 w1 PA4 fr4 => ⟨rfl, _, rfl, ?_⟩⟩
            have hb4 := fr4 _ _ hb2 hbp
            have hd5 := fr4 _ _ hd4 hd2p
            have ha4 := fr4 _ _ ha2 hap
            refine ite2 (fun e4 => ?_) (fun e4 => ?_)
            · refine ⟨_, rfl, _, rfl, _, rfl, d2, _, rfl, DPut.k (k := Sum.inr (L1 cs[i])) hd5 small, ?_⟩
              have ep : putK (encT t) (Sum.inr (L1 cs[i])) (V.str (L1 cs[i])) = encT (putT t cs[i] [cs[i]]) := putK_enc t cs[i] [cs[i]]
              rw [ep]
              exact ⟨left, putT t cs[i] [cs[i]], _, rfl, by rw [upd_ne had2]; exact ha4, by rw [upd_ne hbd2]; exact hb4, fun z => absurd z ew, hl6, hls, upd_same, G.put hmem (goodI1 hmem), (PA4.other hd2p hd2l).less (by omega), (fr2.trans fr4).put nd2H⟩
            · refine ⟨_, rfl, _, rfl, p, l, a, ns, n + 30 + 6 * (26 - (i + 1)), cs, rfl, PA4.less (by omega), ha4, hap, hne, h26, hlt, fun s H5 gs PA5 fr5 => ?_⟩
              have hb6 := fr5 _ _ hb4 hbp
              have hd6 := fr5 _ _ hd5 hd2p
              have ha6 := fr5 _ _ ha4 hap
              refine ⟨_, rfl, _, rfl, d2, _, rfl, DPut.k (k := Sum.inr (L1 cs[i])) hd6 small, ?_⟩
              rw [putK_enc]
              exact ⟨left, putT t cs[i] s, _, rfl, by rw [upd_ne had2]; exact ha6, by rw [upd_ne hbd2]; exact hb6, fun z => absurd z ew, hl6, hls, upd_same, G.put hmem gs, (PA5.other hd2p hd2l).less (by omega), ((fr2.trans fr4).trans fr5).put nd2H⟩
          · exact ⟨left, t, _, rfl, ha2, hb2, fun z => absurd z ew, hl6, hls, hd4, G, PA2.less (by omega), fr2⟩
      · rintro σ H2 ⟨left, t, v5, rfl, ha2, hb2, hl2, hl6, hls, hd4, G, PA2, fr2⟩
        have tl26 := G.len
        refine ⟨_, rfl, p, l, ns, n + 29, 3, rfl, PA2.less (by omega), by decide, by decide, fun v4 H4 w0 w1 PA4 fr4 => ⟨_, _, rfl, rfl, _, rfl, ?_⟩⟩
        have hd5 := fr4 _ _ hd4 hd2p
        refine ite2 (fun e4 => ?_) (fun e4 => ?_)
        · exact ⟨_, rfl, q d2 t H4 G (PA4.less (by omega)) (fr2.trans fr4) nd2H hd5⟩
        · refine ⟨d2, _, hd5, True.intro, fun od => ⟨_, rfl, d2, od, rfl, .inl ⟨_, upd_same, fun D nD => lc_it walk_keys (fun i H2 => ∃ (ps : List Addr) (t2 : Tab), (∀ x ∈ t2, x.1 ∈ cs ∧ GoodI cs x.2) ∧ ps.length ≤ i ∧ H2 D = some (.lst (ps.map V.ref)) ∧ PairsAt H2 ps t2 ∧
            H2 d2 = some (.frz od (.dK (encT t))) ∧ PenAt H2 p l ns (n + (29 - i)) ∧ Fr p H H2) ?_ ?_ ?_ ?_⟩⟩⟩
          · have hDd : d2 ≠ D := ne_of_none upd_same nD
            refine ⟨[], [], fun x h => (by cases h), Nat.le_refl _, upd_same, .nil, by rw [upd_ne hDd, upd_same], ((PA4.other hd2p hd2l).new nD).less (by omega), ((fr2.trans fr4).put nd2H).trans (Fr.new nD)⟩
          · rintro i H2 hi ⟨ps, t2, _, _, _, _, h, _⟩
            exact h
          · rintro i x H2 H2' hi ⟨ps, t2, ht2, hps, hD, hpa, hfz, PA5, fr5⟩ ⟨rfl, k, v, hk, rfl⟩
            obtain ⟨hit, rfl, rfl⟩ := enc_at hk
            have hDp : D ≠ p := (PA4.other (o := .frz od (.dK (encT t))) hd2p hd2l).nep nD
            have hDl : D ≠ l := (PA4.other (o := .frz od (.dK (encT t))) hd2p hd2l).nel nD
            have nDH : H D = none := ((fr2.trans fr4).put (a := d2) nd2H).back nD hDp
            refine ⟨rfl, _, rfl, p, l, ns, n + (29 - (i + 1)), 3, rfl, PA5.less (by omega), by decide, by decide, fun v6 H6 u0 u1 PA6 fr6 => ⟨_, _, rfl, rfl, _, rfl, ?_⟩⟩
            obtain ⟨pl, hpl⟩ := PA5.pen
            have hpa6 := hpa.mono (tup_fr fr6 hpl)
            have hD6 := fr6 _ _ hD hDp
            have hfz6 := fr6 _ _ hfz hd2p
            refine ite2 (fun e6 => ?_) (fun e6 => ?_)
            · refine ⟨_, rfl, _, rfl, _, rfl, d2, V.str (Sx t[i].2), rfl, .inl ⟨_, Sum.inr (L1 t[i].1), .inr ⟨od, hfz6⟩, rfl, ?_⟩, by show 2 ≤ sizeLine; decide, fun tq ntq => ?_⟩
              · rw [valV_enc, look_at G.nd hit]
                rfl
              · have htD : D ≠ tq := ne_of_none hD6 ntq
                refine ⟨ps.map V.ref, by rw [upd_ne htD]; exact hD6, by rw [List.length_map]; exact small1000 (by omega), ps ++ [tq], t2 ++ [t[i]], ?_, by rw [List.length_append]; exact Nat.succ_le_succ hps, ?_, ?_, ?_, ?_, ?_⟩
                · intro x hx
                  rcases List.mem_append.mp hx with h | h
                  · exact ht2 x h
                  · rw [List.mem_singleton.mp h]
                    exact ⟨G.key _ (List.getElem_mem hit), G.img _ (List.getElem_mem hit)⟩
                · rw [upd_same, List.map_append]
                  rfl
                · refine PairsAt.snoc ((hpa6.mono (tup_new ntq)).mono (tup_upd (by rw [upd_ne htD]; exact hD6))) ?_
                  exact (upd_ne (Ne.symm htD)).trans upd_same
                · rw [upd_ne (ne_of hfz6 hD6 (fun z => nomatch z)), upd_ne (ne_of_none hfz6 ntq)]
                  exact hfz6
                · exact ((PA6.new ntq).other hDp hDl)
                · exact ((fr5.trans fr6).trans (Fr.new ntq)).put nDH
            · exact ⟨ps, t2, ht2, by omega, hD6, hpa6, hfz6, PA6, fr5.trans fr6⟩
          · rintro H2 ⟨ps, t2, ht2, hps, hD, hpa, hfz, PA5, fr5⟩
            have hDd : D ≠ d2 := ne_of hD hfz (fun z => nomatch z)
            refine ⟨hfz, D, ps, encT t2, rfl, SqL.of (by rw [upd_ne hDd]; exact hD), (PairsAt.sq (hpa.mono fun b ys e => by rw [upd_ne (ne_of e hfz (fun z => nomatch z))]; exact e)), fun r nr => ?_⟩
            have em : mergeK [] (encT t2) = encT (mergeT [] t2) := mergeK_enc t2 []
            rw [em]
            have PA7 := (PA5.other (o := .dK (encT t)) hd2p hd2l)
            have fr7 := fr5.put (a := d2) (o := .dK (encT t)) nd2H
            exact q r (mergeT [] t2) _ (GoodT.merge GoodT.nil ht2) ((PA7.new nr).less (by omega)) (fr7.trans (Fr.new nr)) (fr7.back nr (PA7.nep nr)) upd_same
end
end V8

set_option Elab.async false
set_option linter.all false
set_option maxRecDepth 100000
set_option maxHeartbeats 8000000
/-! Letters, texts, images: the program's own tests. -/
namespace V8
open PySem PySem.Spec PyProof.Rows L2
abbrev s_is_letter : Stmt := topS 17
abbrev n_is_letter : List Str := ["value"]
theorem sc_is_letter : FnScope ["value"] ["value"] (defScope s_is_letter) := ⟨rfl, rfl, rfl, by decide +kernel, rfl, by decide +kernel, by decide +kernel⟩
abbrev s_is_text : Stmt := topS 18
abbrev n_is_text : List Str := ["value"]
theorem sc_is_text : FnScope ["value"] ["value"] (defScope s_is_text) := ⟨rfl, rfl, rfl, by decide +kernel, rfl, by decide +kernel, by decide +kernel⟩
abbrev s_all_letters : Stmt := topS 19
abbrev n_all_letters : List Str := ["string"]
theorem sc_all_letters : FnScope ["string"] ["string"] (defScope s_all_letters) := ⟨rfl, rfl, rfl, by decide +kernel, rfl, by decide +kernel, by decide +kernel⟩
abbrev s_is_image : Stmt := topS 30
abbrev n_is_image : List Str := ["value"]
theorem sc_is_image : FnScope ["value"] ["value"] (defScope s_is_image) := ⟨rfl, rfl, rfl, by decide +kernel, rfl, by decide +kernel, by decide +kernel⟩
abbrev s_told_images : Stmt := topS 32
abbrev n_told_images : List Str := ["images", "keeps", "key", "letter", "kept"]
theorem sc_told_images : FnScope ["images", "keeps", "key", "letter", "kept"] ["images", "keeps"] (defScope s_told_images) := ⟨rfl, rfl, rfl, by decide +kernel, rfl, by decide +kernel, by decide +kernel⟩
/-- what the top has left, of the names and of the two classes -/
structure Tx (K : PySem.W.Frag) (mg : Str → Option Value) (CM CJ : Addr) : Prop extends Blt mg where
  isinstance : mg "isinstance" = none
  iter : mg "iter" = none
  gLETTERS : GV mg "LETTERS" (.str abcS)
  gLONGEST : GV mg "LONGEST" (.int 2000)
  gLONGEST_TOLD : GV mg "LONGEST_TOLD" (.int 4)
  gMOST_LETTERS : GV mg "MOST_LETTERS" (.int 12)
  gMisreading : GV mg "Misreading" (.ref CM)
  gJoined : GV mg "Joined" (.ref CJ)
  dJ : PySem.W.kitOne K (.type "dict") (.ref CJ) = some false
  dM : PySem.W.kitOne K (.type "dict") (.ref CM) = some false
  sM : PySem.W.kitOne K (.type "str") (.ref CM) = some false
  iM : PySem.W.kitOne K (.type "int") (.ref CM) = some false
  cl : Cls K CM
  nL : NoAttr K CM "_letters"
  nI : NoAttr K CM "_images"
  nC : NoAttr K CM "changed"
  tA : PySem.W.findIn K (.ref CM) "__class__" = some (some (.builtin "object.__class__"))
  tB : PySem.W.specialIn K (.builtin "object.__class__") "__get__" = some (some (.builtin "getset_descriptor.__get__"))
  tC : PySem.W.takesIn K (.builtin "object.__class__") = some true
  tD : PySem.W.mroIn K CM (.type "object") = some true
  ne : PySem.W.findIn K (.ref CM) "__ne__" = some (some (.builtin "object.__ne__"))
  fd : PySem.W.notFirst K CM (.type "dict") = true
  fs : PySem.W.notFirst K CM (.type "str") = true
  fi : PySem.W.notFirst K CM (.type "int") = true
/-- nothing but what is new has changed -/
abbrev Sm := Same
def spIsLetter (K : PySem.W.Frag) : Sp := fun vs H Q _ => ∃ x, vs = [x] ∧ ((∃ c, x = .str (L1 c) ∧ Q (.bl (decide (c ∈ abc))) H) ∨ (∃ z, x = .str z ∧ z.length ≤ sizeLine ∧ z.length ≠ 1 ∧ Q (.bl false) H) ∨ (∃ t, TyX K H x t ∧ PySem.W.kitOne K t (.type "str") = some false ∧ Q (.bl false) H))
def spAllLetters : Sp := fun vs H Q _ => ∃ cs : List Nat, vs = [.str (Sx cs)] ∧ (∀ c ∈ cs, isLt c) ∧ cs.length ≤ 2000 ∧ Q (.bl true) H
def spIsText : Sp := spAllLetters
def spIsImage : Sp := fun vs H Q _ => ∃ s : List Nat, vs = [.str (Sx s)] ∧ (1 ≤ s.length ∧ s.length ≤ 4 ∧ ∀ d ∈ s, isLt d) ∧ Q (.bl true) H
theorem tw_all {p : Nat → Bool} : ∀ {l : List Nat}, (∀ c ∈ l, p c = true) → l.takeWhile p = l
  | [], _ => rfl
  | a :: r, h => by
    rw [List.takeWhile_cons, if_pos (h a (List.mem_cons_self ..)), tw_all fun c hc => h c (List.mem_cons_of_mem _ hc)]
theorem strip_all {cs : List Nat} (h : ∀ c ∈ cs, isLt c) : (Txt.stripChars (Sx cs) abcS).length = 0 := by
  have ha : ∀ c ∈ cs, abcS.cps.contains c = true := fun c hc => by
    have h1 : c ∈ abcS.cps.toList := by
      rw [abcS_cps]
      exact abc_mem.mpr (h c hc)
    exact Array.contains_iff_mem.mpr (Array.mem_toList_iff.mp h1)
  have hl : stripLo abcS.cps.contains true (Sx cs) = cs.length := by
    unfold stripLo
    rw [if_pos rfl]
    show (List.takeWhile abcS.cps.contains cs).length = cs.length
    rw [tw_all ha]
  unfold Txt.stripChars
  rw [stripBy_eq, hl]
  have e := TL.tl_strSub (Sx cs) cs.length (stripHi abcS.cps.contains true (Sx cs) cs.length)
  have e2 : TL.tl (Sx cs) = cs := rfl
  rw [e2, List.drop_length, List.take_nil] at e
  have e3 := congrArg List.length e
  exact e3
theorem dec_t {p : Prop} [Decidable p] (h : p) : V.bl (decide p) = V.bl true := by rw [decide_eq_true h]
theorem dec_f {p : Prop} [Decidable p] (h : ¬ p) : V.bl (decide p) = V.bl false := by rw [decide_eq_false h]
theorem ty_str {K : PySem.W.Frag} {H : Hp} (z : Str) : TyX K H (.str z) (.type "str") := .base (.str z)
section
variable {P : Program} {w : World} {K : PySem.W.Frag} {mg : Str → Option Value} {base : Heap} {CM CJ : Addr}
theorem ok_is_letter {f : Addr} {fd : FuncData} (F : Fun K "is_letter" "is_letter" s_is_letter f fd) (T : Tx K mg CM CJ) : FnOk P w K mg base CX0 1 f fd ["value"] (spIsLetter K) := by
  refine F.ok sc_is_letter (fun vs H Q E h => ?_) (fun cdv A outer s H vs Q E hr h => ?_)
  · obtain ⟨x, rfl, _⟩ := h
    rfl
  · obtain ⟨x, rfl, h⟩ := h
    refine ⟨_, (pss_one (ps_ret (pe_and (pe_callB call_isi (by rfl) T.isinstance (by decide +kernel) (pa_cons (pv 0) (pa_cons (pe_bltn (v := .ty "str") (by rfl) T.str (by decide +kernel) rfl) pa_nil))) (pe_and (pe_cmpR op_eq (pe_callB call_len_str (by rfl) T.len (by decide +kernel) (pa_cons (pv 0) pa_nil)) pe_int (nomark _)) (pe_one (pe_cmpR op_in_sign (pv 0) (pe_gv T.gLETTERS (by rfl)) rfl)))))), ?_⟩
    rcases h with ⟨c, rfl, q⟩ | ⟨z, rfl, hz, h1, q⟩ | ⟨t, ty, e, q⟩
    · refine ⟨_, rfl, _, .ty "str", .type "str", .type "str", true, rfl, .ty _, ty_str _, kit_ty (by decide +kernel), true, rfl, ?_⟩
      refine ⟨_, rfl, _, rfl, by show 1 ≤ sizeLine; decide, rfl, true, rfl, ?_⟩
      refine ⟨_, rfl, c, abcS, rfl, rfl, ?_⟩
      rw [abcS_cps]
      exact q
    · refine ⟨_, rfl, _, .ty "str", .type "str", .type "str", true, rfl, .ty _, ty_str _, kit_ty (by decide +kernel), true, rfl, ?_⟩
      refine ⟨_, rfl, _, rfl, hz, rfl, false, ?_, ?_⟩
      · rw [decide_eq_false]
        intro e
        have e' := V.int.inj e
        omega
      · exact q
    · exact ⟨_, rfl, _, .ty "str", t, .type "str", false, rfl, .ty _, ty, e, false, rfl, q⟩
theorem ok_all_letters {f : Addr} {fd : FuncData} (F : Fun K "all_letters" "all_letters" s_all_letters f fd) (T : Tx K mg CM CJ) : FnOk P w K mg base CX0 1 f fd ["string"] spAllLetters := by
  refine F.ok sc_all_letters (fun vs H Q E h => ?_) (fun cdv A outer s H vs Q E hr h => ?_)
  · obtain ⟨cs, rfl, _⟩ := h
    rfl
  · obtain ⟨cs, rfl, hl, hn, q⟩ := h
    refine ⟨_, (pss_one (ps_ret (pe_notTK (K := K) rfl (pe_bmK (K := K) rfl PySem.F.plainAttrs_str PySem.F.slot_str_strip PySem.F.type_str_strip mt_stripChars (pv 0) (pa_cons (pe_gv T.gLETTERS (by rfl)) pa_nil))))), ?_⟩
    have hz : (Sx cs).length ≤ sizeLine := by rw [Sx_len, sizeLine_eq]; omega
    refine ⟨_, rfl, rfl, _, abcS, rfl, rfl, hz, false, ⟨?_, ?_⟩, q⟩
    · exact Nat.le_trans (len_stripChars _ _) hz
    · rw [strip_all hl]
      rfl
theorem ok_is_text {f : Addr} {fd : FuncData} (F : Fun K "is_text" "is_text" s_is_text f fd) (T : Tx K mg CM CJ) (D_all_letters : Df P w K mg base 1 "all_letters" spAllLetters) : FnOk P w K mg base CX0 2 f fd ["value"] spIsText := by
  refine F.ok sc_is_text (fun vs H Q E h => ?_) (fun cdv A outer s H vs Q E hr h => ?_)
  · obtain ⟨cs, rfl, _⟩ := h
    rfl
  · obtain ⟨cs, rfl, hl, hn, q⟩ := h
    refine ⟨_, (pss_one (ps_ret (pe_and (pe_callB call_isi (by rfl) T.isinstance (by decide +kernel) (pa_cons (pv 0) (pa_cons (pe_bltn (v := .ty "str") (by rfl) T.str (by decide +kernel) rfl) pa_nil))) (pe_and (pe_cmpR op_le (pe_callB call_len_str (by rfl) T.len (by decide +kernel) (pa_cons (pv 0) pa_nil)) (pe_gv T.gLONGEST (by rfl)) (nomark _)) (pe_one (pe_c D_all_letters hr (by decide) (by rfl) (pa_cons (pv 0) pa_nil))))))), ?_⟩
    have hz : (Sx cs).length ≤ sizeLine := by rw [Sx_len, sizeLine_eq]; omega
    refine ⟨_, rfl, _, .ty "str", .type "str", .type "str", true, rfl, .ty _, ty_str _, kit_ty (by decide +kernel), true, rfl, ?_⟩
    refine ⟨_, rfl, _, rfl, hz, _, _, rfl, rfl, true, ?_, ?_⟩
    · rw [Sx_len]
      exact dec_t (show (cs.length : Int) ≤ 2000 by omega)
    · exact ⟨_, rfl, cs, rfl, hl, hn, q⟩
theorem ok_is_image {f : Addr} {fd : FuncData} (F : Fun K "is_image" "is_image" s_is_image f fd) (T : Tx K mg CM CJ) (D_is_text : Df P w K mg base 2 "is_text" spIsText) : FnOk P w K mg base CX0 3 f fd ["value"] spIsImage := by
  refine F.ok sc_is_image (fun vs H Q E h => ?_) (fun cdv A outer s H vs Q E hr h => ?_)
  · obtain ⟨cs, rfl, _⟩ := h
    rfl
  · obtain ⟨cs, rfl, ⟨g1, g4, gl⟩, q⟩ := h
    refine ⟨_, (pss_one (ps_ret (pe_and (pe_c D_is_text hr (by decide) (by rfl) (pa_cons (pv 0) pa_nil)) (pe_one (pe_chain op_le op_le pe_int (pe_callB call_len_str (by rfl) T.len (by decide +kernel) (pa_cons (pv 0) pa_nil)) (pe_gv T.gLONGEST_TOLD (by rfl))))))), ?_⟩
    have hz : (Sx cs).length ≤ sizeLine := by rw [Sx_len, sizeLine_eq]; omega
    refine ⟨_, rfl, cs, rfl, gl, by omega, true, rfl, ?_⟩
    refine ⟨_, rfl, _, rfl, hz, _, _, rfl, rfl, true, ?_, ?_⟩
    · rw [Sx_len]
      exact dec_t (show (1 : Int) ≤ (cs.length : Int) by omega)
    · refine ⟨_, _, rfl, rfl, ?_⟩
      rw [Sx_len]
      have e := dec_t (show (cs.length : Int) ≤ 4 by omega)
      show Q (V.bl (decide ((cs.length : Int) ≤ 4))) H
      rw [e]
      exact q
/-- the letters that stay, as a table -/
def keepT (st : List Nat) : Tab := mergeT [] (st.map fun c => (c, [c]))
theorem keepT_good {cs st : List Nat} (hs : ∀ c ∈ st, c ∈ cs) (hl : ∀ c ∈ cs, isLt c) : GoodT cs (keepT st) := GoodT.merge GoodT.nil fun q hq => by
  obtain ⟨c, hc, rfl⟩ := List.mem_map.mp hq
  exact ⟨hs c hc, goodI1 (hs c hc)⟩
def toldT (st : List Nat) (t : Tab) : Tab := mergeT (mergeT [] (keepT st)) t
theorem toldT_good {cs st : List Nat} {t : Tab} (hs : ∀ c ∈ st, c ∈ cs) (hl : ∀ c ∈ cs, isLt c) (g : GoodT cs t) : GoodT cs (toldT st t) := by
  have g1 := keepT_good hs hl
  exact GoodT.merge (GoodT.merge GoodT.nil fun q hq => ⟨g1.key q hq, g1.img q hq⟩) fun q hq => ⟨g.key q hq, g.img q hq⟩
def spTold : Sp := fun vs H Q _ => ∃ (d : Addr) (cs st : List Nat) (t : Tab), vs = [.ref d, .str (Sx st)] ∧ H d = some (.dK (encT t)) ∧ GoodT cs t ∧ cs.length ≤ 26 ∧ (∀ c ∈ cs, isLt c) ∧ (∀ c ∈ st, c ∈ cs) ∧ st.length ≤ 500 ∧
  ∀ (r : Addr) (H' : Hp), Same H H' → H r = none → H' r = some (.dK (encT (toldT st t))) → Q (.ref r) H'
theorem Same.upd_back {H : Hp} {d : Addr} {o u : HO} (h : H d = some u) : upd (upd H d o) d u = H := by
  rw [upd_upd]
  funext b
  by_cases hb : b = d
  · rw [hb, upd_same, h]
  · rw [upd_ne hb]
theorem sx_at {st : List Nat} {i : Nat} {c : Nat} (h : (Sx st).cps[i]? = some c) : st[i]? = some c := by
  have : (Sx st).cps = st.toArray := rfl
  rw [this] at h
  simpa using h
theorem sx_size (st : List Nat) : (Sx st).cps.size = st.length := by
  show st.toArray.size = _
  simp
theorem look_in : ∀ {t : Tab} {c : Nat} {s : List Nat}, lookT t c = some s → (c, s) ∈ t := by
  intro t c s h
  unfold lookT at h
  cases e : t.find? (fun q => decide (q.1 = c)) with
  | none =>
    rw [e] at h
    cases h
  | some q =>
    rw [e] at h
    have h1 := List.find?_some e
    have h2 := List.mem_of_find?_eq_some e
    have h3 : q.1 = c := by simpa using h1
    have h4 : q.2 = s := by simpa using h
    rw [← h3, ← h4]
    exact h2
theorem keep_take {cs st : List Nat} (hs : ∀ c ∈ st, c ∈ cs) (hl : ∀ c ∈ cs, isLt c) (i : Nat) : GoodT cs (mergeT [] ((st.take i).map fun c => (c, [c]))) := keepT_good (st := st.take i) (fun c hc => hs c (List.mem_of_mem_take hc)) hl
theorem keep_succ {st : List Nat} {i c : Nat} (h : st[i]? = some c) : mergeT [] ((st.take (i + 1)).map fun c => (c, [c])) = putT (mergeT [] ((st.take i).map fun c => (c, [c]))) c [c] := by
  rw [List.take_add_one, h, List.map_append]
  unfold mergeT
  rw [List.foldl_append]
  rfl
theorem ok_told_images {f : Addr} {fd : FuncData} (F : Fun K "told_images" "told_images" s_told_images f fd) (T : Tx K mg CM CJ) (D_is_letter : Df P w K mg base 1 "is_letter" (spIsLetter K)) (D_is_text : Df P w K mg base 2 "is_text" spIsText)
    (D_is_image : Df P w K mg base 3 "is_image" spIsImage) : FnOk P w K mg base CX0 4 f fd ["images", "keeps"] spTold := by
  refine F.ok sc_told_images (fun vs H Q E h => ?_) (fun cdv A outer s H vs Q E hr h => ?_)
  · obtain ⟨d, cs, st, t, rfl, _⟩ := h
    rfl
  · obtain ⟨d, cs, st, t, rfl, hd, G, h26, hlt, hst, hs5, q⟩ := h
    refine ⟨_, (pss_cons (ps_if (pt_not (pt_val (pe_callB call_isi (by rfl) T.isinstance (by decide +kernel) (pa_cons (pv 0) (pa_cons (pe_bltn (v := .ty "dict") (by rfl) T.dict (by decide +kernel) rfl) pa_nil)))))
        (pss_one ps_never)
        pss_nil)
      (pss_cons (ps_lock (ps_for PassesOwn.never rfl (pi_keys (pv 0)) (pg_name (i := 2) sc_told_images.nd rfl (.inl rfl))
        (pss_one (ps_if (pt_not (pt_val (pe_c D_is_letter hr (by decide) (by rfl) (pa_cons (pv 2) pa_nil))))
          (pss_one ps_never)
          pss_nil))))
      (pss_cons (ps_for PassesOwn.never rfl (pi_str (pe_gv T.gLETTERS (by rfl))) (pg_name (i := 3) sc_told_images.nd rfl (.inl rfl))
        (pss_one (ps_if (PW.pt (pw_and (pt_cmp (pc_din (hu_of hr) (pv 3) (pv 0))) (pw_and1 (pt_not (pt_val (pe_c D_is_image hr (by decide) (by rfl) (pa_cons (pe_dget (hu_of hr) (pv 0) (pv 3) (fun _ _ => rfl)) pa_nil)))))))
          (pss_one ps_never)
          pss_nil)))
      (pss_cons (ps_if (pt_not (pt_val (pe_c D_is_text hr (by decide) (by rfl) (pa_cons (pv 1) pa_nil))))
        (pss_one ps_never)
        pss_nil)
      (pss_cons (ps_setDc (j := 4) (own := [("letter", 3)]) (g := gName 3) (by rfl) sc_told_images.nd rfl rfl (sw_trueD rfl rfl rfl (by decide +kernel)) (pi_str (pv 1)) (blkOk_by (own := [("letter", 3)]) (N := n_told_images) (sc := defScope s_told_images) (by decide +kernel)) (fun _ _ _ _ _ => (pg_name (i := 3) sc_told_images.nd rfl (.inl rfl))) (fun _ _ _ _ _ => pts_nil) (fun _ _ _ _ _ => (pv 3)) (fun _ _ _ _ _ => (pv 3)))
      (pss_one (ps_ret (pe_merge2 (pv 4) (pv 0))))))))), ?_⟩
    have tl := G.len
    -- isinstance(images, dict)
    refine ⟨_, rfl, _, .ty "dict", .type "dict", .type "dict", true, rfl, .ty _, .base (.dK hd), kit_ty (by decide +kernel), true, rfl, ?_⟩
    refine iteF ?_
    -- for key in images
    refine ⟨d, _, hd, True.intro, fun od => ⟨_, rfl, d, od, rfl, .inl ⟨_, upd_same, for_it walk_keys (fun i σ H2 => ∃ v2, σ = [some (.ref d), some (.str (Sx st)), v2, none, none] ∧ H2 = upd H d (.frz od (.dK (encT t)))) ⟨none, rfl, rfl⟩ ?_ ?_ ?_⟩⟩⟩
    · rintro i σ H2 hi ⟨v2, rfl, rfl⟩
      exact upd_same
    · rintro i x σ H2 H2' hi ⟨v2, rfl, rfl⟩ ⟨rfl, k, v, hk, rfl⟩
      obtain ⟨hit, rfl, rfl⟩ := enc_at hk
      have hc : t[i].1 ∈ abc := abc_mem.mpr (hlt _ (G.key _ (List.getElem_mem hit)))
      refine ⟨_, rfl, _, rfl, .inl ⟨t[i].1, rfl, ?_⟩⟩
      rw [decide_eq_true hc]
      exact ⟨true, rfl, iteF ⟨_, rfl, rfl⟩⟩
    · rintro σ H2 ⟨v2, rfl, rfl⟩
      refine ⟨upd_same, ?_⟩
      rw [Same.upd_back hd]
      -- for letter in LETTERS
      refine ⟨abcS, rfl, for_it walk_str (fun i σ H2 => ∃ v3, σ = [some (.ref d), some (.str (Sx st)), v2, v3, none] ∧ H = H2) ⟨none, rfl, rfl⟩ ?_ ?_ ?_⟩
      · rintro i σ H2 hi _
        trivial
      · rintro i x σ H2 H2' hi ⟨v3, rfl, rfl⟩ ⟨rfl, c, hc, rfl⟩
        refine ⟨_, rfl, _, rfl, d, _, rfl, DGet.k (k := Sum.inr (L1 c)) hd, _, rfl, ?_⟩
        rw [valV_enc]
        cases e : lookT t c with
        | none =>
          refine iteF ?_
          exact ⟨_, rfl, rfl⟩
        | some s =>
          refine iteT ?_
          refine ⟨_, rfl, _, rfl, d, V.str (Sx s), rfl, .inl ⟨_, Sum.inr (L1 c), .inl hd, rfl, by rw [valV_enc, e]; rfl⟩, s, rfl, ⟨(G.img _ (look_in e)).1, (G.img _ (look_in e)).2.1, fun z hz => hlt z ((G.img _ (look_in e)).2.2 z hz)⟩, true, rfl, ?_⟩
          exact ⟨_, rfl, rfl⟩
      · rintro σ H2 ⟨v3, rfl, rfl⟩
        -- is_text(keeps)
        refine ⟨_, rfl, st, rfl, fun c hc => hlt c (hst c hc), by omega, true, rfl, iteF ?_⟩
        -- kept
        refine ⟨_, rfl, Sx st, rfl, fun D nD => dc_it walk_str (fun i H3 => H3 = upd H D (.dK (encT (mergeT [] ((st.take i).map fun c => (c, [c])))))) ?_ ?_ ?_ ?_⟩
        · rfl
        · rintro i H3 hi _
          trivial
        · rintro i x H3 H3' hi rfl ⟨rfl, c, hc, rfl⟩
          have hc' := sx_at hc
          rw [sx_size] at hi
          have gk := keep_take (cs := cs) hst hlt i
          refine ⟨rfl, _, rfl, _, rfl, _, Sum.inr (L1 c), rfl, upd_same, by rw [encT_len]; have := gk.len; exact small1000 (by omega), ?_⟩
          rw [upd_upd]
          have ep : putK (encT (mergeT [] ((st.take i).map fun c => (c, [c])))) (Sum.inr (L1 c)) (V.str ⟨#[c]⟩) = encT (mergeT [] ((st.take (i + 1)).map fun c => (c, [c]))) := by
            rw [keep_succ hc']
            exact putK_enc _ c [c]
          rw [ep]
        · rintro H3 rfl
          rw [sx_size, List.take_length]
          have gk := keepT_good hst hlt
          have lk := gk.len
          have hdD : d ≠ D := ne_of_none hd nD
          -- {**kept, **images}
          have em : mergeK [] (encT (keepT st)) = encT (mergeT [] (keepT st)) := mergeK_enc (keepT st) []
          have gm : GoodT cs (mergeT [] (keepT st)) := GoodT.merge GoodT.nil fun x hx => ⟨gk.key x hx, gk.img x hx⟩
          have lm := gm.len
          refine fun r nr => ?_
          have hDr : D ≠ r := ne_of_none (H := upd H D (.dK (encT (keepT st)))) upd_same nr
          have hdr : d ≠ r := by
            refine ne_of_none (H := upd H D (.dK (encT (keepT st)))) (o := .dK (encT t)) ?_ nr
            rw [upd_ne hdD]
            exact hd
          refine ⟨_, rfl, D, encT (keepT st), rfl, hDr, upd_same, .inl ?_, by rw [encT_len]; omega, ?_⟩
          · rw [upd_ne hDr, upd_same]
            rfl
          · rw [em]
            refine ⟨_, rfl, d, encT (mergeT [] (keepT st)), encT t, rfl, hdr, upd_same, by rw [encT_len]; omega, .inl ?_, by rw [encT_len]; omega, ?_⟩
            · rw [upd_ne hdr, upd_ne hdr, upd_ne hdD]
              exact hd
            · rw [mergeK_enc]
              have s1 : Same H (upd H D (.dK (encT (keepT st)))) := fun b o e => by
                rw [upd_ne (ne_of_none e nD)]
                exact e
              have nrH : H r = none := s1.free nr
              refine q r _ (fun b o e => ?_) nrH upd_same
              have hb := ne_of_none e nrH
              rw [upd_ne hb, upd_ne hb, upd_ne hb]
              exact s1 b o e
end
end V8

set_option Elab.async false
set_option linter.all false
set_option maxRecDepth 100000
set_option maxHeartbeats 8000000
/-! The class Misreading, as far as the law asks it. -/
namespace V8
open PySem PySem.Spec PyProof.Rows L2
abbrev s_Misreading_init : Stmt := inClass (topS 29) 0
abbrev n_Misreading_init : List Str := ["self", "images", "keeps", "told", "letter"]
theorem sc_Misreading_init : FnScope ["self", "images", "keeps", "told", "letter"] ["self", "images", "keeps"] (defScope s_Misreading_init) := ⟨rfl, rfl, rfl, by decide +kernel, rfl, by decide +kernel, by decide +kernel⟩
abbrev s_Misreading_contains : Stmt := inClass (topS 29) 1
abbrev n_Misreading_contains : List Str := ["self", "x"]
theorem sc_Misreading_contains : FnScope ["self", "x"] ["self", "x"] (defScope s_Misreading_contains) := ⟨rfl, rfl, rfl, by decide +kernel, rfl, by decide +kernel, by decide +kernel⟩
abbrev s_Misreading_len : Stmt := inClass (topS 29) 2
abbrev n_Misreading_len : List Str := ["self"]
theorem sc_Misreading_len : FnScope ["self"] ["self"] (defScope s_Misreading_len) := ⟨rfl, rfl, rfl, by decide +kernel, rfl, by decide +kernel, by decide +kernel⟩
abbrev s_Misreading_iter : Stmt := inClass (topS 29) 3
abbrev n_Misreading_iter : List Str := ["self"]
theorem sc_Misreading_iter : FnScope ["self"] ["self"] (defScope s_Misreading_iter) := ⟨rfl, rfl, rfl, by decide +kernel, rfl, by decide +kernel, by decide +kernel⟩
abbrev s_Misreading_getitem : Stmt := inClass (topS 29) 4
abbrev n_Misreading_getitem : List Str := ["self", "at"]
theorem sc_Misreading_getitem : FnScope ["self", "at"] ["self", "at"] (defScope s_Misreading_getitem) := ⟨rfl, rfl, rfl, by decide +kernel, rfl, by decide +kernel, by decide +kernel⟩
abbrev s_Misreading_eq : Stmt := inClass (topS 29) 13
abbrev n_Misreading_eq : List Str := ["self", "other"]
theorem sc_Misreading_eq : FnScope ["self", "other"] ["self", "other"] (defScope s_Misreading_eq) := ⟨rfl, rfl, rfl, by decide +kernel, rfl, by decide +kernel, by decide +kernel⟩
abbrev s_Misreading_same : Stmt := inClass (topS 29) 15
abbrev n_Misreading_same : List Str := ["letters"]
theorem sc_Misreading_same : FnScope ["letters"] ["letters"] (defScope s_Misreading_same) := ⟨rfl, rfl, rfl, by decide +kernel, rfl, by decide +kernel, by decide +kernel⟩
abbrev s_Misreading_str : Stmt := inClass (topS 29) 16
abbrev n_Misreading_str : List Str := ["self", "letter"]
theorem sc_Misreading_str : FnScope ["self", "letter"] ["self"] (defScope s_Misreading_str) := ⟨rfl, rfl, rfl, by decide +kernel, rfl, by decide +kernel, by decide +kernel⟩
def keysOf (u : Tab) : List Nat := abc.filter fun c => (lookT u c).isSome
def ims (u : Tab) : Tab := (keysOf u).map fun c => (c, (lookT u c).getD [])
def chg (u : Tab) : List Nat := (keysOf u).filter fun c => decide (lookT u c ≠ some [c])
theorem kLI : ¬ (("_letters" : Str) = "_images") := by decide +kernel
theorem kLC : ¬ (("_letters" : Str) = "changed") := by decide +kernel
theorem kIC : ¬ (("_images" : Str) = "changed") := by decide +kernel
def f1 (a : Addr) : List (Str × V) := putF "_letters" (.ref a) []
def f2 (a b : Addr) : List (Str × V) := putF "_images" (.ref b) (f1 a)
def f3 (a b c : Addr) : List (Str × V) := putF "changed" (.ref c) (f2 a b)
theorem f1_L (a : Addr) : (f1 a).lookup ("_letters" : Str) = some (.ref a) := by
  unfold f1
  rw [lookup_putF, if_pos rfl]
theorem f2_L (a b : Addr) : (f2 a b).lookup ("_letters" : Str) = some (.ref a) := by
  unfold f2
  rw [lookup_putF, if_neg kLI]
  exact f1_L a
theorem f3_L (a b c : Addr) : (f3 a b c).lookup ("_letters" : Str) = some (.ref a) := by
  unfold f3
  rw [lookup_putF, if_neg kLC]
  exact f2_L a b
theorem f3_I (a b c : Addr) : (f3 a b c).lookup ("_images" : Str) = some (.ref b) := by
  unfold f3 f2
  rw [lookup_putF, if_neg kIC, lookup_putF, if_pos rfl]
theorem f3_C (a b c : Addr) : (f3 a b c).lookup ("changed" : Str) = some (.ref c) := by
  unfold f3
  rw [lookup_putF, if_pos rfl]
theorem f1_len (a : Addr) : (f1 a).length < 1000 := by
  show 1 < 1000
  decide
theorem f2_len (a b : Addr) : (f2 a b).length < 1000 := by
  have e : f2 a b = [(("_letters" : Str), V.ref a), ("_images", V.ref b)] := by
    show (if ("_letters" : Str) = "_images" then [(("_letters" : Str), V.ref b)] else (("_letters" : Str), V.ref a) :: [(("_images" : Str), V.ref b)]) = _
    rw [if_neg kLI]
  rw [e]
  show 2 < 1000
  decide
/-- a Misreading stands at x: its images are those of the table u, letters ascending -/
structure MisAt (C : Addr) (H : Hp) (x : Addr) (u : Tab) : Prop where
  at_ : ∃ dx a b c, H x = some (.ins C dx (f3 a b c)) ∧ H a = some (.tup (lets (keysOf u))) ∧ H b = some (.dK (encT (ims u))) ∧ H c = some (.tup (lets (chg u)))
theorem MisAt.mono {C : Addr} {H H' : Hp} {x : Addr} {u : Tab} (m : MisAt C H x u) (k : ∀ b o, H b = some o → (∀ xs, o ≠ .lst xs) → H' b = some o) : MisAt C H' x u := by
  obtain ⟨dx, a, b, c, h1, h2, h3, h4⟩ := m.at_
  exact ⟨dx, a, b, c, k _ _ h1 (fun _ z => nomatch z), k _ _ h2 (fun _ z => nomatch z), k _ _ h3 (fun _ z => nomatch z), k _ _ h4 (fun _ z => nomatch z)⟩
/-- .. made of what is new behind H0 -/
structure MisN (C : Addr) (H0 H : Hp) (x : Addr) (u : Tab) : Prop where
  at_ : ∃ dx a b c, H x = some (.ins C dx (f3 a b c)) ∧ H a = some (.tup (lets (keysOf u))) ∧ H b = some (.dK (encT (ims u))) ∧ H c = some (.tup (lets (chg u))) ∧ H0 a = none ∧ H0 b = none ∧ H0 c = none
theorem MisN.mis {C : Addr} {H0 H : Hp} {x : Addr} {u : Tab} (m : MisN C H0 H x u) : MisAt C H x u := by
  obtain ⟨dx, a, b, c, h1, h2, h3, h4, _⟩ := m.at_
  exact ⟨dx, a, b, c, h1, h2, h3, h4⟩
/-- what stood there is written -/
theorem MisN.write {C d : Addr} {H0 H : Hp} {x : Addr} {u : Tab} {o o' : HO} (m : MisN C H0 H x u) (h : H0 d = some o) (hx : H0 x = none) : MisAt C (upd H d o') x u := by
  obtain ⟨dx, a, b, c, h1, h2, h3, h4, n1, n2, n3⟩ := m.at_
  exact ⟨dx, a, b, c, by rw [upd_ne (ne_of_none h hx).symm]; exact h1, by rw [upd_ne (ne_of_none h n1).symm]; exact h2, by rw [upd_ne (ne_of_none h n2).symm]; exact h3, by rw [upd_ne (ne_of_none h n3).symm]; exact h4⟩
theorem keysOf_sub (u : Tab) : ∀ c ∈ keysOf u, isLt c := fun c h => abc_mem.mp (List.mem_filter.mp h).1
theorem keysOf_len (u : Tab) : (keysOf u).length ≤ 26 := by
  have := List.length_filter_le (fun c => (lookT u c).isSome) abc
  rw [abc_len] at this
  exact this
theorem keysOf_nd (u : Tab) : (keysOf u).Nodup := abc_nd.filter _
def spInit (CM : Addr) : Sp := fun vs H Q _ => ∃ (x dx d : Addr) (cs st : List Nat) (t : Tab), vs = [.ref x, .ref d, .str (Sx st)] ∧ H x = some (.ins CM dx []) ∧ H d = some (.dK (encT t)) ∧ GoodT cs t ∧ ((toldT st t).length ≤ 12 ∧ cs.length ≤ 26) ∧ (∀ c ∈ cs, isLt c) ∧ (∀ c ∈ st, c ∈ cs) ∧ st.length ≤ 500 ∧
  ∀ H', MisN CM H H' x (toldT st t) → (∀ b o, H b = some o → b ≠ x → H' b = some o) → Q .non H'
section
variable {P : Program} {w : World} {K : PySem.W.Frag} {mg : Str → Option Value} {base : Heap} {CM CJ : Addr}
theorem some_put (u : Tab) (i : Nat) (c : Nat) (h : abc[i]? = some c) : (abc.take (i + 1)).filter (fun c => (lookT u c).isSome) = (abc.take i).filter (fun c => (lookT u c).isSome) ++ (if (lookT u c).isSome = true then [c] else []) := by
  rw [List.take_add_one, h, List.filter_append]
  congr 1
  show List.filter _ [c] = _
  by_cases e : (lookT u c).isSome = true
  · rw [if_pos e]
    exact List.filter_eq_self.mpr (fun x hx => by rw [List.mem_singleton.mp hx]; exact e)
  · rw [if_neg e]
    simp [e]
theorem ims_succ {ks : List Nat} {u : Tab} {i : Nat} {s : List Nat} (nd : ks.Nodup) (hi : i < ks.length) (e : (lookT u ks[i]).getD [] = s) : putT ((ks.take i).map fun c => (c, (lookT u c).getD [])) ks[i] s = (ks.take (i + 1)).map fun c => (c, (lookT u c).getD []) := by
  have hn : ¬ (((ks.take i).map fun c => (c, (lookT u c).getD [])).any fun q => decide (q.1 = ks[i])) = true := by
    intro h
    obtain ⟨q, hq, e1⟩ := List.any_eq_true.mp h
    obtain ⟨c, hc, rfl⟩ := List.mem_map.mp hq
    have e2 : c = ks[i] := by simpa using e1
    obtain ⟨j, hj, ej⟩ := List.getElem_of_mem hc
    rw [List.length_take] at hj
    rw [List.getElem_take] at ej
    have : j = i := (List.getElem_inj nd).mp (ej.trans e2)
    omega
  unfold putT
  rw [if_neg hn, List.take_add_one, List.getElem?_eq_getElem hi, List.map_append]
  show _ = _ ++ [(ks[i], (lookT u ks[i]).getD [])]
  rw [e]
theorem chg_succ {u : Tab} {i : Nat} {ks : List Nat} (hi : i < ks.length) : (ks.take (i + 1)).filter (fun c => decide (lookT u c ≠ some [c])) = (ks.take i).filter (fun c => decide (lookT u c ≠ some [c])) ++ (if decide (lookT u ks[i] ≠ some [ks[i]]) = true then [ks[i]] else []) := by
  rw [List.take_add_one, List.getElem?_eq_getElem hi, List.filter_append]
  congr 1
  show List.filter _ [ks[i]] = _
  rw [List.filter_cons]
  rfl
theorem ok_init {f : Addr} {fd : FuncData} {dvs : List V} (F : FunD K "__init__" "Misreading.__init__" (defArgs s_Misreading_init) (defBody s_Misreading_init) (defScope s_Misreading_init) dvs [] f fd) (T : Tx K mg CM CJ) (D_told_images : Df P w K mg base 4 "told_images" spTold) : FnOk P w K mg base CX0 5 f fd ["self", "images", "keeps"] (spInit CM) := by
  refine F.ok sc_Misreading_init (fun vs H Q E h => ?_) (fun cdv A outer s H vs Q E hr h => ?_)
  · obtain ⟨x, dx, d, cs, st, t, rfl, _⟩ := h
    rfl
  · obtain ⟨x, dx, d, cs, st, t, rfl, hx, hd, G, ⟨h12, h26⟩, hlt, hst, hs5, q⟩ := h
    refine ⟨_, (pss_cons (ps_set (i := 3) sc_Misreading_init.nd rfl (.inr rfl) (pe_ifExp (pt_val (pe_callB call_isi (by rfl) T.isinstance (by decide +kernel) (pa_cons (pv 1) (pa_cons (pe_gv T.gJoined (by rfl)) pa_nil)))) (pe_fldK (K := K) rfl (pv 1) rfl) (pe_c D_told_images hr (by decide) (by rfl) (pa_cons (pv 1) (pa_cons (pv 2) pa_nil)))))
      (pss_cons (ps_if (pt_cmpR op_gt (pe_callB call_lenD (by rfl) T.len (by decide +kernel) (pa_cons (pv 3) pa_nil)) (pe_gv T.gMOST_LETTERS (by rfl)) (nomark _))
        (pss_one ps_never)
        pss_nil)
      (pss_cons (ps_fld (pv 0) (pe_callTy (call_tuple_ofK (K := K) rfl) (by rfl) T.tuple (by decide +kernel) (pa_cons (pe_lc (own := [("letter", 4)]) (g := gName 4) (by rfl) sc_Misreading_init.nd (pi_str (pe_gv T.gLETTERS (by rfl))) (blkOk_by (own := [("letter", 4)]) (N := n_Misreading_init) (sc := defScope s_Misreading_init) (by decide +kernel)) (fun _ _ _ _ _ => (pg_name (i := 4) sc_Misreading_init.nd rfl (.inl rfl))) (fun _ _ _ _ _ => (pts_one (pt_cmp (pc_din (hu_of hr) (pv 4) (pv 3))))) (fun _ _ _ _ _ => (pv 4))) pa_nil)) rfl)
      (pss_cons (ps_fld (pv 0) (pe_dc (own := [("letter", 4)]) (g := gName 4) (by rfl) sc_Misreading_init.nd (pi_tup (pe_fldK (K := K) rfl (pv 0) rfl)) (blkOk_by (own := [("letter", 4)]) (N := n_Misreading_init) (sc := defScope s_Misreading_init) (by decide +kernel)) (fun _ _ _ _ _ => (pg_name (i := 4) sc_Misreading_init.nd rfl (.inl rfl))) (fun _ _ _ _ _ => pts_nil) (fun _ _ _ _ _ => (pv 4)) (fun _ _ _ _ _ => (pe_dget (hu_of hr) (pv 3) (pv 4) (fun _ _ => rfl)))) rfl)
      (pss_one (ps_fld (pv 0) (pe_callTy (call_tuple_ofK (K := K) rfl) (by rfl) T.tuple (by decide +kernel) (pa_cons (pe_lc (own := [("letter", 4)]) (g := gName 4) (by rfl) sc_Misreading_init.nd (pi_tup (pe_fldK (K := K) rfl (pv 0) rfl)) (blkOk_by (own := [("letter", 4)]) (N := n_Misreading_init) (sc := defScope s_Misreading_init) (by decide +kernel)) (fun _ _ _ _ _ => (pg_name (i := 4) sc_Misreading_init.nd rfl (.inl rfl))) (fun _ _ _ _ _ => (pts_one (pt_cmpR op_ne (pe_dget (hu_of hr) (pv 3) (pv 4) (fun _ _ => rfl)) (pv 4) (nomark _)))) (fun _ _ _ _ _ => (pv 4))) pa_nil)) rfl)))))), ?_⟩
    have gu := toldT_good hst hlt G
    have lu := h12
    -- told
    refine ⟨_, rfl, _, .ref CJ, .type "dict", .ref CJ, false, rfl, .own _, .base (.dK hd), T.dJ, false, rfl, ?_⟩
    refine iteF ?_
    refine ⟨_, rfl, _, rfl, d, cs, st, t, rfl, hd, G, by omega, hlt, hst, hs5, fun r H1 sm nr hr1 => ?_⟩
    generalize toldT st t = u at gu lu q hr1 ⊢
    have hx1 := sm _ _ hx
    -- len(told) > 12
    refine ⟨_, rfl, r, _, rfl, hr1, _, _, rfl, rfl, _, rfl, ?_⟩
    rw [encT_len, decide_eq_false (by show ¬ ((12 : Int) < (u.length : Int)); omega)]
    refine iteF ?_
    have hx0 : ∀ b o, H b = some o → b ≠ x → H1 b = some o := fun b o e _ => sm b o e
    -- self._letters
    refine ⟨abcS, rfl, fun D nD => lc_it walk_str (fun i H2 => H2 = upd H1 D (.lst (lets ((abc.take i).filter fun c => (lookT u c).isSome)))) rfl (fun _ _ _ _ => trivial) ?_ ?_⟩
    · rintro i z H2 H2' hi rfl ⟨rfl, c, hc, rfl⟩
      have hc' : abc[i]? = some c := by
        rw [← abcS_cps]
        simpa using hc
      have hrD : r ≠ D := ne_of_none hr1 nD
      refine ⟨rfl, _, rfl, _, rfl, r, _, rfl, DGet.k (k := Sum.inr (L1 c)) (by rw [upd_ne hrD]; exact hr1), _, rfl, ?_⟩
      rw [valV_enc]
      have hs := some_put u i c hc'
      by_cases e : (lookT u c).isSome = true
      · have e2 : (Option.map (fun s => V.str (Sx s)) (lookT u c)).isSome = true := by rw [Option.isSome_map]; exact e
        rw [e2]
        refine iteT ?_
        rw [if_pos e] at hs
        refine ⟨_, rfl, lets ((abc.take i).filter fun c => (lookT u c).isSome), upd_same, ?_, ?_⟩
        · rw [lets_len]
          have h1 := List.length_filter_le (fun c => (lookT u c).isSome) (abc.take i)
          have h2 : (abc.take i).length ≤ 26 := by rw [List.length_take, abc_len]; omega
          exact small1000 (by omega)
        · rw [upd_upd, hs, lets_snoc]
          rfl
      · have e2 : (Option.map (fun s => V.str (Sx s)) (lookT u c)).isSome = false := by
          rw [Option.isSome_map]
          exact Bool.eq_false_iff.mpr e
        rw [e2]
        refine iteF ?_
        rw [if_neg e, List.append_nil] at hs
        rw [hs]
    · rintro H2 rfl
      have hsz : abcS.cps.size = 26 := by decide +kernel
      rw [hsz]
      have ek : (abc.take 26).filter (fun c => (lookT u c).isSome) = keysOf u := by
        rw [List.take_of_length_le (by rw [abc_len]; exact Nat.le_refl _)]
        rfl
      rw [ek]
      refine ⟨D, _, rfl, .inl ⟨SqL.of upd_same, fun a na => ?_⟩⟩
      have hxD : x ≠ D := ne_of_none hx1 nD
      have hxa : x ≠ a := ne_of_none (H := upd H1 D (.lst (lets (keysOf u)))) (o := .ins CM dx []) (by rw [upd_ne hxD]; exact hx1) na
      have hrD : r ≠ D := ne_of_none hr1 nD
      have hra : r ≠ a := ne_of_none (H := upd H1 D (.lst (lets (keysOf u)))) (o := .dK (encT u)) (by rw [upd_ne hrD]; exact hr1) na
      have hrx : r ≠ x := ne_of hr1 hx1 (fun z => nomatch z)
      refine ⟨_, rfl, x, CM, dx, [], rfl, by rw [upd_ne hxa, upd_ne hxD]; exact hx1, T.cl, T.nL, by show 0 < 1000; decide, ?_⟩
      have fr3 : ∀ b o, H b = some o → b ≠ x → upd (upd (upd H1 D (.lst (lets (keysOf u)))) a (.tup (lets (keysOf u)))) x (.ins CM dx (f1 a)) b = some o := fun b o e hb => by
        have e1 := sm b o e
        have hbD := ne_of_none e1 nD
        rw [upd_ne hb, upd_ne (ne_of_none (H := upd H1 D (.lst (lets (keysOf u)))) (o := o) (by rw [upd_ne hbD]; exact e1) na), upd_ne hbD]
        exact e1
      have hx3 : upd (upd (upd H1 D (.lst (lets (keysOf u)))) a (.tup (lets (keysOf u)))) x (.ins CM dx (f1 a)) x = some (.ins CM dx (f1 a)) := upd_same
      have ha3 : upd (upd (upd H1 D (.lst (lets (keysOf u)))) a (.tup (lets (keysOf u)))) x (.ins CM dx (f1 a)) a = some (.tup (lets (keysOf u))) := by rw [upd_ne (Ne.symm hxa), upd_same]
      have hr3 : upd (upd (upd H1 D (.lst (lets (keysOf u)))) a (.tup (lets (keysOf u)))) x (.ins CM dx (f1 a)) r = some (.dK (encT u)) := by rw [upd_ne hrx, upd_ne hra, upd_ne hrD]; exact hr1
      show tSeq _ _ _ _ (upd (upd (upd H1 D (.lst (lets (keysOf u)))) a (.tup (lets (keysOf u)))) x (.ins CM dx (f1 a)))
      generalize upd (upd (upd H1 D (.lst (lets (keysOf u)))) a (.tup (lets (keysOf u)))) x (.ins CM dx (f1 a)) = H3 at fr3 hx3 ha3 hr3 ⊢
      have naH : H a = none := by
        cases e : H a with
        | none => rfl
        | some o =>
          have e1 := sm _ _ e
          have e2 : upd H1 D (.lst (lets (keysOf u))) a = some o := by rw [upd_ne (ne_of_none e1 nD)]; exact e1
          rw [e2] at na
          cases na
      clear na nD hxD hxa hrD hra
      -- self._images
      refine ⟨_, rfl, x, CM, dx, _, _, rfl, hx3, T.cl, T.nL, f1_L a, a, rfl, ⟨_, .inl (.inl ha3)⟩, fun D2 nD2 => dc_it (walk_tup (K := K) (a := a) (xs := lets (keysOf u))) (fun i H4 => H4 = upd H3 D2 (.dK (encT (((keysOf u).take i).map fun c => (c, (lookT u c).getD []))))) rfl ?_ ?_ ?_⟩
      · rintro i H4 hi rfl
        exact .inl (.inl (by rw [upd_ne (ne_of_none ha3 nD2)]; exact ha3))
      · rintro i z H4 H4' hi rfl ⟨rfl, hz⟩
        obtain ⟨hik, rfl⟩ := lets_get hz
        obtain ⟨s, es⟩ := Option.isSome_iff_exists.mp (List.mem_filter.mp (List.getElem_mem hik)).2
        refine ⟨rfl, _, rfl, _, rfl, _, rfl, r, V.str (Sx s), rfl, .inl ⟨_, Sum.inr (L1 (keysOf u)[i]), .inl (by rw [upd_ne (ne_of_none hr3 nD2)]; exact hr3), rfl, by rw [valV_enc, es]; rfl⟩, _, Sum.inr (L1 (keysOf u)[i]), rfl, upd_same, ?_, ?_⟩
        · rw [encT_len, List.length_map, List.length_take]
          have := keysOf_len u
          exact small1000 (by omega)
        · rw [upd_upd, putK_enc]
          congr 3
          exact ims_succ (keysOf_nd u) hik (by rw [es]; rfl)
      · rintro H4 rfl
        rw [lets_len, List.take_length]
        have hxD2 : x ≠ D2 := ne_of_none hx3 nD2
        have haD2 : a ≠ D2 := ne_of_none ha3 nD2
        have hrD2 : r ≠ D2 := ne_of_none hr3 nD2
        refine ⟨_, rfl, x, CM, dx, f1 a, rfl, by rw [upd_ne hxD2]; exact hx3, T.cl, T.nI, f1_len a, ?_⟩
        have hax : a ≠ x := ne_of ha3 hx3 (fun z => nomatch z)
        have nbH : H D2 = none := by
          cases e : H D2 with
          | none => rfl
          | some o =>
            have e1 := fr3 _ _ e (Ne.symm hxD2)
            rw [e1] at nD2
            cases nD2
        have fr5 : ∀ b o, H b = some o → b ≠ x → upd (upd H3 D2 (.dK (encT (ims u)))) x (.ins CM dx (f2 a D2)) b = some o := fun b o e hb => by
          have e1 := fr3 b o e hb
          rw [upd_ne hb, upd_ne (ne_of_none e1 nD2)]
          exact e1
        have hx5 : upd (upd H3 D2 (.dK (encT (ims u)))) x (.ins CM dx (f2 a D2)) x = some (.ins CM dx (f2 a D2)) := upd_same
        have ha5 : upd (upd H3 D2 (.dK (encT (ims u)))) x (.ins CM dx (f2 a D2)) a = some (.tup (lets (keysOf u))) := by rw [upd_ne hax, upd_ne haD2]; exact ha3
        have hr5 : upd (upd H3 D2 (.dK (encT (ims u)))) x (.ins CM dx (f2 a D2)) r = some (.dK (encT u)) := by rw [upd_ne hrx, upd_ne hrD2]; exact hr3
        have hd5 : upd (upd H3 D2 (.dK (encT (ims u)))) x (.ins CM dx (f2 a D2)) D2 = some (.dK (encT (ims u))) := by rw [upd_ne (Ne.symm hxD2), upd_same]
        show Ends.nx _ _ (upd (upd H3 D2 (.dK (encT (ims u)))) x (.ins CM dx (f2 a D2)))
        generalize upd (upd H3 D2 (.dK (encT (ims u)))) x (.ins CM dx (f2 a D2)) = H5 at fr5 hx5 ha5 hr5 hd5 ⊢
        -- self.changed
        refine ⟨_, rfl, x, CM, dx, _, _, rfl, hx5, T.cl, T.nL, f2_L a D2, a, rfl, ⟨_, .inl (.inl ha5)⟩, fun D3 nD3 => lc_it (walk_tup (K := K) (a := a) (xs := lets (keysOf u))) (fun i H6 => H6 = upd H5 D3 (.lst (lets (((keysOf u).take i).filter fun c => decide (lookT u c ≠ some [c]))))) rfl ?_ ?_ ?_⟩
        · rintro i H6 hi rfl
          exact .inl (.inl (by rw [upd_ne (ne_of_none ha5 nD3)]; exact ha5))
        · rintro i z H6 H6' hi rfl ⟨rfl, hz⟩
          obtain ⟨hik, rfl⟩ := lets_get hz
          obtain ⟨s, es⟩ := Option.isSome_iff_exists.mp (List.mem_filter.mp (List.getElem_mem hik)).2
          refine ⟨rfl, _, rfl, _, rfl, r, V.str (Sx s), rfl, .inl ⟨_, Sum.inr (L1 (keysOf u)[i]), .inl (by rw [upd_ne (ne_of_none hr5 nD3)]; exact hr5), rfl, by rw [valV_enc, es]; rfl⟩, _, rfl, rfl, _, rfl, ?_⟩
          have hs := chg_succ (u := u) hik
          by_cases e : s = [(keysOf u)[i]]
          · have e1 : lookT u (keysOf u)[i] = some [(keysOf u)[i]] := by rw [es, e]
            rw [if_neg (by simp [e1]), List.append_nil] at hs
            rw [decide_eq_true (show V.str (Sx s) = V.str (L1 (keysOf u)[i]) by rw [e]; rfl)]
            refine iteF ?_
            rw [hs]
          · have e1 : ¬ lookT u (keysOf u)[i] = some [(keysOf u)[i]] := by
              rw [es]
              exact fun z => e (Option.some.inj z)
            rw [if_pos (by simpa using e1)] at hs
            rw [decide_eq_false (show ¬ V.str (Sx s) = V.str (L1 (keysOf u)[i]) from fun z => e (Sx_inj (V.str.inj z)))]
            refine iteT ?_
            refine ⟨_, rfl, _, upd_same, ?_, ?_⟩
            · rw [lets_len]
              have h1 := List.length_filter_le (fun c => decide (lookT u c ≠ some [c])) ((keysOf u).take i)
              have h2 := keysOf_len u
              have h3 : ((keysOf u).take i).length ≤ (keysOf u).length := by rw [List.length_take]; omega
              exact small1000 (by omega)
            · rw [upd_upd, hs, lets_snoc]
        · rintro H6 rfl
          rw [lets_len, List.take_length]
          refine ⟨D3, _, rfl, .inl ⟨SqL.of upd_same, fun c nc => ?_⟩⟩
          have hxD3 : x ≠ D3 := ne_of_none hx5 nD3
          have up : ∀ b o, H5 b = some o → upd (upd H5 D3 (.lst (lets (chg u)))) c (.tup (lets (chg u))) b = some o := fun b o e => by
            have hb := ne_of_none e nD3
            rw [upd_ne (ne_of_none (H := upd H5 D3 (.lst (lets (chg u)))) (o := o) (by rw [upd_ne hb]; exact e) nc), upd_ne hb]
            exact e
          have hxc : x ≠ c := ne_of_none (H := upd H5 D3 (.lst (lets (chg u)))) (o := .ins CM dx (f2 a D2)) (by rw [upd_ne hxD3]; exact hx5) nc
          refine ⟨_, rfl, x, CM, dx, f2 a D2, rfl, up _ _ hx5, T.cl, T.nC, f2_len a D2, ?_⟩
          have ncH : H c = none := by
            have nc' : upd H5 D3 (.lst (lets (chg u))) c = none := nc
            cases e : H c with
            | none => rfl
            | some o =>
              have e3 := fr5 _ _ e (Ne.symm hxc)
              have e2 : upd H5 D3 (.lst (lets (chg u))) c = some o := by
                rw [upd_ne (ne_of_none e3 nD3)]
                exact e3
              rw [e2] at nc'
              cases nc'
          have hD2x : D2 ≠ x := ne_of hd5 hx5 (fun z => nomatch z)
          refine q _ ⟨dx, a, D2, c, upd_same, ?_, ?_, ?_, naH, nbH, ncH⟩ fun b o e hb => ?_
          · rw [upd_ne hax]
            exact up _ _ ha5
          · rw [upd_ne hD2x]
            exact up _ _ hd5
          · rw [upd_ne (Ne.symm hxc)]
            exact upd_same
          · rw [upd_ne hb]
            exact up _ _ (fr5 b o e hb)
end
end V8

set_option Elab.async false
set_option linter.all false
set_option maxRecDepth 100000
set_option maxHeartbeats 8000000
/-! Misreading: in, len, iteration, [ ]. -/
namespace V8
open PySem PySem.Spec PyProof.Rows L2
theorem lookT_map (f : Nat → List Nat) (c : Nat) : ∀ ks : List Nat, lookT (ks.map fun c => (c, f c)) c = if c ∈ ks then some (f c) else none
  | [] => by rw [if_neg List.not_mem_nil]; rfl
  | k :: ks => by
    have ih := lookT_map f c ks
    unfold lookT at ih ⊢
    rw [List.map_cons, List.find?_cons]
    by_cases h : k = c
    · subst h
      simp
    · simp only [h, decide_false]
      have e : (c ∈ k :: ks) ↔ c ∈ ks := by
        simp [Ne.symm h]
      rw [ih]
      by_cases h2 : c ∈ ks
      · rw [if_pos h2, if_pos (e.mpr h2)]
      · rw [if_neg h2, if_neg (fun z => h2 (e.mp z))]
theorem look_ims (u : Tab) (c : Nat) : lookT (ims u) c = if c ∈ keysOf u then some ((lookT u c).getD []) else none := lookT_map _ c _
theorem keysOf_mem {u : Tab} {c : Nat} : c ∈ keysOf u ↔ c ∈ abc ∧ (lookT u c).isSome = true := List.mem_filter
theorem look_ims_some {u : Tab} {c : Nat} (h : c ∈ keysOf u) : lookT (ims u) c = lookT u c := by
  rw [look_ims, if_pos h]
  obtain ⟨s, e⟩ := Option.isSome_iff_exists.mp (keysOf_mem.mp h).2
  rw [e]
  rfl
structure Ty (K : PySem.W.Frag) (mg : Str → Option Value) (CM CJ : Addr) : Prop extends Tx K mg CM CJ where
  mM : PySem.W.kitOne K (.ref CM) (.ref CM) = some true
  MJ : PySem.W.kitOne K (.ref CM) (.ref CJ) = some false
  Ms : PySem.W.kitOne K (.ref CM) (.type "str") = some false
  ls : PySem.W.kitOne K (.type "list") (.type "str") = some false
def spIn (K : PySem.W.Frag) (CM : Addr) : Sp := fun vs H Q _ => ∃ (x : Addr) (u : Tab) (y : V), vs = [.ref x, y] ∧ MisAt CM H x u ∧ ((∃ c, y = .str (L1 c) ∧ Q (.bl (decide (c ∈ keysOf u))) H) ∨ (∃ z, y = .str z ∧ z.length ≤ sizeLine ∧ z.length ≠ 1 ∧ Q (.bl false) H) ∨
  (∃ t, TyX K H y t ∧ PySem.W.kitOne K t (.type "str") = some false ∧ Q (.bl false) H))
def spLen (CM : Addr) : Sp := fun vs H Q _ => ∃ (x : Addr) (u : Tab), vs = [.ref x] ∧ MisAt CM H x u ∧ Q (.int (keysOf u).length) H
def spGet (CM : Addr) : Sp := fun vs H Q _ => ∃ (x : Addr) (u : Tab) (c : Nat) (s : List Nat), vs = [.ref x, .str (L1 c)] ∧ MisAt CM H x u ∧ c ∈ keysOf u ∧ lookT u c = some s ∧ Q (.str (Sx s)) H
def snIter (CM : Addr) : Nat → Sp := fun n vs H Q _ => ∃ (x : Addr) (u : Tab), vs = [.ref x] ∧ MisAt CM H x u ∧ ∀ it a, H it = none → n ≤ it → H a = some (.tup (lets (keysOf u))) → Q (.ref it) (upd H it (ItT a it))
section
variable {P : Program} {w : World} {K : PySem.W.Frag} {mg : Str → Option Value} {base : Heap} {CM CJ : Addr}
theorem ok_in {f : Addr} {fd : FuncData} (F : Fun K "__contains__" "Misreading.__contains__" s_Misreading_contains f fd) (T : Tx K mg CM CJ) (D_is_letter : Df P w K mg base 1 "is_letter" (spIsLetter K)) : FnOk P w K mg base CX0 2 f fd ["self", "x"] (spIn K CM) := by
  refine F.ok sc_Misreading_contains (fun vs H Q E h => ?_) (fun cdv A outer s H vs Q E hr h => ?_)
  · obtain ⟨x, u, y, rfl, _⟩ := h
    rfl
  · obtain ⟨x, u, y, rfl, ⟨dx, a, b, c', hx, ha, hb, hc⟩, h⟩ := h
    refine ⟨_, (pss_one (ps_ret (pe_and (pe_c D_is_letter hr (by decide) (by rfl) (pa_cons (pv 1) pa_nil)) (pe_one (pe_cmp (pc_din (hu_of hr) (pv 1) (pe_fldK (K := K) rfl (pv 0) rfl)) rfl))))), ?_⟩
    rcases h with ⟨c, rfl, q⟩ | ⟨z, rfl, hz, h1, q⟩ | ⟨t, ty, e, q⟩
    · refine ⟨_, rfl, _, rfl, .inl ⟨c, rfl, _, rfl, ?_⟩⟩
      by_cases e : c ∈ abc
      · rw [decide_eq_true e]
        refine iteT ?_
        refine ⟨_, rfl, _, rfl, x, CM, dx, _, _, rfl, hx, T.cl, T.nI, f3_I a b c', b, _, rfl, DGet.k (k := Sum.inr (L1 c)) hb, ?_⟩
        rw [valV_enc, Option.isSome_map, look_ims]
        by_cases h : c ∈ keysOf u
        · rw [if_pos h]
          rw [decide_eq_true h] at q
          exact q
        · rw [if_neg h]
          rw [decide_eq_false h] at q
          exact q
      · rw [decide_eq_false e]
        refine iteF ?_
        rw [decide_eq_false (fun h => e (keysOf_mem.mp h).1)] at q
        exact q
    · refine ⟨_, rfl, _, rfl, .inr (.inl ⟨z, rfl, hz, h1, _, rfl, ?_⟩)⟩
      exact q
    · refine ⟨_, rfl, _, rfl, .inr (.inr ⟨t, ty, e, _, rfl, ?_⟩)⟩
      exact q
theorem ok_len {f : Addr} {fd : FuncData} (F : Fun K "__len__" "Misreading.__len__" s_Misreading_len f fd) (T : Tx K mg CM CJ) : FnOk P w K mg base CX0 1 f fd ["self"] (spLen CM) := by
  refine F.ok sc_Misreading_len (fun vs H Q E h => ?_) (fun cdv A outer s H vs Q E hr h => ?_)
  · obtain ⟨x, u, rfl, _⟩ := h
    rfl
  · obtain ⟨x, u, rfl, ⟨dx, a, b, c, hx, ha, hb, hc⟩, q⟩ := h
    refine ⟨_, (pss_one (ps_ret (pe_callB (call_len_seqK (K := K) rfl) (by rfl) T.len (by decide +kernel) (pa_cons (pe_fldK (K := K) rfl (pv 0) rfl) pa_nil)))), ?_⟩
    refine ⟨_, rfl, x, CM, dx, _, _, rfl, hx, T.cl, T.nL, f3_L a b c, a, _, rfl, .inr (.inl (.inl ha)), ?_⟩
    rw [lets_len]
    exact q
theorem ok_get {f : Addr} {fd : FuncData} (F : Fun K "__getitem__" "Misreading.__getitem__" s_Misreading_getitem f fd) (T : Tx K mg CM CJ) (D_is_letter : Df P w K mg base 1 "is_letter" (spIsLetter K)) : FnOk P w K mg base CX0 2 f fd ["self", "at"] (spGet CM) := by
  refine F.ok sc_Misreading_getitem (fun vs H Q E h => ?_) (fun cdv A outer s H vs Q E hr h => ?_)
  · obtain ⟨x, u, c, z, rfl, _⟩ := h
    rfl
  · obtain ⟨x, u, c, z, rfl, ⟨dx, a, b, c', hx, ha, hb, hc⟩, hm, hl, q⟩ := h
    refine ⟨_, (pss_cons (ps_if (pt_not (pt_val (pe_c D_is_letter hr (by decide) (by rfl) (pa_cons (pv 1) pa_nil))))
        (pss_one ps_never)
        pss_nil)
      (pss_cons (ps_if (pt_cmp (pc_dnotin (hu_of hr) (pv 1) (pe_fldK (K := K) rfl (pv 0) rfl)))
        (pss_one ps_never)
        pss_nil)
      (pss_one (ps_ret (pe_dget (hu_of hr) (pe_fldK (K := K) rfl (pv 0) rfl) (pv 1) (fun _ _ => rfl)))))), ?_⟩
    refine ⟨_, rfl, _, rfl, .inl ⟨c, rfl, ?_⟩⟩
    rw [decide_eq_true (keysOf_mem.mp hm).1]
    refine ⟨true, rfl, iteF ?_⟩
    refine ⟨_, rfl, _, rfl, x, CM, dx, _, _, rfl, hx, T.cl, T.nI, f3_I a b c', b, _, rfl, DGet.k (k := Sum.inr (L1 c)) hb, _, rfl, ?_⟩
    rw [valV_enc, Option.isSome_map, look_ims_some hm, hl]
    refine iteF ?_
    refine ⟨_, rfl, x, CM, dx, _, _, rfl, hx, T.cl, T.nI, f3_I a b c', _, rfl, b, V.str (Sx z), rfl, .inl ⟨_, Sum.inr (L1 c), .inl hb, rfl, by rw [valV_enc, look_ims_some hm, hl]; rfl⟩, ?_⟩
    exact q
end
end V8

set_option Elab.async false
set_option linter.all false
set_option maxRecDepth 100000
set_option maxHeartbeats 8000000
/-! Misreading: iteration, ==, str. -/
namespace V8
open PySem PySem.Spec PyProof.Rows L2
/-- the same images -/
def eqM (u v : Tab) : Prop := ∀ c ∈ abc, lookT u c = lookT v c
instance (u v : Tab) : Decidable (eqM u v) := inferInstanceAs (Decidable (∀ c ∈ abc, lookT u c = lookT v c))
theorem strs_enc (t : Tab) : Strs (encT t) := fun p hp => by
  obtain ⟨q, _, rfl⟩ := List.mem_map.mp hp
  exact ⟨_, rfl⟩
theorem keysOf_congr {u v : Tab} (h : eqM u v) : keysOf u = keysOf v := List.filter_congr fun c hc => by rw [h c hc]
theorem ims_len (u : Tab) : (ims u).length = (keysOf u).length := List.length_map ..
theorem sameD_ims (u v : Tab) : sameD (encT (ims u)) (encT (ims v)) = decide (eqM u v) := by
  unfold sameD
  rw [encT_len, encT_len, ims_len, ims_len]
  have e1 : ((encT (ims u)).all fun p => decide (valV (encT (ims v)) p.1 = some p.2)) = decide (∀ c ∈ keysOf u, lookT (ims v) c = lookT u c) := by
    rw [Bool.eq_iff_iff, List.all_eq_true, decide_eq_true_iff]
    constructor
    · intro h c hc
      obtain ⟨s, es⟩ := Option.isSome_iff_exists.mp (keysOf_mem.mp hc).2
      have hm : ((Sum.inr (L1 c) : Key), V.str (Sx s)) ∈ encT (ims u) := List.mem_map.mpr ⟨(c, (lookT u c).getD []), List.mem_map.mpr ⟨c, hc, rfl⟩, by rw [es]; rfl⟩
      have z := of_decide_eq_true (h _ hm)
      rw [valV_enc] at z
      cases e : lookT (ims v) c with
      | none =>
        rw [e] at z
        cases z
      | some s2 =>
        rw [e] at z
        have z2 : V.str (Sx s2) = V.str (Sx s) := Option.some.inj z
        rw [es, Sx_inj (V.str.inj z2)]
    · intro h p hp
      obtain ⟨q, hq, rfl⟩ := List.mem_map.mp hp
      obtain ⟨c, hc, rfl⟩ := List.mem_map.mp hq
      obtain ⟨s, es⟩ := Option.isSome_iff_exists.mp (keysOf_mem.mp hc).2
      rw [decide_eq_true_iff]
      show valV (encT (ims v)) (Sum.inr (L1 c)) = _
      rw [valV_enc, h c hc, es]
      rfl
  rw [e1]
  by_cases h : eqM u v
  · rw [decide_eq_true h, keysOf_congr h, beq_self_eq_true, Bool.true_and, decide_eq_true_iff]
    intro c hc
    have h2 := h c (keysOf_mem.mp hc).1
    rw [look_ims_some hc, h2]
  · rw [decide_eq_false h]
    rw [Bool.and_eq_false_iff]
    by_cases l : (keysOf u).length = (keysOf v).length
    · right
      rw [decide_eq_false]
      intro z
      refine h fun c hc => ?_
      have sub : ∀ c ∈ keysOf u, c ∈ keysOf v := fun c hc => by
        have e := z c hc
        rw [look_ims] at e
        by_cases m : c ∈ keysOf v
        · exact m
        · rw [if_neg m] at e
          have := (keysOf_mem.mp hc).2
          rw [← e] at this
          cases this
      have ek : (keysOf v).filter (fun c => (lookT u c).isSome) = keysOf u := by
        unfold keysOf
        rw [List.filter_filter]
        refine List.filter_congr fun c hc => ?_
        by_cases m : (lookT u c).isSome = true
        · have := (keysOf_mem.mp (sub c (keysOf_mem.mpr ⟨hc, m⟩))).2
          rw [m, this]
          rfl
        · rw [Bool.eq_false_iff.mpr m]
          rfl
      have es : (keysOf v).filter (fun c => (lookT u c).isSome) = keysOf v := List.filter_sublist.eq_of_length (by rw [ek, l])
      have ee : keysOf u = keysOf v := ek.symm.trans es
      by_cases m : c ∈ keysOf u
      · rw [← z c m, look_ims_some (ee ▸ m)]
      · have m2 : ¬ c ∈ keysOf v := ee ▸ m
        have n1 : lookT u c = none := by
          cases e : lookT u c with
          | none => rfl
          | some s => exact absurd (keysOf_mem.mpr ⟨hc, by rw [e]; rfl⟩) m
        have n2 : lookT v c = none := by
          cases e : lookT v c with
          | none => rfl
          | some s => exact absurd (keysOf_mem.mpr ⟨hc, by rw [e]; rfl⟩) m2
        rw [n1, n2]
    · left
      exact beq_eq_false_iff_ne.mpr l
def spEq (K : PySem.W.Frag) (CM : Addr) : Sp := fun vs H Q _ => ∃ (x : Addr) (u : Tab) (y : V), vs = [.ref x, y] ∧ MisAt CM H x u ∧ ((∃ z v, y = .ref z ∧ MisAt CM H z v ∧ Q (.bl (decide (eqM u v))) H) ∨ (∃ t, TyX K H y t ∧ PySem.W.kitOne K t (.ref CM) = some false ∧ Q (.bl false) H))
section
variable {P : Program} {w : World} {K : PySem.W.Frag} {mg : Str → Option Value} {base : Heap} {CM CJ : Addr}
theorem ok_iter {f : Addr} {fd : FuncData} (F : Fun K "__iter__" "Misreading.__iter__" s_Misreading_iter f fd) (T : Tx K mg CM CJ) : FnN P w K mg base CX0 1 f fd ["self"] (snIter CM) := by
  refine fnN_mk F sc_Misreading_iter (fun n vs H Q E h => ?_) (fun cdv A outer s H vs Q E hr h => ?_)
  · obtain ⟨x, u, rfl, _⟩ := h
    rfl
  · obtain ⟨x, u, rfl, ⟨dx, a, b, c, hx, ha, hb, hc⟩, q⟩ := h
    refine ⟨_, (pss_one (ps_ret (pe_callB call_iterT (by rfl) T.iter (by decide +kernel) (pa_cons (pe_fldK (K := K) rfl (pv 0) rfl) pa_nil)))), ?_⟩
    refine ⟨_, rfl, x, CM, dx, _, _, rfl, hx, T.cl, T.nL, f3_L a b c, a, _, rfl, .inl (.inl ha), fun it ni hi => ?_⟩
    exact q it a ni hi ha
theorem ok_eq {f : Addr} {fd : FuncData} (F : Fun K "__eq__" "Misreading.__eq__" s_Misreading_eq f fd) (T : Ty K mg CM CJ) : FnOk P w K mg base CX0 1 f fd ["self", "other"] (spEq K CM) := by
  refine F.ok sc_Misreading_eq (fun vs H Q E h => ?_) (fun cdv A outer s H vs Q E hr h => ?_)
  · obtain ⟨x, u, y, rfl, _⟩ := h
    rfl
  · obtain ⟨x, u, y, rfl, ⟨dx, a, b, c', hx, ha, hb, hc⟩, h⟩ := h
    refine ⟨_, (pss_one (ps_ret (pe_and (pe_callB call_isi (by rfl) T.isinstance (by decide +kernel) (pa_cons (pv 1) (pa_cons (pe_gv T.gMisreading (by rfl)) pa_nil))) (pe_one (pe_cmpR (op_eqDT (hu_of hr)) (pe_fldK (K := K) rfl (pv 0) rfl) (pe_fldK (K := K) rfl (pv 1) rfl) (nomark _)))))), ?_⟩
    rcases h with ⟨z, v, rfl, ⟨dx2, a2, b2, c2, hx2, ha2, hb2, hc2⟩, q⟩ | ⟨t, ty, e, q⟩
    · refine ⟨_, rfl, _, .ref CM, .ref CM, .ref CM, true, rfl, .own _, .base (.ins hx2 T.cl T.tA T.tB T.tC T.tD), T.mM, true, rfl, ?_⟩
      refine iteT ?_
      refine ⟨_, rfl, x, CM, dx, _, _, rfl, hx, T.cl, T.nI, f3_I a b c', _, rfl, z, CM, dx2, _, _, rfl, hx2, T.cl, T.nI, f3_I a2 b2 c2, b, b2, _, _, rfl, rfl, .inl hb, .inl hb2, strs_enc _, strs_enc _, ?_⟩
      rw [sameD_ims]
      exact q
    · refine ⟨_, rfl, y, .ref CM, t, .ref CM, false, rfl, .own _, ty, e, false, rfl, ?_⟩
      exact iteF q
end
end V8

set_option Elab.async false
set_option linter.all false
set_option maxRecDepth 100000
set_option maxHeartbeats 8000000
/-! The pen made; what is due. -/
namespace V8
open PySem PySem.Spec PyProof.Rows L2
def spPen (K : PySem.W.Frag) : Sp := fun vs H Q _ => ∃ (a : Addr) (ns : List Int), vs = [.ref a] ∧ SqL K H a (ns.map V.int) ∧ ns.length ≤ 63 ∧ ∀ (p l : Addr) (H' : Hp), H p = none → Same H H' → PenAt H' p l ns 1000000 → Q (.ref p) H'
section
variable {P : Program} {w : World} {K : PySem.W.Frag} {mg : Str → Option Value} {base : Heap} {CM CJ : Addr}
theorem ok_pen {f : Addr} {fd : FuncData} (F : Fun K "_law_pen" "_law_pen" s_pen f fd) (T : Blt mg) : FnOk P w K mg base CX0 1 f fd ["_law_script"] (spPen K) := by
  refine F.ok sc_pen (fun vs H Q E h => ?_) (fun cdv A outer s H vs Q E hr h => ?_)
  · obtain ⟨a, ns, rfl, _⟩ := h
    rfl
  · obtain ⟨a, ns, rfl, hS, hn, q⟩ := h
    refine ⟨_, (pss_one (ps_ret (pe_lst (pa_cons (pe_callTy (call_list_ofK (K := K) rfl) (by rfl) T.list (by decide +kernel) (pa_cons (pe_slice (sl_listK (K := K) rfl) (pv 0) po_none (po_some pe_int)) pa_nil)) (pa_cons pe_int (pa_cons pe_int pa_nil)))))), ?_⟩
    refine ⟨_, rfl, 63, rfl, a, ns.map V.int, rfl, hS, fun l1 n1 => ?_⟩
    have hc : cutV (ns.map V.int) none (some 63) = ns.map V.int := by
      have e : HT.sIx (ns.map V.int).length (ns.map V.int).length (some 63) = (ns.map V.int).length := by
        show HT.sIx _ _ (some ((63 : Nat) : Int)) = _
        rw [HT.sIx_nat, List.length_map]
        omega
      unfold cutV
      rw [HT.sIx_none, List.drop_zero, e]
      exact List.take_of_length_le (Nat.le_refl _)
    rw [hc]
    refine ⟨l1, ns.map V.int, rfl, .inl (SqL.of upd_same), fun l n2 => ⟨by show 3 ≤ sizeLine; decide, fun p n3 => ?_⟩⟩
    have h1 : l1 ≠ l := ne_of_none upd_same n2
    have hl : l ≠ p := ne_of_none upd_same n3
    have n2H : upd H l1 (.lst (ns.map V.int)) l = none := n2
    have sm : Same H (upd (upd (upd H l1 (.lst (ns.map V.int))) l (.lst (ns.map V.int))) p (.lst [.ref l, .int 0, .int 0])) := fun b o e => by
      have b1 := ne_of_none e n1
      have e1 : upd H l1 (.lst (ns.map V.int)) b = some o := by rw [upd_ne b1]; exact e
      have b2 := ne_of_none e1 n2
      have e2 : upd (upd H l1 (.lst (ns.map V.int))) l (.lst (ns.map V.int)) b = some o := by rw [upd_ne b2]; exact e1
      rw [upd_ne (ne_of_none e2 n3)]
      exact e2
    refine q p l _ ?_ sm ⟨⟨0, 0, upd_same, by omega, by omega, by omega⟩, by rw [upd_ne hl]; exact upd_same, hl, hn⟩
    cases e : H p with
    | none => rfl
    | some o =>
      have b1 := ne_of_none e n1
      have e1 : upd H l1 (.lst (ns.map V.int)) p = some o := by rw [upd_ne b1]; exact e
      have b2 := ne_of_none e1 n2
      rw [upd_ne b2, e1] at n3
      cases n3
end
end V8

set_option Elab.async false
set_option linter.all false
set_option maxRecDepth 100000
set_option maxHeartbeats 8000000
/-! Misreadings made by the class's name; same. -/
namespace V8
open PySem PySem.Spec PyProof.Rows L2
def mkR (CM : Addr) : List V → Hp → VK → Prop := fun vs H Q => ∃ (d : Addr) (cs st : List Nat) (t : Tab), vs = [.ref d, .str (Sx st)] ∧ H d = some (.dK (encT t)) ∧ GoodT cs t ∧ ((toldT st t).length ≤ 12 ∧ cs.length ≤ 26) ∧ (∀ c ∈ cs, isLt c) ∧ (∀ c ∈ st, c ∈ cs) ∧ st.length ≤ 500 ∧
  ∀ x H', H x = none → MisN CM H H' x (toldT st t) → Same H H' → Q (.ref x) H'
theorem misn_of {C : Addr} {H H' : Hp} {x dx : Addr} {u : Tab} {o o' : HO} (m : MisN C (upd (upd H dx o) x o') H' x u) (hx : H x = none) (hdx : H dx = none) : MisN C H H' x u := by
  obtain ⟨ex, a, b, c, h1, h2, h3, h4, n1, n2, n3⟩ := m.at_
  have back : ∀ b, upd (upd H dx o) x o' b = none → H b = none := fun b n => by
    cases e : H b with
    | none => rfl
    | some z =>
      rw [upd_ne (ne_of_none e hx), upd_ne (ne_of_none e hdx), e] at n
      cases n
  exact ⟨ex, a, b, c, h1, h2, h3, h4, back _ n1, back _ n2, back _ n3⟩
theorem mk_of {CM : Addr} {vs : List V} {H : Hp} {Q : VK} {E : XK} (h : mkR CM vs H Q) : ∀ x dx, H x = none → H dx = none → dx ≠ x → spInit CM (.ref x :: vs) (upd (upd H dx (.own x)) x (.ins CM dx [])) (fun v H2 => v = .non ∧ Q (.ref x) H2) E := by
  obtain ⟨d, cs, st, t, rfl, hd, G, h12, hlt, hst, hs5, q⟩ := h
  intro x dx hx hdx ne
  have hd2 : upd (upd H dx (.own x)) x (.ins CM dx []) d = some (.dK (encT t)) := by
    rw [upd_ne (ne_of_none hd hx), upd_ne (ne_of_none hd hdx)]
    exact hd
  refine ⟨x, dx, d, cs, st, t, rfl, upd_same, hd2, G, h12, hlt, hst, hs5, fun H' m fr => ⟨rfl, q x H' hx (misn_of m hx hdx) fun b o e => ?_⟩⟩
  have bx := ne_of_none e hx
  refine fr b o ?_ bx
  rw [upd_ne bx, upd_ne (ne_of_none e hdx)]
  exact e
def pI : List Str := ["self", "images", "keeps"]
/-- the class by its name -/
structure Mkr (P : Program) (w : World) (K : PySem.W.Frag) (mg : Str → Option Value) (base : Heap) (CM : Addr) : Prop where
  ex : ∃ (f : Addr) (fd : FuncData), Mk K CM f ∧ FnOk P w K mg base CX0 5 f fd pI (spInit CM) ∧ mg "Misreading" = some (.ref CM) ∧ Binds K fd pI [] ∧ (∃ ds, Vals [.str (Sx [])] ds ∧ Binds K fd pI ds) ∧
    KBn K fd pI 1 ["keeps", "images"] (fun us ws => us ++ ws.reverse) (fun vs zs => vs ++ zs.reverse) ∧ (∃ its : List Value, KBn K fd pI 1 ["images"] (fun us ws => us ++ ws ++ its) (fun vs zs => vs ++ zs ++ [.str (Sx [])])) ∧
    KBn K fd pI 2 ["keeps"] (fun us ws => us ++ ws) (fun vs zs => vs ++ zs)
def tMk2 (CM : Addr) (t : TA) : TE := fun σ H Q => t σ H fun vs H1 => mkR CM vs H1 Q
def tMk1 (CM : Addr) (t : TA) : TE := fun σ H Q => t σ H fun vs H1 => mkR CM (vs ++ [.str (Sx [])]) H1 Q
def tMkKI (CM : Addr) (tk : TA) : TE := fun σ H Q => tk σ H fun zs H1 => zs.length = 2 ∧ mkR CM zs.reverse H1 Q
def tMkI (CM : Addr) (tk : TA) : TE := fun σ H Q => tk σ H fun zs H1 => zs.length = 1 ∧ mkR CM (zs ++ [.str (Sx [])]) H1 Q
def tMk1K (CM : Addr) (t tk : TA) : TE := fun σ H Q => t σ H fun vs H1 => tk σ H1 fun zs H2 => vs.length = 1 ∧ zs.length = 1 ∧ mkR CM (vs ++ zs) H2 Q
section
variable {X : Cx} {j : Nat} {CM : Addr} {p pos : Pos} {e : Expr} {es : List Expr} {kws : List Keyword} {t tk : TA}
theorem pe_mk2 (M : Mkr X.prog X.w X.K X.mg X.base CM) (hr : Room j X.A) (hj : 6 ≤ j) (hg : Gl X "Misreading") (ha : PA X (e :: es) t) (he : starEach (e :: es) X.env = (false, eval e X.env) :: starEach es X.env := by rfl) (hpl : (backTo pos (starEach es X.env)).any (·.1) = false := by rfl) :
    PE X (.Call (.Name "Misreading" p) (e :: es) [] pos) (tMk2 CM t) := by
  obtain ⟨f, fd, M, F, hm, b0, b1, k2, k1, k11⟩ := M.ex
  refine ⟨fun pins s σ H Q I h => ?_⟩
  refine wpAny_Call_Name_kw (ld_glob I hg hm ?_ (by decide))
  refine PySem.W.callWith_K (h₀ := X.base) I.ok.mod.kin M.kp (thn (ha.run pos pins s σ H _ I h) fun us s1 ⟨vs, H1, I1, r, q⟩ => ⟨I1.kIn, ?_⟩) he hpl
  exact run_make (dvs := []) (ds := []) M F (hr.mono hj) b0 .nil pass0 I1 r (by rw [List.append_nil]; exact mk_of q)
theorem pe_mk1 (M : Mkr X.prog X.w X.K X.mg X.base CM) (hr : Room j X.A) (hj : 6 ≤ j) (hg : Gl X "Misreading") (ha : PA X (e :: es) t) (he : starEach (e :: es) X.env = (false, eval e X.env) :: starEach es X.env := by rfl) (hpl : (backTo pos (starEach es X.env)).any (·.1) = false := by rfl) :
    PE X (.Call (.Name "Misreading" p) (e :: es) [] pos) (tMk1 CM t) := by
  obtain ⟨f, fd, M, F, hm, b0, ⟨ds, hd, b1⟩, k2, k1, k11⟩ := M.ex
  refine ⟨fun pins s σ H Q I h => ?_⟩
  refine wpAny_Call_Name_kw (ld_glob I hg hm ?_ (by decide))
  refine PySem.W.callWith_K (h₀ := X.base) I.ok.mod.kin M.kp (thn (ha.run pos pins s σ H _ I h) fun us s1 ⟨vs, H1, I1, r, q⟩ => ⟨I1.kIn, ?_⟩) he hpl
  exact run_make M F (hr.mono hj) b1 hd pass0 I1 r (mk_of q)
theorem pe_mkKI (M : Mkr X.prog X.w X.K X.mg X.base CM) (hr : Room j X.A) (hj : 6 ≤ j) (hg : Gl X "Misreading") (hkw : PK X kws tk) (hall : (backToKw pos (keywordEach kws X.env)).all (·.1.isSome) = true := by rfl) (hks : (backToKw pos (keywordEach kws X.env)).filterMap (·.1) = (["keeps", "images"] : List Str) := by rfl)
    (hpl : ((backTo pos (starEach [] X.env)).any (·.1) || (backToKw pos (keywordEach kws X.env)).any (·.1.isNone)) = false := by rfl) : PE X (.Call (.Name "Misreading" p) [] kws pos) (tMkKI CM tk) := by
  obtain ⟨f, fd, M, F, hm, b0, b1, k2, k1, k11⟩ := M.ex
  refine ⟨fun pins s σ H Q I h => ?_⟩
  refine wpAny_Call_Name_kw (ld_glob I hg hm ?_ (by decide))
  refine PySem.W.callWith_KW0 (h₀ := X.base) I.ok.mod.kin M.kp hall ?_ hpl
  refine thn (hkw.run pos pins s σ H _ I h) fun ws s2 ⟨zs, H2, I2, rz, l2, q2⟩ => ⟨I2.kIn, ?_⟩
  rw [hks]
  exact run_makeK (us := []) (vs := []) M F (hr.mono hj) k2 pass0 I2 .nil rz rfl l2 (mk_of q2)
theorem pe_mkI (M : Mkr X.prog X.w X.K X.mg X.base CM) (hr : Room j X.A) (hj : 6 ≤ j) (hg : Gl X "Misreading") (hkw : PK X kws tk) (hall : (backToKw pos (keywordEach kws X.env)).all (·.1.isSome) = true := by rfl) (hks : (backToKw pos (keywordEach kws X.env)).filterMap (·.1) = (["images"] : List Str) := by rfl)
    (hpl : ((backTo pos (starEach [] X.env)).any (·.1) || (backToKw pos (keywordEach kws X.env)).any (·.1.isNone)) = false := by rfl) : PE X (.Call (.Name "Misreading" p) [] kws pos) (tMkI CM tk) := by
  obtain ⟨f, fd, M, F, hm, b0, b1, k2, ⟨its, k1⟩, k11⟩ := M.ex
  refine ⟨fun pins s σ H Q I h => ?_⟩
  refine wpAny_Call_Name_kw (ld_glob I hg hm ?_ (by decide))
  refine PySem.W.callWith_KW0 (h₀ := X.base) I.ok.mod.kin M.kp hall ?_ hpl
  refine thn (hkw.run pos pins s σ H _ I h) fun ws s2 ⟨zs, H2, I2, rz, l2, q2⟩ => ⟨I2.kIn, ?_⟩
  rw [hks]
  exact run_makeK (us := []) (vs := []) M F (hr.mono hj) k1 pass0 I2 .nil rz rfl l2 (mk_of q2)
theorem pe_mk1K (M : Mkr X.prog X.w X.K X.mg X.base CM) (hr : Room j X.A) (hj : 6 ≤ j) (hg : Gl X "Misreading") (ha : PA X (e :: es) t) (hkw : PK X kws tk) (hall : (backToKw pos (keywordEach kws X.env)).all (·.1.isSome) = true := by rfl) (hks : (backToKw pos (keywordEach kws X.env)).filterMap (·.1) = (["keeps"] : List Str) := by rfl)
    (he : starEach (e :: es) X.env = (false, eval e X.env) :: starEach es X.env := by rfl) (hpl : ((backTo pos (starEach (e :: es) X.env)).any (·.1) || (backToKw pos (keywordEach kws X.env)).any (·.1.isNone)) = false := by rfl) :
    PE X (.Call (.Name "Misreading" p) (e :: es) kws pos) (tMk1K CM t tk) := by
  obtain ⟨f, fd, M, F, hm, b0, b1, k2, k1, k11⟩ := M.ex
  refine ⟨fun pins s σ H Q I h => ?_⟩
  refine wpAny_Call_Name_kw (ld_glob I hg hm ?_ (by decide))
  refine PySem.W.callWith_KW (h₀ := X.base) I.ok.mod.kin M.kp hall (thn (ha.run pos pins s σ H _ I h) fun us s1 ⟨vs, H1, I1, r, q⟩ => ?_) hpl he
  refine thn (hkw.run pos pins s1 σ H1 _ I1 q) fun ws s2 ⟨zs, H2, I2, rz, l1, l2, q2⟩ => ⟨I2.kIn, ?_⟩
  rw [hks]
  exact run_makeK (n := 1) M F (hr.mono hj) k11 pass0 I2 r rz l1 l2 (mk_of q2)
end
theorem vals_rev : ∀ {xs : List V} {us : List Value}, Vals xs us → Vals xs.reverse us.reverse
  | _, _, .nil => .nil
  | _, _, .cons h r => by
    rw [List.reverse_cons, List.reverse_cons]
    exact (vals_rev r).append (.cons h .nil)
/-- what K holds of the def, as the rules above want it -/
theorem mkr_of {P : Program} {w : World} {K : PySem.W.Frag} {mg : Str → Option Value} {base : Heap} {CM CJ f : Addr} {fd : FuncData} (F : FunD K "__init__" "Misreading.__init__" (defArgs s_Misreading_init) (defBody s_Misreading_init) (defScope s_Misreading_init) [.str (Sx [])] [] f fd) (T : Tx K mg CM CJ)
    (D_told_images : Df P w K mg base 4 "told_images" spTold) (M : Mk K CM f) (hm : mg "Misreading" = some (.ref CM)) : Mkr P w K mg base CM := by
  refine ⟨f, fd, M, ok_init F T D_told_images, hm, ?_, ?_, ?_, ?_, ?_⟩
  · obtain ⟨ds, h1, h2⟩ := F.binds1 (ps := pI) 3 1 (fun z => nomatch z) rfl (fun T kV doc pm an cdv ct us its h1 h2 => match us, its, h1, h2 with | [_, _, _], [_], _, _ => ⟨_, rfl, rfl⟩)
    cases h1
    exact h2
  · obtain ⟨ds, h1, h2⟩ := F.binds1 (ps := pI) 2 0 (fun z => nomatch z) rfl (fun T kV doc pm an cdv ct us its h1 h2 => match us, its, h1, h2 with | [_, _], [_], _, _ => ⟨_, rfl, rfl⟩)
    exact ⟨ds, h1, h2⟩
  · obtain ⟨its, h⟩ := F.kbindsD (ps := pI) 1 ["keeps", "images"] (fun us _ ws => us ++ ws.reverse) (fun z => nomatch z) (fun r1 _ r3 => r1.append (vals_rev r3)) (fun T kV doc pm an cdv ct us its ws h1 h2 h3 => match us, its, ws, h1, h2, h3 with | [_], [_], [_, _], _, _, _ => ⟨_, rfl, rfl⟩)
    exact h
  · obtain ⟨its, h⟩ := F.kbindsD (ps := pI) 1 ["images"] (fun us ds ws => us ++ ws ++ ds) (fun z => nomatch z) (fun r1 r2 r3 => (r1.append r3).append r2) (fun T kV doc pm an cdv ct us its ws h1 h2 h3 => match us, its, ws, h1, h2, h3 with | [_], [_], [_], _, _, _ => ⟨_, rfl, rfl⟩)
    exact ⟨its, h⟩
  · obtain ⟨its, h⟩ := F.kbindsD (ps := pI) 2 ["keeps"] (fun us _ ws => us ++ ws) (fun z => nomatch z) (fun r1 _ r3 => r1.append r3) (fun T kV doc pm an cdv ct us its ws h1 h2 h3 => match us, its, ws, h1, h2, h3 with | [_, _], [_], [_], _, _, _ => ⟨_, rfl, rfl⟩)
    exact h
end V8

set_option Elab.async false
set_option linter.all false
set_option maxRecDepth 100000
set_option maxHeartbeats 16000000
/-! Helps: lists compared, lists gathered, an own class iterated. -/
namespace V8
open PySem PySem.Spec PyProof.Rows L2
theorem dp_map {K : PySem.W.Frag} {H : Hp} {α : Type} (f : α → V) (g : α → PyData) (h : ∀ a, Dp K H (f a) (g a)) : ∀ l : List α, DpAll K H (l.map f) (l.map g)
  | [] => .nil
  | a :: r => .cons (h a) (dp_map f g h r)
theorem lay_map {α : Type} (g : α → PyData) : ∀ l : List α, (∀ a ∈ l, (g a).canLay0 = true) → PyData.canLayAll0 (l.map g) = true
  | [], _ => by simp [PyData.canLayAll0]
  | a :: r, h => by
    have ih := lay_map g r fun x hx => h x (List.mem_cons_of_mem _ hx)
    simp only [List.map_cons, PyData.canLayAll0, h a (List.mem_cons_self ..), Bool.true_and]
    exact ih
theorem depth_map {α : Type} (g : α → PyData) (h : ∀ a, (g a).depth = 0) : ∀ l : List α, PyData.depthAll (l.map g) = 0
  | [] => by simp [PyData.depthAll]
  | a :: r => by
    have ih := depth_map g h r
    simp only [List.map_cons, PyData.depthAll, h a]
    omega
theorem shaped_map {α : Type} (g : α → PyData) (l : List α) (h1 : ∀ a ∈ l, (g a).canLay0 = true) (h2 : ∀ a, (g a).depth = 0) : SeqAt.shaped (.list (l.map g)) = true := by
  have h3 : PyData.depth (.list (l.map g)) ≤ 64 := by
    simp only [PyData.depth, depth_map g h2]
    omega
  show (PyData.canLay0 (.list (l.map g)) && decide (PyData.depth (.list (l.map g)) ≤ 64)) = true
  rw [Bool.and_eq_true]
  exact ⟨by simp only [PyData.canLay0]; exact lay_map g l h1, decide_eq_true h3⟩
theorem shaped_mapT {α : Type} (g : α → PyData) (l : List α) (h1 : ∀ a ∈ l, (g a).canLay0 = true) (h2 : ∀ a, (g a).depth = 0) : SeqAt.shaped (.tuple (l.map g)) = true := by
  have h3 : PyData.depth (.tuple (l.map g)) ≤ 64 := by
    simp only [PyData.depth, depth_map g h2]
    omega
  show (PyData.canLay0 (.tuple (l.map g)) && decide (PyData.depth (.tuple (l.map g)) ≤ 64)) = true
  rw [Bool.and_eq_true]
  exact ⟨by simp only [PyData.canLay0]; exact lay_map g l h1, decide_eq_true h3⟩
theorem lay_of {d : PyData} (h : SeqAt.shaped d = true) : d.canLay0 = true := by
  have h' : (PyData.canLay0 d && decide (PyData.depth d ≤ 64)) = true := h
  exact (Bool.and_eq_true _ _ ▸ h').1
section
variable {K : PySem.W.Frag} {H : Hp} {a b : Addr} {Q : VK} {CM : Addr} {u : Tab}
theorem ne_same {x y : V} {d : PyData} (hx : Dp K H x d) (hy : Dp K H y d) (sh : SeqAt.shaped d = true) (q : Q (.bl false) H) : rNeD K x y H Q := by
  refine ⟨d, d, hx, hy, sh, sh, ?_⟩
  rw [SeqAt.eqv_refl d (lay_of sh)]
  exact q
def dS : Str → PyData := PyData.str
theorem ne_strs {ss : List Str} (ok : ∀ z ∈ ss, PyData.strOk z = true) (ha : SqL K H a (ss.map V.str)) (hb : SqL K H b (ss.map V.str)) (q : Q (.bl false) H) : rNeD K (.ref a) (.ref b) H Q :=
  ne_same (.lst ha (dp_map _ PyData.str (fun s => .str s) ss)) (.lst hb (dp_map _ PyData.str (fun s => .str s) ss)) (shaped_map _ ss (fun z hz => by simp only [PyData.canLay0]; exact ok z hz) (fun _ => by simp [PyData.depth])) q
theorem ne_strsT {ss : List Str} (ok : ∀ z ∈ ss, PyData.strOk z = true) (ha : SqT K H a (ss.map V.str)) (hb : SqT K H b (ss.map V.str)) (q : Q (.bl false) H) : rNeD K (.ref a) (.ref b) H Q :=
  ne_same (.tup ha (dp_map _ PyData.str (fun s => .str s) ss)) (.tup hb (dp_map _ PyData.str (fun s => .str s) ss)) (shaped_mapT _ ss (fun z hz => by simp only [PyData.canLay0]; exact ok z hz) (fun _ => by simp [PyData.depth])) q
theorem ne_bls {ss : List Bool} (ha : SqL K H a (ss.map V.bl)) (hb : SqL K H b (ss.map V.bl)) (q : Q (.bl false) H) : rNeD K (.ref a) (.ref b) H Q :=
  ne_same (.lst ha (dp_map _ PyData.bool (fun s => .bl s) ss)) (.lst hb (dp_map _ PyData.bool (fun s => .bl s) ss)) (shaped_map _ ss (fun _ _ => by simp [PyData.canLay0]) (fun _ => by simp [PyData.depth])) q
theorem acc_ok {D : Addr} {zs : List V} {i : Nat} {y : V} (hz : zs[i]? = some y) (sm : zs.length < 1000) :
    ∃ acc, upd H D (.lst (zs.take i)) D = some (.lst acc) ∧ acc.length < sizeLine ∧ upd (upd H D (.lst (zs.take i))) D (.lst (acc ++ [y])) = upd H D (.lst (zs.take (i + 1))) := by
  refine ⟨_, upd_same, ?_, ?_⟩
  · rw [List.length_take]
    exact small1000 (by omega)
  · rw [upd_upd, List.take_add_one, hz]
    rfl
theorem same_put {H H' : Hp} {D : Addr} {o : HO} (s : Same H H') (n : H' D = none) : Same H (upd H' D o) := fun b u e => by
  rw [upd_ne (ne_of_none (s b u e) n)]
  exact s b u e
theorem same_over {H H' : Hp} {D : Addr} {o : HO} (s : Same H H') (n : H D = none) : Same H (upd H' D o) := fun b u e => by
  rw [upd_ne (ne_of_none e n)]
  exact s b u e
theorem same_none {H H' : Hp} {D : Addr} (s : Same H H') (n : H' D = none) : H D = none := by
  cases e : H D with
  | none => rfl
  | some o =>
    rw [s _ _ e] at n
    cases n
theorem MisAt.same {C : Addr} {H H' : Hp} {x : Addr} {u : Tab} (m : MisAt C H x u) (s : Same H H') : MisAt C H' x u := m.mono fun b o e _ => s b o e
theorem dropH_upd {H : Hp} {it : Addr} {o : HO} (n : H it = none) : ItX.dropH (upd H it o) it = H := by
  funext b
  unfold ItX.dropH
  by_cases h : b = it
  · rw [if_pos h, h, n]
  · rw [if_neg h, upd_ne h]
theorem own_mis {m i : Nat} {E : XK} {σ : L2.St} {R : It → Hp → Prop} {x : Addr} (hs : σ[i]? = some (some (.ref x))) (M : MisAt CM H x u) (h : ∀ a, H a = some (.tup (lets (keysOf u))) → R (Itt K a) H) : iOwn K CM m (snIter CM) E (tVar i) σ H R := by
  obtain ⟨dx, a, b, c, h1, h2, h3, h4⟩ := id M.at_
  refine ⟨_, hs, x, dx, _, rfl, h1, fun k hk => ⟨x, u, rfl, M, fun it a' ni hi ha => ⟨it, a', rfl, hi, upd_same, ?_⟩⟩⟩
  rw [dropH_upd ni]
  exact h a' ha
end
end V8

set_option Elab.async false
set_option linter.all false
set_option maxRecDepth 100000
set_option maxHeartbeats 8000000
/-! Misreading: str. -/
namespace V8
open PySem PySem.Spec PyProof.Rows L2
theorem sx_add (a b : List Nat) : Sx a ++ Sx b = Sx (a ++ b) := by
  show (Str.mk (a.toArray ++ b.toArray)) = Str.mk _
  rw [List.append_toArray]
theorem colon : (":" : Str) = Sx [58] := by decide +kernel
theorem emp : Str.empty = Sx [] := rfl
def wordM (c : Nat) (s : List Nat) : Str := Sx (c :: 58 :: s)
def wordsM (u : Tab) (ks : List Nat) : List Str := ks.map fun c => wordM c ((lookT u c).getD [])
def strM (u : Tab) : Str := if keysOf u = [] then "-" else Txt.join " " (wordsM u (keysOf u))
def SmallT (u : Tab) : Prop := ∀ c s, lookT u c = some s → s.length ≤ 64
def spStr (CM : Addr) : Sp := fun vs H Q _ => ∃ (x : Addr) (u : Tab), vs = [.ref x] ∧ MisAt CM H x u ∧ SmallT u ∧ ∀ H', Same H H' → Q (.str (strM u)) H'
theorem sum_le (f : Str → Nat) (k : Nat) : ∀ l : List Str, (∀ x ∈ l, f x ≤ k) → (l.map f).sum ≤ k * l.length
  | [], _ => Nat.le_refl _
  | a :: r, h => by
    rw [List.map_cons, List.sum_cons, List.length_cons]
    have h1 := h a (List.mem_cons_self ..)
    have h2 := sum_le f k r fun x hx => h x (List.mem_cons_of_mem _ hx)
    rw [Nat.mul_succ]
    omega
theorem lets_isEmpty (cs : List Nat) : (lets cs).isEmpty = cs.isEmpty := by cases cs <;> rfl
section
variable {P : Program} {w : World} {K : PySem.W.Frag} {mg : Str → Option Value} {base : Heap} {CM CJ : Addr}
theorem ok_str {f : Addr} {fd : FuncData} (F : Fun K "__str__" "Misreading.__str__" s_Misreading_str f fd) (T : Ty K mg CM CJ) : FnOk P w K mg base CX0 1 f fd ["self"] (spStr CM) := by
  refine F.ok sc_Misreading_str (fun vs H Q E h => ?_) (fun cdv A outer s H vs Q E hr h => ?_)
  · obtain ⟨x, u, rfl, _⟩ := h
    rfl
  · obtain ⟨x, u, rfl, ⟨dx, a, b, c', hx, ha, hb, hc⟩, sm, q⟩ := h
    refine ⟨_, (pss_cons (ps_if (pt_not (pt_truth (pe_fldK (K := K) rfl (pv 0) rfl) (by intro _; rfl)))
        (pss_one (ps_ret pe_str))
        pss_nil)
      (pss_one (ps_ret (pe_joinK (K := K) rfl pe_str (pe_lc (own := [("letter", 1)]) (g := gName 1) (by rfl) sc_Misreading_str.nd (pi_tup (pe_fldK (K := K) rfl (pv 0) rfl)) (blkOk_by (own := [("letter", 1)]) (N := n_Misreading_str) (sc := defScope s_Misreading_str) (by decide +kernel)) (fun _ _ _ _ _ => (pg_name (i := 1) sc_Misreading_str.nd rfl (.inl rfl))) (fun _ _ _ _ _ => pts_nil) (fun _ _ _ _ _ => (pe_joinedT (pj_cons (pe_fmt (pv 1)) (pj_cons pe_str (pj_cons (pe_fmt (pe_dget (hu_of hr) (pe_fldK (K := K) rfl (pv 0) rfl) (pv 1) (fun _ _ => rfl))) pj_nil)))))))))), ?_⟩
    refine ⟨_, rfl, x, CM, dx, _, _, rfl, hx, T.cl, T.nL, f3_L a b c', _, .inr (.inl ⟨_, .inl (.inl ha), rfl⟩), ?_⟩
    rw [lets_isEmpty]
    by_cases e : keysOf u = []
    · have es : strM u = "-" := if_pos e
      rw [e]
      refine iteT ?_
      show Q (V.str "-") H
      rw [← es]
      exact q H (Same.refl H)
    · have es : strM u = Txt.join " " (wordsM u (keysOf u)) := if_neg e
      have ee : (keysOf u).isEmpty = false := by
        cases h : keysOf u with
        | nil => exact absurd h e
        | cons a r => rfl
      rw [ee]
      refine iteF ?_
      refine ⟨⟨_, rfl⟩, _, rfl, x, CM, dx, _, _, rfl, hx, T.cl, T.nL, f3_L a b c', a, rfl, ⟨_, .inl (.inl ha)⟩, fun D nD => lc_it (walk_tup (K := K) (a := a) (xs := lets (keysOf u))) (fun i H2 => H2 = upd H D (.lst ((wordsM u ((keysOf u).take i)).map V.str))) rfl ?_ ?_ ?_⟩
      · rintro i H2 hi rfl
        exact .inl (.inl (by rw [upd_ne (ne_of_none ha nD)]; exact ha))
      · rintro i z H2 H2' hi rfl ⟨rfl, hz⟩
        obtain ⟨hik, rfl⟩ := lets_get hz
        obtain ⟨s2, e2⟩ := Option.isSome_iff_exists.mp (List.mem_filter.mp (List.getElem_mem hik)).2
        have hx2 : upd H D (.lst ((wordsM u ((keysOf u).take i)).map V.str)) x = some (.ins CM dx (f3 a b c')) := by rw [upd_ne (ne_of_none hx nD)]; exact hx
        have hb2 : upd H D (.lst ((wordsM u ((keysOf u).take i)).map V.str)) b = some (.dK (encT (ims u))) := by rw [upd_ne (ne_of_none hb nD)]; exact hb
        have s64 := sm _ _ e2
        have l1 : (Str.empty ++ L1 (keysOf u)[i]) = Sx [(keysOf u)[i]] := by rw [emp, L1_Sx, sx_add]; rfl
        have l2 : ((Str.empty ++ L1 (keysOf u)[i]) ++ (":" : Str)) = Sx [(keysOf u)[i], 58] := by rw [l1, colon, sx_add]; rfl
        have l3 : (((Str.empty ++ L1 (keysOf u)[i]) ++ (":" : Str)) ++ Sx s2) = wordM (keysOf u)[i] s2 := by rw [l2, sx_add]; rfl
        refine ⟨rfl, _, rfl, .inl ⟨L1 (keysOf u)[i], rfl, by show 1 ≤ sizeLine; decide, L1 (keysOf u)[i], rfl, ?_, _, rfl, ?_, ?_⟩⟩
        · rw [l1]
          show 1 ≤ sizeLine
          decide
        · rw [l2]
          show 2 ≤ sizeLine
          decide
        · refine ⟨_, rfl, x, CM, dx, _, _, rfl, hx2, T.cl, T.nI, f3_I a b c', _, rfl, b, V.str (Sx s2), rfl, .inl ⟨_, Sum.inr (L1 (keysOf u)[i]), .inl hb2, rfl, by rw [valV_enc, look_ims_some (List.getElem_mem hik), e2]; rfl⟩, .inl ⟨Sx s2, rfl, ?_, Sx s2, rfl, ?_, _, upd_same, ?_, ?_⟩⟩
          · rw [Sx_len]
            exact Nat.le_of_lt (small1000 (by omega))
          · rw [l3]
            show (Sx _).length ≤ _
            rw [Sx_len, List.length_cons, List.length_cons]
            exact Nat.le_of_lt (small1000 (by omega))
          · rw [List.length_map]
            unfold wordsM
            rw [List.length_map, List.length_take]
            have := keysOf_len u
            exact small1000 (by omega)
          · rw [upd_upd, l3]
            congr 2
            unfold wordsM
            rw [List.take_add_one, List.getElem?_eq_getElem hik, List.map_append, List.map_append]
            show _ ++ [V.str (wordM (keysOf u)[i] s2)] = _ ++ [V.str (wordM (keysOf u)[i] ((lookT u (keysOf u)[i]).getD []))]
            rw [e2]
            rfl
      · rintro H2 rfl
        rw [lets_len, List.take_length]
        refine ⟨_, D, wordsM u (keysOf u), rfl, rfl, .inl (SqL.of upd_same), ?_, ?_⟩
        · have hk := keysOf_len u
          have h1 : ((wordsM u (keysOf u)).map fun x => x.length).sum ≤ _ := sum_le (fun x => x.length) 66 (wordsM u (keysOf u)) fun x hx => by
            obtain ⟨c, hc, rfl⟩ := List.mem_map.mp hx
            obtain ⟨s2, e2⟩ := Option.isSome_iff_exists.mp (keysOf_mem.mp hc).2
            rw [e2]
            show (Sx _).length ≤ _
            rw [Sx_len, List.length_cons, List.length_cons]
            have := sm _ _ e2
            show s2.length + 1 + 1 ≤ _
            omega
          have h2 : (wordsM u (keysOf u)).length = (keysOf u).length := List.length_map ..
          rw [h2] at h1 ⊢
          show _ + _ * 1 ≤ _
          have h3 : 66 * (keysOf u).length ≤ 66 * 26 := Nat.mul_le_mul_left _ hk
          omega
        · rw [← es]
          exact q _ fun b o e => by
            rw [upd_ne (ne_of_none e nD)]
            exact e
end
end V8

set_option Elab.async false
set_option linter.all false
set_option maxRecDepth 100000
set_option maxHeartbeats 16000000
/-! Whether a misreading is right. -/
namespace V8
open PySem PySem.Spec PyProof.Rows L2
theorem lets_ss (ks : List Nat) : lets ks = (ks.map L1).map V.str := by
  rw [List.map_map]
  rfl
theorem ok_sx {cs : List Nat} (h : ∀ c ∈ cs, isLt c) : PyData.strOk (Sx cs) = true := by
  have e : (Sx cs).cps = cs.toArray := rfl
  unfold PyData.strOk
  rw [e, List.all_toArray, List.all_eq_true]
  intro c hc
  have := (h c hc).2
  exact decide_eq_true (show c < 0x110000 by omega)
theorem ok_lets {ks : List Nat} (h : ∀ c ∈ ks, isLt c) : ∀ z ∈ ks.map L1, PyData.strOk z = true := fun z hz => by
  obtain ⟨c, hc, rfl⟩ := List.mem_map.mp hz
  exact ok_sx (cs := [c]) fun a ha => by
    rw [List.mem_singleton.mp ha]
    exact h c hc
def imgS (u : Tab) (ks : List Nat) : List Str := ks.map fun c => Sx ((lookT u c).getD [])
theorem imgS_at {u : Tab} {ks : List Nat} {i : Nat} {s : List Nat} (hi : i < ks.length) (e : lookT u ks[i] = some s) : ((imgS u ks).map V.str)[i]? = some (.str (Sx s)) := by
  unfold imgS
  rw [List.getElem?_map, List.getElem?_map, List.getElem?_eq_getElem hi]
  show some (V.str (Sx ((lookT u ks[i]).getD []))) = _
  rw [e]
  rfl
theorem len_app (a b : Str) : (a ++ b).length = a.length + b.length := Array.size_append
theorem join_Sx : ∀ ss : List (List Nat), Txt.join Str.empty (ss.map Sx) = Sx ss.flatten := by
  intro ss
  rw [TL.join_eq]
  have h : TL.tl (Str.join Str.empty (ss.map Sx)) = ss.flatten := by
    rw [TL.tl_join]
    have : ∀ l : List (List Nat), TL.joinL (TL.tl Str.empty) ((l.map Sx).map TL.tl) = l.flatten := by
      intro l
      induction l with
      | nil => rfl
      | cons c r ih =>
        cases r with
        | nil =>
          show TL.tl (Sx c) = [c].flatten
          simp
          rfl
        | cons d r =>
          show TL.tl (Sx c) ++ (TL.tl Str.empty ++ TL.joinL (TL.tl Str.empty) ((((d :: r).map Sx).map TL.tl))) = _
          rw [ih]
          rfl
    exact this ss
  have e2 : (Str.join Str.empty (ss.map Sx)).cps.toList = ss.flatten := h
  show Str.join Str.empty (ss.map Sx) = Sx _
  unfold Sx at e2 ⊢
  cases hx : Str.join Str.empty (ss.map fun cs => (⟨cs.toArray⟩ : Str)) with
  | mk a =>
    rw [hx] at e2
    have e3 : a.toList = ss.flatten := e2
    rw [← e3]
/-- iteration of the class's own -/
structure ItM (P : Program) (w : World) (K : PySem.W.Frag) (mg : Str → Option Value) (base : Heap) (k : Nat) (C : Addr) (sn : Nat → Sp) : Prop where
  ex : ∃ (f : Addr) (fd : FuncData) (ps : List Str), FnN P w K mg base CX0 k f fd ps sn ∧ Own K C "__iter__" f ∧ Binds K fd ps []
theorem pi_ownI {X : Cx} {k j : Nat} {C : Addr} {sn : Nat → Sp} {tg l : Expr} {tl : TE} (c : ItM X.prog X.w X.K X.mg X.base k C sn) (hr : Room j X.A) (hk : k ≤ j) (hl : PE X l tl) : PI X tg l (iOwn X.K C X.s_0.heap.objs.size sn E0 tl) := by
  obtain ⟨f, fd, ps, F, o, b⟩ := c.ex
  exact pi_own F b pass0 o (hr.mono hk) hl
end V8

set_option Elab.async false
set_option linter.all false
set_option maxRecDepth 100000
set_option maxHeartbeats 16000000
/-! same; whether a misreading is equal to what has the same images, and to nothing else. -/
namespace V8
open PySem PySem.Spec PyProof.Rows L2
def spSame (CM : Addr) : Sp := fun vs H Q _ => ∃ (cs st : List Nat), vs = [.str (Sx st)] ∧ cs.length ≤ 12 ∧ (∀ c ∈ cs, isLt c) ∧ (∀ c ∈ st, c ∈ cs) ∧ st.length ≤ 500 ∧ ∀ x H', H x = none → MisAt CM H' x (toldT st []) → Same H H' → Q (.ref x) H'
structure Sms (P : Program) (w : World) (K : PySem.W.Frag) (mg : Str → Option Value) (base : Heap) (CM : Addr) : Prop where
  ex : ∃ (p g : Addr) (fd : FuncData) (mc : Value), ClX.CRead K CM mc ∧ SMet K CM mc "same" p g ∧ FnOk P w K mg base CX0 7 g fd ["letters"] (spSame CM) ∧ Binds K fd ["letters"] [] ∧ KBinds K fd ["letters"] ["letters"] (fun us ws => us ++ ws) (fun vs zs => vs ++ zs)
section
variable {X : Cx} {j : Nat} {CM : Addr} {o e : Expr} {es : List Expr} {pos apos : Pos} {ta : TE} {t : TA} {pl : Sem Bool}
theorem pe_sm (c : Sms X.prog X.w X.K X.mg X.base CM) (hr : Room j X.A) (hj : 7 ≤ j) (he : PE X o ta) (ha : PA X (e :: es) t)
    (hst : starEach (e :: es) X.env = (false, eval e X.env) :: starEach es X.env := by rfl) (hpl : (backTo pos (starEach es X.env)).any (·.1) = false := by rfl)
    (ht : eval (.Call (.Attribute o "same" apos) (e :: es) [] pos) X.env = (do
      let ov ← eval o X.env
      standAt apos.atName
      let (f, first) ← holding [ov] (getMethod ov "same" pl)
      callWith pos f first (backTo pos (starEach (e :: es) X.env)) (backToKw pos (keywordEach [] X.env))) := by rfl) :
    PE X (.Call (.Attribute o "same" apos) (e :: es) [] pos) (tSMeth CM (spSame CM) E0 ta t) := by
  obtain ⟨p, g, fd, mc, r, m, F, b, kb⟩ := c.ex
  exact pe_smeth (pl := pl) he r m F (hr.mono hj) b pass0 ha hst hpl ht
theorem pe_smK {kws : List Keyword} {tk : TA} (c : Sms X.prog X.w X.K X.mg X.base CM) (hr : Room j X.A) (hj : 7 ≤ j) (he : PE X o ta) (hkw : PK X kws tk)
    (hall : (backToKw pos (keywordEach kws X.env)).all (·.1.isSome) = true := by rfl) (hks : (backToKw pos (keywordEach kws X.env)).filterMap (·.1) = (["letters"] : List Str) := by rfl)
    (hpl : ((backTo pos (starEach [] X.env)).any (·.1) || (backToKw pos (keywordEach kws X.env)).any (·.1.isNone)) = false := by rfl)
    (ht : eval (.Call (.Attribute o "same" apos) [] kws pos) X.env = (do
      let ov ← eval o X.env
      standAt apos.atName
      let (f, first) ← holding [ov] (getMethod ov "same" pl)
      callWith pos f first (backTo pos (starEach [] X.env)) (backToKw pos (keywordEach kws X.env))) := by rfl) :
    PE X (.Call (.Attribute o "same" apos) [] kws pos) (tSMethK CM (spSame CM) (fun vs zs => vs ++ zs) E0 ta tk) := by
  obtain ⟨p, g, fd, mc, r, m, F, b, kb⟩ := c.ex
  exact pe_smethK0 (pl := pl) he r m F (hr.mono hj) kb pass0 hkw hall hks hpl ht
end
/-! ### tables -/
theorem putT_new {t : Tab} {c : Nat} {s : List Nat} (h : c ∉ t.map (·.1)) : putT t c s = t ++ [(c, s)] := by
  unfold putT
  rw [if_neg]
  intro z
  obtain ⟨q, hq, e⟩ := List.any_eq_true.mp z
  have e' : q.1 = c := by simpa using e
  exact h (List.mem_map.mpr ⟨q, hq, e'⟩)
theorem mergeT_app : ∀ {t a : Tab}, ((a ++ t).map (·.1)).Nodup → mergeT a t = a ++ t
  | [], a, _ => by rw [List.append_nil]; rfl
  | q :: t, a, h => by
    have hq : q.1 ∉ a.map (·.1) := by
      rw [List.map_append, List.nodup_append] at h
      intro z
      exact h.2.2 _ z q.1 (by simp) rfl
    show mergeT (putT a q.1 q.2) t = _
    rw [putT_new hq, mergeT_app (t := t) (a := a ++ [(q.1, q.2)])]
    · rw [List.append_assoc]
      rfl
    · rw [List.append_assoc]
      exact h
theorem mergeT_nil {t : Tab} (h : (t.map (·.1)).Nodup) : mergeT [] t = t := mergeT_app (a := []) h
theorem toldT_nil {t : Tab} (h : (t.map (·.1)).Nodup) : toldT [] t = t := mergeT_nil h
theorem look_mem : ∀ {t : Tab} {c : Nat} {s : List Nat}, (t.map (·.1)).Nodup → (c, s) ∈ t → lookT t c = some s := by
  intro t c s nd h
  obtain ⟨i, hi, e⟩ := List.getElem_of_mem h
  have z := look_at nd hi
  rw [e] at z
  exact z
theorem look_ext {t t' : Tab} (n : (t.map (·.1)).Nodup) (n' : (t'.map (·.1)).Nodup) (h : ∀ q, q ∈ t ↔ q ∈ t') (c : Nat) : lookT t c = lookT t' c := by
  cases e : lookT t c with
  | some s => exact (look_mem n' ((h _).mp (look_in e))).symm
  | none =>
    cases e' : lookT t' c with
    | none => rfl
    | some s =>
      rw [look_mem n ((h _).mpr (look_in e'))] at e
      cases e
theorem rev_nd {t : Tab} (n : (t.map (·.1)).Nodup) : (t.reverse.map (·.1)).Nodup := by
  rw [List.map_reverse]
  exact (List.reverse_perm _).nodup_iff.mpr n
theorem look_rev {t : Tab} (n : (t.map (·.1)).Nodup) (c : Nat) : lookT t.reverse c = lookT t c := look_ext (rev_nd n) n (fun q => List.mem_reverse) c
theorem GoodT.rev {cs : List Nat} {t : Tab} (g : GoodT cs t) : GoodT cs t.reverse := ⟨rev_nd g.nd, fun q h => g.key q (List.mem_reverse.mp h), fun q h => g.img q (List.mem_reverse.mp h)⟩
def dropT (t : Tab) (c : Nat) : Tab := t.filter fun q => decide (q.1 ≠ c)
theorem GoodT.drop {cs : List Nat} {t : Tab} (g : GoodT cs t) (c : Nat) : GoodT cs (dropT t c) := ⟨(List.filter_sublist.map _).nodup g.nd, fun q h => g.key q (List.mem_filter.mp h).1, fun q h => g.img q (List.mem_filter.mp h).1⟩
theorem look_drop (t : Tab) (c : Nat) : lookT (dropT t c) c = none := by
  cases e : lookT (dropT t c) c with
  | none => rfl
  | some s =>
    have := (List.mem_filter.mp (look_in e)).2
    simp at this
theorem enc_inj {a b : Option (List Nat)} (h : a.map (fun s => V.str (Sx s)) = b.map fun s => V.str (Sx s)) : a = b := by
  cases a with
  | none =>
    cases b with
    | none => rfl
    | some y => cases h
  | some x =>
    cases b with
    | none => cases h
    | some y => rw [Sx_inj (V.str.inj (Option.some.inj h))]
theorem look_put (t : Tab) (c : Nat) (s : List Nat) (c' : Nat) : lookT (putT t c s) c' = if c' = c then some s else lookT t c' := by
  have e := valV_put (encT t) (Sum.inr (L1 c)) (Sum.inr (L1 c')) (V.str (Sx s))
  rw [putK_enc, valV_enc, valV_enc] at e
  refine enc_inj ?_
  rw [e]
  by_cases h : c' = c
  · rw [if_pos h, if_pos ((key_iff _ _).mpr h)]
    rfl
  · rw [if_neg h, if_neg fun z => h ((key_iff _ _).mp z)]
theorem drop_enc (t : Tab) (c : Nat) : dropK (encT t) (Sum.inr (L1 c)) = encT (dropT t c) := by
  unfold dropK encT dropT
  rw [List.filter_map]
  congr 1
  refine List.filter_congr fun q _ => ?_
  show decide ((Sum.inr (L1 q.1) : Key) ≠ Sum.inr (L1 c)) = decide (q.1 ≠ c)
  by_cases h : q.1 = c
  · rw [h]
    simp
  · rw [decide_eq_true h, decide_eq_true]
    exact fun z => h ((key_iff _ _).mp z)
theorem eqM_symm {u v : Tab} (h : eqM u v) : eqM v u := fun c hc => (h c hc).symm
theorem fr_same {p : Addr} {H H' : Hp} (s : Same H H') : Fr p H H' := fun b o e _ => s b o e
theorem pen_same {H H' : Hp} {p l : Addr} {ns : List Int} {n : Nat} (P : PenAt H p l ns n) (s : Same H H') : PenAt H' p l ns n := by
  obtain ⟨⟨a, g, h1, h2, h3, h4⟩, i, e, sh⟩ := P
  exact ⟨⟨a, g, s _ _ h1, h2, h3, h4⟩, s _ _ i, e, sh⟩
theorem mis_fr {C : Addr} {H H' : Hp} {x p l : Addr} {u : Tab} {ns : List Int} {n : Nat} (m : MisAt C H x u) (P : PenAt H p l ns n) (f : Fr p H H') : MisAt C H' x u := m.mono fun b o e hl => f b o e fun z => by
  obtain ⟨xs, hp⟩ := P.pen
  rw [z] at e
  rw [hp] at e
  exact hl xs (Option.some.inj e).symm
section
variable {P : Program} {w : World} {K : PySem.W.Frag} {mg : Str → Option Value} {base : Heap} {CM CJ : Addr}
theorem ok_same {f : Addr} {fd : FuncData} (F : Fun K "same" "Misreading.same" s_Misreading_same f fd) (T : Ty K mg CM CJ) (D_mk : Mkr P w K mg base CM) : FnOk P w K mg base CX0 7 f fd ["letters"] (spSame CM) := by
  refine F.ok sc_Misreading_same (fun vs H Q E h => ?_) (fun cdv A outer s H vs Q E hr h => ?_)
  · obtain ⟨cs, st, rfl, _⟩ := h
    rfl
  · obtain ⟨cs, st, rfl, h12, hlt, hst, hs5, q⟩ := h
    refine ⟨_, (pss_one (ps_ret (pe_mk2 D_mk hr (by decide) (by rfl) (pa_cons pe_dnewK (pa_cons (pv 0) pa_nil))))), ?_⟩
    refine fun d nd => ⟨_, rfl, d, cs, st, [], rfl, upd_same, GoodT.nil, ⟨Nat.le_trans (toldT_good hst hlt GoodT.nil).len h12, by omega⟩, hlt, hst, hs5, fun x H' nx m sm => ?_⟩
    exact q x H' (same_none (s := same_put (s := fun _ _ e => e) nd) nx) m.mis (fun b o e => sm b o (by rw [upd_ne (ne_of_none e nd)]; exact e))
theorem nf_self {K : PySem.W.Frag} {C : Addr} : PySem.W.notFirst K C (.ref C) = true := by
  unfold PySem.W.notFirst
  simp
theorem MisAt.ins {C : Addr} {H : Hp} {x : Addr} {u : Tab} (m : MisAt C H x u) : ∃ dx fs, H x = some (.ins C dx fs) := by
  obtain ⟨dx, a, b, c, h, _⟩ := m.at_
  exact ⟨dx, _, h⟩
/-- two misreadings compared -/
theorem eq_mis (T : Ty K mg CM CJ) {H : Hp} {Q : VK} {g : Bool → Bool} {x y : Addr} {u v : Tab} (mx : MisAt CM H x u) (my : MisAt CM H y v) (q : Q (.bl (g (decide (eqM u v)))) H) : rEqOwn K CM (spEq K CM) E0 g (.ref x) (.ref y) H Q := by
  obtain ⟨dx, fs, hx⟩ := mx.ins
  obtain ⟨dy, gs, hy⟩ := my.ins
  exact ⟨x, dx, fs, .ref CM, rfl, hx, .base (.ins hy T.cl T.tA T.tB T.tC T.tD), nf_self, x, u, .ref y, rfl, mx, .inl ⟨y, v, rfl, my, _, rfl, q⟩⟩
theorem eq_else {H : Hp} {Q : VK} {g : Bool → Bool} {x : Addr} {u : Tab} {y : V} {t : Value} (mx : MisAt CM H x u) (ty : TyX K H y t) (nf : PySem.W.notFirst K CM t = true) (kt : PySem.W.kitOne K t (.ref CM) = some false) (q : Q (.bl (g false)) H) : rEqOwn K CM (spEq K CM) E0 g (.ref x) y H Q := by
  obtain ⟨dx, fs, hx⟩ := mx.ins
  exact ⟨x, dx, fs, t, rfl, hx, ty, nf, x, u, y, rfl, mx, .inr ⟨t, ty, kt, _, rfl, q⟩⟩
end
end V8

set_option Elab.async false
set_option linter.all false
set_option maxRecDepth 100000
set_option maxHeartbeats 8000000
/-! Misreadings as functions from letters to images. -/
namespace V8
open PySem PySem.Spec PyProof.Rows L2
/-! functions from letters to images -/
abbrev Fu := Nat → Option (List Nat)
def imF (f : Fu) : List Nat → Option (List Nat)
  | [] => some []
  | c :: cs => (f c).bind fun a => (imF f cs).map (a ++ ·)
theorem imF_app (f : Fu) : ∀ a b : List Nat, imF f (a ++ b) = (imF f a).bind fun x => (imF f b).map (x ++ ·)
  | [], b => by
    show imF f b = (imF f b).map ([] ++ ·)
    cases imF f b <;> rfl
  | c :: a, b => by
    show (f c).bind (fun z => (imF f (a ++ b)).map (z ++ ·)) = ((f c).bind fun z => (imF f a).map (z ++ ·)).bind _
    rw [imF_app f a b]
    cases f c with
    | none => rfl
    | some z =>
      cases imF f a with
      | none => rfl
      | some x =>
        cases imF f b with
        | none => rfl
        | some y =>
          show some (z ++ (x ++ y)) = some ((z ++ x) ++ y)
          rw [List.append_assoc]
def cF (f g : Fu) : Fu := fun c => (f c).bind (imF g)
theorem imF_cF (f g : Fu) : ∀ w : List Nat, imF (cF f g) w = (imF f w).bind (imF g)
  | [] => rfl
  | c :: w => by
    show ((f c).bind (imF g)).bind (fun a => (imF (cF f g) w).map (a ++ ·)) = ((f c).bind fun a => (imF f w).map (a ++ ·)).bind (imF g)
    rw [imF_cF f g w]
    cases f c with
    | none => rfl
    | some z =>
      cases h : imF f w with
      | none =>
        show (imF g z).bind (fun a => Option.map (a ++ ·) none) = none
        cases imF g z <;> rfl
      | some x =>
        show (imF g z).bind (fun a => (imF g x).map (a ++ ·)) = imF g (z ++ x)
        rw [imF_app]
theorem cF_assoc (f g h : Fu) : cF (cF f g) h = cF f (cF g h) := by
  funext c
  show ((f c).bind (imF g)).bind (imF h) = (f c).bind (imF (cF g h))
  cases f c with
  | none => rfl
  | some z => exact (imF_cF g h z).symm
/-- letters that stay -/
def idF (cs : List Nat) : Fu := fun c => if c ∈ cs then some [c] else none
theorem imF_id {cs : List Nat} : ∀ {w : List Nat}, (∀ c ∈ w, c ∈ cs) → imF (idF cs) w = some w
  | [], _ => rfl
  | c :: w, h => by
    show (if c ∈ cs then some [c] else none).bind (fun a => (imF (idF cs) w).map (a ++ ·)) = _
    rw [if_pos (h c (List.mem_cons_self ..)), imF_id fun x hx => h x (List.mem_cons_of_mem _ hx)]
    rfl
/-- over letters cs alone, in images too -/
structure Ovr (cs : List Nat) (f : Fu) : Prop where
  key : ∀ c s, f c = some s → c ∈ cs
  img : ∀ c s, f c = some s → ∀ d ∈ s, d ∈ cs
theorem cF_id {cs : List Nat} {f : Fu} (o : Ovr cs f) : cF f (idF cs) = f := by
  funext c
  show (f c).bind (imF (idF cs)) = f c
  cases h : f c with
  | none => rfl
  | some s => exact imF_id (o.img c s h)
theorem cF_id' {cs : List Nat} {f : Fu} (o : Ovr cs f) : cF (idF cs) f = f := by
  funext c
  show (if c ∈ cs then some [c] else none).bind (imF f) = f c
  by_cases h : c ∈ cs
  · rw [if_pos h]
    show (f c).bind (fun a => (some []).map (a ++ ·)) = f c
    cases f c with
    | none => rfl
    | some s =>
      show some (s ++ []) = some s
      rw [List.append_nil]
  · rw [if_neg h]
    cases e : f c with
    | none => rfl
    | some s => exact absurd (o.key c s e) h
theorem imF_over {cs : List Nat} {f : Fu} (o : Ovr cs f) : ∀ {w s : List Nat}, imF f w = some s → ∀ d ∈ s, d ∈ cs
  | [], s, h, d, hd => by
    cases Option.some.inj h
    cases hd
  | c :: w, s, h, d, hd => by
    have h' : (f c).bind (fun a => (imF f w).map (a ++ ·)) = some s := h
    cases e : f c with
    | none =>
      rw [e] at h'
      cases h'
    | some z =>
      cases e2 : imF f w with
      | none =>
        rw [e, e2] at h'
        cases h'
      | some x =>
        rw [e, e2] at h'
        have h3 : z ++ x = s := Option.some.inj h'
        rw [← h3] at hd
        rcases List.mem_append.mp hd with q | q
        · exact o.img c z e d q
        · exact imF_over o e2 d q
theorem Ovr.comp {cs : List Nat} {f g : Fu} (o : Ovr cs f) (p : Ovr cs g) : Ovr cs (cF f g) := by
  refine ⟨fun c s h => ?_, fun c s h d hd => ?_⟩
  · have h' : (f c).bind (imF g) = some s := h
    cases e : f c with
    | none =>
      rw [e] at h'
      cases h'
    | some z => exact o.key c z e
  · have h' : (f c).bind (imF g) = some s := h
    cases e : f c with
    | none =>
      rw [e] at h'
      cases h'
    | some z =>
      rw [e] at h'
      exact imF_over p h' d hd
/-- images of at most n letters -/
def Bnd (n : Nat) (f : Fu) : Prop := ∀ c s, f c = some s → s.length ≤ n
theorem imF_len {n : Nat} {f : Fu} (b : Bnd n f) : ∀ {w s : List Nat}, imF f w = some s → s.length ≤ n * w.length
  | [], s, h => by
    cases Option.some.inj h
    exact Nat.zero_le _
  | c :: w, s, h => by
    have h' : (f c).bind (fun a => (imF f w).map (a ++ ·)) = some s := h
    cases e : f c with
    | none =>
      rw [e] at h'
      cases h'
    | some z =>
      cases e2 : imF f w with
      | none =>
        rw [e, e2] at h'
        cases h'
      | some x =>
        rw [e, e2] at h'
        have h3 : z ++ x = s := Option.some.inj h'
        have h1 := b c z e
        have h2 := imF_len b e2
        rw [← h3, List.length_append, List.length_cons, Nat.mul_succ]
        omega
theorem Bnd.comp {a b : Nat} {f g : Fu} (hf : Bnd a f) (hg : Bnd b g) : Bnd (b * a) (cF f g) := fun c s h => by
  have h' : (f c).bind (imF g) = some s := h
  cases e : f c with
  | none =>
    rw [e] at h'
    cases h'
  | some z =>
    rw [e] at h'
    exact Nat.le_trans (imF_len hg h') (Nat.mul_le_mul_left _ (hf c z e))
theorem Bnd.le {a b : Nat} {f : Fu} (h : Bnd a f) (l : a ≤ b) : Bnd b f := fun c s e => Nat.le_trans (h c s e) l
theorem Bnd.id {cs : List Nat} : Bnd 1 (idF cs) := fun c s h => by
  have h' : (if c ∈ cs then some [c] else none) = some s := h
  by_cases e : c ∈ cs
  · rw [if_pos e] at h'
    cases Option.some.inj h'
    exact Nat.le_refl _
  · rw [if_neg e] at h'
    cases h'
theorem Ovr.id {cs : List Nat} : Ovr cs (idF cs) := by
  refine ⟨fun c s h => ?_, fun c s h d hd => ?_⟩ <;>
  · have h' : (if c ∈ cs then some [c] else none) = some s := h
    by_cases e : c ∈ cs
    · first
      | exact e
      | rw [if_pos e] at h'
        cases Option.some.inj h'
        rw [List.mem_singleton.mp hd]
        exact e
    · rw [if_neg e] at h'
      cases h'
/-- powers -/
def pF (f : Fu) : Nat → Fu
  | 0 => f
  | n + 1 => cF (pF f n) f
theorem pF_id {cs : List Nat} : ∀ n, pF (idF cs) n = idF cs
  | 0 => rfl
  | n + 1 => by
    show cF (pF (idF cs) n) (idF cs) = _
    rw [pF_id n, cF_id Ovr.id]
/-- cut to the letters of a text -/
def oF (f : Fu) (w : List Nat) : Fu := fun c => if c ∈ w then f c else none
theorem imF_oF (f : Fu) (w : List Nat) : ∀ {ws : List Nat}, (∀ c ∈ ws, c ∈ w) → imF (oF f w) ws = imF f ws
  | [], _ => rfl
  | c :: ws, h => by
    show (if c ∈ w then f c else none).bind (fun a => (imF (oF f w) ws).map (a ++ ·)) = (f c).bind (fun a => (imF f ws).map (a ++ ·))
    rw [if_pos (h c (List.mem_cons_self ..)), imF_oF f w fun x hx => h x (List.mem_cons_of_mem _ hx)]
theorem oF_oF (f : Fu) (w : List Nat) : oF (oF f w) w = oF f w := by
  funext c
  show (if c ∈ w then (if c ∈ w then f c else none) else none) = if c ∈ w then f c else none
  by_cases h : c ∈ w
  · rw [if_pos h]
  · rw [if_neg h, if_neg h]
theorem oF_all {cs : List Nat} {f : Fu} (o : Ovr cs f) : oF f cs = f := by
  funext c
  show (if c ∈ cs then f c else none) = f c
  by_cases h : c ∈ cs
  · rw [if_pos h]
  · rw [if_neg h]
    cases e : f c with
    | none => rfl
    | some s => exact absurd (o.key c s e) h
theorem oF_nil (f : Fu) : oF f [] = fun _ => none := by
  funext c
  show (if c ∈ ([] : List Nat) then f c else none) = none
  rw [if_neg List.not_mem_nil]
theorem oF_twice (f : Fu) (w : List Nat) : oF f (w ++ w) = oF f w := by
  funext c
  show (if c ∈ w ++ w then f c else none) = if c ∈ w then f c else none
  by_cases h : c ∈ w
  · rw [if_pos h, if_pos (List.mem_append_left _ h)]
  · rw [if_neg h, if_neg fun z => (List.mem_append.mp z).elim h h]
theorem Bnd.only {n : Nat} {f : Fu} (b : Bnd n f) (w : List Nat) : Bnd n (oF f w) := fun c s h => by
  have h' : (if c ∈ w then f c else none) = some s := h
  by_cases e : c ∈ w
  · rw [if_pos e] at h'
    exact b c s h'
  · rw [if_neg e] at h'
    cases h'
theorem Ovr.only {cs : List Nat} {f : Fu} (o : Ovr cs f) (w : List Nat) : Ovr cs (oF f w) := by
  have h : ∀ c s, oF f w c = some s → f c = some s := fun c s h => by
    have h' : (if c ∈ w then f c else none) = some s := h
    by_cases e : c ∈ w
    · rw [if_pos e] at h'
      exact h'
    · rw [if_neg e] at h'
      cases h'
  exact ⟨fun c s e => o.key c s (h c s e), fun c s e => o.img c s (h c s e)⟩
/-- each letter of the one has the same image by the other -/
def leF (f g : Fu) : Prop := ∀ c s, f c = some s → g c = some s
theorem oF_le (f : Fu) (w : List Nat) : leF (oF f w) f := fun c s h => by
  have h' : (if c ∈ w then f c else none) = some s := h
  by_cases e : c ∈ w
  · rw [if_pos e] at h'
    exact h'
  · rw [if_neg e] at h'
    cases h'
theorem cF_le {f f' : Fu} (g : Fu) (h : leF f f') : leF (cF f g) (cF f' g) := fun c s e => by
  have e' : (f c).bind (imF g) = some s := e
  show (f' c).bind (imF g) = some s
  cases z : f c with
  | none =>
    rw [z] at e'
    cases e'
  | some x =>
    rw [h c x z]
    rw [z] at e'
    exact e'
/-- both together -/
def uF (f g : Fu) : Fu := fun c => (g c).orElse fun _ => f c
theorem uF_le {f g : Fu} (h : leF f g) : uF f g = g := by
  funext c
  show (g c).orElse (fun _ => f c) = g c
  cases e : g c with
  | some s => rfl
  | none =>
    show f c = none
    cases e2 : f c with
    | none => rfl
    | some s =>
      rw [h c s e2] at e
      cases e
theorem imF_none {f : Fu} : ∀ {w : List Nat}, imF f w = none ↔ ∃ c ∈ w, f c = none
  | [] => by
    constructor
    · intro h
      cases h
    · rintro ⟨c, h, _⟩
      cases h
  | c :: w => by
    have ih := imF_none (f := f) (w := w)
    show (f c).bind (fun a => (imF f w).map (a ++ ·)) = none ↔ _
    cases e : f c with
    | none => exact ⟨fun _ => ⟨c, List.mem_cons_self .., e⟩, fun _ => rfl⟩
    | some z =>
      constructor
      · intro h
        cases e2 : imF f w with
        | some x =>
          rw [e2] at h
          cases h
        | none =>
          obtain ⟨d, h1, h2⟩ := ih.mp e2
          exact ⟨d, List.mem_cons_of_mem _ h1, h2⟩
      · rintro ⟨d, h1, h2⟩
        rcases List.mem_cons.mp h1 with q | q
        · rw [q, e] at h2
          cases h2
        · rw [ih.mpr ⟨d, q, h2⟩]
          rfl
theorem imF_some {f : Fu} : ∀ {w : List Nat}, (∀ c ∈ w, (f c).isSome = true) → imF f w = some ((w.map fun c => (f c).getD []).flatten)
  | [], _ => rfl
  | c :: w, h => by
    show (f c).bind (fun a => (imF f w).map (a ++ ·)) = _
    rw [imF_some fun x hx => h x (List.mem_cons_of_mem _ hx)]
    have h1 := h c (List.mem_cons_self ..)
    cases e : f c with
    | none =>
      rw [e] at h1
      cases h1
    | some z =>
      show some (z ++ _) = _
      rw [List.map_cons, List.flatten_cons, e]
      rfl

/-! what a Misreading's table tells -/
def lk (u : Tab) : Fu := fun c => if c ∈ abc then lookT u c else none
theorem lk_mem {u : Tab} {c : Nat} : c ∈ keysOf u ↔ (lk u c).isSome = true := by
  rw [keysOf_mem]
  show _ ↔ (if c ∈ abc then lookT u c else none).isSome = true
  by_cases h : c ∈ abc
  · rw [if_pos h]
    exact ⟨fun z => z.2, fun z => ⟨h, z⟩⟩
  · rw [if_neg h]
    exact ⟨fun z => absurd z.1 h, fun z => by cases z⟩
theorem lk_look {u : Tab} {c : Nat} (h : c ∈ keysOf u) : lookT u c = lk u c := by
  show _ = (if c ∈ abc then lookT u c else none)
  rw [if_pos (keysOf_mem.mp h).1]
theorem lk_some {u : Tab} {c : Nat} {s : List Nat} (h : lk u c = some s) : c ∈ keysOf u ∧ lookT u c = some s := by
  have m : c ∈ keysOf u := lk_mem.mpr (by rw [h]; rfl)
  exact ⟨m, (lk_look m).trans h⟩
theorem lk_not {u : Tab} {c : Nat} (h : c ∉ keysOf u) : lk u c = none := by
  cases e : lk u c with
  | none => rfl
  | some s => exact absurd (lk_some e).1 h
theorem eqM_lk {u v : Tab} : eqM u v ↔ lk u = lk v := by
  constructor
  · intro h
    funext c
    show (if c ∈ abc then lookT u c else none) = (if c ∈ abc then lookT v c else none)
    by_cases m : c ∈ abc
    · rw [if_pos m, if_pos m, h c m]
    · rw [if_neg m, if_neg m]
  · intro h c m
    have e := congrFun h c
    have e' : (if c ∈ abc then lookT u c else none) = (if c ∈ abc then lookT v c else none) := e
    rw [if_pos m, if_pos m] at e'
    exact e'
theorem lk_nil : lk [] = fun _ => none := by
  funext c
  show (if c ∈ abc then lookT [] c else none) = none
  by_cases m : c ∈ abc
  · rw [if_pos m]
    rfl
  · rw [if_neg m]
theorem keys_abc {u : Tab} {c : Nat} (h : c ∈ keysOf u) : c ∈ abc := (keysOf_mem.mp h).1
/-- a table told over letters cs -/
theorem good_over {cs : List Nat} {t : Tab} (g : GoodT cs t) : Ovr cs (lk t) := ⟨fun c s h => g.key _ (look_in (lk_some h).2), fun c s h => (g.img _ (look_in (lk_some h).2)).2.2⟩
theorem good_bnd {cs : List Nat} {t : Tab} (g : GoodT cs t) : Bnd 4 (lk t) := fun c s h => (g.img _ (look_in (lk_some h).2)).2.1
theorem imF_look {u : Tab} {cs : List Nat} (h : ∀ c ∈ cs, c ∈ keysOf u) : imF (lk u) cs = some ((cs.map fun c => (lookT u c).getD []).flatten) := by
  rw [imF_some fun c hc => lk_mem.mp (h c hc)]
  have e : (cs.map fun c => (lk u c).getD []) = cs.map fun c => (lookT u c).getD [] := List.map_congr_left fun c hc => by rw [lk_look (h c hc)]
  rw [e]
theorem imF_keys {u : Tab} {cs r : List Nat} (h : imF (lk u) cs = some r) : ∀ c ∈ cs, c ∈ keysOf u := fun c hc => by
  by_cases m : c ∈ keysOf u
  · exact m
  · have e := imF_none.mpr ⟨c, hc, lk_not m⟩
    rw [h] at e
    cases e
theorem imF_bar {u : Tab} {cs : List Nat} (h : imF (lk u) cs = none) : ¬ ∀ c ∈ cs, c ∈ keysOf u := fun z => by
  rw [imF_look z] at h
  cases h
/-- tables put together letter by letter -/
theorem look_app {t : Tab} {c : Nat} {s : List Nat} (h : c ∉ t.map (·.1)) (c' : Nat) : lookT (t ++ [(c, s)]) c' = if c' = c then some s else lookT t c' := by
  rw [← putT_new h, look_put]
/-- the table that f makes of the letters ks -/
def mkT (f : Fu) (ks : List Nat) : Tab := ks.filterMap fun c => (f c).map fun s => (c, s)
theorem mkT_keys (f : Fu) (ks : List Nat) : ∀ c ∈ (mkT f ks).map (·.1), c ∈ ks := fun c h => by
  obtain ⟨q, hq, rfl⟩ := List.mem_map.mp h
  obtain ⟨d, hd, e⟩ := List.mem_filterMap.mp hq
  cases z : f d with
  | none =>
    rw [z] at e
    cases e
  | some s =>
    rw [z] at e
    have e' : (d, s) = q := Option.some.inj e
    rw [← e']
    exact hd
theorem mkT_len (f : Fu) (ks : List Nat) : (mkT f ks).length ≤ ks.length := List.length_filterMap_le _ _
theorem mkT_snoc (f : Fu) (ks : List Nat) (c : Nat) : mkT f (ks ++ [c]) = mkT f ks ++ (match f c with | some s => [(c, s)] | none => []) := by
  unfold mkT
  rw [List.filterMap_append]
  congr 1
  cases e : f c with
  | none => simp [e]
  | some s => simp [e]
theorem look_cons (k : Nat) (s : List Nat) (t : Tab) (c : Nat) : lookT ((k, s) :: t) c = if k = c then some s else lookT t c := by
  unfold lookT
  rw [List.find?_cons]
  by_cases h : k = c
  · rw [if_pos h]
    simp [h]
  · rw [if_neg h]
    simp [h]
theorem mkT_cons (f : Fu) (k : Nat) (ks : List Nat) : mkT f (k :: ks) = (match f k with | some s => [(k, s)] | none => []) ++ mkT f ks := by
  unfold mkT
  rw [List.filterMap_cons]
  cases e : f k with
  | none => rfl
  | some s => rfl
theorem mkT_look (f : Fu) : ∀ {ks : List Nat}, ks.Nodup → ∀ c, lookT (mkT f ks) c = if c ∈ ks then f c else none
  | [], _, c => by rw [if_neg List.not_mem_nil]; rfl
  | k :: ks, nd, c => by
    have nd1 := List.nodup_cons.mp nd
    have ih' := mkT_look f nd1.2 c
    rw [mkT_cons]
    cases e : f k with
    | none =>
      show lookT (mkT f ks) c = _
      rw [ih']
      by_cases h2 : c = k
      · rw [h2, if_neg nd1.1, if_pos (List.mem_cons_self ..), e]
      · by_cases h : c ∈ ks
        · rw [if_pos h, if_pos (List.mem_cons_of_mem _ h)]
        · rw [if_neg h, if_neg (fun z => (List.mem_cons.mp z).elim h2 h)]
    | some s =>
      show lookT ((k, s) :: mkT f ks) c = _
      rw [look_cons, ih']
      by_cases h2 : k = c
      · rw [if_pos h2, ← h2, if_pos (List.mem_cons_self ..), e]
      · rw [if_neg h2]
        by_cases h : c ∈ ks
        · rw [if_pos h, if_pos (List.mem_cons_of_mem _ h)]
        · rw [if_neg h, if_neg (fun z => (List.mem_cons.mp z).elim (fun y => h2 y.symm) h)]
theorem mkT_lk {f : Fu} {ks : List Nat} (nd : ks.Nodup) (h : ∀ c s, f c = some s → c ∈ ks ∧ c ∈ abc) : lk (mkT f ks) = f := by
  funext c
  show (if c ∈ abc then lookT (mkT f ks) c else none) = f c
  rw [mkT_look f nd]
  cases e : f c with
  | none => by_cases a : c ∈ abc <;> by_cases b : c ∈ ks <;> simp [a, b, e]
  | some s =>
    obtain ⟨a, b⟩ := h c s e
    rw [if_pos b, if_pos a]
theorem keys12 {u : Tab} {n : Nat} (h : (keysOf u).length ≤ n) (f : Fu) : (mkT f (keysOf u)).length ≤ n := Nat.le_trans (mkT_len _ _) h
end V8

set_option Elab.async false
set_option linter.all false
set_option maxRecDepth 100000
set_option maxHeartbeats 4000000
/-! Signs of an own class by its own methods, by an address; a ** k. -/
namespace L2
open PySem PySem.Spec PyProof.Rows
/-- an own method that a sign of two calls -/
structure Bo (P : Program) (w : World) (K : PySem.W.Frag) (mg : Str → Option Value) (base : Heap) (k : Nat) (C : Addr) (m : Str) (sp : Sp) : Prop where
  ex : ∃ (f : Addr) (fd : FuncData) (ps : List Str), FnOk P w K mg base CX0 k f fd ps sp ∧ Binds K fd ps [] ∧ PySem.W.findIn K (.ref C) m = some (some (.ref f)) ∧ PySem.W.isFn K (.ref f) = true ∧ PySem.W.selfFirst K C = true
/-- what the sign of the power asks of int -/
structure IntP (K : PySem.W.Frag) (C : Addr) : Prop where
  rp : PySem.W.findIn K (.ref C) "__rpow__" = some none
  h1 : ∃ fo, PySem.W.findIn K (.type "int") "__pow__" = some fo
  h2 : ∃ ro, PySem.W.findIn K (.type "int") "__rpow__" = some ro
  sub : PySem.W.subIn K (.type "int") (.ref C) = some false
def rPowOwn (K : PySem.W.Frag) (C : Addr) (sp : Sp) (E : XK) : R2 := fun x y H Q => ∃ a dx fs i, x = .ref a ∧ H a = some (.ins C dx fs) ∧ y = .int i ∧ sp [.ref a, .int i] H Q E
section
variable {X : Cx} {k j : Nat} {C : Addr} {sp : Sp}
theorem op_bin {op : Operator} {m : Str} (c : Bo X.prog X.w X.K X.mg X.base k C m sp) (hr : Room j X.A) (hk : k ≤ j) (hm : PySem.dunder op.info.2 = m := by rfl) : OpR X (binaryOp op) (rBinOwn X.K C sp E0) := by
  obtain ⟨f, fd, ps, F, b, h1, h2, h3⟩ := c.ex
  subst hm
  exact op_binOwn F b pass0 h1 h2 h3 (hr.mono hk)
theorem op_powO {m : Str} (c : Bo X.prog X.w X.K X.mg X.base k C m sp) (ip : IntP X.K C) (hr : Room j X.A) (hk : k ≤ j) (hm : PySem.dunder (Operator.info .Pow).2 = m := by rfl) : OpR X (binaryOp .Pow) (rPowOwn X.K C sp E0) := by
  obtain ⟨f, fd, ps, F, b, h1, h2, h3⟩ := c.ex
  subst hm
  intro pins s σ H x y v u Q I rx ry h
  obtain ⟨a, dx, fs, i, rfl, ha, rfl, hsp⟩ := h
  obtain rfl : v = Value.ref a := rx
  obtain ⟨od, J⟩ := inst_at I ha
  obtain ⟨m, hF⟩ := I.fr
  obtain ⟨fo, e1⟩ := ip.h1
  obtain ⟨ro, e2⟩ := ip.h2
  have hb : typeOf u = pure (.type "int") := by
    obtain ⟨t, rfl⟩ := (show ∃ t, u = Value.int i t from ry)
    rfl
  refine PySem.W.ksp_binT hF I.ok.mod.kin J hb h3 h1 h2 ip.rp (.inl rfl) e1 e2 ip.sub (thn (run_own (Sub.here (hr.mono hk)) F b pass0 I (show Vals [V.ref a, V.int i] [Value.ref a, u] from .cons rfl (.cons ry .nil)) hsp) fun r s' q => ?_)
  obtain ⟨z, H', I', rz, q⟩ := q
  exact notNI rz ⟨z, H', I', rz, q⟩
theorem pe_mt {pl : Sem Bool} {m : Str} {o e : Expr} {es : List Expr} {apos pos : Pos} {ta : TE} {t : TA} (c : Cls X.K C) (D : Mf X.prog X.w X.K X.mg X.base k C m sp) (hr : Room j X.A) (hk : k ≤ j) (he : PE X o ta) (ha : PA X (e :: es) t)
    (hst : starEach (e :: es) X.env = (false, eval e X.env) :: starEach es X.env := by rfl) (hpl : (backTo pos (starEach es X.env)).any (·.1) = false := by rfl)
    (ht : eval (.Call (.Attribute o m apos) (e :: es) [] pos) X.env = (do
      let ov ← eval o X.env
      standAt apos.atName
      let (f, first) ← holding [ov] (getMethod ov m pl)
      callWith pos f first (backTo pos (starEach (e :: es) X.env)) (backToKw pos (keywordEach [] X.env))) := by rfl) :
    PE X (.Call (.Attribute o m apos) (e :: es) [] pos) (tMeth C m sp [] E0 ta t) := by
  obtain ⟨f, fd, ps, F, hm, _, _, b⟩ := D.ex
  exact pe_meth (pl := pl) he c hm F (hr.mono hk) b .nil pass0 ha hst hpl ht
theorem op_leM (c : Bo X.prog X.w X.K X.mg X.base k C "__le__" sp) (hr : Room j X.A) (hk : k ≤ j) : OpR X (compareOp .LtE) (rLeOwn X.K C sp E0) := by
  obtain ⟨f, fd, ps, F, b, h1, h2, h3⟩ := c.ex
  exact op_leOwn F b pass0 ⟨h1, h2⟩ (hr.mono hk)
end
end L2

set_option Elab.async false
set_option linter.all false
set_option maxRecDepth 100000
set_option maxHeartbeats 8000000
/-! The program's small tests; a Misreading of what other ones have joined. -/
namespace V8
open PySem PySem.Spec PyProof.Rows L2
abbrev s_check_text : Stmt := topS 22
abbrev n_check_text : List Str := ["value"]
theorem sc_check_text : FnScope ["value"] ["value"] (defScope s_check_text) := ⟨rfl, rfl, rfl, by decide +kernel, rfl, by decide +kernel, by decide +kernel⟩
abbrev s_bounded : Stmt := topS 23
abbrev n_bounded : List Str := ["string"]
theorem sc_bounded : FnScope ["string"] ["string"] (defScope s_bounded) := ⟨rfl, rfl, rfl, by decide +kernel, rfl, by decide +kernel, by decide +kernel⟩
abbrev s_check_other : Stmt := topS 33
abbrev n_check_other : List Str := ["other"]
theorem sc_check_other : FnScope ["other"] ["other"] (defScope s_check_other) := ⟨rfl, rfl, rfl, by decide +kernel, rfl, by decide +kernel, by decide +kernel⟩
abbrev s_is_integer : Stmt := topS 20
abbrev n_is_integer : List Str := ["value"]
theorem sc_is_integer : FnScope ["value"] ["value"] (defScope s_is_integer) := ⟨rfl, rfl, rfl, by decide +kernel, rfl, by decide +kernel, by decide +kernel⟩
abbrev s_is_between : Stmt := topS 21
abbrev n_is_between : List Str := ["value", "least", "most"]
theorem sc_is_between : FnScope ["value", "least", "most"] ["value", "least", "most"] (defScope s_is_between) := ⟨rfl, rfl, rfl, by decide +kernel, rfl, by decide +kernel, by decide +kernel⟩
abbrev s_Joined_init : Stmt := inClass (topS 28) 0
abbrev n_Joined_init : List Str := ["self", "images"]
theorem sc_Joined_init : FnScope ["self", "images"] ["self", "images"] (defScope s_Joined_init) := ⟨rfl, rfl, rfl, by decide +kernel, rfl, by decide +kernel, by decide +kernel⟩
abbrev s_Misreading_first_barred : Stmt := inClass (topS 29) 7
abbrev n_Misreading_first_barred : List Str := ["self", "text", "at", "letter"]
theorem sc_Misreading_first_barred : FnScope ["self", "text", "at", "letter"] ["self", "text"] (defScope s_Misreading_first_barred) := ⟨rfl, rfl, rfl, by decide +kernel, rfl, by decide +kernel, by decide +kernel⟩
abbrev s_Misreading_image : Stmt := inClass (topS 29) 8
abbrev n_Misreading_image : List Str := ["self", "text", "letter"]
theorem sc_Misreading_image : FnScope ["self", "text", "letter"] ["self", "text"] (defScope s_Misreading_image) := ⟨rfl, rfl, rfl, by decide +kernel, rfl, by decide +kernel, by decide +kernel⟩
structure Tz (K : PySem.W.Frag) (mg : Str → Option Value) (CM CJ : Addr) : Prop extends Ty K mg CM CJ where
  enumerate : mg "enumerate" = none
  all : mg "all" = none
  bool : mg "bool" = none
  gLONGEST_JOINED : GV mg "LONGEST_JOINED" (.int 64)
  clJ : Cls K CJ
  nJ : NoAttr K CJ "images"
  jA : PySem.W.findIn K (.ref CJ) "__class__" = some (some (.builtin "object.__class__"))
  jD : PySem.W.mroIn K CJ (.type "object") = some true
  ip : IntP K CM
  JJ : PySem.W.kitOne K (.ref CJ) (.ref CJ) = some true
def spChkT : Sp := fun vs H Q _ => ∃ cs : List Nat, vs = [.str (Sx cs)] ∧ (∀ c ∈ cs, isLt c) ∧ cs.length ≤ 2000 ∧ Q .non H
def spBound : Sp := fun vs H Q _ => ∃ cs : List Nat, vs = [.str (Sx cs)] ∧ cs.length ≤ 2000 ∧ Q (.str (Sx cs)) H
def spChkO (CM : Addr) : Sp := fun vs H Q _ => ∃ z u, vs = [.ref z] ∧ MisAt CM H z u ∧ Q .non H
def spInt : Sp := fun vs H Q _ => ∃ i, vs = [.int i] ∧ Q (.bl true) H
def spBtw : Sp := fun vs H Q _ => ∃ i a b : Int, vs = [.int i, .int a, .int b] ∧ a ≤ i ∧ i ≤ b ∧ Q (.bl true) H
def fJ (d : Addr) : List (Str × V) := putF "images" (.ref d) []
theorem fJ_i (d : Addr) : (fJ d).lookup ("images" : Str) = some (.ref d) := by
  unfold fJ
  rw [lookup_putF, if_pos rfl]
def spJ (CJ : Addr) : Sp := fun vs H Q _ => ∃ (j dj d : Addr), vs = [.ref j, .ref d] ∧ H j = some (.ins CJ dj []) ∧ Q .non (upd H j (.ins CJ dj (fJ d)))
def spInitJ (CM CJ : Addr) : Sp := fun vs H Q _ => ∃ (x dx j dj d : Addr) (t : Tab), vs = [.ref x, .ref j, .str (Sx [])] ∧ H x = some (.ins CM dx []) ∧ H j = some (.ins CJ dj (fJ d)) ∧ H d = some (.dK (encT t)) ∧ t.length ≤ 12 ∧
  ∀ H', MisN CM H H' x t → (∀ b o, H b = some o → b ≠ x → H' b = some o) → Q .non H'
def spFB (CM : Addr) : Sp := fun vs H Q _ => ∃ (x : Addr) (u : Tab) (cs : List Nat), vs = [.ref x, .str (Sx cs)] ∧ MisAt CM H x u ∧ cs.length ≤ 4000 ∧ (∀ r H', imF (lk u) cs = some r → Same H H' → Q .non H') ∧ (∀ (i : Nat) H', i < cs.length → imF (lk u) cs = none → Same H H' → Q (.int i) H')
def spImg (CM : Addr) : Sp := fun vs H Q _ => ∃ (x : Addr) (u : Tab) (cs r : List Nat), vs = [.ref x, .str (Sx cs)] ∧ MisAt CM H x u ∧ Bnd 64 (lk u) ∧ imF (lk u) cs = some r ∧ cs.length ≤ 2000 ∧ ∀ H', Same H H' → Q (.str (Sx r)) H'
section
variable {P : Program} {w : World} {K : PySem.W.Frag} {mg : Str → Option Value} {base : Heap} {CM CJ : Addr}
theorem ok_check_text {f : Addr} {fd : FuncData} (F : Fun K "check_text" "check_text" s_check_text f fd) (T : Tx K mg CM CJ) (D_is_text : Df P w K mg base 2 "is_text" spIsText) : FnOk P w K mg base CX0 3 f fd ["value"] spChkT := by
  refine F.ok sc_check_text (fun vs H Q E h => ?_) (fun cdv A outer s H vs Q E hr h => ?_)
  · obtain ⟨cs, rfl, _⟩ := h
    rfl
  · obtain ⟨cs, rfl, hl, hn, q⟩ := h
    refine ⟨_, (pss_one (ps_if (pt_not (pt_val (pe_c D_is_text hr (by decide) (by rfl) (pa_cons (pv 0) pa_nil))))
        (pss_one ps_never)
        pss_nil)), ?_⟩
    exact ⟨_, rfl, cs, rfl, hl, hn, true, rfl, iteF q⟩
theorem ok_bounded {f : Addr} {fd : FuncData} (F : Fun K "bounded" "bounded" s_bounded f fd) (T : Tx K mg CM CJ) : FnOk P w K mg base CX0 1 f fd ["string"] spBound := by
  refine F.ok sc_bounded (fun vs H Q E h => ?_) (fun cdv A outer s H vs Q E hr h => ?_)
  · obtain ⟨cs, rfl, _⟩ := h
    rfl
  · obtain ⟨cs, rfl, hn, q⟩ := h
    refine ⟨_, (pss_cons (ps_if (pt_cmpR op_gt (pe_callB call_len_str (by rfl) T.len (by decide +kernel) (pa_cons (pv 0) pa_nil)) (pe_gv T.gLONGEST (by rfl)) (nomark _))
        (pss_one ps_never)
        pss_nil)
      (pss_one (ps_ret (pv 0)))), ?_⟩
    have hz : (Sx cs).length ≤ sizeLine := by rw [Sx_len, sizeLine_eq]; omega
    refine ⟨_, rfl, _, rfl, hz, _, _, rfl, rfl, _, rfl, ?_⟩
    rw [Sx_len, decide_eq_false (by show ¬ ((2000 : Int) < (cs.length : Int)); omega)]
    exact iteF ⟨_, rfl, q⟩
theorem ok_check_other {f : Addr} {fd : FuncData} (F : Fun K "check_other" "check_other" s_check_other f fd) (T : Ty K mg CM CJ) : FnOk P w K mg base CX0 1 f fd ["other"] (spChkO CM) := by
  refine F.ok sc_check_other (fun vs H Q E h => ?_) (fun cdv A outer s H vs Q E hr h => ?_)
  · obtain ⟨z, u, rfl, _⟩ := h
    rfl
  · obtain ⟨z, u, rfl, M, q⟩ := h
    refine ⟨_, (pss_one (ps_if (pt_not (pt_val (pe_callB call_isi (by rfl) T.isinstance (by decide +kernel) (pa_cons (pv 0) (pa_cons (pe_gv T.gMisreading (by rfl)) pa_nil)))))
        (pss_one ps_never)
        pss_nil)), ?_⟩
    obtain ⟨dx, fs, hx⟩ := M.ins
    exact ⟨_, rfl, _, .ref CM, .ref CM, .ref CM, true, rfl, .own _, .base (.ins hx T.cl T.tA T.tB T.tC T.tD), T.mM, true, rfl, iteF q⟩
theorem ok_is_integer {f : Addr} {fd : FuncData} (F : Fun K "is_integer" "is_integer" s_is_integer f fd) (T : Tz K mg CM CJ) : FnOk P w K mg base CX0 1 f fd ["value"] spInt := by
  refine F.ok sc_is_integer (fun vs H Q E h => ?_) (fun cdv A outer s H vs Q E hr h => ?_)
  · obtain ⟨i, rfl, _⟩ := h
    rfl
  · obtain ⟨i, rfl, q⟩ := h
    refine ⟨_, (pss_one (ps_ret (pe_and (pe_callB call_isi (by rfl) T.isinstance (by decide +kernel) (pa_cons (pv 0) (pa_cons (pe_bltn (v := .ty "int") (by rfl) T.int (by decide +kernel) rfl) pa_nil))) (pe_one (pe_not (pe_callB call_isi (by rfl) T.isinstance (by decide +kernel) (pa_cons (pv 0) (pa_cons (pe_bltn (v := .ty "bool") (by rfl) T.bool (by decide +kernel) rfl) pa_nil)))))))), ?_⟩
    refine ⟨_, rfl, _, .ty "int", .type "int", .type "int", true, rfl, .ty _, .base (.int i), kit_ty (by decide +kernel), true, rfl, ?_⟩
    refine ⟨_, rfl, _, .ty "bool", .type "int", .type "bool", false, rfl, .ty _, .base (.int i), kit_ty (by decide +kernel), ?_⟩
    exact ⟨_, rfl, q⟩
theorem ok_is_between {f : Addr} {fd : FuncData} (F : Fun K "is_between" "is_between" s_is_between f fd) (T : Tz K mg CM CJ) (D_is_integer : Df P w K mg base 1 "is_integer" spInt) : FnOk P w K mg base CX0 2 f fd ["value", "least", "most"] spBtw := by
  refine F.ok sc_is_between (fun vs H Q E h => ?_) (fun cdv A outer s H vs Q E hr h => ?_)
  · obtain ⟨i, a, b, rfl, _⟩ := h
    rfl
  · obtain ⟨i, a, b, rfl, ha, hb, q⟩ := h
    refine ⟨_, (pss_one (ps_ret (pe_and (pe_c D_is_integer hr (by decide) (by rfl) (pa_cons (pv 0) pa_nil)) (pe_one (pe_chain op_le op_le (pv 1) (pv 0) (pv 2)))))), ?_⟩
    refine ⟨_, rfl, i, rfl, true, rfl, iteT ?_⟩
    refine ⟨_, rfl, _, rfl, _, _, rfl, rfl, true, dec_t ha, ?_⟩
    refine ⟨_, rfl, _, _, rfl, rfl, ?_⟩
    show Q (V.bl (decide (i ≤ b))) H
    rw [decide_eq_true hb]
    exact q
theorem ok_Joined {f : Addr} {fd : FuncData} (F : Fun K "__init__" "Joined.__init__" s_Joined_init f fd) (T : Tz K mg CM CJ) : FnOk P w K mg base CX0 1 f fd ["self", "images"] (spJ CJ) := by
  refine F.ok sc_Joined_init (fun vs H Q E h => ?_) (fun cdv A outer s H vs Q E hr h => ?_)
  · obtain ⟨j, dj, d, rfl, _⟩ := h
    rfl
  · obtain ⟨j, dj, d, rfl, hj, q⟩ := h
    refine ⟨_, (pss_one (ps_fld (pv 0) (pv 1) rfl)), ?_⟩
    exact ⟨_, rfl, _, rfl, j, CJ, dj, [], rfl, hj, T.clJ, T.nJ, by decide, q⟩
theorem ok_initJ {f : Addr} {fd : FuncData} {dvs : List V} (F : FunD K "__init__" "Misreading.__init__" (defArgs s_Misreading_init) (defBody s_Misreading_init) (defScope s_Misreading_init) dvs [] f fd) (T : Tz K mg CM CJ) (D_told_images : Df P w K mg base 4 "told_images" spTold) : FnOk P w K mg base CX0 5 f fd ["self", "images", "keeps"] (spInitJ CM CJ) := by
  refine F.ok sc_Misreading_init (fun vs H Q E h => ?_) (fun cdv A outer s H vs Q E hr h => ?_)
  · obtain ⟨x, dx, j, dj, d, t, rfl, _⟩ := h
    rfl
  · obtain ⟨x, dx, j, dj, r, u, rfl, hx, hj, hr1, lu, q⟩ := h
    refine ⟨_, (pss_cons (ps_set (i := 3) sc_Misreading_init.nd rfl (.inr rfl) (pe_ifExp (pt_val (pe_callB call_isi (by rfl) T.isinstance (by decide +kernel) (pa_cons (pv 1) (pa_cons (pe_gv T.gJoined (by rfl)) pa_nil)))) (pe_fldK (K := K) rfl (pv 1) rfl) (pe_c D_told_images hr (by decide) (by rfl) (pa_cons (pv 1) (pa_cons (pv 2) pa_nil)))))
      (pss_cons (ps_if (pt_cmpR op_gt (pe_callB call_lenD (by rfl) T.len (by decide +kernel) (pa_cons (pv 3) pa_nil)) (pe_gv T.gMOST_LETTERS (by rfl)) (nomark _))
        (pss_one ps_never)
        pss_nil)
      (pss_cons (ps_fld (pv 0) (pe_callTy (call_tuple_ofK (K := K) rfl) (by rfl) T.tuple (by decide +kernel) (pa_cons (pe_lc (own := [("letter", 4)]) (g := gName 4) (by rfl) sc_Misreading_init.nd (pi_str (pe_gv T.gLETTERS (by rfl))) (blkOk_by (own := [("letter", 4)]) (N := n_Misreading_init) (sc := defScope s_Misreading_init) (by decide +kernel)) (fun _ _ _ _ _ => (pg_name (i := 4) sc_Misreading_init.nd rfl (.inl rfl))) (fun _ _ _ _ _ => (pts_one (pt_cmp (pc_din (hu_of hr) (pv 4) (pv 3))))) (fun _ _ _ _ _ => (pv 4))) pa_nil)) rfl)
      (pss_cons (ps_fld (pv 0) (pe_dc (own := [("letter", 4)]) (g := gName 4) (by rfl) sc_Misreading_init.nd (pi_tup (pe_fldK (K := K) rfl (pv 0) rfl)) (blkOk_by (own := [("letter", 4)]) (N := n_Misreading_init) (sc := defScope s_Misreading_init) (by decide +kernel)) (fun _ _ _ _ _ => (pg_name (i := 4) sc_Misreading_init.nd rfl (.inl rfl))) (fun _ _ _ _ _ => pts_nil) (fun _ _ _ _ _ => (pv 4)) (fun _ _ _ _ _ => (pe_dget (hu_of hr) (pv 3) (pv 4) (fun _ _ => rfl)))) rfl)
      (pss_one (ps_fld (pv 0) (pe_callTy (call_tuple_ofK (K := K) rfl) (by rfl) T.tuple (by decide +kernel) (pa_cons (pe_lc (own := [("letter", 4)]) (g := gName 4) (by rfl) sc_Misreading_init.nd (pi_tup (pe_fldK (K := K) rfl (pv 0) rfl)) (blkOk_by (own := [("letter", 4)]) (N := n_Misreading_init) (sc := defScope s_Misreading_init) (by decide +kernel)) (fun _ _ _ _ _ => (pg_name (i := 4) sc_Misreading_init.nd rfl (.inl rfl))) (fun _ _ _ _ _ => (pts_one (pt_cmpR op_ne (pe_dget (hu_of hr) (pv 3) (pv 4) (fun _ _ => rfl)) (pv 4) (nomark _)))) (fun _ _ _ _ _ => (pv 4))) pa_nil)) rfl)))))), ?_⟩
    refine ⟨_, rfl, _, .ref CJ, .ref CJ, .ref CJ, true, rfl, .own _, .base (.ins hj T.clJ T.jA T.tB T.tC T.jD), T.JJ, true, rfl, ?_⟩
    refine iteT ?_
    refine ⟨_, rfl, j, CJ, dj, _, _, rfl, hj, T.clJ, T.nJ, fJ_i r, ?_⟩
    obtain ⟨H1, e1⟩ : ∃ H1, H1 = H := ⟨H, rfl⟩
    have sm : Same H H1 := by
      rw [e1]
      exact Same.refl H
    have hx1 := sm _ _ hx
    replace hr1 := sm _ _ hr1
    have h12 : (12 : Nat) ≤ 12 := Nat.le_refl _
    show tSeq _ _ _ _ H
    rw [show tSeq _ _ _ _ H = tSeq _ _ _ _ H1 from by rw [e1]]
    clear e1
    -- len(told) > 12
    refine ⟨_, rfl, r, _, rfl, hr1, _, _, rfl, rfl, _, rfl, ?_⟩
    rw [encT_len, decide_eq_false (by show ¬ ((12 : Int) < (u.length : Int)); omega)]
    refine iteF ?_
    have hx0 : ∀ b o, H b = some o → b ≠ x → H1 b = some o := fun b o e _ => sm b o e
    -- self._letters
    refine ⟨abcS, rfl, fun D nD => lc_it walk_str (fun i H2 => H2 = upd H1 D (.lst (lets ((abc.take i).filter fun c => (lookT u c).isSome)))) rfl (fun _ _ _ _ => trivial) ?_ ?_⟩
    · rintro i z H2 H2' hi rfl ⟨rfl, c, hc, rfl⟩
      have hc' : abc[i]? = some c := by
        rw [← abcS_cps]
        simpa using hc
      have hrD : r ≠ D := ne_of_none hr1 nD
      refine ⟨rfl, _, rfl, _, rfl, r, _, rfl, DGet.k (k := Sum.inr (L1 c)) (by rw [upd_ne hrD]; exact hr1), _, rfl, ?_⟩
      rw [valV_enc]
      have hs := some_put u i c hc'
      by_cases e : (lookT u c).isSome = true
      · have e2 : (Option.map (fun s => V.str (Sx s)) (lookT u c)).isSome = true := by rw [Option.isSome_map]; exact e
        rw [e2]
        refine iteT ?_
        rw [if_pos e] at hs
        refine ⟨_, rfl, lets ((abc.take i).filter fun c => (lookT u c).isSome), upd_same, ?_, ?_⟩
        · rw [lets_len]
          have h1 := List.length_filter_le (fun c => (lookT u c).isSome) (abc.take i)
          have h2 : (abc.take i).length ≤ 26 := by rw [List.length_take, abc_len]; omega
          exact small1000 (by omega)
        · rw [upd_upd, hs, lets_snoc]
          rfl
      · have e2 : (Option.map (fun s => V.str (Sx s)) (lookT u c)).isSome = false := by
          rw [Option.isSome_map]
          exact Bool.eq_false_iff.mpr e
        rw [e2]
        refine iteF ?_
        rw [if_neg e, List.append_nil] at hs
        rw [hs]
    · rintro H2 rfl
      have hsz : abcS.cps.size = 26 := by decide +kernel
      rw [hsz]
      have ek : (abc.take 26).filter (fun c => (lookT u c).isSome) = keysOf u := by
        rw [List.take_of_length_le (by rw [abc_len]; exact Nat.le_refl _)]
        rfl
      rw [ek]
      refine ⟨D, _, rfl, .inl ⟨SqL.of upd_same, fun a na => ?_⟩⟩
      have hxD : x ≠ D := ne_of_none hx1 nD
      have hxa : x ≠ a := ne_of_none (H := upd H1 D (.lst (lets (keysOf u)))) (o := .ins CM dx []) (by rw [upd_ne hxD]; exact hx1) na
      have hrD : r ≠ D := ne_of_none hr1 nD
      have hra : r ≠ a := ne_of_none (H := upd H1 D (.lst (lets (keysOf u)))) (o := .dK (encT u)) (by rw [upd_ne hrD]; exact hr1) na
      have hrx : r ≠ x := ne_of hr1 hx1 (fun z => nomatch z)
      refine ⟨_, rfl, x, CM, dx, [], rfl, by rw [upd_ne hxa, upd_ne hxD]; exact hx1, T.cl, T.nL, by show 0 < 1000; decide, ?_⟩
      have fr3 : ∀ b o, H b = some o → b ≠ x → upd (upd (upd H1 D (.lst (lets (keysOf u)))) a (.tup (lets (keysOf u)))) x (.ins CM dx (f1 a)) b = some o := fun b o e hb => by
        have e1 := sm b o e
        have hbD := ne_of_none e1 nD
        rw [upd_ne hb, upd_ne (ne_of_none (H := upd H1 D (.lst (lets (keysOf u)))) (o := o) (by rw [upd_ne hbD]; exact e1) na), upd_ne hbD]
        exact e1
      have hx3 : upd (upd (upd H1 D (.lst (lets (keysOf u)))) a (.tup (lets (keysOf u)))) x (.ins CM dx (f1 a)) x = some (.ins CM dx (f1 a)) := upd_same
      have ha3 : upd (upd (upd H1 D (.lst (lets (keysOf u)))) a (.tup (lets (keysOf u)))) x (.ins CM dx (f1 a)) a = some (.tup (lets (keysOf u))) := by rw [upd_ne (Ne.symm hxa), upd_same]
      have hr3 : upd (upd (upd H1 D (.lst (lets (keysOf u)))) a (.tup (lets (keysOf u)))) x (.ins CM dx (f1 a)) r = some (.dK (encT u)) := by rw [upd_ne hrx, upd_ne hra, upd_ne hrD]; exact hr1
      show tSeq _ _ _ _ (upd (upd (upd H1 D (.lst (lets (keysOf u)))) a (.tup (lets (keysOf u)))) x (.ins CM dx (f1 a)))
      generalize upd (upd (upd H1 D (.lst (lets (keysOf u)))) a (.tup (lets (keysOf u)))) x (.ins CM dx (f1 a)) = H3 at fr3 hx3 ha3 hr3 ⊢
      have naH : H a = none := by
        cases e : H a with
        | none => rfl
        | some o =>
          have e1 := sm _ _ e
          have e2 : upd H1 D (.lst (lets (keysOf u))) a = some o := by rw [upd_ne (ne_of_none e1 nD)]; exact e1
          rw [e2] at na
          cases na
      clear na nD hxD hxa hrD hra
      -- self._images
      refine ⟨_, rfl, x, CM, dx, _, _, rfl, hx3, T.cl, T.nL, f1_L a, a, rfl, ⟨_, .inl (.inl ha3)⟩, fun D2 nD2 => dc_it (walk_tup (K := K) (a := a) (xs := lets (keysOf u))) (fun i H4 => H4 = upd H3 D2 (.dK (encT (((keysOf u).take i).map fun c => (c, (lookT u c).getD []))))) rfl ?_ ?_ ?_⟩
      · rintro i H4 hi rfl
        exact .inl (.inl (by rw [upd_ne (ne_of_none ha3 nD2)]; exact ha3))
      · rintro i z H4 H4' hi rfl ⟨rfl, hz⟩
        obtain ⟨hik, rfl⟩ := lets_get hz
        obtain ⟨s, es⟩ := Option.isSome_iff_exists.mp (List.mem_filter.mp (List.getElem_mem hik)).2
        refine ⟨rfl, _, rfl, _, rfl, _, rfl, r, V.str (Sx s), rfl, .inl ⟨_, Sum.inr (L1 (keysOf u)[i]), .inl (by rw [upd_ne (ne_of_none hr3 nD2)]; exact hr3), rfl, by rw [valV_enc, es]; rfl⟩, _, Sum.inr (L1 (keysOf u)[i]), rfl, upd_same, ?_, ?_⟩
        · rw [encT_len, List.length_map, List.length_take]
          have := keysOf_len u
          exact small1000 (by omega)
        · rw [upd_upd, putK_enc]
          congr 3
          exact ims_succ (keysOf_nd u) hik (by rw [es]; rfl)
      · rintro H4 rfl
        rw [lets_len, List.take_length]
        have hxD2 : x ≠ D2 := ne_of_none hx3 nD2
        have haD2 : a ≠ D2 := ne_of_none ha3 nD2
        have hrD2 : r ≠ D2 := ne_of_none hr3 nD2
        refine ⟨_, rfl, x, CM, dx, f1 a, rfl, by rw [upd_ne hxD2]; exact hx3, T.cl, T.nI, f1_len a, ?_⟩
        have hax : a ≠ x := ne_of ha3 hx3 (fun z => nomatch z)
        have nbH : H D2 = none := by
          cases e : H D2 with
          | none => rfl
          | some o =>
            have e1 := fr3 _ _ e (Ne.symm hxD2)
            rw [e1] at nD2
            cases nD2
        have fr5 : ∀ b o, H b = some o → b ≠ x → upd (upd H3 D2 (.dK (encT (ims u)))) x (.ins CM dx (f2 a D2)) b = some o := fun b o e hb => by
          have e1 := fr3 b o e hb
          rw [upd_ne hb, upd_ne (ne_of_none e1 nD2)]
          exact e1
        have hx5 : upd (upd H3 D2 (.dK (encT (ims u)))) x (.ins CM dx (f2 a D2)) x = some (.ins CM dx (f2 a D2)) := upd_same
        have ha5 : upd (upd H3 D2 (.dK (encT (ims u)))) x (.ins CM dx (f2 a D2)) a = some (.tup (lets (keysOf u))) := by rw [upd_ne hax, upd_ne haD2]; exact ha3
        have hr5 : upd (upd H3 D2 (.dK (encT (ims u)))) x (.ins CM dx (f2 a D2)) r = some (.dK (encT u)) := by rw [upd_ne hrx, upd_ne hrD2]; exact hr3
        have hd5 : upd (upd H3 D2 (.dK (encT (ims u)))) x (.ins CM dx (f2 a D2)) D2 = some (.dK (encT (ims u))) := by rw [upd_ne (Ne.symm hxD2), upd_same]
        show Ends.nx _ _ (upd (upd H3 D2 (.dK (encT (ims u)))) x (.ins CM dx (f2 a D2)))
        generalize upd (upd H3 D2 (.dK (encT (ims u)))) x (.ins CM dx (f2 a D2)) = H5 at fr5 hx5 ha5 hr5 hd5 ⊢
        -- self.changed
        refine ⟨_, rfl, x, CM, dx, _, _, rfl, hx5, T.cl, T.nL, f2_L a D2, a, rfl, ⟨_, .inl (.inl ha5)⟩, fun D3 nD3 => lc_it (walk_tup (K := K) (a := a) (xs := lets (keysOf u))) (fun i H6 => H6 = upd H5 D3 (.lst (lets (((keysOf u).take i).filter fun c => decide (lookT u c ≠ some [c]))))) rfl ?_ ?_ ?_⟩
        · rintro i H6 hi rfl
          exact .inl (.inl (by rw [upd_ne (ne_of_none ha5 nD3)]; exact ha5))
        · rintro i z H6 H6' hi rfl ⟨rfl, hz⟩
          obtain ⟨hik, rfl⟩ := lets_get hz
          obtain ⟨s, es⟩ := Option.isSome_iff_exists.mp (List.mem_filter.mp (List.getElem_mem hik)).2
          refine ⟨rfl, _, rfl, _, rfl, r, V.str (Sx s), rfl, .inl ⟨_, Sum.inr (L1 (keysOf u)[i]), .inl (by rw [upd_ne (ne_of_none hr5 nD3)]; exact hr5), rfl, by rw [valV_enc, es]; rfl⟩, _, rfl, rfl, _, rfl, ?_⟩
          have hs := chg_succ (u := u) hik
          by_cases e : s = [(keysOf u)[i]]
          · have e1 : lookT u (keysOf u)[i] = some [(keysOf u)[i]] := by rw [es, e]
            rw [if_neg (by simp [e1]), List.append_nil] at hs
            rw [decide_eq_true (show V.str (Sx s) = V.str (L1 (keysOf u)[i]) by rw [e]; rfl)]
            refine iteF ?_
            rw [hs]
          · have e1 : ¬ lookT u (keysOf u)[i] = some [(keysOf u)[i]] := by
              rw [es]
              exact fun z => e (Option.some.inj z)
            rw [if_pos (by simpa using e1)] at hs
            rw [decide_eq_false (show ¬ V.str (Sx s) = V.str (L1 (keysOf u)[i]) from fun z => e (Sx_inj (V.str.inj z)))]
            refine iteT ?_
            refine ⟨_, rfl, _, upd_same, ?_, ?_⟩
            · rw [lets_len]
              have h1 := List.length_filter_le (fun c => decide (lookT u c ≠ some [c])) ((keysOf u).take i)
              have h2 := keysOf_len u
              have h3 : ((keysOf u).take i).length ≤ (keysOf u).length := by rw [List.length_take]; omega
              exact small1000 (by omega)
            · rw [upd_upd, hs, lets_snoc]
        · rintro H6 rfl
          rw [lets_len, List.take_length]
          refine ⟨D3, _, rfl, .inl ⟨SqL.of upd_same, fun c nc => ?_⟩⟩
          have hxD3 : x ≠ D3 := ne_of_none hx5 nD3
          have up : ∀ b o, H5 b = some o → upd (upd H5 D3 (.lst (lets (chg u)))) c (.tup (lets (chg u))) b = some o := fun b o e => by
            have hb := ne_of_none e nD3
            rw [upd_ne (ne_of_none (H := upd H5 D3 (.lst (lets (chg u)))) (o := o) (by rw [upd_ne hb]; exact e) nc), upd_ne hb]
            exact e
          have hxc : x ≠ c := ne_of_none (H := upd H5 D3 (.lst (lets (chg u)))) (o := .ins CM dx (f2 a D2)) (by rw [upd_ne hxD3]; exact hx5) nc
          refine ⟨_, rfl, x, CM, dx, f2 a D2, rfl, up _ _ hx5, T.cl, T.nC, f2_len a D2, ?_⟩
          have ncH : H c = none := by
            have nc' : upd H5 D3 (.lst (lets (chg u))) c = none := nc
            cases e : H c with
            | none => rfl
            | some o =>
              have e3 := fr5 _ _ e (Ne.symm hxc)
              have e2 : upd H5 D3 (.lst (lets (chg u))) c = some o := by
                rw [upd_ne (ne_of_none e3 nD3)]
                exact e3
              rw [e2] at nc'
              cases nc'
          have hD2x : D2 ≠ x := ne_of hd5 hx5 (fun z => nomatch z)
          refine q _ ⟨dx, a, D2, c, upd_same, ?_, ?_, ?_, naH, nbH, ncH⟩ fun b o e hb => ?_
          · rw [upd_ne hax]
            exact up _ _ ha5
          · rw [upd_ne hD2x]
            exact up _ _ hd5
          · rw [upd_ne (Ne.symm hxc)]
            exact upd_same
          · rw [upd_ne hb]
            exact up _ _ (fr5 b o e hb)
end
end V8

set_option Elab.async false
set_option linter.all false
set_option maxRecDepth 100000
set_option maxHeartbeats 8000000
/-! first_barred, image. -/
namespace V8
open PySem PySem.Spec PyProof.Rows L2
section
variable {P : Program} {w : World} {K : PySem.W.Frag} {mg : Str → Option Value} {base : Heap} {CM CJ : Addr}
theorem ok_first_barred {f : Addr} {fd : FuncData} (F : Fun K "first_barred" "Misreading.first_barred" s_Misreading_first_barred f fd) (T : Tz K mg CM CJ) : FnOk P w K mg base CX0 1 f fd ["self", "text"] (spFB CM) := by
  refine F.ok sc_Misreading_first_barred (fun vs H Q E h => ?_) (fun cdv A outer s H vs Q E hr h => ?_)
  · obtain ⟨x, u, cs, rfl, _⟩ := h
    rfl
  · obtain ⟨x, u, cs, rfl, ⟨dx, a, b, c', hx, ha, hb, hc⟩, h4, q1, q2⟩ := h
    refine ⟨_, (pss_cons (ps_for PassesOwn.never rfl (pi_enumS (by rfl) T.enumerate (pa_cons (pv 1) pa_nil)) (pg_tup (by rfl) (pgs_cons (pg_name (i := 2) sc_Misreading_first_barred.nd rfl (.inl rfl)) (pgs_cons (pg_name (i := 3) sc_Misreading_first_barred.nd rfl (.inl rfl)) pgs_nil)))
        (pss_one (ps_if (pt_cmp (pc_dnotin (hu_of hr) (pv 3) (pe_fldK (K := K) rfl (pv 0) rfl)))
          (pss_one (ps_ret (pv 2)))
          pss_nil)))
      (pss_one (ps_ret pe_non))), ?_⟩
    refine ⟨_, rfl, Sx cs, rfl, for_it walk_enumS (fun i σ H2 => (∃ v2 v3 : Option V, σ = [some (.ref x), some (.str (Sx cs)), v2, v3]) ∧ Same H H2 ∧ ∀ c ∈ cs.take i, c ∈ keysOf u) ⟨⟨none, none, rfl⟩, Same.refl H, fun c h => by simp at h⟩ (fun _ _ _ _ _ => trivial) ?_ ?_⟩
    · rintro i z σ H2 H2' hi ⟨⟨v2, v3, rfl⟩, s2, hk⟩ ⟨tq, c, rfl, ntq, rfl, hc0⟩
      have hc1 := sx_at hc0
      obtain ⟨hi', ec⟩ := List.getElem?_eq_some_iff.mp hc1
      refine ⟨tq, _, rfl, .inl (.inl upd_same), rfl, _, _, rfl, _, _, rfl, rfl, ?_⟩
      have s3 := same_put (s := s2) (o := .tup [.int (i : Nat), .str ⟨#[c]⟩]) ntq
      refine ⟨_, rfl, _, rfl, x, CM, dx, _, _, rfl, s3 _ _ hx, T.cl, T.nI, f3_I a b c', b, _, rfl, DGet.k (k := Sum.inr (L1 c)) (s3 _ _ hb), _, rfl, ?_⟩
      rw [valV_enc, Option.isSome_map, look_ims]
      by_cases m : c ∈ keysOf u
      · rw [if_pos m]
        refine iteF ⟨⟨_, _, rfl⟩, s3, fun d hd => ?_⟩
        rw [List.take_add_one, hc1] at hd
        rcases List.mem_append.mp hd with h | h
        · exact hk d h
        · rw [List.mem_singleton.mp h]
          exact m
      · rw [if_neg m]
        refine iteT ⟨_, rfl, q2 i _ hi' ?_ s3⟩
        exact imF_none.mpr ⟨c, ec ▸ List.getElem_mem hi', lk_not m⟩
    · rintro σ H2 ⟨⟨v2, v3, rfl⟩, s2, hk⟩
      rw [sx_size, List.take_length] at hk
      exact q1 _ H2 (imF_look hk) s2
theorem ok_image {f : Addr} {fd : FuncData} (F : Fun K "image" "Misreading.image" s_Misreading_image f fd) (T : Tz K mg CM CJ) : FnOk P w K mg base CX0 1 f fd ["self", "text"] (spImg CM) := by
  refine F.ok sc_Misreading_image (fun vs H Q E h => ?_) (fun cdv A outer s H vs Q E hr h => ?_)
  · obtain ⟨x, u, cs, r, rfl, _⟩ := h
    rfl
  · obtain ⟨x, u, cs, r, rfl, ⟨dx, a, b, c', hx, ha, hb, hc⟩, sm, er, h2, q⟩ := h
    refine ⟨_, (pss_one (ps_ret (pe_joinK (K := K) rfl pe_str (pe_lc (own := [("letter", 2)]) (g := gName 2) (by rfl) sc_Misreading_image.nd (pi_str (pv 1)) (blkOk_by (own := [("letter", 2)]) (N := n_Misreading_image) (sc := defScope s_Misreading_image) (by decide +kernel)) (fun _ _ _ _ _ => (pg_name (i := 2) sc_Misreading_image.nd rfl (.inl rfl))) (fun _ _ _ _ _ => pts_nil) (fun _ _ _ _ _ => (pe_dget (hu_of hr) (pe_fldK (K := K) rfl (pv 0) rfl) (pv 2) (fun _ _ => rfl))))))), ?_⟩
    have hin := imF_keys er
    have e0 := imF_look hin
    rw [e0] at er
    have e1 := Option.some.inj er
    obtain ⟨ss, ess⟩ : ∃ ss, ss = cs.map fun c => (lookT u c).getD [] := ⟨_, rfl⟩
    rw [← ess] at e1
    have hz : ∀ (i : Nat) (hi : i < cs.length), ((ss.map Sx).map V.str)[i]? = some (V.str (Sx ((lookT u cs[i]).getD []))) := fun i hi => by
      rw [ess, List.getElem?_map, List.getElem?_map, List.getElem?_map, List.getElem?_eq_getElem hi]
      rfl
    have hl : ((ss.map Sx).map V.str).length = cs.length := by
      rw [ess, List.length_map, List.length_map, List.length_map]
    refine ⟨⟨_, rfl⟩, _, rfl, Sx cs, rfl, fun D nD => lc_it walk_str (fun i H2 => H2 = upd H D (.lst (((ss.map Sx).map V.str).take i))) rfl (fun _ _ _ _ => trivial) ?_ ?_⟩
    · rintro i z H2 H2' hi rfl ⟨rfl, c, hc0, rfl⟩
      have hc1 := sx_at hc0
      obtain ⟨hi', ec⟩ := List.getElem?_eq_some_iff.mp hc1
      have hm : c ∈ keysOf u := hin c (ec ▸ List.getElem_mem hi')
      obtain ⟨s2, e2⟩ := Option.isSome_iff_exists.mp (keysOf_mem.mp hm).2
      have s1 : Same H (upd H D (.lst (((ss.map Sx).map V.str).take i))) := same_put (s := fun _ _ e => e) nD
      have hz2 := hz i hi'
      rw [ec, e2] at hz2
      refine ⟨rfl, _, rfl, x, CM, dx, _, _, rfl, s1 _ _ hx, T.cl, T.nI, f3_I a b c', _, rfl, b, V.str (Sx s2), rfl, .inl ⟨_, Sum.inr (L1 c), .inl (s1 _ _ hb), rfl, by rw [valV_enc, look_ims_some hm, e2]; rfl⟩, ?_⟩
      refine ⟨_, upd_same, ?_, ?_⟩
      · rw [List.length_take, sizeLine_eq]
        omega
      · rw [upd_upd, List.take_add_one, hz2]
        rfl
    · rintro H2 rfl
      rw [sx_size, List.take_of_length_le (by rw [hl]; exact Nat.le_refl _)]
      refine ⟨Str.empty, D, ss.map Sx, rfl, rfl, .inl (SqL.of upd_same), ?_, ?_⟩
      · have h1 : ((ss.map Sx).map fun x => x.length).sum ≤ _ := sum_le (fun x => x.length) 64 _ fun y hy => by
          obtain ⟨s3, hs3, rfl⟩ := List.mem_map.mp hy
          rw [ess] at hs3
          obtain ⟨c, hc, rfl⟩ := List.mem_map.mp hs3
          obtain ⟨s2, e2⟩ := Option.isSome_iff_exists.mp (keysOf_mem.mp (hin c hc)).2
          rw [Sx_len, e2]
          exact sm c _ (by rw [← lk_look (hin c hc)]; exact e2)
        have h3 : (ss.map Sx).length = cs.length := by
          rw [ess, List.length_map, List.length_map]
        rw [h3] at h1 ⊢
        show _ + _ * 0 ≤ _
        have h4 : 64 * cs.length ≤ 64 * 2000 := Nat.mul_le_mul_left _ h2
        omega
      · rw [join_Sx, e1]
        exact q _ (same_put (s := fun _ _ e => e) nD)
end
end V8

set_option Elab.async false
set_option linter.all false
set_option maxRecDepth 100000
set_option maxHeartbeats 8000000
/-! Joined and Misreadings of it made. -/
namespace V8
open PySem PySem.Spec PyProof.Rows L2
structure MkrJ (P : Program) (w : World) (K : PySem.W.Frag) (mg : Str → Option Value) (base : Heap) (CJ : Addr) : Prop where
  ex : ∃ (f : Addr) (fd : FuncData), Mk K CJ f ∧ FnOk P w K mg base CX0 1 f fd ["self", "images"] (spJ CJ) ∧ mg "Joined" = some (.ref CJ) ∧ Binds K fd ["self", "images"] []
structure MkrM (P : Program) (w : World) (K : PySem.W.Frag) (mg : Str → Option Value) (base : Heap) (CM CJ : Addr) : Prop where
  ex : ∃ (f : Addr) (fd : FuncData), Mk K CM f ∧ FnOk P w K mg base CX0 5 f fd pI (spInitJ CM CJ) ∧ mg "Misreading" = some (.ref CM) ∧ ∃ ds, Vals [.str (Sx [])] ds ∧ Binds K fd pI ds
def tMkJ (CJ : Addr) (t : TA) : TE := fun σ H Q => t σ H fun vs H1 => ∃ d, vs = [.ref d] ∧ ∀ j dj H', H1 j = none → H' j = some (.ins CJ dj (fJ d)) → Same H1 H' → Q (.ref j) H'
def tMkMJ (CM CJ : Addr) (t : TA) : TE := fun σ H Q => t σ H fun vs H1 => ∃ j dj d tb, vs = [.ref j] ∧ H1 j = some (.ins CJ dj (fJ d)) ∧ H1 d = some (.dK (encT tb)) ∧ tb.length ≤ 12 ∧ ∀ x H', H1 x = none → MisAt CM H' x tb → Same H1 H' → Q (.ref x) H'
section
variable {X : Cx} {j : Nat} {CM CJ : Addr} {p pos : Pos} {e : Expr} {es : List Expr} {t : TA}
theorem pe_mkJ (M : MkrJ X.prog X.w X.K X.mg X.base CJ) (hr : Room j X.A) (hj : 2 ≤ j) (hg : Gl X "Joined") (ha : PA X (e :: es) t) (he : starEach (e :: es) X.env = (false, eval e X.env) :: starEach es X.env := by rfl) (hpl : (backTo pos (starEach es X.env)).any (·.1) = false := by rfl) :
    PE X (.Call (.Name "Joined" p) (e :: es) [] pos) (tMkJ CJ t) := by
  obtain ⟨f, fd, M, F, hm, b0⟩ := M.ex
  refine ⟨fun pins s σ H Q I h => ?_⟩
  refine wpAny_Call_Name_kw (ld_glob I hg hm ?_ (by decide))
  refine PySem.W.callWith_K (h₀ := X.base) I.ok.mod.kin M.kp (thn (ha.run pos pins s σ H _ I h) fun us s1 ⟨vs, H1, I1, r, q⟩ => ⟨I1.kIn, ?_⟩) he hpl
  obtain ⟨d, rfl, q⟩ := q
  refine run_make (dvs := []) (ds := []) M F (hr.mono hj) b0 .nil pass0 I1 r fun x dx hx hdx ne => ?_
  rw [List.append_nil]
  refine ⟨x, dx, d, rfl, upd_same, rfl, q x dx _ hx upd_same fun b o eo => ?_⟩
  have b1 := ne_of_none eo hx
  rw [upd_ne b1, upd_ne b1, upd_ne (ne_of_none eo hdx)]
  exact eo
theorem pe_mkMJ (M : MkrM X.prog X.w X.K X.mg X.base CM CJ) (hr : Room j X.A) (hj : 6 ≤ j) (hg : Gl X "Misreading") (ha : PA X (e :: es) t) (he : starEach (e :: es) X.env = (false, eval e X.env) :: starEach es X.env := by rfl) (hpl : (backTo pos (starEach es X.env)).any (·.1) = false := by rfl) :
    PE X (.Call (.Name "Misreading" p) (e :: es) [] pos) (tMkMJ CM CJ t) := by
  obtain ⟨f, fd, M, F, hm, ds, hd, b1⟩ := M.ex
  refine ⟨fun pins s σ H Q I h => ?_⟩
  refine wpAny_Call_Name_kw (ld_glob I hg hm ?_ (by decide))
  refine PySem.W.callWith_K (h₀ := X.base) I.ok.mod.kin M.kp (thn (ha.run pos pins s σ H _ I h) fun us s1 ⟨vs, H1, I1, r, q⟩ => ⟨I1.kIn, ?_⟩) he hpl
  obtain ⟨j, dj, d, tb, rfl, hj1, hd1, l12, q⟩ := q
  refine run_make M F (hr.mono hj) b1 hd pass0 I1 r fun x dx hx hdx ne => ?_
  have up : ∀ b o, H1 b = some o → upd (upd H1 dx (.own x)) x (.ins CM dx []) b = some o := fun b o eo => by
    rw [upd_ne (ne_of_none eo hx), upd_ne (ne_of_none eo hdx)]
    exact eo
  refine ⟨x, dx, j, dj, d, tb, rfl, upd_same, up _ _ hj1, up _ _ hd1, l12, fun H' m fr => ⟨rfl, q x H' hx m.mis fun b o eo => fr b o (up _ _ eo) (ne_of_none eo hx)⟩⟩
end
/-- what K holds of the def, as the rule above wants it -/
theorem mkrM_of {P : Program} {w : World} {K : PySem.W.Frag} {mg : Str → Option Value} {base : Heap} {CM CJ f : Addr} {fd : FuncData} (F : FunD K "__init__" "Misreading.__init__" (defArgs s_Misreading_init) (defBody s_Misreading_init) (defScope s_Misreading_init) [.str (Sx [])] [] f fd) (T : Tz K mg CM CJ)
    (D_told_images : Df P w K mg base 4 "told_images" spTold) (M : Mk K CM f) (hm : mg "Misreading" = some (.ref CM)) : MkrM P w K mg base CM CJ := by
  refine ⟨f, fd, M, ok_initJ F T D_told_images, hm, ?_⟩
  obtain ⟨ds, h1, h2⟩ := F.binds1 (ps := pI) 2 0 (fun z => nomatch z) rfl (fun T kV doc pm an cdv ct us its h1 h2 => match us, its, h1, h2 with | [_, _], [_], _, _ => ⟨_, rfl, rfl⟩)
  exact ⟨ds, h1, h2⟩
end V8

set_option Elab.async false
set_option linter.all false
set_option maxRecDepth 100000
set_option maxHeartbeats 8000000
/-! one >> other. -/
namespace V8
open PySem PySem.Spec PyProof.Rows L2
abbrev s_Misreading_rshift : Stmt := inClass (topS 29) 9
abbrev n_Misreading_rshift : List Str := ["self", "other", "images", "letter", "middle"]
theorem sc_Misreading_rshift : FnScope ["self", "other", "images", "letter", "middle"] ["self", "other"] (defScope s_Misreading_rshift) := ⟨rfl, rfl, rfl, by decide +kernel, rfl, by decide +kernel, by decide +kernel⟩
theorem f3_no {a b c : Addr} {m : Str} (h1 : ¬ m = "_letters") (h2 : ¬ m = "_images") (h3 : ¬ m = "changed") : (f3 a b c).lookup m = none := by
  unfold f3 f2 f1
  rw [lookup_putF, if_neg h3, lookup_putF, if_neg h2, lookup_putF, if_neg h1]
  rfl
theorem keys_le {u : Tab} {cs : List Nat} (o : Ovr cs (lk u)) : (keysOf u).length ≤ cs.length := nd_len (keysOf_nd u) fun c hc => by
  obtain ⟨s, e⟩ := Option.isSome_iff_exists.mp (lk_mem.mp hc)
  exact o.key c s e
/-- a Misreading made anew of f -/
def Makes (CM : Addr) (H : Hp) (f : Fu) (Q : VK) : Prop := ∀ z H' t, H z = none → MisAt CM H' z t → lk t = f → Same H H' → Q (.ref z) H'
def spRsh (CM : Addr) : Sp := fun vs H Q _ => ∃ (x y : Addr) (u v : Tab) (cs : List Nat), vs = [.ref x, .ref y] ∧ MisAt CM H x u ∧ MisAt CM H y v ∧ Bnd 64 (lk u) ∧ Bnd 64 (lk v) ∧ Bnd 64 (cF (lk u) (lk v)) ∧ Ovr cs (lk u) ∧ cs.length ≤ 12 ∧ Makes CM H (cF (lk u) (lk v)) Q
section
variable {P : Program} {w : World} {K : PySem.W.Frag} {mg : Str → Option Value} {base : Heap} {CM CJ : Addr}
theorem ok_rshift {f : Addr} {fd : FuncData} (F : Fun K "__rshift__" "Misreading.__rshift__" s_Misreading_rshift f fd) (T : Tz K mg CM CJ) (D_check_other : Df P w K mg base 1 "check_other" (spChkO CM)) (D_first_barred : Mf P w K mg base 1 CM "first_barred" (spFB CM)) (D_image : Mf P w K mg base 1 CM "image" (spImg CM))
    (D_mkJ : MkrJ P w K mg base CJ) (D_mkMJ : MkrM P w K mg base CM CJ) : FnOk P w K mg base CX0 7 f fd ["self", "other"] (spRsh CM) := by
  refine F.ok sc_Misreading_rshift (fun vs H Q E h => ?_) (fun cdv A outer s H vs Q E hr h => ?_)
  · obtain ⟨x, y, u, v, cs, rfl, _⟩ := h
    rfl
  · obtain ⟨x, y, u, v, cs, rfl, mx, my, bu, bv, bc, ov, h12, q⟩ := h
    refine ⟨_, (pss_cons (ps_expr (pe_c D_check_other hr (by decide) (by rfl) (pa_cons (pv 1) pa_nil)))
      (pss_cons (ps_set (i := 2) sc_Misreading_rshift.nd rfl (.inl rfl) pe_dnewK)
      (pss_cons (ps_for PassesOwn.never rfl (pi_tup (pe_fldK (K := K) rfl (pv 0) rfl)) (pg_name (i := 3) sc_Misreading_rshift.nd rfl (.inl rfl))
        (pss_cons (ps_set (i := 4) sc_Misreading_rshift.nd rfl (.inl rfl) (pe_dget (hu_of hr) (pe_fldK (K := K) rfl (pv 0) rfl) (pv 3) (fun _ _ => rfl)))
        (pss_one (ps_if (pt_cmpR op_isN (pe_mt T.cl D_first_barred hr (by decide) (pv 1) (pa_cons (pv 4) pa_nil)) pe_non (nomark _))
          (pss_cons (ps_dput (hu_of hr) (pv 2) (pv 3) (pe_mt T.cl D_image hr (by decide) (pv 1) (pa_cons (pv 4) pa_nil)) rfl)
          (pss_one (ps_if (pt_cmpR op_gt (pe_callB call_len_str (by rfl) T.len (by decide +kernel) (pa_cons (pe_dget (hu_of hr) (pv 2) (pv 3) (fun _ _ => rfl)) pa_nil)) (pe_gv T.gLONGEST_JOINED (by rfl)) (nomark _))
            (pss_one ps_never)
            pss_nil)))
          pss_nil))))
      (pss_one (ps_ret (pe_mkMJ D_mkMJ hr (by decide) (by rfl) (pa_cons (pe_mkJ D_mkJ hr (by decide) (by rfl) (pa_cons (pv 2) pa_nil)) pa_nil))))))), ?_⟩
    have kl := keys_le ov
    obtain ⟨dx, a, b, c', hx, ha, hb, hc⟩ := id mx.at_
    refine ⟨_, rfl, y, v, rfl, my, fun D nD => ?_⟩
    have s0 := same_put (s := Same.refl H) (o := .dK (encT [])) nD
    refine ⟨_, rfl, x, CM, dx, _, _, rfl, s0 _ _ hx, T.cl, T.nL, f3_L a b c', a, rfl, ⟨_, .inl (.inl (s0 _ _ ha))⟩, for_it (walk_tup (K := K) (a := a) (xs := lets (keysOf u))) (fun i σ H2 => (∃ v3 v4 : Option V, σ = [some (.ref x), some (.ref y), some (.ref D), v3, v4]) ∧ Same H H2 ∧ H2 D = some (.dK (encT (mkT (cF (lk u) (lk v)) ((keysOf u).take i))))) ⟨⟨none, none, rfl⟩, s0, upd_same⟩ ?_ ?_ ?_⟩
    · rintro i σ H2 hi ⟨_, s2, _⟩
      exact .inl (.inl (s2 _ _ ha))
    · rintro i z σ H2 H2' hi ⟨⟨v3, v4, rfl⟩, s2, hD⟩ ⟨rfl, hz⟩
      obtain ⟨hik, rfl⟩ := lets_get hz
      have hm := List.getElem_mem hik
      obtain ⟨s, e2⟩ := Option.isSome_iff_exists.mp (keysOf_mem.mp hm).2
      have e3 : lk u (keysOf u)[i] = some s := by rw [← lk_look hm]; exact e2
      have s64 := bu _ _ e3
      refine ⟨_, rfl, x, CM, dx, _, _, rfl, s2 _ _ hx, T.cl, T.nI, f3_I a b c', _, rfl, b, V.str (Sx s), rfl, .inl ⟨_, Sum.inr (L1 (keysOf u)[i]), .inl (s2 _ _ hb), rfl, by rw [valV_enc, look_ims_some hm, e2]; rfl⟩, ?_⟩
      obtain ⟨dy, a2, b2, c2, hy, ha2, hb2, hc2⟩ := id my.at_
      refine ⟨_, rfl, y, dy, _, rfl, s2 _ _ hy, f3_no (by decide +kernel) (by decide +kernel) (by decide +kernel), _, rfl, y, v, s, rfl, my.same s2, by omega, fun r H3 er s3 => ?_, fun k H3 hk en s3 => ?_⟩
      · -- the image is let
        have hn2 := mkT_snoc (cF (lk u) (lk v)) ((keysOf u).take i) (keysOf u)[i]
        have hcf : cF (lk u) (lk v) (keysOf u)[i] = some r := by
          show (lk u (keysOf u)[i]).bind (imF (lk v)) = some r
          rw [e3]
          exact er
        have r64 := bc _ _ hcf
        rw [hcf] at hn2
        refine ⟨rfl, true, rfl, iteT ?_⟩
        refine ⟨_, rfl, y, dy, _, rfl, s3 _ _ (s2 _ _ hy), f3_no (by decide +kernel) (by decide +kernel) (by decide +kernel), _, rfl, y, v, s, r, rfl, (my.same s2).same s3, bv, er, by omega, fun H4 s4 => ?_⟩
        have hD4 := s4 _ _ (s3 _ _ hD)
        have tl := mkT_len (cF (lk u) (lk v)) ((keysOf u).take i)
        rw [List.length_take] at tl
        refine ⟨_, rfl, _, rfl, D, _, rfl, DPut.k (k := Sum.inr (L1 (keysOf u)[i])) hD4 (by rw [encT_len]; exact small1000 (by omega)), ?_⟩
        have eT : (keysOf u).take (i + 1) = (keysOf u).take i ++ [(keysOf u)[i]] := by
          rw [List.take_add_one, List.getElem?_eq_getElem hik]
          rfl
        have nk : (keysOf u)[i] ∉ (mkT (cF (lk u) (lk v)) ((keysOf u).take i)).map (·.1) := fun z => by
          have h1 := mkT_keys _ _ _ z
          have nd := keysOf_nd u
          rw [← List.take_append_drop (i + 1) (keysOf u), eT] at nd
          exact (List.nodup_append.mp (List.nodup_append.mp nd).1).2.2 _ h1 _ (by simp) rfl
        have ep : putK (encT (mkT (cF (lk u) (lk v)) ((keysOf u).take i))) (Sum.inr (L1 (keysOf u)[i])) (V.str (Sx r)) = encT (mkT (cF (lk u) (lk v)) ((keysOf u).take (i + 1))) := by
          rw [putK_enc, putT_new nk, eT, hn2]
        rw [ep]
        have s5 : Same H (upd H4 D (.dK (encT (mkT (cF (lk u) (lk v)) ((keysOf u).take (i + 1)))))) := same_over (s := fun b o e => s4 _ _ (s3 _ _ (s2 _ _ e))) nD
        have hD5 : upd H4 D (.dK (encT (mkT (cF (lk u) (lk v)) ((keysOf u).take (i + 1))))) D = some (.dK (encT (mkT (cF (lk u) (lk v)) ((keysOf u).take (i + 1))))) := upd_same
        have lkn : lookT (mkT (cF (lk u) (lk v)) ((keysOf u).take (i + 1))) (keysOf u)[i] = some r := by
          rw [eT, hn2, look_app nk, if_pos rfl]
        refine ⟨_, rfl, _, rfl, D, V.str (Sx r), rfl, .inl ⟨_, Sum.inr (L1 (keysOf u)[i]), .inl hD5, rfl, by rw [valV_enc, lkn]; rfl⟩, _, rfl, by rw [Sx_len, sizeLine_eq]; omega, _, _, rfl, rfl, _, rfl, ?_⟩
        rw [Sx_len, decide_eq_false (by show ¬ ((64 : Int) < (r.length : Int)); omega)]
        exact iteF ⟨⟨_, _, rfl⟩, s5, hD5⟩
      · -- it is barred
        refine ⟨rfl, false, rfl, iteF ⟨⟨_, _, rfl⟩, fun b o e => s3 _ _ (s2 _ _ e), ?_⟩⟩
        have hcf : cF (lk u) (lk v) (keysOf u)[i] = none := by
          show (lk u (keysOf u)[i]).bind (imF (lk v)) = none
          rw [e3]
          exact en
        rw [List.take_add_one, List.getElem?_eq_getElem hik]
        show H3 D = some (.dK (encT (mkT _ ((keysOf u).take i ++ [(keysOf u)[i]]))))
        rw [mkT_snoc, hcf]
        show H3 D = some (.dK (encT (mkT _ ((keysOf u).take i) ++ [])))
        rw [List.append_nil]
        exact s3 _ _ hD
    · rintro σ H2 ⟨⟨v3, v4, rfl⟩, s2, hD⟩
      rw [lets_len, List.take_length] at hD
      have tl := mkT_len (cF (lk u) (lk v)) (keysOf u)
      refine ⟨_, rfl, D, rfl, fun j dj H3 nj hj s3 => ?_⟩
      refine ⟨j, dj, D, _, rfl, hj, s3 _ _ hD, by omega, fun z H4 nz mz s4 => ?_⟩
      refine q z H4 _ (same_none (s := fun b o e => s3 _ _ (s2 _ _ e)) nz) mz (mkT_lk (keysOf_nd u) fun c s h => ?_) fun b o e => s4 _ _ (s3 _ _ (s2 _ _ e))
      have hm : c ∈ keysOf u := lk_mem.mpr (by
        have h' : (lk u c).bind (imF (lk v)) = some s := h
        cases e : lk u c with
        | none =>
          rw [e] at h'
          cases h'
        | some z => rfl)
      exact ⟨hm, keys_abc hm⟩
end
end V8

set_option Elab.async false
set_option linter.all false
set_option maxRecDepth 100000
set_option maxHeartbeats 4000000
/-! try: .. except E as n: k = n, where k is read later: the caught exception becomes a thing of the abstract heap. -/
namespace L2
open PySem PySem.Spec PyProof.Rows
/-- an exception that was caught and is kept: its class, its dict -/
def CaughtO (cls : Value) (d : Option Addr) (a : Addr) : HO := .ext fun h => ∃ (oe : Obj) (vs : Array Value), h.get? a = some oe ∧ Zc cls d oe ∧ oe.data = .fields vs
/-- a caught exception stands on the ground of X, and nothing of X has known it before -/
structure Down (X : Cx) (pins : List (Addr × Obj)) (σ : St) (H : Hp) (cls : Value) (d : Option Addr) (a : Addr) (B : Heap) (s : Shared) : Prop where
  inv : Inv X pins σ H s
  fly : HandSPX.FlyingZ B X.stack a (Zc cls d) s.heap
  unk : H a = none
  notL : a ≠ X.env.locals
  notF : a ∉ X.fs
  notS : ∀ o, X.s_0.heap.get? a = some o → a ∉ X.ex → False
  notP : ∀ p ∈ X.pn ++ pins, p.1 ≠ a
  gnd : ∃ s0 : Shared, Inv X pins σ H s0 ∧ (∀ c o, s0.heap.get? c = some o → c ∉ frs X.stack → B.get? c = some o) ∧ s0.heap.UpToSlots s.heap ∧ s.os = s0.os ∧ AllBare s.gens
section
variable {X : Cx} {pins : List (Addr × Obj)} {σ : St} {H : Hp} {cls : Value} {d : Option Addr} {a : Addr} {B : Heap} {s : Shared}
theorem Down.obj (W : Down X pins σ H cls d a B s) : ∃ (oe : Obj) (vs : Array Value), s.heap.get? a = some oe ∧ Zc cls d oe ∧ oe.data = .fields vs := W.fly.there
/-- from now on it is tracked -/
theorem Down.tracked (W : Down X pins σ H cls d a B s) : Inv X pins σ (upd H a (CaughtO cls d a)) s := by
  obtain ⟨oe, vs, q1, q2, q3⟩ := W.obj
  obtain ⟨i1, i2, i3, i4, i5, i6, i7, i8, i9, i10, i11⟩ := W.inv
  have off : ∀ c, c ≠ a → upd H a (CaughtO cls d a) c = H c := fun c h => upd_ne h
  have off' : ∀ c u, H c = some u → upd H a (CaughtO cls d a) c = some u := fun c u h => (off c (ne_of_none h W.unk)).trans h
  have tell : ObjOk X.prog X.w (upd H a (CaughtO cls d a)) s.heap a (CaughtO cls d a) := by
    refine ⟨⟨oe, vs, q1, q2, q3⟩, ⟨oe, q1⟩, fun g g' hg keep => ?_⟩
    obtain ⟨o, v, r1, r2⟩ := hg
    exact ⟨o, v, keep o r1, r2⟩
  refine ⟨i1, i2, i3, ⟨i4.keep, i4.slot, fun c o e n x => ?_, i4.there, fun c xs e => off' c _ (i4.tups c xs e), fun c o u e => off' c _ (i4.frzs c o u e), fun c ps e => ?_⟩, i5, i6, (off _ (Ne.symm W.notL)).trans i7, fun y c e => ?_, fun p hp => ?_, i10.laidN (fun _ _ z => z) W.unk tell, i11⟩
  · by_cases hc : c = a
    · rw [hc] at e x
      exact (W.notS o e x).elim
    · exact (off c hc).trans (i4.free c o e n x)
  · obtain ⟨more, z⟩ := i4.tbls c ps e
    exact ⟨more, off' c _ z⟩
  · have hc : c ≠ a := fun z => by
      obtain ⟨v, o, r1, r2⟩ := i6 y c e
      rw [z, q1] at r1
      rw [← Option.some.inj r1, q3] at r2
      cases r2
    exact (off c hc).trans (i8 y c e)
  · obtain ⟨p1, p2, p3⟩ := i9 p hp
    exact ⟨p1, (off _ (W.notP p hp)).trans p2, p3⟩
/-- an exception that X lets through lands -/
theorem down_of {M : Model} {x' : Value → Shared → Prop} {pn : List (Addr × Obj)} {W : WX} {u : Value} {E : Value → Shared → Prop} {Q : Shared → Prop} (ok : X.Ok) (hst : X.stack = X.env :: X.outer) (hfl : X.env.frame = some X.env.locals) (xx : XE (X.tr (X.pn ++ pn) x') W u s)
    (hQ : ∀ (a : Addr) (B : Heap) (cls : Value) (d : Option Addr) (σ : St) (H : Hp) (s' : Shared), u = .ref a → W cls d σ H → Down X pn σ H cls d a B s' → Q s') : wpAny M X.A (noteFrame u X.env) (fun _ s1 => wpAny M X.A (setFlight u none) (fun _ s2 => Q s2) E s1) E s := by
  obtain ⟨a, B, sI, more, σ1, H1, cls, d, rfl, IT, gr, ups, sky, none1, eos, bar, wish⟩ := xx
  have I1 : Inv X pn σ1 H1 sI := Inv.ofTry IT ok
  have frameEq : X.A.frames = some (X.env :: X.outer) := ok.frames.trans (by rw [hst])
  have sky1 : Sky B (X.env :: X.outer) a (Zc cls d) X.env.locals s.heap := hst ▸ sky
  refine Sky.land (Q := fun _ => Q) Zc.steady frameEq hfl sky1 fun hL fly up2 => ?_
  obtain ⟨oe, vs, r1, _, r3⟩ := HandSPX.FlyingZ.there fly
  have out : a ∉ frs X.stack := fun hm => by
    rw [hst] at hm
    obtain ⟨_, o, eo, no⟩ := fly.2.2.1.mem hm
    rw [r1] at eo
    exact no vs (by rw [← Option.some.inj eo]; exact r3)
  have never : ∀ o, sI.heap.get? a = some o → False := fun o e => by
    have q := gr a o e out
    rw [fly.2.1] at q
    cases q
  refine hQ a B cls d σ1 H1 { s with heap := hL } rfl wish ⟨I1.landed gr fly.1 (ups.trans up2) eos bar, by rw [hst]; exact fly, none1, fun z => ?_, fun z => ?_, fun o e x => ?_, fun p hp z => ?_, sI, I1, gr, ups.trans up2, eos, bar⟩
  · exact out (by rw [hst]; exact List.mem_filterMap.mpr ⟨X.env, List.mem_cons_self, by rw [hfl, z]⟩)
  · obtain ⟨e, he, q⟩ := List.mem_filterMap.mp z
    exact out (by rw [hst]; exact List.mem_filterMap.mpr ⟨e, List.mem_cons_of_mem _ he, q⟩)
  · obtain ⟨o2, q⟩ := I1.base.there a o e x
    exact never o2 q
  · exact never _ (z ▸ (I1.pin p hp).1)
/-- .. and once more, when the suite begins -/
theorem Down.again {M : Model} {A : Around} {Q : Shared → Prop} {E : Value → Shared → Prop} (W : Down X pins σ H cls d a B s) (h : ∀ s', Down X pins σ H cls d a B s' → Q s') : wpAny M A (setFlight (.ref a) none) (fun _ => Q) E s := by
  obtain ⟨s0, J, gr, ups, eos, bar⟩ := W.gnd
  exact HandSPX.lands_againZ (Q := fun _ => Q) W.fly fun hL fly up2 => h { s with heap := hL } ⟨J.landed gr fly.1 (ups.trans up2) eos bar, fly, W.unk, W.notL, W.notF, W.notS, W.notP, s0, J, gr, ups.trans up2, eos, bar⟩
/-- its class is what the clause names -/
theorem Down.meets {A : Around} {E : Value → Shared → Prop} {c : Value} {Q : Bool → Shared → Prop} (W : Down X pins σ H cls d a B s) (hm : PySem.W.exmOne X.K cls c = some true) (h : Q true s) : wpAny (model X.prog X.w) A (excMatches (.ref a) c) Q E s := by
  obtain ⟨oe, vs, q1, q2, _⟩ := W.obj
  refine (PySem.W.exm_one (M := model X.prog X.w) W.inv.kIn (cls := cls) ?_ hm).here h
  intro A1 Q1 E1 s1 keep q
  exact wpAny_typeOf_ref (keep _ _ q1) (q2.1 ▸ q)
/-- the suite's context, the exception tracked -/
theorem Down.suite (W : Down X pins σ H cls d a B s) (ok : X.Ok) : Inv (X.suite a (X.pn ++ pins)) [] σ (upd H a (CaughtO cls d a)) s := by
  have I := W.tracked
  exact ⟨ok.suite _ _, I.os, I.bare, I.base, I.loc, I.cell, I.free, I.freeC, fun p hp => I.pin p (List.append_nil (X.pn ++ pins) ▸ hp), I.hok, I.len⟩
theorem unsuite_inv {σ' : St} {H' : Hp} {s' : Shared} (ok : X.Ok) (I : Inv (X.suite a (X.pn ++ pins)) [] σ' H' s') : Inv X pins σ' H' s' :=
  ⟨ok, I.os, I.bare, I.base, I.loc, I.cell, I.free, I.freeC, fun p hp => I.pin p ((List.append_nil (X.pn ++ pins)).symm ▸ hp), I.hok, I.len⟩
end
/-- what the clause wishes of an exception of the body, which is one of c: slot i is n's -/
def wKeep (K : PySem.W.Frag) (k : Nat) (c : Value) (i : Nat) (ts : Addr → TS) (D : Ends) : WX := fun cls d σ H =>
  PySem.W.exmOne K cls c = some true ∧ (σ.length = k → ∀ a, H a = none → ts a { nx := fun σ' H' => D.nx (σ'.set i none) H', rt := D.rt, bk := fun _ _ => False, ct := fun _ _ => False } (σ.set i (some (.ref a))) (upd H a (CaughtO cls d a)))
section
variable {X : Cx} {x n : Str} {c : Value} {i : Nat} {body suite : List Stmt} {b₀ : Stmt} {np pos pos' : Pos} {tb : WX → TS} {ts : Addr → TS}
theorem ps_try_keep (hst : X.stack = X.env :: X.outer) (hfl : X.env.frame = some X.env.locals) (nd : X.N.Nodup) (hi : X.N[i]? = some n) (hn : X.env.kindOf n = some .local) (nm : Names X x c)
    (hb : ∀ (W : WX) (pn : List (Addr × Obj)) (xe : Value → Shared → Prop), Takes (X.tr pn xe) W → PassesOwn (model X.prog X.w) X.A X.env xe → PSs (X.tr pn xe) body (tb W)) (hs : ∀ (a : Addr) (pn : List (Addr × Obj)), PSs (X.suite a pn) (b₀ :: suite) (ts a)) :
    PS X (.Try body [.ExceptHandler (some (.Name x np)) (some n) (b₀ :: suite) pos'] [] [] pos) (fun D σ H => tb (wKeep X.K X.N.length c i ts D) D σ H) := by
  constructor
  intro pins s σ H D I0 reading
  have ok := I0.ok
  apply wpAny_Try_except
  -- what a landed exception meets
  have clause : ∀ (a : Addr) (B : Heap) (cls : Value) (d : Option Addr) (σ1 : St) (H1 : Hp) (s1 : Shared), wKeep X.K X.N.length c i ts D cls d σ1 H1 → Down X pins σ1 H1 cls d a B s1 → wpAny (model X.prog X.w) X.A (handleBy (.ref a) X.env [.ExceptHandler (some (.Name x np)) (some n) (b₀ :: suite) pos']) (SP X pins D) X.xe s1 := by
    rintro a B cls d σ1 H1 s1 ⟨hm, go⟩ W
    apply wpAny_handleBy_cons
    · apply codeAny_handlers_test
      have named : ∀ {Q1 : Value → Shared → Prop} {E1 : Value → Shared → Prop}, Q1 c s1 → wpAny (model X.prog X.w) (X.suite a (X.pn ++ pins)).A (eval (.Name x np) X.env) Q1 E1 s1 := fun {Q1 E1} q => by
        have I := W.suite ok
        rcases nm with ⟨g, db, m | ⟨m, v, w⟩⟩
        · exact ld_glob (X := X.suite a (X.pn ++ pins)) I g m q db
        · exact ld_blt (X := X.suite a (X.pn ++ pins)) I g m v q w db
      refine named (W.meets hm ?_)
      apply codeAny_handlers_suite_as
      refine W.again fun s2 W2 => ?_
      refine store_ok (X := X.suite a (X.pn ++ pins)) (v := .ref a) (W2.suite ok) nd hi (.inl hn) rfl (fun s3 I3 => ?_) (.inr hn)
      refine wpAny_mono ((hs a (X.pn ++ pins)).run [] s3 _ _ _ I3 (go W.inv.len a W.unk)) (fun f s4 sp => ?_) fun _ _ z => False.elim z
      -- the clause's name goes
      have away : ∀ {σ5 : St} {H5 : Hp} {Q5 : Shared → Prop}, Inv (X.suite a (X.pn ++ pins)) [] σ5 H5 s4 → (∀ s6, Inv X pins (σ5.set i none) H5 s6 → Q5 s6) → wpAny (model X.prog X.w) X.A (do bindName X.env n .none; unbindBehindTheSuite X.env n pos') (fun _ => Q5) X.xe s4 :=
        fun I5 h5 => gone_ok (unsuite_inv ok I5) nd hi hn h5
      match f, sp with
      | .next, ⟨σ5, H5, I5, q5⟩ => exact away I5 fun s6 I6 => ⟨_, _, I6, q5⟩
      | .ret u, ⟨v, σ5, H5, I5, r5, q5⟩ => exact away I5 fun s6 I6 => ⟨_, _, _, I6, r5, q5⟩
      | .brk, ⟨_, _, _, z⟩ => exact z.elim
      | .cont, ⟨_, _, _, z⟩ => exact z.elim
    · intro z
      cases z
  refine wpAny_mono ((hb (wKeep X.K X.N.length c i ts D) (X.pn ++ pins) _ (fun u s' xx => down_of ok hst hfl xx fun a B cls d σ1 H1 s1 e wish W => e ▸ clause a B cls d σ1 H1 s1 wish W) PassesOwn.looking).run [] s σ H D (I0.toTry _) reading) (fun f s1 sp => ?_) fun _ _ z => z
  match f, sp with
  | .next, ⟨σ1, H1, I1, q1⟩ => exact wpAny_execs_nil ⟨σ1, H1, Inv.ofTry I1 ok, q1⟩
  | .ret u, ⟨v, σ1, H1, I1, r1, q1⟩ => exact ⟨v, σ1, H1, Inv.ofTry I1 ok, r1, q1⟩
  | .brk, ⟨σ1, H1, I1, q1⟩ => exact ⟨σ1, H1, Inv.ofTry I1 ok, q1⟩
  | .cont, ⟨σ1, H1, I1, q1⟩ => exact ⟨σ1, H1, Inv.ofTry I1 ok, q1⟩
end
end L2

set_option Elab.async false
set_option linter.all false
set_option maxRecDepth 100000
set_option maxHeartbeats 4000000
/-! A kept exception: isinstance, its fields. -/
namespace L2
open PySem PySem.Spec PyProof.Rows
/-- at a a kept exception of the own class D, with these fields -/
structure KeptX (K : PySem.W.Frag) (H : Hp) (a D : Addr) (fs : List (Str × V)) : Prop where
  ex : ∃ d, H a = some (CaughtO (.ref D) (some d) a) ∧ H d = some (.xd fs)
  cl : ExcC K D
section
variable {X : Cx} {pins : List (Addr × Obj)} {σ : St} {H : Hp} {s : Shared} {a D : Addr} {fs : List (Str × V)}
theorem kept_inst (I : Inv X pins σ H s) (k : KeptX X.K H a D fs) : ∃ (oe : Obj) (od : Obj), PySem.W.InstAt s.heap a oe D (some od) ∧ ∀ f, ∃ o, PySem.W.lookIn f od = some o ∧ RelO (fs.lookup f) o := by
  obtain ⟨d, h1, h2⟩ := k.ex
  obtain ⟨⟨oe, vs, q1, ⟨q2, q3⟩, q4⟩, _, _⟩ := I.hok a _ h1
  obtain ⟨m, ns, rel⟩ := I.hok d _ h2
  obtain ⟨od, ho, hl⟩ := lookIn_ns ns
  refine ⟨oe, od, ⟨q1, q2, ?_, ?_⟩, fun f => ⟨m f, hl f, rel f⟩⟩
  · unfold PySem.W.notCls
    rw [q4]
  · rw [q3]
    exact ho
/-- isinstance(e, c) -/
def rIsK (K : PySem.W.Frag) : List V → Hp → VK → Prop := fun xs H Q => ∃ (a D : Addr) (fs : List (Str × V)) (c : V) (cv : Value) (b : Bool), xs = [.ref a, c] ∧ KeptX K H a D fs ∧ (∀ u, RelV c u → u = cv) ∧ PySem.W.kitOne K (.ref D) cv = some b ∧ Q (.bl b) H
theorem call_isK : CallR X (.builtin "isinstance") (rIsK X.K) := by
  intro pins s σ H xs us Q I r h
  obtain ⟨a, D, fs, c, cv, b, rfl, k, hc, e, q⟩ := h
  match us, r with
  | [u1, u2], .cons r1 (.cons r2 .nil) =>
    obtain rfl : u1 = Value.ref a := r1
    rw [hc _ r2]
    obtain ⟨oe, od, J, _⟩ := kept_inst I k
    have C := k.cl
    obtain ⟨cd, e1, _⟩ := PySem.W.any_some C.hd
    exact PySem.W.kia_one (PySem.W.kitx_exc (by rw [e1]; rfl) C.hg C.hk C.hs C.ha C.hn C.ht C.hm) I.kIn J e (fun z => nomatch z) fun tk => ⟨.bl b, H, I.tok _, rfl, q⟩
/-- e.f -/
def tKeptF (K : PySem.W.Frag) (f : Str) (te : TE) : TE := fun σ H Q => te σ H fun x H1 => ∃ (a D : Addr) (fs : List (Str × V)) (v : V), x = .ref a ∧ KeptX K H1 a D fs ∧ PySem.W.findIn K (.ref D) f = some none ∧ fs.lookup f = some v ∧ Q v H1
theorem pe_keptF {e : Expr} {f : Str} {te : TE} {pos : Pos} (he : PE X e te) (hb : attributeBase e f X.env (eval e X.env) = eval e X.env := by rfl) : PE X (.Attribute e f pos) (tKeptF X.K f te) := by
  refine ⟨fun pins s σ H Q I h => attr_of hb (thn (he.run pins s σ H _ I h) fun u s1 hh => ?_)⟩
  obtain ⟨x, H1, I1, rx, a, D, fs, v, rfl, k, no, hl, q⟩ := hh
  obtain rfl : u = Value.ref a := rx
  obtain ⟨oe, od, J, look⟩ := kept_inst I1 k
  obtain ⟨o, l1, l2⟩ := look f
  obtain ⟨w', ew, rw'⟩ := RelO.some_of (v := v) (o := o) (hl ▸ l2)
  exact HandSPX.exc_get I1.kIn J k.cl.hg k.cl.hk k.cl.hs (PySem.W.findObj_own k.cl.hd no rfl (by rw [l1, ew])) (handed_of rw') ⟨v, H1, I1.tok _, rw', q⟩
end
end L2

set_option Elab.async false
set_option linter.all false
set_option maxRecDepth 100000
set_option maxHeartbeats 8000000
/-! What an error keeps of a flat value. -/
namespace V8
open PySem PySem.Spec PyProof.Rows L2
abbrev s_copied : Stmt := topS 2
abbrev n_copied : List Str := ["value", "part", "key"]
theorem sc_copied : FnScope ["value", "part", "key"] ["value"] (defScope s_copied) := ⟨rfl, rfl, rfl, by decide +kernel, rfl, by decide +kernel, by decide +kernel⟩
/-- a flat value is handed back as it is -/
def spCopied (K : PySem.W.Frag) : Sp := fun vs H Q _ => ∃ (x : V) (t : Value), vs = [x] ∧ TyX K H x t ∧ PySem.W.kitOne K t (.type "list") = some false ∧ PySem.W.kitOne K t (.type "tuple") = some false ∧ PySem.W.kitOne K t (.type "dict") = some false ∧ Q x H
section
variable {P : Program} {w : World} {K : PySem.W.Frag} {mg : Str → Option Value} {base : Heap} {CM CJ : Addr}
theorem ok_copied {f : Addr} {fd : FuncData} (F : Fun K "copied" "copied" s_copied f fd) (T : Tx K mg CM CJ) : FnOk P w K mg base CX0 1 f fd ["value"] (spCopied K) := by
  refine F.ok sc_copied (fun vs H Q E h => ?_) (fun cdv A outer s H vs Q E hr h => ?_)
  · obtain ⟨x, t, rfl, _⟩ := h
    rfl
  · obtain ⟨x, t, rfl, ty, e1, e2, e3, q⟩ := h
    refine ⟨_, (pss_cons (ps_if (pt_val (pe_callB call_isi (by rfl) T.isinstance (by decide +kernel) (pa_cons (pv 0) (pa_cons (pe_bltn (v := .ty "list") (by rfl) T.list (by decide +kernel) rfl) pa_nil))))
        (pss_one ps_never)
        pss_nil)
      (pss_cons (ps_if (pt_val (pe_callB call_isi (by rfl) T.isinstance (by decide +kernel) (pa_cons (pv 0) (pa_cons (pe_bltn (v := .ty "tuple") (by rfl) T.tuple (by decide +kernel) rfl) pa_nil))))
        (pss_one ps_never)
        pss_nil)
      (pss_cons (ps_if (pt_val (pe_callB call_isi (by rfl) T.isinstance (by decide +kernel) (pa_cons (pv 0) (pa_cons (pe_bltn (v := .ty "dict") (by rfl) T.dict (by decide +kernel) rfl) pa_nil))))
        (pss_one ps_never)
        pss_nil)
      (pss_one (ps_ret (pv 0)))))), ?_⟩
    refine ⟨_, rfl, _, .ty "list", t, .type "list", false, rfl, .ty _, ty, e1, false, rfl, iteF ?_⟩
    refine ⟨_, rfl, _, .ty "tuple", t, .type "tuple", false, rfl, .ty _, ty, e2, false, rfl, iteF ?_⟩
    refine ⟨_, rfl, _, .ty "dict", t, .type "dict", false, rfl, .ty _, ty, e3, false, rfl, iteF ?_⟩
    exact ⟨_, rfl, q⟩
end
end V8

set_option Elab.async false
set_option linter.all false
set_option maxRecDepth 100000
set_option maxHeartbeats 8000000
/-! An own error made: its one field. -/
namespace V8
open PySem PySem.Spec PyProof.Rows L2
abbrev s_Barred_init : Stmt := inClass (topS 10) 0
abbrev n_Barred_init : List Str := ["self", "at"]
theorem sc_Barred_init : FnScope ["self", "at"] ["self", "at"] (defScope s_Barred_init) := ⟨rfl, rfl, rfl, by decide +kernel, rfl, by decide +kernel, by decide +kernel⟩
/-- the base of the errors, by its name -/
structure Tb (K : PySem.W.Frag) (mg : Str → Option Value) (CR : Addr) : Prop where
  bE : mg "RepairError" = some (.ref CR)
  bR : ClX.CRead K CR (.type "type")
  bV : PySem.W.findCls K (.ref CR) (.type "type") "__init__" = some (.val (.builtin "ValueError.__init__"))
/-- what repr makes of a text or a number -/
def ReprV (x : V) (r : Str) : Prop := (∃ y, x = .str y ∧ r = reprText y) ∨ ∃ i : Int, x = .int i ∧ i.natAbs.log2 < 1920 ∧ r = toString i
theorem fmtR_of {te : TE} {σ : L2.St} {H H1 : Hp} {Q : VK} {x : V} {r : Str} (hr : ReprV x r) (h8 : r.length ≤ 8000000) (ev : ∀ R : VK, R x H1 → te σ H R) (q : Q (.str r) H1) : tFmtR te σ H Q := by
  rcases hr with ⟨y, rfl, rfl⟩ | ⟨i, rfl, hi, rfl⟩
  · exact ev _ (.inl ⟨y, rfl, by rw [sizeLine_eq]; omega, q⟩)
  · exact ev _ (.inr ⟨i, rfl, hi, q⟩)
def spErr1 (K : PySem.W.Frag) (C : Addr) (fld : Str) : Sp := fun vs H Q _ => ∃ (a : Addr) (x : V) (t : Value) (r : Str), vs = [.ref a, x] ∧ H a = some (exo a C none) ∧ OexC K C ∧ PySem.W.findIn K (.ref C) fld = some none ∧ ReprV x r ∧ r.length ≤ 8000000 ∧
  TyX K H x t ∧ PySem.W.kitOne K t (.type "list") = some false ∧ PySem.W.kitOne K t (.type "tuple") = some false ∧ PySem.W.kitOne K t (.type "dict") = some false ∧
  ∀ dx, H dx = none → dx ≠ a → Q .non (upd (upd H dx (exd dx [(fld, x)])) a (exo a C (some dx)))
section
variable {P : Program} {w : World} {K : PySem.W.Frag} {mg : Str → Option Value} {base : Heap} {CR C : Addr}
theorem ok_Barred {f : Addr} {fd : FuncData} (F : Fun K "__init__" "Barred.__init__" s_Barred_init f fd) (T : Tb K mg CR) (D_copied : Df P w K mg base 1 "copied" (spCopied K)) : FnOk P w K mg base CX0 2 f fd ["self", "at"] (spErr1 K C "at") := by
  refine F.ok sc_Barred_init (fun vs H Q E h => ?_) (fun cdv A outer s H vs Q E hr h => ?_)
  · obtain ⟨a, x, t, r, rfl, _⟩ := h
    rfl
  · obtain ⟨a, x, t, r, rfl, ha, oc, no, rx, r8, ty, e1, e2, e3, q⟩ := h
    refine ⟨_, (pss_cons (ps_expr (pe_baseinit (by rfl) T.bE T.bR T.bV (pa_cons (pv 0) (pa_cons (pe_joinedT (pj_cons pe_str (pj_cons (pe_fmtR (pv 1)) pj_nil))) pa_nil))))
      (pss_one (ps_ost (pv 0) (pe_c D_copied hr (by decide) (by rfl) (pa_cons (pv 1) pa_nil)) rfl))), ?_⟩
    have hh : (Str.empty ++ ("the misreading cannot happen, because of what stands at " : Str)).length ≤ 1000 := by decide +kernel
    refine ⟨_, rfl, _, rfl, ?_, fmtR_of rx r8 (fun R h => ⟨_, rfl, h⟩) ⟨r, rfl, ?_, a, C, _, rfl, (by show 1 ≤ 1000; decide), oc, ha, ?_⟩⟩
    · rw [sizeLine_eq]
      omega
    · rw [len_app, sizeLine_eq]
      omega
    · exact ⟨_, rfl, x, t, rfl, ty, e1, e2, e3, _, rfl, a, C, rfl, oc, no, .inl ⟨ha, fun dx n ne => q dx n ne⟩⟩
end
end V8

set_option Elab.async false
set_option linter.all false
set_option maxRecDepth 100000
set_option maxHeartbeats 8000000
/-! The errors of one field, and TooMany. -/
namespace V8
open PySem PySem.Spec PyProof.Rows L2
abbrev s_BadTable_init : Stmt := inClass (topS 9) 0
abbrev n_BadTable_init : List Str := ["self", "part"]
theorem sc_BadTable_init : FnScope ["self", "part"] ["self", "part"] (defScope s_BadTable_init) := ⟨rfl, rfl, rfl, by decide +kernel, rfl, by decide +kernel, by decide +kernel⟩
abbrev s_Unlike_init : Stmt := inClass (topS 11) 0
abbrev n_Unlike_init : List Str := ["self", "letter"]
theorem sc_Unlike_init : FnScope ["self", "letter"] ["self", "letter"] (defScope s_Unlike_init) := ⟨rfl, rfl, rfl, by decide +kernel, rfl, by decide +kernel, by decide +kernel⟩
section
variable {P : Program} {w : World} {K : PySem.W.Frag} {mg : Str → Option Value} {base : Heap} {CR C : Addr}
theorem ok_BadTable {f : Addr} {fd : FuncData} (F : Fun K "__init__" "BadTable.__init__" s_BadTable_init f fd) (T : Tb K mg CR) (D_copied : Df P w K mg base 1 "copied" (spCopied K)) : FnOk P w K mg base CX0 2 f fd ["self", "part"] (spErr1 K C "part") := by
  refine F.ok sc_BadTable_init (fun vs H Q E h => ?_) (fun cdv A outer s H vs Q E hr h => ?_)
  · obtain ⟨a, x, t, r, rfl, _⟩ := h
    rfl
  · obtain ⟨a, x, t, r, rfl, ha, oc, no, rx, r8, ty, e1, e2, e3, q⟩ := h
    refine ⟨_, (pss_cons (ps_expr (pe_baseinit (by rfl) T.bE T.bR T.bV (pa_cons (pv 0) (pa_cons (pe_joinedT (pj_cons (pe_fmtR (pv 1)) (pj_cons pe_str pj_nil))) pa_nil))))
      (pss_one (ps_ost (pv 0) (pe_c D_copied hr (by decide) (by rfl) (pa_cons (pv 1) pa_nil)) rfl))), ?_⟩
    have hh : Str.empty.length ≤ 1000 := by decide +kernel
    have ht : (" is not of the kind that it should be" : Str).length ≤ 1000 := by decide +kernel
    rcases rx with ⟨y, rfl, rfl⟩ | ⟨i, rfl, hi, rfl⟩
    · refine ⟨_, rfl, _, rfl, .inl ⟨y, rfl, ?_, reprText y, rfl, ?_, _, rfl, ?_, a, C, _, rfl, (by show 1 ≤ 1000; decide), oc, ha, ?_⟩⟩
      · rw [sizeLine_eq]
        omega
      · rw [len_app, sizeLine_eq]
        omega
      · rw [len_app, len_app, sizeLine_eq]
        omega
      · exact ⟨_, rfl, _, t, rfl, ty, e1, e2, e3, _, rfl, a, C, rfl, oc, no, .inl ⟨ha, fun dx n ne => q dx n ne⟩⟩
    · refine ⟨_, rfl, _, rfl, .inr ⟨i, rfl, hi, toString i, rfl, ?_, _, rfl, ?_, a, C, _, rfl, (by show 1 ≤ 1000; decide), oc, ha, ?_⟩⟩
      · rw [len_app, sizeLine_eq]
        omega
      · rw [len_app, len_app, sizeLine_eq]
        omega
      · exact ⟨_, rfl, _, t, rfl, ty, e1, e2, e3, _, rfl, a, C, rfl, oc, no, .inl ⟨ha, fun dx n ne => q dx n ne⟩⟩
theorem ok_Unlike {f : Addr} {fd : FuncData} (F : Fun K "__init__" "Unlike.__init__" s_Unlike_init f fd) (T : Tb K mg CR) (D_copied : Df P w K mg base 1 "copied" (spCopied K)) : FnOk P w K mg base CX0 2 f fd ["self", "letter"] (spErr1 K C "letter") := by
  refine F.ok sc_Unlike_init (fun vs H Q E h => ?_) (fun cdv A outer s H vs Q E hr h => ?_)
  · obtain ⟨a, x, t, r, rfl, _⟩ := h
    rfl
  · obtain ⟨a, x, t, r, rfl, ha, oc, no, rx, r8, ty, e1, e2, e3, q⟩ := h
    refine ⟨_, (pss_cons (ps_expr (pe_baseinit (by rfl) T.bE T.bR T.bV (pa_cons (pv 0) (pa_cons (pe_joinedT (pj_cons (pe_fmtR (pv 1)) (pj_cons pe_str pj_nil))) pa_nil))))
      (pss_one (ps_ost (pv 0) (pe_c D_copied hr (by decide) (by rfl) (pa_cons (pv 1) pa_nil)) rfl))), ?_⟩
    have hh : Str.empty.length ≤ 1000 := by decide +kernel
    have ht : (" is told in two unlike ways" : Str).length ≤ 1000 := by decide +kernel
    rcases rx with ⟨y, rfl, rfl⟩ | ⟨i, rfl, hi, rfl⟩
    · refine ⟨_, rfl, _, rfl, .inl ⟨y, rfl, ?_, reprText y, rfl, ?_, _, rfl, ?_, a, C, _, rfl, (by show 1 ≤ 1000; decide), oc, ha, ?_⟩⟩
      · rw [sizeLine_eq]
        omega
      · rw [len_app, sizeLine_eq]
        omega
      · rw [len_app, len_app, sizeLine_eq]
        omega
      · exact ⟨_, rfl, _, t, rfl, ty, e1, e2, e3, _, rfl, a, C, rfl, oc, no, .inl ⟨ha, fun dx n ne => q dx n ne⟩⟩
    · refine ⟨_, rfl, _, rfl, .inr ⟨i, rfl, hi, toString i, rfl, ?_, _, rfl, ?_, a, C, _, rfl, (by show 1 ≤ 1000; decide), oc, ha, ?_⟩⟩
      · rw [len_app, sizeLine_eq]
        omega
      · rw [len_app, len_app, sizeLine_eq]
        omega
      · exact ⟨_, rfl, _, t, rfl, ty, e1, e2, e3, _, rfl, a, C, rfl, oc, no, .inl ⟨ha, fun dx n ne => q dx n ne⟩⟩
end
end V8

set_option Elab.async false
set_option linter.all false
set_option maxRecDepth 100000
set_option maxHeartbeats 8000000
/-! A def that raises an own error of one field. -/
namespace V8
open PySem PySem.Spec PyProof.Rows L2
/-- an own error by its name: what makes it -/
structure Erm (P : Program) (w : World) (K : PySem.W.Frag) (mg : Str → Option Value) (base : Heap) (x fld : Str) (C : Addr) : Prop where
  oc : OexC K C
  no : PySem.W.findIn K (.ref C) fld = some none
  ex : ∃ (fI : Addr) (fd : FuncData) (ps : List Str), PySem.W.findIn K (.ref C) "__init__" = some (some (.ref fI)) ∧ PySem.W.typeIn K (.ref fI) = some (.type "function") ∧ FnOk P w K mg base CX0 2 fI fd ps (spErr1 K C fld) ∧ Binds K fd ps [] ∧ mg x = some (.ref C)
section
variable {X : Cx} {x fld : Str} {C : Addr} {j : Nat} {p pos pos2 : Pos} {e : Expr} {es : List Expr} {ta : TA} {W : WX}
theorem ps_raise1 (M : Erm X.prog X.w X.K X.mg X.base x fld C) (hc : X.calm = true) (tk : Takes X W) (hr : Room j X.A) (hj : 3 ≤ j) (hg : Gl X x) (ha : PA X (e :: es) ta)
    (hdb : (x == ("__debug__" : Str)) = false := by decide) (he : starEach (e :: es) X.env = (false, eval e X.env) :: starEach es X.env := by rfl) (hpl : (backTo pos (starEach es X.env)).any (·.1) = false := by rfl) :
    PS X (.Raise (some (.Call (.Name x p) (e :: es) [] pos)) none pos2) (fun _ σ H => tMkO C (spErr1 X.K C fld) [] ta σ H fun cls d H' => W cls d σ H') := by
  obtain ⟨fI, fd, ps, iC, tI, F, b, hm⟩ := M.ex
  exact ps_raise hc tk (pmk_oex M.oc iC tI F (hr.mono hj) b .nil pass0 hg hm ha hdb he hpl)
/-- what the making of such an error asks -/
theorem made1 {K : PySem.W.Frag} {C : Addr} {fld : Str} {H : Hp} {Q : XK} {x : V} {t : Value} {r : Str} (oc : OexC K C) (no : PySem.W.findIn K (.ref C) fld = some none) (rx : ReprV x r) (r8 : r.length ≤ 8000000) (ty : ∀ a, H a = none → TyX K (upd H a (exo a C none)) x t)
    (e1 : PySem.W.kitOne K t (.type "list") = some false) (e2 : PySem.W.kitOne K t (.type "tuple") = some false) (e3 : PySem.W.kitOne K t (.type "dict") = some false) (q : ∀ d H', H d = none → Same H H' → H' d = some (.xd [(fld, x)]) → Q (.ref C) (some d) H') (a : Addr) (na : H a = none) :
    spErr1 K C fld (.ref a :: ([x] ++ [])) (upd H a (exo a C none)) (fun v H2 => v = .non ∧ ∃ (d : Addr) (fs : List (Str × V)), H2 a = some (exo a C (some d)) ∧ H2 d = some (exd d fs) ∧ H d = none ∧ Q (.ref C) (some d) (upd (del H2 a) d (.xd fs))) (fun _ _ _ => False) := by
  refine ⟨a, x, t, r, rfl, upd_same, oc, no, rx, r8, ty a na, e1, e2, e3, fun dx n ne => ⟨rfl, dx, [(fld, x)], upd_same, ?_, ?_, ?_⟩⟩
  · rw [upd_ne ne]
    exact upd_same
  · rw [upd_ne ne] at n
    exact n
  · rw [upd_ne ne] at n
    refine q dx _ n (fun b o e => ?_) upd_same
    have hb := ne_of_none e n
    have hba := ne_of_none e na
    rw [upd_ne hb, del_ne hba, upd_ne hba, upd_ne hb, upd_ne hba]
    exact e
end
def spCheck (K : PySem.W.Frag) (CM CB : Addr) : Sp := fun vs H Q E => ∃ y, vs = [y] ∧ ((∃ z u, y = .ref z ∧ MisAt CM H z u ∧ Q .non H) ∨ (∃ t, TyX K H y t ∧ PySem.W.kitOne K t (.ref CM) = some false ∧ ∀ d H', H d = none → Same H H' → H' d = some (.xd [("part", .str "other")]) → E (.ref CB) (some d) H'))
section
variable {P : Program} {w : World} {K : PySem.W.Frag} {mg : Str → Option Value} {base : Heap} {CM CJ CB : Addr}
theorem ok_check_otherX {f : Addr} {fd : FuncData} (F : Fun K "check_other" "check_other" s_check_other f fd) (T : Ty K mg CM CJ) (E_BadTable : Erm P w K mg base "BadTable" "part" CB) : FnOk P w K mg base (L2.CX P w) 4 f fd ["other"] (spCheck K CM CB) := by
  refine F.okX sc_check_other (fun vs H Q E h => ?_) (fun cdv A outer s H vs Q E hr h => ?_)
  · obtain ⟨y, rfl, _⟩ := h
    rfl
  · obtain ⟨y, rfl, h⟩ := h
    refine ⟨_, (pss_one (ps_if (pt_not (pt_val (pe_callB call_isi (by rfl) T.isinstance (by decide +kernel) (pa_cons (pv 0) (pa_cons (pe_gv T.gMisreading (by rfl)) pa_nil)))))
        (pss_one (ps_raise1 E_BadTable rfl (takes_of rfl rfl rfl rfl) hr (by decide) (by rfl) (pa_cons pe_str pa_nil)))
        pss_nil)), ?_⟩
    rcases h with ⟨z, u, rfl, M, q⟩ | ⟨t, ty, e, q⟩
    · obtain ⟨dx, fs, hx⟩ := M.ins
      exact ⟨_, rfl, _, .ref CM, .ref CM, .ref CM, true, rfl, .own _, .base (.ins hx T.cl T.tA T.tB T.tC T.tD), T.mM, true, rfl, iteF q⟩
    · refine ⟨_, rfl, y, .ref CM, t, .ref CM, false, rfl, .own _, ty, e, false, rfl, iteT ⟨by show 1 ≤ 1000; decide, fun a na => ?_⟩⟩
      exact made1 E_BadTable.oc E_BadTable.no (.inl ⟨_, rfl, rfl⟩) (by decide +kernel) (fun _ _ => ty_str _) (kit_ty (by decide +kernel)) (kit_ty (by decide +kernel)) (kit_ty (by decide +kernel)) q a na
end
end V8

set_option Elab.async false
set_option linter.all false
set_option maxRecDepth 100000
set_option maxHeartbeats 8000000
/-! TooMany. -/
namespace V8
open PySem PySem.Spec PyProof.Rows L2
abbrev s_TooMany_init : Stmt := inClass (topS 12) 0
abbrev n_TooMany_init : List Str := ["self", "what", "most"]
theorem sc_TooMany_init : FnScope ["self", "what", "most"] ["self", "what", "most"] (defScope s_TooMany_init) := ⟨rfl, rfl, rfl, by decide +kernel, rfl, by decide +kernel, by decide +kernel⟩
def spTooMany (K : PySem.W.Frag) (C : Addr) : Sp := fun vs H Q _ => ∃ (a : Addr) (y : Str) (i : Int), vs = [.ref a, .str y, .int i] ∧ H a = some (exo a C none) ∧ OexC K C ∧ PySem.W.findIn K (.ref C) "what" = some none ∧ PySem.W.findIn K (.ref C) "most" = some none ∧ (reprText y).length ≤ 8000000 ∧ i.natAbs.log2 < 1920 ∧ (toString i : Str).length ≤ 8000 ∧
  ∀ dx, H dx = none → dx ≠ a → Q .non (upd (upd (upd H dx (exd dx [("what", .str y)])) a (exo a C (some dx))) dx (exd dx [("most", .int i), ("what", .str y)]))
section
variable {P : Program} {w : World} {K : PySem.W.Frag} {mg : Str → Option Value} {base : Heap} {CR C : Addr}
theorem ok_TooMany {f : Addr} {fd : FuncData} (F : Fun K "__init__" "TooMany.__init__" s_TooMany_init f fd) (T : Tb K mg CR) (D_copied : Df P w K mg base 1 "copied" (spCopied K)) : FnOk P w K mg base CX0 2 f fd ["self", "what", "most"] (spTooMany K C) := by
  refine F.ok sc_TooMany_init (fun vs H Q E h => ?_) (fun cdv A outer s H vs Q E hr h => ?_)
  · obtain ⟨a, y, i, rfl, _⟩ := h
    rfl
  · obtain ⟨a, y, i, rfl, ha, oc, n1, n2, ly, hi, li, q⟩ := h
    refine ⟨_, (pss_cons (ps_expr (pe_baseinit (by rfl) T.bE T.bR T.bV (pa_cons (pv 0) (pa_cons (pe_joinedT (pj_cons pe_str (pj_cons (pe_fmtR (pv 1)) (pj_cons pe_str (pj_cons (pe_fmtR (pv 2)) pj_nil))))) pa_nil))))
      (pss_cons (ps_ost (pv 0) (pe_c D_copied hr (by decide) (by rfl) (pa_cons (pv 1) pa_nil)) rfl)
      (pss_one (ps_ost (pv 0) (pe_c D_copied hr (by decide) (by rfl) (pa_cons (pv 2) pa_nil)) rfl)))), ?_⟩
    have h1 : (Str.empty ++ ("too many: " : Str)).length ≤ 1000 := by decide +kernel
    have h2 : (", of which there can be " : Str).length ≤ 1000 := by decide +kernel
    refine ⟨_, rfl, _, rfl, ?_, _, rfl, .inl ⟨y, rfl, ?_, reprText y, rfl, ?_, _, rfl, ?_, _, rfl, .inr ⟨i, rfl, hi, toString i, rfl, ?_, a, C, _, rfl, (by show 1 ≤ 1000; decide), oc, ha, ?_⟩⟩⟩
    · rw [sizeLine_eq]
      omega
    · rw [sizeLine_eq]
      omega
    · rw [len_app, sizeLine_eq]
      omega
    · rw [len_app, len_app, sizeLine_eq]
      omega
    · rw [len_app, len_app, len_app, sizeLine_eq]
      omega
    · refine ⟨_, rfl, _, _, rfl, ty_str _, kit_ty (by decide +kernel), kit_ty (by decide +kernel), kit_ty (by decide +kernel), _, rfl, a, C, rfl, oc, n1, .inl ⟨ha, fun dx n ne => ?_⟩⟩
      refine ⟨_, rfl, _, _, rfl, .base (.int i), kit_ty (by decide +kernel), kit_ty (by decide +kernel), kit_ty (by decide +kernel), _, rfl, a, C, rfl, oc, n2, .inr ⟨dx, [("what", .str y)], upd_same, ?_, (by show 1 ≤ 900; decide), q dx n ne⟩⟩
      rw [upd_ne ne]
      exact upd_same
end
end V8

set_option Elab.async false
set_option linter.all false
set_option maxRecDepth 100000
set_option maxHeartbeats 8000000
/-! Powers; steps. -/
namespace V8
open PySem PySem.Spec PyProof.Rows L2
abbrev s_Misreading_pow : Stmt := inClass (topS 29) 10
abbrev n_Misreading_pow : List Str := ["self", "other", "made", "_"]
theorem sc_Misreading_pow : FnScope ["self", "other", "made", "_"] ["self", "other"] (defScope s_Misreading_pow) := ⟨rfl, rfl, rfl, by decide +kernel, rfl, by decide +kernel, by decide +kernel⟩
/-- a Misreading of f, perhaps an old one -/
def Gives (CM : Addr) (H : Hp) (f : Fu) (Q : VK) : Prop := ∀ z H' t, MisAt CM H' z t → lk t = f → Same H H' → Q (.ref z) H'
def spPow (CM : Addr) : Sp := fun vs H Q _ => ∃ (x : Addr) (u : Tab) (cs : List Nat) (k : Nat), vs = [.ref x, .int ((k + 1 : Nat) : Int)] ∧ k ≤ 98 ∧ MisAt CM H x u ∧ Ovr cs (lk u) ∧ cs.length ≤ 12 ∧ (∀ j, j ≤ k → Bnd 64 (pF (lk u) j)) ∧ Gives CM H (pF (lk u) k) Q
theorem Ovr.pow {cs : List Nat} {f : Fu} (o : Ovr cs f) : ∀ n, Ovr cs (pF f n)
  | 0 => o
  | n + 1 => (Ovr.pow o n).comp o
/-- what a step leads to, as a value -/
def stepV (o : Option (List Nat)) (cs : List Nat) : V := match o with
  | none => .non
  | some r => if r = cs then .non else .str (Sx r)
def spStep (CM : Addr) : Sp := fun vs H Q _ => ∃ (x : Addr) (u : Tab) (cs : List Nat), vs = [.ref x, .str (Sx cs)] ∧ MisAt CM H x u ∧ (∀ c ∈ cs, isLt c) ∧ cs.length ≤ 2000 ∧ Bnd 64 (lk u) ∧ (∀ r, imF (lk u) cs = some r → r.length ≤ 2000) ∧ ∀ H', Same H H' → Q (stepV (imF (lk u) cs) cs) H'
section
variable {P : Program} {w : World} {K : PySem.W.Frag} {mg : Str → Option Value} {base : Heap} {CM CJ : Addr}
theorem ok_pow {f : Addr} {fd : FuncData} (F : Fun K "__pow__" "Misreading.__pow__" s_Misreading_pow f fd) (T : Tz K mg CM CJ) (D_is_between : Df P w K mg base 2 "is_between" spBtw) (D_rshift : Bo P w K mg base 7 CM "__rshift__" (spRsh CM)) : FnOk P w K mg base CX0 8 f fd ["self", "other"] (spPow CM) := by
  refine F.ok sc_Misreading_pow (fun vs H Q E h => ?_) (fun cdv A outer s H vs Q E hr h => ?_)
  · obtain ⟨x, u, cs, k, rfl, _⟩ := h
    rfl
  · obtain ⟨x, u, cs, k, rfl, k98, mx, ou, h12, bp, q⟩ := h
    refine ⟨_, (pss_cons (ps_if (pt_not (pt_val (pe_c D_is_between hr (by decide) (by rfl) (pa_cons (pv 1) (pa_cons pe_int (pa_cons pe_int pa_nil))))))
        (pss_one ps_never)
        pss_nil)
      (pss_cons (ps_set (i := 2) sc_Misreading_pow.nd rfl (.inl rfl) (pv 0))
      (pss_cons (ps_for PassesOwn.never rfl (pi_range1 (by rfl) T.range (pa_cons (pe_op op_sub (pv 1) pe_int) pa_nil)) (pg_name (i := 3) sc_Misreading_pow.nd rfl (.inl rfl))
        (pss_one (ps_set (i := 2) sc_Misreading_pow.nd rfl (.inl rfl) (pe_op (op_bin D_rshift hr (by decide)) (pv 2) (pv 0)))))
      (pss_one (ps_ret (pv 2)))))), ?_⟩
    refine ⟨_, rfl, _, 1, 99, rfl, by omega, by omega, true, rfl, iteF ?_⟩
    refine ⟨_, rfl, ?_⟩
    refine ⟨_, rfl, _, _, rfl, rfl, k, ?_, by omega, by omega, for_it (walk_range (lo := 0) (n := k)) (fun i σ H2 => (∃ (m : Addr) (t : Tab) (v3 : Option V), σ = [some (.ref x), some (.int ((k + 1 : Nat) : Int)), some (.ref m), v3] ∧ MisAt CM H2 m t ∧ lk t = pF (lk u) i) ∧ Same H H2) ⟨⟨x, u, none, rfl, mx, rfl⟩, Same.refl H⟩ (fun _ _ _ _ _ => trivial) ?_ ?_⟩
    · have e : ((k + 1 : Nat) : Int) - 1 = (k : Int) := by omega
      show [V.int (((k + 1 : Nat) : Int) - 1)] = [V.int (k : Int)]
      rw [e]
    · rintro i z σ H2 H2' hi ⟨⟨m, t, v3, rfl, mt, et⟩, s2⟩ ⟨rfl, rfl⟩
      obtain ⟨dm, am, bm, cm, hm, _⟩ := id mt.at_
      obtain ⟨dx, a, b, c', hx, ha, hb, hc⟩ := id (mx.same s2).at_
      refine ⟨_, rfl, _, rfl, m, dm, _, x, dx, _, rfl, hm, rfl, hx, m, x, t, u, cs, rfl, mt, mx.same s2, ?_, bp 0 (by omega), ?_, ?_, h12, fun z H3 t3 nz mz ez s3 => ⟨⟨z, t3, _, rfl, mz, ?_⟩, fun b o e => s3 _ _ (s2 _ _ e)⟩⟩
      · rw [et]
        exact bp i (by omega)
      · rw [et]
        exact bp (i + 1) (by omega)
      · rw [et]
        exact ou.pow i
      · rw [ez, et]
        rfl
    · rintro σ H2 ⟨⟨m, t, v3, rfl, mt, et⟩, s2⟩
      exact ⟨_, rfl, q m H2 t mt et s2⟩
end
end V8

set_option Elab.async false
set_option linter.all false
set_option maxRecDepth 100000
set_option maxHeartbeats 4000000
/-! Signs of an own class: with a value of any other kind on the right; x >= y, where y's own <= answers; x |= y, where there is no __ior__. -/
namespace PySem.W
open PySem PySem.Spec PySem.Calls PyProof.Rows
theorem slot_obj_ge : Slot "object" "__ge__" "object.__ge__" := by
  refine .of (owner := "object") (n := "__ge__") ?_ (by decide +kernel) (by decide +kernel) (by decide +kernel) (.inl (by decide +kernel)) ?_
  · rw [typeLookup_type, builtinLookup_eq_fast]
    kernel_rfl
  · rw [isSubtype_type]
    kernel_rfl
theorem entry_obj_ge : entryFor table "object.__ge__" = some Builtin.«object.__ge__» := entryFor_of_tree (by kernel_rfl)
theorem args_obj_ge (u v : Value) : argsOk "object.__ge__" ⟨[u, v], []⟩ := by
  unfold argsOk
  kernel_rfl
section
variable {prog : Program} {w : World} {A : Around} {E : Value → Shared → Prop} {s : Shared} {K : Frag} {m : Str → Option Value} {h₀ : Heap} {L x y C f : Addr} {ox oy : Obj} {od od2 : Option Obj}
/-- object's own >= says that it does not know -/
theorem obj_ge_none {b : Value} {Q : Value → Shared → Prop} (X : K.In s.heap) (I : InstAt s.heap x ox C od) (hm : mroIn K C (.type "object") = some true) (q : Q .notImplemented s) : wpAny (model prog w) A (call (.builtin "object.__ge__") [.ref x, b]) Q E s := by
  refine wpAny_call (codeAny_call_builtin slot_obj_ge.plain entry_obj_ge (check_slot (n := "__ge__") (by decide +kernel) (by decide +kernel) (I.type.andThen (looks_mroIn X hm)) (args_obj_ge _ _) ?_))
  have e : Builtin.«object.__ge__» ⟨[.ref x, b], []⟩ = (do
      let _ ← slotArgs "__ge__" 1 ⟨[.ref x, b], []⟩
      ret .notImplemented) := rfl
  rw [e]
  repeat wp_step
  exact q
theorem try_ge {b : Value} {Q : Option Value → Shared → Prop} (X : K.In s.heap) (I : InstAt s.heap x ox C od) (hm : mroIn K C (.type "object") = some true) (no : findIn K (.ref C) "__ge__" = some (some (.builtin "object.__ge__"))) (q : Q none s) : wpAny (model prog w) A (tryCompare (.ref x) "__ge__" b) Q E s := by
  unfold tryCompare
  have told : wpAny (model prog w) A (callSpecialIfBound? (.ref x) "__ge__" [b]) (fun r s' => r = some .notImplemented ∧ s' = s) E s := by
    simp only [callSpecialIfBound?, bindSpecialIfBound?]
    refine wpAny_holding (wpAny_bind (wpAny_bind (wpAny_bind (I.type.here ((looks_findIn X no).here (wpAny_bind (wpAny_askSetting (wpAny_ite ?_))))))))
    have last : wpAny (model prog w) A (call (.builtin "object.__ge__") ([.ref x] ++ [b]) >>= fun v => pure (some v)) (fun r s' => r = some .notImplemented ∧ s' = s) E s :=
      wpAny_bind (obj_ge_none X I hm (wpAny_pure ⟨rfl, rfl⟩))
    split
    · exact wpAny_bind (wpAny_of_eq (slot_obj_ge.bind _) (wpAny_pure last))
    · exact wpAny_tryCatch (wpAny_bind (wpAny_of_eq (slot_obj_ge.bind _) (wpAny_pure last)))
  refine wpAny_bind (wpAny_mono told (fun r s' z => ?_) fun _ _ e => e)
  obtain ⟨rfl, rfl⟩ := z
  exact wpAny_pure q
/-- x >= y -/
theorem ge_back {Q : Value → Shared → Prop} (hu : A.units < cLine) (F : Fr h₀ L s.heap m) (X₀ : K.In h₀) (I : InstAt s.heap x ox C od) (J : InstAt s.heap y oy C od2) (hm : mroIn K C (.type "object") = some true) (no : findIn K (.ref C) "__ge__" = some (some (.builtin "object.__ge__")))
    (hs : findIn K (.ref C) "__le__" = some (some (.ref f))) (hf : isFn K (.ref f) = true) (h : wpAny (model prog w) A (call (.ref f) [.ref y, .ref x]) (CmpBack Q) E s) : wpAny (model prog w) A (richCompare .GtE (.ref x) (.ref y)) Q E s := by
  have X := X₀.keeps F.keep
  have own : wpAny (model prog w) A (tryCompare (.ref y) "__le__" (.ref x)) (fun r s' => ∃ v, r = some v ∧ Q v s') E s := by
    unfold tryCompare
    refine wpAny_bind (ifBound_K X J hs hf (wpAny_mono h (fun v s' hv => ?_) fun _ _ e => e))
    cases v <;> first
      | exact hv.elim
      | exact wpAny_pure ⟨_, rfl, hv⟩
  unfold richCompare
  simp only [oneThing_ref, cmpInfo]
  refine wpAny_holding (wpAny_bind (wpAny_cRoomFor hu (wpAny_bind (I.type.here (wpAny_bind (J.type.here ?_))))))
  rw [if_neg (by simp)]
  refine wpAny_bind (wpAny_pure ?_)
  simp only [Bool.false_eq_true, if_false, Bool.not_false, if_true]
  refine wpAny_bind (try_ge X I hm no ?_)
  refine wpAny_bind (wpAny_mono own (fun r s' z => ?_) fun _ _ e => e)
  obtain ⟨v, rfl, q⟩ := z
  exact wpAny_pure q
/-- x op b, b of a built-in type T -/
theorem bin_any {op : Operator} {T : String} {b : Value} {fo ro rc : Option Value} {Q : Value → Shared → Prop} (F : Fr h₀ L s.heap m) (X₀ : K.In h₀) (I : InstAt s.heap x ox C od) (hb : Looks (model prog w) s.heap (typeOf b) (.type T)) (hc : selfFirst K C = true)
    (hs : findIn K (.ref C) (PySem.dunder op.info.2) = some (some (.ref f))) (hf : isFn K (.ref f) = true) (hr : findIn K (.ref C) (dunderR op.info.2) = some rc) (hp : rc = none ∨ ∃ g : Addr, rc = some (.ref g))
    (h1 : findIn K (.type T) (PySem.dunder op.info.2) = some fo) (h2 : findIn K (.type T) (dunderR op.info.2) = some ro) (hsub : subIn K (.type T) (.ref C) = some false) (h : wpAny (model prog w) A (call (.ref f) [.ref x, b]) (CmpBack Q) E s) :
    wpAny (model prog w) A (binaryOp op (.ref x) b) Q E s := by
  have X := X₀.keeps F.keep
  obtain ⟨cd, more, e1, e2⟩ := ksp_first hc
  rcases hi : op.info with ⟨sg, nm⟩
  rw [hi] at hs hr h1 h2
  dsimp only at hs hr h1 h2
  have go := ksp_try X I hs hf h
  have tx := I.type (M := model prog w)
  have lf := fills_K (M := model prog w) X e1 e2 hs
  have rf := ksp_fillsT (M := model prog w) X h1 h2
  have su := looks_subIn (M := model prog w) X hsub
  have py := ksp_inPy (M := model prog w) X hs hr hp
  have nopy : Looks (model prog w) s.heap (numberSlotInPython (.type T) nm) false := Looks.of_pure rfl
  have rl := looks_findIn (M := model prog w) X h2
  have ne : (Value.ref C == Value.type T) = false := rfl
  obtain ⟨hh, g, d, tt, os⟩ := s
  simp only [binaryOp, hi]
  refine wpAny_holding (wpAny_bind ?_)
  unfold binaryOp1
  refine wpAny_bind (tx.at (wpAny_bind (hb.at (wpAny_bind (lf.at ?_)))))
  simp only [ne, Bool.false_eq_true, if_false]
  cases hri : ((fo.isSome && !isSeqSlot fo) || (ro.isSome && !isSeqSlot ro)) <;> rw [hri] at rf
  all_goals
    ksp_lk
    refine wpAny_mono go (fun r s' z => ?_) fun _ _ e => e
    obtain ⟨v, rfl, q⟩ := z
    ksp_lk
    exact q
end
end PySem.W

set_option Elab.async false
set_option linter.all false
set_option maxRecDepth 100000
set_option maxHeartbeats 4000000
/-! x op= y of one own class, which has no method for it in place. -/
namespace PySem.W
open PySem PySem.Spec PySem.Calls PyProof.Rows
section
variable {prog : Program} {w : World} {A : Around} {E : Value → Shared → Prop} {s : Shared} {K : Frag} {m : Str → Option Value} {h₀ : Heap} {L x y C f : Addr} {ox oy : Obj} {od od2 : Option Obj}
theorem no_inplace {M : Model} {h : Heap} {nm : String} {add : Bool} {cd : ClassData} (X : K.In h) (hc : clsIn K C = some cd) (hm : cd.mro = [.ref C, .type "object"]) (n1 : findIn K (.ref C) (dunderI nm) = some none) (n2 : typeLookup (.type "object") (dunderI nm) = pure none) : Looks M h (fillsInplaceSlot (.ref C) nm add) false := by
  intro A Q E s k q
  have Lm := ((looks_clsIn (M := M) X hc).andThen (f := fun cd => pure cd.mro) .now).keeps k
  obtain ⟨hh, g, d, tt, os⟩ := s
  have X' : K.In hh := X.keeps k
  have t1 : Looks M hh (typeLookup (.ref C) (dunderI nm)) none := looks_findIn X' n1
  have t2 : Looks M hh (typeLookup (.type "object") (dunderI nm)) none := Looks.of_pure n2
  unfold fillsInplaceSlot
  refine wpAny_bind (Lm.at ?_)
  rw [hm, List.anyM_cons]
  refine wpAny_bind ?_
  repeat lk
  exact q
theorem in_own {op : Operator} {b : Value} {cd : ClassData} {Q : Value → Shared → Prop} (F : Fr h₀ L s.heap m) (X₀ : K.In h₀) (I : InstAt s.heap x ox C od) (hb : Looks (model prog w) s.heap (typeOf b) (.ref C)) (hc : clsIn K C = some cd) (hm : cd.mro = [.ref C, .type "object"])
    (n1 : findIn K (.ref C) (dunderI op.info.2) = some none) (n2 : typeLookup (.type "object") (dunderI op.info.2) = pure none) (hs : findIn K (.ref C) (PySem.dunder op.info.2) = some (some (.ref f))) (hf : isFn K (.ref f) = true)
    (h : wpAny (model prog w) A (call (.ref f) [.ref x, b]) (CmpBack Q) E s) : wpAny (model prog w) A (inplaceOp op (.ref x) b) Q E s := by
  have X := X₀.keeps F.keep
  have go := ksp_try X I hs hf h
  have tx := I.type (M := model prog w)
  have lf := fills_K (M := model prog w) X hc hm hs
  have ni := no_inplace (M := model prog w) (add := op == .Add) X hc hm n1 n2
  obtain ⟨hh, g, d, tt, os⟩ := s
  unfold inplaceOp
  refine wpAny_holding (wpAny_bind (tx.at (wpAny_bind (ni.at ?_))))
  simp only [Bool.false_eq_true, if_false]
  refine wpAny_bind (m := binaryOp1 op.info.2 (.ref x) b) ?_
  unfold binaryOp1
  refine wpAny_bind (tx.at (wpAny_bind (hb.at (wpAny_bind (lf.at ?_)))))
  simp only [beq_self_eq_true, if_true]
  ksp_lk
  refine wpAny_mono go (fun r s' z => ?_) fun _ _ e => e
  obtain ⟨v, rfl, q⟩ := z
  ksp_lk
  exact q
end
end PySem.W

set_option Elab.async false
set_option linter.all false
set_option maxRecDepth 100000
set_option maxHeartbeats 4000000
/-! The rules for these signs. -/
namespace L2
open PySem PySem.Spec PyProof.Rows
section
variable {X : Cx} {n : Nat} {CX : CXT} {C f : Addr} {fd : FuncData} {ps : List Str} {sp : Sp} {E : XK}
/-- what a built-in type says of a sign, beside an own class -/
structure BesideT (K : PySem.W.Frag) (C : Addr) (nm : String) (t : Value) : Prop where
  ex : ∃ (T : String) (fo ro : Option Value), t = .type T ∧ PySem.W.findIn K (.type T) (PySem.dunder nm) = some fo ∧ PySem.W.findIn K (.type T) (PySem.dunderR nm) = some ro ∧ PySem.W.subIn K (.type T) (.ref C) = some false
def rBinAny (K : PySem.W.Frag) (C : Addr) (nm : String) (sp : Sp) (E : XK) : R2 := fun x y H Q => ∃ a dx fs t, x = .ref a ∧ H a = some (.ins C dx fs) ∧ TyX K H y t ∧ BesideT K C nm t ∧ sp [.ref a, y] H Q E
theorem op_binAny {op : Operator} (F : FnOk X.prog X.w X.K X.mg X.base CX n f fd ps sp) (hb : Binds X.K fd ps []) (hx : Passes CX X E) (hs : PySem.W.findIn X.K (.ref C) (PySem.dunder op.info.2) = some (some (.ref f))) (hf : PySem.W.isFn X.K (.ref f) = true) (hc : PySem.W.selfFirst X.K C = true)
    (hr : PySem.W.findIn X.K (.ref C) (PySem.dunderR op.info.2) = some none) (hm : Room n X.A) : OpR X (binaryOp op) (rBinAny X.K C op.info.2 sp E) := by
  intro pins s σ H x y v u Q I rx ry h
  obtain ⟨a, dx, fs, t, rfl, ha, ty, bt, hsp⟩ := h
  cases rx
  obtain ⟨od, J⟩ := inst_at I ha
  obtain ⟨m, hF⟩ := I.fr
  obtain ⟨P, Z, p, _⟩ := kit_of I ry ty
  obtain ⟨T, fo, ro, rfl, h1, h2, h3⟩ := bt.ex
  refine PySem.W.bin_any hF I.ok.mod.kin J (Z.ty _ _ I.kIn p) hc hs hf hr (.inl rfl) h1 h2 h3 (thn (run_own (Sub.here hm) F hb hx I (show Vals [V.ref a, y] [Value.ref a, u] from .cons rfl (.cons ry .nil)) hsp) fun r s' q => ?_)
  obtain ⟨z, H', I', rz, q⟩ := q
  exact notNI rz ⟨z, H', I', rz, q⟩
def rGeOwn (C : Addr) (sp : Sp) (E : XK) : R2 := fun x y H Q => ∃ a dx fs b dy gs, x = .ref a ∧ H a = some (.ins C dx fs) ∧ y = .ref b ∧ H b = some (.ins C dy gs) ∧ sp [.ref b, .ref a] H Q E
theorem op_geOwn (F : FnOk X.prog X.w X.K X.mg X.base CX n f fd ps sp) (hb : Binds X.K fd ps []) (hx : Passes CX X E) (o : Own X.K C "__le__" f) (no : PySem.W.findIn X.K (.ref C) "__ge__" = some (some (.builtin "object.__ge__"))) (hm : PySem.W.mroIn X.K C (.type "object") = some true) (hr : Room n X.A) : OpR X (compareOp .GtE) (rGeOwn C sp E) := by
  intro pins s σ H x y v u Q I rx ry h
  obtain ⟨a, dx, fs, b, dy, gs, rfl, ha, rfl, hb2, hsp⟩ := h
  cases rx
  cases ry
  obtain ⟨od, J⟩ := inst_at I ha
  obtain ⟨od2, J2⟩ := inst_at I hb2
  obtain ⟨m, hF⟩ := I.fr
  refine PySem.W.ge_back hr.units0 hF I.ok.mod.kin J J2 hm no o.find o.fn (thn (run_own (Sub.here hr) F hb hx I (show Vals [V.ref b, V.ref a] [Value.ref b, Value.ref a] from .cons rfl (.cons rfl .nil)) hsp) fun r s' q => ?_)
  obtain ⟨z, H', I', rz, q⟩ := q
  exact notNI rz ⟨z, H', I', rz, q⟩
theorem op_inOwnP {op : Operator} {cd : ClassData} (F : FnOk X.prog X.w X.K X.mg X.base CX n f fd ps sp) (hb : Binds X.K fd ps []) (hx : Passes CX X E) (hs : PySem.W.findIn X.K (.ref C) (PySem.dunder op.info.2) = some (some (.ref f))) (hf : PySem.W.isFn X.K (.ref f) = true) (hc : PySem.W.clsIn X.K C = some cd) (hm : cd.mro = [.ref C, .type "object"])
    (n1 : PySem.W.findIn X.K (.ref C) (PySem.dunderI op.info.2) = some none) (n2 : typeLookup (.type "object") (PySem.dunderI op.info.2) = pure none) (hr : Room n X.A) : OpR X (inplaceOp op) (rBinOwn X.K C sp E) := by
  intro pins s σ H x y v u Q I rx ry h
  obtain ⟨a, dx, fs, b, dy, gs, rfl, ha, rfl, hb2, hsp⟩ := h
  cases rx
  cases ry
  obtain ⟨od, J⟩ := inst_at I ha
  obtain ⟨od2, J2⟩ := inst_at I hb2
  obtain ⟨m, hF⟩ := I.fr
  refine PySem.W.in_own hF I.ok.mod.kin J J2.type hc hm n1 n2 hs hf (thn (run_own (Sub.here hr) F hb hx I (show Vals [V.ref a, V.ref b] [Value.ref a, Value.ref b] from .cons rfl (.cons rfl .nil)) hsp) fun r s' q => ?_)
  obtain ⟨z, H', I', rz, q⟩ := q
  exact notNI rz ⟨z, H', I', rz, q⟩
end
theorem no_ior : typeLookup (.type "object") (PySem.dunderI (Operator.info .BitOr).2) = pure none := by
  rw [typeLookup_type, builtinLookup_eq_fast]
  kernel_rfl
end L2

set_option Elab.async false
set_option linter.all false
set_option maxRecDepth 100000
set_option maxHeartbeats 8000000
/-! Defs, signs and makers that may raise. -/
namespace V8
open PySem PySem.Spec PyProof.Rows L2
/-- a def of the text that may raise, by its name -/
structure DfX (P : Program) (w : World) (K : PySem.W.Frag) (mg : Str → Option Value) (base : Heap) (k : Nat) (x : Str) (sp : Sp) : Prop where
  ex : ∃ (f : Addr) (fd : FuncData) (ps : List Str), FnOk P w K mg base (L2.CX P w) k f fd ps sp ∧ mg x = some (.ref f) ∧ PySem.W.keepIn K (.ref f) = true ∧ Binds K fd ps []
/-- a sign's method that may raise -/
structure BoX (P : Program) (w : World) (K : PySem.W.Frag) (mg : Str → Option Value) (base : Heap) (k : Nat) (C : Addr) (m : Str) (sp : Sp) : Prop where
  ex : ∃ (f : Addr) (fd : FuncData) (ps : List Str), FnOk P w K mg base (L2.CX P w) k f fd ps sp ∧ Binds K fd ps [] ∧ PySem.W.findIn K (.ref C) m = some (some (.ref f)) ∧ PySem.W.isFn K (.ref f) = true ∧ PySem.W.selfFirst K C = true
/-- what a context lets through -/
theorem passTk {X : Cx} {E : XK} (tk : Takes X fun cls d _ H => E cls d H) : Passes (L2.CX X.prog X.w) X E := passes_call tk fun _ _ _ _ h => h
section
variable {X : Cx} {k j : Nat} {C : Addr} {x : Str} {sp : Sp} {p pos : Pos} {e : Expr} {es : List Expr} {t : TA} {E : XK}
theorem pe_cX (c : DfX X.prog X.w X.K X.mg X.base k x sp) (hx : Passes (L2.CX X.prog X.w) X E) (hr : Room j X.A) (hk : k ≤ j) (hg : Gl X x) (ha : PA X (e :: es) t)
    (hdb : (x == ("__debug__" : Str)) = false := by decide) (he : starEach (e :: es) X.env = (false, eval e X.env) :: starEach es X.env := by rfl) (hpl : (backTo pos (starEach es X.env)).any (·.1) = false := by rfl) : PE X (.Call (.Name x p) (e :: es) [] pos) (tCall sp [] E t) := by
  obtain ⟨f, fd, ps, F, hm, kp, b⟩ := c.ex
  exact pe_call F (hr.mono hk) hg hm kp b .nil hx ha hdb he hpl
theorem op_binX {op : Operator} {m : Str} (c : BoX X.prog X.w X.K X.mg X.base k C m sp) (hx : Passes (L2.CX X.prog X.w) X E) (hr : Room j X.A) (hk : k ≤ j) (hm : PySem.dunder op.info.2 = m := by rfl) : OpR X (binaryOp op) (rBinOwn X.K C sp E) := by
  obtain ⟨f, fd, ps, F, b, h1, h2, h3⟩ := c.ex
  subst hm
  exact op_binOwn F b hx h1 h2 h3 (hr.mono hk)
theorem op_anyX {op : Operator} {m : Str} (c : BoX X.prog X.w X.K X.mg X.base k C m sp) (hx : Passes (L2.CX X.prog X.w) X E) (hn : PySem.W.findIn X.K (.ref C) (PySem.dunderR op.info.2) = some none) (hr : Room j X.A) (hk : k ≤ j) (hm : PySem.dunder op.info.2 = m := by rfl) : OpR X (binaryOp op) (rBinAny X.K C op.info.2 sp E) := by
  obtain ⟨f, fd, ps, F, b, h1, h2, h3⟩ := c.ex
  subst hm
  exact op_binAny F b hx h1 h2 h3 hn (hr.mono hk)
theorem op_leX (c : BoX X.prog X.w X.K X.mg X.base k C "__le__" sp) (hx : Passes (L2.CX X.prog X.w) X E) (hr : Room j X.A) (hk : k ≤ j) : OpR X (compareOp .LtE) (rLeOwn X.K C sp E) := by
  obtain ⟨f, fd, ps, F, b, h1, h2, h3⟩ := c.ex
  exact op_leOwn F b hx ⟨h1, h2⟩ (hr.mono hk)
theorem op_geX (c : BoX X.prog X.w X.K X.mg X.base k C "__le__" sp) (hx : Passes (L2.CX X.prog X.w) X E) (no : PySem.W.findIn X.K (.ref C) "__ge__" = some (some (.builtin "object.__ge__"))) (hm : PySem.W.mroIn X.K C (.type "object") = some true) (hr : Room j X.A) (hk : k ≤ j) : OpR X (compareOp .GtE) (rGeOwn C sp E) := by
  obtain ⟨f, fd, ps, F, b, h1, h2, h3⟩ := c.ex
  exact op_geOwn F b hx ⟨h1, h2⟩ no hm (hr.mono hk)
/-- what | in place asks of the class -/
structure NoIn (K : PySem.W.Frag) (C : Addr) : Prop where
  ex : ∃ cd, PySem.W.clsIn K C = some cd ∧ cd.mro = [.ref C, .type "object"]
  n1 : PySem.W.findIn K (.ref C) "__ior__" = some none
theorem ip_orX (c : BoX X.prog X.w X.K X.mg X.base k C "__or__" sp) (hx : Passes (L2.CX X.prog X.w) X E) (ni : NoIn X.K C) (hr : Room j X.A) (hk : k ≤ j) : PIp X .BitOr (rBinOwn X.K C sp E) := by
  obtain ⟨f, fd, ps, F, b, h1, h2, h3⟩ := c.ex
  obtain ⟨cd, e1, e2⟩ := ni.ex
  intro pins s σ H x y v u Q I r1 r2 h
  exact op_inOwnP (op := .BitOr) F b hx h1 h2 e1 e2 ni.n1 no_ior (hr.mono hk) pins s σ H x y v u Q I r1 r2 h
end
/-- TooMany by its name -/
structure ErmT (P : Program) (w : World) (K : PySem.W.Frag) (mg : Str → Option Value) (base : Heap) (C : Addr) : Prop where
  oc : OexC K C
  n1 : PySem.W.findIn K (.ref C) "what" = some none
  n2 : PySem.W.findIn K (.ref C) "most" = some none
  ex : ∃ (fI : Addr) (fd : FuncData) (ps : List Str), PySem.W.findIn K (.ref C) "__init__" = some (some (.ref fI)) ∧ PySem.W.typeIn K (.ref fI) = some (.type "function") ∧ FnOk P w K mg base CX0 2 fI fd ps (spTooMany K C) ∧ Binds K fd ps [] ∧ mg "TooMany" = some (.ref C)
section
variable {X : Cx} {C : Addr} {j : Nat} {p pos pos2 : Pos} {e : Expr} {es : List Expr} {ta : TA} {W : WX}
theorem ps_raise2 (M : ErmT X.prog X.w X.K X.mg X.base C) (hc : X.calm = true) (tk : Takes X W) (hr : Room j X.A) (hj : 3 ≤ j) (hg : Gl X "TooMany") (ha : PA X (e :: es) ta)
    (hdb : (("TooMany" : Str) == ("__debug__" : Str)) = false := by decide) (he : starEach (e :: es) X.env = (false, eval e X.env) :: starEach es X.env := by rfl) (hpl : (backTo pos (starEach es X.env)).any (·.1) = false := by rfl) :
    PS X (.Raise (some (.Call (.Name "TooMany" p) (e :: es) [] pos)) none pos2) (fun _ σ H => tMkO C (spTooMany X.K C) [] ta σ H fun cls d H' => W cls d σ H') := by
  obtain ⟨fI, fd, ps, iC, tI, F, b, hm⟩ := M.ex
  exact ps_raise hc tk (pmk_oex M.oc iC tI F (hr.mono hj) b .nil pass0 hg hm ha hdb he hpl)
theorem made2 {K : PySem.W.Frag} {C : Addr} {H : Hp} {Q : XK} {y : Str} {i : Int} (oc : OexC K C) (n1 : PySem.W.findIn K (.ref C) "what" = some none) (n2 : PySem.W.findIn K (.ref C) "most" = some none) (l1 : (reprText y).length ≤ 8000000) (l2 : i.natAbs.log2 < 1920) (l3 : (toString i : Str).length ≤ 8000)
    (q : ∀ d H', H d = none → Same H H' → H' d = some (.xd [("most", .int i), ("what", .str y)]) → Q (.ref C) (some d) H') (a : Addr) (na : H a = none) :
    spTooMany K C (.ref a :: ([.str y, .int i] ++ [])) (upd H a (exo a C none)) (fun v H2 => v = .non ∧ ∃ (d : Addr) (fs : List (Str × V)), H2 a = some (exo a C (some d)) ∧ H2 d = some (exd d fs) ∧ H d = none ∧ Q (.ref C) (some d) (upd (del H2 a) d (.xd fs))) (fun _ _ _ => False) := by
  refine ⟨a, y, i, rfl, upd_same, oc, n1, n2, l1, l2, l3, fun dx n ne => ⟨rfl, dx, [("most", .int i), ("what", .str y)], ?_, upd_same, ?_, ?_⟩⟩
  · rw [upd_ne (Ne.symm ne)]
    exact upd_same
  · rw [upd_ne ne] at n
    exact n
  · rw [upd_ne ne] at n
    refine q dx _ n (fun b o e => ?_) upd_same
    have hb := ne_of_none e n
    have hba := ne_of_none e na
    rw [upd_ne hb, del_ne hba, upd_ne hb, upd_ne hba, upd_ne hb, upd_ne hba]
    exact e
end
end V8

set_option Elab.async false
set_option linter.all false
set_option maxRecDepth 100000
set_option maxHeartbeats 8000000
/-! A Misreading of joined images, or TooMany. -/
namespace V8
open PySem PySem.Spec PyProof.Rows L2
/-- two promises of one def, of which the one raises nothing -/
theorem FnOk.either {P : Program} {w : World} {K : PySem.W.Frag} {mg : Str → Option Value} {base : Heap} {k : Nat} {f : Addr} {fd : FuncData} {ps : List Str} {sp1 sp2 : Sp} {CXa : CXT} (F1 : FnOk P w K mg base CX0 k f fd ps sp1) (F2 : FnOk P w K mg base CXa k f fd ps sp2) :
    FnOk P w K mg base CXa k f fd ps (fun vs H Q E => sp1 vs H Q E0 ∨ sp2 vs H Q E) := by
  refine ⟨fun vs H Q E h => h.elim (F1.len _ _ _ _) (F2.len _ _ _ _), fun A outer s H args us vs Q E hr e0 b r h => ?_⟩
  rcases h with h | h
  · refine codeAny_mono (F1.run A outer s H args us vs Q E0 hr e0 b r h) fun x s' q => ?_
    cases x with
    | error e => exact (show False from q).elim
    | ok fl => cases fl <;> exact q
  · exact F2.run A outer s H args us vs Q E hr e0 b r h
/-- the way out of TooMany(what, most) -/
def OutT (CT : Addr) (H : Hp) (y : Str) (i : Int) (E : XK) : Prop := ∀ d H', H d = none → Same H H' → H' d = some (.xd [("most", .int i), ("what", .str y)]) → E (.ref CT) (some d) H'
def spInitT (CM CJ CT : Addr) : Sp := fun vs H _ E => ∃ (x dx j dj d : Addr) (t : Tab), vs = [.ref x, .ref j, .str (Sx [])] ∧ H x = some (.ins CM dx []) ∧ H j = some (.ins CJ dj (fJ d)) ∧ H d = some (.dK (encT t)) ∧ 12 < t.length ∧ t.length ≤ 100 ∧ OutT CT H "letters" 12 E
def spInitJX (CM CJ CT : Addr) : Sp := fun vs H Q E => spInitJ CM CJ vs H Q E0 ∨ spInitT CM CJ CT vs H Q E
structure MkrMX (P : Program) (w : World) (K : PySem.W.Frag) (mg : Str → Option Value) (base : Heap) (CM CJ CT : Addr) : Prop where
  ex : ∃ (f : Addr) (fd : FuncData), Mk K CM f ∧ FnOk P w K mg base (L2.CX P w) 5 f fd pI (spInitJX CM CJ CT) ∧ mg "Misreading" = some (.ref CM) ∧ ∃ ds, Vals [.str (Sx [])] ds ∧ Binds K fd pI ds
/-- Misreading(Joined(t)), made or refused -/
def tMkMJX (CM CJ CT : Addr) (E : XK) (t : TA) : TE := fun σ H Q => t σ H fun vs H1 => ∃ j dj d tb, vs = [.ref j] ∧ H1 j = some (.ins CJ dj (fJ d)) ∧ H1 d = some (.dK (encT tb)) ∧ ((tb.length ≤ 12 ∧ ∀ x H', H1 x = none → MisAt CM H' x tb → Same H1 H' → Q (.ref x) H') ∨ (12 < tb.length ∧ tb.length ≤ 100 ∧ OutT CT H1 "letters" 12 E))
section
variable {P : Program} {w : World} {K : PySem.W.Frag} {mg : Str → Option Value} {base : Heap} {CM CJ CT : Addr}
theorem ok_initT {f : Addr} {fd : FuncData} {dvs : List V} (F : FunD K "__init__" "Misreading.__init__" (defArgs s_Misreading_init) (defBody s_Misreading_init) (defScope s_Misreading_init) dvs [] f fd) (T : Tz K mg CM CJ) (D_told_images : Df P w K mg base 4 "told_images" spTold) (E_TooMany : ErmT P w K mg base CT) : FnOk P w K mg base (L2.CX P w) 5 f fd ["self", "images", "keeps"] (spInitT CM CJ CT) := by
  refine F.ok sc_Misreading_init (fun vs H Q E h => ?_) (fun cdv A outer s H vs Q E hr h => ?_)
  · obtain ⟨x, dx, j, dj, d, t, rfl, _⟩ := h
    rfl
  · obtain ⟨x, dx, j, dj, r, u, rfl, hx, hj, hr1, l1, l2, q⟩ := h
    refine ⟨_, (pss_cons (ps_set (i := 3) sc_Misreading_init.nd rfl (.inr rfl) (pe_ifExp (pt_val (pe_callB call_isi (by rfl) T.isinstance (by decide +kernel) (pa_cons (pv 1) (pa_cons (pe_gv T.gJoined (by rfl)) pa_nil)))) (pe_fldK (K := K) rfl (pv 1) rfl) (pe_c D_told_images hr (by decide) (by rfl) (pa_cons (pv 1) (pa_cons (pv 2) pa_nil)))))
      (pss_cons (ps_if (pt_cmpR op_gt (pe_callB call_lenD (by rfl) T.len (by decide +kernel) (pa_cons (pv 3) pa_nil)) (pe_gv T.gMOST_LETTERS (by rfl)) (nomark _))
        (pss_one (ps_raise2 E_TooMany rfl (takes_of rfl rfl rfl rfl) hr (by decide) (by rfl) (pa_cons pe_str (pa_cons (pe_gv T.gMOST_LETTERS (by rfl)) pa_nil))))
        pss_nil)
      (pss_cons (ps_fld (pv 0) (pe_callTy (call_tuple_ofK (K := K) rfl) (by rfl) T.tuple (by decide +kernel) (pa_cons (pe_lc (own := [("letter", 4)]) (g := gName 4) (by rfl) sc_Misreading_init.nd (pi_str (pe_gv T.gLETTERS (by rfl))) (blkOk_by (own := [("letter", 4)]) (N := n_Misreading_init) (sc := defScope s_Misreading_init) (by decide +kernel)) (fun _ _ _ _ _ => (pg_name (i := 4) sc_Misreading_init.nd rfl (.inl rfl))) (fun _ _ _ _ _ => (pts_one (pt_cmp (pc_din (hu_of hr) (pv 4) (pv 3))))) (fun _ _ _ _ _ => (pv 4))) pa_nil)) rfl)
      (pss_cons (ps_fld (pv 0) (pe_dc (own := [("letter", 4)]) (g := gName 4) (by rfl) sc_Misreading_init.nd (pi_tup (pe_fldK (K := K) rfl (pv 0) rfl)) (blkOk_by (own := [("letter", 4)]) (N := n_Misreading_init) (sc := defScope s_Misreading_init) (by decide +kernel)) (fun _ _ _ _ _ => (pg_name (i := 4) sc_Misreading_init.nd rfl (.inl rfl))) (fun _ _ _ _ _ => pts_nil) (fun _ _ _ _ _ => (pv 4)) (fun _ _ _ _ _ => (pe_dget (hu_of hr) (pv 3) (pv 4) (fun _ _ => rfl)))) rfl)
      (pss_one (ps_fld (pv 0) (pe_callTy (call_tuple_ofK (K := K) rfl) (by rfl) T.tuple (by decide +kernel) (pa_cons (pe_lc (own := [("letter", 4)]) (g := gName 4) (by rfl) sc_Misreading_init.nd (pi_tup (pe_fldK (K := K) rfl (pv 0) rfl)) (blkOk_by (own := [("letter", 4)]) (N := n_Misreading_init) (sc := defScope s_Misreading_init) (by decide +kernel)) (fun _ _ _ _ _ => (pg_name (i := 4) sc_Misreading_init.nd rfl (.inl rfl))) (fun _ _ _ _ _ => (pts_one (pt_cmpR op_ne (pe_dget (hu_of hr) (pv 3) (pv 4) (fun _ _ => rfl)) (pv 4) (nomark _)))) (fun _ _ _ _ _ => (pv 4))) pa_nil)) rfl)))))), ?_⟩
    refine ⟨_, rfl, _, .ref CJ, .ref CJ, .ref CJ, true, rfl, .own _, .base (.ins hj T.clJ T.jA T.tB T.tC T.jD), T.JJ, true, rfl, ?_⟩
    refine iteT ?_
    refine ⟨_, rfl, j, CJ, dj, _, _, rfl, hj, T.clJ, T.nJ, fJ_i r, ?_⟩
    refine ⟨_, rfl, r, _, rfl, hr1, _, _, rfl, rfl, _, rfl, ?_⟩
    rw [encT_len, decide_eq_true (by show (12 : Int) < (u.length : Int); omega)]
    refine iteT ⟨by show 2 ≤ 1000; decide, fun a na => ?_⟩
    exact made2 E_TooMany.oc E_TooMany.n1 E_TooMany.n2 (by decide +kernel) (by decide) (by decide +kernel) q a na
theorem mkrMX_of {CXa : CXT} {f : Addr} {fd : FuncData} (F : FunD K "__init__" "Misreading.__init__" (defArgs s_Misreading_init) (defBody s_Misreading_init) (defScope s_Misreading_init) [.str (Sx [])] [] f fd) (T : Tz K mg CM CJ)
    (D_told_images : Df P w K mg base 4 "told_images" spTold) (E_TooMany : ErmT P w K mg base CT) (M : Mk K CM f) (hm : mg "Misreading" = some (.ref CM)) : MkrMX P w K mg base CM CJ CT := by
  refine ⟨f, fd, M, FnOk.either (ok_initJ F T D_told_images) (ok_initT F T D_told_images E_TooMany), hm, ?_⟩
  obtain ⟨ds, h1, h2⟩ := F.binds1 (ps := pI) 2 0 (fun z => nomatch z) rfl (fun T kV doc pm an cdv ct us its h1 h2 => match us, its, h1, h2 with | [_, _], [_], _, _ => ⟨_, rfl, rfl⟩)
  exact ⟨ds, h1, h2⟩
end
section
variable {X : Cx} {j : Nat} {CM CJ CT : Addr} {p pos : Pos} {e : Expr} {es : List Expr} {t : TA} {E : XK}
theorem pe_mkMJX (M : MkrMX X.prog X.w X.K X.mg X.base CM CJ CT) (hx : Passes (L2.CX X.prog X.w) X E) (hr : Room j X.A) (hj : 6 ≤ j) (hg : Gl X "Misreading") (ha : PA X (e :: es) t) (he : starEach (e :: es) X.env = (false, eval e X.env) :: starEach es X.env := by rfl) (hpl : (backTo pos (starEach es X.env)).any (·.1) = false := by rfl) :
    PE X (.Call (.Name "Misreading" p) (e :: es) [] pos) (tMkMJX CM CJ CT E t) := by
  obtain ⟨f, fd, M, F, hm, ds, hd, b1⟩ := M.ex
  refine ⟨fun pins s σ H Q I h => ?_⟩
  refine wpAny_Call_Name_kw (ld_glob I hg hm ?_ (by decide))
  refine PySem.W.callWith_K (h₀ := X.base) I.ok.mod.kin M.kp (thn (ha.run pos pins s σ H _ I h) fun us s1 ⟨vs, H1, I1, r, q⟩ => ⟨I1.kIn, ?_⟩) he hpl
  obtain ⟨j, dj, d, tb, rfl, hj1, hd1, q⟩ := q
  refine run_make M F (hr.mono hj) b1 hd hx I1 r fun x dx hx1 hdx ne => ?_
  have up : ∀ b o, H1 b = some o → upd (upd H1 dx (.own x)) x (.ins CM dx []) b = some o := fun b o eo => by
    rw [upd_ne (ne_of_none eo hx1), upd_ne (ne_of_none eo hdx)]
    exact eo
  rcases q with ⟨l12, q⟩ | ⟨l1, l2, q⟩
  · exact .inl ⟨x, dx, j, dj, d, tb, rfl, upd_same, up _ _ hj1, up _ _ hd1, l12, fun H' m fr => ⟨rfl, q x H' hx1 m.mis fun b o eo => fr b o (up _ _ eo) (ne_of_none eo hx1)⟩⟩
  · refine .inr ⟨x, dx, j, dj, d, tb, rfl, upd_same, up _ _ hj1, up _ _ hd1, l1, l2, fun d2 H' n2 sm h2 => q d2 H' ?_ (fun b o eo => sm b o (up _ _ eo)) h2⟩
    cases e2 : H1 d2 with
    | none => rfl
    | some o =>
      rw [up _ _ e2] at n2
      cases n2
end
end V8

set_option Elab.async false
set_option linter.all false
set_option maxRecDepth 100000
set_option maxHeartbeats 8000000
/-! one >> other, made or refused; powers, made or refused. -/
namespace V8
open PySem PySem.Spec PyProof.Rows L2
abbrev s_BadNumber_init : Stmt := inClass (topS 8) 0
abbrev n_BadNumber_init : List Str := ["self", "value"]
theorem sc_BadNumber_init : FnScope ["self", "value"] ["self", "value"] (defScope s_BadNumber_init) := ⟨rfl, rfl, rfl, by decide +kernel, rfl, by decide +kernel, by decide +kernel⟩
/-- the way out of BadTable("other") -/
def OutB (CB : Addr) (H : Hp) (E : XK) : Prop := ∀ d H', H d = none → Same H H' → H' d = some (.xd [("part", .str "other")]) → E (.ref CB) (some d) H'
/-- .. of BadNumber(i) -/
def OutN (CN : Addr) (H : Hp) (i : Int) (E : XK) : Prop := ∀ d H', H d = none → Same H H' → H' d = some (.xd [("value", .int i)]) → E (.ref CN) (some d) H'
/-- what comes of two, one behind the other one -/
def RshEnd (CM CT : Addr) (H : Hp) (f : Fu) (Q : VK) (E : XK) : Prop := (Bnd 64 f → Makes CM H f Q) ∧ (¬ Bnd 64 f → OutT CT H "image" 64 E)
def spRshX (K : PySem.W.Frag) (CM CB CT : Addr) : Sp := fun vs H Q E => ∃ (x : Addr) (y : V) (u : Tab), vs = [.ref x, y] ∧ MisAt CM H x u ∧ ((∃ z v cs, y = .ref z ∧ MisAt CM H z v ∧ Bnd 64 (lk u) ∧ Bnd 64 (lk v) ∧ Ovr cs (lk u) ∧ cs.length ≤ 12 ∧ RshEnd CM CT H (cF (lk u) (lk v)) Q E) ∨ (∃ t, TyX K H y t ∧ PySem.W.kitOne K t (.ref CM) = some false ∧ OutB CB H E))
section
variable {P : Program} {w : World} {K : PySem.W.Frag} {mg : Str → Option Value} {base : Heap} {CM CJ CB CT CN CR C : Addr}
theorem ok_BadNumber {f : Addr} {fd : FuncData} (F : Fun K "__init__" "BadNumber.__init__" s_BadNumber_init f fd) (T : Tb K mg CR) (D_copied : Df P w K mg base 1 "copied" (spCopied K)) : FnOk P w K mg base CX0 2 f fd ["self", "value"] (spErr1 K C "value") := by
  refine F.ok sc_BadNumber_init (fun vs H Q E h => ?_) (fun cdv A outer s H vs Q E hr h => ?_)
  · obtain ⟨a, x, t, r, rfl, _⟩ := h
    rfl
  · obtain ⟨a, x, t, r, rfl, ha, oc, no, rx, r8, ty, e1, e2, e3, q⟩ := h
    refine ⟨_, (pss_cons (ps_expr (pe_baseinit (by rfl) T.bE T.bR T.bV (pa_cons (pv 0) (pa_cons (pe_joinedT (pj_cons (pe_fmtR (pv 1)) (pj_cons pe_str pj_nil))) pa_nil))))
      (pss_one (ps_ost (pv 0) (pe_c D_copied hr (by decide) (by rfl) (pa_cons (pv 1) pa_nil)) rfl))), ?_⟩
    have hh : Str.empty.length ≤ 1000 := by decide +kernel
    have ht : (" is no number that can stand here" : Str).length ≤ 1000 := by decide +kernel
    rcases rx with ⟨y, rfl, rfl⟩ | ⟨i, rfl, hi, rfl⟩
    · refine ⟨_, rfl, _, rfl, .inl ⟨y, rfl, ?_, reprText y, rfl, ?_, _, rfl, ?_, a, C, _, rfl, (by show 1 ≤ 1000; decide), oc, ha, ?_⟩⟩
      · rw [sizeLine_eq]
        omega
      · rw [len_app, sizeLine_eq]
        omega
      · rw [len_app, len_app, sizeLine_eq]
        omega
      · exact ⟨_, rfl, _, t, rfl, ty, e1, e2, e3, _, rfl, a, C, rfl, oc, no, .inl ⟨ha, fun dx n ne => q dx n ne⟩⟩
    · refine ⟨_, rfl, _, rfl, .inr ⟨i, rfl, hi, toString i, rfl, ?_, _, rfl, ?_, a, C, _, rfl, (by show 1 ≤ 1000; decide), oc, ha, ?_⟩⟩
      · rw [len_app, sizeLine_eq]
        omega
      · rw [len_app, len_app, sizeLine_eq]
        omega
      · exact ⟨_, rfl, _, t, rfl, ty, e1, e2, e3, _, rfl, a, C, rfl, oc, no, .inl ⟨ha, fun dx n ne => q dx n ne⟩⟩
theorem ok_rshX {f : Addr} {fd : FuncData} (F : Fun K "__rshift__" "Misreading.__rshift__" s_Misreading_rshift f fd) (T : Tz K mg CM CJ) (D_check_other : DfX P w K mg base 4 "check_other" (spCheck K CM CB)) (D_first_barred : Mf P w K mg base 1 CM "first_barred" (spFB CM)) (D_image : Mf P w K mg base 1 CM "image" (spImg CM))
    (D_mkJ : MkrJ P w K mg base CJ) (D_mkMJX : MkrMX P w K mg base CM CJ CT) (E_TooMany : ErmT P w K mg base CT) : FnOk P w K mg base (L2.CX P w) 7 f fd ["self", "other"] (spRshX K CM CB CT) := by
  refine F.okX sc_Misreading_rshift (fun vs H Q E h => ?_) (fun cdv A outer s H vs Q E hr h => ?_)
  · obtain ⟨x, y, u, rfl, _⟩ := h
    rfl
  · obtain ⟨x, y, u, rfl, mx, h⟩ := h
    refine ⟨_, (pss_cons (ps_expr (pe_cX D_check_other (passTk (takes_of rfl rfl rfl rfl)) hr (by decide) (by rfl) (pa_cons (pv 1) pa_nil)))
      (pss_cons (ps_set (i := 2) sc_Misreading_rshift.nd rfl (.inl rfl) pe_dnewK)
      (pss_cons (ps_for (passes_of rfl) rfl (pi_tup (pe_fldK (K := K) rfl (pv 0) rfl)) (pg_name (i := 3) sc_Misreading_rshift.nd rfl (.inl rfl))
        (pss_cons (ps_set (i := 4) sc_Misreading_rshift.nd rfl (.inl rfl) (pe_dget (hu_of hr) (pe_fldK (K := K) rfl (pv 0) rfl) (pv 3) (fun _ _ => rfl)))
        (pss_one (ps_if (pt_cmpR op_isN (pe_mt T.cl D_first_barred hr (by decide) (pv 1) (pa_cons (pv 4) pa_nil)) pe_non (nomark _))
          (pss_cons (ps_dput (hu_of hr) (pv 2) (pv 3) (pe_mt T.cl D_image hr (by decide) (pv 1) (pa_cons (pv 4) pa_nil)) rfl)
          (pss_one (ps_if (pt_cmpR op_gt (pe_callB call_len_str (by rfl) T.len (by decide +kernel) (pa_cons (pe_dget (hu_of hr) (pv 2) (pv 3) (fun _ _ => rfl)) pa_nil)) (pe_gv T.gLONGEST_JOINED (by rfl)) (nomark _))
            (pss_one (ps_raise2 E_TooMany rfl (takes_of rfl rfl rfl rfl) hr (by decide) (by rfl) (pa_cons pe_str (pa_cons (pe_gv T.gLONGEST_JOINED (by rfl)) pa_nil))))
            pss_nil)))
          pss_nil))))
      (pss_one (ps_ret (pe_mkMJX D_mkMJX (passTk (takes_of rfl rfl rfl rfl)) hr (by decide) (by rfl) (pa_cons (pe_mkJ D_mkJ hr (by decide) (by rfl) (pa_cons (pv 2) pa_nil)) pa_nil))))))), ?_⟩
    rcases h with ⟨y, v, cs, rfl, my, bu, bv, ov, h12, qm, qt⟩ | ⟨t, ty, e, q⟩
    · have kl := keys_le ov
      obtain ⟨dx, a, b, c', hx, ha, hb, hc⟩ := id mx.at_
      refine ⟨_, rfl, _, rfl, .inl ⟨y, v, rfl, my, ?_⟩⟩
      refine fun D nD => ?_
      have s0 := same_put (s := Same.refl H) (o := .dK (encT [])) nD
      refine ⟨_, rfl, x, CM, dx, _, _, rfl, s0 _ _ hx, T.cl, T.nL, f3_L a b c', a, rfl, ⟨_, .inl (.inl (s0 _ _ ha))⟩, for_it (walk_tup (K := K) (a := a) (xs := lets (keysOf u))) (fun i σ H2 => (∃ v3 v4 : Option V, σ = [some (.ref x), some (.ref y), some (.ref D), v3, v4]) ∧ Same H H2 ∧ H2 D = some (.dK (encT (mkT (cF (lk u) (lk v)) ((keysOf u).take i)))) ∧ ∀ c ∈ (keysOf u).take i, ∀ s, cF (lk u) (lk v) c = some s → s.length ≤ 64) ⟨⟨none, none, rfl⟩, s0, upd_same, fun c h => by simp at h⟩ ?_ ?_ ?_⟩
      · rintro i σ H2 hi ⟨_, s2, _⟩
        exact .inl (.inl (s2 _ _ ha))
      · rintro i z σ H2 H2' hi ⟨⟨v3, v4, rfl⟩, s2, hD, le⟩ ⟨rfl, hz⟩
        obtain ⟨hik, rfl⟩ := lets_get hz
        have hm := List.getElem_mem hik
        obtain ⟨s, e2⟩ := Option.isSome_iff_exists.mp (keysOf_mem.mp hm).2
        have e3 : lk u (keysOf u)[i] = some s := by rw [← lk_look hm]; exact e2
        have s64 := bu _ _ e3
        have eT : (keysOf u).take (i + 1) = (keysOf u).take i ++ [(keysOf u)[i]] := by
          rw [List.take_add_one, List.getElem?_eq_getElem hik]
          rfl
        have more : (∀ s, cF (lk u) (lk v) (keysOf u)[i] = some s → s.length ≤ 64) → ∀ c ∈ (keysOf u).take (i + 1), ∀ s, cF (lk u) (lk v) c = some s → s.length ≤ 64 := fun h c hc => by
          rw [eT] at hc
          rcases List.mem_append.mp hc with z | z
          · exact le c z
          · rw [List.mem_singleton.mp z]
            exact h
        refine ⟨_, rfl, x, CM, dx, _, _, rfl, s2 _ _ hx, T.cl, T.nI, f3_I a b c', _, rfl, b, V.str (Sx s), rfl, .inl ⟨_, Sum.inr (L1 (keysOf u)[i]), .inl (s2 _ _ hb), rfl, by rw [valV_enc, look_ims_some hm, e2]; rfl⟩, ?_⟩
        obtain ⟨dy, a2, b2, c2, hy, ha2, hb2, hc2⟩ := id my.at_
        refine ⟨_, rfl, y, dy, _, rfl, s2 _ _ hy, f3_no (by decide +kernel) (by decide +kernel) (by decide +kernel), _, rfl, y, v, s, rfl, my.same s2, by omega, fun r H3 er s3 => ?_, fun k H3 hk en s3 => ?_⟩
        · -- the image is let, or too long
          have hn2 := mkT_snoc (cF (lk u) (lk v)) ((keysOf u).take i) (keysOf u)[i]
          have hcf : cF (lk u) (lk v) (keysOf u)[i] = some r := by
            show (lk u (keysOf u)[i]).bind (imF (lk v)) = some r
            rw [e3]
            exact er
          have rl : r.length ≤ 64 * s.length := imF_len bv er
          have rl2 : r.length ≤ 64 * 64 := Nat.le_trans rl (Nat.mul_le_mul_left _ s64)
          rw [hcf] at hn2
          refine ⟨rfl, true, rfl, iteT ?_⟩
          refine ⟨_, rfl, y, dy, _, rfl, s3 _ _ (s2 _ _ hy), f3_no (by decide +kernel) (by decide +kernel) (by decide +kernel), _, rfl, y, v, s, r, rfl, (my.same s2).same s3, bv, er, by omega, fun H4 s4 => ?_⟩
          have hD4 := s4 _ _ (s3 _ _ hD)
          have tl := mkT_len (cF (lk u) (lk v)) ((keysOf u).take i)
          rw [List.length_take] at tl
          refine ⟨_, rfl, _, rfl, D, _, rfl, DPut.k (k := Sum.inr (L1 (keysOf u)[i])) hD4 (by rw [encT_len]; exact small1000 (by omega)), ?_⟩
          have nk : (keysOf u)[i] ∉ (mkT (cF (lk u) (lk v)) ((keysOf u).take i)).map (·.1) := fun z => by
            have h1 := mkT_keys _ _ _ z
            have nd := keysOf_nd u
            rw [← List.take_append_drop (i + 1) (keysOf u), eT] at nd
            exact (List.nodup_append.mp (List.nodup_append.mp nd).1).2.2 _ h1 _ (by simp) rfl
          have ep : putK (encT (mkT (cF (lk u) (lk v)) ((keysOf u).take i))) (Sum.inr (L1 (keysOf u)[i])) (V.str (Sx r)) = encT (mkT (cF (lk u) (lk v)) ((keysOf u).take (i + 1))) := by
            rw [putK_enc, putT_new nk, eT, hn2]
          rw [ep]
          have s5 : Same H (upd H4 D (.dK (encT (mkT (cF (lk u) (lk v)) ((keysOf u).take (i + 1)))))) := same_over (s := fun b o e => s4 _ _ (s3 _ _ (s2 _ _ e))) nD
          have hD5 : upd H4 D (.dK (encT (mkT (cF (lk u) (lk v)) ((keysOf u).take (i + 1))))) D = some (.dK (encT (mkT (cF (lk u) (lk v)) ((keysOf u).take (i + 1))))) := upd_same
          have lkn : lookT (mkT (cF (lk u) (lk v)) ((keysOf u).take (i + 1))) (keysOf u)[i] = some r := by
            rw [eT, hn2, look_app nk, if_pos rfl]
          refine ⟨_, rfl, _, rfl, D, V.str (Sx r), rfl, .inl ⟨_, Sum.inr (L1 (keysOf u)[i]), .inl hD5, rfl, by rw [valV_enc, lkn]; rfl⟩, _, rfl, by rw [Sx_len, sizeLine_eq]; omega, _, _, rfl, rfl, _, rfl, ?_⟩
          rw [Sx_len]
          by_cases r64 : r.length ≤ 64
          · rw [decide_eq_false (by show ¬ ((64 : Int) < (r.length : Int)); omega)]
            refine iteF ⟨⟨_, _, rfl⟩, s5, hD5, more fun s' e' => ?_⟩
            rw [hcf] at e'
            cases Option.some.inj e'
            exact r64
          · rw [decide_eq_true (by show ((64 : Int) < (r.length : Int)); omega)]
            refine iteT ⟨by show 2 ≤ 1000; decide, fun an na => ?_⟩
            exact made2 E_TooMany.oc E_TooMany.n1 E_TooMany.n2 (by decide +kernel) (by decide) (by decide +kernel) (fun d2 H6 n2 s6 h2 => qt (fun hb => r64 (hb _ _ hcf)) d2 H6 (same_none (s := s5) n2) (fun b o e => s6 _ _ (s5 _ _ e)) h2) an na
        · -- it is barred
          have hcf : cF (lk u) (lk v) (keysOf u)[i] = none := by
            show (lk u (keysOf u)[i]).bind (imF (lk v)) = none
            rw [e3]
            exact en
          refine ⟨rfl, false, rfl, iteF ⟨⟨_, _, rfl⟩, fun b o e => s3 _ _ (s2 _ _ e), ?_, more fun s' e' => by rw [hcf] at e'; cases e'⟩⟩
          rw [eT]
          show H3 D = some (.dK (encT (mkT _ ((keysOf u).take i ++ [(keysOf u)[i]]))))
          rw [mkT_snoc, hcf]
          show H3 D = some (.dK (encT (mkT _ ((keysOf u).take i) ++ [])))
          rw [List.append_nil]
          exact s3 _ _ hD
      · rintro σ H2 ⟨⟨v3, v4, rfl⟩, s2, hD, le⟩
        rw [lets_len, List.take_length] at hD le
        have tl := mkT_len (cF (lk u) (lk v)) (keysOf u)
        have bc : Bnd 64 (cF (lk u) (lk v)) := fun c s e => le c (lk_mem.mpr (by
          have e' : (lk u c).bind (imF (lk v)) = some s := e
          cases z : lk u c with
          | none =>
            rw [z] at e'
            cases e'
          | some q => rfl)) s e
        refine ⟨_, rfl, D, rfl, fun j dj H3 nj hj s3 => ?_⟩
        refine ⟨j, dj, D, _, rfl, hj, s3 _ _ hD, .inl ⟨by omega, fun z H4 nz mz s4 => ?_⟩⟩
        refine qm bc z H4 _ (same_none (s := fun b o e => s3 _ _ (s2 _ _ e)) nz) mz (mkT_lk (keysOf_nd u) fun c s h => ?_) fun b o e => s4 _ _ (s3 _ _ (s2 _ _ e))
        have hm : c ∈ keysOf u := lk_mem.mpr (by
          have h' : (lk u c).bind (imF (lk v)) = some s := h
          cases e : lk u c with
          | none =>
            rw [e] at h'
            cases h'
          | some z => rfl)
        exact ⟨hm, keys_abc hm⟩
    · exact ⟨_, rfl, _, rfl, .inr ⟨t, ty, e, q⟩⟩
end
end V8

set_option Elab.async false
set_option linter.all false
set_option maxRecDepth 100000
set_option maxHeartbeats 4000000
/-! x op= b, b of a built-in type; x ** k that may raise. -/
namespace PySem.W
open PySem PySem.Spec PySem.Calls PyProof.Rows
section
variable {prog : Program} {w : World} {A : Around} {E : Value → Shared → Prop} {s : Shared} {K : Frag} {m : Str → Option Value} {h₀ : Heap} {L x y C f : Addr} {ox oy : Obj} {od od2 : Option Obj}
theorem in_any {op : Operator} {T : String} {b : Value} {fo ro rc : Option Value} {cd0 : ClassData} {Q : Value → Shared → Prop} (F : Fr h₀ L s.heap m) (X₀ : K.In h₀) (I : InstAt s.heap x ox C od) (hb : Looks (model prog w) s.heap (typeOf b) (.type T)) (hc : selfFirst K C = true) (hc0 : clsIn K C = some cd0) (hm0 : cd0.mro = [.ref C, .type "object"])
    (n1 : findIn K (.ref C) (dunderI op.info.2) = some none) (n2 : typeLookup (.type "object") (dunderI op.info.2) = pure none) (hs : findIn K (.ref C) (PySem.dunder op.info.2) = some (some (.ref f))) (hf : isFn K (.ref f) = true) (hr : findIn K (.ref C) (dunderR op.info.2) = some rc) (hp : rc = none ∨ ∃ g : Addr, rc = some (.ref g))
    (h1 : findIn K (.type T) (PySem.dunder op.info.2) = some fo) (h2 : findIn K (.type T) (dunderR op.info.2) = some ro) (hsub : subIn K (.type T) (.ref C) = some false) (h : wpAny (model prog w) A (call (.ref f) [.ref x, b]) (CmpBack Q) E s) :
    wpAny (model prog w) A (inplaceOp op (.ref x) b) Q E s := by
  have X := X₀.keeps F.keep
  obtain ⟨cd, more, e1, e2⟩ := ksp_first hc
  have ni := no_inplace (M := model prog w) (add := op == .Add) X hc0 hm0 n1 n2
  have go := ksp_try X I hs hf h
  have tx := I.type (M := model prog w)
  have lf := fills_K (M := model prog w) X e1 e2 hs
  have rf := ksp_fillsT (M := model prog w) X h1 h2
  have su := looks_subIn (M := model prog w) X hsub
  have py := ksp_inPy (M := model prog w) X hs hr hp
  have nopy : Looks (model prog w) s.heap (numberSlotInPython (.type T) op.info.2) false := Looks.of_pure rfl
  have rl := looks_findIn (M := model prog w) X h2
  have ne : (Value.ref C == Value.type T) = false := rfl
  obtain ⟨hh, g, d, tt, os⟩ := s
  unfold inplaceOp
  refine wpAny_holding (wpAny_bind (tx.at (wpAny_bind (ni.at ?_))))
  simp only [Bool.false_eq_true, if_false]
  refine wpAny_bind (m := binaryOp1 op.info.2 (.ref x) b) ?_
  unfold binaryOp1
  refine wpAny_bind (tx.at (wpAny_bind (hb.at (wpAny_bind (lf.at ?_)))))
  simp only [ne, Bool.false_eq_true, if_false]
  cases hri : ((fo.isSome && !isSeqSlot fo) || (ro.isSome && !isSeqSlot ro)) <;> rw [hri] at rf
  all_goals
    ksp_lk
    refine wpAny_mono go (fun r s' z => ?_) fun _ _ e => e
    obtain ⟨v, rfl, q⟩ := z
    ksp_lk
    exact q
end
end PySem.W
namespace L2
open PySem PySem.Spec PyProof.Rows
theorem no_irshift : typeLookup (.type "object") (PySem.dunderI (Operator.info .RShift).2) = pure none := by
  rw [typeLookup_type, builtinLookup_eq_fast]
  kernel_rfl
theorem no_ipow : typeLookup (.type "object") (PySem.dunderI (Operator.info .Pow).2) = pure none := by
  rw [typeLookup_type, builtinLookup_eq_fast]
  kernel_rfl
section
variable {X : Cx} {n : Nat} {CX : CXT} {C f : Addr} {fd : FuncData} {ps : List Str} {sp : Sp} {E : XK}
theorem op_powX0 (F : FnOk X.prog X.w X.K X.mg X.base CX n f fd ps sp) (hb : Binds X.K fd ps []) (hx : Passes CX X E) (h1 : PySem.W.findIn X.K (.ref C) (PySem.dunder (Operator.info .Pow).2) = some (some (.ref f))) (h2 : PySem.W.isFn X.K (.ref f) = true) (h3 : PySem.W.selfFirst X.K C = true) (ip : IntP X.K C) (hr : Room n X.A) : OpR X (binaryOp .Pow) (rPowOwn X.K C sp E) := by
  intro pins s σ H x y v u Q I rx ry h
  obtain ⟨a, dx, fs, i, rfl, ha, rfl, hsp⟩ := h
  obtain rfl : v = Value.ref a := rx
  obtain ⟨od, J⟩ := inst_at I ha
  obtain ⟨m, hF⟩ := I.fr
  obtain ⟨fo, e1⟩ := ip.h1
  obtain ⟨ro, e2⟩ := ip.h2
  have hb2 : typeOf u = pure (.type "int") := by
    obtain ⟨t, rfl⟩ := (show ∃ t, u = Value.int i t from ry)
    rfl
  refine PySem.W.ksp_binT hF I.ok.mod.kin J hb2 h3 h1 h2 ip.rp (.inl rfl) e1 e2 ip.sub (thn (run_own (Sub.here hr) F hb hx I (show Vals [V.ref a, V.int i] [Value.ref a, u] from .cons rfl (.cons ry .nil)) hsp) fun r s' q => ?_)
  obtain ⟨z, H', I', rz, q⟩ := q
  exact notNI rz ⟨z, H', I', rz, q⟩
theorem op_inPow {cd : ClassData} (F : FnOk X.prog X.w X.K X.mg X.base CX n f fd ps sp) (hb : Binds X.K fd ps []) (hx : Passes CX X E) (h1 : PySem.W.findIn X.K (.ref C) (PySem.dunder (Operator.info .Pow).2) = some (some (.ref f))) (h2 : PySem.W.isFn X.K (.ref f) = true) (h3 : PySem.W.selfFirst X.K C = true) (hc : PySem.W.clsIn X.K C = some cd) (hm : cd.mro = [.ref C, .type "object"])
    (n1 : PySem.W.findIn X.K (.ref C) (PySem.dunderI (Operator.info .Pow).2) = some none) (ip : IntP X.K C) (hr : Room n X.A) : OpR X (inplaceOp .Pow) (rPowOwn X.K C sp E) := by
  intro pins s σ H x y v u Q I rx ry h
  obtain ⟨a, dx, fs, i, rfl, ha, rfl, hsp⟩ := h
  obtain rfl : v = Value.ref a := rx
  obtain ⟨od, J⟩ := inst_at I ha
  obtain ⟨m, hF⟩ := I.fr
  obtain ⟨fo, e1⟩ := ip.h1
  obtain ⟨ro, e2⟩ := ip.h2
  have hb2 : typeOf u = pure (.type "int") := by
    obtain ⟨t, rfl⟩ := (show ∃ t, u = Value.int i t from ry)
    rfl
  refine PySem.W.in_any hF I.ok.mod.kin J (.of_pure hb2) h3 hc hm n1 no_ipow h1 h2 ip.rp (.inl rfl) e1 e2 ip.sub (thn (run_own (Sub.here hr) F hb hx I (show Vals [V.ref a, V.int i] [Value.ref a, u] from .cons rfl (.cons ry .nil)) hsp) fun r s' q => ?_)
  obtain ⟨z, H', I', rz, q⟩ := q
  exact notNI rz ⟨z, H', I', rz, q⟩
end
end L2

set_option Elab.async false
set_option linter.all false
set_option maxRecDepth 100000
set_option maxHeartbeats 8000000
/-! one ** k, made or refused. -/
namespace V8
open PySem PySem.Spec PyProof.Rows L2
section
variable {X : Cx} {K : PySem.W.Frag} {k j : Nat} {C : Addr} {sp : Sp} {E : XK}
theorem op_powX (hK : X.K = K) (c : BoX X.prog X.w X.K X.mg X.base k C "__pow__" sp) (ip : IntP X.K C) (hx : Passes (L2.CX X.prog X.w) X E) (hr : Room j X.A) (hk : k ≤ j) : OpR X (binaryOp .Pow) (rPowOwn K C sp E) := by
  subst hK
  obtain ⟨f, fd, ps, F, b, h1, h2, h3⟩ := c.ex
  exact op_powX0 F b hx h1 h2 h3 ip (hr.mono hk)
theorem op_binXK {op : Operator} {m : Str} (hK : X.K = K) (c : BoX X.prog X.w X.K X.mg X.base k C m sp) (hx : Passes (L2.CX X.prog X.w) X E) (hr : Room j X.A) (hk : k ≤ j) (hm : PySem.dunder op.info.2 = m := by rfl) : OpR X (binaryOp op) (rBinOwn K C sp E) := by
  subst hK
  exact op_binX c hx hr hk hm
theorem op_anyXK {op : Operator} {m : Str} (hK : X.K = K) (c : BoX X.prog X.w X.K X.mg X.base k C m sp) (hx : Passes (L2.CX X.prog X.w) X E) (hn : PySem.W.findIn X.K (.ref C) (PySem.dunderR op.info.2) = some none) (hr : Room j X.A) (hk : k ≤ j) (hm : PySem.dunder op.info.2 = m := by rfl) : OpR X (binaryOp op) (rBinAny K C op.info.2 sp E) := by
  subst hK
  exact op_anyX c hx hn hr hk hm
/-- what signs in place ask of the class -/
structure NoIs (K : PySem.W.Frag) (C : Addr) : Prop where
  ex : ∃ cd, PySem.W.clsIn K C = some cd ∧ cd.mro = [.ref C, .type "object"]
  n1 : PySem.W.findIn K (.ref C) "__irshift__" = some none
  n2 : PySem.W.findIn K (.ref C) "__ipow__" = some none
theorem ip_rshX (hK : X.K = K) (c : BoX X.prog X.w X.K X.mg X.base k C "__rshift__" sp) (hx : Passes (L2.CX X.prog X.w) X E) (ni : NoIs X.K C) (hr : Room j X.A) (hk : k ≤ j) : PIp X .RShift (rBinOwn K C sp E) := by
  subst hK
  obtain ⟨f, fd, ps, F, b, h1, h2, h3⟩ := c.ex
  obtain ⟨cd, e1, e2⟩ := ni.ex
  intro pins s σ H x y v u Q I r1 r2 h
  exact op_inOwnP (op := .RShift) F b hx h1 h2 e1 e2 ni.n1 no_irshift (hr.mono hk) pins s σ H x y v u Q I r1 r2 h
theorem ip_powX (hK : X.K = K) (c : BoX X.prog X.w X.K X.mg X.base k C "__pow__" sp) (ip : IntP X.K C) (hx : Passes (L2.CX X.prog X.w) X E) (ni : NoIs X.K C) (hr : Room j X.A) (hk : k ≤ j) : PIp X .Pow (rPowOwn K C sp E) := by
  subst hK
  obtain ⟨f, fd, ps, F, b, h1, h2, h3⟩ := c.ex
  obtain ⟨cd, e1, e2⟩ := ni.ex
  intro pins s σ H x y v u Q I r1 r2 h
  exact op_inPow F b hx h1 h2 h3 e1 e2 ni.n2 ip (hr.mono hk) pins s σ H x y v u Q I r1 r2 h
end
def spBtwB : Sp := fun vs H Q _ => ∃ i a b : Int, vs = [.int i, .int a, .int b] ∧ Q (.bl (decide (a ≤ i ∧ i ≤ b))) H
/-- what comes of a power -/
def PowEnd (CM CT : Addr) (H : Hp) (f : Fu) (k : Nat) (Q : VK) (E : XK) : Prop := ((∀ j, j ≤ k → Bnd 64 (pF f j)) → Gives CM H (pF f k) Q) ∧ (¬ (∀ j, j ≤ k → Bnd 64 (pF f j)) → OutT CT H "image" 64 E)
def spPowX (CM CT CN : Addr) : Sp := fun vs H Q E => ∃ (x : Addr) (i : Int) (u : Tab) (cs : List Nat), vs = [.ref x, .int i] ∧ MisAt CM H x u ∧ ((∃ k : Nat, i = ((k + 1 : Nat) : Int) ∧ k ≤ 98 ∧ Bnd 64 (lk u) ∧ Ovr cs (lk u) ∧ cs.length ≤ 12 ∧ PowEnd CM CT H (lk u) k Q E) ∨ (i = 0 ∧ OutN CN H i E))
section
variable {P : Program} {w : World} {K : PySem.W.Frag} {mg : Str → Option Value} {base : Heap} {CM CJ CB CT CN CR C : Addr}
theorem ok_btwB {f : Addr} {fd : FuncData} (F : Fun K "is_between" "is_between" s_is_between f fd) (T : Tz K mg CM CJ) (D_is_integer : Df P w K mg base 1 "is_integer" spInt) : FnOk P w K mg base CX0 2 f fd ["value", "least", "most"] spBtwB := by
  refine F.ok sc_is_between (fun vs H Q E h => ?_) (fun cdv A outer s H vs Q E hr h => ?_)
  · obtain ⟨i, a, b, rfl, _⟩ := h
    rfl
  · obtain ⟨i, a, b, rfl, q⟩ := h
    refine ⟨_, (pss_one (ps_ret (pe_and (pe_c D_is_integer hr (by decide) (by rfl) (pa_cons (pv 0) pa_nil)) (pe_one (pe_chain op_le op_le (pv 1) (pv 0) (pv 2)))))), ?_⟩
    refine ⟨_, rfl, i, rfl, true, rfl, iteT ?_⟩
    by_cases ha : a ≤ i
    · refine ⟨_, rfl, _, rfl, _, _, rfl, rfl, true, dec_t ha, ?_⟩
      refine ⟨_, rfl, _, _, rfl, rfl, ?_⟩
      show Q (V.bl (decide (i ≤ b))) H
      have e : decide (i ≤ b) = decide (a ≤ i ∧ i ≤ b) := by
        by_cases hb : i ≤ b
        · rw [decide_eq_true hb, decide_eq_true ⟨ha, hb⟩]
        · rw [decide_eq_false hb, decide_eq_false fun z => hb z.2]
      rw [e]
      exact q
    · refine ⟨_, rfl, _, rfl, _, _, rfl, rfl, false, ?_, ?_⟩
      · show V.bl (decide (a ≤ i)) = _
        rw [decide_eq_false ha]
      · show Q (V.bl false) H
        rw [← show decide (a ≤ i ∧ i ≤ b) = false from decide_eq_false fun z => ha z.1]
        exact q
theorem ok_powX {f : Addr} {fd : FuncData} (F : Fun K "__pow__" "Misreading.__pow__" s_Misreading_pow f fd) (T : Tz K mg CM CJ) (D_is_between : Df P w K mg base 2 "is_between" spBtwB) (D_rshift : BoX P w K mg base 7 CM "__rshift__" (spRshX K CM CB CT)) (E_BadNumber : Erm P w K mg base "BadNumber" "value" CN) : FnOk P w K mg base (L2.CX P w) 8 f fd ["self", "other"] (spPowX CM CT CN) := by
  refine F.okX sc_Misreading_pow (fun vs H Q E h => ?_) (fun cdv A outer s H vs Q E hr h => ?_)
  · obtain ⟨x, i, u, cs, rfl, _⟩ := h
    rfl
  · obtain ⟨x, i, u, cs, rfl, mx, h⟩ := h
    refine ⟨_, (pss_cons (ps_if (pt_not (pt_val (pe_c D_is_between hr (by decide) (by rfl) (pa_cons (pv 1) (pa_cons pe_int (pa_cons pe_int pa_nil))))))
        (pss_one (ps_raise1 E_BadNumber rfl (takes_of rfl rfl rfl rfl) hr (by decide) (by rfl) (pa_cons (pv 1) pa_nil)))
        pss_nil)
      (pss_cons (ps_set (i := 2) sc_Misreading_pow.nd rfl (.inl rfl) (pv 0))
      (pss_cons (ps_for (passes_of rfl) rfl (pi_range1 (by rfl) T.range (pa_cons (pe_op op_sub (pv 1) pe_int) pa_nil)) (pg_name (i := 3) sc_Misreading_pow.nd rfl (.inl rfl))
        (pss_one (ps_set (i := 2) sc_Misreading_pow.nd rfl (.inl rfl) (pe_op (op_binXK (K := K) rfl D_rshift (passTk (takes_of rfl rfl rfl rfl)) hr (by decide)) (pv 2) (pv 0)))))
      (pss_one (ps_ret (pv 2)))))), ?_⟩
    rcases h with ⟨k, rfl, k98, bu, ou, h12, qm, qt⟩ | ⟨rfl, q⟩
    · refine ⟨_, rfl, _, 1, 99, rfl, true, ?_, iteF ?_⟩
      · rw [decide_eq_true (by omega)]
      refine ⟨_, rfl, ?_⟩
      refine ⟨_, rfl, _, _, rfl, rfl, k, ?_, by omega, by omega, for_it (walk_range (lo := 0) (n := k)) (fun i σ H2 => (∃ (m : Addr) (t : Tab) (v3 : Option V), σ = [some (.ref x), some (.int ((k + 1 : Nat) : Int)), some (.ref m), v3] ∧ MisAt CM H2 m t ∧ lk t = pF (lk u) i) ∧ Same H H2 ∧ ∀ j, j ≤ i → Bnd 64 (pF (lk u) j)) ⟨⟨x, u, none, rfl, mx, rfl⟩, Same.refl H, fun j hj => ?_⟩ (fun _ _ _ _ _ => trivial) ?_ ?_⟩
      · have e : ((k + 1 : Nat) : Int) - 1 = (k : Int) := by omega
        show [V.int (((k + 1 : Nat) : Int) - 1)] = [V.int (k : Int)]
        rw [e]
      · obtain rfl : j = 0 := by omega
        exact bu
      · rintro i z σ H2 H2' hi ⟨⟨m, t, v3, rfl, mt, et⟩, s2, le⟩ ⟨rfl, rfl⟩
        obtain ⟨dm, am, bm, cm, hm, _⟩ := id mt.at_
        obtain ⟨dx, a, b, c', hx, ha, hb, hc⟩ := id (mx.same s2).at_
        refine ⟨_, rfl, _, rfl, m, dm, _, x, dx, _, rfl, hm, rfl, hx, m, _, t, rfl, mt, .inl ⟨x, u, cs, rfl, mx.same s2, ?_, bu, ?_, h12, fun hb1 z H3 t3 nz mz ez s3 => ?_, fun nb => ?_⟩⟩
        · rw [et]
          exact le i (Nat.le_refl _)
        · rw [et]
          exact ou.pow i
        · refine ⟨⟨z, t3, _, rfl, mz, ?_⟩, fun b o e => s3 _ _ (s2 _ _ e), fun j hj => ?_⟩
          · rw [ez, et]
            rfl
          · rw [et] at hb1
            by_cases hji : j ≤ i
            · exact le j hji
            · obtain rfl : j = i + 1 := by omega
              exact hb1
        · rw [et] at nb
          have := qt fun z => nb (z (i + 1) (by omega))
          exact fun d H' n s h => this d H' (same_none (s := s2) n) (fun b o e => s _ _ (s2 _ _ e)) h
      · rintro σ H2 ⟨⟨m, t, v3, rfl, mt, et⟩, s2, le⟩
        exact ⟨_, rfl, qm le m H2 t mt et s2⟩
    · refine ⟨_, rfl, _, 1, 99, rfl, false, rfl, iteT ?_⟩
      refine ⟨_, rfl, by show 1 ≤ 1000; decide, fun an na => ?_⟩
      exact made1 E_BadNumber.oc E_BadNumber.no (.inr ⟨0, rfl, by decide, rfl⟩) (by decide +kernel) (fun _ _ => .base (.int 0)) (kit_ty (by decide +kernel)) (kit_ty (by decide +kernel)) (kit_ty (by decide +kernel)) q an na
end
end V8

set_option Elab.async false
set_option linter.all false
set_option maxRecDepth 100000
set_option maxHeartbeats 4000000
/-! A classmethod called by the class's name, with keywords. -/
namespace L2
open PySem PySem.Spec PyProof.Rows ClX
section
variable {X : Cx} {CX : CXT} {k : Nat} {C p g f : Addr} {mc : Value} {sp : Sp} {E : XK} {o : Expr} {kws : List Keyword} {m : Str} {pos apos : Pos} {ta : TE} {tk : TA} {pl : Sem Bool} {fd : FuncData} {ps ks : List Str} {gg : List Value → List Value → List Value} {gV : List V → List V → List V}
theorem run_fnkC {pins : List (Addr × Obj)} {σ : L2.St} {H : Hp} {s : Shared} {Q : VK} {us ws : List Value} {vs zs : List V} (F : FnOk X.prog X.w X.K X.mg X.base CX k f fd ps sp) (hr : Room k X.A) (hb : KBinds X.K fd ps ks gg gV) (hx : Passes CX X E)
    (I : Inv X pins σ H s) (r : Vals vs us) (rz : Vals zs ws) (h : sp (gV vs zs) H Q E) : codeAny (model X.prog X.w) X.A (.call (.ref f) ⟨us, ks.zip ws⟩) (fun r s' => match r with | .ok (.ret v) => EP X pins σ Q v s' | .ok _ => False | .error e => X.xe e s') s := by
  have r2 := hb.rel r rz
  have hl : (gg us ws).length = ps.length := by rw [← r2.length]; exact F.len _ _ _ _ h
  refine codeAny_mono (F.run X.A X.stack s H ⟨us, ks.zip ws⟩ (gg us ws) (gV vs zs) Q E hr I.env0 (hb.to s us ws I.kIn hl) r2 h) fun r s' hq => ?_
  cases r with
  | error e => exact hx pins σ H s e s' I hq
  | ok fl =>
    cases fl with
    | ret u => exact I.after hq
    | next => exact False.elim hq
    | brk => exact False.elim hq
    | cont => exact False.elim hq
def tCMethK (C : Addr) (sp : Sp) (gV : List V → List V → List V) (E : XK) (ta : TE) (tk : TA) : TE := fun σ H Q => ta σ H fun x H1 => x = .ref C ∧ tk σ H1 fun zs H2 => sp (gV [.ref C] zs) H2 Q E
theorem pe_cmethK (he : PE X o ta) (r : CRead X.K C mc) (c : CMet X.K C mc m p g) (F : FnOk X.prog X.w X.K X.mg X.base CX k g fd ps sp) (hr : Room k X.A) (hb : KBinds X.K fd ps ks gg gV) (hx : Passes CX X E) (hkw : PK X kws tk)
    (hall : (backToKw pos (keywordEach kws X.env)).all (·.1.isSome) = true := by rfl) (hks : (backToKw pos (keywordEach kws X.env)).filterMap (·.1) = ks := by rfl)
    (hpl : ((backTo pos (starEach [] X.env)).any (·.1) || (backToKw pos (keywordEach kws X.env)).any (·.1.isNone)) = false := by rfl)
    (ht : eval (.Call (.Attribute o m apos) [] kws pos) X.env = (do
      let ov ← eval o X.env
      standAt apos.atName
      let (f, first) ← holding [ov] (getMethod ov m pl)
      callWith pos f first (backTo pos (starEach [] X.env)) (backToKw pos (keywordEach kws X.env))) := by rfl) :
    PE X (.Call (.Attribute o m apos) [] kws pos) (tCMethK C sp gV E ta tk) := by
  refine ⟨fun pins s σ H Q I h => ?_⟩
  refine PySem.W.methodCall_KW (pl := pl) (thn (he.run pins s σ H _ I h) fun u s1 ⟨x, H1, I1, rx, ex, q⟩ => ?_) ht
  subst ex
  obtain rfl : u = Value.ref C := rx
  refine getmethcm_ok I1 r c fun s2 I2 => ?_
  refine PySem.W.callWith_of hpl (PySem.W.keeps_M (K := X.K) (self := .ref C) c.fi) (PyProof.Rows.evalArgs_kw2_nil hall (thn (hkw.run pos _ s2 σ H1 _ I2 q) fun ws s3 ⟨zs, H2, I3, rz, q2⟩ => ⟨⟨pin_at I3, I3.kIn⟩, ?_⟩))
  rw [hks]
  have z : wpAny (model X.prog X.w) X.A (call (.ref s1.heap.objs.size) ([] ++ []) (ks.zip ws)) (EP X ((s1.heap.objs.size, PySem.W.methodObj (.ref g) (.ref C)) :: pins) σ Q) X.xe s3 :=
    wpAny_call (PySem.W.method_call (pin_at I3) (run_fnkC (us := [.ref C]) (vs := [.ref C]) F hr hb hx I3 (.cons rfl .nil) rz q2))
  exact thn z fun _ _ y => unpinE y
end
end L2

set_option Elab.async false
set_option linter.all false
set_option maxRecDepth 100000
set_option maxHeartbeats 4000000
/-! Lambdas as values: made, kept in lists, called later by a def that gets them. -/
namespace LamX
open PySem PySem.Spec PyProof.Rows L2
/-- the object at f is known -/
def FnO (f : Addr) (o : Obj) : HO := .ext fun h => h.get? f = some o
/-- the object that a lambda of X makes -/
abbrev lamObj (X : Cx) (params : Arguments) (body : Expr) (scope : Scope) (pm ctv : Value) (c' : Addr) : Obj :=
  PySem.W.kla_obj "<lambda>" (X.env.qual ++ "<lambda>") params body scope (cloFrom X.env.cells scope.names []) pm c' ctv
/-- at f stands a lambda of X -/
def LamO (X : Cx) (H : Hp) (f : Addr) (params : Arguments) (body : Expr) (scope : Scope) : Prop :=
  ∃ (c' : Addr) (pm ctv : Value), H f = some (FnO f (lamObj X params body scope pm ctv c')) ∧ H c' = some (CodeO c' (X.env.qual ++ "<lambda>"))
theorem fnO_ne {f : Addr} {o : Obj} (ps : Array Value) : FnO f o ≠ .tbl ps := fun z => by
  unfold FnO at z
  cases z
theorem LamO.ext {X : Cx} {H H' : Hp} {f : Addr} {params : Arguments} {body : Expr} {scope : Scope} (l : LamO X H f params body scope) (e : ExtN H H') : LamO X H' f params body scope := by
  obtain ⟨c', pm, ctv, h1, h2⟩ := l
  exact ⟨c', pm, ctv, e _ _ h1 fnO_ne, e _ _ h2 codeO_ne⟩
theorem fnO_ok {P : Program} {w : World} {H : Hp} {h : Heap} {f : Addr} {o : Obj} (e : h.get? f = some o) : ObjOk P w H h f (FnO f o) :=
  ⟨e, ⟨o, e⟩, fun _ _ p k => k _ p⟩
section
variable {X : Cx} {pins : List (Addr × Obj)} {σ : L2.St} {H : Hp} {s : Shared}
/-- a lambda is made, and its object is known from now on -/
theorem lam_made {T : List (Addr × Str)} {c P : Addr} {params : Arguments} {body : Expr} {scope : Scope} {pos : Pos} {E : Value → Shared → Prop} {Q : Value → Shared → Prop} (I : Inv X pins σ H s) (TB : TabB X.base X.mg c P) (hcode : X.env.code = .ref c)
    (hm : (P, X.env.qual ++ "<lambda>") ∈ T) (hu : ∀ p ∈ T, p.1 = P → p.2 = X.env.qual ++ "<lambda>") (hT : Tabs T H) (hdef : defaultsOf params X.env = ([], []))
    (hfree : ∀ y ∈ scope.names, y.2 = .free → ∃ c, X.env.cells.lookup y.1 = some c)
    (k : ∀ (f : Addr) (H1 : Hp) (s' : Shared), Inv X pins σ H1 s' → ExtN H H1 → Tabs T H1 → H f = none → LamO X H1 f params body scope → Q (.ref f) s') :
    wpAny (model X.prog X.w) X.A (eval (.Lambda params body scope pos) X.env) Q E s := by
  have here := hT _ hm
  obtain ⟨ps, hP, trip, among⟩ := here
  have oP : s.heap.get? P = some { cls := .none, data := .fields ps } := I.hok P _ hP
  have gl := I.mod.glob.keeps I.bk
  have cd := TB.code.keeps I.bk
  have bP := TB.bm.keeps I.bk
  refine PySem.W.kla_eval hdef ?_
  cases hc : codeAmong pos ps.toList with
  | some cv =>
    obtain ⟨c1, rfl, known⟩ := among pos cv hc
    refine PySem.W.kla_makeFunctionHit (mg := X.mg) (c := c) (P := P) (ps := ps) (closure_ok hfree) I.ok.glob gl hcode cd oP trip hc bP fun ctv h1 tk hx hsz => ?_
    have J : Inv X pins σ H { s with heap := h1, toks := tk } := I.kept fun b o e => hx b o e
    have new : H h1.objs.size = none := I.hok.fresh hsz
    have J2 := J.laid (a := h1.objs.size) (t' := tk) (h' := h1.push (lamObj X params body scope ((X.mg "__name__").getD .none) ctv c1)) (o := FnO h1.objs.size (lamObj X params body scope ((X.mg "__name__").getD .none) ctv c1))
      (fun b u e => Heap.get?_push_of_some _ e) (Nat.le_refl _) (fnO_ok (Heap.get?_push_size _ rfl))
    have eN : ExtN H (upd H h1.objs.size (FnO h1.objs.size (lamObj X params body scope ((X.mg "__name__").getD .none) ctv c1))) := fun b o e _ => by
      rw [upd_ne (ne_of_none e new)]
      exact e
    exact k _ _ _ J2 eN (hT.ext fun b o e => by rw [upd_ne (ne_of_none e new)]; exact e) new ⟨c1, _, _, upd_same, eN _ _ known codeO_ne⟩
  | none =>
    refine PySem.W.kla_makeFunction (mg := X.mg) (c := c) (P := P) (ps := ps) (closure_ok hfree) I.ok.glob gl hcode cd oP trip hc TB.gP bP fun c1 ctv h1 tk hx hge hlt hrec htb => ?_
    obtain ⟨c2, oc, vs, t, e2, hoc, hd, hv⟩ := hrec
    cases e2
    have nC : H c1 = none := I.hok.fresh hge
    have J := inv_table (t' := tk) (more := #[rawInt pos.line, rawInt pos.col, .ref c1]) (h' := h1) I hP hx htb hge ⟨oc, vs, t, hoc, hd, hv⟩
    have hsz : s.heap.objs.size ≤ h1.objs.size := Nat.le_trans hge (Nat.le_of_lt hlt)
    have new0 : H h1.objs.size = none := I.hok.fresh hsz
    have new : upd (upd H P (.tbl (ps ++ #[rawInt pos.line, rawInt pos.col, .ref c1]))) c1 (CodeO c1 (X.env.qual ++ "<lambda>")) h1.objs.size = none := J.hok.fresh (Nat.le_refl _)
    have J2 := J.laid (a := h1.objs.size) (t' := tk) (h' := h1.push (lamObj X params body scope ((X.mg "__name__").getD .none) ctv c1)) (o := FnO h1.objs.size (lamObj X params body scope ((X.mg "__name__").getD .none) ctv c1))
      (fun b u e => Heap.get?_push_of_some _ e) (Nat.le_refl _) (fnO_ok (Heap.get?_push_size _ rfl))
    have eA : ExtN H (upd (upd H P (.tbl (ps ++ #[rawInt pos.line, rawInt pos.col, .ref c1]))) c1 (CodeO c1 (X.env.qual ++ "<lambda>"))) := fun b o e n => by
      have h1 : b ≠ P := fun z => by
        rw [z, hP] at e
        exact n ps (Option.some.inj e).symm
      rw [upd_ne (ne_of_none e nC), upd_ne h1]
      exact e
    have known : upd (upd H P (.tbl (ps ++ #[rawInt pos.line, rawInt pos.col, .ref c1]))) c1 (CodeO c1 (X.env.qual ++ "<lambda>")) c1 = some (CodeO c1 (X.env.qual ++ "<lambda>")) := upd_same
    have tA : Tabs T (upd (upd H P (.tbl (ps ++ #[rawInt pos.line, rawInt pos.col, .ref c1]))) c1 (CodeO c1 (X.env.qual ++ "<lambda>"))) := fun p hp => by
      by_cases hb : p.1 = P
      · rw [hu p hp hb, hb]
        refine ⟨ps ++ #[rawInt pos.line, rawInt pos.col, .ref c1], by rw [upd_ne (ne_of_none hP nC), upd_same], ?_, fun p2 cv hcv => ?_⟩
        · rw [Array.toList_append]
          exact PySem.TriplesOk_snoc _ _ _ _ trip
        · rw [Array.toList_append] at hcv
          rcases among_app _ trip hcv with z | z
          · obtain ⟨c0, e1, e3⟩ := among p2 cv z
            exact ⟨c0, e1, eA _ _ e3 codeO_ne⟩
          · exact ⟨c1, z, known⟩
      · obtain ⟨qs, a1, a2, a3⟩ := hT p hp
        refine ⟨qs, by rw [upd_ne (ne_of_none a1 nC), upd_ne hb]; exact a1, a2, fun p2 cv hcv => ?_⟩
        obtain ⟨c0, e1, e3⟩ := a3 p2 cv hcv
        exact ⟨c0, e1, eA _ _ e3 codeO_ne⟩
    generalize upd (upd H P (.tbl (ps ++ #[rawInt pos.line, rawInt pos.col, .ref c1]))) c1 (CodeO c1 (X.env.qual ++ "<lambda>")) = HA at J J2 new eA known tA
    have st : ∀ b o, HA b = some o → upd HA h1.objs.size (FnO h1.objs.size (lamObj X params body scope ((X.mg "__name__").getD .none) ctv c1)) b = some o := fun b o e => by
      rw [upd_ne (ne_of_none e new)]
      exact e
    exact k _ _ _ J2 (eA.trans (ExtN.of st)) (tA.ext st) new0 ⟨c1, _, _, upd_same, st _ _ known⟩
/-- a lambda as a value -/
theorem pe_lamV {T : List (Addr × Str)} {c P : Addr} {params : Arguments} {body : Expr} {scope : Scope} {pos : Pos} (TB : TabB X.base X.mg c P) (hcode : X.env.code = .ref c) (hm : (P, X.env.qual ++ "<lambda>") ∈ T)
    (hu : ∀ p ∈ T, p.1 = P → p.2 = X.env.qual ++ "<lambda>") (L : LamS X.env.scope scope) (hdef : defaultsOf params X.env = ([], [])) :
    PE X (.Lambda params body scope pos) (fun _ H Q => Tabs T H ∧ ∀ f H1, ExtN H H1 → Tabs T H1 → H f = none → LamO X H1 f params body scope → Q (.ref f) H1) := by
  refine ⟨fun pins s σ H Q I h => ?_⟩
  obtain ⟨hT, h⟩ := h
  exact lam_made I TB hcode hm hu hT hdef (L.has I.ok) fun f H1 s' J eN tA nf l => ⟨.ref f, H1, J, rfl, h f H1 eN tA nf l⟩
end
end LamX

set_option Elab.async false
set_option linter.all false
set_option maxRecDepth 100000
set_option maxHeartbeats 4000000
/-! A def that calls what it got, where what it got is a lambda kept before. -/
namespace LamX
open PySem PySem.Spec PyProof.Rows L2
/-- what a lambda of X must be -/
structure LamOk (X : Cx) (k : Nat) (params : Arguments) (body : Expr) (scope : Scope) (t : XK → TE) : Prop where
  own : LamS X.env.scope scope
  bind : ∀ (q : Str) (cl : List (Str × Addr)) (pm cv ctv : Value), bindArgs (PySem.W.kla_fn "<lambda>" q params body scope cl pm cv ctv) ⟨[], []⟩ = pure []
  reads : ∀ (A : Around) (outer : List Env) (s : Shared) (H : Hp) (E : XK) (f c' : Addr), Room k (A.deeper (lamEnv X scope s.heap.objs.size f c')) → PE (lamCx X A outer s H E scope f c') body (t E)
/-- a def x(a) that calls a: f stands for what it got, Kn is what is known of f -/
def GivesK (X : Cx) (Ng : List Str) (x : Str) (sg : Scope) (g : Addr) (cdg : Value) (bg : List Stmt) (a : Str) (TT : (XK → Hp → VK → Prop) → Hp → VK → Prop) : Prop :=
  ∀ (f : Addr) (Kn : Hp → Prop) (s : Shared) (H : Hp) (Q : VK) (tl : XK → Hp → VK → Prop), (∀ H H' : Hp, Kn H → (∀ b o, H b = some o → H' b = some o) → Kn H') →
    (∀ (W : WX) (pn : List (Addr × Obj)) (xe : Value → Shared → Prop) (E : XK) (p1 p2 : Pos), Takes ((cxOf C8.CX0 X.prog X.w X.K X.mg X.base Ng x sg g cdg X.A X.stack s H C8.E0).tr pn xe) W → (∀ cls d σ' H', E cls d H' → W cls d σ' H') →
      PE ((cxOf C8.CX0 X.prog X.w X.K X.mg X.base Ng x sg g cdg X.A X.stack s H C8.E0).tr pn xe) (.Call (.Name a p1) [] [] p2) (fun σZ HZ Q => σZ[0]? = some (some (.ref f)) ∧ Kn HZ ∧ tl E HZ Q)) →
    Kn H → TT tl H Q →
    ∃ t, PSs (cxOf C8.CX0 X.prog X.w X.K X.mg X.base Ng x sg g cdg X.A X.stack s H C8.E0).nox bg t ∧ t { nx := fun _ H' => Q .non H', rt := Q } (L2.start Ng [.ref f]) H
theorem GivesK.to {X : Cx} {Ng : List Str} {x a q : Str} {sg : Scope} {g : Addr} {cdg : Value} {bg : List Stmt} {TT : (XK → Hp → VK → Prop) → Hp → VK → Prop} (G : GivesK X Ng x sg g cdg bg a TT) : GivesTo X Ng x sg g cdg bg a q TT :=
  fun f c' s H Q tl act hc h => G f (fun HZ => HZ c' = some (CodeO c' q)) s H Q tl (fun _ _ z e => e _ _ z) act hc h
section
variable {X : Cx} {pins : List (Addr × Obj)} {σ : L2.St} {H : Hp} {s : Shared}
/-- a() in the def that got a kept lambda -/
theorem act_kept {CXg : CXT} {Eg : XK} {Ng : List Str} {qg : Str} {sg : Scope} {g f c1 : Addr} {cdg pm ctv : Value} {params : Arguments} {body : Expr} {scope : Scope} {k i : Nat} {a : Str} {pn : List (Addr × Obj)} {xe : Value → Shared → Prop} {W : WX} {E : XK} {t : XK → TE} {p1 p2 : Pos}
    (I : Inv X pins σ H s) (l : LamOk X k params body scope t) (tk : Takes ((cxOf CXg X.prog X.w X.K X.mg X.base Ng qg sg g cdg X.A X.stack s H Eg).tr pn xe) W) (hW : ∀ cls d σ' H', E cls d H' → W cls d σ' H')
    (room : Room (k + 1) (X.A.deeper (envOfC qg sg s.heap.objs.size g cdg))) (hN : Ng[i]? = some a) (hv : Vis sg a) (hd : (a == ("__debug__" : Str)) = false := by decide) (hcd : (a == ("__classdict__" : Str)) = false := by decide) :
    PE ((cxOf CXg X.prog X.w X.K X.mg X.base Ng qg sg g cdg X.A X.stack s H Eg).tr pn xe) (.Call (.Name a p1) [] [] p2)
      (fun σZ HZ Q => σZ[i]? = some (some (.ref f)) ∧ (HZ f = some (FnO f (lamObj X params body scope pm ctv c1)) ∧ HZ c1 = some (CodeO c1 (X.env.qual ++ "<lambda>"))) ∧ t E σ HZ Q) := by
  have own := l.own
  refine ⟨fun pinsZ sZ σZ HZ Q IZ h => ?_⟩
  obtain ⟨at_, ⟨kf, kc⟩, rest⟩ := h
  have name := (pe_var (pos := p1) (i := i) hN hv hd hcd).run pinsZ sZ σZ HZ (fun v H1 => v = .ref f ∧ H1 = HZ) IZ ⟨.ref f, at_, rfl, rfl⟩
  refine wpAny_Call_Name_kw (thn name fun u s1 z => ?_)
  obtain ⟨v, H1, J, rel, rfl, rfl⟩ := z
  obtain rfl : u = Value.ref f := rel
  have obj : s1.heap.get? f = some (lamObj X params body scope pm ctv c1) := (J.hok f _ kf).1
  have code := (J.hok c1 _ kc).1
  obtain ⟨oc, vs, tt, code1, code2, code3⟩ := code
  refine PySem.W.callWith_F0 ⟨_, _, _, _, obj⟩ ?_
  have ran : codeAny (model X.prog X.w) (X.A.deeper (envOfC qg sg s.heap.objs.size g cdg)) (.call (.ref f) ⟨[], []⟩) (CR (L2.CX X.prog X.w) (envOfC qg sg s.heap.objs.size g cdg :: X.stack) X.prog X.w H1 s1 Q E) s1 := by
    refine PySem.W.kla_callFunE room.depth obj rfl own.co own.gen rfl ⟨c1, oc, vs, tt, rfl, code1, code2, code3⟩ ?_
    rw [l.bind]
    refine wpAny_pure (wpAny_newFunctionEnv (fun y hy => (own.own y hy).2) (fun y hy => absurd hy (by simp)) (fun h₁ hns hsb => ?_) own.kind)
    refine ⟨J.nolimit.fresh _ hsb, ?_⟩
    have stay : ∀ b o, s1.heap.get? b = some o → h₁.get? b = some o := fun b o e => hsb.extBut b o (Nat.ne_of_lt (Heap.lt_size e)) (Heap.get?_push_of_some _ e)
    have start : Inv (lamCx X (X.A.deeper (envOfC qg sg s.heap.objs.size g cdg)) (envOfC qg sg s.heap.objs.size g cdg :: X.stack) s1 H1 E scope f c1) [] σ H1 { s1 with heap := h₁, toks := s1.toks + ([] : List (Str × Value)).length } :=
      lam_start2 I own J.env0 room.hd J.base hns stay
    have go := (l.reads _ _ s1 H1 E f c1 (room.deeper _)).run [] _ _ H1 Q start rest
    refine PySem.W.kla_codeExpr (wpAny_mono go (fun v s' hq => ?_) fun e s' hq => hq)
    obtain ⟨w', H', J', rv, q⟩ := hq
    exact ⟨w', H', J'.os, J'.bare, J'.base, J'.hok, rv, q⟩
  have out : Passes (L2.CX X.prog X.w) ((cxOf CXg X.prog X.w X.K X.mg X.base Ng qg sg g cdg X.A X.stack s H Eg).tr pn xe) E := passes_call tk hW
  refine wpAny_call (codeAny_mono ran fun r s' hq => ?_)
  match r, hq with
  | .error e, hq => exact out pinsZ σZ H1 s1 e s' J hq
  | .ok (.ret u), hq => exact J.after hq
  | .ok .next, hq => exact False.elim hq
  | .ok .brk, hq => exact False.elim hq
  | .ok .cont, hq => exact False.elim hq
/-- a kept lambda, handed on -/
def tLamV (X : Cx) (k : Nat) (TT : (XK → Hp → VK → Prop) → Hp → VK → Prop) (ta : TA) : TE := fun σ H Q => ta σ H fun vs H1 =>
  ∃ (f : Addr) (params : Arguments) (body : Expr) (scope : Scope) (t : XK → TE), vs = [.ref f] ∧ LamOk X k params body scope t ∧ LamO X H1 f params body scope ∧ TT (fun E H' Q' => t E σ H' Q') H1 Q
theorem pe_keptcall {TT : (XK → Hp → VK → Prop) → Hp → VK → Prop} {x a : Str} {g : Addr} {k : Nat} {pg : Arguments} {bg : List Stmt} {sg : Scope} {dV kV doc pm cdv ct oc : Value} {an od : Option Addr} {osl : Array (Option Value)} {Ng : List Str} {e : Expr} {ta : TA} {p pos : Pos}
    (hg : Gl X x) (hm : X.mg x = some (.ref g)) (hk : PySem.W.keepIn X.K (.ref g) = true) (lk : X.K.lookup g = some ⟨oc, od, .func (PySem.W.fnOf x x pg bg sg dV kV doc pm an cdv ct), osl⟩) (hcg : PySem.W.codeIn X.K cdv x = true)
    (hb : L2.Binds X.K (PySem.W.fnOf x x pg bg sg dV kV doc pm an cdv ct) [a] []) (Sg : FnScope Ng [a] sg) (hNg : Ng[0]? = some a) (hva : Vis sg a) (hG : GivesK X Ng x sg g cdv bg a TT) (hr : Room (k + 2) X.A) (ha : PA X [e] ta)
    (he : starEach [e] X.env = (false, eval e X.env) :: starEach [] X.env := by rfl) (hpl : (backTo pos (starEach [] X.env)).any (·.1) = false := by rfl) (hdb : (x == ("__debug__" : Str)) = false := by decide) (hd : (a == ("__debug__" : Str)) = false := by decide) (hcd : (a == ("__classdict__" : Str)) = false := by decide) :
    PE X (.Call (.Name x p) [e] [] pos) (tLamV X k TT ta) := by
  refine ⟨fun pins s σ H Q I h => ?_⟩
  refine wpAny_Call_Name_kw (ld_glob I hg hm ?_ hdb)
  refine PySem.W.callWith_K (h₀ := X.base) I.ok.mod.kin hk (thn (ha.run pos pins s σ H _ I h) fun us s1 z => ?_) he hpl
  obtain ⟨vs, H1, J, rel, f, params, body, scope, t, rfl, ok, ⟨c1, pmf, ctf, kf, kc⟩, q⟩ := z
  obtain ⟨u, rfl, ru⟩ : ∃ u, us = [u] ∧ RelV (.ref f) u := by
    cases rel with
    | cons r rr =>
      cases rr
      exact ⟨_, rfl, r⟩
  obtain rfl : u = Value.ref f := ru
  refine ⟨J.kIn, ?_⟩
  have ran : codeAny (model X.prog X.w) X.A (.call (.ref g) ⟨[.ref f], []⟩) (CR C8.CX0 X.stack X.prog X.w H1 s1 Q C8.E0) s1 := by
    refine run_ofS (N := Ng) (ps := [a]) (us := [.ref f]) (vs := [.ref f]) lk hcg Sg hr J.env0 (hb s1 [.ref f] J.kIn rfl) (.cons rfl .nil) rfl fun room => ?_
    obtain ⟨t1, ht1, hq1⟩ := hG f (fun HZ => HZ f = some (FnO f (lamObj X params body scope pmf ctf c1)) ∧ HZ c1 = some (CodeO c1 (X.env.qual ++ "<lambda>"))) s1 H1 Q (fun E H' Q' => t E σ H' Q')
      (fun _ _ z e => ⟨e _ _ z.1, e _ _ z.2⟩) (fun W pn xe E p1 p2 tk hW => act_kept (i := 0) J ok tk hW room hNg hva hd hcd) ⟨kf, kc⟩ q
    exact ⟨t1, ht1.nox, hq1⟩
  refine wpAny_call (codeAny_mono ran fun r s2 hq => ?_)
  match r, hq with
  | .error e, hq => exact (show False from hq).elim
  | .ok (.ret u), hq => exact J.after hq
  | .ok .next, hq => exact False.elim hq
  | .ok .brk, hq => exact False.elim hq
  | .ok .cont, hq => exact False.elim hq
end
end LamX

set_option Elab.async false
set_option linter.all false
set_option maxRecDepth 100000
set_option maxHeartbeats 8000000
/-! Ways to go on; tables whose keys are letters. -/
namespace V8
open PySem PySem.Spec PyProof.Rows L2 LamX
theorem lt1 (z p : Nat) (h : (!ltCps (L1 z).cps.toList (L1 p).cps.toList) = true) : p ≤ z := by
  have e1 : (L1 z).cps.toList = [z] := rfl
  have e2 : (L1 p).cps.toList = [p] := rfl
  rw [e1, e2] at h
  simp [ltCps] at h
  omega
theorem rise_pw : ∀ (zs : List Nat) (p : Nat), risingS (L1 p) (zs.map L1) = true → (p :: zs).Pairwise (· ≤ ·)
  | [], p, _ => List.pairwise_singleton _ _
  | z :: r, p, h => by
    have h' : (!ltCps (L1 z).cps.toList (L1 p).cps.toList && risingS (L1 z) (r.map L1)) = true := h
    rw [Bool.and_eq_true] at h'
    have ih := rise_pw r z h'.2
    have hp := lt1 z p h'.1
    refine List.Pairwise.cons (fun x hx => ?_) ih
    rcases List.mem_cons.mp hx with e | e
    · rw [e]
      exact hp
    · exact Nat.le_trans hp ((List.pairwise_cons.mp ih).1 x e)
theorem sorted_pw (zs : List Nat) (h : sortedS (zs.map L1) = true) : zs.Pairwise (· ≤ ·) := by
  cases zs with
  | nil => exact .nil
  | cons z r => exact rise_pw r z h
theorem un_map {ys : List Str} {xs : List Nat} (h : ys.Perm (xs.map L1)) : ∃ zs : List Nat, ys = zs.map L1 ∧ zs.Perm xs := by
  have e : ∀ y ∈ ys, L1 (y.cps.toList.headD 0) = y := fun y hy => by
    obtain ⟨c, _, rfl⟩ := List.mem_map.mp (h.mem_iff.mp hy)
    rfl
  refine ⟨ys.map fun y => y.cps.toList.headD 0, ?_, ?_⟩
  · rw [List.map_map]
    have : ys.map (L1 ∘ fun y => y.cps.toList.headD 0) = ys.map id := List.map_congr_left fun y hy => e y hy
    rw [this, List.map_id]
  · have h2 := h.map fun y => y.cps.toList.headD 0
    rw [List.map_map] at h2
    have : xs.map ((fun y : Str => y.cps.toList.headD 0) ∘ L1) = xs.map id := List.map_congr_left fun y hy => rfl
    rw [this, List.map_id] at h2
    exact h2
theorem look_iff {t : Tab} {c : Nat} : (lookT t c).isSome = true ↔ c ∈ t.map (·.1) := by
  constructor
  · intro h
    obtain ⟨s, e⟩ := Option.isSome_iff_exists.mp h
    exact List.mem_map.mpr ⟨_, look_in e, rfl⟩
  · intro h
    obtain ⟨q, hq, rfl⟩ := List.mem_map.mp h
    unfold lookT
    rw [Option.isSome_map, List.find?_isSome]
    exact ⟨q, hq, by simp⟩
theorem abc_pw : abc.Pairwise (· ≤ ·) := by decide
theorem keys_perm {t : Tab} (nd : (t.map (·.1)).Nodup) (hl : ∀ q ∈ t, isLt q.1) : (t.map (·.1)).Perm (keysOf t) := by
  refine (List.perm_ext_iff_of_nodup nd (keysOf_nd t)).mpr fun c => ?_
  rw [keysOf_mem, look_iff]
  constructor
  · intro h
    obtain ⟨q, hq, rfl⟩ := List.mem_map.mp h
    exact ⟨abc_mem.mpr (hl q hq), h⟩
  · exact fun h => h.2
theorem sorted_keys {t u : Tab} {ys : List Str} (nd : (t.map (·.1)).Nodup) (hl : ∀ q ∈ t, isLt q.1) (e : eqM u t) (hp : ys.Perm (t.map fun q => L1 q.1)) (hs : sortedS ys = true) : ys = (keysOf u).map L1 := by
  rw [keysOf_congr e]
  have hp' : ys.Perm ((t.map (·.1)).map L1) := by
    rw [List.map_map]
    exact hp
  obtain ⟨zs, rfl, hz⟩ := un_map hp'
  have h1 := sorted_pw zs hs
  have h2 : (keysOf t).Pairwise (· ≤ ·) := abc_pw.filter _
  have h3 : zs = keysOf t := List.Perm.eq_of_pairwise (le := (· ≤ ·)) (fun a b _ _ x y => Nat.le_antisymm x y) h1 h2 (hz.trans (keys_perm nd hl))
  rw [h3]
/-- an expression is done by what is known of its value -/
theorem via {t : TE} {σ : L2.St} {H : Hp} {R : VK} (A : V → Hp → Prop) (h1 : ∀ R' : VK, (∀ v H', A v H' → R' v H') → t σ H R') (h2 : ∀ v H', A v H' → R v H') : t σ H R := h1 R h2
theorem viaAsg {te : TE} {g : TG} {rest : TS} {D : Ends} {σ : L2.St} {H : Hp} (A : V → Hp → Prop) (h1 : ∀ R' : VK, (∀ v H', A v H' → R' v H') → te σ H R') (h2 : ∀ v H', A v H' → g v σ H' (rest D)) : tSeq (tAsg te g) rest D σ H := h1 _ h2
theorem atName {i : Nat} {v : V} {σ : L2.St} {H : Hp} {Q : L2.St → Hp → Prop} (h : Q (σ.set i (some v)) H) : gName i v σ H Q := h
theorem viaT {t : TT} {σ : L2.St} {H : Hp} {R : Bool → Hp → Prop} (A : Bool → Hp → Prop) (h1 : ∀ R' : Bool → Hp → Prop, (∀ v H', A v H' → R' v H') → t σ H R') (h2 : ∀ v H', A v H' → R v H') : t σ H R := h1 R h2
/-- a dict whose keys are letters -/
structure KeyT (t : Tab) : Prop where
  nd : (t.map (·.1)).Nodup
  lt : ∀ q ∈ t, isLt q.1
theorem KeyT.len {t : Tab} (g : KeyT t) : t.length ≤ 26 := by
  have h := (keys_perm g.nd g.lt).length_eq
  rw [List.length_map] at h
  rw [h]
  exact keysOf_len t
theorem GoodT.keyT {cs : List Nat} {t : Tab} (g : GoodT cs t) (h : ∀ c ∈ cs, isLt c) : KeyT t := ⟨g.nd, fun q hq => h _ (g.key q hq)⟩
theorem KeyT.mem {t : Tab} (g : KeyT t) {c : Nat} : c ∈ keysOf t ↔ c ∈ t.map (·.1) := (keys_perm g.nd g.lt).mem_iff.symm
theorem KeyT.put {t : Tab} (g : KeyT t) {c : Nat} {s : List Nat} (hc : isLt c) : KeyT (putT t c s) := ⟨put_nd g.nd, fun q hq => by
  rcases keys_put q hq with h | rfl
  · exact g.lt q h
  · exact hc⟩
theorem seq2 {a b r : TS} {D : Ends} {σ : L2.St} {H : Hp} (M : L2.St → Hp → Prop) (h2 : ∀ σ' H', M σ' H' → r D σ' H') (h1 : ∀ R : L2.St → Hp → Prop, (∀ σ' H', M σ' H' → R σ' H') → tSeq a b { D with nx := R } σ H) : tSeq a (tSeq b r) D σ H := h1 _ h2
theorem seq1 {a b : TS} {D : Ends} {σ : L2.St} {H : Hp} (M : L2.St → Hp → Prop) (h2 : ∀ σ' H', M σ' H' → b D σ' H') (h1 : ∀ R : L2.St → Hp → Prop, (∀ σ' H', M σ' H' → R σ' H') → a { D with nx := R } σ H) : tSeq a b D σ H := h1 _ h2
theorem ext_same {H H' : Hp} (s : Same H H') : ExtN H H' := ExtN.of s
theorem MisAt.ext {C : Addr} {H H' : Hp} {x : Addr} {u : Tab} (m : MisAt C H x u) (e : ExtN H H') : MisAt C H' x u := by
  obtain ⟨dx, a, b, c, h1, h2, h3, h4⟩ := m.at_
  exact ⟨dx, a, b, c, e _ _ h1 (fun _ z => nomatch z), e _ _ h2 (fun _ z => nomatch z), e _ _ h3 (fun _ z => nomatch z), e _ _ h4 (fun _ z => nomatch z)⟩
theorem nextS {D : Ends} {σ : L2.St} {H : Hp} (h : D.nx σ H) : tNext D σ H := h
/-- what is kept of a table is what it tells of letters -/
theorem MisAt.lk {C : Addr} {H : Hp} {x : Addr} {u v : Tab} (m : MisAt C H x u) (h : V8.lk u = V8.lk v) : MisAt C H x v := by
  have e := eqM_lk.mpr h
  have k := keysOf_congr e
  have ei : ims u = ims v := by
    unfold ims
    rw [k]
    exact List.map_congr_left fun c hc => by rw [e c (keys_abc hc)]
  have ec : chg u = chg v := by
    unfold chg
    rw [k]
    exact List.filter_congr fun c hc => by rw [e c (keys_abc hc)]
  obtain ⟨dx, a, b, c, h1, h2, h3, h4⟩ := m.at_
  exact ⟨dx, a, b, c, h1, by rw [← k]; exact h2, by rw [← ei]; exact h3, by rw [← ec]; exact h4⟩
end V8

set_option Elab.async false
set_option linter.all false
set_option maxRecDepth 100000
set_option maxHeartbeats 8000000
/-! The law's own images and tables, one behind the other one. -/
namespace V8
open PySem PySem.Spec PyProof.Rows L2
abbrev s__law_image : Stmt := topS 42
abbrev n__law_image : List Str := ["_law_table_here", "_law_word", "_law_letter"]
theorem sc__law_image : FnScope ["_law_table_here", "_law_word", "_law_letter"] ["_law_table_here", "_law_word"] (defScope s__law_image) := ⟨rfl, rfl, rfl, by decide +kernel, rfl, by decide +kernel, by decide +kernel⟩
abbrev s__law_both : Stmt := topS 44
abbrev n__law_both : List Str := ["_law_first", "_law_last", "_law_whole", "_law_letter"]
theorem sc__law_both : FnScope ["_law_first", "_law_last", "_law_whole", "_law_letter"] ["_law_first", "_law_last"] (defScope s__law_both) := ⟨rfl, rfl, rfl, by decide +kernel, rfl, by decide +kernel, by decide +kernel⟩
abbrev s__law_power : Stmt := topS 45
abbrev n__law_power : List Str := ["_law_table_here", "_law_k", "_law_now", "_law_turn", "_law_letter"]
theorem sc__law_power : FnScope ["_law_table_here", "_law_k", "_law_now", "_law_turn", "_law_letter"] ["_law_table_here", "_law_k"] (defScope s__law_power) := ⟨rfl, rfl, rfl, by decide +kernel, rfl, by decide +kernel, by decide +kernel⟩
theorem shaped_flat {d : PyData} (h1 : d.canLay0 = true) (h2 : d.depth = 0) : SeqAt.shaped d = true := by
  show (d.canLay0 && decide (d.depth ≤ 64)) = true
  rw [h1, h2]
  rfl
theorem eqv_nil (l : List Nat) : PyData.eqv (.list (l.map fun c => .str (L1 c))) (.list []) = decide (l = []) := by
  cases l <;> rfl
/-- an image, or none -/
def optV : Option (List Nat) → V
  | none => .non
  | some s => .str (Sx s)
/-- a table of letters with images of at most n letters -/
structure TbN (n : Nat) (t : Tab) : Prop where
  nd : (t.map (·.1)).Nodup
  lt : ∀ q ∈ t, isLt q.1
  il : ∀ q ∈ t, ∀ d ∈ q.2, isLt d
  ln : ∀ q ∈ t, q.2.length ≤ n
  ct : t.length ≤ 12
theorem TbN.look {n : Nat} {t : Tab} (g : TbN n t) : lookT t = lk t := by
  funext c
  show _ = if c ∈ abc then lookT t c else none
  by_cases h : c ∈ abc
  · rw [if_pos h]
  · rw [if_neg h]
    cases e : lookT t c with
    | none => rfl
    | some s => exact absurd (abc_mem.mpr (g.lt _ (look_in e))) h
theorem TbN.bnd {n : Nat} {t : Tab} (g : TbN n t) : Bnd n (lk t) := fun c s e => by
  rw [← g.look] at e
  exact g.ln _ (look_in e)
theorem TbN.le {n m : Nat} {t : Tab} (g : TbN n t) (h : n ≤ m) : TbN m t := ⟨g.nd, g.lt, g.il, fun q hq => Nat.le_trans (g.ln q hq) h, g.ct⟩
theorem TbN.cut {n m : Nat} {t : Tab} (g : TbN n t) (h : Bnd m (lk t)) : TbN m t := ⟨g.nd, g.lt, g.il, fun q hq => by
  obtain ⟨i, hi, rfl⟩ := List.getElem_of_mem hq
  exact h _ _ (by rw [← g.look]; exact look_at g.nd hi), g.ct⟩
theorem TbN.small {t : Tab} (g : TbN 64 t) : SmallT t := fun c s e => g.ln _ (look_in e)
theorem TbN.bndIff {n m : Nat} {t : Tab} (g : TbN n t) : Bnd m (lk t) ↔ ∀ q ∈ t, q.2.length ≤ m := ⟨fun h => (g.cut h).ln, fun h => (⟨g.nd, g.lt, g.il, h, g.ct⟩ : TbN m t).bnd⟩
/-- one table behind the other one -/
def bothT (t1 t2 : Tab) : Tab := t1.filterMap fun q => (imF (lookT t2) q.2).map fun s => (q.1, s)
theorem both_cons (q : Nat × List Nat) (t1 t2 : Tab) : bothT (q :: t1) t2 = (match imF (lookT t2) q.2 with | none => [] | some s => [(q.1, s)]) ++ bothT t1 t2 := by
  unfold bothT
  rw [List.filterMap_cons]
  cases imF (lookT t2) q.2 <;> rfl
theorem both_mem {t1 t2 : Tab} {p : Nat × List Nat} (h : p ∈ bothT t1 t2) : ∃ q ∈ t1, q.1 = p.1 ∧ imF (lookT t2) q.2 = some p.2 := by
  obtain ⟨q, hq, e⟩ := List.mem_filterMap.mp h
  refine ⟨q, hq, ?_⟩
  cases z : imF (lookT t2) q.2 with
  | none =>
    rw [z] at e
    cases e
  | some s =>
    rw [z] at e
    cases Option.some.inj e
    exact ⟨rfl, rfl⟩
theorem both_look {t2 : Tab} : ∀ {t1 : Tab}, (t1.map (·.1)).Nodup → ∀ c, lookT (bothT t1 t2) c = (lookT t1 c).bind (imF (lookT t2))
  | [], _, c => rfl
  | q :: t1, nd, c => by
    have nd1 := List.nodup_cons.mp nd
    have ih := both_look (t2 := t2) nd1.2 c
    have e1 : lookT (q :: t1) c = if q.1 = c then some q.2 else lookT t1 c := look_cons q.1 q.2 t1 c
    rw [both_cons, e1]
    cases z : imF (lookT t2) q.2 with
    | none =>
      show lookT (bothT t1 t2) c = _
      by_cases h : q.1 = c
      · rw [if_pos h]
        show _ = imF (lookT t2) q.2
        rw [z]
        cases e : lookT (bothT t1 t2) c with
        | none => rfl
        | some s =>
          obtain ⟨q2, hq2, e2, _⟩ := both_mem (look_in e)
          exact absurd (List.mem_map.mpr ⟨q2, hq2, e2.trans h.symm⟩) nd1.1
      · rw [if_neg h]
        exact ih
    | some s =>
      show lookT ((q.1, s) :: bothT t1 t2) c = _
      rw [look_cons]
      by_cases h : q.1 = c
      · rw [if_pos h, if_pos h]
        exact z.symm
      · rw [if_neg h, if_neg h]
        exact ih
theorem both_nd {t2 : Tab} : ∀ {t1 : Tab}, (t1.map (·.1)).Nodup → ((bothT t1 t2).map (·.1)).Nodup
  | [], _ => List.nodup_nil
  | q :: t1, nd => by
    have nd1 := List.nodup_cons.mp nd
    rw [both_cons]
    cases z : imF (lookT t2) q.2 with
    | none => exact both_nd nd1.2
    | some s =>
      show (q.1 :: (bothT t1 t2).map (·.1)).Nodup
      refine List.nodup_cons.mpr ⟨fun h => ?_, both_nd nd1.2⟩
      obtain ⟨p, hp, e⟩ := List.mem_map.mp h
      obtain ⟨q2, hq2, e2, _⟩ := both_mem hp
      exact nd1.1 (List.mem_map.mpr ⟨q2, hq2, e2.trans e⟩)
theorem imF_lt {n : Nat} {t : Tab} (g : TbN n t) : ∀ {w s : List Nat}, imF (lookT t) w = some s → ∀ d ∈ s, isLt d
  | [], s, h, d, hd => by
    cases Option.some.inj h
    cases hd
  | c :: w, s, h, d, hd => by
    have h' : (lookT t c).bind (fun a => (imF (lookT t) w).map (a ++ ·)) = some s := h
    cases e : lookT t c with
    | none =>
      rw [e] at h'
      cases h'
    | some z =>
      cases e2 : imF (lookT t) w with
      | none =>
        rw [e, e2] at h'
        cases h'
      | some x =>
        rw [e, e2] at h'
        have h3 : z ++ x = s := Option.some.inj h'
        rw [← h3] at hd
        rcases List.mem_append.mp hd with q | q
        · exact g.il _ (look_in e) d q
        · exact imF_lt g e2 d q
theorem TbN.both {a b : Nat} {t1 t2 : Tab} (g1 : TbN a t1) (g2 : TbN b t2) : TbN (b * a) (bothT t1 t2) := by
  refine ⟨both_nd g1.nd, fun p hp => ?_, fun p hp => ?_, fun p hp => ?_, ?_⟩
  · obtain ⟨q, hq, e, _⟩ := both_mem hp
    rw [← e]
    exact g1.lt q hq
  · obtain ⟨q, hq, _, e⟩ := both_mem hp
    exact imF_lt g2 e
  · obtain ⟨q, hq, _, e⟩ := both_mem hp
    rw [g2.look] at e
    exact Nat.le_trans (imF_len g2.bnd e) (Nat.mul_le_mul_left _ (g1.ln q hq))
  · exact Nat.le_trans (List.length_filterMap_le _ _) g1.ct
theorem both_lk {a b : Nat} {t1 t2 : Tab} (g1 : TbN a t1) (g2 : TbN b t2) : lk (bothT t1 t2) = cF (lk t1) (lk t2) := by
  rw [← (g1.both g2).look, ← g1.look, ← g2.look]
  funext c
  exact both_look g1.nd c
/-! tables of images, some of them none -/
abbrev OTab := List (Nat × Option (List Nat))
def encO (o : OTab) : List (Key × V) := o.map fun q => (Sum.inr (L1 q.1), optV q.2)
theorem encO_at {o : OTab} {i : Nat} {k : Key} {v : V} (h : (encO o)[i]? = some (k, v)) : ∃ hi : i < o.length, k = Sum.inr (L1 o[i].1) ∧ v = optV o[i].2 := by
  unfold encO at h
  rw [List.getElem?_map] at h
  cases e : o[i]? with
  | none =>
    rw [e] at h
    cases h
  | some c =>
    obtain ⟨hi, ec⟩ := List.getElem?_eq_some_iff.mp e
    rw [e] at h
    cases Option.some.inj h
    exact ⟨hi, by rw [ec], by rw [ec]⟩
theorem valO : ∀ {o : OTab} {i : Nat}, (o.map (·.1)).Nodup → ∀ hi : i < o.length, valV (encO o) (Sum.inr (L1 o[i].1)) = some (optV o[i].2)
  | [], i, _, hi => absurd hi (Nat.not_lt_zero _)
  | q :: o, 0, _, _ => by
    show valV ((Sum.inr (L1 q.1), optV q.2) :: encO o) (Sum.inr (L1 q.1)) = some (optV q.2)
    rw [valV_pos rfl]
  | q :: o, i + 1, h, hi => by
    have hi' : i < o.length := by simpa using hi
    have h1 := List.nodup_cons.mp (by simpa using h : (q.1 :: o.map (·.1)).Nodup)
    have hne : ¬ q.1 = o[i].1 := fun e => h1.1 (e ▸ List.mem_map_of_mem (List.getElem_mem hi'))
    show valV ((Sum.inr (L1 q.1), optV q.2) :: encO o) (Sum.inr (L1 o[i].1)) = _
    rw [valV_neg (fun e => hne (L1_inj (Sum.inr.inj e)))]
    exact valO h1.2 hi'
theorem mergeK_encO : ∀ {b a : OTab}, ((a ++ b).map (·.1)).Nodup → mergeK (encO a) (encO b) = encO (a ++ b)
  | [], a, _ => by
    rw [List.append_nil]
    rfl
  | q :: b, a, h => by
    have hn : ((encO a).any fun kv => decide (kv.1 = Sum.inr (L1 q.1))) = false := by
      rw [List.any_eq_false]
      intro kv hkv z
      obtain ⟨p, hp, rfl⟩ := List.mem_map.mp hkv
      have e : p.1 = q.1 := L1_inj (Sum.inr.inj (of_decide_eq_true z))
      rw [List.map_append] at h
      exact (List.nodup_append.mp h).2.2 _ (List.mem_map_of_mem hp) _ (List.mem_map_of_mem List.mem_cons_self) e
    show mergeK (putK (encO a) (Sum.inr (L1 q.1)) (optV q.2)) (encO b) = _
    have ep : putK (encO a) (Sum.inr (L1 q.1)) (optV q.2) = encO (a ++ [q]) := by
      unfold putK
      rw [if_neg (by rw [hn]; exact Bool.false_ne_true)]
      unfold encO
      rw [List.map_append]
      rfl
    rw [ep, mergeK_encO (by rw [List.append_assoc]; exact h), List.append_assoc]
    rfl
def PairsO (H : Hp) (ps : List Addr) (o : OTab) : Prop := Paired (fun b (q : Nat × Option (List Nat)) => H b = some (.tup [V.str (L1 q.1), optV q.2])) ps o
theorem PairsO.mono {H H' : Hp} {ps : List Addr} {o : OTab} (h : PairsO H ps o) (k : ∀ b xs, H b = some (.tup xs) → H' b = some (.tup xs)) : PairsO H' ps o := Paired.mapP h fun _ _ e => k _ _ e
theorem PairsO.snoc {H : Hp} : ∀ {ps : List Addr} {o : OTab} {b : Addr} {q : Nat × Option (List Nat)}, PairsO H ps o → H b = some (.tup [V.str (L1 q.1), optV q.2]) → PairsO H (ps ++ [b]) (o ++ [q])
  | _, _, _, _, .nil, e => .cons e .nil
  | _, _, _, _, .cons h r, e => .cons h (PairsO.snoc r e)
theorem PairsO.sq {K : PySem.W.Frag} {H : Hp} : ∀ {ps : List Addr} {o : OTab}, PairsO H ps o → Paired (fun p (kv : Key × V) => SqT K H p [kV kv.1, kv.2]) ps (encO o)
  | _, _, .nil => .nil
  | _, _, .cons h r => .cons (.inl (.inl h)) (PairsO.sq r)
/-- all images of one table by another one -/
def wholeO (t1 t2 : Tab) : OTab := t1.map fun q => (q.1, imF (lookT t2) q.2)
theorem wholeO_keys (t1 t2 : Tab) : (wholeO t1 t2).map (·.1) = t1.map (·.1) := by
  unfold wholeO
  rw [List.map_map]
  rfl
theorem both_whole (t1 t2 : Tab) : bothT t1 t2 = (wholeO t1 t2).filterMap fun q => q.2.map fun s => (q.1, s) := by
  unfold bothT wholeO
  rw [List.filterMap_map]
  rfl
def spLimg : Sp := fun vs H Q _ => ∃ (d : Addr) (t : Tab) (cs : List Nat), vs = [.ref d, .str (Sx cs)] ∧ Rd H d (.dK (encT t)) ∧ (∀ c ∈ cs, isLt c) ∧ cs.length ≤ 64 ∧ (∀ q ∈ t, q.2.length ≤ 64) ∧ ∀ H', Same H H' → Q (optV (imF (lookT t) cs)) H'
def spBoth : Sp := fun vs H Q _ => ∃ (d1 d2 : Addr) (t1 t2 : Tab), vs = [.ref d1, .ref d2] ∧ H d1 = some (.dK (encT t1)) ∧ H d2 = some (.dK (encT t2)) ∧ TbN 64 t1 ∧ TbN 64 t2 ∧ ∀ d H', H d = none → Same H H' → H' d = some (.dK (encT (bothT t1 t2))) → Q (.ref d) H'
theorem rd_put {H : Hp} {D d : Addr} {o x : HO} (h : Rd H d o) (n : H D = none) : Rd (upd H D x) d o := by
  rcases h with h | ⟨od, h⟩
  · exact .inl (by rw [upd_ne (ne_of_none h n)]; exact h)
  · exact .inr ⟨od, by rw [upd_ne (ne_of_none h n)]; exact h⟩
section
variable {P : Program} {w : World} {K : PySem.W.Frag} {mg : Str → Option Value} {base : Heap} {CM CJ : Addr}
theorem ok_limage {f : Addr} {fd : FuncData} (F : Fun K "_law_image" "_law_image" s__law_image f fd) (T : Tz K mg CM CJ) : FnOk P w K mg base CX0 1 f fd ["_law_table_here", "_law_word"] spLimg := by
  refine F.ok sc__law_image (fun vs H Q E h => ?_) (fun cdv A outer s H vs Q E hr h => ?_)
  · obtain ⟨d, t, cs, rfl, _⟩ := h
    rfl
  · obtain ⟨d, t, cs, rfl, hd, hl, h64, sm, q⟩ := h
    refine ⟨_, (pss_cons (ps_if (pt_cmpR (op_neDK (K := K) rfl hr.units) (pe_lc (own := [("_law_letter", 2)]) (g := gName 2) (by rfl) sc__law_image.nd (pi_str (pv 1)) (blkOk_by (own := [("_law_letter", 2)]) (N := n__law_image) (sc := defScope s__law_image) (by decide +kernel)) (fun _ _ _ _ _ => (pg_name (i := 2) sc__law_image.nd rfl (.inl rfl))) (fun _ _ _ _ _ => (pts_one (pt_cmp (pc_dnotin (hu_of hr) (pv 2) (pv 0))))) (fun _ _ _ _ _ => (pv 2))) (pe_lst pa_nil) (nomark _))
        (pss_one (ps_ret pe_non))
        pss_nil)
      (pss_one (ps_ret (pe_joinK (K := K) rfl pe_str (pe_lc (own := [("_law_letter", 2)]) (g := gName 2) (by rfl) sc__law_image.nd (pi_str (pv 1)) (blkOk_by (own := [("_law_letter", 2)]) (N := n__law_image) (sc := defScope s__law_image) (by decide +kernel)) (fun _ _ _ _ _ => (pg_name (i := 2) sc__law_image.nd rfl (.inl rfl))) (fun _ _ _ _ _ => pts_nil) (fun _ _ _ _ _ => (pe_dget (hu_of hr) (pv 0) (pv 2) (fun _ _ => rfl)))))))), ?_⟩
    obtain ⟨bad, eb⟩ : ∃ bad : List Nat, bad = cs.filter fun c => !(lookT t c).isSome := ⟨_, rfl⟩
    refine ⟨_, rfl, Sx cs, rfl, fun D nD => lc_it walk_str (fun i H2 => H2 = upd H D (.lst (((cs.take i).filter fun c => !(lookT t c).isSome).map fun c => V.str (L1 c)))) rfl (fun _ _ _ _ => trivial) ?_ ?_⟩
    · rintro i x H2 H2' hi rfl ⟨rfl, y, hy, rfl⟩
      have hy1 := sx_at hy
      have r1 := rd_put (x := .lst (((cs.take i).filter fun c => !(lookT t c).isSome).map fun c => V.str (L1 c))) hd nD
      refine ⟨rfl, _, rfl, _, rfl, d, _, rfl, .inl ⟨_, Sum.inr (L1 y), r1, rfl, rfl⟩, _, rfl, ?_⟩
      rw [valV_enc, Option.isSome_map]
      have et : (cs.take (i + 1)).filter (fun c => !(lookT t c).isSome) = (cs.take i).filter (fun c => !(lookT t c).isSome) ++ (if (lookT t y).isSome = true then [] else [y]) := by
        rw [List.take_add_one, hy1, List.filter_append]
        congr 1
        show List.filter _ [y] = _
        by_cases e : (lookT t y).isSome = true
        · rw [if_pos e, List.filter_cons, if_neg (by simp [e])]
          rfl
        · rw [if_neg e, List.filter_cons, if_pos (by simp [e])]
          rfl
      by_cases e : (lookT t y).isSome = true
      · rw [e]
        refine iteF ?_
        show _ = _
        rw [et, if_pos e, List.append_nil]
      · rw [Bool.eq_false_iff.mpr e]
        refine iteT ⟨_, rfl, _, upd_same, ?_, ?_⟩
        · rw [List.length_map]
          have t4 : ((cs.take i).filter fun c => !(lookT t c).isSome).length ≤ 64 := Nat.le_trans (List.length_filter_le _ _) (by rw [List.length_take]; omega)
          exact small1000 (by omega)
        · show _ = _
          rw [upd_upd, et, if_neg e, List.map_append]
          rfl
    · rintro H2 rfl
      rw [sx_size, List.take_length, ← eb]
      refine ⟨Nat.zero_le _, fun e ne => ?_⟩
      have nDe : D ≠ e := ne_of_none upd_same ne
      refine ⟨.list (bad.map fun c => .str (L1 c)), .list [], .lst (SqL.of (xs := bad.map fun c => V.str (L1 c)) (by rw [upd_ne nDe, upd_same])) (dp_map (fun c => V.str (L1 c)) (fun c => PyData.str (L1 c)) (fun c => .str _) bad), .lst (SqL.of upd_same) .nil, shaped_map (fun c => PyData.str (L1 c)) bad (fun x hx => ?_) (fun _ => by simp [PyData.depth]), by decide +kernel, _, rfl, ?_⟩
      · simp only [PyData.canLay0]
        rw [eb] at hx
        rw [L1_Sx]
        exact ok_sx fun d hd => by rw [List.mem_singleton.mp hd]; exact hl _ (List.mem_filter.mp hx).1
      · rw [eqv_nil]
        have s1 := same_put (s := same_put (s := Same.refl H) (o := .lst (bad.map fun c => V.str (L1 c))) nD) (o := .lst []) ne
        by_cases hb : bad = []
        · rw [decide_eq_true hb]
          refine iteF ?_
          have hd1 := rd_put (x := .lst []) (rd_put (x := .lst (bad.map fun c => V.str (L1 c))) hd nD) ne
          generalize upd (upd H D (.lst (bad.map fun c => V.str (L1 c)))) e (.lst []) = H1 at s1 hd1 ⊢
          have hin : ∀ c ∈ cs, (lookT t c).isSome = true := fun c hc => by
            apply Classical.byContradiction
            intro n
            have m : c ∈ bad := by
              rw [eb]
              exact List.mem_filter.mpr ⟨hc, by simp [n]⟩
            rw [hb] at m
            cases m
          obtain ⟨ss, ess⟩ : ∃ ss, ss = cs.map fun c => (lookT t c).getD [] := ⟨_, rfl⟩
          have er : imF (lookT t) cs = some ss.flatten := by
            rw [ess]
            clear ess eb s1 nD ne nDe q hl h64
            induction cs with
            | nil => rfl
            | cons c r ih =>
              obtain ⟨s, e⟩ := Option.isSome_iff_exists.mp (hin c List.mem_cons_self)
              show (lookT t c).bind (fun a => (imF (lookT t) r).map (a ++ ·)) = _
              rw [ih fun x hx => hin x (List.mem_cons_of_mem _ hx), List.map_cons, e]
              rfl
          have hz : ∀ (i : Nat) (hi : i < cs.length), ((ss.map Sx).map V.str)[i]? = some (V.str (Sx ((lookT t cs[i]).getD []))) := fun i hi => by
            rw [ess, List.getElem?_map, List.getElem?_map, List.getElem?_map, List.getElem?_eq_getElem hi]
            rfl
          have hlen : ((ss.map Sx).map V.str).length = cs.length := by
            rw [ess, List.length_map, List.length_map, List.length_map]
          refine ⟨⟨_, rfl⟩, _, rfl, Sx cs, rfl, fun D nD => lc_it walk_str (fun i H2 => H2 = upd H1 D (.lst (((ss.map Sx).map V.str).take i))) rfl (fun _ _ _ _ => trivial) ?_ ?_⟩
          · rintro i z H2 H2' hi rfl ⟨rfl, c, hc0, rfl⟩
            have hc1 := sx_at hc0
            obtain ⟨hi', ec⟩ := List.getElem?_eq_some_iff.mp hc1
            obtain ⟨s2, e2⟩ := Option.isSome_iff_exists.mp (hin c (ec ▸ List.getElem_mem hi'))
            have r1 := rd_put (x := .lst (((ss.map Sx).map V.str).take i)) hd1 nD
            have hz2 := hz i hi'
            rw [ec, e2] at hz2
            refine ⟨rfl, _, rfl, _, rfl, d, V.str (Sx s2), rfl, .inl ⟨_, Sum.inr (L1 c), r1, rfl, by rw [valV_enc, e2]; rfl⟩, ?_⟩
            exact acc_ok hz2 (by omega)
          · rintro H2 rfl
            rw [sx_size, List.take_of_length_le (by rw [hlen]; exact Nat.le_refl _)]
            refine ⟨Str.empty, D, ss.map Sx, rfl, rfl, .inl (SqL.of upd_same), ?_, ?_⟩
            · have h1 : ((ss.map Sx).map fun x => x.length).sum ≤ _ := sum_le (fun x => x.length) 64 _ fun y hy => by
                obtain ⟨s3, hs3, rfl⟩ := List.mem_map.mp hy
                rw [ess] at hs3
                obtain ⟨c, hc, rfl⟩ := List.mem_map.mp hs3
                obtain ⟨s2, e2⟩ := Option.isSome_iff_exists.mp (hin c hc)
                rw [Sx_len, e2]
                exact sm _ (look_in e2)
              have h3 : (ss.map Sx).length = cs.length := by
                rw [ess, List.length_map, List.length_map]
              rw [h3] at h1 ⊢
              show _ + _ * 0 ≤ _
              have h4 : 64 * cs.length ≤ 64 * 64 := Nat.mul_le_mul_left _ h64
              omega
            · rw [join_Sx]
              have q1 := q _ (same_put (s := s1) (o := .lst ((ss.map Sx).map V.str)) nD)
              rw [er] at q1
              exact q1
        · rw [decide_eq_false hb]
          refine iteT ?_
          have q1 := q _ s1
          have en : imF (lookT t) cs = none := by
            obtain ⟨c, hc⟩ := List.exists_mem_of_ne_nil _ hb
            rw [eb] at hc
            have h2 := List.mem_filter.mp hc
            exact imF_none.mpr ⟨c, h2.1, by simpa using h2.2⟩
          rw [en] at q1
          exact q1
theorem ok_both {f : Addr} {fd : FuncData} (F : Fun K "_law_both" "_law_both" s__law_both f fd) (T : Tz K mg CM CJ) (D_image : Df P w K mg base 1 "_law_image" spLimg) : FnOk P w K mg base CX0 2 f fd ["_law_first", "_law_last"] spBoth := by
  refine F.ok sc__law_both (fun vs H Q E h => ?_) (fun cdv A outer s H vs Q E hr h => ?_)
  · obtain ⟨d1, d2, t1, t2, rfl, _⟩ := h
    rfl
  · obtain ⟨d1, d2, t1, t2, rfl, h1, h2, g1, g2, q⟩ := h
    refine ⟨_, (pss_cons (ps_set (i := 2) sc__law_both.nd rfl (.inr rfl) (pe_callTy (call_dictP rfl) (by rfl) T.dict (by decide +kernel) (pa_cons (pe_lock (pe_lc (own := [("_law_letter", 3)]) (g := gName 3) (by rfl) sc__law_both.nd (pi_keys (pv 0)) (blkOk_by (own := [("_law_letter", 3)]) (N := n__law_both) (sc := defScope s__law_both) (by decide +kernel)) (fun _ _ _ _ _ => (pg_name (i := 3) sc__law_both.nd rfl (.inl rfl))) (fun _ _ _ _ _ => pts_nil) (fun _ _ _ _ _ => (pe_tup (pa_cons (pv 3) (pa_cons (pe_c D_image hr (by decide) (by rfl) (pa_cons (pv 1) (pa_cons (pe_dget (hu_of hr) (pv 0) (pv 3) (fun _ _ => rfl)) pa_nil))) pa_nil)))))) pa_nil)))
      (pss_one (ps_ret (pe_callTy (call_dictP rfl) (by rfl) T.dict (by decide +kernel) (pa_cons (pe_lock (pe_lc (own := [("_law_letter", 3)]) (g := gName 3) (by rfl) sc__law_both.nd (pi_keys (pv 2)) (blkOk_by (own := [("_law_letter", 3)]) (N := n__law_both) (sc := defScope s__law_both) (by decide +kernel)) (fun _ _ _ _ _ => (pg_name (i := 3) sc__law_both.nd rfl (.inl rfl))) (fun _ _ _ _ _ => (pts_one (pt_cmpR op_notN (pe_dget (hu_of hr) (pv 2) (pv 3) (fun _ _ => rfl)) pe_non (nomark _)))) (fun _ _ _ _ _ => (pe_tup (pa_cons (pv 3) (pa_cons (pe_dget (hu_of hr) (pv 2) (pv 3) (fun _ _ => rfl)) pa_nil)))))) pa_nil))))), ?_⟩
    have l12 := g1.ct
    refine viaAsg (fun v H' => ∃ o, v = .ref o ∧ H o = none ∧ Same H H' ∧ H' o = some (.dK (encO (wholeO t1 t2)))) (fun R' r' => ?_) ?_
    · refine ⟨d1, _, h1, True.intro, fun od => ⟨_, rfl, d1, od, rfl, .inl ⟨_, upd_same, fun D nD => lc_it walk_keys (fun i H2 => ∃ ps : List Addr, ps.length = i ∧ H2 D = some (.lst (ps.map V.ref)) ∧ PairsO H2 ps ((wholeO t1 t2).take i) ∧ H2 d1 = some (.frz od (.dK (encT t1))) ∧ ∀ b o, H b = some o → b ≠ d1 → H2 b = some o) ?_ ?_ ?_ ?_⟩⟩⟩
      · have hDd : d1 ≠ D := ne_of_none upd_same nD
        refine ⟨[], rfl, upd_same, .nil, by rw [upd_ne hDd, upd_same], fun b o e hb => ?_⟩
        have e1 : upd H d1 (.frz od (.dK (encT t1))) b = some o := by rw [upd_ne hb]; exact e
        rw [upd_ne (ne_of_none e1 nD)]
        exact e1
      · rintro i H2 hi ⟨ps, _, _, _, h, _⟩
        exact h
      · rintro i x H2 H2' hi ⟨ps, hps, hD, hpa, hfz, fr⟩ ⟨rfl, k, v, hk, rfl⟩
        obtain ⟨hit, rfl, rfl⟩ := enc_at hk
        have hDd : d1 ≠ D := ne_of_none upd_same nD
        have nDH : H D = none := by
          rw [← nD, upd_ne (Ne.symm hDd)]
        have r2 : Rd H2' d2 (.dK (encT t2)) := by
          by_cases hd : d2 = d1
          · have e : encT t2 = encT t1 := by
              rw [hd, h1] at h2
              injection h2 with z
              injection z with z
              exact z.symm
            rw [hd, e]
            exact .inr ⟨od, hfz⟩
          · exact .inl (fr _ _ h2 hd)
        have hin := List.getElem_mem hit
        have e1 : lookT t1 t1[i].1 = some t1[i].2 := look_at g1.nd hit
        refine ⟨rfl, _, rfl, _, rfl, _, rfl, _, rfl, d1, V.str (Sx t1[i].2), rfl, .inl ⟨_, Sum.inr (L1 t1[i].1), .inr ⟨od, hfz⟩, rfl, by rw [valV_enc, e1]; rfl⟩, d2, t2, t1[i].2, rfl, r2, g1.il _ hin, g1.ln _ hin, g2.ln, fun H3 s3 => ⟨by show 2 ≤ sizeLine; decide, fun tq ntq => ?_⟩⟩
        have hD3 := s3 _ _ hD
        have hfz3 := s3 _ _ hfz
        have hpa3 : PairsO H3 ps ((wholeO t1 t2).take i) := hpa.mono fun b xs e => s3 _ _ e
        have htD : D ≠ tq := ne_of_none hD3 ntq
        have wi : (wholeO t1 t2)[i]? = some (t1[i].1, imF (lookT t2) t1[i].2) := by
          unfold wholeO
          rw [List.getElem?_map, List.getElem?_eq_getElem hit]
          rfl
        refine ⟨ps.map V.ref, by rw [upd_ne htD]; exact hD3, by rw [List.length_map]; exact small1000 (by omega), ps ++ [tq], by rw [List.length_append, hps]; rfl, ?_, ?_, ?_, ?_⟩
        · rw [upd_same, List.map_append]
          rfl
        · rw [List.take_add_one, wi]
          refine PairsO.snoc ((hpa3.mono (tup_new ntq)).mono (tup_upd (by rw [upd_ne htD]; exact hD3))) ?_
          exact (upd_ne (Ne.symm htD)).trans upd_same
        · rw [upd_ne (ne_of hfz3 hD3 (fun z => nomatch z)), upd_ne (ne_of_none hfz3 ntq)]
          exact hfz3
        · intro b o e hb
          have e2 := s3 _ _ (fr b o e hb)
          rw [upd_ne (ne_of_none e nDH), upd_ne (ne_of_none e2 ntq)]
          exact e2
      · rintro H2 ⟨ps, hps, hD, hpa, hfz, fr⟩
        have hDd : D ≠ d1 := ne_of hD hfz (fun z => nomatch z)
        have wl : (wholeO t1 t2).length = t1.length := List.length_map ..
        rw [encT_len, List.take_of_length_le (by omega)] at hpa
        refine ⟨hfz, D, ps, encO (wholeO t1 t2), rfl, SqL.of (by rw [upd_ne hDd]; exact hD), (PairsO.sq (hpa.mono fun b ys e => by rw [upd_ne (ne_of e hfz (fun z => nomatch z))]; exact e)), fun r nr => ?_⟩
        have em : mergeK [] (encO (wholeO t1 t2)) = encO (wholeO t1 t2) := mergeK_encO (a := []) (by rw [List.nil_append, wholeO_keys]; exact g1.nd)
        rw [em]
        have sa : Same H (upd H2 d1 (.dK (encT t1))) := fun b o e => by
          by_cases hb : b = d1
          · rw [hb, upd_same, ← e, hb, h1]
          · rw [upd_ne hb]
            exact fr b o e hb
        exact r' _ _ ⟨r, rfl, same_none (s := sa) nr, same_put (s := sa) nr, upd_same⟩
    · rintro v H1 ⟨o, rfl, no, s1, ho⟩
      obtain ⟨W, eW⟩ : ∃ W, W = wholeO t1 t2 := ⟨_, rfl⟩
      have Wl : W.length = t1.length := by rw [eW]; exact List.length_map ..
      have Wn : (W.map (·.1)).Nodup := by rw [eW, wholeO_keys]; exact g1.nd
      have Wb := both_whole t1 t2
      rw [← eW] at ho Wb
      refine ⟨o, _, ho, True.intro, fun od => ⟨_, rfl, o, od, rfl, .inl ⟨_, upd_same, fun D nD => lc_it walk_keys (fun i H2 => ∃ ps : List Addr, H2 D = some (.lst (ps.map V.ref)) ∧ PairsAt H2 ps ((W.take i).filterMap fun q => q.2.map fun s => (q.1, s)) ∧ H2 o = some (.frz od (.dK (encO W))) ∧ ∀ b x, H1 b = some x → b ≠ o → H2 b = some x) ?_ ?_ ?_ ?_⟩⟩⟩
      · have hDd : o ≠ D := ne_of_none upd_same nD
        refine ⟨[], upd_same, .nil, by rw [upd_ne hDd, upd_same], fun b x e hb => ?_⟩
        have e1 : upd H1 o (.frz od (.dK (encO W))) b = some x := by rw [upd_ne hb]; exact e
        rw [upd_ne (ne_of_none e1 nD)]
        exact e1
      · rintro i H2 hi ⟨ps, _, _, h, _⟩
        exact h
      · rintro i x H2 H2' hi ⟨ps, hD, hpa, hfz, fr⟩ ⟨rfl, k, v, hk, rfl⟩
        obtain ⟨hit, rfl, rfl⟩ := encO_at hk
        have hDd : o ≠ D := ne_of_none upd_same nD
        have nDH : H1 D = none := by
          rw [← nD, upd_ne (Ne.symm hDd)]
        have vo := valO Wn hit
        have pl : ps.length ≤ 26 := by
          rw [hpa.len]
          exact Nat.le_trans (List.length_filterMap_le _ _) (by rw [List.length_take]; omega)
        refine ⟨rfl, _, rfl, _, rfl, o, optV W[i].2, rfl, .inl ⟨_, Sum.inr (L1 W[i].1), .inr ⟨od, hfz⟩, rfl, vo.symm⟩, ?_⟩
        have tk : (W.take (i + 1)).filterMap (fun q => q.2.map fun s => (q.1, s)) = (W.take i).filterMap (fun q => q.2.map fun s => (q.1, s)) ++ (match W[i].2 with | none => [] | some s => [(W[i].1, s)]) := by
          rw [List.take_add_one, List.getElem?_eq_getElem hit, List.filterMap_append]
          congr 1
          show List.filterMap _ [W[i]] = _
          rw [List.filterMap_cons]
          cases W[i].2 <;> rfl
        cases ew : W[i].2 with
        | none =>
          rw [ew] at tk
          refine ⟨rfl, _, rfl, iteF ⟨ps, hD, ?_, hfz, fr⟩⟩
          rw [tk, List.append_nil]
          exact hpa
        | some s =>
          rw [ew] at tk vo
          refine ⟨rfl, _, rfl, iteT ?_⟩
          refine ⟨_, rfl, _, rfl, _, rfl, o, V.str (Sx s), rfl, .inl ⟨_, Sum.inr (L1 W[i].1), .inr ⟨od, hfz⟩, rfl, vo.symm⟩, by show 2 ≤ sizeLine; decide, fun tq ntq => ?_⟩
          have htD : D ≠ tq := ne_of_none hD ntq
          refine ⟨ps.map V.ref, by rw [upd_ne htD]; exact hD, by rw [List.length_map]; exact small1000 (by omega), ps ++ [tq], ?_, ?_, ?_, ?_⟩
          · rw [upd_same, List.map_append]
            rfl
          · rw [tk]
            refine PairsAt.snoc ((hpa.mono (tup_new ntq)).mono (tup_upd (by rw [upd_ne htD]; exact hD))) ?_
            exact (upd_ne (Ne.symm htD)).trans upd_same
          · rw [upd_ne (ne_of hfz hD (fun z => nomatch z)), upd_ne (ne_of_none hfz ntq)]
            exact hfz
          · intro b x e hb
            have e2 := fr b x e hb
            rw [upd_ne (ne_of_none e nDH), upd_ne (ne_of_none e2 ntq)]
            exact e2
      · rintro H2 ⟨ps, hD, hpa, hfz, fr⟩
        have hDd : D ≠ o := ne_of hD hfz (fun z => nomatch z)
        have el : (encO W).length = W.length := List.length_map ..
        rw [el, List.take_length, ← Wb] at hpa
        refine ⟨hfz, D, ps, encT (bothT t1 t2), rfl, SqL.of (by rw [upd_ne hDd]; exact hD), (PairsAt.sq (hpa.mono fun b ys e => by rw [upd_ne (ne_of e hfz (fun z => nomatch z))]; exact e)), fun r nr => ?_⟩
        have em : mergeK [] (encT (bothT t1 t2)) = encT (bothT t1 t2) := by
          have z := mergeK_enc (bothT t1 t2) []
          rw [mergeT_app (a := []) (by rw [List.nil_append]; exact both_nd g1.nd)] at z
          exact z
        rw [em]
        have sa : Same H1 (upd H2 o (.dK (encO W))) := fun b x e => by
          by_cases hb : b = o
          · rw [hb, upd_same, ← e, hb, ho]
          · rw [upd_ne hb]
            exact fr b x e hb
        exact q r _ (same_none (s := fun b x e => sa _ _ (s1 _ _ e)) nr) (fun b x e => same_put (s := sa) nr _ _ (s1 _ _ e)) upd_same
end
end V8

set_option Elab.async false
set_option linter.all false
set_option maxRecDepth 100000
set_option maxHeartbeats 8000000
/-! The law's own powers of a table. -/
namespace V8
open PySem PySem.Spec PyProof.Rows L2
/-- the letters whose images are longer than 64 -/
def longs (t : Tab) : List Nat := (t.filter fun q => decide (64 < q.2.length)).map (·.1)
theorem longs_nil {n : Nat} {t : Tab} (g : TbN n t) : longs t = [] ↔ Bnd 64 (lk t) := by
  rw [g.bndIff]
  unfold longs
  rw [List.map_eq_nil_iff, List.filter_eq_nil_iff]
  constructor
  · intro h q hq
    have := h q hq
    simp at this
    exact this
  · intro h q hq z
    have := h q hq
    have := of_decide_eq_true z
    omega
theorem longs_take {t : Tab} {i : Nat} (h : i < t.length) : longs (t.take (i + 1)) = longs (t.take i) ++ (if 64 < t[i].2.length then [t[i].1] else []) := by
  unfold longs
  rw [List.take_add_one, List.getElem?_eq_getElem h, List.filter_append, List.map_append]
  congr 1
  show List.map _ (List.filter _ [t[i]]) = _
  by_cases e : 64 < t[i].2.length
  · rw [if_pos e, List.filter_cons, if_pos (by simp [e])]
    rfl
  · rw [if_neg e, List.filter_cons, if_neg (by simp [e])]
    rfl
theorem longs_len (t : Tab) : (longs t).length ≤ t.length := by
  unfold longs
  rw [List.length_map]
  exact List.length_filter_le _ _
theorem longs_lt {n : Nat} {t : Tab} (g : TbN n t) : ∀ c ∈ longs t, isLt c := fun c hc => by
  obtain ⟨q, hq, rfl⟩ := List.mem_map.mp hc
  exact g.lt q (List.mem_filter.mp hq).1
def spPower : Sp := fun vs H Q _ => ∃ (d : Addr) (t : Tab) (k : Nat), vs = [.ref d, .int ((k + 1 : Nat) : Int)] ∧ k ≤ 100 ∧ H d = some (.dK (encT t)) ∧ TbN 64 t ∧
  ((∀ j, j ≤ k → Bnd 64 (pF (lk t) j)) → ∀ d2 t2 H', Same H H' → H' d2 = some (.dK (encT t2)) → TbN 64 t2 → lk t2 = pF (lk t) k → Q (.ref d2) H') ∧ (¬ (∀ j, j ≤ k → Bnd 64 (pF (lk t) j)) → ∀ H', Same H H' → Q .non H')
section
variable {P : Program} {w : World} {K : PySem.W.Frag} {mg : Str → Option Value} {base : Heap} {CM CJ : Addr}
theorem ok_power {f : Addr} {fd : FuncData} (F : Fun K "_law_power" "_law_power" s__law_power f fd) (T : Tz K mg CM CJ) (D_both : Df P w K mg base 2 "_law_both" spBoth) : FnOk P w K mg base CX0 3 f fd ["_law_table_here", "_law_k"] spPower := by
  refine F.ok sc__law_power (fun vs H Q E h => ?_) (fun cdv A outer s H vs Q E hr h => ?_)
  · obtain ⟨d, t, k, rfl, _⟩ := h
    rfl
  · obtain ⟨d, t, k, rfl, k100, hd, g, qt, qn⟩ := h
    refine ⟨_, (pss_cons (ps_set (i := 2) sc__law_power.nd rfl (.inr rfl) (pe_callTy call_dictD (by rfl) T.dict (by decide +kernel) (pa_cons (pv 0) pa_nil)))
      (pss_cons (ps_for PassesOwn.never rfl (pi_range1 (by rfl) T.range (pa_cons (pe_op op_sub (pv 1) pe_int) pa_nil)) (pg_name (i := 3) sc__law_power.nd rfl (.inl rfl))
        (pss_cons (ps_set (i := 2) sc__law_power.nd rfl (.inr rfl) (pe_c D_both hr (by decide) (by rfl) (pa_cons (pv 2) (pa_cons (pv 0) pa_nil))))
        (pss_one (ps_if (pt_cmpR (op_neDK (K := K) rfl hr.units) (pe_lock (pe_lc (own := [("_law_letter", 4)]) (g := gName 4) (by rfl) sc__law_power.nd (pi_keys (pv 2)) (blkOk_by (own := [("_law_letter", 4)]) (N := n__law_power) (sc := defScope s__law_power) (by decide +kernel)) (fun _ _ _ _ _ => (pg_name (i := 4) sc__law_power.nd rfl (.inl rfl))) (fun _ _ _ _ _ => (pts_one (pt_cmpR op_gt (pe_callB call_len_str (by rfl) T.len (by decide +kernel) (pa_cons (pe_dget (hu_of hr) (pv 2) (pv 4) (fun _ _ => rfl)) pa_nil)) pe_int (nomark _)))) (fun _ _ _ _ _ => (pv 4)))) (pe_lst pa_nil) (nomark _))
          (pss_one (ps_ret pe_non))
          pss_nil))))
      (pss_one (ps_ret (pv 2))))), ?_⟩
    refine ⟨_, rfl, d, _, rfl, .inl hd, fun d0 n0 => ?_⟩
    have s0 := same_put (s := Same.refl H) (o := .dK (encT t)) n0
    have h0 : upd H d0 (.dK (encT t)) d0 = some (.dK (encT t)) := upd_same
    generalize upd H d0 (.dK (encT t)) = H0 at s0 h0 ⊢
    have b0 : ∀ j, j ≤ 0 → Bnd 64 (pF (lk t) j) := fun j hj => by
      obtain rfl : j = 0 := by omega
      exact g.bnd
    refine ⟨_, rfl, _, _, rfl, rfl, k, ?_, by omega, by omega, for_it (walk_range (lo := 0) (n := k)) (fun i σ H2 => (∃ (d2 : Addr) (t2 : Tab) (v3 : Option V), σ = [some (.ref d), some (.int ((k + 1 : Nat) : Int)), some (.ref d2), v3, none] ∧ H2 d2 = some (.dK (encT t2)) ∧ TbN 64 t2 ∧ lk t2 = pF (lk t) i) ∧ Same H H2 ∧ ∀ j, j ≤ i → Bnd 64 (pF (lk t) j)) ⟨⟨d0, t, none, rfl, h0, g, rfl⟩, s0, b0⟩ (fun _ _ _ _ _ => trivial) ?_ ?_⟩
    · have e : ((k + 1 : Nat) : Int) - 1 = (k : Int) := by omega
      show [V.int (((k + 1 : Nat) : Int) - 1)] = [V.int (k : Int)]
      rw [e]
    · rintro i z σ H2 H2' hi ⟨⟨d2, t2, v3, rfl, h2, g2, e2⟩, s2, le⟩ ⟨rfl, rfl⟩
      refine ⟨_, rfl, _, rfl, d2, d, t2, t, rfl, h2, s2 _ _ hd, g2, g, fun d3 H3 n3 s3 h3 => ?_⟩
      have g3 := g2.both g
      have e3 := both_lk g2 g
      rw [e2] at e3
      have e4 : lk (bothT t2 t) = pF (lk t) (i + 1) := e3
      generalize bothT t2 t = W at h3 g3 e3 e4
      have Wl := g3.ct
      have s23 : Same H H3 := fun b o e => s3 _ _ (s2 _ _ e)
      refine ⟨d3, _, h3, True.intro, fun od => ⟨_, rfl, d3, od, rfl, .inl ⟨_, upd_same, fun D nD => lc_it walk_keys (fun i H2 => H2 = upd (upd H3 d3 (.frz od (.dK (encT W)))) D (.lst ((longs (W.take i)).map fun c => V.str (L1 c)))) rfl ?_ ?_ ?_⟩⟩⟩
      · rintro i H2 hi rfl
        rw [upd_ne (ne_of_none upd_same nD)]
        exact upd_same
      · rintro i z H2 H2' hi rfl ⟨rfl, kk, v, hk, rfl⟩
        obtain ⟨hit, rfl, rfl⟩ := enc_at hk
        have r1 : Rd (upd (upd H3 d3 (.frz od (.dK (encT W)))) D (.lst ((longs (W.take i)).map fun c => V.str (L1 c)))) d3 (.dK (encT W)) := .inr ⟨od, by rw [upd_ne (ne_of_none upd_same nD)]; exact upd_same⟩
        have e1 : lookT W W[i].1 = some W[i].2 := look_at g3.nd hit
        have wl := g3.ln _ (List.getElem_mem hit)
        refine ⟨rfl, _, rfl, _, rfl, d3, V.str (Sx W[i].2), rfl, .inl ⟨_, Sum.inr (L1 W[i].1), r1, rfl, by rw [valV_enc, e1]; rfl⟩, _, rfl, by rw [Sx_len, sizeLine_eq]; omega, _, _, rfl, rfl, _, rfl, ?_⟩
        rw [Sx_len]
        have lt := longs_take hit
        by_cases c : 64 < W[i].2.length
        · rw [decide_eq_true (by show ((64 : Int) < (W[i].2.length : Int)); omega)]
          rw [if_pos c] at lt
          refine iteT ⟨_, rfl, _, upd_same, ?_, ?_⟩
          · rw [List.length_map]
            have := longs_len (W.take i)
            rw [List.length_take] at this
            exact small1000 (by omega)
          · show _ = _
            rw [upd_upd, lt, List.map_append]
            rfl
        · rw [decide_eq_false (by show ¬ ((64 : Int) < (W[i].2.length : Int)); omega)]
          rw [if_neg c, List.append_nil] at lt
          refine iteF ?_
          show _ = _
          rw [lt]
      · rintro H2 rfl
        rw [encT_len, List.take_length]
        have hdD : d3 ≠ D := ne_of_none upd_same nD
        refine ⟨by rw [upd_ne hdD]; exact upd_same, Nat.zero_le _, fun e ne => ?_⟩
        have nDe : D ≠ e := by
          refine ne_of_none (o := .lst ((longs W).map fun c => V.str (L1 c))) ?_ ne
          rw [upd_ne hdD.symm]
          exact upd_same
        have nDH : H3 D = none := by
          rw [← nD, upd_ne (Ne.symm hdD)]
        have sa : Same H3 (upd (upd (upd H3 d3 (.frz od (.dK (encT W)))) D (.lst ((longs W).map fun c => V.str (L1 c)))) d3 (.dK (encT W))) := fun b o e => by
          by_cases hb : b = d3
          · rw [hb, upd_same, ← e, hb, h3]
          · rw [upd_ne hb, upd_ne (ne_of_none e nDH), upd_ne hb]
            exact e
        have sb := same_put (s := sa) (o := .lst []) ne
        refine ⟨.list ((longs W).map fun c => .str (L1 c)), .list [], .lst (SqL.of (xs := (longs W).map fun c => V.str (L1 c)) ?_) (dp_map (fun c => V.str (L1 c)) (fun c => PyData.str (L1 c)) (fun c => .str _) (longs W)), .lst (SqL.of upd_same) .nil, shaped_map (fun c => PyData.str (L1 c)) (longs W) (fun c hc => ?_) (fun _ => by simp [PyData.depth]), by decide +kernel, _, rfl, ?_⟩
        · rw [upd_ne nDe, upd_ne hdD.symm, upd_same]
        · simp only [PyData.canLay0]
          rw [L1_Sx]
          exact ok_sx fun d hd => by rw [List.mem_singleton.mp hd]; exact longs_lt g3 _ hc
        · rw [eqv_nil]
          have sc : Same H (upd (upd (upd (upd H3 d3 (.frz od (.dK (encT W)))) D (.lst ((longs W).map fun c => V.str (L1 c)))) d3 (.dK (encT W))) e (.lst [])) := fun b o e => sb _ _ (s23 _ _ e)
          have h3b := sb _ _ h3
          by_cases z : longs W = []
          · rw [decide_eq_true z]
            have bW := (longs_nil g3).mp z
            refine iteF ⟨⟨d3, W, _, rfl, h3b, g3.cut bW, e4⟩, sc, fun j hj => ?_⟩
            by_cases hji : j ≤ i
            · exact le j hji
            · obtain rfl : j = i + 1 := by omega
              rw [← e4]
              exact bW
          · rw [decide_eq_false z]
            refine iteT (qn (fun all => z ((longs_nil g3).mpr ?_)) _ sc)
            rw [e4]
            exact all (i + 1) (by omega)
    · rintro σ H2 ⟨⟨d2, t2, v3, rfl, h2, g2, e2⟩, s2, le⟩
      exact ⟨_, rfl, qt le d2 t2 H2 s2 h2 g2 e2⟩
end
end V8

set_option Elab.async false
set_option linter.all false
set_option maxRecDepth 100000
set_option maxHeartbeats 8000000
/-! What is heard of a call: what it returns, or its error. -/
namespace V8
open PySem PySem.Spec PyProof.Rows L2 LamX
abbrev s_heard : Stmt := topS 43
abbrev n_heard : List Str := ["_law_ask", "_law_caught", "_law_found", "error"]
theorem sc_heard : FnScope ["_law_ask", "_law_caught", "_law_found", "error"] ["_law_ask"] (defScope s_heard) := ⟨rfl, rfl, rfl, by decide +kernel, rfl, by decide +kernel, by decide +kernel⟩
structure Th (K : PySem.W.Frag) (mg : Str → Option Value) (CM CJ CB CN CT CR : Addr) : Prop extends Tz K mg CM CJ where
  gBadTable : GV mg "BadTable" (.ref CB)
  gBadNumber : GV mg "BadNumber" (.ref CN)
  gTooMany : GV mg "TooMany" (.ref CT)
  gE : mg "RepairError" = some (.ref CR)
  repr : mg "repr" = none
  eB : PySem.W.exmOne K (.ref CB) (.ref CR) = some true
  eN : PySem.W.exmOne K (.ref CN) (.ref CR) = some true
  eT : PySem.W.exmOne K (.ref CT) (.ref CR) = some true
  kBB : PySem.W.kitOne K (.ref CB) (.ref CB) = some true
  kNB : PySem.W.kitOne K (.ref CN) (.ref CB) = some false
  kNN : PySem.W.kitOne K (.ref CN) (.ref CN) = some true
  kTB : PySem.W.kitOne K (.ref CT) (.ref CB) = some false
  kTN : PySem.W.kitOne K (.ref CT) (.ref CN) = some false
  kTT : PySem.W.kitOne K (.ref CT) (.ref CT) = some true
  xB : ExcC K CB
  xN : ExcC K CN
  xT : ExcC K CT
  nB : PySem.W.findIn K (.ref CB) "part" = some none
  nN : PySem.W.findIn K (.ref CN) "value" = some none
  n1 : PySem.W.findIn K (.ref CT) "what" = some none
  n2 : PySem.W.findIn K (.ref CT) "most" = some none
/-- heard: what is returned of an error -/
def HearE (CB CN CT : Addr) (Q : VK) : XK := fun cls d H => ∃ dd, d = some dd ∧
  ((cls = .ref CB ∧ ∃ v, H dd = some (.xd [("part", v)]) ∧ ∀ t H2, Same H H2 → H2 t = some (.tup [.str "table", v]) → Q (.ref t) H2) ∨
   (cls = .ref CN ∧ ∃ i : Int, i.natAbs.log2 < 1920 ∧ H dd = some (.xd [("value", .int i)]) ∧ ∀ t H2, Same H H2 → H2 t = some (.tup [.str "number", .str (toString i)]) → Q (.ref t) H2) ∨
   (cls = .ref CT ∧ ∃ m v, H dd = some (.xd [("most", m), ("what", v)]) ∧ ∀ t H2, Same H H2 → H2 t = some (.tup [v, m]) → Q (.ref t) H2))
/-- .. of a value -/
def HearV (Q : VK) : VK := fun v H => ∀ l H2, Same H H2 → H l = none → H2 l = some (.lst [v]) → Q (.ref l) H2
def TTheard (CB CN CT : Addr) : (XK → Hp → VK → Prop) → Hp → VK → Prop := fun tl H Q => ∀ (R : VK) (H1 : Hp), (∀ v H', HearV Q v H' → R v H') → Same H H1 → tl (HearE CB CN CT Q) H1 R
theorem four_of {l : L2.St} (h : l.length = 4) : ∃ a b c d, l = [a, b, c, d] := by
  match l, h with
  | [a, b, c, d], _ => exact ⟨a, b, c, d, rfl⟩
theorem heard_givesK {X : Cx} {CM CJ CB CN CT CR g : Addr} {cdg : Value} (T : Th X.K X.mg CM CJ CB CN CT CR) (hr3 : ∀ (s : Shared), Room 1 (X.A.deeper (envOfC "_law_heard" (defScope s_heard) s.heap.objs.size g cdg))) : GivesK X n_heard "_law_heard" (defScope s_heard) g cdg (defBody s_heard) "_law_ask" (TTheard CB CN CT) := by
  intro f Kn s H Q tl stay act hc h
  have hr := hr3 s
  refine ⟨_, (pss_cons (ps_asg (pe_tup (pa_cons pe_non (pa_cons pe_non pa_nil))) (pg_tup (by rfl) (pgs_cons (pg_name (i := 1) sc_heard.nd rfl (.inl rfl)) (pgs_cons (pg_name (i := 2) sc_heard.nd rfl (.inl rfl)) pgs_nil))))
      (pss_cons (ps_try_keep (X := (cxOf C8.CX0 X.prog X.w X.K X.mg X.base n_heard "_law_heard" (defScope s_heard) g cdg X.A X.stack s H C8.E0).nox) (c := .ref CR) (i := 3) (tb := fun W D σ H => ∃ Ech : XK, (∀ cls d σ' H', Ech cls d H' → W cls d σ' H') ∧ σ[0]? = some (some (.ref f)) ∧ Kn H ∧ tl Ech H (fun v H' => D.nx (σ.set 2 (some v)) H')) rfl rfl sc_heard.nd rfl rfl ⟨by rfl, by decide, .inl T.gE⟩ (fun W pn xe tk _ => ?_) (fun a pn => pss_one (ps_set (i := 1) sc_heard.nd rfl (.inl rfl) (pv 3))))
      (pss_cons (ps_if (pt_cmpR op_isN (pv 1) pe_non (nomark _))
        (pss_one (ps_ret (pe_lst (pa_cons (pv 2) pa_nil))))
        pss_nil)
      (pss_cons (ps_if (pt_val (pe_callB call_isK (by rfl) T.isinstance (by decide +kernel) (pa_cons (pv 1) (pa_cons (pe_gv T.gBadTable (by rfl)) pa_nil))))
        (pss_one (ps_ret (pe_tup (pa_cons pe_str (pa_cons (pe_keptF (pv 1)) pa_nil)))))
        pss_nil)
      (pss_cons (ps_if (pt_val (pe_callB call_isK (by rfl) T.isinstance (by decide +kernel) (pa_cons (pv 1) (pa_cons (pe_gv T.gBadNumber (by rfl)) pa_nil))))
        (pss_one (ps_ret (pe_tup (pa_cons pe_str (pa_cons (pe_callB SkE.call_repr_int (by rfl) T.repr (by decide +kernel) (pa_cons (pe_keptF (pv 1)) pa_nil)) pa_nil)))))
        pss_nil)
      (pss_one (ps_ret (pe_ifExp (pt_val (pe_callB call_isK (by rfl) T.isinstance (by decide +kernel) (pa_cons (pv 1) (pa_cons (pe_gv T.gTooMany (by rfl)) pa_nil)))) (pe_tup (pa_cons (pe_keptF (pv 1)) (pa_cons (pe_keptF (pv 1)) pa_nil))) (pe_tup (pa_cons pe_str (pa_cons pe_non pa_nil))))))))))), ?_⟩
  · refine ⟨fun pins s' σ H' D I h' => ?_⟩
    obtain ⟨Ech, hW, h1, h2, h3⟩ := h'
    exact PSs.run (pss_one (ps_set (i := 2) sc_heard.nd rfl (.inl rfl) (act W pn xe Ech _ _ tk hW))) pins s' σ H' D I ⟨h1, h2, h3⟩
  · refine ⟨by show 2 ≤ sizeLine; decide, fun t0 n0 => ⟨t0, _, rfl, .inl (.inl upd_same), rfl, _, _, rfl, _, _, rfl, rfl, ?_⟩⟩
    have s0 : Same H (upd H t0 (.tup [.non, .non])) := same_put (s := Same.refl H) n0
    have hc1 := stay _ _ hc s0
    refine ⟨HearE CB CN CT Q, ?_, rfl, hc1, h _ _ (fun v H' hv => ?_) s0⟩
    · rintro cls d σ' H' ⟨dd, rfl, hh⟩
      have kept : ∀ {C : Addr} {fs : List (Str × V)} {a : Addr}, H' a = none → H' dd = some (.xd fs) → ExcC X.K C → KeptX X.K (upd H' a (CaughtO (.ref C) (some dd) a)) a C fs := fun na hx cl =>
        ⟨⟨dd, upd_same, by rw [upd_ne (ne_of_none hx na)]; exact hx⟩, cl⟩
      rcases hh with ⟨rfl, v, hx, hq⟩ | ⟨rfl, i, hi, hx, hq⟩ | ⟨rfl, m, v, hx, hq⟩
      · refine ⟨T.eB, fun len a na => ?_⟩
        obtain ⟨s0, s1, s2, s3, rfl⟩ := four_of len
        have k := kept na hx T.xB
        refine ⟨_, rfl, _, rfl, rfl, false, rfl, iteF ?_⟩
        refine ⟨_, rfl, a, CB, _, .ref CB, .ref CB, true, rfl, k, fun u r => r, T.kBB, true, rfl, iteT ?_⟩
        exact ⟨_, rfl, a, CB, _, v, rfl, k, T.nB, by simp [List.lookup], by show 2 ≤ sizeLine; decide, fun t nt => hq t _ (same_put (s := same_put (s := Same.refl H') na) nt) upd_same⟩
      · refine ⟨T.eN, fun len a na => ?_⟩
        obtain ⟨s0, s1, s2, s3, rfl⟩ := four_of len
        have k := kept na hx T.xN
        refine ⟨_, rfl, _, rfl, rfl, false, rfl, iteF ?_⟩
        refine ⟨_, rfl, a, CN, _, .ref CB, .ref CB, false, rfl, k, fun u r => r, T.kNB, false, rfl, iteF ?_⟩
        refine ⟨_, rfl, a, CN, _, .ref CN, .ref CN, true, rfl, k, fun u r => r, T.kNN, true, rfl, iteT ?_⟩
        exact ⟨_, rfl, a, CN, _, .int i, rfl, k, T.nN, by simp [List.lookup], i, rfl, hi, by show 2 ≤ sizeLine; decide, fun t nt => hq t _ (same_put (s := same_put (s := Same.refl H') na) nt) upd_same⟩
      · refine ⟨T.eT, fun len a na => ?_⟩
        obtain ⟨s0, s1, s2, s3, rfl⟩ := four_of len
        have k := kept na hx T.xT
        refine ⟨_, rfl, _, rfl, rfl, false, rfl, iteF ?_⟩
        refine ⟨_, rfl, a, CT, _, .ref CB, .ref CB, false, rfl, k, fun u r => r, T.kTB, false, rfl, iteF ?_⟩
        refine ⟨_, rfl, a, CT, _, .ref CN, .ref CN, false, rfl, k, fun u r => r, T.kTN, false, rfl, iteF ?_⟩
        refine ⟨_, rfl, a, CT, _, .ref CT, .ref CT, true, rfl, k, fun u r => r, T.kTT, true, rfl, iteT ?_⟩
        exact ⟨_, rfl, a, CT, _, v, rfl, k, T.n1, by simp only [List.lookup, show (("what" : Str) == "most") = false from by decide +kernel, show (("what" : Str) == "what") = true from by decide +kernel], _, rfl, a, CT, _, m, rfl, k, T.n2, by simp [List.lookup], by show 2 ≤ sizeLine; decide, fun t nt => hq t _ (same_put (s := same_put (s := Same.refl H') na) nt) upd_same⟩
    · refine ⟨_, rfl, rfl, true, rfl, iteT ?_⟩
      exact ⟨_, rfl, by show 1 ≤ sizeLine; decide, fun l nl => hv l _ (same_put (s := Same.refl H') nl) nl upd_same⟩
/-- a def whose code object is known -/
structure FunC (K : PySem.W.Frag) (x qual : Str) (st : Stmt) (f c : Addr) (fd : FuncData) : Prop where
  ex : ∃ (oc : Value) (od : Option Addr) (kV doc pm : Value) (an : Option Addr) (ct : Value) (osl : Array (Option Value)), fd = PySem.W.fnOf x qual (defArgs st) (defBody st) (defScope st) .none kV doc pm an (.ref c) ct ∧ K.lookup f = some ⟨oc, od, .func fd, osl⟩ ∧ PySem.W.codeIn K (.ref c) qual = true
section
variable {P : Program} {w : World} {K : PySem.W.Frag} {mg : Str → Option Value} {base : Heap}
theorem FunC.ok {x qual : Str} {st : Stmt} {f c : Addr} {fd : FuncData} {N ps : List Str} {k : Nat} {sp : Sp} (F : FunC K x qual st f c fd) (S : FnScope N ps (defScope st)) (len : ∀ vs H Q E, sp vs H Q E → vs.length = ps.length)
    (body : ∀ (A : Around) (outer : List Env) (s : Shared) (H : Hp) (vs : List V) (Q : VK) (E : XK), Room k (A.deeper (envOfC qual (defScope st) s.heap.objs.size f (.ref c))) → sp vs H Q E →
      ∃ t, PSs (cxOf CX0 P w K mg base N qual (defScope st) f (.ref c) A outer s H E).nox (defBody st) t ∧ t { nx := fun _ H' => Q .non H', rt := Q } (L2.start N vs) H) : FnOk P w K mg base CX0 (k + 1) f fd ps sp := by
  obtain ⟨oc, od, kV, doc, pm, an, ct, osl, e, look, ci⟩ := F.ex
  subst e
  exact fn_of look ci S len fun A outer s H vs Q E room h => (body A outer s H vs Q E room h).imp fun t z => ⟨z.1.nox, z.2⟩
end
/-- what hears, by its name -/
structure HearD (K : PySem.W.Frag) (mg : Str → Option Value) (g : Addr) : Prop where
  hm : mg "_law_heard" = some (.ref g)
  kp : PySem.W.keepIn K (.ref g) = true
  lk : ∃ (oc : Value) (od : Option Addr) (kV doc pm : Value) (an : Option Addr) (cdv ct : Value) (osl : Array (Option Value)), K.lookup g = some ⟨oc, od, .func (PySem.W.fnOf "_law_heard" "_law_heard" (defArgs s_heard) (defBody s_heard) (defScope s_heard) .none kV doc pm an cdv ct), osl⟩ ∧ PySem.W.codeIn K cdv "_law_heard" = true
/-- the tables of code objects of those that make lambdas -/
structure TabT (base : Heap) (mg : Str → Option Value) (T : List (Addr × Str)) (q : Str) (c P : Addr) : Prop where
  tb : TabB base mg c P
  mem : (P, q ++ "<lambda>") ∈ T
  one : ∀ p ∈ T, p.1 = P → p.2 = q ++ "<lambda>"
section
variable {X : Cx} {CM CJ CB CN CT CR g c P : Addr} {T : List (Addr × Str)} {j k : Nat} {params : Arguments} {body : Expr} {scope : Scope} {t : XK → TE} {p lpos pos : Pos} {qn : Str} {e : Expr} {ta : TA}
theorem pe_heard (th : Th X.K X.mg CM CJ CB CN CT CR) (D : HearD X.K X.mg g) (TB : TabT X.base X.mg T qn c P) (hr : Room j X.A) (hj : k + 3 ≤ j) (hcode : X.env.code = .ref c) (hq : X.env.qual = qn) (hg : Gl X "_law_heard") (L : LamS X.env.scope scope) (hdef : defaultsOf params X.env = ([], []))
    (hbind : ∀ (q : Str) (cl : List (Str × Addr)) (pm cv ctv : Value), bindArgs (PySem.W.kla_fn "<lambda>" q params body scope cl pm cv ctv) ⟨[], []⟩ = pure [])
    (hbody : ∀ (A : Around) (outer : List Env) (s : Shared) (H : Hp) (E : XK) (f c' : Addr), Room k (A.deeper (lamEnv X scope s.heap.objs.size f c')) → PE (lamCx X A outer s H E scope f c') body (t E)) :
    PE X (.Call (.Name "_law_heard" p) [.Lambda params body scope lpos] [] pos) (tLam T (TTheard CB CN CT) t) := by
  obtain ⟨oc, od, kV, doc, pm, an, cdv, ct, osl, look, ci⟩ := D.lk
  refine pe_lamcall (k := k) (Ng := n_heard) (a := "_law_ask") hg D.hm D.kp look ci ?_ sc_heard rfl (.inl rfl) (heard_givesK th fun s => ?_).to TB.tb hcode (by rw [hq]; exact TB.mem) (by rw [hq]; exact TB.one) (hr.mono (by omega)) L hdef hbind hbody
  · exact .all fun us hl => match us, hl with | [_], _ => rfl
  · exact (hr.mono (show 2 ≤ j by omega)).deeper _
/-- heard of a lambda kept in a name -/
theorem pe_heardK (th : Th X.K X.mg CM CJ CB CN CT CR) (D : HearD X.K X.mg g) (hr : Room j X.A) (hj : k + 3 ≤ j) (hg : Gl X "_law_heard") (ha : PA X [e] ta)
    (he : starEach [e] X.env = (false, eval e X.env) :: starEach [] X.env := by rfl) (hpl : (backTo pos (starEach [] X.env)).any (·.1) = false := by rfl) :
    PE X (.Call (.Name "_law_heard" p) [e] [] pos) (tLamV X k (TTheard CB CN CT) ta) := by
  obtain ⟨oc, od, kV, doc, pm, an, cdv, ct, osl, look, ci⟩ := D.lk
  refine pe_keptcall (k := k) (Ng := n_heard) (a := "_law_ask") hg D.hm D.kp look ci ?_ sc_heard rfl (.inl rfl) (heard_givesK th fun s => ?_) (hr.mono (by omega)) ha he hpl
  · exact .all fun us hl => match us, hl with | [_], _ => rfl
  · exact (hr.mono (show 2 ≤ j by omega)).deeper _
end
end V8

set_option Elab.async false
set_option linter.all false
set_option maxRecDepth 100000
set_option maxHeartbeats 8000000
/-! Whether what is heard is a misreading with these images, or too many. -/
namespace V8
open PySem PySem.Spec PyProof.Rows L2
abbrev s_is : Stmt := topS 46
abbrev n_is : List Str := ["_law_heard_here", "_law_table_here", "_law_names", "_law_letter"]
theorem sc_is : FnScope ["_law_heard_here", "_law_table_here", "_law_names", "_law_letter"] ["_law_heard_here", "_law_table_here"] (defScope s_is) := ⟨rfl, rfl, rfl, by decide +kernel, rfl, by decide +kernel, by decide +kernel⟩
theorem words_sum {u : Tab} (sm : SmallT u) : ((wordsM u (keysOf u)).map (·.length)).sum + (wordsM u (keysOf u)).length * (" " : Str).length ≤ 16777216 := by
  have hk := keysOf_len u
  have h1 : ((wordsM u (keysOf u)).map fun x => x.length).sum ≤ _ := sum_le (fun x => x.length) 66 (wordsM u (keysOf u)) fun x hx => by
    obtain ⟨c, hc, rfl⟩ := List.mem_map.mp hx
    obtain ⟨s2, e2⟩ := Option.isSome_iff_exists.mp (keysOf_mem.mp hc).2
    rw [e2]
    show (Sx _).length ≤ _
    rw [Sx_len, List.length_cons, List.length_cons]
    have := sm _ _ e2
    show s2.length + 1 + 1 ≤ _
    omega
  have h2 : (wordsM u (keysOf u)).length = (keysOf u).length := List.length_map ..
  rw [h2] at h1 ⊢
  show _ + _ * 1 ≤ _
  have h3 : 66 * (keysOf u).length ≤ 66 * 26 := Nat.mul_le_mul_left _ hk
  omega
theorem words_pos {u : Tab} (e : keysOf u ≠ []) : 0 < ((wordsM u (keysOf u)).map (·.length)).sum := by
  cases h : keysOf u with
  | nil => exact absurd h e
  | cons c r =>
    show 0 < (wordM c ((lookT u c).getD [])).length + _
    have : 2 ≤ (wordM c ((lookT u c).getD [])).length := by
      show 2 ≤ (Sx _).length
      rw [Sx_len, List.length_cons, List.length_cons]
      omega
    omega
theorem len_join_le (l : List Str) (h : (l.map (·.length)).sum + l.length * (" " : Str).length ≤ 16777216) : (Txt.join " " l).length ≤ sizeLine := by
  show (Builtin.Str.glued " " l).length ≤ _
  rw [StrLaws.glued_eq_join]
  exact Nat.le_trans (StrLaws.join_length_le _ _) (Nat.le_trans h (by decide))
theorem strM_congr {u v : Tab} (h : lk u = lk v) : strM u = strM v := by
  have e := eqM_lk.mpr h
  have k := keysOf_congr e
  unfold strM
  rw [k]
  have w : wordsM u (keysOf v) = wordsM v (keysOf v) := List.map_congr_left fun c hc => by rw [e c (keys_abc hc)]
  rw [w]
def spIs (CM : Addr) : Sp := fun vs H Q _ => ∃ (hh : Addr) (tv : V), vs = [.ref hh, tv] ∧ (∀ H', Same H H' → Q (.bl true) H') ∧
  (((tv = .non ∨ ∃ d t n, tv = .ref d ∧ H d = some (.dK (encT t)) ∧ TbN n t ∧ n ≤ 5000 ∧ ¬ Bnd 64 (lk t)) ∧ H hh = some (.tup [.str "image", .int 64])) ∨
   (∃ d t x u, tv = .ref d ∧ H d = some (.dK (encT t)) ∧ TbN 64 t ∧ H hh = some (.lst [.ref x]) ∧ MisAt CM H x u ∧ lk u = lk t))
theorem at0 (x : V) : atI [x] 0 = some x := rfl
theorem keyT {n : Nat} {t : Tab} (g : TbN n t) : KeyT t := ⟨g.nd, g.lt⟩
theorem eq_same {K : PySem.W.Frag} {H : Hp} {Q : VK} {x y : V} {d : PyData} (hx : Dp K H x d) (hy : Dp K H y d) (sh : SeqAt.shaped d = true) (q : Q (.bl true) H) : rEqD K x y H Q := by
  refine ⟨d, d, hx, hy, sh, sh, ?_⟩
  rw [SeqAt.eqv_refl d (lay_of sh)]
  exact q
section
variable {P : Program} {w : World} {K : PySem.W.Frag} {mg : Str → Option Value} {base : Heap} {CM CJ : Addr}
theorem ok_is {f : Addr} {fd : FuncData} (F : Fun K "_law_is" "_law_is" s_is f fd) (T : Tz K mg CM CJ) (D_iter : ItM P w K mg base 1 CM (snIter CM)) (D_str : Mf P w K mg base 1 CM "__str__" (spStr CM)) : FnOk P w K mg base CX0 4 f fd ["_law_heard_here", "_law_table_here"] (spIs CM) := by
  refine F.ok sc_is (fun vs H Q E h => ?_) (fun cdv A outer s H vs Q E hr h => ?_)
  · obtain ⟨hh, tv, rfl, _⟩ := h
    rfl
  · obtain ⟨hh, tv, rfl, q, h⟩ := h
    refine ⟨_, (pss_cons (ps_if (PW.pt (pw_or (pt_cmpR op_isN (pv 1) pe_non (nomark _)) (pw_or1 (pt_cmpR (op_neDK (K := K) rfl hr.units) (pe_lock (pe_lc (own := [("_law_letter", 3)]) (g := gName 3) (by rfl) sc_is.nd (pi_keys (pv 1)) (blkOk_by (own := [("_law_letter", 3)]) (N := n_is) (sc := defScope s_is) (by decide +kernel)) (fun _ _ _ _ _ => (pg_name (i := 3) sc_is.nd rfl (.inl rfl))) (fun _ _ _ _ _ => (pts_one (pt_cmpR op_gt (pe_callB call_len_str (by rfl) T.len (by decide +kernel) (pa_cons (pe_dget (hu_of hr) (pv 1) (pv 3) (fun _ _ => rfl)) pa_nil)) pe_int (nomark _)))) (fun _ _ _ _ _ => (pv 3)))) (pe_lst pa_nil) (nomark _)))))
        (pss_one (ps_ret (pe_cmpR (op_eqDK (K := K) rfl hr.units) (pv 0) (pe_tup (pa_cons pe_str (pa_cons pe_int pa_nil))) (nomark _))))
        pss_nil)
      (pss_cons (ps_if (PW.pt (pw_or (pt_not (pt_val (pe_callB call_isi (by rfl) T.isinstance (by decide +kernel) (pa_cons (pv 0) (pa_cons (pe_bltn (v := .ty "list") (by rfl) T.list (by decide +kernel) rfl) pa_nil))))) (pw_or1 (pt_not (pt_val (pe_callB call_isi (by rfl) T.isinstance (by decide +kernel) (pa_cons (pe_ix (ix_listK (K := K) rfl) (pv 0) pe_int (fun _ _ => rfl)) (pa_cons (pe_gv T.gMisreading (by rfl)) pa_nil))))))))
        (pss_one (ps_ret pe_bl))
        pss_nil)
      (pss_cons (ps_set (i := 2) sc_is.nd rfl (.inl rfl) (pe_callB cr_sortedS (by rfl) T.sorted (by decide +kernel) (pa_cons (pe_lock (pe_lc (own := [("_law_letter", 3)]) (g := gName 3) (by rfl) sc_is.nd (pi_keys (pv 1)) (blkOk_by (own := [("_law_letter", 3)]) (N := n_is) (sc := defScope s_is) (by decide +kernel)) (fun _ _ _ _ _ => (pg_name (i := 3) sc_is.nd rfl (.inl rfl))) (fun _ _ _ _ _ => pts_nil) (fun _ _ _ _ _ => (pe_callTy call_strS (by rfl) T.str (by decide +kernel) (pa_cons (pv 3) pa_nil))))) pa_nil)))
      (pss_cons (ps_if (pt_cmpR (op_neDK (K := K) rfl hr.units) (pe_lc (own := [("_law_letter", 3)]) (g := gName 3) (by rfl) sc_is.nd (pi_ownI D_iter hr (by decide) (pe_ix (ix_listK (K := K) rfl) (pv 0) pe_int (fun _ _ => rfl))) (blkOk_by (own := [("_law_letter", 3)]) (N := n_is) (sc := defScope s_is) (by decide +kernel)) (fun _ _ _ _ _ => (pg_name (i := 3) sc_is.nd rfl (.inl rfl))) (fun _ _ _ _ _ => pts_nil) (fun _ _ _ _ _ => (pv 3))) (pv 2) (nomark _))
        (pss_one (ps_ret pe_bl))
        pss_nil)
      (pss_cons (ps_if (pt_cmpR (op_neDK (K := K) rfl hr.units) (pe_fldK (K := K) rfl (pe_ix (ix_listK (K := K) rfl) (pv 0) pe_int (fun _ _ => rfl)) rfl) (pe_callTy (call_tuple_ofK (K := K) rfl) (by rfl) T.tuple (by decide +kernel) (pa_cons (pe_lc (own := [("_law_letter", 3)]) (g := gName 3) (by rfl) sc_is.nd (pi_list (pv 2)) (blkOk_by (own := [("_law_letter", 3)]) (N := n_is) (sc := defScope s_is) (by decide +kernel)) (fun _ _ _ _ _ => (pg_name (i := 3) sc_is.nd rfl (.inl rfl))) (fun _ _ _ _ _ => (pts_one (pt_cmpR op_ne (pe_dget (hu_of hr) (pv 1) (pv 3) (fun _ _ => rfl)) (pv 3) (nomark _)))) (fun _ _ _ _ _ => (pv 3))) pa_nil)) (nomark _))
        (pss_one (ps_ret pe_bl))
        pss_nil)
      (pss_one (ps_ret (pe_cmpR op_eq (pe_callTy (call_strO D_str hr (by decide)) (by rfl) T.str (by decide +kernel) (pa_cons (pe_ix (ix_listK (K := K) rfl) (pv 0) pe_int (fun _ _ => rfl)) pa_nil)) (pe_orT (pe_joinK (K := K) rfl pe_str (pe_lc (own := [("_law_letter", 3)]) (g := gName 3) (by rfl) sc_is.nd (pi_list (pv 2)) (blkOk_by (own := [("_law_letter", 3)]) (N := n_is) (sc := defScope s_is) (by decide +kernel)) (fun _ _ _ _ _ => (pg_name (i := 3) sc_is.nd rfl (.inl rfl))) (fun _ _ _ _ _ => pts_nil) (fun _ _ _ _ _ => (pe_op op_add_str (pe_op op_add_str (pv 3) pe_str) (pe_dget (hu_of hr) (pv 1) (pv 3) (fun _ _ => rfl)))))) (pe_one pe_str)) (nomark _))))))))), ?_⟩
    have back : ∀ H1 : Hp, Same H H1 → H hh = some (.tup [.str "image", .int 64]) → ∀ tq, H1 tq = none → rEqD K (.ref hh) (.ref tq) (upd H1 tq (.tup [.str "image", .int 64])) Q := fun H1 s1 ht tq nt =>
      eq_same (d := .tuple [.str "image", .int 64]) (.tup (.inl (.inl (same_put (s := s1) nt _ _ ht))) (.cons (.str _) (.cons (.int _) .nil))) (.tup (.inl (.inl upd_same)) (.cons (.str _) (.cons (.int _) .nil))) (by decide +kernel) (q _ (same_put (s := s1) nt))
    rcases h with ⟨h, ht⟩ | ⟨d, t, x, u, rfl, hd, g, hl, mx, eu⟩
    · rcases h with rfl | ⟨d, t, n, rfl, hd, g, hn, nb⟩
      · refine ⟨_, rfl, rfl, true, rfl, iteT (iteT ?_)⟩
        exact ⟨_, rfl, by show 2 ≤ sizeLine; decide, fun tq nt => back H (Same.refl H) ht tq nt⟩
      · refine ⟨_, rfl, rfl, false, rfl, iteF ?_⟩
        have lt := g.ct
        refine viaT (fun b H' => b = (!decide (longs t = [])) ∧ Same H H') (fun R' r' => ?_) ?_
        · refine ⟨d, _, hd, True.intro, fun od => ⟨_, rfl, d, od, rfl, .inl ⟨_, upd_same, fun D nD => lc_it walk_keys (fun i H2 => H2 = upd (upd H d (.frz od (.dK (encT t)))) D (.lst ((longs (t.take i)).map fun c => V.str (L1 c)))) rfl ?_ ?_ ?_⟩⟩⟩
          · rintro i H2 hi rfl
            rw [upd_ne (ne_of_none upd_same nD)]
            exact upd_same
          · rintro i z H2 H2' hi rfl ⟨rfl, kk, v, hk, rfl⟩
            obtain ⟨hit, rfl, rfl⟩ := enc_at hk
            have r1 : Rd (upd (upd H d (.frz od (.dK (encT t)))) D (.lst ((longs (t.take i)).map fun c => V.str (L1 c)))) d (.dK (encT t)) := .inr ⟨od, by rw [upd_ne (ne_of_none upd_same nD)]; exact upd_same⟩
            have e1 : lookT t t[i].1 = some t[i].2 := look_at g.nd hit
            have wl := g.ln _ (List.getElem_mem hit)
            refine ⟨rfl, _, rfl, _, rfl, d, V.str (Sx t[i].2), rfl, .inl ⟨_, Sum.inr (L1 t[i].1), r1, rfl, by rw [valV_enc, e1]; rfl⟩, _, rfl, by rw [Sx_len, sizeLine_eq]; omega, _, _, rfl, rfl, _, rfl, ?_⟩
            rw [Sx_len]
            have lt2 := longs_take hit
            by_cases c : 64 < t[i].2.length
            · rw [decide_eq_true (by show ((64 : Int) < (t[i].2.length : Int)); omega)]
              rw [if_pos c] at lt2
              refine iteT ⟨_, rfl, _, upd_same, ?_, ?_⟩
              · rw [List.length_map]
                have := longs_len (t.take i)
                rw [List.length_take] at this
                exact small1000 (by omega)
              · show _ = _
                rw [upd_upd, lt2, List.map_append]
                rfl
            · rw [decide_eq_false (by show ¬ ((64 : Int) < (t[i].2.length : Int)); omega)]
              rw [if_neg c, List.append_nil] at lt2
              refine iteF ?_
              show _ = _
              rw [lt2]
          · rintro H2 rfl
            rw [encT_len, List.take_length]
            have hdD : d ≠ D := ne_of_none upd_same nD
            refine ⟨by rw [upd_ne hdD]; exact upd_same, Nat.zero_le _, fun e ne => ?_⟩
            have nDe : D ≠ e := by
              refine ne_of_none (o := .lst ((longs t).map fun c => V.str (L1 c))) ?_ ne
              rw [upd_ne hdD.symm]
              exact upd_same
            have nDH : H D = none := by
              rw [← nD, upd_ne (Ne.symm hdD)]
            have sa : Same H (upd (upd (upd H d (.frz od (.dK (encT t)))) D (.lst ((longs t).map fun c => V.str (L1 c)))) d (.dK (encT t))) := fun b o e => by
              by_cases hb : b = d
              · rw [hb, upd_same, ← e, hb, hd]
              · rw [upd_ne hb, upd_ne (ne_of_none e nDH), upd_ne hb]
                exact e
            have sb := same_put (s := sa) (o := .lst []) ne
            refine ⟨.list ((longs t).map fun c => .str (L1 c)), .list [], .lst (SqL.of (xs := (longs t).map fun c => V.str (L1 c)) ?_) (dp_map (fun c => V.str (L1 c)) (fun c => PyData.str (L1 c)) (fun c => .str _) (longs t)), .lst (SqL.of upd_same) .nil, shaped_map (fun c => PyData.str (L1 c)) (longs t) (fun c hc => ?_) (fun _ => by simp [PyData.depth]), by decide +kernel, _, rfl, ?_⟩
            · rw [upd_ne nDe, upd_ne hdD.symm, upd_same]
            · simp only [PyData.canLay0]
              rw [L1_Sx]
              exact ok_sx fun y hy => by rw [List.mem_singleton.mp hy]; exact longs_lt g _ hc
            rw [eqv_nil]
            exact r' _ _ ⟨rfl, sb⟩
        · rintro b H1 ⟨rfl, sb⟩
          rw [decide_eq_false (fun z => nb ((longs_nil g).mp z))]
          refine iteT ?_
          exact ⟨_, rfl, by show 2 ≤ sizeLine; decide, fun tq nt => back _ sb ht tq nt⟩
    · refine ⟨_, rfl, rfl, false, rfl, iteF ?_⟩
      have lt := g.ct
      refine viaT (fun b H' => b = (!decide (longs t = [])) ∧ Same H H') (fun R' r' => ?_) ?_
      · refine ⟨d, _, hd, True.intro, fun od => ⟨_, rfl, d, od, rfl, .inl ⟨_, upd_same, fun D nD => lc_it walk_keys (fun i H2 => H2 = upd (upd H d (.frz od (.dK (encT t)))) D (.lst ((longs (t.take i)).map fun c => V.str (L1 c)))) rfl ?_ ?_ ?_⟩⟩⟩
        · rintro i H2 hi rfl
          rw [upd_ne (ne_of_none upd_same nD)]
          exact upd_same
        · rintro i z H2 H2' hi rfl ⟨rfl, kk, v, hk, rfl⟩
          obtain ⟨hit, rfl, rfl⟩ := enc_at hk
          have r1 : Rd (upd (upd H d (.frz od (.dK (encT t)))) D (.lst ((longs (t.take i)).map fun c => V.str (L1 c)))) d (.dK (encT t)) := .inr ⟨od, by rw [upd_ne (ne_of_none upd_same nD)]; exact upd_same⟩
          have e1 : lookT t t[i].1 = some t[i].2 := look_at g.nd hit
          have wl := g.ln _ (List.getElem_mem hit)
          refine ⟨rfl, _, rfl, _, rfl, d, V.str (Sx t[i].2), rfl, .inl ⟨_, Sum.inr (L1 t[i].1), r1, rfl, by rw [valV_enc, e1]; rfl⟩, _, rfl, by rw [Sx_len, sizeLine_eq]; omega, _, _, rfl, rfl, _, rfl, ?_⟩
          rw [Sx_len]
          have lt2 := longs_take hit
          by_cases c : 64 < t[i].2.length
          · rw [decide_eq_true (by show ((64 : Int) < (t[i].2.length : Int)); omega)]
            rw [if_pos c] at lt2
            refine iteT ⟨_, rfl, _, upd_same, ?_, ?_⟩
            · rw [List.length_map]
              have := longs_len (t.take i)
              rw [List.length_take] at this
              exact small1000 (by omega)
            · show _ = _
              rw [upd_upd, lt2, List.map_append]
              rfl
          · rw [decide_eq_false (by show ¬ ((64 : Int) < (t[i].2.length : Int)); omega)]
            rw [if_neg c, List.append_nil] at lt2
            refine iteF ?_
            show _ = _
            rw [lt2]
        · rintro H2 rfl
          rw [encT_len, List.take_length]
          have hdD : d ≠ D := ne_of_none upd_same nD
          refine ⟨by rw [upd_ne hdD]; exact upd_same, Nat.zero_le _, fun e ne => ?_⟩
          have nDe : D ≠ e := by
            refine ne_of_none (o := .lst ((longs t).map fun c => V.str (L1 c))) ?_ ne
            rw [upd_ne hdD.symm]
            exact upd_same
          have nDH : H D = none := by
            rw [← nD, upd_ne (Ne.symm hdD)]
          have sa : Same H (upd (upd (upd H d (.frz od (.dK (encT t)))) D (.lst ((longs t).map fun c => V.str (L1 c)))) d (.dK (encT t))) := fun b o e => by
            by_cases hb : b = d
            · rw [hb, upd_same, ← e, hb, hd]
            · rw [upd_ne hb, upd_ne (ne_of_none e nDH), upd_ne hb]
              exact e
          have sb := same_put (s := sa) (o := .lst []) ne
          refine ⟨.list ((longs t).map fun c => .str (L1 c)), .list [], .lst (SqL.of (xs := (longs t).map fun c => V.str (L1 c)) ?_) (dp_map (fun c => V.str (L1 c)) (fun c => PyData.str (L1 c)) (fun c => .str _) (longs t)), .lst (SqL.of upd_same) .nil, shaped_map (fun c => PyData.str (L1 c)) (longs t) (fun c hc => ?_) (fun _ => by simp [PyData.depth]), by decide +kernel, _, rfl, ?_⟩
          · rw [upd_ne nDe, upd_ne hdD.symm, upd_same]
          · simp only [PyData.canLay0]
            rw [L1_Sx]
            exact ok_sx fun y hy => by rw [List.mem_singleton.mp hy]; exact longs_lt g _ hc
          rw [eqv_nil]
          exact r' _ _ ⟨rfl, sb⟩
      rintro b H1 ⟨rfl, sb⟩
      rw [decide_eq_true ((longs_nil g).mpr g.bnd)]
      refine iteF ?_
      -- the kinds
      have hl1 := sb _ _ hl
      have M1 := (mx.lk eu).same sb
      have hd1 := sb _ _ hd
      have sm := g.small
      obtain ⟨dx, fa, fb, fc, hx, hfa, hfb, hfc⟩ := id M1.at_
      refine ⟨_, rfl, _, .ty "list", .type "list", .type "list", true, rfl, .ty _, .base (.lst hl1), kit_ty (by decide +kernel), true, rfl, iteF ?_⟩
      refine ⟨_, rfl, hh, [.ref x], 0, .ref x, rfl, rfl, SqL.of hl1, rfl, _, .ref CM, .ref CM, .ref CM, true, rfl, .own _, .base (.ins hx T.cl T.tA T.tB T.tC T.tD), T.mM, true, rfl, iteF ?_⟩
      refine nextS ?_
      dsimp only
      -- names
      refine viaAsg (fun w H2 => ∃ nm, w = .ref nm ∧ H2 nm = some (.lst (lets (keysOf t))) ∧ Same H1 H2) (fun R' r' => ?_) ?_
      · refine ⟨d, _, hd1, True.intro, fun od => ⟨_, rfl, d, od, rfl, .inl ⟨_, upd_same, fun D nD => lc_it walk_keys (fun i Hx => Hx = upd (upd H1 d (.frz od (.dK (encT t)))) D (.lst ((t.map fun q => V.str (L1 q.1)).take i))) rfl ?_ ?_ ?_⟩⟩⟩
        · rintro i Hx hi rfl
          rw [upd_ne (ne_of_none upd_same nD)]
          exact upd_same
        · rintro i z Hx Hx' hi rfl ⟨rfl, k, v, hk, rfl⟩
          obtain ⟨hit, rfl, rfl⟩ := enc_at hk
          refine ⟨rfl, _, rfl, _, rfl, acc_ok ?_ ?_⟩
          · rw [List.getElem?_map, List.getElem?_eq_getElem hit]
            rfl
          · rw [List.length_map]
            omega
        rintro Hx rfl
        have hdD : d ≠ D := ne_of_none upd_same nD
        rw [encT_len, List.take_of_length_le (by rw [List.length_map]; exact Nat.le_refl _)]
        refine ⟨by rw [upd_ne hdD]; exact upd_same, D, t.map fun q => L1 q.1, rfl, ?_, by rw [List.length_map]; omega, fun ys nm hp hs nn => ?_⟩
        · rw [List.map_map]
          refine SqL.of ?_
          rw [upd_ne (Ne.symm hdD)]
          exact upd_same
        have ey : ys = (keysOf t).map L1 := sorted_keys g.nd g.lt (fun _ _ => rfl) hp hs
        rw [ey, ← lets_ss]
        have nDH : H1 D = none := by
          rw [← nD, upd_ne (Ne.symm hdD)]
        have sa : Same H1 (upd (upd (upd H1 d (.frz od (.dK (encT t)))) D (.lst (t.map fun q => V.str (L1 q.1)))) d (.dK (encT t))) := fun b o e => by
          by_cases hb : b = d
          · rw [hb, upd_same, ← e, hb, hd1]
          · rw [upd_ne hb, upd_ne (ne_of_none e nDH), upd_ne hb]
            exact e
        have s1 := same_put (s := sa) (o := .lst (lets (keysOf t))) nn
        have hn : upd (upd (upd (upd H1 d (.frz od (.dK (encT t)))) D (.lst (t.map fun q => V.str (L1 q.1)))) d (.dK (encT t))) nm (.lst (lets (keysOf t))) nm = some (.lst (lets (keysOf t))) := upd_same
        generalize upd (upd (upd (upd H1 d (.frz od (.dK (encT t)))) D (.lst (t.map fun q => V.str (L1 q.1)))) d (.dK (encT t))) nm (.lst (lets (keysOf t))) = H2 at s1 hn ⊢
        clear nn sa nDH nD hdD
        exact r' _ _ ⟨nm, rfl, hn, s1⟩
      rintro w H2 ⟨nm, rfl, hn2, s2⟩
      refine atName ?_
      try dsimp only
      have M2 := M1.same s2
      have hl2 := s2 _ _ hl1
      have hx2 := s2 _ _ hx
      have hd2 := s2 _ _ hd1
      have kl := keysOf_len t
      have ll : (lets (keysOf t)).length < 1000 := by rw [lets_len]; omega
      have es := lets_ss (keysOf t)
      have ok1 : ∀ z ∈ (keysOf t).map L1, PyData.strOk z = true := ok_lets (keysOf_sub t)
      -- [.. for .. in made] != names
      refine ⟨_, rfl, hh, [.ref x], 0, .ref x, rfl, rfl, SqL.of hl2, rfl, x, dx, _, rfl, hx2, fun k hk => ⟨x, t, rfl, M2, fun it a ni hi ha => ⟨it, a, rfl, hi, upd_same, ?_⟩⟩⟩
      rw [dropH_upd ni]
      refine fun D nD => lc_it (walk_tup (K := K) (a := a) (xs := lets (keysOf t))) (fun i H3 => H3 = upd H2 D (.lst ((lets (keysOf t)).take i))) rfl ?_ ?_ ?_
      · rintro i H3 hi rfl
        exact .inl (.inl (by rw [upd_ne (ne_of_none ha nD)]; exact ha))
      · rintro i z H3 H3' hi rfl ⟨rfl, hz⟩
        exact ⟨rfl, _, rfl, acc_ok hz ll⟩
      rintro H3 rfl
      rw [List.take_length]
      have s3 := same_put (s := Same.refl H2) (o := .lst (lets (keysOf t))) nD
      have hn3 : upd H2 D (.lst (lets (keysOf t))) nm = some (.lst (lets (keysOf t))) := by rw [upd_ne (ne_of_none hn2 nD)]; exact hn2
      refine ⟨_, rfl, ne_strs ok1 (SqL.of (by rw [← es]; exact upd_same)) (SqL.of (by rw [← es]; exact hn3)) ⟨false, rfl, iteF ?_⟩⟩
      show tSeq _ _ _ _ (upd H2 D (.lst (lets (keysOf t))))
      generalize upd H2 D (.lst (lets (keysOf t))) = H3 at s3 hn3 ⊢
      clear nD ha hk hi ni it k hn2
      have M3 := M2.same s3
      have hl3 := s3 _ _ hl2
      have hx3 := s3 _ _ hx2
      have hd3 := s3 _ _ hd2
      have hc3 := s3 _ _ (s2 _ _ hfc)
      -- made.changed != tuple(..)
      refine ⟨_, rfl, hh, [.ref x], 0, .ref x, rfl, rfl, SqL.of hl3, rfl, x, CM, dx, _, _, rfl, hx3, T.cl, T.nC, f3_C fa fb fc, _, rfl, nm, rfl, ⟨_, SqL.of hn3⟩, fun D nD => lc_it (walk_list (K := K) (a := nm) (xs := lets (keysOf t))) (fun i H6 => H6 = upd H3 D (.lst (lets (((keysOf t).take i).filter fun c => decide (lookT t c ≠ some [c]))))) rfl ?_ ?_ ?_⟩
      · rintro i H6 hi rfl
        exact SqL.of (by rw [upd_ne (ne_of_none hn3 nD)]; exact hn3)
      · rintro i z H6 H6' hi rfl ⟨rfl, hz⟩
        obtain ⟨hik, rfl⟩ := lets_get hz
        obtain ⟨y, e1⟩ := Option.isSome_iff_exists.mp (keysOf_mem.mp (List.getElem_mem hik)).2
        have s6 := same_put (s := Same.refl H3) (o := .lst (lets (((keysOf t).take i).filter fun c => decide (lookT t c ≠ some [c])))) nD
        refine ⟨rfl, _, rfl, _, rfl, d, V.str (Sx y), rfl, .inl ⟨_, Sum.inr (L1 (keysOf t)[i]), .inl (s6 _ _ hd3), rfl, by rw [valV_enc, e1]; rfl⟩, _, rfl, rfl, _, rfl, ?_⟩
        have hs := chg_succ (u := t) hik
        by_cases e : y = [(keysOf t)[i]]
        · have e3 : lookT t (keysOf t)[i] = some [(keysOf t)[i]] := by rw [e1, e]
          rw [if_neg (by simp [e3]), List.append_nil] at hs
          rw [decide_eq_true (show V.str (Sx y) = V.str (L1 (keysOf t)[i]) by rw [e]; rfl)]
          refine iteF ?_
          rw [hs]
        · have e3 : ¬ lookT t (keysOf t)[i] = some [(keysOf t)[i]] := by
            rw [e1]
            exact fun z => e (Option.some.inj z)
          rw [if_pos (by simpa using e3)] at hs
          rw [decide_eq_false (show ¬ V.str (Sx y) = V.str (L1 (keysOf t)[i]) from fun z => e (Sx_inj (V.str.inj z)))]
          refine iteT ?_
          refine ⟨_, rfl, _, upd_same, ?_, ?_⟩
          · rw [lets_len]
            have h1 := List.length_filter_le (fun c => decide (lookT t c ≠ some [c])) ((keysOf t).take i)
            have h3 : ((keysOf t).take i).length ≤ (keysOf t).length := by rw [List.length_take]; omega
            exact small1000 (by omega)
          · rw [upd_upd, hs, lets_snoc]
      rintro H6 rfl
      have ec : lets (((keysOf t).take (lets (keysOf t)).length).filter fun c => decide (lookT t c ≠ some [c])) = lets (chg t) := by rw [lets_len, List.take_length]; rfl
      rw [ec]
      refine ⟨D, _, rfl, .inl ⟨SqL.of upd_same, fun l nl => ?_⟩⟩
      have s5 := same_put (s := same_put (s := Same.refl H3) (o := .lst (lets (chg t))) nD) (o := .tup (lets (chg t))) nl
      have hn5 := s5 _ _ hn3
      have hc5 := s5 _ _ hc3
      have ok3 : ∀ z ∈ (chg t).map L1, PyData.strOk z = true := ok_lets fun c hc => keysOf_sub t c (List.mem_filter.mp hc).1
      have e6 := lets_ss (chg t)
      refine ne_strsT ok3 (.inl (.inl (by rw [← e6]; exact hc5))) (.inl (.inl (by rw [← e6]; exact upd_same))) ⟨false, rfl, iteF ?_⟩
      have M5 := M3.same s5
      have hl5 := s5 _ _ hl3
      have hx5 := s5 _ _ hx3
      have hd5 := s5 _ _ hd3
      refine nextS ?_
      dsimp only
      show tRet _ _ _ (upd (upd H3 D (.lst (lets (chg t)))) l (.tup (lets (chg t))))
      generalize upd (upd H3 D (.lst (lets (chg t)))) l (.tup (lets (chg t))) = H5 at s5 hn5 M5 hl5 hx5 hd5 ⊢
      clear nD nl hc5
      have s15 : Same H H5 := fun b o e => s5 _ _ (s3 _ _ (s2 _ _ (sb _ _ e)))
      -- the text
      have q5 : ∀ H', Same H5 H' → Q (.bl true) H' := fun H' s => q H' fun b o e => s _ _ (s15 _ _ e)
      refine ⟨_, rfl, hh, [.ref x], 0, .ref x, rfl, rfl, SqL.of hl5, rfl, x, dx, _, rfl, hx5, x, t, rfl, M5, sm, fun H7 s7 => ⟨_, rfl, ?_⟩⟩
      have hn7 := s7 _ _ hn5
      have hd7 := s7 _ _ hd5
      have q7 : ∀ H', Same H7 H' → Q (.bl true) H' := fun H' s => q5 H' fun b o e => s _ _ (s7 _ _ e)
      refine ⟨⟨_, rfl⟩, _, rfl, nm, rfl, ⟨_, SqL.of hn7⟩, fun D nD => lc_it (walk_list (K := K) (a := nm) (xs := lets (keysOf t))) (fun i Hy => Hy = upd H7 D (.lst (((wordsM t (keysOf t)).map V.str).take i))) rfl ?_ ?_ ?_⟩
      · rintro i Hy hi rfl
        exact SqL.of (by rw [upd_ne (ne_of_none hn7 nD)]; exact hn7)
      · rintro i z Hy Hy2 hi rfl ⟨rfl, hz⟩
        obtain ⟨hik, rfl⟩ := lets_get hz
        obtain ⟨s2, e1⟩ := Option.isSome_iff_exists.mp (keysOf_mem.mp (List.getElem_mem hik)).2
        have g4 := sm _ _ e1
        have s14 := same_put (s := Same.refl H7) (o := .lst (((wordsM t (keysOf t)).map V.str).take i)) nD
        have hw : (L1 (keysOf t)[i] ++ (":" : Str)) ++ Sx s2 = wordM (keysOf t)[i] s2 := by
          rw [L1_Sx, colon, sx_add, sx_add]
          rfl
        refine ⟨rfl, _, rfl, _, _, rfl, rfl, by show 2 ≤ sizeLine; decide, _, rfl, _, rfl, d, V.str (Sx s2), rfl, .inl ⟨_, Sum.inr (L1 (keysOf t)[i]), .inl (s14 _ _ hd7), rfl, by rw [valV_enc, e1]; rfl⟩, _, _, rfl, rfl, ?_, ?_⟩
        · rw [Sx_len]
          show 2 + s2.length ≤ sizeLine
          exact Nat.le_of_lt (small1000 (by omega))
        · rw [hw]
          refine acc_ok ?_ ?_
          · unfold wordsM
            rw [List.getElem?_map, List.getElem?_map, List.getElem?_eq_getElem hik]
            show some (V.str (wordM (keysOf t)[i] ((lookT t (keysOf t)[i]).getD []))) = _
            rw [e1]
            rfl
          · unfold wordsM
            rw [List.length_map, List.length_map]
            omega
      rintro Hy rfl
      have eW : ((wordsM t (keysOf t)).map V.str).take (lets (keysOf t)).length = (wordsM t (keysOf t)).map V.str := List.take_of_length_le (by unfold wordsM; rw [List.length_map, List.length_map, lets_len]; exact Nat.le_refl _)
      rw [eW]
      have s14 := same_put (s := Same.refl H7) (o := .lst ((wordsM t (keysOf t)).map V.str)) nD
      have sz := words_sum sm
      refine ⟨_, D, wordsM t (keysOf t), rfl, rfl, .inl (SqL.of upd_same), sz, ?_⟩
      by_cases e : keysOf t = []
      · have e1 : strM t = "-" := if_pos e
        have e2 : wordsM t (keysOf t) = [] := by rw [e]; rfl
        refine ⟨false, ⟨?_, ?_⟩, iteF ?_⟩
        · rw [e2]
          exact Nat.zero_le _
        · rw [e2]
          rfl
        · refine ⟨rfl, ?_⟩
          rw [e1, decide_eq_true rfl]
          exact q7 _ s14
      · have e1 : strM t = Txt.join " " (wordsM t (keysOf t)) := if_neg e
        refine ⟨true, ⟨?_, ?_⟩, iteT ?_⟩
        · exact len_join_le (wordsM t (keysOf t)) sz
        · have z := PyProof.Rows.len_join_ge_sum " " (wordsM t (keysOf t))
          have z2 := words_pos e
          have z3 : ((Txt.join " " (wordsM t (keysOf t))).length : Int) ≠ 0 := by omega
          exact (bne_iff_ne.mpr z3).symm
        · refine ⟨rfl, ?_⟩
          rw [e1, decide_eq_true rfl]
          exact q7 _ s14
end
end V8

set_option Elab.async false
set_option linter.all false
set_option maxRecDepth 100000
set_option maxHeartbeats 16000000
/-! Powers asked by lambdas that are kept in a list. -/
namespace LamX
open PySem PySem.Spec PyProof.Rows L2
/-- at f stands a lambda of X that answers as t says -/
def LamK (X : Cx) (k : Nat) (t : XK → TE) (H : Hp) (f : Addr) : Prop := ∃ (params : Arguments) (body : Expr) (scope : Scope), LamOk X k params body scope t ∧ LamO X H f params body scope
theorem LamK.ext {X : Cx} {k : Nat} {t : XK → TE} {H H' : Hp} {f : Addr} (l : LamK X k t H f) (e : ExtN H H') : LamK X k t H' f := by
  obtain ⟨p, b, s, o, h⟩ := l
  exact ⟨p, b, s, o, h.ext e⟩
end LamX
namespace V8
open PySem PySem.Spec PyProof.Rows L2 LamX
abbrev s_powers_right : Stmt := topS 47
abbrev n_powers_right : List Str := ["_law_table_here", "_law_made", "_law_asked", "_law_k", "_law_ask"]
theorem sc_powers_right : FnScope ["_law_table_here", "_law_made", "_law_asked", "_law_k", "_law_ask"] ["_law_table_here"] (defScope s_powers_right) := ⟨rfl, rfl, rfl, by decide +kernel, rfl, by decide +kernel, by decide +kernel⟩
section
variable {X : Cx} {g c P : Addr} {T : List (Addr × Str)} {j k : Nat} {params : Arguments} {body : Expr} {scope : Scope} {t : XK → TE} {pos : Pos} {qn : Str}
/-- a lambda as a value, with what it answers -/
theorem pe_lamVT (TB : TabT X.base X.mg T qn c P) (hcode : X.env.code = .ref c) (hq : X.env.qual = qn) (L : LamS X.env.scope scope) (hdef : defaultsOf params X.env = ([], []))
    (hbind : ∀ (q : Str) (cl : List (Str × Addr)) (pm cv ctv : Value), bindArgs (PySem.W.kla_fn "<lambda>" q params body scope cl pm cv ctv) ⟨[], []⟩ = pure [])
    (hbody : ∀ (A : Around) (outer : List Env) (s : Shared) (H : Hp) (E : XK) (f c' : Addr), Room k (A.deeper (lamEnv X scope s.heap.objs.size f c')) → PE (lamCx X A outer s H E scope f c') body (t E)) :
    PE X (.Lambda params body scope pos) (fun _ H Q => Tabs T H ∧ ∀ f H1, ExtN H H1 → Tabs T H1 → H f = none → LamK X k t H1 f → Q (.ref f) H1) := by
  subst hq
  exact ⟨fun pins s σ H Q I h => (pe_lamV TB.tb hcode TB.mem TB.one L hdef).run pins s σ H Q I ⟨h.1, fun f H1 e tb n l => h.2 f H1 e tb n ⟨_, _, _, ⟨L, hbind, hbody⟩, l⟩⟩⟩
end
/-- made ** n, made being the second name -/
def tPw (K : PySem.W.Frag) (CM CT CN : Addr) (n : Int) : XK → TE := fun E => tOp (rPowOwn K CM (spPowX CM CT CN) E) (tVar 1) (tC (.int n))
/-- eight lambdas -/
theorem eight {X : Cx} {k : Nat} {K : PySem.W.Frag} {CM CT CN f0 f1 f2 f3 f4 f5 f6 f7 : Addr} {h0 h1 h2 h3 h4 h5 h6 h7 : Hp} (L0 : LamK X k (tPw K CM CT CN 1) h0 f0) (L1 : LamK X k (tPw K CM CT CN 2) h1 f1) (L2 : LamK X k (tPw K CM CT CN 3) h2 f2) (L3 : LamK X k (tPw K CM CT CN 4) h3 f3) (L4 : LamK X k (tPw K CM CT CN 5) h4 f4) (L5 : LamK X k (tPw K CM CT CN 6) h5 f5) (L6 : LamK X k (tPw K CM CT CN 7) h6 f6) (L7 : LamK X k (tPw K CM CT CN 8) h7 f7) (e1 : ExtN h0 h1) (e2 : ExtN h1 h2) (e3 : ExtN h2 h3) (e4 : ExtN h3 h4) (e5 : ExtN h4 h5) (e6 : ExtN h5 h6) (e7 : ExtN h6 h7) :
    ∀ (i : Nat) (fi : Addr), [f0, f1, f2, f3, f4, f5, f6, f7][i]? = some fi → LamK X k (tPw K CM CT CN ((i : Int) + 1)) h7 fi := by
  intro i fi h
  match i, h with
  | 0, h => cases Option.some.inj h; exact (((((((L0).ext e1).ext e2).ext e3).ext e4).ext e5).ext e6).ext e7
  | 1, h => cases Option.some.inj h; exact ((((((L1).ext e2).ext e3).ext e4).ext e5).ext e6).ext e7
  | 2, h => cases Option.some.inj h; exact (((((L2).ext e3).ext e4).ext e5).ext e6).ext e7
  | 3, h => cases Option.some.inj h; exact ((((L3).ext e4).ext e5).ext e6).ext e7
  | 4, h => cases Option.some.inj h; exact (((L4).ext e5).ext e6).ext e7
  | 5, h => cases Option.some.inj h; exact ((L5).ext e6).ext e7
  | 6, h => cases Option.some.inj h; exact (L6).ext e7
  | 7, h => cases Option.some.inj h; exact L7
  | n + 8, h => simp at h
theorem GoodI.abc {cs s : List Nat} (g : GoodI cs s) (h : ∀ c ∈ cs, isLt c) : GoodI abc s := ⟨g.1, g.2.1, fun d hd => abc_mem.mpr (h d (g.2.2 d hd))⟩
theorem GoodT.abc {cs : List Nat} {t : Tab} (g : GoodT cs t) (h : ∀ c ∈ cs, isLt c) : GoodT abc t := ⟨g.nd, fun q hq => abc_mem.mpr (h _ (g.key q hq)), fun q hq => (g.img q hq).abc h⟩
theorem GoodT.tbN {cs : List Nat} {t : Tab} (g : GoodT cs t) (h : ∀ c ∈ cs, isLt c) (l : t.length ≤ 12) : TbN 4 t := ⟨g.nd, fun q hq => h _ (g.key q hq), fun q hq d hd => h _ ((g.img q hq).2.2 d hd), fun q hq => (g.img q hq).2.1, l⟩
def spPowers (TL : List (Addr × Str)) : Sp := fun vs H Q _ => ∃ (d : Addr) (t : Tab) (cs : List Nat), vs = [.ref d] ∧ H d = some (.dK (encT t)) ∧ GoodT cs t ∧ cs.length ≤ 12 ∧ (∀ c ∈ cs, isLt c) ∧ t.length ≤ 12 ∧ Tabs TL H ∧ ∀ H', ExtN H H' → Tabs TL H' → Q (.bl true) H'
/-- the law's facts -/
structure Tp (K : PySem.W.Frag) (mg : Str → Option Value) (CM CJ CB CN CT CR : Addr) : Prop extends Th K mg CM CJ CB CN CT CR where
  nrr : PySem.W.findIn K (.ref CM) "__rrshift__" = some none
  ni : NoIs K CM
section
variable {P : Program} {w : World} {K : PySem.W.Frag} {mg : Str → Option Value} {base : Heap} {CM CJ CB CN CT CR g c PT : Addr} {TL : List (Addr × Str)}
theorem ok_powers {f : Addr} {fd : FuncData} (F : FunC K "_law_powers_right" "_law_powers_right" s_powers_right f c fd) (T : Tp K mg CM CJ CB CN CT CR) (D_is : Df P w K mg base 4 "_law_is" (spIs CM)) (D_power : Df P w K mg base 3 "_law_power" spPower) (D_heard : HearD K mg g) (TB : TabT base mg TL (("_law_powers_right" : Str) ++ ".<locals>.") c PT)
    (D_pow : BoX P w K mg base 8 CM "__pow__" (spPowX CM CT CN)) (D_mk : Mkr P w K mg base CM) : FnOk P w K mg base CX0 12 f fd ["_law_table_here"] (spPowers TL) := by
  refine F.ok sc_powers_right (fun vs H Q E h => ?_) (fun A outer s H vs Q E hr h => ?_)
  · obtain ⟨d, t, cs, rfl, _⟩ := h
    rfl
  · obtain ⟨d, t, cs, rfl, hd, G, h12, hlt, t12, tb, q⟩ := h
    refine ⟨_, (pss_cons (ps_set (i := 1) sc_powers_right.nd rfl (.inr rfl) (pe_mk1 D_mk hr (by decide) (by rfl) (pa_cons (pv 0) pa_nil)))
      (pss_cons (ps_set (i := 2) sc_powers_right.nd rfl (.inl rfl) (pe_lst (pa_cons (pe_lamVT (k := 8) (t := tPw K CM CT CN 1) TB rfl rfl (lamS_by (sc := defScope s_powers_right) (by decide +kernel)) (by rfl) (fun _ _ _ _ _ => rfl) (fun A2 o2 s2 H2 E2 f2 c2 hr2 => (pe_op (op_powX (K := K) rfl D_pow T.ip (passTk (takes_of rfl rfl rfl rfl)) hr2 (by decide)) (pv 1) pe_int))) (pa_cons (pe_lamVT (k := 8) (t := tPw K CM CT CN 2) TB rfl rfl (lamS_by (sc := defScope s_powers_right) (by decide +kernel)) (by rfl) (fun _ _ _ _ _ => rfl) (fun A2 o2 s2 H2 E2 f2 c2 hr2 => (pe_op (op_powX (K := K) rfl D_pow T.ip (passTk (takes_of rfl rfl rfl rfl)) hr2 (by decide)) (pv 1) pe_int))) (pa_cons (pe_lamVT (k := 8) (t := tPw K CM CT CN 3) TB rfl rfl (lamS_by (sc := defScope s_powers_right) (by decide +kernel)) (by rfl) (fun _ _ _ _ _ => rfl) (fun A2 o2 s2 H2 E2 f2 c2 hr2 => (pe_op (op_powX (K := K) rfl D_pow T.ip (passTk (takes_of rfl rfl rfl rfl)) hr2 (by decide)) (pv 1) pe_int))) (pa_cons (pe_lamVT (k := 8) (t := tPw K CM CT CN 4) TB rfl rfl (lamS_by (sc := defScope s_powers_right) (by decide +kernel)) (by rfl) (fun _ _ _ _ _ => rfl) (fun A2 o2 s2 H2 E2 f2 c2 hr2 => (pe_op (op_powX (K := K) rfl D_pow T.ip (passTk (takes_of rfl rfl rfl rfl)) hr2 (by decide)) (pv 1) pe_int))) (pa_cons (pe_lamVT (k := 8) (t := tPw K CM CT CN 5) TB rfl rfl (lamS_by (sc := defScope s_powers_right) (by decide +kernel)) (by rfl) (fun _ _ _ _ _ => rfl) (fun A2 o2 s2 H2 E2 f2 c2 hr2 => (pe_op (op_powX (K := K) rfl D_pow T.ip (passTk (takes_of rfl rfl rfl rfl)) hr2 (by decide)) (pv 1) pe_int))) (pa_cons (pe_lamVT (k := 8) (t := tPw K CM CT CN 6) TB rfl rfl (lamS_by (sc := defScope s_powers_right) (by decide +kernel)) (by rfl) (fun _ _ _ _ _ => rfl) (fun A2 o2 s2 H2 E2 f2 c2 hr2 => (pe_op (op_powX (K := K) rfl D_pow T.ip (passTk (takes_of rfl rfl rfl rfl)) hr2 (by decide)) (pv 1) pe_int))) (pa_cons (pe_lamVT (k := 8) (t := tPw K CM CT CN 7) TB rfl rfl (lamS_by (sc := defScope s_powers_right) (by decide +kernel)) (by rfl) (fun _ _ _ _ _ => rfl) (fun A2 o2 s2 H2 E2 f2 c2 hr2 => (pe_op (op_powX (K := K) rfl D_pow T.ip (passTk (takes_of rfl rfl rfl rfl)) hr2 (by decide)) (pv 1) pe_int))) (pa_cons (pe_lamVT (k := 8) (t := tPw K CM CT CN 8) TB rfl rfl (lamS_by (sc := defScope s_powers_right) (by decide +kernel)) (by rfl) (fun _ _ _ _ _ => rfl) (fun A2 o2 s2 H2 E2 f2 c2 hr2 => (pe_op (op_powX (K := K) rfl D_pow T.ip (passTk (takes_of rfl rfl rfl rfl)) hr2 (by decide)) (pv 1) pe_int))) pa_nil))))))))))
      (pss_cons (ps_for PassesOwn.never rfl (pi_enum (by rfl) T.enumerate (pa_cons (pv 2) pa_nil)) (pg_tup (by rfl) (pgs_cons (pg_name (i := 3) sc_powers_right.nd rfl (.inl rfl)) (pgs_cons (pg_name (i := 4) sc_powers_right.nd rfl (.inl rfl)) pgs_nil)))
        (pss_one (ps_if (pt_not (pt_val (pe_c D_is hr (by decide) (by rfl) (pa_cons (pe_heardK (k := 8) T.toTh D_heard hr (by decide) (by rfl) (pa_cons (pv 4) pa_nil)) (pa_cons (pe_c D_power hr (by decide) (by rfl) (pa_cons (pv 0) (pa_cons (pe_op op_add (pv 3) pe_int) pa_nil))) pa_nil)))))
          (pss_one (ps_ret pe_bl))
          pss_nil)))
      (pss_one (ps_ret (pe_cmpR (op_eqDK (K := K) rfl hr.units) (pe_heard (k := 8) T.toTh D_heard TB hr (by decide) rfl rfl (by rfl) (lamS_by (sc := defScope s_powers_right) (by decide +kernel)) (by rfl) (fun _ _ _ _ _ => rfl) (fun A2 o2 s2 H2 E2 f2 c2 hr2 => (pe_op (op_powX (K := K) rfl D_pow T.ip (passTk (takes_of rfl rfl rfl rfl)) hr2 (by decide)) (pv 1) pe_int))) (pe_tup (pa_cons pe_str (pa_cons pe_str pa_nil))) (nomark _))))))), ?_⟩
    have A1 := G.abc hlt
    have g4 := G.tbN hlt t12
    have c12 : ∀ c ∈ abc, isLt c := fun c hc => abc_mem.mp hc
    have ou := good_over G
    refine ⟨_, rfl, d, abc, [], t, rfl, hd, A1, ⟨by rw [toldT_nil A1.nd]; exact t12, by rw [abc_len]; omega⟩, c12, fun c h => (nomatch h), by decide, fun x H1 nx m1 s1 => ?_⟩
    have m := m1.mis
    rw [toldT_nil A1.nd] at m
    replace tb := tb.ext s1
    replace hd := s1 _ _ hd
    have q1 : ∀ H', ExtN H1 H' → Tabs TL H' → Q (.bl true) H' := fun H' e t => q H' ((ExtN.of s1).trans e) t
    clear m1 nx s1 q
    refine atName ?_
    try dsimp only
    -- the lambdas
    refine ⟨tb, fun f0 Ha0 e0 tb0 n0 L0 => ⟨tb0, fun f1 Ha1 e1 tb1 n1 L1 => ⟨tb1, fun f2 Ha2 e2 tb2 n2 L2 => ⟨tb2, fun f3 Ha3 e3 tb3 n3 L3 => ⟨tb3, fun f4 Ha4 e4 tb4 n4 L4 => ⟨tb4, fun f5 Ha5 e5 tb5 n5 L5 => ⟨tb5, fun f6 Ha6 e6 tb6 n6 L6 => ⟨tb6, fun f7 Ha7 e7 tb7 n7 L7 => ⟨by show 8 ≤ sizeLine; decide, fun a na => ?_⟩⟩⟩⟩⟩⟩⟩⟩⟩
    have LS := eight L0 L1 L2 L3 L4 L5 L6 L7 e1 e2 e3 e4 e5 e6 e7
    obtain ⟨fs, efs⟩ : ∃ fs, fs = [f0, f1, f2, f3, f4, f5, f6, f7] := ⟨_, rfl⟩
    have fl : fs.length = 8 := by rw [efs]; rfl
    have hl : ([V.ref f0, V.ref f1, V.ref f2, V.ref f3, V.ref f4, V.ref f5, V.ref f6, V.ref f7] : List V) = fs.map V.ref := by rw [efs]; rfl
    rw [← efs] at LS
    have eA : ExtN H1 Ha7 := ((((((e0.trans e1).trans e2).trans e3).trans e4).trans e5).trans e6).trans e7
    refine atName ?_
    try dsimp only
    show tSeq _ _ _ _ (upd Ha7 a (.lst [V.ref f0, V.ref f1, V.ref f2, V.ref f3, V.ref f4, V.ref f5, V.ref f6, V.ref f7]))
    rw [hl]
    have sA : Same Ha7 (upd Ha7 a (.lst (fs.map V.ref))) := same_put (s := Same.refl Ha7) na
    have hA : upd Ha7 a (.lst (fs.map V.ref)) a = some (.lst (fs.map V.ref)) := upd_same
    replace eA := eA.trans (ExtN.of sA)
    have tbA := tb7.ext sA
    replace LS := fun i fi h => (LS i fi h).ext (ExtN.of sA)
    generalize upd Ha7 a (.lst (fs.map V.ref)) = HA at sA hA eA tbA LS ⊢
    clear hl efs L0 L1 L2 L3 L4 L5 L6 L7 e0 e1 e2 e3 e4 e5 e6 e7 tb0 tb1 tb2 tb3 tb4 tb5 tb6 tb7 n0 n1 n2 n3 n4 n5 n6 n7 na sA
    have hdA := eA _ _ hd (fun _ z => nomatch z)
    have mA := m.ext eA
    have bnd4 : Bnd 64 (lk t) := (g4.le (by decide)).bnd
    refine ⟨_, rfl, a, _, rfl, SqL.of hA, for_it (walk_enum (K := K) (a := a) (xs := fs.map V.ref)) (fun i σ H2 => (∃ v3 v4 : Option V, σ = [some (.ref d), some (.ref x), some (.ref a), v3, v4]) ∧ Same HA H2) ⟨⟨none, none, rfl⟩, Same.refl _⟩ (fun i σ H2 hi h => SqL.of (h.2 _ _ hA)) ?_ ?_⟩
    · rintro i z σ H2 H2' hi ⟨⟨v3, v4, rfl⟩, s2⟩ ⟨tq, x', y, rfl, ntq, rfl, ex, ey⟩
      have hi8 : i < 8 := by
        rw [List.length_map, fl] at hi
        exact hi
      obtain rfl : V.int (i : Int) = x' := Option.some.inj ex
      obtain ⟨fi, ef, rfl⟩ : ∃ fi, fs[i]? = some fi ∧ y = V.ref fi := by
        have ey : (fs.map V.ref)[i]? = some y := ey
        rw [List.getElem?_map] at ey
        cases e : fs[i]? with
        | none =>
          rw [e] at ey
          cases ey
        | some fi =>
          rw [e] at ey
          exact ⟨fi, rfl, (Option.some.inj ey).symm⟩
      have s3 : Same HA (upd H2 tq (.tup [.int (i : Int), .ref fi])) := same_put (s := s2) ntq
      refine ⟨tq, [.int (i : Int), .ref fi], rfl, .inl (.inl upd_same), rfl, _, _, rfl, _, _, rfl, rfl, ?_⟩
      generalize upd H2 tq (.tup [.int (i : Int), .ref fi]) = H3 at s3 ⊢
      clear s2 ntq ex ey
      dsimp only [List.set_cons_succ, List.set_cons_zero]
      have m3 := mA.same s3
      have hd3 := s3 _ _ hdA
      obtain ⟨pp, bb, sc, ok, lo⟩ := (LS i fi ef).ext (ExtN.of s3)
      change tLamV _ 8 (TTheard CB CN CT) (tCons (tVar 4) tNil) _ H3 _
      refine via (fun v H' => Same H3 H' ∧ (((∀ j, j ≤ i → Bnd 64 (pF (lk t) j)) ∧ ∃ l z t', v = .ref l ∧ H' l = some (.lst [.ref z]) ∧ MisAt CM H' z t' ∧ lk t' = pF (lk t) i) ∨ (¬ (∀ j, j ≤ i → Bnd 64 (pF (lk t) j)) ∧ ∃ l, v = .ref l ∧ H' l = some (.tup [.str "image", .int 64])))) (fun R' r' => ?_) ?_
      · refine ⟨_, rfl, fi, pp, bb, sc, _, rfl, ok, lo, fun R H4 hR s4 => ?_⟩
        obtain ⟨dx, fa, hx⟩ := (m3.same s4).ins
        refine ⟨_, rfl, x, dx, fa, (i : Int) + 1, rfl, hx, rfl, x, (i : Int) + 1, t, cs, rfl, m3.same s4, .inl ⟨i, by omega, by omega, bnd4, ou, h12, fun all z H5 t5 mz ez s5 => hR _ _ fun l H6 s6 nl hl => r' _ _ ⟨fun b o e => s6 _ _ (s5 _ _ (s4 _ _ e)), .inl ⟨all, l, z, t5, rfl, hl, mz.same s6, ez⟩⟩, fun nall dd H5 nd s5 hdd => ⟨dd, rfl, .inr (.inr ⟨rfl, _, _, hdd, fun l H6 s6 hl => r' _ _ ⟨fun b o e => s6 _ _ (s5 _ _ (s4 _ _ e)), .inr ⟨nall, l, rfl, hl⟩⟩⟩)⟩⟩⟩
      · rintro v H4 ⟨s4, hv⟩
        have hd4 := s4 _ _ hd3
        refine ⟨_, rfl, _, rfl, _, _, rfl, rfl, ?_⟩
        have done : ∀ H', Same H4 H' → Same HA H' := fun H' s b o e => s _ _ (s4 _ _ (s3 _ _ e))
        rcases hv with ⟨all, l, z, t5, rfl, hl, mz, ez⟩ | ⟨nall, l, rfl, hl⟩
        · refine ⟨d, t, i, rfl, by omega, hd4, g4.le (by decide), fun _ d2 t2 H5 s5 h2 g2 e2 => ?_, fun n => absurd all n⟩
          exact ⟨l, .ref d2, rfl, fun H6 s6 => ⟨true, rfl, iteF ⟨⟨_, _, rfl⟩, fun b o e => s6 _ _ (s5 _ _ (s4 _ _ (s3 _ _ e)))⟩⟩, .inr ⟨d2, t2, z, t5, rfl, h2, g2, s5 _ _ hl, mz.same s5, by rw [ez, e2]⟩⟩
        · refine ⟨d, t, i, rfl, by omega, hd4, g4.le (by decide), fun all => absurd all nall, fun _ H5 s5 => ?_⟩
          exact ⟨l, .non, rfl, fun H6 s6 => ⟨true, rfl, iteF ⟨⟨_, _, rfl⟩, fun b o e => s6 _ _ (s5 _ _ (s4 _ _ (s3 _ _ e)))⟩⟩, .inl ⟨.inl rfl, s5 _ _ hl⟩⟩
    · rintro σ H2 ⟨⟨v3, v4, rfl⟩, s2⟩
      have m2 := mA.same s2
      refine ⟨tbA.ext s2, fun H3 e3 tb3 => fun R H4 hR s4 => ?_⟩
      have m4 := (m2.ext e3).same s4
      obtain ⟨dx, fa, hx⟩ := m4.ins
      refine ⟨_, rfl, x, dx, fa, 0, rfl, hx, rfl, x, 0, t, cs, rfl, m4, .inr ⟨rfl, fun dd H5 nd s5 hdd => ⟨dd, rfl, .inr (.inl ⟨rfl, 0, by decide, hdd, fun l H6 s6 hl => ⟨by show 2 ≤ sizeLine; decide, fun tq ntq => ?_⟩⟩)⟩⟩⟩
      have s46 : Same H3 H6 := fun b o e => s6 _ _ (s5 _ _ (s4 _ _ e))
      have e16 : ExtN H1 H6 := ((eA.trans (ExtN.of s2)).trans e3).trans (ExtN.of s46)
      have s67 := same_put (s := Same.refl H6) (o := .tup [.str "number", .str "0"]) ntq
      refine eq_same (d := .tuple [.str "number", .str "0"]) (.tup (.inl (.inl (s67 _ _ hl))) (.cons (.str _) (.cons (.str _) .nil))) (.tup (.inl (.inl upd_same)) (.cons (.str _) (.cons (.str _) .nil))) (by decide +kernel) ?_
      exact q1 _ (e16.trans (ExtN.of s67)) ((tb3.ext s46).ext s67)
end
end V8

set_option Elab.async false
set_option linter.all false
set_option maxRecDepth 100000
set_option maxHeartbeats 16000000
/-! Signs in place. -/
namespace V8
open PySem PySem.Spec PyProof.Rows L2 LamX
abbrev s_in_place_right : Stmt := topS 48
abbrev n_in_place_right : List Str := ["_law_one", "_law_two", "_law_first", "_law_last", "_law_kept", "_law_other"]
theorem sc_in_place_right : FnScope ["_law_one", "_law_two", "_law_first", "_law_last", "_law_kept", "_law_other"] ["_law_one", "_law_two", "_law_first", "_law_last"] (defScope s_in_place_right) := ⟨rfl, rfl, rfl, by decide +kernel, rfl, by decide +kernel, by decide +kernel⟩
section
variable {K : PySem.W.Frag} {CM CB CT CN : Addr} {H : Hp} {Q : VK} {E : XK} {x y : Addr} {u v : Tab} {cs : List Nat}
theorem rsh_end (mx : MisAt CM H x u) (my : MisAt CM H y v) (bu : Bnd 64 (lk u)) (bv : Bnd 64 (lk v)) (ou : Ovr cs (lk u)) (h12 : cs.length ≤ 12) (q : RshEnd CM CT H (cF (lk u) (lk v)) Q E) : rBinOwn K CM (spRshX K CM CB CT) E (.ref x) (.ref y) H Q := by
  obtain ⟨dx, fx, hx⟩ := mx.ins
  obtain ⟨dy, fy, hy⟩ := my.ins
  exact ⟨x, dx, fx, y, dy, fy, rfl, hx, rfl, hy, x, .ref y, u, rfl, mx, .inl ⟨y, v, cs, rfl, my, bu, bv, ou, h12, q⟩⟩
theorem rsh_ok (mx : MisAt CM H x u) (my : MisAt CM H y v) (bu : Bnd 64 (lk u)) (bv : Bnd 64 (lk v)) (ou : Ovr cs (lk u)) (h12 : cs.length ≤ 12) (bc : Bnd 64 (cF (lk u) (lk v)))
    (q : ∀ z H' t, MisAt CM H' z t → lk t = cF (lk u) (lk v) → Same H H' → Q (.ref z) H') : rBinOwn K CM (spRshX K CM CB CT) E (.ref x) (.ref y) H Q :=
  rsh_end mx my bu bv ou h12 ⟨fun _ z H' t _ m e s => q z H' t m e s, fun n => absurd bc n⟩
theorem pow_ok {k : Nat} {i : Int} (hi : i = ((k + 1 : Nat) : Int)) (mx : MisAt CM H x u) (k98 : k ≤ 98) (ou : Ovr cs (lk u)) (h12 : cs.length ≤ 12) (bp : ∀ j, j ≤ k → Bnd 64 (pF (lk u) j))
    (q : ∀ z H' t, MisAt CM H' z t → lk t = pF (lk u) k → Same H H' → Q (.ref z) H') : rPowOwn K CM (spPowX CM CT CN) E (.ref x) (.int i) H Q := by
  obtain ⟨dx, fx, hx⟩ := mx.ins
  exact ⟨x, dx, fx, i, rfl, hx, rfl, x, i, u, cs, rfl, mx, .inl ⟨k, hi, k98, bp 0 (Nat.zero_le _), ou, h12, fun _ z H' t m e s => q z H' t m e s, fun n => absurd bp n⟩⟩
end
def spInPl (CM : Addr) : Sp := fun vs H Q _ => ∃ (x y d1 d2 : Addr) (t1 t2 : Tab) (cs : List Nat), vs = [.ref x, .ref y, .ref d1, .ref d2] ∧ MisAt CM H x t1 ∧ MisAt CM H y t2 ∧ H d1 = some (.dK (encT t1)) ∧ H d2 = some (.dK (encT t2)) ∧ GoodT cs t1 ∧ GoodT cs t2 ∧ cs.length ≤ 12 ∧ (∀ c ∈ cs, isLt c) ∧ t1.length ≤ 12 ∧ t2.length ≤ 12 ∧ ∀ H', Same H H' → Q (.bl true) H'
section
variable {P : Program} {w : World} {K : PySem.W.Frag} {mg : Str → Option Value} {base : Heap} {CM CJ CB CN CT CR g c PT : Addr} {TL : List (Addr × Str)}
theorem ok_inpl {f : Addr} {fd : FuncData} (F : Fun K "_law_in_place_right" "_law_in_place_right" s_in_place_right f fd) (T : Tp K mg CM CJ CB CN CT CR) (D_is : Df P w K mg base 4 "_law_is" (spIs CM)) (D_both : Df P w K mg base 2 "_law_both" spBoth)
    (D_rshift : BoX P w K mg base 7 CM "__rshift__" (spRshX K CM CB CT)) (D_pow : BoX P w K mg base 8 CM "__pow__" (spPowX CM CT CN)) (D_eq : Mf P w K mg base 1 CM "__eq__" (spEq K CM)) : FnOk P w K mg base CX0 9 f fd ["_law_one", "_law_two", "_law_first", "_law_last"] (spInPl CM) := by
  refine F.ok sc_in_place_right (fun vs H Q E h => ?_) (fun cdv A outer s H vs Q E hr h => ?_)
  · obtain ⟨x, y, d1, d2, t1, t2, cs, rfl, _⟩ := h
    rfl
  · obtain ⟨x, y, d1, d2, t1, t2, cs, rfl, mx, my, h1, h2, G1, G2, h12, hlt, l1, l2, q⟩ := h
    refine ⟨_, (pss_cons (ps_par (i := 4) (j := 5) (by rfl) sc_in_place_right.nd rfl rfl (by decide) rfl rfl (pa_cons (pv 0) (pa_cons (pv 1) pa_nil)) (by rfl))
      (pss_cons (ps_aug (i := 4) sc_in_place_right.nd rfl (.inl rfl) (pv 1) (ip_rshX (K := K) rfl D_rshift passL T.ni hr (by decide)))
      (pss_cons (ps_aug (i := 5) sc_in_place_right.nd rfl (.inl rfl) pe_int (ip_powX (K := K) rfl D_pow T.ip passL T.ni hr (by decide)))
      (pss_cons (ps_if (PW.pt (pw_or (pt_not (pt_val (pe_c D_is hr (by decide) (by rfl) (pa_cons (pe_lst (pa_cons (pv 4) pa_nil)) (pa_cons (pe_c D_both hr (by decide) (by rfl) (pa_cons (pv 2) (pa_cons (pv 3) pa_nil))) pa_nil))))) (pw_or1 (pt_not (pt_val (pe_c D_is hr (by decide) (by rfl) (pa_cons (pe_lst (pa_cons (pv 0) pa_nil)) (pa_cons (pv 2) pa_nil))))))))
        (pss_one (ps_ret pe_bl))
        pss_nil)
      (pss_one (ps_ret (pe_and (pe_cmpR (op_eqO D_eq hr (by decide)) (pv 5) (pv 1) (nomark _)) (pe_one (pe_c D_is hr (by decide) (by rfl) (pa_cons (pe_lst (pa_cons (pv 1) pa_nil)) (pa_cons (pv 3) pa_nil))))))))))), ?_⟩
    have g1 := G1.tbN hlt l1
    have g2 := G2.tbN hlt l2
    have o1 := good_over G1
    have o2 := good_over G2
    have b1 := (g1.le (m := 64) (by decide)).bnd
    have b2 := (g2.le (m := 64) (by decide)).bnd
    have g12 := (g1.both g2).le (m := 64) (by decide)
    have e12 := both_lk g1 g2
    have b12 : Bnd 64 (cF (lk t1) (lk t2)) := by rw [← e12]; exact g12.bnd
    have z0 : ∀ j, j ≤ 0 → Bnd 64 (pF (lk t2) j) := fun j hj => by
      obtain rfl : j = 0 := by omega
      exact b2
    refine ⟨_, rfl, _, rfl, _, _, rfl, ?_⟩
    refine ⟨_, rfl, _, rfl, rsh_ok mx my b1 b2 o1 h12 b12 fun z H1 tz mz ez s1 => ?_⟩
    refine ⟨_, rfl, pow_ok (K := K) (k := 0) rfl (my.same s1) (by decide) o2 h12 z0 fun y2 H2 ty m2 e2 s2 => ?_⟩
    have s12 : Same H H2 := fun b o e => s2 _ _ (s1 _ _ e)
    refine ⟨_, rfl, by show 1 ≤ sizeLine; decide, fun a na => ⟨_, rfl, _, rfl, ?_⟩⟩
    have sa := same_put (s := s12) (o := .lst [.ref z]) na
    have mza := (mz.same s2).same (same_put (s := Same.refl H2) (o := .lst [.ref z]) na)
    have m2a := m2.same (same_put (s := Same.refl H2) (o := .lst [.ref z]) na)
    have haa : upd H2 a (.lst [.ref z]) a = some (.lst [.ref z]) := upd_same
    generalize upd H2 a (.lst [.ref z]) = H3 at sa mza m2a haa ⊢
    refine ⟨d1, d2, t1, t2, rfl, sa _ _ h1, sa _ _ h2, g1.le (by decide), g2.le (by decide), fun d3 H4 n3 s4 h3 => ?_⟩
    refine ⟨a, .ref d3, rfl, fun H5 s5 => ⟨true, rfl, iteF ?_⟩, .inr ⟨d3, _, z, tz, rfl, h3, g12, s4 _ _ haa, mza.same s4, by rw [ez, e12]⟩⟩
    have sb : Same H H5 := fun b o e => s5 _ _ (s4 _ _ (sa _ _ e))
    have m2b := (m2a.same s4).same s5
    refine ⟨_, rfl, by show 1 ≤ sizeLine; decide, fun a2 na2 => ⟨_, rfl, ?_⟩⟩
    have sc := same_put (s := sb) (o := .lst [.ref x]) na2
    have m2c := m2b.same (same_put (s := Same.refl H5) (o := .lst [.ref x]) na2)
    have ha2 : upd H5 a2 (.lst [.ref x]) a2 = some (.lst [.ref x]) := upd_same
    generalize upd H5 a2 (.lst [.ref x]) = H6 at sc m2c ha2 ⊢
    refine ⟨a2, .ref d1, rfl, fun H7 s7 => ⟨true, rfl, iteF ?_⟩, .inr ⟨d1, t1, x, t1, rfl, sc _ _ h1, g1.le (by decide), ha2, mx.same sc, rfl⟩⟩
    have sd : Same H H7 := fun b o e => s7 _ _ (sc _ _ e)
    refine nextS ?_
    dsimp only
    refine ⟨_, rfl, _, rfl, eq_mis T.toTy (m2c.same s7) (my.same sd) ⟨true, ?_, iteT ?_⟩⟩
    · show V.bl (decide (eqM ty t2)) = _
      rw [decide_eq_true (eqM_lk.mpr e2)]
    refine ⟨_, rfl, by show 1 ≤ sizeLine; decide, fun a3 na3 => ⟨_, rfl, ?_⟩⟩
    have se := same_put (s := sd) (o := .lst [.ref y]) na3
    have ha3 : upd H7 a3 (.lst [.ref y]) a3 = some (.lst [.ref y]) := upd_same
    generalize upd H7 a3 (.lst [.ref y]) = H8 at se ha3 ⊢
    exact ⟨a3, .ref d2, rfl, fun H9 s9 => q _ fun b o e => s9 _ _ (se _ _ e), .inr ⟨d2, t2, y, t2, rfl, se _ _ h2, g2.le (by decide), ha3, my.same se, rfl⟩⟩
end
end V8

set_option Elab.async false
set_option linter.all false
set_option maxRecDepth 100000
set_option maxHeartbeats 16000000
/-! Misreading.read of the one text that the law reads. -/
namespace V8
open PySem PySem.Spec PyProof.Rows L2
abbrev s_is_told : Stmt := topS 31
abbrev n_is_told : List Str := ["word"]
theorem sc_is_told : FnScope ["word"] ["word"] (defScope s_is_told) := ⟨rfl, rfl, rfl, by decide +kernel, rfl, by decide +kernel, by decide +kernel⟩
abbrev s_Misreading_read : Stmt := inClass (topS 29) 17
abbrev n_Misreading_read : List Str := ["cls", "text", "words", "at", "word", "each"]
theorem sc_Misreading_read : FnScope ["cls", "text", "words", "at", "word", "each"] ["cls", "text"] (defScope s_Misreading_read) := ⟨rfl, rfl, rfl, by decide +kernel, rfl, by decide +kernel, by decide +kernel⟩
/-- a:aaaa -/
def z0 : List Nat := [97, 58, 97, 97, 97, 97]
def tZ : Tab := [(97, [97, 97, 97, 97])]
def spTold0 : Sp := fun vs H Q _ => vs = [.str (Sx z0)] ∧ Q (.bl true) H
def spRead0 (CM : Addr) : Sp := fun vs H Q _ => vs = [.ref CM, .str (Sx z0)] ∧ ∀ x H', MisAt CM H' x tZ → Same H H' → Q (.ref x) H'
def tMkL (CM : Addr) (i : Nat) (t : TA) : TE := fun σ H Q => σ[i]? = some (some (.ref CM)) ∧ t σ H fun vs H1 => mkR CM (vs ++ [.str (Sx [])]) H1 Q
section
variable {X : Cx} {CM : Addr} {i j : Nat} {x : Str} {p pos pos2 : Pos} {e : Expr} {es : List Expr} {t : TA}
theorem pe_mkL (M : Mkr X.prog X.w X.K X.mg X.base CM) (hr : Room j X.A) (hj : 6 ≤ j) (hN : X.N[i]? = some x) (hv : Vis X.env.scope x) (ha : PA X (e :: es) t) (hdb : (x == ("__debug__" : Str)) = false := by decide) (hcd : (x == ("__classdict__" : Str)) = false := by decide)
    (he : starEach (e :: es) X.env = (false, eval e X.env) :: starEach es X.env := by rfl) (hpl : (backTo pos (starEach es X.env)).any (·.1) = false := by rfl) : PE X (.Call (.Name x p) (e :: es) [] pos) (tMkL CM i t) := by
  obtain ⟨f, fd, M, F, hm, b0, ⟨ds, hd, b1⟩, k2, k1, k11⟩ := M.ex
  refine ⟨fun pins s σ H Q I h => ?_⟩
  obtain ⟨hs, ht⟩ := h
  refine wpAny_Call_Name_kw (thn ((pe_var (pos := p) hN hv hdb hcd).run pins s σ H (fun v H1 => v = .ref CM ∧ H1 = H) I ⟨.ref CM, hs, rfl, rfl⟩) fun u s1 ⟨v, H1, I1, r1, q1⟩ => ?_)
  obtain ⟨rfl, rfl⟩ := q1
  cases r1
  refine PySem.W.callWith_K (h₀ := X.base) I.ok.mod.kin M.kp (thn (ha.run pos pins s1 σ _ _ I1 ht) fun us s2 ⟨vs, H2, I2, r, q⟩ => ⟨I2.kIn, ?_⟩) he hpl
  exact run_make M F (hr.mono hj) b1 hd pass0 I2 r (mk_of q)
end
section
variable {P : Program} {w : World} {K : PySem.W.Frag} {mg : Str → Option Value} {base : Heap} {CM CJ : Addr}
theorem ok_told0 {f : Addr} {fd : FuncData} (F : Fun K "is_told" "is_told" s_is_told f fd) (T : Tx K mg CM CJ) (D_is_letter : Df P w K mg base 1 "is_letter" (spIsLetter K)) (D_is_image : Df P w K mg base 3 "is_image" spIsImage) : FnOk P w K mg base CX0 4 f fd ["word"] spTold0 := by
  refine F.ok sc_is_told (fun vs H Q E h => ?_) (fun cdv A outer s H vs Q E hr h => ?_)
  · obtain ⟨rfl, _⟩ := h
    rfl
  · obtain ⟨rfl, q⟩ := h
    refine ⟨_, (pss_one (ps_ret (pe_and (pe_c D_is_letter hr (by decide) (by rfl) (pa_cons (pe_slice sl_str (pv 0) po_none (po_some pe_int)) pa_nil)) (pe_and (pe_cmpR op_eq (pe_slice sl_str (pv 0) (po_some pe_int) (po_some pe_int)) pe_str (nomark _)) (pe_one (pe_c D_is_image hr (by decide) (by rfl) (pa_cons (pe_slice sl_str (pv 0) (po_some pe_int) po_none) pa_nil))))))), ?_⟩
    have hz : (Sx z0).length ≤ sizeLine := by rw [Sx_len, sizeLine_eq]; decide
    refine ⟨_, rfl, 1, rfl, Sx z0, rfl, hz, _, rfl, .inl ⟨97, by decide +kernel, decide (97 ∈ abc), rfl, ?_⟩⟩
    rw [decide_eq_true (show 97 ∈ abc by decide)]
    refine ⟨_, rfl, 1, rfl, 2, rfl, Sx z0, rfl, hz, rfl, true, by decide +kernel, ?_⟩
    exact ⟨_, rfl, 2, rfl, Sx z0, rfl, hz, [97, 97, 97, 97], by decide +kernel, ⟨by decide, by decide, by decide⟩, q⟩
theorem ok_read0 {f : Addr} {fd : FuncData} (F : Fun K "read" "Misreading.read" s_Misreading_read f fd) (T : Tz K mg CM CJ) (D_is_told : Df P w K mg base 4 "is_told" spTold0) (D_mk : Mkr P w K mg base CM) : FnOk P w K mg base CX0 7 f fd ["cls", "text"] (spRead0 CM) := by
  refine F.ok sc_Misreading_read (fun vs H Q E h => ?_) (fun cdv A outer s H vs Q E hr h => ?_)
  · obtain ⟨rfl, _⟩ := h
    rfl
  · obtain ⟨rfl, q⟩ := h
    refine ⟨_, (pss_cons (ps_if (pt_not (pt_val (pe_callB call_isi (by rfl) T.isinstance (by decide +kernel) (pa_cons (pv 1) (pa_cons (pe_bltn (v := .ty "str") (by rfl) T.str (by decide +kernel) rfl) pa_nil)))))
        (pss_one ps_never)
        pss_nil)
      (pss_cons (ps_set (i := 2) sc_Misreading_read.nd rfl (.inl rfl) (pe_bmK (K := K) rfl PySem.F.plainAttrs_str PySem.F.slot_str_split PySem.F.type_str_split mt_split (pv 1) (pa_cons pe_str pa_nil)))
      (pss_cons (ps_if (pt_cmpR op_eq (pe_ix (ix_listK (K := K) rfl) (pv 2) pe_int (fun _ _ => rfl)) pe_str (nomark _))
        (pss_cons (ps_if (pt_cmpR op_gt (pe_callB (call_len_seqK (K := K) rfl) (by rfl) T.len (by decide +kernel) (pa_cons (pv 2) pa_nil)) pe_int (nomark _))
          (pss_one ps_never)
          pss_nil)
        (pss_one (ps_ret (pe_mkL (i := 0) D_mk hr (by decide) rfl (.inl rfl) (pa_cons pe_dnewK pa_nil)))))
        pss_nil)
      (pss_cons (ps_for PassesOwn.never rfl (pi_enum (by rfl) T.enumerate (pa_cons (pv 2) pa_nil)) (pg_tup (by rfl) (pgs_cons (pg_name (i := 3) sc_Misreading_read.nd rfl (.inl rfl)) (pgs_cons (pg_name (i := 4) sc_Misreading_read.nd rfl (.inl rfl)) pgs_nil)))
        (pss_one (ps_if (PW.pt (pw_or (pt_cmpR op_eq (pv 3) (pe_gv T.gMOST_LETTERS (by rfl)) (nomark _)) (pw_or (pt_not (pt_val (pe_c D_is_told hr (by decide) (by rfl) (pa_cons (pv 4) pa_nil)))) (pw_or1 (PW.pt (pw_and (pt_cmpR op_gt (pv 3) pe_int (nomark _)) (pw_and1 (pt_cmpR op_le_str (pe_ix ix_str (pv 4) pe_int (fun _ _ => rfl)) (pe_ix ix_str (pe_ix (ix_listK (K := K) rfl) (pv 2) (pe_op op_sub (pv 3) pe_int) (fun _ _ => rfl)) pe_int (fun _ _ => rfl)) (nomark _)))))))))
          (pss_one ps_never)
          pss_nil)))
      (pss_one (ps_ret (pe_mkL (i := 0) D_mk hr (by decide) rfl (.inl rfl) (pa_cons (pe_dc (own := [("each", 5)]) (g := gName 5) (by rfl) sc_Misreading_read.nd (pi_list (pv 2)) (blkOk_by (own := [("each", 5)]) (N := n_Misreading_read) (sc := defScope s_Misreading_read) (by decide +kernel)) (fun _ _ _ _ _ => (pg_name (i := 5) sc_Misreading_read.nd rfl (.inl rfl))) (fun _ _ _ _ _ => pts_nil) (fun _ _ _ _ _ => (pe_ix ix_str (pv 5) pe_int (fun _ _ => rfl))) (fun _ _ _ _ _ => (pe_slice sl_str (pv 5) (po_some pe_int) po_none))) pa_nil)))))))), ?_⟩
    have hz : (Sx z0).length + 2 ≤ sizeLine := by rw [Sx_len, sizeLine_eq]; decide
    refine ⟨_, rfl, _, .ty "str", .type "str", .type "str", true, rfl, .ty _, ty_str _, kit_ty (by decide +kernel), true, rfl, iteF ?_⟩
    refine ⟨_, rfl, rfl, Sx z0, " ", rfl, rfl, by decide +kernel, hz, fun a na => ?_⟩
    refine atName ?_
    dsimp only
    have ew : (Txt.split (Sx z0) " ") = [Sx z0] := by decide +kernel
    rw [ew]
    have sA : Same H (upd H a (.lst [V.str (Sx z0)])) := same_put (s := Same.refl H) na
    have hA1 : upd H a (.lst [V.str (Sx z0)]) a = some (.lst [V.str (Sx z0)]) := upd_same
    show tSeq _ _ _ _ (upd H a (.lst [V.str (Sx z0)]))
    generalize upd H a (.lst [V.str (Sx z0)]) = H1 at sA hA1 ⊢
    have c12 : ∀ c ∈ abc, isLt c := fun c hc => abc_mem.mp hc
    refine ⟨_, rfl, a, _, 0, V.str (Sx z0), rfl, rfl, SqL.of hA1, rfl, rfl, _, rfl, ?_⟩
    rw [decide_eq_false (show ¬ V.str (Sx z0) = V.str "-" by decide +kernel)]
    refine iteF ?_
    refine nextS ?_
    dsimp only
    refine ⟨_, rfl, a, _, rfl, SqL.of hA1, for_it (walk_enum (K := K) (a := a) (xs := [V.str (Sx z0)])) (fun i σ H2 => (∃ v3 v4 : Option V, σ = [some (.ref CM), some (.str (Sx z0)), some (.ref a), v3, v4, none]) ∧ Same H1 H2) ⟨⟨none, none, rfl⟩, Same.refl _⟩ (fun i σ H2 hi h => SqL.of (h.2 _ _ hA1)) ?_ ?_⟩
    · rintro i z σ H2 H2' hi ⟨⟨v3, v4, rfl⟩, s2⟩ ⟨tq, x, y, rfl, ntq, rfl, ex, ey⟩
      have hi' : i < 1 := hi
      obtain rfl : i = 0 := by omega
      obtain rfl : V.int ((0 : Nat) : Int) = x := Option.some.inj ex
      obtain rfl : V.str (Sx z0) = y := Option.some.inj ey
      have s3 : Same H1 (upd H2 tq (.tup [.int ((0 : Nat) : Int), .str (Sx z0)])) := same_put (s := s2) ntq
      refine ⟨tq, [.int ((0 : Nat) : Int), .str (Sx z0)], rfl, .inl (.inl upd_same), rfl, _, _, rfl, _, _, rfl, rfl, ?_⟩
      generalize upd H2 tq (.tup [.int ((0 : Nat) : Int), .str (Sx z0)]) = H3 at s3 ⊢
      clear s2 ntq ex ey
      dsimp only [List.set_cons_succ, List.set_cons_zero]
      refine ⟨_, rfl, rfl, false, rfl, iteF ?_⟩
      refine ⟨_, rfl, rfl, true, rfl, iteF ?_⟩
      refine ⟨_, rfl, _, _, rfl, rfl, false, rfl, iteF (iteF ?_)⟩
      exact ⟨⟨_, _, rfl⟩, s3⟩
    · rintro σ H2 ⟨⟨v3, v4, rfl⟩, s2⟩
      have hA2 := s2 _ _ hA1
      have zl : (Sx z0).length ≤ sizeLine := by omega
      refine ⟨rfl, _, rfl, a, rfl, ⟨_, SqL.of hA2⟩, fun D nD => dc_it (walk_list (K := K) (a := a) (xs := [V.str (Sx z0)])) (fun i H3 => H3 = upd H2 D (.dK (encT (tZ.take i)))) rfl ?_ ?_ ?_⟩
      · rintro i H3 hi rfl
        exact SqL.of (by rw [upd_ne (ne_of_none hA2 nD)]; exact hA2)
      · rintro i z H3 H3' hi rfl ⟨rfl, hz2⟩
        have hi' : i < 1 := hi
        obtain rfl : i = 0 := by omega
        obtain rfl : V.str (Sx z0) = z := Option.some.inj hz2
        have cd : cutS (Sx z0) (some 2) none = Sx [97, 97, 97, 97] := by decide +kernel
        refine ⟨rfl, _, rfl, Sx z0, 0, 97, rfl, rfl, zl, rfl, _, rfl, 2, rfl, Sx z0, rfl, zl, _, Sum.inr (L1 97), rfl, upd_same, ?_, ?_⟩
        · show 0 < _
          exact small1000 (by decide)
        · rw [cd, upd_upd]
          rfl
      · rintro H3 rfl
        refine ⟨D, abc, [], tZ, rfl, upd_same, ⟨by decide, fun q hq => ?_, fun q hq => ?_⟩, ⟨by decide, by rw [abc_len]; omega⟩, c12, fun c h => (nomatch h), by decide, fun x H' nx m s => ?_⟩
        · rw [List.mem_singleton.mp hq]
          decide
        · rw [List.mem_singleton.mp hq]
          exact ⟨by decide, by decide, by decide⟩
        · have s4 : Same H (upd H2 D (.dK (encT tZ))) := same_put (s := Same.trans sA s2) nD
          exact q x H' m.mis (Same.trans s4 s)
end
/-- read, by the class's name -/
structure Rd0 (P : Program) (w : World) (K : PySem.W.Frag) (mg : Str → Option Value) (base : Heap) (CM : Addr) : Prop where
  ex : ∃ (p g : Addr) (fd : FuncData) (mc : Value), ClX.CRead K CM mc ∧ ClX.CMet K CM mc "read" p g ∧ FnOk P w K mg base CX0 7 g fd ["cls", "text"] (spRead0 CM) ∧ Binds K fd ["cls", "text"] []
section
variable {X : Cx} {K : PySem.W.Frag} {j : Nat} {CM : Addr} {o e : Expr} {es : List Expr} {pos apos : Pos} {ta : TE} {t : TA} {pl : Sem Bool}
theorem pe_rd0 (c : Rd0 X.prog X.w X.K X.mg X.base CM) (hr : Room j X.A) (hj : 7 ≤ j) (he : PE X o ta) (ha : PA X (e :: es) t)
    (hst : starEach (e :: es) X.env = (false, eval e X.env) :: starEach es X.env := by rfl) (hpl : (backTo pos (starEach es X.env)).any (·.1) = false := by rfl)
    (ht : eval (.Call (.Attribute o "read" apos) (e :: es) [] pos) X.env = (do
      let ov ← eval o X.env
      standAt apos.atName
      let (f, first) ← holding [ov] (getMethod ov "read" pl)
      callWith pos f first (backTo pos (starEach (e :: es) X.env)) (backToKw pos (keywordEach [] X.env))) := by rfl) :
    PE X (.Call (.Attribute o "read" apos) (e :: es) [] pos) (ClX.tCMeth CM (spRead0 CM) E0 ta t) := by
  obtain ⟨p, g, fd, mc, r, m, F, b⟩ := c.ex
  exact ClX.pe_cmeth (pl := pl) he r m ((FnOk.raw F b .nil).imp fun vs H Q E h => by rw [List.append_nil]; exact h) (hr.mono hj) pass0 ha hst hpl ht
end
end V8

set_option Elab.async false
set_option linter.all false
set_option maxRecDepth 100000
set_option maxHeartbeats 4000000
/-! zip(text, text). -/
namespace L2
open PySem PySem.Spec PyProof.Rows
/-- the signs of two texts of one length, in new pairs -/
def ItSz (x y : Str) (n : Nat) : It :=
  ⟨fun i _ => i < n, fun i H v H' => ∃ T c d, v = .ref T ∧ H T = none ∧ H' = upd H T (.tup [.str ⟨#[c]⟩, .str ⟨#[d]⟩]) ∧ x.cps[i]? = some c ∧ y.cps[i]? = some d, fun i _ => i = n⟩
theorem turn_zipS {P : Program} {w : World} {K : PySem.W.Frag} {elts : List Expr} {kk : Nat} {tpos : Pos} {n : Nat} (x y : Str) (t t2 : Tok) {z TI TO i1 i2 : Addr} (S : ZipSep2 z TI TO i1 i2 [i1] [i2]) (ex : x.cps.size = n) (ey : y.cps.size = n) :
    Turn P w K (.Tuple elts kk tpos) (ItSz x y n) [z, TI, TO, i1, i2] z (fun i h => IsZip h z TI TO .none ∧ IsTupOf2 h TI (.ref i1) (.ref i2) ∧ (∃ a b, IsTupOf2 h TO a b) ∧ h.IsStrIter i1 (strIterType x) x t i ∧ h.IsStrIter i2 (strIterType y) y t2 i) where
  mem := by simp
  obj := fun i h st c hc => by
    obtain ⟨hz, hTI, ⟨a, b, hTO⟩, ⟨o1, e1, _, d1⟩, ⟨o2, e2, _, d2⟩⟩ := st
    have e' : c = z ∨ c = TI ∨ c = TO ∨ c = i1 ∨ c = i2 := by simpa using hc
    rcases e' with q | q | q | q | q
    · rw [q]; exact ⟨_, hz, fun v q => nomatch q⟩
    · rw [q]; exact ⟨_, hTI, fun v q => nomatch q⟩
    · rw [q]; exact ⟨_, hTO, fun v q => nomatch q⟩
    · rw [q]; exact ⟨o1, e1, fun v q => by rw [d1] at q; cases q⟩
    · rw [q]; exact ⟨o2, e2, fun v q => by rw [d2] at q; cases q⟩
  keep := fun i h h' st k => by
    obtain ⟨hz, hTI, ⟨a, b, hTO⟩, ⟨o1, q1, r1⟩, ⟨o2, q2, r2⟩⟩ := st
    exact ⟨k z (by simp) _ hz, k TI (by simp) _ hTI, ⟨a, b, k TO (by simp) _ hTO⟩, ⟨o1, k i1 (by simp) _ q1, r1⟩, ⟨o2, k i2 (by simp) _ q2, r2⟩⟩
  item := by
    intro X hP hw hK hc i pins s σ H E I hf st hg
    subst hP hw hK
    obtain ⟨hz, hTI, ⟨a0, b0, hTO⟩, h1, h2⟩ := st
    have hzl : z < s.heap.objs.size := Heap.lt_size hz
    have hl1 : i < x.cps.size := by rw [ex]; exact hg
    have hl2 : i < y.cps.size := by rw [ey]; exact hg
    refine wpAny_pyNext_zipD2_item S (Draws.text (A := X.A.in1) (I.ok.hd hc) i1 x t) (Draws.text (A := X.A.in1) (I.ok.hd hc) i2 y t2) hz hTI hTO h1 h2 hl1 hl2 fun x1 x2 h' tk hx1 hx2 z' TO' h1' h2' hT hsz hk => ?_
    obtain ⟨c, u, hcx, rfl⟩ := hx1
    obtain ⟨d, u2, hdx, rfl⟩ := hx2
    refine ⟨_, rfl, wpAny_letOwnedTupleGo_zip (s := { s with heap := h', toks := tk }) z' fun h'' z'' sb => ?_⟩
    have hT2 : h''.get? s.heap.objs.size = some { cls := .type "tuple", data := .seq #[.str ⟨#[c]⟩ u, .str ⟨#[d]⟩ u2] } := (sb.2 _ (Nat.ne_of_gt hzl)).trans hT
    have new : ObjOk X.prog X.w (upd H s.heap.objs.size (.tup [.str ⟨#[c]⟩, .str ⟨#[d]⟩])) h'' s.heap.objs.size (.tup [.str ⟨#[c]⟩, .str ⟨#[d]⟩]) :=
      ⟨by show 2 ≤ sizeLine; decide, [.str ⟨#[c]⟩ u, .str ⟨#[d]⟩ u2], .cons ⟨_, rfl⟩ (.cons ⟨_, rfl⟩ .nil), ⟨_, hT2, rfl, _, rfl⟩⟩
    have I1 : Inv X pins σ (upd H s.heap.objs.size (.tup [.str ⟨#[c]⟩, .str ⟨#[d]⟩])) { s with heap := h'', toks := tk } :=
      I.turnedNew (t' := tk) (ch := [z, TI, TO, i1, i2]) (fun c o hb q => (sb.2 c (fun q' => hb (by simp [q']))).trans (hk c o (fun q' => hb (by simp [q'])) (fun q' => hb (by simp [q'])) (fun q' => hb (by simp [q'])) (fun q' => hb (by simp [q'])) q)) hf (Nat.le_refl _) new
    refine ⟨.ref s.heap.objs.size, _, I1, rfl, ⟨_, c, d, rfl, I.hok.fresh (Nat.le_refl _), rfl, hcx, hdx⟩, ⟨z'', ?_, ⟨.str ⟨#[c]⟩ u, .str ⟨#[d]⟩ u2, ?_⟩, ?_, ?_⟩, fun c hcm => ?_⟩
    · exact (sb.2 _ S.TIz).trans (hk _ _ S.TIz S.TITO S.TIi1 S.TIi2 hTI)
    · exact (sb.2 _ S.TOz).trans TO'
    · obtain ⟨o, q, r⟩ := h1'
      exact ⟨o, (sb.2 _ (Ne.symm S.zi1)).trans q, r⟩
    · obtain ⟨o, q, r⟩ := h2'
      exact ⟨o, (sb.2 _ (Ne.symm S.zi2)).trans q, r⟩
    · have hlt : c < s.heap.objs.size := by
        have e' : c = z ∨ c = TI ∨ c = TO ∨ c = i1 ∨ c = i2 := by simpa using hcm
        rcases e' with q | q | q | q | q
        · rw [q]; exact hzl
        · rw [q]; exact Heap.lt_size hTI
        · rw [q]; exact Heap.lt_size hTO
        · rw [q]; obtain ⟨_, e1, _⟩ := h1; exact Heap.lt_size e1
        · rw [q]; obtain ⟨_, e2, _⟩ := h2; exact Heap.lt_size e2
      rw [upd_ne (Nat.ne_of_lt hlt)]
      exact (hf c hcm).1
  done := by
    intro X hP hw hK hc i pins s σ H E I hf st hg
    subst hP hw hK
    obtain ⟨hz, hTI, ⟨a0, b0, hTO⟩, h1, h2⟩ := st
    have hi : i = n := hg
    exact wpAny_pyNext_zipD2_end S (Draws.text (A := X.A.in1) (I.ok.hd hc) i1 x t) (Draws.text (A := X.A.in1) (I.ok.hd hc) i2 y t2) hz hTI hTO h1 h2 (by omega) (by omega) (.inl (by omega)) fun h' tk hk => ⟨rfl, I.turnedL (t' := tk) (ch := [z, TI, TO, i1, i2]) (fun c o hb q =>
      hk c o (fun q' => hb (by simp [q'])) (fun q' => hb (by simp [q'])) (fun q' => hb (by simp [q'])) (fun q' => hb (by simp [q'])) q) hf⟩
  self := fun A i s Q E st h => wpAny_pyIter_zip st.1 h
theorem zsep (n : Nat) : ZipSep2 (n + 4) (n + 2) (n + 3) n (n + 1) [n] [n + 1] where
  TIz := by show (n + 2 : Nat) ≠ n + 4; omega
  TOz := by show (n + 3 : Nat) ≠ n + 4; omega
  TITO := by show (n + 2 : Nat) ≠ n + 3; omega
  TIi1 := by show (n + 2 : Nat) ≠ n; omega
  mem1 := List.mem_singleton.mpr rfl
  zf1 := fun h => by have : (n + 4 : Nat) = n := List.mem_singleton.mp h; omega
  Tf1 := fun h => by have : (n + 3 : Nat) = n := List.mem_singleton.mp h; omega
  TIi2 := by show (n + 2 : Nat) ≠ n + 1; omega
  mem2 := List.mem_singleton.mpr rfl
  zf2 := fun h => by have : (n + 4 : Nat) = n + 1 := List.mem_singleton.mp h; omega
  Tf2 := fun h => by have : (n + 3 : Nat) = n + 1 := List.mem_singleton.mp h; omega
  sep1_2 := fun h => by have : (n : Nat) = n + 1 := List.mem_singleton.mp h; omega
  sep2_1 := fun h => by have : (n + 1 : Nat) = n := List.mem_singleton.mp h; omega
def iZipS (ta : TA) : TI := fun σ H R => ta σ H fun vs H1 => ∃ x y n, vs = [.str x, .str y] ∧ x.cps.size = n ∧ y.cps.size = n ∧ R (ItSz x y n) H1
theorem pi_zipS {X : Cx} {e e2 : Expr} {ta : TA} {p pos tpos : Pos} {elts : List Expr} {kk : Nat} (hg : Gl X "zip") (hm : X.mg "zip" = none) (ha : PA X [e, e2] ta)
    (hs : starEach [e, e2] X.env = (false, eval e X.env) :: starEach [e2] X.env := by rfl) (hpl : (backTo pos (starEach [e2] X.env)).any (·.1) = false := by rfl) :
    PI X (.Tuple elts kk tpos) (.Call (.Name "zip" p) [e, e2] [] pos) (iZipS ta) := by
  refine ⟨fun pins s σ H R I h => ?_⟩
  refine Call_ (ld_blt I hg hm PyProof.Rows.boot_zip (PyProof.Rows.callWith_type1 (thn (ha.run pos pins s σ H _ I h) fun us s1 ⟨vs, H1, I1, r1, q1⟩ => ?_) hs hpl))
  obtain ⟨x, y, n, rfl, ex, ey, q⟩ := q1
  cases r1 with
  | cons r rr =>
    cases rr with
    | cons r' rr =>
      cases rr
      obtain ⟨t, rfl⟩ := r
      obtain ⟨t2, rfl⟩ := r'
      have fresh5 : ∀ c, c ∈ [s1.heap.objs.size + 4, s1.heap.objs.size + 2, s1.heap.objs.size + 3, s1.heap.objs.size, s1.heap.objs.size + 1] → FpOk X pins H1 c := fun c hcm => by
        have e' : c = s1.heap.objs.size + 4 ∨ c = s1.heap.objs.size + 2 ∨ c = s1.heap.objs.size + 3 ∨ c = s1.heap.objs.size ∨ c = s1.heap.objs.size + 1 := by simpa using hcm
        have hle : s1.heap.objs.size ≤ c := by
          rcases e' with z | z | z | z | z
          · rw [z]; exact Nat.le_add_right _ _
          · rw [z]; exact Nat.le_add_right _ _
          · rw [z]; exact Nat.le_add_right _ _
          · rw [z]; exact Nat.le_refl _
          · rw [z]; exact Nat.le_add_right _ _
        exact I1.fpOk hle (I1.hok.fresh hle)
      refine zip_begins2 (begins_text x t) (begins_text y t2) trivial trivial fun h' hz hTI hTO h1 h2 hsz hk => wpAny_pyIter_zip hz ?_
      have I2 : Inv X pins σ H1 { s1 with heap := h' } := I1.kept (t' := s1.toks) hk
      refine ⟨s1.heap.objs.size + 4, [s1.heap.objs.size + 4, s1.heap.objs.size + 2, s1.heap.objs.size + 3, s1.heap.objs.size, s1.heap.objs.size + 1], _, _, H1, rfl, I2, turn_zipS x y t t2 (zsep _) ex ey, ⟨hz, hTI, ⟨_, _, hTO⟩, ⟨_, h1, rfl, rfl⟩, ⟨_, h2, rfl, rfl⟩⟩, fresh5, q⟩
theorem walk_zipS {x y : Str} {n : Nat} : Walk (ItSz x y n) n (fun _ => True) (fun i H v H' => ∃ T c d, v = .ref T ∧ H T = none ∧ H' = upd H T (.tup [.str ⟨#[c]⟩, .str ⟨#[d]⟩]) ∧ x.cps[i]? = some c ∧ y.cps[i]? = some d) :=
  ⟨fun _ _ hi _ => hi, fun _ _ => rfl, fun _ _ _ _ _ _ y => y⟩
end L2

set_option Elab.async false
set_option linter.all false
set_option maxRecDepth 100000
set_option maxHeartbeats 4000000
/-! text * k. -/
namespace L2
open PySem PySem.Spec PyProof.Rows
theorem op_repS {X : Cx} : OpR X (binaryOp .Mult) (fun x y H Q => ∃ z k, x = .str z ∧ y = .int k ∧ z.length ≤ 1000 ∧ 0 ≤ k ∧ k ≤ 1000 ∧ Q (.str (Txt.mul z k)) H) := by
  intro pins s σ H x y v u Q I rx ry h
  obtain ⟨z, k, rfl, rfl, hz, k0, k1, q⟩ := h
  obtain ⟨t, rfl⟩ := rx
  obtain ⟨t', rfl⟩ := ry
  exact SB.mul (PyProof.Rows.mulOk_of 1000 1000 hz k1 (by omega) (by decide) (by decide)) fun t' tk => ⟨.str _, H, I.tok _, ⟨_, rfl⟩, q⟩
end L2

set_option Elab.async false
set_option linter.all false
set_option maxRecDepth 100000
set_option maxHeartbeats 16000000
set_option pp.maxSteps 400
/-! What the law asks, taken together. -/
namespace V8
open PySem PySem.Spec PyProof.Rows L2 LamX
/-- a table, again and again -/
def pT (t : Tab) : Nat → Tab
  | 0 => t
  | k + 1 => bothT (pT t k) t
theorem pT_ok {n : Nat} {t : Tab} (g : TbN n t) : ∀ k, (∃ m, TbN m (pT t k)) ∧ lk (pT t k) = pF (lk t) k
  | 0 => ⟨⟨n, g⟩, rfl⟩
  | k + 1 => by
    obtain ⟨⟨m, gm⟩, e⟩ := pT_ok g k
    refine ⟨⟨_, gm.both g⟩, ?_⟩
    show lk (bothT (pT t k) t) = cF (pF (lk t) k) (lk t)
    rw [both_lk gm g, e]
theorem pT_bnd {n : Nat} {t : Tab} (g : TbN n t) {k : Nat} (h : (List.range (k + 1)).all (fun j => (longs (pT t j)).isEmpty) = true) : ∀ j, j ≤ k → Bnd 64 (pF (lk t) j) := fun j hj => by
  obtain ⟨⟨m, gm⟩, e⟩ := pT_ok g j
  rw [← e]
  refine (longs_nil gm).mp ?_
  have z := List.all_eq_true.mp h j (List.mem_range.mpr (by omega))
  exact List.isEmpty_iff.mp z
theorem pT_lk {n : Nat} {t u : Tab} (g : TbN n t) (k : Nat) (h : eqM (pT t k) u) : pF (lk t) k = lk u := by
  rw [← (pT_ok g k).2]
  exact eqM_lk.mp h
/-- heard of one >> other -/
def Heard (CM : Addr) (H : Hp) (v : V) (f : Fu) : Prop := (Bnd 64 f ∧ ∃ l z t, v = .ref l ∧ H l = some (.lst [.ref z]) ∧ MisAt CM H z t ∧ lk t = f) ∨ (¬ Bnd 64 f ∧ ∃ l, v = .ref l ∧ H l = some (.tup [.str "image", .int 64]))
section
variable {K : PySem.W.Frag} {CM CB CN CT : Addr} {H : Hp} {Q R : VK} {E : XK} {x y : Addr} {u v : Tab} {cs : List Nat} {TL : List (Addr × Str)} {σ : L2.St} {i j : Nat}
theorem heard_rsh (hi : σ[i]? = some (some (.ref x))) (hj : σ[j]? = some (some (.ref y))) (tb : Tabs TL H) (mx : MisAt CM H x u) (my : MisAt CM H y v) (bu : Bnd 64 (lk u)) (bv : Bnd 64 (lk v)) (ou : Ovr cs (lk u)) (h12 : cs.length ≤ 12)
    (k : ∀ w H', Heard CM H' w (cF (lk u) (lk v)) → ExtN H H' → Tabs TL H' → R w H') : tLam TL (TTheard CB CN CT) (fun E => tOp (rBinOwn K CM (spRshX K CM CB CT) E) (tVar i) (tVar j)) σ H R := by
  refine ⟨tb, fun H1 e1 tb1 R1 H2 hR s2 => ⟨_, hi, _, hj, ?_⟩⟩
  have mx2 := (mx.ext e1).same s2
  have my2 := (my.ext e1).same s2
  have e2 : ExtN H H2 := e1.trans (ExtN.of s2)
  refine rsh_end mx2 my2 bu bv ou h12 ⟨fun b z H3 t nz mz ez s3 => hR _ _ fun l H4 s4 nl hl => k _ _ (.inl ⟨b, l, z, t, rfl, hl, mz.same s4, ez⟩) (e2.trans (ExtN.of fun b o e => s4 _ _ (s3 _ _ e))) (tb1.ext fun b o e => s4 _ _ (s3 _ _ (s2 _ _ e))), fun nb d H3 nd s3 hd => ⟨d, rfl, .inr (.inr ⟨rfl, _, _, hd, fun l H4 s4 hl => k _ _ (.inr ⟨nb, l, rfl, hl⟩) (e2.trans (ExtN.of fun b o e => s4 _ _ (s3 _ _ e))) (tb1.ext fun b o e => s4 _ _ (s3 _ _ (s2 _ _ e)))⟩)⟩⟩
theorem Heard.same {H' : Hp} {w : V} {f : Fu} (h : Heard CM H w f) (s : Same H H') : Heard CM H' w f := by
  rcases h with ⟨b, l, z, t, e, hl, m, et⟩ | ⟨b, l, e, hl⟩
  · exact .inl ⟨b, l, z, t, e, s _ _ hl, m.same s, et⟩
  · exact .inr ⟨b, l, e, s _ _ hl⟩
/-- what is asked of what is heard -/
def IsP (CM : Addr) (H : Hp) (hh : Addr) (tv : V) : Prop := (((tv = .non ∨ ∃ d t n, tv = .ref d ∧ H d = some (.dK (encT t)) ∧ TbN n t ∧ n ≤ 5000 ∧ ¬ Bnd 64 (lk t)) ∧ H hh = some (.tup [.str "image", .int 64])) ∨
   (∃ d t x u, tv = .ref d ∧ H d = some (.dK (encT t)) ∧ TbN 64 t ∧ H hh = some (.lst [.ref x]) ∧ MisAt CM H x u ∧ lk u = lk t))
theorem is_parts {w : V} {f : Fu} {d : Addr} {n : Nat} {t : Tab} (hv : Heard CM H w f) (hd : H d = some (.dK (encT t))) (g : TbN n t) (hn : n ≤ 5000) (e : lk t = f) : ∃ hh, w = .ref hh ∧ IsP CM H hh (.ref d) := by
  rcases hv with ⟨b, l, z, u, rfl, hl, m, eu⟩ | ⟨b, l, rfl, hl⟩
  · exact ⟨l, rfl, .inr ⟨d, t, z, u, rfl, hd, g.cut (by rw [e]; exact b), hl, m, by rw [eu, e]⟩⟩
  · exact ⟨l, rfl, .inl ⟨.inr ⟨d, t, n, rfl, hd, g, hn, by rw [e]; exact b⟩, hl⟩⟩
end
/-- a display of a table -/
theorem heap_disp {H : Hp} {p : Addr} {t : Tab} (nd : (t.map (·.1)).Nodup) : upd (upd H p (.dK [])) p (.dK (mergeK [] (encT t))) = upd H p (.dK (encT t)) := by
  have e : mergeK [] (encT t) = encT (mergeT [] t) := mergeK_enc t []
  rw [e, mergeT_app (a := []) (by rw [List.nil_append]; exact nd), upd_upd]
  rfl
theorem rep_letters : ∀ c ∈ [98, 99, 100, 101, 102], ∀ k ∈ [1, 2, 3, 4], Txt.mul (L1 c) ((k : Nat) : Int) = Sx (List.replicate k c) := by decide +kernel
theorem pairs_const {σ : L2.St} : ∀ (kvs : List (Str × Str)) (H : Hp) (Q : List (V × V) → Hp → Prop), Q (kvs.map fun q => (V.str q.1, V.str q.2)) H → tPairs (kvs.map fun q => (tC (.str q.1), tC (.str q.2))) σ H Q
  | [], _, _, h => h
  | q :: r, H, Q, h => pairs_const r H (fun ps H' => Q ((V.str q.1, V.str q.2) :: ps) H') h
section
variable {CM : Addr} {H : Hp} {Q : VK} {σ : L2.St}
/-- {"a": "b", ..} -/
theorem disp_const {kvs : List (Str × Str)} {T : Tab} (e : (kvs.map fun q => (V.str q.1, V.str q.2)) = (encT T).map fun kv => (kV kv.1, kv.2)) (l : T.length ≤ 12) (nd : (T.map (·.1)).Nodup) (q : ∀ p, H p = none → Q (.ref p) (upd H p (.dK (encT T)))) :
    tDisp (kvs.map fun q => (tC (.str q.1), tC (.str q.2))) σ H Q := fun p np => by
  refine pairs_const kvs _ _ ?_
  refine ⟨upd_same, encT T, e, by rw [encT_len]; omega, ?_⟩
  have h := q p np
  rw [← heap_disp (H := H) (p := p) nd] at h
  exact h
/-- Misreading({"a": "b", ..}) -/
theorem mk_disp {kvs : List (Str × Str)} {T : Tab} (e : (kvs.map fun q => (V.str q.1, V.str q.2)) = (encT T).map fun kv => (kV kv.1, kv.2)) (l : T.length ≤ 12) (G : GoodT abc T) (q : ∀ x H', MisAt CM H' x T → Same H H' → Q (.ref x) H') :
    tMk1 CM (tCons (tDisp (kvs.map fun q => (tC (.str q.1), tC (.str q.2)))) tNil) σ H Q := by
  refine show tDisp (kvs.map fun q => (tC (.str q.1), tC (.str q.2))) σ H (fun v H1 => mkR CM [v, .str (Sx [])] H1 Q) from disp_const e l G.nd fun p np => ?_
  refine ⟨p, abc, [], T, rfl, upd_same, G, ⟨by rw [toldT_nil G.nd]; exact l, by rw [abc_len]; omega⟩, fun c hc => abc_mem.mp hc, fun c h => (nomatch h), by decide, fun x H' nx m s => ?_⟩
  have m' := m.mis
  rw [toldT_nil G.nd] at m'
  exact q x H' m' (Same.trans (same_put (s := Same.refl H) np) s)
end
/-! the law's own tables -/
def tA : Tab := [(97, [98, 98, 98, 99])]
def tB : Tab := [(98, [100, 100, 100, 100]), (99, [100])]
def tCc : Tab := [(100, [101, 101, 102])]
def tDd : Tab := [(101, [103, 103]), (102, [103])]
def tL : Tab := [(97, List.replicate 13 100)]
def tR : Tab := [(100, List.replicate 5 103)]
def tO : Tab := [(97, [98]), (98, [99]), (99, [97])]
def tS : Tab := [(97, [97, 97])]
def t4 : Tab := [(97, [98, 98, 98, 98]), (98, [99, 99, 99, 99]), (99, [100, 100, 100, 100]), (100, [101, 101])]
def ch6 : List Nat := [97, 98, 99, 100, 101, 102]
def chA : List Nat := [97, 98, 99, 100, 101]
def chB : List Nat := [98, 99, 100, 101, 102]
theorem eL : bothT tA tB = tL := by decide +kernel
theorem eR : bothT tCc tDd = tR := by decide +kernel
theorem gA : TbN 4 tA := ⟨by decide, by decide, by decide, by decide, by decide⟩
theorem gB : TbN 4 tB := ⟨by decide, by decide, by decide, by decide, by decide⟩
theorem gC : TbN 4 tCc := ⟨by decide, by decide, by decide, by decide, by decide⟩
theorem gD : TbN 4 tDd := ⟨by decide, by decide, by decide, by decide, by decide⟩
theorem gL : TbN 16 tL := by
  have := gA.both gB
  rw [eL] at this
  exact this
theorem gR : TbN 16 tR := by
  have := gC.both gD
  rw [eR] at this
  exact this
theorem gO : TbN 4 tO := ⟨by decide, by decide, by decide, by decide, by decide⟩
theorem gS : TbN 4 tS := ⟨by decide, by decide, by decide, by decide, by decide⟩
theorem gZ : TbN 4 tZ := ⟨by decide, by decide, by decide, by decide, by decide⟩
theorem gN : TbN 4 [] := ⟨by decide, by decide, by decide, by decide, by decide⟩
theorem GoodT.of {cs : List Nat} {t : Tab} (h1 : (t.map (·.1)).Nodup) (h2 : ∀ q ∈ t, q.1 ∈ cs) (h3 : ∀ q ∈ t, 1 ≤ q.2.length ∧ q.2.length ≤ 4 ∧ ∀ d ∈ q.2, d ∈ cs) : GoodT cs t := ⟨h1, h2, h3⟩
theorem GA : GoodT abc tA := .of (by decide) (by decide) (by decide)
theorem GB : GoodT abc tB := .of (by decide) (by decide) (by decide)
theorem GC : GoodT abc tCc := .of (by decide) (by decide) (by decide)
theorem GD : GoodT abc tDd := .of (by decide) (by decide) (by decide)
theorem GO : GoodT abc tO := .of (by decide) (by decide) (by decide)
theorem GS : GoodT abc tS := .of (by decide) (by decide) (by decide)
theorem G4 : GoodT ch6 t4 := .of (by decide) (by decide) (by decide)
/-- over some letters -/
theorem ovr_of {n : Nat} {cs : List Nat} {t : Tab} (g : TbN n t) (h1 : ∀ q ∈ t, q.1 ∈ cs) (h2 : ∀ q ∈ t, ∀ d ∈ q.2, d ∈ cs) : Ovr cs (lk t) := ⟨fun c s e => h1 _ (look_in (lk_some e).2), fun c s e => h2 _ (look_in (lk_some e).2)⟩
theorem oA : Ovr ch6 (lk tA) := ovr_of gA (by decide) (by decide)
theorem oC : Ovr [100, 101, 102] (lk tCc) := ovr_of gC (by decide) (by decide)
theorem oL : Ovr [97, 100] (lk tL) := ovr_of gL (by decide) (by decide)
theorem oO : Ovr [97, 98, 99] (lk tO) := ovr_of gO (by decide) (by decide)
theorem oS : Ovr [97] (lk tS) := ovr_of gS (by decide) (by decide)
theorem oZ : Ovr [97] (lk tZ) := ovr_of gZ (by decide) (by decide)
theorem oN : Ovr [] (lk []) := ovr_of gN (by decide) (by decide)
theorem nb65 : ¬ Bnd 64 (cF (lk tL) (lk tR)) := fun h => by
  rw [← both_lk gL gR] at h
  have z := (longs_nil (gL.both gR)).mpr h
  exact absurd z (by decide +kernel)
theorem bO : ∀ j, j ≤ 63 → Bnd 64 (pF (lk tO) j) := pT_bnd gO (by decide +kernel)
theorem bN : ∀ j, j ≤ 63 → Bnd 64 (pF (lk []) j) := pT_bnd gN (by decide +kernel)
theorem bS : ∀ j, j ≤ 5 → Bnd 64 (pF (lk tS) j) := pT_bnd gS (by decide +kernel)
theorem bZ : ∀ j, j ≤ 2 → Bnd 64 (pF (lk tZ) j) := pT_bnd gZ (by decide +kernel)
theorem o63 : pF (lk tO) 63 = lk tO := pT_lk gO 63 (by decide +kernel)
theorem o62 : pF (lk tO) 62 = lk (toldT [97, 98, 99] []) := pT_lk gO 62 (by decide +kernel)
theorem o61 : pF (lk tO) 61 = cF (lk tO) (lk tO) := by
  rw [pT_lk gO 61 (u := bothT tO tO) (by decide +kernel), both_lk gO gO]
theorem n63 : pF (lk []) 63 = lk [] := pT_lk gN 63 (by decide +kernel)
theorem s5z : pF (lk tS) 5 = pF (lk tZ) 2 := by
  rw [pT_lk gS 5 (u := pT tZ 2) (by decide +kernel), (pT_ok gZ 2).2]
end V8

set_option Elab.async false
set_option linter.all false
set_option maxRecDepth 100000
set_option maxHeartbeats 16000000
set_option pp.maxSteps 400
/-! The law of misreadings composed. -/
namespace V8
open PySem PySem.Spec PyProof.Rows L2 LamX
abbrev s_law : Stmt := topS 49
abbrev n_law : List Str := ["_law_script", "_law_pen_here", "_law_turn", "_law_some", "_law_first", "_law_last", "_law_one", "_law_two", "_law_whole", "_law_wide", "_law_odd", "_law_chain", "_law_letter", "_law_later", "_law_left", "_law_right", "_law_ring"]
theorem sc_law : FnScope ["_law_script", "_law_pen_here", "_law_turn", "_law_some", "_law_first", "_law_last", "_law_one", "_law_two", "_law_whole", "_law_wide", "_law_odd", "_law_chain", "_law_letter", "_law_later", "_law_left", "_law_right", "_law_ring"] ["_law_script"] (defScope s_law) := ⟨rfl, rfl, rfl, by decide +kernel, rfl, by decide +kernel, by decide +kernel⟩
def spLaw (TL : List (Addr × Str)) (K : PySem.W.Frag) : Sp := fun vs H Q _ => ∃ (a : Addr) (ns : List Int), vs = [.ref a] ∧ SqL K H a (ns.map V.int) ∧ ns.length ≤ 63 ∧ Tabs TL H ∧ ∀ H', Q (.bl true) H'
theorem tabs_mono {T : List (Addr × Str)} {H H' : Hp} (t : Tabs T H) (e : ∀ b o, H b = some o → (∀ xs, o ≠ .lst xs) → H' b = some o) : Tabs T H' := fun p hp => by
  obtain ⟨ps, h1, h2, h3⟩ := t p hp
  refine ⟨ps, e _ _ h1 (fun _ z => nomatch z), h2, fun pos cv hc => ?_⟩
  obtain ⟨c, e1, e2⟩ := h3 pos cv hc
  exact ⟨c, e1, e _ _ e2 (fun _ z => nomatch z)⟩
theorem fr_mono {p l : Addr} {ns : List Int} {n : Nat} {H H' : Hp} (P : PenAt H p l ns n) (f : Fr p H H') : ∀ b o, H b = some o → (∀ xs, o ≠ .lst xs) → H' b = some o := fun b o e hl => f b o e fun z => by
  obtain ⟨xs, hp⟩ := P.pen
  rw [z] at e
  rw [hp] at e
  exact hl _ (Option.some.inj e).symm
theorem pen_ext {H H' : Hp} {p l : Addr} {ns : List Int} {n : Nat} (P : PenAt H p l ns n) (s : ExtN H H') : PenAt H' p l ns n := by
  obtain ⟨⟨a, g, h1, h2, h3, h4⟩, i, e, sh⟩ := P
  exact ⟨⟨a, g, s _ _ h1 (fun _ z => nomatch z), h2, h3, h4⟩, s _ _ i (fun _ z => nomatch z), e, sh⟩
/-- values that are no misreadings, by their types -/
def oddTypes : List String := ["NoneType", "int", "str", "bool", "dict", "list", "tuple"]
structure OddF (K : PySem.W.Frag) (CM : Addr) : Prop where
  ok : ∀ t ∈ oddTypes, BesideT K CM (Operator.RShift).info.2 (.type t) ∧ PySem.W.kitOne K (.type t) (.ref CM) = some false ∧ PySem.W.notFirst K CM (.type t) = true
def OddAt (H : Hp) (v : V) : Prop := v = .non ∨ (∃ i, v = .int i) ∨ (∃ z, v = .str z) ∨ (∃ b, v = .bl b) ∨ (∃ a kvs, v = .ref a ∧ H a = some (.dK kvs)) ∨ (∃ a xs, v = .ref a ∧ H a = some (.lst xs)) ∨ ∃ a xs, v = .ref a ∧ H a = some (.tup xs)
theorem OddAt.ty {K : PySem.W.Frag} {H : Hp} {v : V} (o : OddAt H v) : ∃ t ∈ oddTypes, TyX K H v (.type t) := by
  rcases o with rfl | ⟨i, rfl⟩ | ⟨z, rfl⟩ | ⟨b, rfl⟩ | ⟨a, kvs, rfl, h⟩ | ⟨a, kvs, rfl, h⟩ | ⟨a, kvs, rfl, h⟩
  · exact ⟨"NoneType", by decide, .base .non⟩
  · exact ⟨"int", by decide, .base (.int i)⟩
  · exact ⟨"str", by decide, .base (.str z)⟩
  · exact ⟨"bool", by decide, .base (.bl b)⟩
  · exact ⟨"dict", by decide, .base (.dK h)⟩
  · exact ⟨"list", by decide, .base (.lst h)⟩
  · exact ⟨"tuple", by decide, .base (.tup h)⟩
theorem OddAt.ext {H H' : Hp} {v : V} (o : OddAt H v) (e : ExtN H H') : OddAt H' v := by
  rcases o with rfl | ⟨i, rfl⟩ | ⟨z, rfl⟩ | ⟨b, rfl⟩ | ⟨a, kvs, rfl, h⟩ | ⟨a, kvs, rfl, h⟩ | ⟨a, kvs, rfl, h⟩
  · exact .inl rfl
  · exact .inr (.inl ⟨_, rfl⟩)
  · exact .inr (.inr (.inl ⟨_, rfl⟩))
  · exact .inr (.inr (.inr (.inl ⟨_, rfl⟩)))
  · exact .inr (.inr (.inr (.inr (.inl ⟨_, _, rfl, e _ _ h (fun _ z => nomatch z)⟩))))
  · exact .inr (.inr (.inr (.inr (.inr (.inl ⟨_, _, rfl, e _ _ h (fun _ z => nomatch z)⟩)))))
  · exact .inr (.inr (.inr (.inr (.inr (.inr ⟨_, _, rfl, e _ _ h (fun _ z => nomatch z)⟩)))))
section
variable {K : PySem.W.Frag} {CM CB CT : Addr} {H : Hp} {Q : VK} {E : XK} {x : Addr} {y : V} {u : Tab}
theorem rsh_odd (O : OddF K CM) (mx : MisAt CM H x u) (o : OddAt H y) (q : OutB CB H E) : rBinAny K CM (Operator.RShift).info.2 (spRshX K CM CB CT) E (.ref x) y H Q := by
  obtain ⟨dx, fx, hx⟩ := mx.ins
  obtain ⟨t, ht, ty⟩ := o.ty (K := K)
  obtain ⟨b, k, nf⟩ := O.ok t ht
  exact ⟨x, dx, fx, _, rfl, hx, ty, b, x, y, u, rfl, mx, .inr ⟨_, ty, k, q⟩⟩
end
/-- what a turn keeps -/
structure L11 (TL : List (Addr × Str)) (CM p l d1 d2 dw x1 x2 : Addr) (ns : List Int) (n : Nat) (t1 t2 tw : Tab) (H : Hp) : Prop where
  pa : PenAt H p l ns n
  m1 : MisAt CM H x1 t1
  m2 : MisAt CM H x2 t2
  h1 : H d1 = some (.dK (encT t1))
  h2 : H d2 = some (.dK (encT t2))
  hw : H dw = some (.dK (encT tw))
  tb : Tabs TL H
section
variable {TL : List (Addr × Str)} {CM p l d1 d2 dw x1 x2 : Addr} {ns : List Int} {n : Nat} {t1 t2 tw : Tab} {H H' : Hp}
theorem L11.same (L : L11 TL CM p l d1 d2 dw x1 x2 ns n t1 t2 tw H) (s : Same H H') : L11 TL CM p l d1 d2 dw x1 x2 ns n t1 t2 tw H' := ⟨pen_same L.pa s, L.m1.same s, L.m2.same s, s _ _ L.h1, s _ _ L.h2, s _ _ L.hw, L.tb.ext s⟩
theorem L11.ext (L : L11 TL CM p l d1 d2 dw x1 x2 ns n t1 t2 tw H) (s : ExtN H H') (t : Tabs TL H') : L11 TL CM p l d1 d2 dw x1 x2 ns n t1 t2 tw H' := ⟨pen_ext L.pa s, L.m1.ext s, L.m2.ext s, s _ _ L.h1 (fun _ z => nomatch z), s _ _ L.h2 (fun _ z => nomatch z), s _ _ L.hw (fun _ z => nomatch z), t⟩
end
/-- the law's facts -/
structure Tl (K : PySem.W.Frag) (mg : Str → Option Value) (CM CJ CB CN CT CR : Addr) : Prop extends Tp K mg CM CJ CB CN CT CR where
  odd : OddF K CM
  zip : mg "zip" = none
section
variable {P : Program} {w : World} {K : PySem.W.Frag} {mg : Str → Option Value} {base : Heap} {CM CJ CB CN CT CR g c PT : Addr} {TL : List (Addr × Str)}
theorem ok_law {f : Addr} {fd : FuncData} (F : FunC K "law" "law" s_law f c fd) (T : Tl K mg CM CJ CB CN CT CR) (D_pen : Df P w K mg base 1 "_law_pen" (spPen K)) (D_draw : Df P w K mg base 1 "_law_draw" spDraw) (D_pick : Df P w K mg base 2 "_law_pick" (spPick K)) (D_some_letters : Df P w K mg base 2 "_law_some_letters" spLetters)
    (D_table : Df P w K mg base 4 "_law_table" (spTab 260)) (D_both : Df P w K mg base 2 "_law_both" spBoth) (D_is : Df P w K mg base 4 "_law_is" (spIs CM)) (D_in_place_right : Df P w K mg base 9 "_law_in_place_right" (spInPl CM)) (D_powers_right : Df P w K mg base 12 "_law_powers_right" (spPowers TL))
    (D_heard : HearD K mg g) (TB : TabT base mg TL (("law" : Str) ++ ".<locals>.") c PT) (D_read : Rd0 P w K mg base CM) (D_same : Sms P w K mg base CM) (D_rshift : BoX P w K mg base 7 CM "__rshift__" (spRshX K CM CB CT)) (D_pow : BoX P w K mg base 8 CM "__pow__" (spPowX CM CT CN))
    (D_get : Mf P w K mg base 2 CM "__getitem__" (spGet CM)) (D_eq : Mf P w K mg base 1 CM "__eq__" (spEq K CM)) (D_mk : Mkr P w K mg base CM) : FnOk P w K mg base CX0 13 f fd ["_law_script"] (spLaw TL K) := by
  refine F.ok sc_law (fun vs H Q E h => ?_) (fun A outer s H vs Q E hr h => ?_)
  · obtain ⟨a, ns, rfl, _⟩ := h
    rfl
  · obtain ⟨a, ns, rfl, hS, hn0, tb0, q0⟩ := h
    refine ⟨_, (pss_cons (ps_set (i := 1) sc_law.nd rfl (.inl rfl) (pe_c D_pen hr (by decide) (by rfl) (pa_cons (pv 0) pa_nil)))
      (pss_cons (ps_for PassesOwn.never rfl (pi_range1 (by rfl) T.range (pa_cons pe_int pa_nil)) (pg_name (i := 2) sc_law.nd rfl (.inl rfl))
        (pss_cons (ps_set (i := 3) sc_law.nd rfl (.inl rfl) (pe_c D_some_letters hr (by decide) (by rfl) (pa_cons (pv 1) (pa_cons (pe_op op_add pe_int (pe_c D_draw hr (by decide) (by rfl) (pa_cons (pv 1) (pa_cons pe_int pa_nil)))) pa_nil))))
        (pss_cons (ps_par (i := 4) (j := 5) (by rfl) sc_law.nd rfl rfl (by decide) rfl rfl (pa_cons (pe_c D_table hr (by decide) (by rfl) (pa_cons (pv 1) (pa_cons (pv 3) pa_nil))) (pa_cons (pe_c D_table hr (by decide) (by rfl) (pa_cons (pv 1) (pa_cons (pv 3) pa_nil))) pa_nil)) (by rfl))
        (pss_cons (ps_asg (pe_tup (pa_cons (pe_mk1 D_mk hr (by decide) (by rfl) (pa_cons (pv 4) pa_nil)) (pa_cons (pe_mk1 D_mk hr (by decide) (by rfl) (pa_cons (pv 5) pa_nil)) (pa_cons (pe_c D_both hr (by decide) (by rfl) (pa_cons (pv 4) (pa_cons (pv 5) pa_nil))) pa_nil)))) (pg_tup (by rfl) (pgs_cons (pg_name (i := 6) sc_law.nd rfl (.inr rfl)) (pgs_cons (pg_name (i := 7) sc_law.nd rfl (.inr rfl)) (pgs_cons (pg_name (i := 8) sc_law.nd rfl (.inl rfl)) pgs_nil)))))
        (pss_cons (ps_if (PW.pt (pw_or (pt_not (pt_val (pe_c D_is hr (by decide) (by rfl) (pa_cons (pe_heard (k := 8) T.toTh D_heard TB hr (by decide) rfl rfl (by rfl) (lamS_by (sc := defScope s_law) (by decide +kernel)) (by rfl) (fun _ _ _ _ _ => rfl) (fun A2 o2 s2 H2 E2 f2 c2 hr2 => (pe_op (op_binXK (K := K) rfl D_rshift (passTk (takes_of rfl rfl rfl rfl)) hr2 (by decide)) (pv 6) (pv 7)))) (pa_cons (pv 8) pa_nil))))) (pw_or1 (pt_not (pt_val (pe_c D_in_place_right hr (by decide) (by rfl) (pa_cons (pv 6) (pa_cons (pv 7) (pa_cons (pv 4) (pa_cons (pv 5) pa_nil))))))))))
          (pss_one (ps_ret pe_bl))
          pss_nil)
        (pss_cons (ps_set (i := 9) sc_law.nd rfl (.inr rfl) (pe_op (op_binXK (K := K) rfl D_rshift passL hr (by decide)) (pv 6) (pv 7)))
        (pss_cons (ps_if (pt_not (pt_val (pe_c D_is hr (by decide) (by rfl) (pa_cons (pe_heard (k := 8) T.toTh D_heard TB hr (by decide) rfl rfl (by rfl) (lamS_by (sc := defScope s_law) (by decide +kernel)) (by rfl) (fun _ _ _ _ _ => rfl) (fun A2 o2 s2 H2 E2 f2 c2 hr2 => (pe_op (op_binXK (K := K) rfl D_rshift (passTk (takes_of rfl rfl rfl rfl)) hr2 (by decide)) (pv 9) (pv 9)))) (pa_cons (pe_c D_both hr (by decide) (by rfl) (pa_cons (pv 8) (pa_cons (pv 8) pa_nil))) pa_nil)))))
          (pss_one (ps_ret pe_bl))
          pss_nil)
        (pss_cons (ps_if (PW.pt (pw_or (pt_not (pt_val (pe_c D_is hr (by decide) (by rfl) (pa_cons (pe_heard (k := 8) T.toTh D_heard TB hr (by decide) rfl rfl (by rfl) (lamS_by (sc := defScope s_law) (by decide +kernel)) (by rfl) (fun _ _ _ _ _ => rfl) (fun A2 o2 s2 H2 E2 f2 c2 hr2 => (pe_op (op_binXK (K := K) rfl D_rshift (passTk (takes_of rfl rfl rfl rfl)) hr2 (by decide)) (pv 9) (pv 6)))) (pa_cons (pe_c D_both hr (by decide) (by rfl) (pa_cons (pv 8) (pa_cons (pv 4) pa_nil))) pa_nil))))) (pw_or1 (pt_not (pt_val (pe_c D_powers_right hr (by decide) (by rfl) (pa_cons (pv 4) pa_nil)))))))
          (pss_one (ps_ret pe_bl))
          pss_nil)
        (pss_cons (ps_set (i := 10) sc_law.nd rfl (.inr rfl) (pe_c D_pick hr (by decide) (by rfl) (pa_cons (pv 1) (pa_cons (pe_lst (pa_cons pe_non (pa_cons pe_int (pa_cons pe_str (pa_cons pe_dnewK (pa_cons (pv 4) (pa_cons (pe_lst (pa_cons (pv 7) pa_nil)) (pa_cons (pe_tup (pa_cons (pv 7) pa_nil)) (pa_cons pe_bl pa_nil))))))))) pa_nil))))
        (pss_one (ps_if (pt_cmpR (op_neDK (K := K) rfl hr.units) (pe_heard (k := 8) T.toTh D_heard TB hr (by decide) rfl rfl (by rfl) (lamS_by (sc := defScope s_law) (by decide +kernel)) (by rfl) (fun _ _ _ _ _ => rfl) (fun A2 o2 s2 H2 E2 f2 c2 hr2 => (pe_op (op_anyXK (K := K) rfl D_rshift (passTk (takes_of rfl rfl rfl rfl)) T.nrr hr2 (by decide)) (pv 6) (pv 10)))) (pe_tup (pa_cons pe_str (pa_cons pe_str pa_nil))) (nomark _))
          (pss_one (ps_ret pe_bl))
          pss_nil)))))))))))
      (pss_cons (ps_set (i := 11) sc_law.nd rfl (.inl rfl) pe_dnewK)
      (pss_cons (ps_for PassesOwn.never rfl (pi_zipS (by rfl) T.zip (pa_cons pe_str (pa_cons pe_str pa_nil))) (pg_tup (by rfl) (pgs_cons (pg_name (i := 12) sc_law.nd rfl (.inl rfl)) (pgs_cons (pg_name (i := 13) sc_law.nd rfl (.inl rfl)) pgs_nil)))
        (pss_one (ps_dput (hu_of hr) (pv 11) (pv 12) (pe_op op_repS (pv 13) (pe_op op_add pe_int (pe_c D_draw hr (by decide) (by rfl) (pa_cons (pv 1) (pa_cons pe_int pa_nil))))) rfl)))
      (pss_cons (ps_if (PW.pt (pw_or (pt_not (pt_val (pe_c D_powers_right hr (by decide) (by rfl) (pa_cons (pv 11) pa_nil)))) (pw_or1 (pt_not (pt_val (pe_c D_powers_right hr (by decide) (by rfl) (pa_cons (pe_disp (pps_cons pe_str pe_str (pps_cons pe_str pe_str (pps_cons pe_str pe_str (pps_cons pe_str pe_str pps_nil)))) (by rfl) (by rfl) (fun z => by cases z) (by decide)) pa_nil)))))))
        (pss_one (ps_ret pe_bl))
        pss_nil)
      (pss_cons (ps_asg (pe_tup (pa_cons (pe_op (op_binXK (K := K) rfl D_rshift passL hr (by decide)) (pe_mk1 D_mk hr (by decide) (by rfl) (pa_cons (pe_disp (pps_cons pe_str pe_str pps_nil) (by rfl) (by rfl) (fun z => by cases z) (by decide)) pa_nil)) (pe_mk1 D_mk hr (by decide) (by rfl) (pa_cons (pe_disp (pps_cons pe_str pe_str (pps_cons pe_str pe_str pps_nil)) (by rfl) (by rfl) (fun z => by cases z) (by decide)) pa_nil))) (pa_cons (pe_mk1 D_mk hr (by decide) (by rfl) (pa_cons (pe_disp (pps_cons pe_str pe_str pps_nil) (by rfl) (by rfl) (fun z => by cases z) (by decide)) pa_nil)) pa_nil))) (pg_tup (by rfl) (pgs_cons (pg_name (i := 14) sc_law.nd rfl (.inr rfl)) (pgs_cons (pg_name (i := 15) sc_law.nd rfl (.inr rfl)) pgs_nil))))
      (pss_cons (ps_set (i := 15) sc_law.nd rfl (.inr rfl) (pe_op (op_binXK (K := K) rfl D_rshift passL hr (by decide)) (pv 15) (pe_mk1 D_mk hr (by decide) (by rfl) (pa_cons (pe_disp (pps_cons pe_str pe_str (pps_cons pe_str pe_str pps_nil)) (by rfl) (by rfl) (fun z => by cases z) (by decide)) pa_nil))))
      (pss_cons (ps_if (PW.pt (pw_or (pt_cmpR op_ne (pe_ixO D_get hr (by decide) (pv 14) pe_str) (pe_op op_repS pe_str pe_int) (nomark _)) (pw_or (pt_cmpR op_ne (pe_ixO D_get hr (by decide) (pv 15) pe_str) pe_str (nomark _)) (pw_or1 (pt_cmpR (op_neDK (K := K) rfl hr.units) (pe_heard (k := 8) T.toTh D_heard TB hr (by decide) rfl rfl (by rfl) (lamS_by (sc := defScope s_law) (by decide +kernel)) (by rfl) (fun _ _ _ _ _ => rfl) (fun A2 o2 s2 H2 E2 f2 c2 hr2 => (pe_op (op_binXK (K := K) rfl D_rshift (passTk (takes_of rfl rfl rfl rfl)) hr2 (by decide)) (pv 14) (pv 15)))) (pe_tup (pa_cons pe_str (pa_cons pe_int pa_nil))) (nomark _))))))
        (pss_one (ps_ret pe_bl))
        pss_nil)
      (pss_cons (ps_set (i := 16) sc_law.nd rfl (.inl rfl) (pe_mk1 D_mk hr (by decide) (by rfl) (pa_cons (pe_disp (pps_cons pe_str pe_str (pps_cons pe_str pe_str (pps_cons pe_str pe_str pps_nil))) (by rfl) (by rfl) (fun z => by cases z) (by decide)) pa_nil)))
      (pss_cons (ps_if (PW.pt (pw_or (pt_cmpR (op_neO D_eq T.ne T.tD hr (by decide)) (pe_op (op_powX (K := K) rfl D_pow T.ip passL hr (by decide)) (pv 16) pe_int) (pv 16) (nomark _)) (pw_or (pt_cmpR (op_neO D_eq T.ne T.tD hr (by decide)) (pe_op (op_powX (K := K) rfl D_pow T.ip passL hr (by decide)) (pv 16) pe_int) (pe_sm D_same hr (by decide) (pe_gv T.gMisreading (by rfl)) (pa_cons pe_str pa_nil)) (nomark _)) (pw_or1 (pt_cmpR (op_neO D_eq T.ne T.tD hr (by decide)) (pe_op (op_powX (K := K) rfl D_pow T.ip passL hr (by decide)) (pv 16) pe_int) (pe_op (op_binXK (K := K) rfl D_rshift passL hr (by decide)) (pv 16) (pv 16)) (nomark _))))))
        (pss_one (ps_ret pe_bl))
        pss_nil)
      (pss_one (ps_ret (pe_and (pe_cmpR (op_eqO D_eq hr (by decide)) (pe_op (op_powX (K := K) rfl D_pow T.ip passL hr (by decide)) (pe_mk1 D_mk hr (by decide) (by rfl) (pa_cons pe_dnewK pa_nil)) pe_int) (pe_mk1 D_mk hr (by decide) (by rfl) (pa_cons pe_dnewK pa_nil)) (nomark _)) (pe_one (pe_cmpR (op_eqO D_eq hr (by decide)) (pe_op (op_powX (K := K) rfl D_pow T.ip passL hr (by decide)) (pe_mk1 D_mk hr (by decide) (by rfl) (pa_cons (pe_disp (pps_cons pe_str pe_str pps_nil) (by rfl) (by rfl) (fun z => by cases z) (by decide)) pa_nil)) pe_int) (pe_op (op_powX (K := K) rfl D_pow T.ip passL hr (by decide)) (pe_rd0 D_read hr (by decide) (pe_gv T.gMisreading (by rfl)) (pa_cons pe_str pa_nil)) pe_int) (nomark _)))))))))))))))), ?_⟩
    have c12 : ∀ c ∈ abc, isLt c := fun c hc => abc_mem.mp hc
    -- the pen
    refine ⟨_, rfl, a, ns, rfl, hS, hn0, fun p l H1 np s1 PA1 => ?_⟩
    have tb1 := tb0.ext s1
    -- the turns
    refine ⟨_, rfl, by decide, by decide, for_it (walk_range (lo := 0) (n := 4)) (fun i σ H2 => (∃ v2 v3 v4 v5 v6 v7 v8 v9 v10 : Option V, σ = [some (.ref a), some (.ref p), v2, v3, v4, v5, v6, v7, v8, v9, v10, none, none, none, none, none, none]) ∧ PenAt H2 p l ns (1000 * (4 - i) + 100) ∧ Tabs TL H2) ⟨⟨none, none, none, none, none, none, none, none, none, rfl⟩, PA1.less (by omega), tb1⟩ (fun _ _ _ _ _ => trivial) ?_ ?_⟩
    · rintro i z σ H2 H2' hi ⟨⟨v2, v3, v4, v5, v6, v7, v8, v9, v10, rfl⟩, PA2, tb2⟩ ⟨rfl, rfl⟩
      have hb : 1000 * (4 - i) + 100 = (1000 * (4 - (i + 1)) + 100) + 1000 := by omega
      rw [hb] at PA2
      generalize 1000 * (4 - (i + 1)) + 100 = n at PA2 ⊢
      -- letters
      refine ⟨_, rfl, _, rfl, p, l, ns, n + 980, 6, rfl, PA2.less (by omega), by decide, by decide, fun v H4 w0 w1 PA5 fr5 => ?_⟩
      obtain ⟨j, rfl⟩ : ∃ j : Nat, v = j := ⟨v.toNat, by omega⟩
      refine ⟨_, _, rfl, rfl, ?_⟩
      refine ⟨p, l, ns, n + 960, 1 + j, by rw [show ((1 + j : Nat) : Int) = 1 + (j : Int) by omega]; rfl, PA5.less (by omega), by omega, fun so cs H5 hlen hnd hlt PA6 fr6 nso hso => ?_⟩
      have h12 : cs.length ≤ 12 := by omega
      have hne : cs ≠ [] := fun z => by
        rw [z] at hlen
        simp at hlen
        omega
      have tb5 : Tabs TL H5 := tabs_mono (tabs_mono tb2 (fr_mono PA2 fr5)) (fr_mono PA5 fr6)
      have hsp : so ≠ p := PA5.nep nso
      clear PA5 fr5 fr6 nso hlen w0 w1 tb2 PA2
      refine atName ?_
      try dsimp only
      -- the tables
      refine ⟨_, rfl, _, rfl, p, l, so, ns, n + 600, cs, rfl, PA6.less (by omega), hso, hsp, hne, hnd, by omega, hlt, fun d1 t1 H6 G1 PA7 fr7 nd1 hd1 => ?_⟩
      have tb6 := tabs_mono tb5 (fr_mono PA6 fr7)
      have hso6 := fr7 _ _ hso hsp
      obtain ⟨pl, hpl⟩ := PA7.pen
      have hd1p : d1 ≠ p := ne_of hd1 hpl (fun z => nomatch z)
      refine ⟨_, rfl, _, rfl, p, l, so, ns, n + 300, cs, rfl, PA7.less (by omega), hso6, hsp, hne, hnd, by omega, hlt, fun d2 t2 H7 G2 PA8 fr8 nd2 hd2 => ⟨_, _, rfl, ?_⟩⟩
      have tb7 := tabs_mono tb6 (fr_mono PA7 fr8)
      replace hd1 := fr8 _ _ hd1 hd1p
      have A1 := G1.abc hlt
      have A2 := G2.abc hlt
      have l1 : t1.length ≤ 12 := Nat.le_trans G1.len h12
      have l2 : t2.length ≤ 12 := Nat.le_trans G2.len h12
      clear PA6 fr7 nd1 tb5 hso hso6 hpl hd1p PA7 fr8 nd2 tb6 hsp
      try dsimp only
      have g1 := G1.tbN hlt l1
      have g2 := G2.tbN hlt l2
      have o1 := good_over G1
      have o2 := good_over G2
      have b1 := (g1.le (m := 64) (by decide)).bnd
      have b2 := (g2.le (m := 64) (by decide)).bnd
      -- one, two, whole
      refine ⟨_, rfl, d1, abc, [], t1, rfl, hd1, A1, ⟨by rw [toldT_nil A1.nd]; exact l1, by rw [abc_len]; omega⟩, c12, fun c h => (nomatch h), by decide, fun x1 H8 nx1 m8 s8 => ?_⟩
      have m1 := m8.mis
      rw [toldT_nil A1.nd] at m1
      refine ⟨_, rfl, d2, abc, [], t2, rfl, s8 _ _ hd2, A2, ⟨by rw [toldT_nil A2.nd]; exact l2, by rw [abc_len]; omega⟩, c12, fun c h => (nomatch h), by decide, fun x2 H9 nx2 m9 s9 => ?_⟩
      have m2 := m9.mis
      rw [toldT_nil A2.nd] at m2
      have gw := g1.both g2
      have ew := both_lk g1 g2
      refine ⟨_, rfl, _, rfl, d1, d2, t1, t2, rfl, s9 _ _ (s8 _ _ hd1), s9 _ _ (s8 _ _ hd2), g1.le (by decide), g2.le (by decide), fun dw H10 ndw s10 hdw => ⟨by show 3 ≤ sizeLine; decide, fun tq ntq => ⟨tq, [.ref x1, .ref x2, .ref dw], rfl, .inl (.inl upd_same), rfl, _, _, rfl, _, _, rfl, _, _, rfl, rfl, ?_⟩⟩⟩
      generalize bothT t1 t2 = tw at gw ew hdw
      have s910 : Same H9 (upd H10 tq (.tup [.ref x1, .ref x2, .ref dw])) := same_put (s := s10) ntq
      have L : L11 TL CM p l d1 d2 dw x1 x2 ns (n + 300) t1 t2 tw (upd H10 tq (.tup [.ref x1, .ref x2, .ref dw])) :=
        ⟨pen_same PA8 (Same.trans s8 (Same.trans s9 s910)), (m1.same s9).same s910, m2.same s910, s910 _ _ (s9 _ _ (s8 _ _ hd1)), s910 _ _ (s9 _ _ (s8 _ _ hd2)), same_put (s := Same.refl H10) ntq _ _ hdw, tb7.ext (Same.trans s8 (Same.trans s9 s910))⟩
      generalize upd H10 tq (.tup [.ref x1, .ref x2, .ref dw]) = H11 at L ⊢
      clear s910 s10 s9 s8 m1 m2 m8 m9 nx1 nx2 ndw ntq hdw hd1 hd2 tb7 PA8
      have gw64 := gw.le (m := 64) (by decide)
      have bw := gw64.bnd
      have b12 : Bnd 64 (cF (lk t1) (lk t2)) := by rw [← ew]; exact bw
      have ow : Ovr cs (lk tw) := by rw [ew]; exact o1.comp o2
      try dsimp only
      -- heard of one >> two
      change tLam TL (TTheard CB CN CT) _ _ H11 _
      refine heard_rsh rfl rfl L.tb L.m1 L.m2 b1 b2 o1 h12 fun w H12 he e12 tb12 => ?_
      replace L := L.ext e12 tb12
      obtain ⟨hh, rfl, ho⟩ := is_parts he L.hw gw (by decide) ew
      refine ⟨_, rfl, hh, .ref dw, rfl, fun H13 s13 => ⟨true, rfl, iteF ?_⟩, ho⟩
      replace L := L.same s13
      clear he e12 tb12 s13
      -- in place
      refine ⟨_, rfl, _, rfl, _, rfl, _, rfl, x1, x2, d1, d2, t1, t2, cs, rfl, L.m1, L.m2, L.h1, L.h2, G1, G2, h12, hlt, l1, l2, fun H14 s14 => ⟨true, rfl, iteF ?_⟩⟩
      replace L := L.same s14
      clear s14
      refine nextS ?_
      dsimp only
      -- wide
      refine ⟨_, rfl, _, rfl, rsh_ok L.m1 L.m2 b1 b2 o1 h12 b12 fun xw H15 tz mz ez s15 => ?_⟩
      replace L := L.same s15
      have mw : MisAt CM H15 xw tw := mz.lk (by rw [ez, ew])
      clear mz ez s15
      refine atName ?_
      try dsimp only
      -- wide >> wide
      change tLam TL (TTheard CB CN CT) _ _ H15 _
      refine heard_rsh rfl rfl L.tb mw mw bw bw ow h12 fun w H16 he e16 tb16 => ?_
      replace L := L.ext e16 tb16
      replace mw := mw.ext e16
      refine ⟨_, rfl, _, rfl, dw, dw, tw, tw, rfl, L.hw, L.hw, gw64, gw64, fun dx H17 n17 s17 h17 => ?_⟩
      obtain ⟨hh, rfl, ho⟩ := is_parts (he.same s17) h17 (gw.both gw) (by decide) (both_lk gw gw)
      refine ⟨hh, .ref dx, rfl, fun H18 s18 => ⟨true, rfl, iteF ?_⟩, ho⟩
      replace L := (L.same s17).same s18
      replace mw := (mw.same s17).same s18
      clear he e16 tb16 n17 s17 h17 s18
      refine nextS ?_
      dsimp only
      -- wide >> one
      change tLam TL (TTheard CB CN CT) _ _ H18 _
      refine heard_rsh rfl rfl L.tb mw L.m1 bw b1 ow h12 fun w H19 he e19 tb19 => ?_
      replace L := L.ext e19 tb19
      refine ⟨_, rfl, _, rfl, dw, d1, tw, t1, rfl, L.hw, L.h1, gw64, g1.le (by decide), fun dx H20 n20 s20 h20 => ?_⟩
      obtain ⟨hh, rfl, ho⟩ := is_parts (he.same s20) h20 (gw.both g1) (by decide) (both_lk gw g1)
      refine ⟨hh, .ref dx, rfl, fun H21 s21 => ⟨true, rfl, iteF ?_⟩, ho⟩
      replace L := (L.same s20).same s21
      clear he e19 tb19 n20 s20 h20 s21 mw
      -- the powers
      refine ⟨_, rfl, d1, t1, cs, rfl, L.h1, G1, h12, hlt, l1, L.tb, fun H20 e20 tb20 => ⟨true, rfl, iteF ?_⟩⟩
      replace L := L.ext e20 tb20
      clear e20 tb20
      refine nextS ?_
      dsimp only
      -- odd
      refine ⟨_, rfl, fun en nen => ⟨_, rfl, _, rfl, by show 1 ≤ sizeLine; decide, fun lo nlo => ⟨_, rfl, by show 1 ≤ sizeLine; decide, fun tu ntu => ⟨by show 8 ≤ sizeLine; decide, fun LA nLA => ?_⟩⟩⟩⟩
      have q1 := same_put (s := Same.refl H20) (o := .dK []) nen
      have q2 := same_put (s := q1) (o := .lst [.ref x2]) nlo
      have q3 := same_put (s := q2) (o := .tup [.ref x2]) ntu
      have u2 : Same (upd H20 en (.dK [])) (upd (upd H20 en (.dK [])) lo (.lst [.ref x2])) := same_put (s := Same.refl _) nlo
      have u3 : Same (upd (upd H20 en (.dK [])) lo (.lst [.ref x2])) (upd (upd (upd H20 en (.dK [])) lo (.lst [.ref x2])) tu (.tup [.ref x2])) := same_put (s := Same.refl _) ntu
      have he : upd (upd (upd H20 en (.dK [])) lo (.lst [.ref x2])) tu (.tup [.ref x2]) en = some (.dK []) := u3 _ _ (u2 _ _ upd_same)
      have hl : upd (upd (upd H20 en (.dK [])) lo (.lst [.ref x2])) tu (.tup [.ref x2]) lo = some (.lst [.ref x2]) := u3 _ _ upd_same
      have ht : upd (upd (upd H20 en (.dK [])) lo (.lst [.ref x2])) tu (.tup [.ref x2]) tu = some (.tup [.ref x2]) := upd_same
      obtain ⟨pl, hpl⟩ := L.pa.pen
      have nlp : lo ≠ p := fun z => by
        rw [z, q1 _ _ hpl] at nlo
        cases nlo
      replace L := L.same q3
      generalize upd (upd (upd H20 en (.dK [])) lo (.lst [.ref x2])) tu (.tup [.ref x2]) = H21 at L he hl ht nLA ⊢
      clear q1 q2 q3 u2 u3 nen nlo ntu hpl
      obtain ⟨oL, eoL⟩ : ∃ oL : List V, oL = [.non, .int 0, .str "a:b", .ref en, .ref d1, .ref lo, .ref tu, .bl true] := ⟨_, rfl⟩
      rw [← eoL]
      have nLAp := L.pa.nep nLA
      have sLA : Same H21 (upd H21 LA (.lst oL)) := same_put (s := Same.refl _) nLA
      replace L := L.same sLA
      replace he := sLA _ _ he
      replace hl := sLA _ _ hl
      replace ht := sLA _ _ ht
      have hLA : upd H21 LA (.lst oL) LA = some (.lst oL) := upd_same
      generalize upd H21 LA (.lst oL) = H22 at L he hl ht hLA ⊢
      clear sLA nLA
      refine ⟨p, l, LA, ns, n + 200, oL, rfl, L.pa.less (by omega), SqL.of hLA, by rw [eoL]; show 0 < 8; decide, by rw [eoL]; show 8 < 1000; decide, fun H' fr => SqL.of (fr _ _ hLA nLAp), fun w H23 hw PA23 fr23 => ?_⟩
      have nl23 := fr_mono L.pa fr23
      have m1 : MisAt CM H23 x1 t1 := L.m1.mono nl23
      have tb23 : Tabs TL H23 := tabs_mono L.tb nl23
      have od : OddAt H23 w := by
        have d23 := nl23 _ _ L.h1 (fun _ z => nomatch z)
        have e23 := nl23 _ _ he (fun _ z => nomatch z)
        have t23 := nl23 _ _ ht (fun _ z => nomatch z)
        have l23 := fr23 _ _ hl nlp
        rw [eoL] at hw
        rcases List.mem_cons.mp hw with rfl | hw
        · exact .inl rfl
        rcases List.mem_cons.mp hw with rfl | hw
        · exact .inr (.inl ⟨_, rfl⟩)
        rcases List.mem_cons.mp hw with rfl | hw
        · exact .inr (.inr (.inl ⟨_, rfl⟩))
        rcases List.mem_cons.mp hw with rfl | hw
        · exact .inr (.inr (.inr (.inr (.inl ⟨_, _, rfl, e23⟩))))
        rcases List.mem_cons.mp hw with rfl | hw
        · exact .inr (.inr (.inr (.inr (.inl ⟨_, _, rfl, d23⟩))))
        rcases List.mem_cons.mp hw with rfl | hw
        · exact .inr (.inr (.inr (.inr (.inr (.inl ⟨_, _, rfl, l23⟩)))))
        rcases List.mem_cons.mp hw with rfl | hw
        · exact .inr (.inr (.inr (.inr (.inr (.inr ⟨_, _, rfl, t23⟩)))))
        · rw [List.mem_singleton.mp hw]
          exact .inr (.inr (.inr (.inl ⟨_, rfl⟩)))
      replace PA23 := PA23.less (m := n) (by omega)
      clear L he hl ht hLA nLAp nlp nl23 fr23 hw eoL
      refine atName ?_
      try dsimp only
      -- heard of one >> odd
      refine ⟨tb23, fun H24 e24 tb24 R1 H25 r1 s25 => ⟨_, rfl, _, rfl, rsh_odd T.odd ((m1.ext e24).same s25) ((od.ext e24).ext (ext_same s25)) fun d H26 nd s26 hd => ⟨d, rfl, .inl ⟨rfl, _, hd, fun tt H27 s27 ht => ⟨by show 2 ≤ sizeLine; decide, fun t4 n4 => ?_⟩⟩⟩⟩⟩
      have s28 := same_put (s := Same.refl H27) (o := .tup [.str "table", .str "other"]) n4
      have x28 : Same H24 (upd H27 t4 (.tup [.str "table", .str "other"])) := fun b o e => s28 _ _ (s27 _ _ (s26 _ _ (s25 _ _ e)))
      refine ne_same (d := .tuple [.str "table", .str "other"]) (.tup (.inl (.inl (s28 _ _ ht))) (.cons (.str _) (.cons (.str _) .nil))) (.tup (.inl (.inl upd_same)) (.cons (.str _) (.cons (.str _) .nil))) (by decide +kernel) ⟨false, rfl, iteF ?_⟩
      exact ⟨⟨_, _, _, _, _, _, _, _, _, rfl⟩, pen_same (pen_ext PA23 e24) x28, tb24.ext x28⟩
    · rintro σ H2 ⟨⟨v2, v3, v4, v5, v6, v7, v8, v9, v10, rfl⟩, PA2, tb2⟩
      clear hS tb0 s1 np PA1 tb1
      have PA2' := PA2.less (m := 100) (by omega)
      refine fun D nD => ?_
      have nDp := PA2.nep nD
      have nDl := PA2.nel nD
      have eA : ("abcde" : Str) = Sx chA := by decide +kernel
      have eB : ("bcdef" : Str) = Sx chB := by decide +kernel
      have fr0 : Fr p H2 (upd H2 D (.dK [])) := Fr.new nD
      have PA3 : PenAt (upd H2 D (.dK [])) p l ns 100 := PA2'.new nD
      have hD3 : upd H2 D (.dK []) D = some (.dK (encT [])) := upd_same
      try dsimp only
      show tSeq _ _ _ _ (upd H2 D (.dK []))
      generalize upd H2 D (.dK []) = H3 at fr0 PA3 hD3 ⊢
      clear PA2'
      -- the chain
      refine ⟨Sx chA, Sx chB, 5, by rw [eA, eB], rfl, rfl, for_it walk_zipS (fun i σ H4 => (∃ v12 v13 : Option V, σ = [some (.ref a), some (.ref p), v2, v3, v4, v5, v6, v7, v8, v9, v10, some (.ref D), v12, v13, none, none, none]) ∧ (∃ tc, H4 D = some (.dK (encT tc)) ∧ tc.map (·.1) = chA.take i ∧ GoodT ch6 tc) ∧ PenAt H4 p l ns (50 + (5 - i)) ∧ Fr p H2 H4) ⟨⟨none, none, rfl⟩, ⟨[], hD3, rfl, GoodT.nil⟩, PA3.less (by omega), fr0⟩ (fun _ _ _ _ _ => trivial) ?_ ?_⟩
      · rintro i z σ H4 H4' hi ⟨⟨v12, v13, rfl⟩, ⟨tc, hD, hk, G⟩, PA4, fr4⟩ ⟨tq, c, d, rfl, ntq, rfl, hc, hd⟩
        replace hc := sx_at hc
        replace hd := sx_at hd
        have PA5 := PA4.new (o := .tup [.str ⟨#[c]⟩, .str ⟨#[d]⟩]) ntq
        have hD5 : upd H4 tq (.tup [.str ⟨#[c]⟩, .str ⟨#[d]⟩]) D = some (.dK (encT tc)) := by rw [upd_ne (ne_of_none hD ntq)]; exact hD
        have fr5 := fr4.trans (Fr.new (o := .tup [.str ⟨#[c]⟩, .str ⟨#[d]⟩]) ntq)
        refine ⟨tq, [.str ⟨#[c]⟩, .str ⟨#[d]⟩], rfl, .inl (.inl upd_same), rfl, _, _, rfl, _, _, rfl, rfl, ?_⟩
        generalize upd H4 tq (.tup [.str ⟨#[c]⟩, .str ⟨#[d]⟩]) = H5 at PA5 hD5 fr5 ⊢
        clear ntq hD fr4 PA4
        have hi5 : i < 5 := hi
        refine ⟨_, rfl, _, rfl, p, l, ns, 50 + (5 - (i + 1)), 4, rfl, PA5.less (by omega), by decide, by decide, fun v H6 w0 w1 PA6 fr6 => ⟨_, _, rfl, rfl, L1 d, _, rfl, rfl, by show 1 ≤ 1000; decide, by omega, by omega, ?_⟩⟩
        obtain ⟨j, rfl⟩ : ∃ j : Nat, v = j := ⟨v.toNat, by omega⟩
        have j4 : j < 4 := by omega
        have hD6 := fr6 _ _ hD5 nDp
        have tl : tc.length = (chA.take i).length := by rw [← hk, List.length_map]
        have tl5 : tc.length ≤ 5 := by
          rw [tl, List.length_take]
          exact Nat.min_le_right _ _
        have dm : d ∈ [98, 99, 100, 101, 102] := List.mem_of_getElem? hd
        have ej : (1 : Int) + (j : Int) = ((j + 1 : Nat) : Int) := by omega
        have er : Txt.mul (L1 d) (1 + (j : Int)) = Sx (List.replicate (j + 1) d) := by
          rw [ej]
          exact rep_letters d dm (j + 1) (by
            have : j = 0 ∨ j = 1 ∨ j = 2 ∨ j = 3 := by omega
            rcases this with rfl | rfl | rfl | rfl <;> decide)
        rw [er]
        refine ⟨_, rfl, _, rfl, D, _, rfl, DPut.k (k := Sum.inr (L1 c)) hD6 (by rw [encT_len]; exact small1000 (by omega)), ?_⟩
        have ep : putK (encT tc) (Sum.inr (L1 c)) (V.str (Sx (List.replicate (j + 1) d))) = encT (putT tc c (List.replicate (j + 1) d)) := putK_enc _ _ _
        rw [ep]
        have cA : c ∈ chA := List.mem_of_getElem? hc
        have cn : c ∉ tc.map (·.1) := by
          rw [hk]
          intro m
          have hnd : chA.Nodup := by decide
          have eT : chA.take (i + 1) = chA.take i ++ [c] := by rw [List.take_add_one, hc]; rfl
          have h2 : (chA.take (i + 1)).Nodup := hnd.sublist (List.take_sublist _ _)
          rw [eT] at h2
          exact (List.nodup_append.mp h2).2.2 c m c (by simp) rfl
        have c6 : c ∈ ch6 := (by decide : ∀ c ∈ chA, c ∈ ch6) c cA
        have d6 : d ∈ ch6 := (by decide : ∀ c ∈ chB, c ∈ ch6) d (List.mem_of_getElem? hd)
        have gi : GoodI ch6 (List.replicate (j + 1) d) := ⟨by rw [List.length_replicate]; omega, by rw [List.length_replicate]; omega, fun x hx => by rw [List.eq_of_mem_replicate hx]; exact d6⟩
        exact ⟨⟨_, _, rfl⟩, ⟨putT tc c (List.replicate (j + 1) d), upd_same, by rw [putT_new cn, List.map_append, hk, List.take_add_one, hc]; rfl, G.put c6 gi⟩, PA6.other nDp nDl, (fr5.trans fr6).put nD⟩
      · rintro σ H4 ⟨⟨v12, v13, rfl⟩, ⟨tc, hD, hk, G⟩, PA4, fr4⟩
        have tb4 : Tabs TL H4 := tabs_mono tb2 (fr_mono PA2 fr4)
        have tl : tc.length ≤ 12 := by
          have : tc.length = (chA.take 5).length := by rw [← hk, List.length_map]
          rw [this]
          decide
        have lt6 : ∀ c ∈ ch6, isLt c := by decide
        clear PA4 fr4 hk PA2 tb2 fr0 PA3 hD3 nD nDp nDl eA eB
        -- powers of chains
        refine ⟨_, rfl, D, tc, ch6, rfl, hD, G, by decide, lt6, tl, tb4, fun H5 e5 tb5 => ⟨true, rfl, iteF ?_⟩⟩
        clear tb4 hD G tl e5
        have h45 : ∀ p1, H5 p1 = none → Same H5 (upd (upd H5 p1 (.dK [])) p1 (.dK (mergeK [] (encT t4)))) := fun p1 n => by
          rw [heap_disp (by decide)]
          exact same_put (s := Same.refl H5) n
        have h46 : ∀ p1, upd (upd H5 p1 (.dK [])) p1 (.dK (mergeK [] (encT t4))) p1 = some (.dK (encT t4)) := fun p1 => by
          rw [heap_disp (by decide)]
          exact upd_same
        refine fun p1 np1 => ⟨upd_same, encT t4, by decide +kernel, by decide, p1, t4, ch6, rfl, h46 p1, G4, by decide, lt6, by decide, tb5.ext (h45 p1 np1), fun H6 e6 tb6 => ⟨true, rfl, iteF ?_⟩⟩
        clear tb5 e6 np1 h45 h46
        refine nextS ?_
        dsimp only
        -- left, right
        have lA : Bnd 64 (lk tA) := (gA.le (by decide)).bnd
        have lB : Bnd 64 (lk tB) := (gB.le (by decide)).bnd
        have lC : Bnd 64 (lk tCc) := (gC.le (by decide)).bnd
        have lD : Bnd 64 (lk tDd) := (gD.le (by decide)).bnd
        have xL : lk tL = cF (lk tA) (lk tB) := by rw [← eL, both_lk gA gB]
        have xR : lk tR = cF (lk tCc) (lk tDd) := by rw [← eR, both_lk gC gD]
        have lL : Bnd 64 (lk tL) := (gL.le (by decide)).bnd
        have lR : Bnd 64 (lk tR) := (gR.le (by decide)).bnd
        change tMk1 CM _ _ H6 _
        refine mk_disp (kvs := [("a", "bbbc")]) (T := tA) (by decide +kernel) (by decide) GA fun xa H7 ma s7 => ?_
        change tMk1 CM _ _ H7 _
        refine mk_disp (kvs := [("b", "dddd"), ("c", "d")]) (T := tB) (by decide +kernel) (by decide) GB fun xb H8 mb s8 => ?_
        refine rsh_ok (ma.same s8) mb lA lB oA (by decide) (by rw [← xL]; exact lL) fun xl H9 tl ml el s9 => ?_
        replace ml := ml.lk (el.trans xL.symm)
        have tb9 := ((tb6.ext s7).ext s8).ext s9
        change tMk1 CM _ _ H9 _
        refine mk_disp (kvs := [("d", "eef")]) (T := tCc) (by decide +kernel) (by decide) GC fun xc H10 mc s10 => ⟨by show 2 ≤ sizeLine; decide, fun tq ntq => ⟨tq, [.ref xl, .ref xc], rfl, .inl (.inl upd_same), rfl, _, _, rfl, _, _, rfl, rfl, ?_⟩⟩
        have s11 : Same H10 (upd H10 tq (.tup [.ref xl, .ref xc])) := same_put (s := Same.refl H10) ntq
        replace ml := (ml.same s10).same s11
        replace mc := mc.same s11
        have tb11 := (tb9.ext s10).ext s11
        generalize upd H10 tq (.tup [.ref xl, .ref xc]) = H11 at ml mc tb11 ⊢
        clear s11 ntq s10 tb9 s9 el ma mb s8 s7 tb6
        try dsimp only
        -- right, further on
        refine ⟨_, rfl, ?_⟩
        change tMk1 CM _ _ H11 _
        refine mk_disp (kvs := [("e", "gg"), ("f", "g")]) (T := tDd) (by decide +kernel) (by decide) GD fun xd H12 md s12 => ?_
        refine rsh_ok (mc.same s12) md lC lD oC (by decide) (by rw [← xR]; exact lR) fun xr H13 tr mr er s13 => ?_
        replace mr := mr.lk (er.trans xR.symm)
        replace ml := (ml.same s12).same s13
        have tb13 := (tb11.ext s12).ext s13
        clear s13 er md s12 mc tb11
        refine atName ?_
        try dsimp only
        -- the texts
        have ea : ("a" : Str) = L1 97 := by decide +kernel
        have ed : ("d" : Str) = L1 100 := by decide +kernel
        obtain ⟨dl, al, bl, cl, hl, _⟩ := id ml.at_
        obtain ⟨dr, ar, br, cr, hr2, _⟩ := id mr.at_
        refine ⟨_, rfl, xl, dl, _, rfl, hl, xl, tL, 97, List.replicate 13 100, by rw [ea], ml, by decide +kernel, by decide +kernel, _, _, rfl, rfl, by decide +kernel, by decide, by decide, rfl, false, by decide +kernel, iteF ?_⟩
        refine ⟨_, rfl, xr, dr, _, rfl, hr2, xr, tR, 100, List.replicate 5 103, by rw [ed], mr, by decide +kernel, by decide +kernel, rfl, false, by decide +kernel, iteF ?_⟩
        change tLam TL (TTheard CB CN CT) _ _ H13 _
        refine heard_rsh rfl rfl tb13 ml mr lL lR oL (by decide) fun w H14 he e14 tb14 => ?_
        obtain ⟨hh, rfl, ht⟩ : ∃ l, w = .ref l ∧ H14 l = some (.tup [.str "image", .int 64]) := by
          rcases he with ⟨b, _⟩ | ⟨_, h⟩
          · exact absurd b nb65
          · exact h
        refine ⟨by show 2 ≤ sizeLine; decide, fun t9 n9 => ?_⟩
        have s15 := same_put (s := Same.refl H14) (o := .tup [.str "image", .int 64]) n9
        refine ne_same (d := .tuple [.str "image", .int 64]) (.tup (.inl (.inl (s15 _ _ ht))) (.cons (.str _) (.cons (.int _) .nil))) (.tup (.inl (.inl upd_same)) (.cons (.str _) (.cons (.int _) .nil))) (by decide +kernel) ⟨false, rfl, iteF ?_⟩
        clear ml mr hl hr2 he e14 tb14 ht s15
        refine nextS ?_
        dsimp only
        -- the ring
        change tMk1 CM _ _ (upd H14 t9 (.tup [.str "image", .int 64])) _
        refine mk_disp (kvs := [("a", "b"), ("b", "c"), ("c", "a")]) (T := tO) (by decide +kernel) (by decide) GO fun xo H16 mo s16 => ?_
        clear s16 n9
        refine atName ?_
        try dsimp only
        have lO : Bnd 64 (lk tO) := bO 0 (by decide)
        refine ⟨_, rfl, pow_ok (K := K) (k := 63) rfl mo (by decide) oO (by decide) bO fun z1 H17 u1 m1 e1 s17 => ⟨_, rfl, eq_mis T.toTy m1 (mo.same s17) ⟨false, by rw [decide_eq_true (eqM_lk.mpr (e1.trans o63))]; rfl, iteF ?_⟩⟩⟩
        replace mo := mo.same s17
        have e3 : ("abc" : Str) = Sx [97, 98, 99] := by decide +kernel
        refine ⟨_, rfl, pow_ok (K := K) (k := 62) rfl mo (by decide) oO (by decide) (fun j h => bO j (by omega)) fun z2 H18 u2 m2 e2 s18 => ⟨rfl, [97, 98, 99], [97, 98, 99], by rw [e3], by decide, by decide, fun c h => h, by decide, fun y2 H19 ny my s19 => eq_mis T.toTy (m2.same s19) my ⟨false, by rw [decide_eq_true (eqM_lk.mpr (e2.trans o62))]; rfl, iteF ?_⟩⟩⟩
        replace mo := (mo.same s18).same s19
        refine ⟨_, rfl, pow_ok (K := K) (k := 61) rfl mo (by decide) oO (by decide) (fun j h => bO j (by omega)) fun z3 H20 u3 m3 e3' s20 => ⟨_, rfl, _, rfl, rsh_ok (mo.same s20) (mo.same s20) lO lO oO (by decide) (by rw [← o61]; exact bO 61 (by decide)) fun y3 H21 v3 my3 ey3 s21 => eq_mis T.toTy (m3.same s21) my3 ⟨false, by rw [decide_eq_true (eqM_lk.mpr ((e3'.trans o61).trans ey3.symm))]; rfl, iteF ?_⟩⟩⟩
        clear mo m1 e1 s17 m2 e2 s18 my s19 m3 e3' s20 my3 ey3 s21
        refine nextS ?_
        dsimp only
        -- nothing, and one letter
        refine fun D1 nD1 => ⟨D1, abc, [], [], rfl, upd_same, GoodT.nil, ⟨by decide, by rw [abc_len]; omega⟩, c12, fun c h => (nomatch h), by decide, fun xn H22 nxn mn sn => ?_⟩
        have mn' : MisAt CM H22 xn [] := mn.mis
        refine pow_ok (K := K) (k := 63) rfl mn' (by decide) oN (by decide) bN fun z4 H23 u4 m4 e4 s23 => ?_
        refine fun D2 nD2 => ⟨D2, abc, [], [], rfl, upd_same, GoodT.nil, ⟨by decide, by rw [abc_len]; omega⟩, c12, fun c h => (nomatch h), by decide, fun xm H24 nxm mm sm => ?_⟩
        have mm' : MisAt CM H24 xm [] := mm.mis
        have m4' : MisAt CM H24 z4 u4 := (m4.same (same_put (s := Same.refl H23) nD2)).same sm
        refine eq_mis T.toTy m4' mm' ⟨true, by rw [decide_eq_true (eqM_lk.mpr (e4.trans n63))]; rfl, iteT ?_⟩
        change tMk1 CM _ _ H24 _
        refine mk_disp (kvs := [("a", "aa")]) (T := tS) (by decide +kernel) (by decide) GS fun xs H25 ms s25 => ?_
        refine pow_ok (K := K) (k := 5) rfl ms (by decide) oS (by decide) bS fun z5 H26 u5 m5 e5 s26 => ?_
        have ez : ("a:aaaa" : Str) = Sx z0 := by decide +kernel
        refine ⟨rfl, by rw [ez], fun x6 H27 m6 s27 => ?_⟩
        refine pow_ok (K := K) (k := 2) rfl m6 (by decide) oZ (by decide) bZ fun z7 H28 u7 m7 e7 s28 => ?_
        refine eq_mis T.toTy ((m5.same s27).same s28) m7 ?_
        rw [decide_eq_true (eqM_lk.mpr (e5.trans (s5z.trans e7.symm)))]
        exact q0 _
end
end V8

set_option Elab.async false
set_option linter.all false
set_option maxRecDepth 100000
set_option maxHeartbeats 16000000
/-! What the top has left, taken together. -/
namespace V8
open PySem PySem.Spec PyProof.Rows L2 LamX
theorem exm_of {K : PySem.W.Frag} {S R : Addr} (h1 : PySem.W.subIn K (.ref R) (.type "BaseException") = some true) (h2 : PySem.W.isClsIn K R = true) (h3 : PySem.W.typeIn K (.ref R) = some (.type "type")) (h4 : PySem.W.subIn K (.ref S) (.ref R) = some true) : PySem.W.exmOne K (.ref S) (.ref R) = some true := by
  unfold PySem.W.isClsIn at h2
  unfold PySem.W.exmOne
  rw [h1, if_pos (show (some true == some true) = true from rfl)]
  unfold PySem.W.kitCls
  dsimp only
  rw [h2, h3, if_pos (show (true && (some (Value.type "type") == some (Value.type "type"))) = true by decide +kernel), h4]
/-- the names of the lambdas, by their tables -/
def TLs (p1 p2 : Addr) : List (Addr × Str) := [(p1, (("_law_powers_right" : Str) ++ ".<locals>.") ++ "<lambda>"), (p2, (("law" : Str) ++ ".<locals>.") ++ "<lambda>")]
theorem all_mk {l : PySem.W.OpenLaw} {w : World} {K : PySem.W.Frag} {fa : Addr} {h : Heap} {mg : Str → Option Value} {CM CJ CB CN CT CR NB NN NT q1 q2 p1 p2 f0 f1 f2 f3 f4 f5 f6 f7 f8 f9 f10 f11 f12 f13 f14 f15 f16 f17 f18 f19 f20 f21 f22 f23 f24 f25 f26 f27 f28 f29 f30 f31 f32 f33 f34 f35 f36 f37 f38 f39 TI pS pM : Addr} {od0 od1 od2 od3 od4 od5 od6 od7 od8 od9 od10 od11 od12 od13 od14 od15 od16 od17 od18 od19 od20 od21 od22 od23 od24 od25 od26 od27 od28 od29 od30 od31 od32 od33 od34 od35 od36 od37 od38 od39 odT qd1 qd2 : Option Addr} {an0 an1 an2 an3 an4 an5 an6 an7 an8 an9 an10 an11 an12 an13 an14 an15 an16 an17 an18 an19 an20 an21 an22 an23 an24 an25 an26 an27 an28 an29 an30 an31 an32 an33 an34 an35 an36 an37 an38 an39 : Option Addr} {sl0 sl1 sl2 sl3 sl4 sl5 sl6 sl7 sl8 sl9 sl10 sl11 sl12 sl13 sl14 sl15 sl16 sl17 sl18 sl19 sl20 sl21 sl22 sl23 sl24 sl25 sl26 sl27 sl28 sl29 sl30 sl31 sl32 sl33 sl34 sl35 sl36 sl37 sl38 sl39 slT qs1 qs2 : Array (Option Value)} {oc0 kV0 dc0 pm0 cd0 ct0 oc1 kV1 dc1 pm1 cd1 ct1 oc2 kV2 dc2 pm2 cd2 ct2 oc3 kV3 dc3 pm3 cd3 ct3 oc4 kV4 dc4 pm4 cd4 ct4 oc5 kV5 dc5 pm5 cd5 ct5 oc6 kV6 dc6 pm6 cd6 ct6 oc7 kV7 dc7 pm7 cd7 ct7 oc8 kV8 dc8 pm8 cd8 ct8 oc9 kV9 dc9 pm9 cd9 ct9 oc10 kV10 dc10 pm10 cd10 ct10 oc11 kV11 dc11 pm11 cd11 ct11 oc12 kV12 dc12 pm12 cd12 ct12 oc13 kV13 dc13 pm13 cd13 ct13 oc14 kV14 dc14 pm14 cd14 ct14 oc15 kV15 dc15 pm15 cd15 ct15 oc16 kV16 dc16 pm16 cd16 ct16 oc17 kV17 dc17 pm17 cd17 ct17 oc18 kV18 dc18 pm18 cd18 ct18 oc19 kV19 dc19 pm19 cd19 ct19 oc20 kV20 dc20 pm20 cd20 ct20 oc21 kV21 dc21 pm21 cd21 ct21 oc22 kV22 dc22 pm22 ct22 oc23 kV23 dc23 pm23 cd23 ct23 oc24 kV24 dc24 pm24 ct24 oc25 kV25 dc25 pm25 cd25 ct25 oc26 kV26 dc26 pm26 cd26 ct26 oc27 kV27 dc27 pm27 cd27 ct27 oc28 kV28 dc28 pm28 cd28 ct28 oc29 kV29 dc29 pm29 cd29 ct29 oc30 kV30 dc30 pm30 cd30 ct30 oc31 kV31 dc31 pm31 cd31 ct31 oc32 kV32 dc32 pm32 cd32 ct32 oc33 kV33 dc33 pm33 cd33 ct33 oc34 kV34 dc34 pm34 cd34 ct34 oc35 kV35 dc35 pm35 cd35 ct35 oc36 kV36 dc36 pm36 cd36 ct36 oc37 kV37 dc37 pm37 cd37 ct37 oc38 kV38 dc38 pm38 cd38 ct38 oc39 kV39 dc39 pm39 cd39 ct39 ocT : Value} {vs1 vs2 : Array Value} {restS restM bsB subB bsN subN bsT subT : List Value} {nT : Nat} {tkT tk1 tk2 tk3 tk4 tk5 qt1 qt2 qm1 qm2 qy1 qy2 : Tok} {ql1 ql2 qx1 qx2 : Int} {qi1 qi2 : Bool} {qf1 qf2 nmB qB nmN qN nmT qT : Str} {snB snN snT : List Str} {abB abN abT : Bool} {colB colN colT : Option Bool} {ddB ddN ddT : Option Addr} {mB0 mB1 mB2 mB3 mB5 mN0 mN1 mN2 mN3 mN5 mT0 mT1 mT2 mT3 mT5 poI roI fo_NoneType ro_NoneType fo_int ro_int fo_str ro_str fo_bool ro_bool fo_dict ro_dict fo_list ro_list fo_tuple ro_tuple : Option Value} {cdM : ClassData} (X : K.In h) (G : h.Ns mainGlobals mg) (hfa : mg "law" = some (.ref fa)) (own : OwnTab K fa h) (own2 : ∀ fb, mg "_law_powers_right" = some (.ref fb) → OwnTab K fb h)
    (aC : PySem.W.nsIn K mainGlobals "Misreading" = some (some (.ref CM)))
    (aJ : PySem.W.nsIn K mainGlobals "Joined" = some (some (.ref CJ)))
    (aB : PySem.W.nsIn K mainGlobals "BadTable" = some (some (.ref CB)))
    (aN : PySem.W.nsIn K mainGlobals "BadNumber" = some (some (.ref CN)))
    (aT : PySem.W.nsIn K mainGlobals "TooMany" = some (some (.ref CT)))
    (aR : PySem.W.nsIn K mainGlobals "RepairError" = some (some (.ref CR)))
    (a0 : PySem.W.nsIn K mainGlobals "copied" = some (some (.ref f0)))
    (l0 : K.lookup f0 = some ⟨oc0, od0, .func (PySem.W.fnOf "copied" "copied" (defArgs s_copied) (defBody s_copied) (defScope s_copied) .none kV0 dc0 pm0 an0 cd0 ct0), sl0⟩) (c0 : PySem.W.codeIn K cd0 "copied" = true) (k0 : PySem.W.keepIn K (.ref f0) = true)
    (a1 : PySem.W.nsIn K mainGlobals "is_letter" = some (some (.ref f1)))
    (l1 : K.lookup f1 = some ⟨oc1, od1, .func (PySem.W.fnOf "is_letter" "is_letter" (defArgs s_is_letter) (defBody s_is_letter) (defScope s_is_letter) .none kV1 dc1 pm1 an1 cd1 ct1), sl1⟩) (c1 : PySem.W.codeIn K cd1 "is_letter" = true) (k1 : PySem.W.keepIn K (.ref f1) = true)
    (a2 : PySem.W.nsIn K mainGlobals "all_letters" = some (some (.ref f2)))
    (l2 : K.lookup f2 = some ⟨oc2, od2, .func (PySem.W.fnOf "all_letters" "all_letters" (defArgs s_all_letters) (defBody s_all_letters) (defScope s_all_letters) .none kV2 dc2 pm2 an2 cd2 ct2), sl2⟩) (c2 : PySem.W.codeIn K cd2 "all_letters" = true) (k2 : PySem.W.keepIn K (.ref f2) = true)
    (a3 : PySem.W.nsIn K mainGlobals "is_text" = some (some (.ref f3)))
    (l3 : K.lookup f3 = some ⟨oc3, od3, .func (PySem.W.fnOf "is_text" "is_text" (defArgs s_is_text) (defBody s_is_text) (defScope s_is_text) .none kV3 dc3 pm3 an3 cd3 ct3), sl3⟩) (c3 : PySem.W.codeIn K cd3 "is_text" = true) (k3 : PySem.W.keepIn K (.ref f3) = true)
    (a4 : PySem.W.nsIn K mainGlobals "is_image" = some (some (.ref f4)))
    (l4 : K.lookup f4 = some ⟨oc4, od4, .func (PySem.W.fnOf "is_image" "is_image" (defArgs s_is_image) (defBody s_is_image) (defScope s_is_image) .none kV4 dc4 pm4 an4 cd4 ct4), sl4⟩) (c4 : PySem.W.codeIn K cd4 "is_image" = true) (k4 : PySem.W.keepIn K (.ref f4) = true)
    (a5 : PySem.W.nsIn K mainGlobals "told_images" = some (some (.ref f5)))
    (l5 : K.lookup f5 = some ⟨oc5, od5, .func (PySem.W.fnOf "told_images" "told_images" (defArgs s_told_images) (defBody s_told_images) (defScope s_told_images) .none kV5 dc5 pm5 an5 cd5 ct5), sl5⟩) (c5 : PySem.W.codeIn K cd5 "told_images" = true) (k5 : PySem.W.keepIn K (.ref f5) = true)
    (a6 : PySem.W.nsIn K mainGlobals "check_other" = some (some (.ref f6)))
    (l6 : K.lookup f6 = some ⟨oc6, od6, .func (PySem.W.fnOf "check_other" "check_other" (defArgs s_check_other) (defBody s_check_other) (defScope s_check_other) .none kV6 dc6 pm6 an6 cd6 ct6), sl6⟩) (c6 : PySem.W.codeIn K cd6 "check_other" = true) (k6 : PySem.W.keepIn K (.ref f6) = true)
    (a7 : PySem.W.nsIn K mainGlobals "is_integer" = some (some (.ref f7)))
    (l7 : K.lookup f7 = some ⟨oc7, od7, .func (PySem.W.fnOf "is_integer" "is_integer" (defArgs s_is_integer) (defBody s_is_integer) (defScope s_is_integer) .none kV7 dc7 pm7 an7 cd7 ct7), sl7⟩) (c7 : PySem.W.codeIn K cd7 "is_integer" = true) (k7 : PySem.W.keepIn K (.ref f7) = true)
    (a8 : PySem.W.nsIn K mainGlobals "is_between" = some (some (.ref f8)))
    (l8 : K.lookup f8 = some ⟨oc8, od8, .func (PySem.W.fnOf "is_between" "is_between" (defArgs s_is_between) (defBody s_is_between) (defScope s_is_between) .none kV8 dc8 pm8 an8 cd8 ct8), sl8⟩) (c8 : PySem.W.codeIn K cd8 "is_between" = true) (k8 : PySem.W.keepIn K (.ref f8) = true)
    (a9 : PySem.W.nsIn K mainGlobals "is_told" = some (some (.ref f9)))
    (l9 : K.lookup f9 = some ⟨oc9, od9, .func (PySem.W.fnOf "is_told" "is_told" (defArgs s_is_told) (defBody s_is_told) (defScope s_is_told) .none kV9 dc9 pm9 an9 cd9 ct9), sl9⟩) (c9 : PySem.W.codeIn K cd9 "is_told" = true) (k9 : PySem.W.keepIn K (.ref f9) = true)
    (a10 : PySem.W.nsIn K mainGlobals "_law_pen" = some (some (.ref f10)))
    (l10 : K.lookup f10 = some ⟨oc10, od10, .func (PySem.W.fnOf "_law_pen" "_law_pen" (defArgs s_pen) (defBody s_pen) (defScope s_pen) .none kV10 dc10 pm10 an10 cd10 ct10), sl10⟩) (c10 : PySem.W.codeIn K cd10 "_law_pen" = true) (k10 : PySem.W.keepIn K (.ref f10) = true)
    (a11 : PySem.W.nsIn K mainGlobals "_law_draw" = some (some (.ref f11)))
    (l11 : K.lookup f11 = some ⟨oc11, od11, .func (PySem.W.fnOf "_law_draw" "_law_draw" (defArgs s_draw) (defBody s_draw) (defScope s_draw) .none kV11 dc11 pm11 an11 cd11 ct11), sl11⟩) (c11 : PySem.W.codeIn K cd11 "_law_draw" = true) (k11 : PySem.W.keepIn K (.ref f11) = true)
    (a12 : PySem.W.nsIn K mainGlobals "_law_pick" = some (some (.ref f12)))
    (l12 : K.lookup f12 = some ⟨oc12, od12, .func (PySem.W.fnOf "_law_pick" "_law_pick" (defArgs s_pick) (defBody s_pick) (defScope s_pick) .none kV12 dc12 pm12 an12 cd12 ct12), sl12⟩) (c12 : PySem.W.codeIn K cd12 "_law_pick" = true) (k12 : PySem.W.keepIn K (.ref f12) = true)
    (a13 : PySem.W.nsIn K mainGlobals "_law_some_letters" = some (some (.ref f13)))
    (l13 : K.lookup f13 = some ⟨oc13, od13, .func (PySem.W.fnOf "_law_some_letters" "_law_some_letters" (defArgs s_some_letters) (defBody s_some_letters) (defScope s_some_letters) .none kV13 dc13 pm13 an13 cd13 ct13), sl13⟩) (c13 : PySem.W.codeIn K cd13 "_law_some_letters" = true) (k13 : PySem.W.keepIn K (.ref f13) = true)
    (a14 : PySem.W.nsIn K mainGlobals "_law_escaped" = some (some (.ref f14)))
    (l14 : K.lookup f14 = some ⟨oc14, od14, .func (PySem.W.fnOf "_law_escaped" "_law_escaped" (defArgs s_escaped) (defBody s_escaped) (defScope s_escaped) .none kV14 dc14 pm14 an14 cd14 ct14), sl14⟩) (c14 : PySem.W.codeIn K cd14 "_law_escaped" = true) (k14 : PySem.W.keepIn K (.ref f14) = true)
    (a15 : PySem.W.nsIn K mainGlobals "_law_any_image" = some (some (.ref f15)))
    (l15 : K.lookup f15 = some ⟨oc15, od15, .func (PySem.W.fnOf "_law_any_image" "_law_any_image" (defArgs s_any_image) (defBody s_any_image) (defScope s_any_image) .none kV15 dc15 pm15 an15 cd15 ct15), sl15⟩) (c15 : PySem.W.codeIn K cd15 "_law_any_image" = true) (k15 : PySem.W.keepIn K (.ref f15) = true)
    (a16 : PySem.W.nsIn K mainGlobals "_law_table" = some (some (.ref f16)))
    (l16 : K.lookup f16 = some ⟨oc16, od16, .func (PySem.W.fnOf "_law_table" "_law_table" (defArgs s_table) (defBody s_table) (defScope s_table) .none kV16 dc16 pm16 an16 cd16 ct16), sl16⟩) (c16 : PySem.W.codeIn K cd16 "_law_table" = true) (k16 : PySem.W.keepIn K (.ref f16) = true)
    (a17 : PySem.W.nsIn K mainGlobals "_law_image" = some (some (.ref f17)))
    (l17 : K.lookup f17 = some ⟨oc17, od17, .func (PySem.W.fnOf "_law_image" "_law_image" (defArgs s__law_image) (defBody s__law_image) (defScope s__law_image) .none kV17 dc17 pm17 an17 cd17 ct17), sl17⟩) (c17 : PySem.W.codeIn K cd17 "_law_image" = true) (k17 : PySem.W.keepIn K (.ref f17) = true)
    (a18 : PySem.W.nsIn K mainGlobals "_law_heard" = some (some (.ref f18)))
    (l18 : K.lookup f18 = some ⟨oc18, od18, .func (PySem.W.fnOf "_law_heard" "_law_heard" (defArgs s_heard) (defBody s_heard) (defScope s_heard) .none kV18 dc18 pm18 an18 cd18 ct18), sl18⟩) (c18 : PySem.W.codeIn K cd18 "_law_heard" = true) (k18 : PySem.W.keepIn K (.ref f18) = true)
    (a19 : PySem.W.nsIn K mainGlobals "_law_both" = some (some (.ref f19)))
    (l19 : K.lookup f19 = some ⟨oc19, od19, .func (PySem.W.fnOf "_law_both" "_law_both" (defArgs s__law_both) (defBody s__law_both) (defScope s__law_both) .none kV19 dc19 pm19 an19 cd19 ct19), sl19⟩) (c19 : PySem.W.codeIn K cd19 "_law_both" = true) (k19 : PySem.W.keepIn K (.ref f19) = true)
    (a20 : PySem.W.nsIn K mainGlobals "_law_power" = some (some (.ref f20)))
    (l20 : K.lookup f20 = some ⟨oc20, od20, .func (PySem.W.fnOf "_law_power" "_law_power" (defArgs s__law_power) (defBody s__law_power) (defScope s__law_power) .none kV20 dc20 pm20 an20 cd20 ct20), sl20⟩) (c20 : PySem.W.codeIn K cd20 "_law_power" = true) (k20 : PySem.W.keepIn K (.ref f20) = true)
    (a21 : PySem.W.nsIn K mainGlobals "_law_is" = some (some (.ref f21)))
    (l21 : K.lookup f21 = some ⟨oc21, od21, .func (PySem.W.fnOf "_law_is" "_law_is" (defArgs s_is) (defBody s_is) (defScope s_is) .none kV21 dc21 pm21 an21 cd21 ct21), sl21⟩) (c21 : PySem.W.codeIn K cd21 "_law_is" = true) (k21 : PySem.W.keepIn K (.ref f21) = true)
    (a22 : PySem.W.nsIn K mainGlobals "_law_powers_right" = some (some (.ref f22)))
    (l22 : K.lookup f22 = some ⟨oc22, od22, .func (PySem.W.fnOf "_law_powers_right" "_law_powers_right" (defArgs s_powers_right) (defBody s_powers_right) (defScope s_powers_right) .none kV22 dc22 pm22 an22 (.ref q1) ct22), sl22⟩) (c22 : PySem.W.codeIn K (.ref q1) "_law_powers_right" = true) (k22 : PySem.W.keepIn K (.ref f22) = true)
    (a23 : PySem.W.nsIn K mainGlobals "_law_in_place_right" = some (some (.ref f23)))
    (l23 : K.lookup f23 = some ⟨oc23, od23, .func (PySem.W.fnOf "_law_in_place_right" "_law_in_place_right" (defArgs s_in_place_right) (defBody s_in_place_right) (defScope s_in_place_right) .none kV23 dc23 pm23 an23 cd23 ct23), sl23⟩) (c23 : PySem.W.codeIn K cd23 "_law_in_place_right" = true) (k23 : PySem.W.keepIn K (.ref f23) = true)
    (a24 : PySem.W.nsIn K mainGlobals "law" = some (some (.ref f24)))
    (l24 : K.lookup f24 = some ⟨oc24, od24, .func (PySem.W.fnOf "law" "law" (defArgs s_law) (defBody s_law) (defScope s_law) .none kV24 dc24 pm24 an24 (.ref q2) ct24), sl24⟩) (c24 : PySem.W.codeIn K (.ref q2) "law" = true) (k24 : PySem.W.keepIn K (.ref f24) = true)
    (a25 : PySem.W.findIn K (.ref CM) "__iter__" = some (some (.ref f25)))
    (i25 : PySem.W.isFn K (.ref f25) = true)
    (l25 : K.lookup f25 = some ⟨oc25, od25, .func (PySem.W.fnOf "__iter__" "Misreading.__iter__" (defArgs s_Misreading_iter) (defBody s_Misreading_iter) (defScope s_Misreading_iter) .none kV25 dc25 pm25 an25 cd25 ct25), sl25⟩) (c25 : PySem.W.codeIn K cd25 "Misreading.__iter__" = true) (k25 : PySem.W.keepIn K (.ref f25) = true)
    (n25 : PySem.W.fnIn K f25 = true)
    (a26 : PySem.W.findIn K (.ref CM) "__getitem__" = some (some (.ref f26)))
    (i26 : PySem.W.isFn K (.ref f26) = true)
    (l26 : K.lookup f26 = some ⟨oc26, od26, .func (PySem.W.fnOf "__getitem__" "Misreading.__getitem__" (defArgs s_Misreading_getitem) (defBody s_Misreading_getitem) (defScope s_Misreading_getitem) .none kV26 dc26 pm26 an26 cd26 ct26), sl26⟩) (c26 : PySem.W.codeIn K cd26 "Misreading.__getitem__" = true) (k26 : PySem.W.keepIn K (.ref f26) = true)
    (n26 : PySem.W.fnIn K f26 = true)
    (a27 : PySem.W.findIn K (.ref CM) "first_barred" = some (some (.ref f27)))
    (i27 : PySem.W.isFn K (.ref f27) = true)
    (l27 : K.lookup f27 = some ⟨oc27, od27, .func (PySem.W.fnOf "first_barred" "Misreading.first_barred" (defArgs s_Misreading_first_barred) (defBody s_Misreading_first_barred) (defScope s_Misreading_first_barred) .none kV27 dc27 pm27 an27 cd27 ct27), sl27⟩) (c27 : PySem.W.codeIn K cd27 "Misreading.first_barred" = true) (k27 : PySem.W.keepIn K (.ref f27) = true)
    (n27 : PySem.W.fnIn K f27 = true)
    (a28 : PySem.W.findIn K (.ref CM) "image" = some (some (.ref f28)))
    (i28 : PySem.W.isFn K (.ref f28) = true)
    (l28 : K.lookup f28 = some ⟨oc28, od28, .func (PySem.W.fnOf "image" "Misreading.image" (defArgs s_Misreading_image) (defBody s_Misreading_image) (defScope s_Misreading_image) .none kV28 dc28 pm28 an28 cd28 ct28), sl28⟩) (c28 : PySem.W.codeIn K cd28 "Misreading.image" = true) (k28 : PySem.W.keepIn K (.ref f28) = true)
    (n28 : PySem.W.fnIn K f28 = true)
    (a29 : PySem.W.findIn K (.ref CM) "__rshift__" = some (some (.ref f29)))
    (i29 : PySem.W.isFn K (.ref f29) = true)
    (l29 : K.lookup f29 = some ⟨oc29, od29, .func (PySem.W.fnOf "__rshift__" "Misreading.__rshift__" (defArgs s_Misreading_rshift) (defBody s_Misreading_rshift) (defScope s_Misreading_rshift) .none kV29 dc29 pm29 an29 cd29 ct29), sl29⟩) (c29 : PySem.W.codeIn K cd29 "Misreading.__rshift__" = true) (k29 : PySem.W.keepIn K (.ref f29) = true)
    (n29 : PySem.W.fnIn K f29 = true)
    (a30 : PySem.W.findIn K (.ref CM) "__pow__" = some (some (.ref f30)))
    (i30 : PySem.W.isFn K (.ref f30) = true)
    (l30 : K.lookup f30 = some ⟨oc30, od30, .func (PySem.W.fnOf "__pow__" "Misreading.__pow__" (defArgs s_Misreading_pow) (defBody s_Misreading_pow) (defScope s_Misreading_pow) .none kV30 dc30 pm30 an30 cd30 ct30), sl30⟩) (c30 : PySem.W.codeIn K cd30 "Misreading.__pow__" = true) (k30 : PySem.W.keepIn K (.ref f30) = true)
    (n30 : PySem.W.fnIn K f30 = true)
    (a31 : PySem.W.findIn K (.ref CM) "__eq__" = some (some (.ref f31)))
    (i31 : PySem.W.isFn K (.ref f31) = true)
    (l31 : K.lookup f31 = some ⟨oc31, od31, .func (PySem.W.fnOf "__eq__" "Misreading.__eq__" (defArgs s_Misreading_eq) (defBody s_Misreading_eq) (defScope s_Misreading_eq) .none kV31 dc31 pm31 an31 cd31 ct31), sl31⟩) (c31 : PySem.W.codeIn K cd31 "Misreading.__eq__" = true) (k31 : PySem.W.keepIn K (.ref f31) = true)
    (n31 : PySem.W.fnIn K f31 = true)
    (a32 : PySem.W.findIn K (.ref CM) "__str__" = some (some (.ref f32)))
    (i32 : PySem.W.isFn K (.ref f32) = true)
    (l32 : K.lookup f32 = some ⟨oc32, od32, .func (PySem.W.fnOf "__str__" "Misreading.__str__" (defArgs s_Misreading_str) (defBody s_Misreading_str) (defScope s_Misreading_str) .none kV32 dc32 pm32 an32 cd32 ct32), sl32⟩) (c32 : PySem.W.codeIn K cd32 "Misreading.__str__" = true) (k32 : PySem.W.keepIn K (.ref f32) = true)
    (n32 : PySem.W.fnIn K f32 = true)
    (a33 : PySem.W.findIn K (.ref CM) "__init__" = some (some (.ref f33)))
    (i33 : PySem.W.isFn K (.ref f33) = true)
    (l33 : K.lookup f33 = some ⟨oc33, od33, .func (PySem.W.fnOf "__init__" "Misreading.__init__" (defArgs s_Misreading_init) (defBody s_Misreading_init) (defScope s_Misreading_init) (.ref TI) kV33 dc33 pm33 an33 cd33 ct33), sl33⟩) (c33 : PySem.W.codeIn K cd33 "Misreading.__init__" = true) (k33 : PySem.W.keepIn K (.ref f33) = true)
    (tI : K.lookup TI = some ⟨ocT, odT, .seq #[.str "" tkT] nT, slT⟩)
    (sC : PySem.W.findCls K (.ref CM) (.type "type") "read" = some (.get (.builtin "classmethod.__get__") (.ref pS) .none (.ref CM)))
    (sR : PySem.W.recIn K pS "classmethod" = some (.ref f34 :: restS))
    (l34 : K.lookup f34 = some ⟨oc34, od34, .func (PySem.W.fnOf "read" "Misreading.read" (defArgs s_Misreading_read) (defBody s_Misreading_read) (defScope s_Misreading_read) .none kV34 dc34 pm34 an34 cd34 ct34), sl34⟩) (c34 : PySem.W.codeIn K cd34 "Misreading.read" = true) (k34 : PySem.W.keepIn K (.ref f34) = true)
    (n34 : PySem.W.fnIn K f34 = true)
    (sC2 : PySem.W.findCls K (.ref CM) (.type "type") "same" = some (.get (.builtin "staticmethod.__get__") (.ref pM) .none (.ref CM)))
    (sR2 : PySem.W.recIn K pM "staticmethod" = some (.ref f35 :: restM))
    (l35 : K.lookup f35 = some ⟨oc35, od35, .func (PySem.W.fnOf "same" "Misreading.same" (defArgs s_Misreading_same) (defBody s_Misreading_same) (defScope s_Misreading_same) .none kV35 dc35 pm35 an35 cd35 ct35), sl35⟩) (c35 : PySem.W.codeIn K cd35 "Misreading.same" = true) (k35 : PySem.W.keepIn K (.ref f35) = true)
    (a36 : PySem.W.findIn K (.ref CJ) "__init__" = some (some (.ref f36)))
    (i36 : PySem.W.isFn K (.ref f36) = true)
    (l36 : K.lookup f36 = some ⟨oc36, od36, .func (PySem.W.fnOf "__init__" "Joined.__init__" (defArgs s_Joined_init) (defBody s_Joined_init) (defScope s_Joined_init) .none kV36 dc36 pm36 an36 cd36 ct36), sl36⟩) (c36 : PySem.W.codeIn K cd36 "Joined.__init__" = true) (k36 : PySem.W.keepIn K (.ref f36) = true)
    (a37 : PySem.W.findIn K (.ref CB) "__init__" = some (some (.ref f37)))
    (y37 : PySem.W.typeIn K (.ref f37) = some (.type "function"))
    (l37 : K.lookup f37 = some ⟨oc37, od37, .func (PySem.W.fnOf "__init__" "BadTable.__init__" (defArgs s_BadTable_init) (defBody s_BadTable_init) (defScope s_BadTable_init) .none kV37 dc37 pm37 an37 cd37 ct37), sl37⟩) (c37 : PySem.W.codeIn K cd37 "BadTable.__init__" = true) (k37 : PySem.W.keepIn K (.ref f37) = true)
    (a38 : PySem.W.findIn K (.ref CN) "__init__" = some (some (.ref f38)))
    (y38 : PySem.W.typeIn K (.ref f38) = some (.type "function"))
    (l38 : K.lookup f38 = some ⟨oc38, od38, .func (PySem.W.fnOf "__init__" "BadNumber.__init__" (defArgs s_BadNumber_init) (defBody s_BadNumber_init) (defScope s_BadNumber_init) .none kV38 dc38 pm38 an38 cd38 ct38), sl38⟩) (c38 : PySem.W.codeIn K cd38 "BadNumber.__init__" = true) (k38 : PySem.W.keepIn K (.ref f38) = true)
    (a39 : PySem.W.findIn K (.ref CT) "__init__" = some (some (.ref f39)))
    (y39 : PySem.W.typeIn K (.ref f39) = some (.type "function"))
    (l39 : K.lookup f39 = some ⟨oc39, od39, .func (PySem.W.fnOf "__init__" "TooMany.__init__" (defArgs s_TooMany_init) (defBody s_TooMany_init) (defScope s_TooMany_init) .none kV39 dc39 pm39 an39 cd39 ct39), sl39⟩) (c39 : PySem.W.codeIn K cd39 "TooMany.__init__" = true) (k39 : PySem.W.keepIn K (.ref f39) = true)
    (xB : K.lookup CB = some (excClassObj nmB qB CB NB bsB [.ref CR, .type "ValueError", .type "Exception", .type "BaseException", .type "object"] true snB subB abB colB ddB mB0 mB1 mB2 mB3 mB5 "ValueError.__new__"))
    (sB : PySem.W.findIn K (.ref CB) "__setattr__" = some (some (.builtin "object.__setattr__")))
    (eB : PySem.W.subIn K (.ref CB) (.type "BaseException") = some true)
    (tyB : PySem.W.typeIn K (.ref CB) = some (.type "type"))
    (kB : PySem.W.keepIn K (.ref CB) = true)
    (hgB : PySem.W.findIn K (.ref CB) "__getattribute__" = some (some (.builtin "BaseException.__getattribute__")))
    (hkB : PySem.W.findIn K (.ref CB) "__getattr__" = some none)
    (hdB : PySem.W.hasDictIn K CB = true)
    (haB : PySem.W.findIn K (.ref CB) "__class__" = some (some (.builtin "object.__class__")))
    (hmB : PySem.W.mroIn K CB (.type "object") = some true)
    (srB : PySem.W.subIn K (.ref CB) (.ref CR) = some true)
    (xN : K.lookup CN = some (excClassObj nmN qN CN NN bsN [.ref CR, .type "ValueError", .type "Exception", .type "BaseException", .type "object"] true snN subN abN colN ddN mN0 mN1 mN2 mN3 mN5 "ValueError.__new__"))
    (sN : PySem.W.findIn K (.ref CN) "__setattr__" = some (some (.builtin "object.__setattr__")))
    (eN : PySem.W.subIn K (.ref CN) (.type "BaseException") = some true)
    (tyN : PySem.W.typeIn K (.ref CN) = some (.type "type"))
    (kN : PySem.W.keepIn K (.ref CN) = true)
    (hgN : PySem.W.findIn K (.ref CN) "__getattribute__" = some (some (.builtin "BaseException.__getattribute__")))
    (hkN : PySem.W.findIn K (.ref CN) "__getattr__" = some none)
    (hdN : PySem.W.hasDictIn K CN = true)
    (haN : PySem.W.findIn K (.ref CN) "__class__" = some (some (.builtin "object.__class__")))
    (hmN : PySem.W.mroIn K CN (.type "object") = some true)
    (srN : PySem.W.subIn K (.ref CN) (.ref CR) = some true)
    (xT : K.lookup CT = some (excClassObj nmT qT CT NT bsT [.ref CR, .type "ValueError", .type "Exception", .type "BaseException", .type "object"] true snT subT abT colT ddT mT0 mT1 mT2 mT3 mT5 "ValueError.__new__"))
    (sT : PySem.W.findIn K (.ref CT) "__setattr__" = some (some (.builtin "object.__setattr__")))
    (eT : PySem.W.subIn K (.ref CT) (.type "BaseException") = some true)
    (tyT : PySem.W.typeIn K (.ref CT) = some (.type "type"))
    (kT : PySem.W.keepIn K (.ref CT) = true)
    (hgT : PySem.W.findIn K (.ref CT) "__getattribute__" = some (some (.builtin "BaseException.__getattribute__")))
    (hkT : PySem.W.findIn K (.ref CT) "__getattr__" = some none)
    (hdT : PySem.W.hasDictIn K CT = true)
    (haT : PySem.W.findIn K (.ref CT) "__class__" = some (some (.builtin "object.__class__")))
    (hmT : PySem.W.mroIn K CT (.type "object") = some true)
    (srT : PySem.W.subIn K (.ref CT) (.ref CR) = some true)
    (nB : PySem.W.findIn K (.ref CB) "part" = some none)
    (nN : PySem.W.findIn K (.ref CN) "value" = some none)
    (nT1 : PySem.W.findIn K (.ref CT) "what" = some none)
    (nT2 : PySem.W.findIn K (.ref CT) "most" = some none)
    (eR : PySem.W.subIn K (.ref CR) (.type "BaseException") = some true)
    (tyR : PySem.W.typeIn K (.ref CR) = some (.type "type"))
    (iR : PySem.W.isClsIn K CR = true)
    (rdR : PySem.W.readsIn K CR (.type "type") = true)
    (gaR : PySem.W.specialIn K (.ref CR) "__getattribute__" = some (some (.builtin "type.__getattribute__")))
    (vR : PySem.W.findCls K (.ref CR) (.type "type") "__init__" = some (.val (.builtin "ValueError.__init__")))
    (rd : PySem.W.readsIn K CM (.type "type") = true)
    (ga : PySem.W.specialIn K (.ref CM) "__getattribute__" = some (some (.builtin "type.__getattribute__")))
    (pg : PySem.W.plainGet K CM Str.empty = true)
    (hd : PySem.W.hasDictIn K CM = true)
    (po : PySem.W.plainOver K CM = true)
    (sa : PySem.W.findIn K (.ref CM) "__setattr__" = some (some (.builtin "object.__setattr__")))
    (mk : PySem.W.makesIn K CM = true)
    (kc : PySem.W.keepIn K (.ref CM) = true)
    (sf : PySem.W.selfFirst K CM = true)
    (nL : PySem.W.findIn K (.ref CM) "_letters" = some none)
    (nI : PySem.W.findIn K (.ref CM) "_images" = some none)
    (nC : PySem.W.findIn K (.ref CM) "changed" = some none)
    (tA : PySem.W.findIn K (.ref CM) "__class__" = some (some (.builtin "object.__class__")))
    (tB : PySem.W.specialIn K (.builtin "object.__class__") "__get__" = some (some (.builtin "getset_descriptor.__get__")))
    (tC : PySem.W.takesIn K (.builtin "object.__class__") = some true)
    (tD : PySem.W.mroIn K CM (.type "object") = some true)
    (ne : PySem.W.findIn K (.ref CM) "__ne__" = some (some (.builtin "object.__ne__")))
    (rp : PySem.W.findIn K (.ref CM) "__rpow__" = some none)
    (h1 : PySem.W.findIn K (.type "int") "__pow__" = some poI)
    (h2 : PySem.W.findIn K (.type "int") "__rpow__" = some roI)
    (ro : PySem.W.findIn K (.ref CM) "__rrshift__" = some none)
    (io : PySem.W.findIn K (.ref CM) "__irshift__" = some none)
    (ipw : PySem.W.findIn K (.ref CM) "__ipow__" = some none)
    (ci : PySem.W.clsIn K CM = some cdM)
    (cr : cdM.mro = [.ref CM, .type "object"])
    (ow_NoneType : PySem.W.notFirst K CM (.type "NoneType") = true)
    (oo_NoneType : PySem.W.findIn K (.type "NoneType") "__rshift__" = some fo_NoneType)
    (or_NoneType : PySem.W.findIn K (.type "NoneType") "__rrshift__" = some ro_NoneType)
    (os_NoneType : PySem.W.subIn K (.type "NoneType") (.ref CM) = some false)
    (ow_int : PySem.W.notFirst K CM (.type "int") = true)
    (oo_int : PySem.W.findIn K (.type "int") "__rshift__" = some fo_int)
    (or_int : PySem.W.findIn K (.type "int") "__rrshift__" = some ro_int)
    (os_int : PySem.W.subIn K (.type "int") (.ref CM) = some false)
    (ow_str : PySem.W.notFirst K CM (.type "str") = true)
    (oo_str : PySem.W.findIn K (.type "str") "__rshift__" = some fo_str)
    (or_str : PySem.W.findIn K (.type "str") "__rrshift__" = some ro_str)
    (os_str : PySem.W.subIn K (.type "str") (.ref CM) = some false)
    (ow_bool : PySem.W.notFirst K CM (.type "bool") = true)
    (oo_bool : PySem.W.findIn K (.type "bool") "__rshift__" = some fo_bool)
    (or_bool : PySem.W.findIn K (.type "bool") "__rrshift__" = some ro_bool)
    (os_bool : PySem.W.subIn K (.type "bool") (.ref CM) = some false)
    (ow_dict : PySem.W.notFirst K CM (.type "dict") = true)
    (oo_dict : PySem.W.findIn K (.type "dict") "__rshift__" = some fo_dict)
    (or_dict : PySem.W.findIn K (.type "dict") "__rrshift__" = some ro_dict)
    (os_dict : PySem.W.subIn K (.type "dict") (.ref CM) = some false)
    (ow_list : PySem.W.notFirst K CM (.type "list") = true)
    (oo_list : PySem.W.findIn K (.type "list") "__rshift__" = some fo_list)
    (or_list : PySem.W.findIn K (.type "list") "__rrshift__" = some ro_list)
    (os_list : PySem.W.subIn K (.type "list") (.ref CM) = some false)
    (ow_tuple : PySem.W.notFirst K CM (.type "tuple") = true)
    (oo_tuple : PySem.W.findIn K (.type "tuple") "__rshift__" = some fo_tuple)
    (or_tuple : PySem.W.findIn K (.type "tuple") "__rrshift__" = some ro_tuple)
    (os_tuple : PySem.W.subIn K (.type "tuple") (.ref CM) = some false)
    (pgJ : PySem.W.plainGet K CJ Str.empty = true)
    (hdJ : PySem.W.hasDictIn K CJ = true)
    (poJ : PySem.W.plainOver K CJ = true)
    (saJ : PySem.W.findIn K (.ref CJ) "__setattr__" = some (some (.builtin "object.__setattr__")))
    (mkJ : PySem.W.makesIn K CJ = true)
    (kcJ : PySem.W.keepIn K (.ref CJ) = true)
    (nJ : PySem.W.findIn K (.ref CJ) "images" = some none)
    (jA : PySem.W.findIn K (.ref CJ) "__class__" = some (some (.builtin "object.__class__")))
    (jD : PySem.W.mroIn K CJ (.type "object") = some true)
    (ok_NoneType : PySem.W.kitOne K (.type "NoneType") (.ref CM) = some false)
    (ok_int : PySem.W.kitOne K (.type "int") (.ref CM) = some false)
    (ok_str : PySem.W.kitOne K (.type "str") (.ref CM) = some false)
    (ok_bool : PySem.W.kitOne K (.type "bool") (.ref CM) = some false)
    (ok_dict : PySem.W.kitOne K (.type "dict") (.ref CM) = some false)
    (ok_list : PySem.W.kitOne K (.type "list") (.ref CM) = some false)
    (ok_tuple : PySem.W.kitOne K (.type "tuple") (.ref CM) = some false)
    (kdJ : PySem.W.kitOne K (.type "dict") (.ref CJ) = some false)
    (kMM : PySem.W.kitOne K (.ref CM) (.ref CM) = some true)
    (kMJ : PySem.W.kitOne K (.ref CM) (.ref CJ) = some false)
    (kMs : PySem.W.kitOne K (.ref CM) (.type "str") = some false)
    (kls : PySem.W.kitOne K (.type "list") (.type "str") = some false)
    (kJJ : PySem.W.kitOne K (.ref CJ) (.ref CJ) = some true)
    (eBB : PySem.W.kitOne K (.ref CB) (.ref CB) = some true)
    (eNB : PySem.W.kitOne K (.ref CN) (.ref CB) = some false)
    (eNN : PySem.W.kitOne K (.ref CN) (.ref CN) = some true)
    (eTB : PySem.W.kitOne K (.ref CT) (.ref CB) = some false)
    (eTN : PySem.W.kitOne K (.ref CT) (.ref CN) = some false)
    (eTT : PySem.W.kitOne K (.ref CT) (.ref CT) = some true)
    (g1 : PySem.W.nsIn K mainGlobals "LETTERS" = some (some (.str "abcdefghijklmnopqrstuvwxyz" tk1)))
    (g2 : PySem.W.nsIn K mainGlobals "LONGEST" = some (some (.int 2000 tk2)))
    (g3 : PySem.W.nsIn K mainGlobals "LONGEST_TOLD" = some (some (.int 4 tk3)))
    (g4 : PySem.W.nsIn K mainGlobals "MOST_LETTERS" = some (some (.int 12 tk4)))
    (g5 : PySem.W.nsIn K mainGlobals "LONGEST_JOINED" = some (some (.int 64 tk5)))
    (z_list : PySem.W.nsIn K mainGlobals "list" = some none)
    (z_int : PySem.W.nsIn K mainGlobals "int" = some none)
    (z_len : PySem.W.nsIn K mainGlobals "len" = some none)
    (z_abs : PySem.W.nsIn K mainGlobals "abs" = some none)
    (z_range : PySem.W.nsIn K mainGlobals "range" = some none)
    (z_dict : PySem.W.nsIn K mainGlobals "dict" = some none)
    (z_str : PySem.W.nsIn K mainGlobals "str" = some none)
    (z_sorted : PySem.W.nsIn K mainGlobals "sorted" = some none)
    (z_tuple : PySem.W.nsIn K mainGlobals "tuple" = some none)
    (z_isinstance : PySem.W.nsIn K mainGlobals "isinstance" = some none)
    (z_iter : PySem.W.nsIn K mainGlobals "iter" = some none)
    (z_enumerate : PySem.W.nsIn K mainGlobals "enumerate" = some none)
    (z_all : PySem.W.nsIn K mainGlobals "all" = some none)
    (z_bool : PySem.W.nsIn K mainGlobals "bool" = some none)
    (z_repr : PySem.W.nsIn K mainGlobals "repr" = some none)
    (z_zip : PySem.W.nsIn K mainGlobals "zip" = some none)
    (qc1 : K.lookup q1 = some ⟨.type "code", qd1, .fields vs1, qs1⟩)
    (qv1 : vs1[11]? = some (.ref p1))
    (qa1 : vs1.getD 18 .none = .str qf1 qt1)
    (qb1 : vs1.getD 7 .none = .int ql1 qm1)
    (qe1 : vs1.getD 9 .none = .bool qi1)
    (qg1 : vs1.getD 10 .none = .int qx1 qy1)
    (qn1 : (q1 == p1) = false)
    (qk1 : K.lookup p1 = none)
    (qc2 : K.lookup q2 = some ⟨.type "code", qd2, .fields vs2, qs2⟩)
    (qv2 : vs2[11]? = some (.ref p2))
    (qa2 : vs2.getD 18 .none = .str qf2 qt2)
    (qb2 : vs2.getD 7 .none = .int ql2 qm2)
    (qe2 : vs2.getD 9 .none = .bool qi2)
    (qg2 : vs2.getD 10 .none = .int qx2 qy2)
    (qn2 : (q2 == p2) = false)
    (qk2 : K.lookup p2 = none)
    (pp : (p1 == p2) = false) :
    LawAtS l w K CX0 13 63 "_law_script" mg fa h := by
  have e := hfa.symm.trans (PySem.W.mg_of X G a24)
  cases e
  have B : Blt mg := ⟨PySem.W.mg_none_of X G z_list, PySem.W.mg_none_of X G z_int, PySem.W.mg_none_of X G z_len, PySem.W.mg_none_of X G z_abs, PySem.W.mg_none_of X G z_range, PySem.W.mg_none_of X G z_dict, PySem.W.mg_none_of X G z_str, PySem.W.mg_none_of X G z_sorted, PySem.W.mg_none_of X G z_tuple⟩
  have T1 : Tx K mg CM CJ := ⟨B, PySem.W.mg_none_of X G z_isinstance, PySem.W.mg_none_of X G z_iter, ⟨_, PySem.W.mg_of X G g1, ⟨tk1, rfl⟩⟩, ⟨_, PySem.W.mg_of X G g2, ⟨tk2, rfl⟩⟩, ⟨_, PySem.W.mg_of X G g3, ⟨tk3, rfl⟩⟩, ⟨_, PySem.W.mg_of X G g4, ⟨tk4, rfl⟩⟩,
    ⟨_, PySem.W.mg_of X G aC, rfl⟩, ⟨_, PySem.W.mg_of X G aJ, rfl⟩, kdJ, ok_dict, ok_str, ok_int, ⟨pg, hd, po, sa⟩, nL, nI, nC, tA, tB, tC, tD, ne, ow_dict, ow_str, ow_int⟩
  have T2 : Ty K mg CM CJ := ⟨T1, kMM, kMJ, kMs, kls⟩
  have T : Tz K mg CM CJ := ⟨T2, PySem.W.mg_none_of X G z_enumerate, PySem.W.mg_none_of X G z_all, PySem.W.mg_none_of X G z_bool, ⟨_, PySem.W.mg_of X G g5, ⟨tk5, rfl⟩⟩, ⟨pgJ, hdJ, poJ, saJ⟩, nJ, jA, jD, ⟨rp, ⟨_, h1⟩, ⟨_, h2⟩, os_int⟩, kJJ⟩
  have TB : Tb K mg CR := ⟨PySem.W.mg_of X G aR, ⟨rdR, gaR⟩, vR⟩
  have OB : OexC K CB := ⟨⟨nmB, qB, NB, bsB, _, snB, subB, abB, colB, ddB, mB0, mB1, mB2, mB3, mB5, xB, show PySem.HandSPX.refsVE [.type "ValueError", .type "Exception", .type "BaseException", .type "object"] = true by decide +kernel⟩, sB, eB, tyB, kB⟩
  have XB : ExcC K CB := ⟨hgB, hkB, eB, hdB, haB, tB, tC, hmB⟩
  have ON : OexC K CN := ⟨⟨nmN, qN, NN, bsN, _, snN, subN, abN, colN, ddN, mN0, mN1, mN2, mN3, mN5, xN, show PySem.HandSPX.refsVE [.type "ValueError", .type "Exception", .type "BaseException", .type "object"] = true by decide +kernel⟩, sN, eN, tyN, kN⟩
  have XN : ExcC K CN := ⟨hgN, hkN, eN, hdN, haN, tB, tC, hmN⟩
  have OT : OexC K CT := ⟨⟨nmT, qT, NT, bsT, _, snT, subT, abT, colT, ddT, mT0, mT1, mT2, mT3, mT5, xT, show PySem.HandSPX.refsVE [.type "ValueError", .type "Exception", .type "BaseException", .type "object"] = true by decide +kernel⟩, sT, eT, tyT, kT⟩
  have XT : ExcC K CT := ⟨hgT, hkT, eT, hdT, haT, tB, tC, hmT⟩
  have Th1 : Th K mg CM CJ CB CN CT CR := ⟨T, ⟨_, PySem.W.mg_of X G aB, rfl⟩, ⟨_, PySem.W.mg_of X G aN, rfl⟩, ⟨_, PySem.W.mg_of X G aT, rfl⟩, PySem.W.mg_of X G aR, PySem.W.mg_none_of X G z_repr, exm_of eR iR tyR srB, exm_of eR iR tyR srN, exm_of eR iR tyR srT, eBB, eNB, eNN, eTB, eTN, eTT, XB, XN, XT, nB, nN, nT1, nT2⟩
  have Tp1 : Tp K mg CM CJ CB CN CT CR := ⟨Th1, ro, ⟨⟨cdM, ci, cr⟩, io, ipw⟩⟩
  have Od : OddF K CM := ⟨fun t ht => by
    simp only [oddTypes, List.mem_cons, List.not_mem_nil, or_false] at ht
    rcases ht with rfl | rfl | rfl | rfl | rfl | rfl | rfl
    · exact ⟨⟨"NoneType", _, _, rfl, oo_NoneType, or_NoneType, os_NoneType⟩, ok_NoneType, ow_NoneType⟩
    · exact ⟨⟨"int", _, _, rfl, oo_int, or_int, os_int⟩, ok_int, ow_int⟩
    · exact ⟨⟨"str", _, _, rfl, oo_str, or_str, os_str⟩, ok_str, ow_str⟩
    · exact ⟨⟨"bool", _, _, rfl, oo_bool, or_bool, os_bool⟩, ok_bool, ow_bool⟩
    · exact ⟨⟨"dict", _, _, rfl, oo_dict, or_dict, os_dict⟩, ok_dict, ow_dict⟩
    · exact ⟨⟨"list", _, _, rfl, oo_list, or_list, os_list⟩, ok_list, ow_list⟩
    · exact ⟨⟨"tuple", _, _, rfl, oo_tuple, or_tuple, os_tuple⟩, ok_tuple, ow_tuple⟩
    ⟩
  have Tl1 : Tl K mg CM CJ CB CN CT CR := ⟨Tp1, Od, PySem.W.mg_none_of X G z_zip⟩
  have F0 := fun_mk (st := s_copied) l0 c0 k0
  have b0 := F0.binds (ps := ["value"]) fun _ _ _ _ _ _ us hl => match us, hl with | [_], _ => rfl
  have F1 := fun_mk (st := s_is_letter) l1 c1 k1
  have b1 := F1.binds (ps := ["value"]) fun _ _ _ _ _ _ us hl => match us, hl with | [_], _ => rfl
  have F2 := fun_mk (st := s_all_letters) l2 c2 k2
  have b2 := F2.binds (ps := ["string"]) fun _ _ _ _ _ _ us hl => match us, hl with | [_], _ => rfl
  have F3 := fun_mk (st := s_is_text) l3 c3 k3
  have b3 := F3.binds (ps := ["value"]) fun _ _ _ _ _ _ us hl => match us, hl with | [_], _ => rfl
  have F4 := fun_mk (st := s_is_image) l4 c4 k4
  have b4 := F4.binds (ps := ["value"]) fun _ _ _ _ _ _ us hl => match us, hl with | [_], _ => rfl
  have F5 := fun_mk (st := s_told_images) l5 c5 k5
  have b5 := F5.binds (ps := ["images", "keeps"]) fun _ _ _ _ _ _ us hl => match us, hl with | [_, _], _ => rfl
  have F6 := fun_mk (st := s_check_other) l6 c6 k6
  have b6 := F6.binds (ps := ["other"]) fun _ _ _ _ _ _ us hl => match us, hl with | [_], _ => rfl
  have F7 := fun_mk (st := s_is_integer) l7 c7 k7
  have b7 := F7.binds (ps := ["value"]) fun _ _ _ _ _ _ us hl => match us, hl with | [_], _ => rfl
  have F8 := fun_mk (st := s_is_between) l8 c8 k8
  have b8 := F8.binds (ps := ["value", "least", "most"]) fun _ _ _ _ _ _ us hl => match us, hl with | [_, _, _], _ => rfl
  have F9 := fun_mk (st := s_is_told) l9 c9 k9
  have b9 := F9.binds (ps := ["word"]) fun _ _ _ _ _ _ us hl => match us, hl with | [_], _ => rfl
  have F10 := fun_mk (st := s_pen) l10 c10 k10
  have b10 := F10.binds (ps := ["_law_script"]) fun _ _ _ _ _ _ us hl => match us, hl with | [_], _ => rfl
  have F11 := fun_mk (st := s_draw) l11 c11 k11
  have b11 := F11.binds (ps := ["_law_pen_here", "_law_many"]) fun _ _ _ _ _ _ us hl => match us, hl with | [_, _], _ => rfl
  have F12 := fun_mk (st := s_pick) l12 c12 k12
  have b12 := F12.binds (ps := ["_law_pen_here", "_law_some"]) fun _ _ _ _ _ _ us hl => match us, hl with | [_, _], _ => rfl
  have F13 := fun_mk (st := s_some_letters) l13 c13 k13
  have b13 := F13.binds (ps := ["_law_pen_here", "_law_many"]) fun _ _ _ _ _ _ us hl => match us, hl with | [_, _], _ => rfl
  have F14 := fun_mk (st := s_escaped) l14 c14 k14
  have b14 := F14.binds (ps := ["_law_pen_here", "_law_some"]) fun _ _ _ _ _ _ us hl => match us, hl with | [_, _], _ => rfl
  have F15 := fun_mk (st := s_any_image) l15 c15 k15
  have b15 := F15.binds (ps := ["_law_pen_here", "_law_some"]) fun _ _ _ _ _ _ us hl => match us, hl with | [_, _], _ => rfl
  have F16 := fun_mk (st := s_table) l16 c16 k16
  have b16 := F16.binds (ps := ["_law_pen_here", "_law_some"]) fun _ _ _ _ _ _ us hl => match us, hl with | [_, _], _ => rfl
  have F17 := fun_mk (st := s__law_image) l17 c17 k17
  have b17 := F17.binds (ps := ["_law_table_here", "_law_word"]) fun _ _ _ _ _ _ us hl => match us, hl with | [_, _], _ => rfl
  have F18 := fun_mk (st := s_heard) l18 c18 k18
  have b18 := F18.binds (ps := ["_law_ask"]) fun _ _ _ _ _ _ us hl => match us, hl with | [_], _ => rfl
  have F19 := fun_mk (st := s__law_both) l19 c19 k19
  have b19 := F19.binds (ps := ["_law_first", "_law_last"]) fun _ _ _ _ _ _ us hl => match us, hl with | [_, _], _ => rfl
  have F20 := fun_mk (st := s__law_power) l20 c20 k20
  have b20 := F20.binds (ps := ["_law_table_here", "_law_k"]) fun _ _ _ _ _ _ us hl => match us, hl with | [_, _], _ => rfl
  have F21 := fun_mk (st := s_is) l21 c21 k21
  have b21 := F21.binds (ps := ["_law_heard_here", "_law_table_here"]) fun _ _ _ _ _ _ us hl => match us, hl with | [_, _], _ => rfl
  have F22 := fun_mk (st := s_powers_right) l22 c22 k22
  have b22 := F22.binds (ps := ["_law_table_here"]) fun _ _ _ _ _ _ us hl => match us, hl with | [_], _ => rfl
  have F23 := fun_mk (st := s_in_place_right) l23 c23 k23
  have b23 := F23.binds (ps := ["_law_one", "_law_two", "_law_first", "_law_last"]) fun _ _ _ _ _ _ us hl => match us, hl with | [_, _, _, _], _ => rfl
  have F24 := fun_mk (st := s_law) l24 c24 k24
  have F25 := fun_mk (st := s_Misreading_iter) l25 c25 k25
  have b25 := F25.binds (ps := ["self"]) fun _ _ _ _ _ _ us hl => match us, hl with | [_], _ => rfl
  have F26 := fun_mk (st := s_Misreading_getitem) l26 c26 k26
  have b26 := F26.binds (ps := ["self", "at"]) fun _ _ _ _ _ _ us hl => match us, hl with | [_, _], _ => rfl
  have F27 := fun_mk (st := s_Misreading_first_barred) l27 c27 k27
  have b27 := F27.binds (ps := ["self", "text"]) fun _ _ _ _ _ _ us hl => match us, hl with | [_, _], _ => rfl
  have F28 := fun_mk (st := s_Misreading_image) l28 c28 k28
  have b28 := F28.binds (ps := ["self", "text"]) fun _ _ _ _ _ _ us hl => match us, hl with | [_, _], _ => rfl
  have F29 := fun_mk (st := s_Misreading_rshift) l29 c29 k29
  have b29 := F29.binds (ps := ["self", "other"]) fun _ _ _ _ _ _ us hl => match us, hl with | [_, _], _ => rfl
  have F30 := fun_mk (st := s_Misreading_pow) l30 c30 k30
  have b30 := F30.binds (ps := ["self", "other"]) fun _ _ _ _ _ _ us hl => match us, hl with | [_, _], _ => rfl
  have F31 := fun_mk (st := s_Misreading_eq) l31 c31 k31
  have b31 := F31.binds (ps := ["self", "other"]) fun _ _ _ _ _ _ us hl => match us, hl with | [_, _], _ => rfl
  have F32 := fun_mk (st := s_Misreading_str) l32 c32 k32
  have b32 := F32.binds (ps := ["self"]) fun _ _ _ _ _ _ us hl => match us, hl with | [_], _ => rfl
  have ee : ("" : Str) = Sx [] := by decide +kernel
  have F33 : FunD K "__init__" "Misreading.__init__" (defArgs s_Misreading_init) (defBody s_Misreading_init) (defScope s_Misreading_init) [.str (Sx [])] [] f33 _ := ⟨⟨oc33, od33, .ref TI, kV33, dc33, pm33, an33, cd33, ct33, sl33, rfl, l33, c33, .inr ⟨(fun z => nomatch z), TI, _, [.str "" tkT], nT, rfl, tI, rfl, .cons ⟨tkT, by rw [← ee]⟩ .nil⟩, .inl rfl⟩, k33⟩
  have F34 := fun_mk (st := s_Misreading_read) l34 c34 k34
  have b34 := F34.binds (ps := ["cls", "text"]) fun _ _ _ _ _ _ us hl => match us, hl with | [_, _], _ => rfl
  have F36 := fun_mk (st := s_Joined_init) l36 c36 k36
  have b36 := F36.binds (ps := ["self", "images"]) fun _ _ _ _ _ _ us hl => match us, hl with | [_, _], _ => rfl
  have F37 := fun_mk (st := s_BadTable_init) l37 c37 k37
  have b37 := F37.binds (ps := ["self", "part"]) fun _ _ _ _ _ _ us hl => match us, hl with | [_, _], _ => rfl
  have F38 := fun_mk (st := s_BadNumber_init) l38 c38 k38
  have b38 := F38.binds (ps := ["self", "value"]) fun _ _ _ _ _ _ us hl => match us, hl with | [_, _], _ => rfl
  have F39 := fun_mk (st := s_TooMany_init) l39 c39 k39
  have b39 := F39.binds (ps := ["self", "what", "most"]) fun _ _ _ _ _ _ us hl => match us, hl with | [_, _, _], _ => rfl
  have F35 := fun_mk (st := s_Misreading_same) l35 c35 k35
  have b35 := F35.binds (ps := ["letters"]) fun _ _ _ _ _ _ us hl => match us, hl with | [_], _ => rfl
  have kb : KBinds K (PySem.W.fnOf "same" "Misreading.same" (defArgs s_Misreading_same) (defBody s_Misreading_same) (defScope s_Misreading_same) .none kV35 dc35 pm35 an35 cd35 ct35) ["letters"] ["letters"] (fun us ws => us ++ ws) (fun vs zs => vs ++ zs) := ⟨fun s us ws _ hl => match us, ws, hl with
    | [], [_], _ => .of_eq rfl
    | [_], [], _ => .of_eq rfl, fun r1 r2 => r1.append r2⟩
  have N1 : q1 ≠ p1 := fun z => by rw [z] at qn1; simp at qn1
  have hd11_1 : vs1.getD 11 .none = .ref p1 := by rw [Array.getD_eq_getD_getElem?, qv1]; rfl
  have H1 : PySem.W.CodeHd h q1 p1 := ⟨_, vs1, _, _, _, _, _, _, _, X _ _ qc1, rfl, rfl, qv1, hd11_1, qa1, qb1, qe1, qg1, N1⟩
  have N2 : q2 ≠ p2 := fun z => by rw [z] at qn2; simp at qn2
  have hd11_2 : vs2.getD 11 .none = .ref p2 := by rw [Array.getD_eq_getD_getElem?, qv2]; rfl
  have H2 : PySem.W.CodeHd h q2 p2 := ⟨_, vs2, _, _, _, _, _, _, _, X _ _ qc2, rfl, rfl, qv2, hd11_2, qa2, qb2, qe2, qg2, N2⟩
  have P1 : h.get? p1 = some { cls := .none, data := .fields #[] } := own2 f22 (PySem.W.mg_of X G a22) q1 p1 _ _ _ _ _ _ l22 rfl rfl qc1 qv1
  have P2 : h.get? p2 = some { cls := .none, data := .fields #[] } := own q2 p2 _ _ _ _ _ _ l24 rfl rfl qc2 qv2
  have pne : p1 ≠ p2 := fun z => by rw [z] at pp; simp at pp
  have two : ∀ {C : Addr × Addr → Prop}, C (q1, p1) → C (q2, p2) → ∀ p ∈ [(q1, p1), (q2, p2)], C p := fun a b p hp => by
    rcases List.mem_cons.mp hp with rfl | hp
    · exact a
    · rw [List.mem_singleton.mp hp]
      exact b
  refine ⟨PySem.W.fnOf "law" "law" (defArgs s_law) (defBody s_law) (defScope s_law) .none kV24 dc24 pm24 an24 (.ref q2) ct24, [(q1, p1), (q2, p2)], spLaw (TLs p1 p2) K, two P1 P2, two qk1 qk2, two H1 H2, fun s v => .of_eq rfl, fun Hh a ns hl _ ht hS => ⟨a, ns, rfl, hS, hl, fun p hp => ?_, fun _ => rfl⟩, fun base _ _ hb => ?_⟩
  · rcases List.mem_cons.mp hp with rfl | hp
    · exact TabS.nil (ht (q1, p1) (by simp))
    · rw [List.mem_singleton.mp hp]
      exact TabS.nil (ht (q2, p2) (by simp))
  have K1 : TabT base mg (TLs p1 p2) (("_law_powers_right" : Str) ++ ".<locals>.") q1 p1 := ⟨hb (q1, p1) (by simp), by simp [TLs], fun p hp e => by
    rcases List.mem_cons.mp hp with rfl | hp
    · rfl
    · rw [List.mem_singleton.mp hp] at e
      exact absurd e.symm pne⟩
  have K2 : TabT base mg (TLs p1 p2) (("law" : Str) ++ ".<locals>.") q2 p2 := ⟨hb (q2, p2) (by simp), by simp [TLs], fun p hp e => by
    rcases List.mem_cons.mp hp with rfl | hp
    · exact absurd e pne
    · rw [List.mem_singleton.mp hp]⟩
  have FJ : FunC K "_law_powers_right" "_law_powers_right" s_powers_right f22 q1 _ := ⟨⟨oc22, od22, kV22, dc22, pm22, an22, ct22, sl22, rfl, l22, c22⟩⟩
  have FL : FunC K "law" "law" s_law fa q2 (PySem.W.fnOf "law" "law" (defArgs s_law) (defBody s_law) (defScope s_law) .none kV24 dc24 pm24 an24 (.ref q2) ct24) := ⟨⟨oc24, od24, kV24, dc24, pm24, an24, ct24, sl24, rfl, l24, c24⟩⟩
  have D_heard : HearD K mg f18 := ⟨PySem.W.mg_of X G a18, k18, ⟨oc18, od18, kV18, dc18, pm18, an18, cd18, ct18, sl18, l18, c18⟩⟩
  have D_draw : Df l.prog w K mg base 1 "_law_draw" spDraw := ⟨⟨f11, _, _, ok_draw (k := 0) F11 B, PySem.W.mg_of X G a11, k11, b11⟩⟩
  have D_pick : Df l.prog w K mg base 2 "_law_pick" (spPick K) := ⟨⟨f12, _, _, ok_pick F12 B D_draw, PySem.W.mg_of X G a12, k12, b12⟩⟩
  have D_some_letters : Df l.prog w K mg base 2 "_law_some_letters" spLetters := ⟨⟨f13, _, _, ok_some_letters F13 B D_draw, PySem.W.mg_of X G a13, k13, b13⟩⟩
  have D_any_image : Df l.prog w K mg base 3 "_law_any_image" spImage := ⟨⟨f15, _, _, ok_any_image F15 B D_pick, PySem.W.mg_of X G a15, k15, b15⟩⟩
  have D_escaped : Df l.prog w K mg base 2 "_law_escaped" (spTab 52) := ⟨⟨f14, _, _, ok_escaped F14 B D_draw, PySem.W.mg_of X G a14, k14, b14⟩⟩
  have D_table : Df l.prog w K mg base 4 "_law_table" (spTab 260) := ⟨⟨f16, _, _, ok_table F16 B D_draw D_escaped D_any_image, PySem.W.mg_of X G a16, k16, b16⟩⟩
  have D_is_letter : Df l.prog w K mg base 1 "is_letter" (spIsLetter K) := ⟨⟨f1, _, _, ok_is_letter F1 T1, PySem.W.mg_of X G a1, k1, b1⟩⟩
  have D_all_letters : Df l.prog w K mg base 1 "all_letters" spAllLetters := ⟨⟨f2, _, _, ok_all_letters F2 T1, PySem.W.mg_of X G a2, k2, b2⟩⟩
  have D_is_text : Df l.prog w K mg base 2 "is_text" spIsText := ⟨⟨f3, _, _, ok_is_text F3 T1 D_all_letters, PySem.W.mg_of X G a3, k3, b3⟩⟩
  have D_is_image : Df l.prog w K mg base 3 "is_image" spIsImage := ⟨⟨f4, _, _, ok_is_image F4 T1 D_is_text, PySem.W.mg_of X G a4, k4, b4⟩⟩
  have D_told_images : Df l.prog w K mg base 4 "told_images" spTold := ⟨⟨f5, _, _, ok_told_images F5 T1 D_is_letter D_is_text D_is_image, PySem.W.mg_of X G a5, k5, b5⟩⟩
  have D_is_told : Df l.prog w K mg base 4 "is_told" spTold0 := ⟨⟨f9, _, _, ok_told0 F9 T1 D_is_letter D_is_image, PySem.W.mg_of X G a9, k9, b9⟩⟩
  have D_copied : Df l.prog w K mg base 1 "copied" (spCopied K) := ⟨⟨f0, _, _, ok_copied F0 T1, PySem.W.mg_of X G a0, k0, b0⟩⟩
  have D_is_integer : Df l.prog w K mg base 1 "is_integer" spInt := ⟨⟨f7, _, _, ok_is_integer F7 T, PySem.W.mg_of X G a7, k7, b7⟩⟩
  have D_is_between : Df l.prog w K mg base 2 "is_between" spBtwB := ⟨⟨f8, _, _, ok_btwB F8 T D_is_integer, PySem.W.mg_of X G a8, k8, b8⟩⟩
  have D_pen : Df l.prog w K mg base 1 "_law_pen" (spPen K) := ⟨⟨f10, _, _, ok_pen F10 B, PySem.W.mg_of X G a10, k10, b10⟩⟩
  have D_limage : Df l.prog w K mg base 1 "_law_image" spLimg := ⟨⟨f17, _, _, ok_limage F17 T, PySem.W.mg_of X G a17, k17, b17⟩⟩
  have D_both : Df l.prog w K mg base 2 "_law_both" spBoth := ⟨⟨f19, _, _, ok_both F19 T D_limage, PySem.W.mg_of X G a19, k19, b19⟩⟩
  have D_power : Df l.prog w K mg base 3 "_law_power" spPower := ⟨⟨f20, _, _, ok_power F20 T D_both, PySem.W.mg_of X G a20, k20, b20⟩⟩
  have E_BadTable : Erm l.prog w K mg base "BadTable" "part" CB := ⟨OB, nB, f37, _, _, a37, y37, ok_BadTable F37 TB D_copied, b37, PySem.W.mg_of X G aB⟩
  have E_BadNumber : Erm l.prog w K mg base "BadNumber" "value" CN := ⟨ON, nN, f38, _, _, a38, y38, ok_BadNumber F38 TB D_copied, b38, PySem.W.mg_of X G aN⟩
  have E_TooMany : ErmT l.prog w K mg base CT := ⟨OT, nT1, nT2, f39, _, _, a39, y39, ok_TooMany F39 TB D_copied, b39, PySem.W.mg_of X G aT⟩
  have D_check : DfX l.prog w K mg base 4 "check_other" (spCheck K CM CB) := ⟨⟨f6, _, _, ok_check_otherX F6 T2 E_BadTable, PySem.W.mg_of X G a6, k6, b6⟩⟩
  have D_mk : Mkr l.prog w K mg base CM := mkr_of F33 T1 D_told_images ⟨mk, a33, i33, kc⟩ (PySem.W.mg_of X G aC)
  have D_mkMJX : MkrMX l.prog w K mg base CM CJ CT := mkrMX_of (CXa := CX0) F33 T D_told_images E_TooMany ⟨mk, a33, i33, kc⟩ (PySem.W.mg_of X G aC)
  have D_mkJ : MkrJ l.prog w K mg base CJ := ⟨f36, _, ⟨mkJ, a36, i36, kcJ⟩, ok_Joined F36 T, PySem.W.mg_of X G aJ, b36⟩
  have D_get : Mf l.prog w K mg base 2 CM "__getitem__" (spGet CM) := ⟨⟨f26, _, _, ok_get F26 T1 D_is_letter, ⟨a26, i26, k26⟩, ⟨a26, i26⟩, n26, b26⟩⟩
  have D_eq : Mf l.prog w K mg base 1 CM "__eq__" (spEq K CM) := ⟨⟨f31, _, _, ok_eq F31 T2, ⟨a31, i31, k31⟩, ⟨a31, i31⟩, n31, b31⟩⟩
  have D_str : Mf l.prog w K mg base 1 CM "__str__" (spStr CM) := ⟨⟨f32, _, _, V8.ok_str F32 T2, ⟨a32, i32, k32⟩, ⟨a32, i32⟩, n32, b32⟩⟩
  have D_iter : ItM l.prog w K mg base 1 CM (snIter CM) := ⟨f25, _, _, ok_iter F25 T1, ⟨a25, i25⟩, b25⟩
  have D_same : Sms l.prog w K mg base CM := ⟨pM, f35, _, .type "type", ⟨rd, ga⟩, ⟨sC2, ⟨restM, sR2⟩, k35⟩, ok_same F35 T2 D_mk, b35, kb⟩
  have D_read : Rd0 l.prog w K mg base CM := ⟨pS, f34, _, .type "type", ⟨rd, ga⟩, ⟨sC, ⟨restS, sR⟩, n34⟩, ok_read0 F34 T D_is_told D_mk, b34⟩
  have D_first_barred : Mf l.prog w K mg base 1 CM "first_barred" (spFB CM) := ⟨⟨f27, _, _, ok_first_barred F27 T, ⟨a27, i27, k27⟩, ⟨a27, i27⟩, n27, b27⟩⟩
  have D_image : Mf l.prog w K mg base 1 CM "image" (spImg CM) := ⟨⟨f28, _, _, ok_image F28 T, ⟨a28, i28, k28⟩, ⟨a28, i28⟩, n28, b28⟩⟩
  have D_rshift : BoX l.prog w K mg base 7 CM "__rshift__" (spRshX K CM CB CT) := ⟨⟨f29, _, _, ok_rshX F29 T D_check D_first_barred D_image D_mkJ D_mkMJX E_TooMany, b29, a29, i29, sf⟩⟩
  have D_pow : BoX l.prog w K mg base 8 CM "__pow__" (spPowX CM CT CN) := ⟨⟨f30, _, _, ok_powX F30 T D_is_between D_rshift E_BadNumber, b30, a30, i30, sf⟩⟩
  have D_is : Df l.prog w K mg base 4 "_law_is" (spIs CM) := ⟨⟨f21, _, _, ok_is F21 T D_iter D_str, PySem.W.mg_of X G a21, k21, b21⟩⟩
  have D_powers : Df l.prog w K mg base 12 "_law_powers_right" (spPowers (TLs p1 p2)) := ⟨⟨f22, _, _, ok_powers FJ Tp1 D_is D_power D_heard K1 D_pow D_mk, PySem.W.mg_of X G a22, k22, b22⟩⟩
  have D_inpl : Df l.prog w K mg base 9 "_law_in_place_right" (spInPl CM) := ⟨⟨f23, _, _, ok_inpl F23 Tp1 D_is D_both D_rshift D_pow D_eq, PySem.W.mg_of X G a23, k23, b23⟩⟩
  exact ok_law FL Tl1 D_pen D_draw D_pick D_some_letters D_table D_both D_is D_inpl D_powers D_heard K2 D_read D_same D_rshift D_pow D_get D_eq D_mk
/-- the end, where the tables of two defs are known -/
theorem walk {l : PySem.W.OpenLaw} {q : Program} {loose : List Str} {XP : (Str → Option Value) → Heap → Prop} {YP : World → Heap → Prop} {d : DefRec} {K : Params → PySem.W.Frag} (hn : l.most = some 63) (hdf : d.params.defaults = []) (hrec : ((recsOf q).any fun e => e.name == d.name) = true) (hrec2 : ((recsOf q).any fun e => e.name == "_law_powers_right") = true)
    (hY : ∀ (w : World) (h : Heap), YP w h → (K w.params).In h)
    (F : ∀ (w : World) (mg : Str → Option Value) (fa : Addr) (h : Heap), (K w.params).In h → h.Ns mainGlobals mg → mg d.name = some (.ref fa) → OwnTab (K w.params) fa h → (∀ fb, mg "_law_powers_right" = some (.ref fb) → OwnTab (K w.params) fb h) → LawAtS l w (K w.params) CX0 13 63 "_law_script" mg fa h) :
    PySem.W.WalkO q loose XP YP l.row.toRowW d [] (fun f vs => PySem.call f vs) := by
  refine Att.attach_callB hn hdf fun w s₀ s₁ mg mb fa o pm cd doc a vs ns G Y ho hd hcd hmg hobj hints hlen hbits hg => ?_
  have KX := hY w _ Y
  have tab : ∀ (x : Str) (fb : Addr), ((recsOf q).any fun e => e.name == x) = true → mg x = some (.ref fb) → OwnTab (K w.params) fb s₁.heap := fun x fb hr hm0 c P o1 fd1 e dd vs1 sl k1 k2 k3 k4 k5 => by
    obtain ⟨dL, hm, hn1⟩ := List.any_eq_true.mp hr
    have hn2 : dL.name = x := beq_iff_eq.mp hn1
    obtain ⟨a', o', fd', c', P', h1, h2, h3, h4, h5, h6⟩ := G.T.tab dL hm
    rw [hn2, hm0] at h1
    cases h1
    have g1 := KX _ _ k1
    rw [g1] at h2
    cases h2
    rw [k2] at h3
    cases h3
    rw [k3] at h4
    cases h4
    obtain ⟨⟨oc, vc, e1, _, e3, e4⟩, hP⟩ := h6
    have g2 := KX _ _ k4
    rw [g2] at e1
    cases e1
    cases e3
    rw [k5] at e4
    cases e4
    exact hP
  obtain ⟨fd, cs, sp, hT, nT, C, hb, hsp, hF⟩ := F w mg fa _ KX G.T.g hmg (tab _ fa hrec hmg) fun fb hm0 => tab _ fb hrec2 hm0
  exact law_callTs KX G.T.g G.T.b G.T.builtins G.T.nolimit hg hT nT C G.T.bmain hobj hints (Nat.le_trans hlen (by decide)) ⟨rfl, by decide, by decide⟩ hF hb (fun H hH hS => hsp H a ns hlen hbits hH hS) fun _ _ _ z => z
end V8

set_option Elab.async false
set_option linter.all false
set_option maxRecDepth 100000
open PySem PySem.W PyProof.Rows
set_option maxHeartbeats 0 in
theorem PySem.Challenge.cw_blindrepair_k11_misreadings_composed_holds : PySem.Challenge.rw_blindrepair_k11_misreadings_composed.Holds := by
  w_on; o_law; k_head; (case hw => w_witness2)
  k_fill
  refine V8.walk (l := PySem.Challenge.rw_blindrepair_k11_misreadings_composed) rfl rfl (by decide +kernel) (by decide +kernel) (fun w h Y => PySem.W.km_in_of Y) ?F
  case F =>
    intro w mg fa h KX G hmg own own2
    refine' V8.all_mk KX G hmg own own2 ?aC ?aJ ?aB ?aN ?aT ?aR ?a0 ?l0 ?c0 ?k0 ?a1 ?l1 ?c1 ?k1 ?a2 ?l2 ?c2 ?k2 ?a3 ?l3 ?c3 ?k3 ?a4 ?l4 ?c4 ?k4 ?a5 ?l5 ?c5 ?k5 ?a6 ?l6 ?c6 ?k6 ?a7 ?l7 ?c7 ?k7 ?a8 ?l8 ?c8 ?k8 ?a9 ?l9 ?c9 ?k9 ?a10 ?l10 ?c10 ?k10 ?a11 ?l11 ?c11 ?k11 ?a12 ?l12 ?c12 ?k12 ?a13 ?l13 ?c13 ?k13 ?a14 ?l14 ?c14 ?k14 ?a15 ?l15 ?c15 ?k15 ?a16 ?l16 ?c16 ?k16 ?a17 ?l17 ?c17 ?k17 ?a18 ?l18 ?c18 ?k18 ?a19 ?l19 ?c19 ?k19 ?a20 ?l20 ?c20 ?k20 ?a21 ?l21 ?c21 ?k21 ?a22 ?l22 ?c22 ?k22 ?a23 ?l23 ?c23 ?k23 ?a24 ?l24 ?c24 ?k24 ?a25 ?i25 ?l25 ?c25 ?k25 ?n25 ?a26 ?i26 ?l26 ?c26 ?k26 ?n26 ?a27 ?i27 ?l27 ?c27 ?k27 ?n27 ?a28 ?i28 ?l28 ?c28 ?k28 ?n28 ?a29 ?i29 ?l29 ?c29 ?k29 ?n29 ?a30 ?i30 ?l30 ?c30 ?k30 ?n30 ?a31 ?i31 ?l31 ?c31 ?k31 ?n31 ?a32 ?i32 ?l32 ?c32 ?k32 ?n32 ?a33 ?i33 ?l33 ?c33 ?k33 ?tI ?sC ?sR ?l34 ?c34 ?k34 ?n34 ?sC2 ?sR2 ?l35 ?c35 ?k35 ?a36 ?i36 ?l36 ?c36 ?k36 ?a37 ?y37 ?l37 ?c37 ?k37 ?a38 ?y38 ?l38 ?c38 ?k38 ?a39 ?y39 ?l39 ?c39 ?k39 ?xB ?sB ?eB ?tyB ?kB ?hgB ?hkB ?hdB ?haB ?hmB ?srB ?xN ?sN ?eN ?tyN ?kN ?hgN ?hkN ?hdN ?haN ?hmN ?srN ?xT ?sT ?eT ?tyT ?kT ?hgT ?hkT ?hdT ?haT ?hmT ?srT ?nB ?nN ?nT1 ?nT2 ?eR ?tyR ?iR ?rdR ?gaR ?vR ?rd ?ga ?pg ?hd ?po ?sa ?mk ?kc ?sf ?nL ?nI ?nC ?tA ?tB ?tC ?tD ?ne ?rp ?h1 ?h2 ?ro ?io ?ipw ?ci ?cr ?ow_NoneType ?oo_NoneType ?or_NoneType ?os_NoneType ?ow_int ?oo_int ?or_int ?os_int ?ow_str ?oo_str ?or_str ?os_str ?ow_bool ?oo_bool ?or_bool ?os_bool ?ow_dict ?oo_dict ?or_dict ?os_dict ?ow_list ?oo_list ?or_list ?os_list ?ow_tuple ?oo_tuple ?or_tuple ?os_tuple ?pgJ ?hdJ ?poJ ?saJ ?mkJ ?kcJ ?nJ ?jA ?jD ?ok_NoneType ?ok_int ?ok_str ?ok_bool ?ok_dict ?ok_list ?ok_tuple ?kdJ ?kMM ?kMJ ?kMs ?kls ?kJJ ?eBB ?eNB ?eNN ?eTB ?eTN ?eTT ?g1 ?g2 ?g3 ?g4 ?g5 ?z_list ?z_int ?z_len ?z_abs ?z_range ?z_dict ?z_str ?z_sorted ?z_tuple ?z_isinstance ?z_iter ?z_enumerate ?z_all ?z_bool ?z_repr ?z_zip ?qc1 ?qv1 ?qa1 ?qb1 ?qe1 ?qg1 ?qn1 ?qk1 ?qc2 ?qv2 ?qa2 ?qb2 ?qe2 ?qg2 ?qn2 ?qk2 ?pp
    (case aC => k_is)
    (case aJ => k_is)
    (case aB => k_is)
    (case aN => k_is)
    (case aT => k_is)
    (case aR => k_is)
    (case a0 => k_is)
    (case l0 => k_is)
    (case c0 => k_is)
    (case k0 => k_is)
    (case a1 => k_is)
    (case l1 => k_is)
    (case c1 => k_is)
    (case k1 => k_is)
    (case a2 => k_is)
    (case l2 => k_is)
    (case c2 => k_is)
    (case k2 => k_is)
    (case a3 => k_is)
    (case l3 => k_is)
    (case c3 => k_is)
    (case k3 => k_is)
    (case a4 => k_is)
    (case l4 => k_is)
    (case c4 => k_is)
    (case k4 => k_is)
    (case a5 => k_is)
    (case l5 => k_is)
    (case c5 => k_is)
    (case k5 => k_is)
    (case a6 => k_is)
    (case l6 => k_is)
    (case c6 => k_is)
    (case k6 => k_is)
    (case a7 => k_is)
    (case l7 => k_is)
    (case c7 => k_is)
    (case k7 => k_is)
    (case a8 => k_is)
    (case l8 => k_is)
    (case c8 => k_is)
    (case k8 => k_is)
    (case a9 => k_is)
    (case l9 => k_is)
    (case c9 => k_is)
    (case k9 => k_is)
    (case a10 => k_is)
    (case l10 => k_is)
    (case c10 => k_is)
    (case k10 => k_is)
    (case a11 => k_is)
    (case l11 => k_is)
    (case c11 => k_is)
    (case k11 => k_is)
    (case a12 => k_is)
    (case l12 => k_is)
    (case c12 => k_is)
    (case k12 => k_is)
    (case a13 => k_is)
    (case l13 => k_is)
    (case c13 => k_is)
    (case k13 => k_is)
    (case a14 => k_is)
    (case l14 => k_is)
    (case c14 => k_is)
    (case k14 => k_is)
    (case a15 => k_is)
    (case l15 => k_is)
    (case c15 => k_is)
    (case k15 => k_is)
    (case a16 => k_is)
    (case l16 => k_is)
    (case c16 => k_is)
    (case k16 => k_is)
    (case a17 => k_is)
    (case l17 => k_is)
    (case c17 => k_is)
    (case k17 => k_is)
    (case a18 => k_is)
    (case l18 => k_is)
    (case c18 => k_is)
    (case k18 => k_is)
    (case a19 => k_is)
    (case l19 => k_is)
    (case c19 => k_is)
    (case k19 => k_is)
    (case a20 => k_is)
    (case l20 => k_is)
    (case c20 => k_is)
    (case k20 => k_is)
    (case a21 => k_is)
    (case l21 => k_is)
    (case c21 => k_is)
    (case k21 => k_is)
    (case a22 => k_is)
    (case l22 => k_is)
    (case c22 => k_is)
    (case k22 => k_is)
    (case a23 => k_is)
    (case l23 => k_is)
    (case c23 => k_is)
    (case k23 => k_is)
    (case a24 => k_is)
    (case l24 => k_is)
    (case c24 => k_is)
    (case k24 => k_is)
    (case a25 => k_is)
    (case i25 => k_is)
    (case l25 => k_is)
    (case c25 => k_is)
    (case k25 => k_is)
    (case n25 => k_is)
    (case a26 => k_is)
    (case i26 => k_is)
    (case l26 => k_is)
    (case c26 => k_is)
    (case k26 => k_is)
    (case n26 => k_is)
    (case a27 => k_is)
    (case i27 => k_is)
    (case l27 => k_is)
    (case c27 => k_is)
    (case k27 => k_is)
    (case n27 => k_is)
    (case a28 => k_is)
    (case i28 => k_is)
    (case l28 => k_is)
    (case c28 => k_is)
    (case k28 => k_is)
    (case n28 => k_is)
    (case a29 => k_is)
    (case i29 => k_is)
    (case l29 => k_is)
    (case c29 => k_is)
    (case k29 => k_is)
    (case n29 => k_is)
    (case a30 => k_is)
    (case i30 => k_is)
    (case l30 => k_is)
    (case c30 => k_is)
    (case k30 => k_is)
    (case n30 => k_is)
    (case a31 => k_is)
    (case i31 => k_is)
    (case l31 => k_is)
    (case c31 => k_is)
    (case k31 => k_is)
    (case n31 => k_is)
    (case a32 => k_is)
    (case i32 => k_is)
    (case l32 => k_is)
    (case c32 => k_is)
    (case k32 => k_is)
    (case n32 => k_is)
    (case a33 => k_is)
    (case i33 => k_is)
    (case l33 => k_is)
    (case c33 => k_is)
    (case k33 => k_is)
    (case tI => k_is)
    (case sC => k_is)
    (case sR => k_is)
    (case l34 => k_is)
    (case c34 => k_is)
    (case k34 => k_is)
    (case n34 => k_is)
    (case sC2 => k_is)
    (case sR2 => k_is)
    (case l35 => k_is)
    (case c35 => k_is)
    (case k35 => k_is)
    (case a36 => k_is)
    (case i36 => k_is)
    (case l36 => k_is)
    (case c36 => k_is)
    (case k36 => k_is)
    (case a37 => k_is)
    (case y37 => k_is)
    (case l37 => k_is)
    (case c37 => k_is)
    (case k37 => k_is)
    (case a38 => k_is)
    (case y38 => k_is)
    (case l38 => k_is)
    (case c38 => k_is)
    (case k38 => k_is)
    (case a39 => k_is)
    (case y39 => k_is)
    (case l39 => k_is)
    (case c39 => k_is)
    (case k39 => k_is)
    (case xB => k_is)
    (case sB => k_is)
    (case eB => k_is)
    (case tyB => k_is)
    (case kB => k_is)
    (case hgB => k_is)
    (case hkB => k_is)
    (case hdB => k_is)
    (case haB => k_is)
    (case hmB => k_is)
    (case srB => first | rfl | k_is)
    (case xN => k_is)
    (case sN => k_is)
    (case eN => k_is)
    (case tyN => k_is)
    (case kN => k_is)
    (case hgN => k_is)
    (case hkN => k_is)
    (case hdN => k_is)
    (case haN => k_is)
    (case hmN => k_is)
    (case srN => first | rfl | k_is)
    (case xT => k_is)
    (case sT => k_is)
    (case eT => k_is)
    (case tyT => k_is)
    (case kT => k_is)
    (case hgT => k_is)
    (case hkT => k_is)
    (case hdT => k_is)
    (case haT => k_is)
    (case hmT => k_is)
    (case srT => first | rfl | k_is)
    (case nB => k_is)
    (case nN => k_is)
    (case nT1 => k_is)
    (case nT2 => k_is)
    (case eR => k_is)
    (case tyR => k_is)
    (case iR => k_is)
    (case rdR => k_is)
    (case gaR => k_is)
    (case vR => k_is)
    (case rd => k_is)
    (case ga => k_is)
    (case pg => k_is)
    (case hd => k_is)
    (case po => k_is)
    (case sa => k_is)
    (case mk => k_is)
    (case kc => k_is)
    (case sf => k_is)
    (case nL => k_is)
    (case nI => k_is)
    (case nC => k_is)
    (case tA => k_is)
    (case tB => k_is)
    (case tC => k_is)
    (case tD => k_is)
    (case ne => k_is)
    (case rp => k_is)
    (case h1 => k_is)
    (case h2 => k_is)
    (case ro => k_is)
    (case io => k_is)
    (case ipw => k_is)
    (case ci => k_is)
    (case cr => first | rfl | k_is)
    (case ow_NoneType => k_is)
    (case oo_NoneType => k_is)
    (case or_NoneType => k_is)
    (case os_NoneType => k_is)
    (case ow_int => k_is)
    (case oo_int => k_is)
    (case or_int => k_is)
    (case os_int => k_is)
    (case ow_str => k_is)
    (case oo_str => k_is)
    (case or_str => k_is)
    (case os_str => k_is)
    (case ow_bool => k_is)
    (case oo_bool => k_is)
    (case or_bool => k_is)
    (case os_bool => k_is)
    (case ow_dict => k_is)
    (case oo_dict => k_is)
    (case or_dict => k_is)
    (case os_dict => k_is)
    (case ow_list => k_is)
    (case oo_list => k_is)
    (case or_list => k_is)
    (case os_list => k_is)
    (case ow_tuple => k_is)
    (case oo_tuple => k_is)
    (case or_tuple => k_is)
    (case os_tuple => k_is)
    (case pgJ => k_is)
    (case hdJ => k_is)
    (case poJ => k_is)
    (case saJ => k_is)
    (case mkJ => k_is)
    (case kcJ => k_is)
    (case nJ => k_is)
    (case jA => k_is)
    (case jD => k_is)
    (case ok_NoneType => first | kit_is | exact L2.kit_ty (by decide +kernel))
    (case ok_int => first | kit_is | exact L2.kit_ty (by decide +kernel))
    (case ok_str => first | kit_is | exact L2.kit_ty (by decide +kernel))
    (case ok_bool => first | kit_is | exact L2.kit_ty (by decide +kernel))
    (case ok_dict => first | kit_is | exact L2.kit_ty (by decide +kernel))
    (case ok_list => first | kit_is | exact L2.kit_ty (by decide +kernel))
    (case ok_tuple => first | kit_is | exact L2.kit_ty (by decide +kernel))
    (case kdJ => first | kit_is | exact L2.kit_ty (by decide +kernel))
    (case kMM => first | kit_is | exact L2.kit_ty (by decide +kernel))
    (case kMJ => first | kit_is | exact L2.kit_ty (by decide +kernel))
    (case kMs => first | kit_is | exact L2.kit_ty (by decide +kernel))
    (case kls => first | kit_is | exact L2.kit_ty (by decide +kernel))
    (case kJJ => first | kit_is | exact L2.kit_ty (by decide +kernel))
    (case eBB => first | kit_is | exact L2.kit_ty (by decide +kernel))
    (case eNB => first | kit_is | exact L2.kit_ty (by decide +kernel))
    (case eNN => first | kit_is | exact L2.kit_ty (by decide +kernel))
    (case eTB => first | kit_is | exact L2.kit_ty (by decide +kernel))
    (case eTN => first | kit_is | exact L2.kit_ty (by decide +kernel))
    (case eTT => first | kit_is | exact L2.kit_ty (by decide +kernel))
    (case g1 => k_is)
    (case g2 => k_is)
    (case g3 => k_is)
    (case g4 => k_is)
    (case g5 => k_is)
    (case z_list => k_is)
    (case z_int => k_is)
    (case z_len => k_is)
    (case z_abs => k_is)
    (case z_range => k_is)
    (case z_dict => k_is)
    (case z_str => k_is)
    (case z_sorted => k_is)
    (case z_tuple => k_is)
    (case z_isinstance => k_is)
    (case z_iter => k_is)
    (case z_enumerate => k_is)
    (case z_all => k_is)
    (case z_bool => k_is)
    (case z_repr => k_is)
    (case z_zip => k_is)
    (case qc1 => k_is)
    (case qv1 => first | rfl | k_is)
    (case qa1 => first | rfl | k_is)
    (case qb1 => first | rfl | k_is)
    (case qe1 => first | rfl | k_is)
    (case qg1 => first | rfl | k_is)
    (case qn1 => first | rfl | k_is)
    (case qk1 => first | rfl | k_is)
    (case qc2 => k_is)
    (case qv2 => first | rfl | k_is)
    (case qa2 => first | rfl | k_is)
    (case qb2 => first | rfl | k_is)
    (case qe2 => first | rfl | k_is)
    (case qg2 => first | rfl | k_is)
    (case qn2 => first | rfl | k_is)
    (case qk2 => first | rfl | k_is)
    (case pp => first | rfl | k_is)

