import PyProof.Rows.All
import Wide.All
import OpenK.AllK
import Wide.FinOn
import HandS.ForMost
import HandS.OwnEq
import HandS.Wide
import HandS.DictComp
import HandS.IsInst
import HandS.Codes
import HandS.Flow
import PyProof.ListStr
import PyProof.InstNe
import KE.KCallOwn
import KE.KOwnIter
import KE.KFmtOwn
import HandS.Style
import HandS.IterNext
import HandS.StrMore
import HandS.MakeKw
import HandS.IterVal
import HandS.More
import PyProof.DictUpdate
import HandS.RaiseMore
import HandS.Walk
import HandS.FStr
import HandS.ClsMeth
import HandS.MakeKwOnly
import HandS.ExcInit
import KE.GoesMore
import KE.KOpsOwn
import HandS.Star
import HandS.TryOnly
import HandS.ExcValue
import HandS.ExcIs
import HandS.Lambda
import KE.KExcIs
import HandS.Zip
import KE.GoesZip
import PyProof.Rows.StrMul
import KE.KEqDict
import PyProof.P3Eq
import KE.GoesEnum
import PyProof.CallFns
import PyProof.InstEq
import PyProof.ReprRoads
import HandS.WordsExc
import HandS.RaiseFrom
import PySem.Challenge.RW_blindrepair_k01_errors_apart
import HandS.HotCalls
import HandS.EndTab
import HandS.EndOwn
import KE.RegKIsAll
set_option Elab.async false
set_option linter.all false
set_option maxRecDepth 100000
set_option maxHeartbeats 4000000
/-! Rules of our own: the methods with two underscores of a text's own class, called by Python's signs; list(text). -/
namespace L2
open PySem PySem.Spec PyProof.Rows
section
variable {X : Cx} {n : Nat} {CX : CXT} {C f : Addr} {fd : FuncData} {ps : List Str} {sp : Sp} {E : XK}
/-- a def that is called from within a built-in -/
theorem run_own {A : Around} {pins : List (Addr × Obj)} {σ : St} {H : Hp} {s : Shared} {Q : VK} {us : List Value} {vs : List V} (sb : Sub X n A) (F : FnOk X.prog X.w X.K X.mg X.base CX n f fd ps sp) (hb : Binds X.K fd ps []) (hx : Passes CX X E)
    (I : Inv X pins σ H s) (r : Vals vs us) (h : sp vs H Q E) : wpAny (model X.prog X.w) A (call (.ref f) us) (EP X pins σ Q) X.xe s := by
  have e0 : Env0 X.prog X.w X.K X.mg X.base A X.stack s H := by
    have e := I.env0
    exact ⟨by rw [sb.fr]; exact e.frames, e.mod, e.bs, e.bsz, e.funs, e.frf, e.hok, e.bare⟩
  have hl := F.len _ _ _ _ h
  have hl2 : us.length = ps.length := by rw [← r.length]; exact hl
  refine wpAny_call (codeAny_mono (F.run A X.stack s H ⟨us, []⟩ us vs Q E sb.room e0 (by
    have := hb s us I.kIn (by simpa using hl2)
    simpa using this) r h) fun r s' hq => ?_)
  cases r with
  | error e => exact hx pins σ H s e s' I hq
  | ok fl =>
    cases fl with
    | ret w => exact I.after hq
    | next => exact False.elim hq
    | brk => exact False.elim hq
    | cont => exact False.elim hq
/-- the instance that H tells, for the library's rules -/
theorem inst_at {pins : List (Addr × Obj)} {σ : St} {H : Hp} {s : Shared} {a dx : Addr} {fs : List (Str × V)} (I : Inv X pins σ H s) (ha : H a = some (.ins C dx fs)) : ∃ od, PySem.W.InstAt s.heap a (PySem.W.instObj C dx) C od := by
  obtain ⟨mA, J, _⟩ := ins_get I.hok ha
  obtain ⟨od, J, _⟩ := J.look
  exact ⟨od, J⟩
/-- where one stands in a built-in, once or twice deeper -/
theorem Sub.here (hr : Room n X.A) : Sub X n X.A := ⟨hr, rfl⟩
/-- the facts of a method that a sign calls -/
structure Own (K : PySem.W.Frag) (C : Addr) (m : Str) (f : Addr) : Prop where
  find : PySem.W.findIn K (.ref C) m = some (some (.ref f))
  fn : PySem.W.isFn K (.ref f) = true
/-- list(text) -/
theorem call_listS (hc : X.calm = true) : CallR X (.type "list") (fun xs H Q => ∃ z, xs = [.str z] ∧ z.length ≤ sizeLine ∧ ∀ l, H l = none → Q (.ref l) (upd H l (.lst (z.cps.toList.map fun c => V.str ⟨#[c]⟩)))) := by
  intro pins s σ H xs us Q I r h
  obtain ⟨z, rfl, hz, q⟩ := h
  obtain ⟨u, rfl, t, rfl⟩ := vals1 r
  refine call_list_str (I.ok.hd hc) z t (fun h' tk acc c' kp e it => ?_) hz
  have rv : ∀ (xs : List Nat) (acc : List Value), acc.length = xs.length → (∀ (j : Nat) (v : Value), acc[j]? = some v → ∃ (c : Nat) (u : Tok), xs[j]? = some c ∧ v = Value.str ⟨#[c]⟩ u) → Vals (xs.map fun c => V.str ⟨#[c]⟩) acc := by
    intro xs
    induction xs with
    | nil =>
      intro acc hl _
      cases acc with
      | nil => exact .nil
      | cons a r => cases hl
    | cons x xs ih =>
      intro acc hl hi
      cases acc with
      | nil => cases hl
      | cons a r =>
        obtain ⟨c, u, e1, e2⟩ := hi 0 a rfl
        have e1' : x = c := by simpa using e1
        subst e1'
        exact .cons ⟨u, e2⟩ (ih r (by simpa using hl) fun j v hj => by
          obtain ⟨c, u, e1, e2⟩ := hi (j + 1) v (by simpa using hj)
          exact ⟨c, u, by simpa using e1, e2⟩)
  have R : Vals (z.cps.toList.map fun c => V.str ⟨#[c]⟩) acc.toList := rv _ _ (by rw [Array.length_toList, it.1, Array.length_toList]) fun j v hj => by
    obtain ⟨c, u, e1, e2⟩ := it.2 j v (by rw [← Array.getElem?_toList]; exact hj)
    exact ⟨c, u, by rw [Array.getElem?_toList]; exact e1, e2⟩
  refine ⟨.ref s.heap.objs.size, _, I.laid (t' := tk) kp (Nat.le_refl _) (show ObjOk X.prog X.w _ h' _ (.lst _) from ⟨?_, acc.toList, c', R, by rw [Array.toArray_toList]; exact e⟩), rfl, q _ (I.hok.fresh (Nat.le_refl _))⟩
  rw [List.length_map, Array.length_toList]
  exact hz
/-- len(o) by an own __len__ -/
theorem call_lenOwn (F : FnOk X.prog X.w X.K X.mg X.base CX n f fd ps sp) (hb : Binds X.K fd ps []) (hx : Passes CX X E) (o : Own X.K C "__len__" f) (hr : Room (n + 1) X.A) :
    CallR X (.builtin "len") (fun xs H Q => ∃ a dx fs, xs = [.ref a] ∧ H a = some (.ins C dx fs) ∧ sp [.ref a] H (fun v H' => ∃ k : Nat, v = .int k ∧ k ≤ sizeLine ∧ Q (.int k) H') E) := by
  intro pins s σ H xs us Q I r h
  obtain ⟨a, dx, fs, rfl, ha, hs⟩ := h
  obtain ⟨u, rfl, rx⟩ := vals1 r
  cases rx
  obtain ⟨od, J⟩ := inst_at I ha
  obtain ⟨m, hF⟩ := I.fr
  refine PySem.W.len_K hF I.ok.mod.kin J o.find o.fn (thn (run_own (Sub.here hr).in1 F hb hx I (show Vals [V.ref a] [Value.ref a] from .cons rfl .nil) hs) fun v s' q => ?_)
  obtain ⟨y, H', I', ry, k, rfl, hk, q⟩ := q
  obtain ⟨t, rfl⟩ := ry
  have h63 := line63
  exact ⟨⟨by omega, by omega⟩, .int k, H', I'.tok _, ⟨_, rfl⟩, q⟩
/-- v in o, v not in o by an own __contains__ that gives True or False -/
theorem op_inOwn (F : FnOk X.prog X.w X.K X.mg X.base CX n f fd ps sp) (hb : Binds X.K fd ps []) (hx : Passes CX X E) (o : Own X.K C "__contains__" f) (hr : Room n X.A) :
    OpR X (compareOp .In) (fun x y H Q => ∃ a dx fs, y = .ref a ∧ H a = some (.ins C dx fs) ∧ sp [.ref a, x] H (fun v H' => ∃ b, v = .bl b ∧ Q (.bl b) H') E) := by
  intro pins s σ H x y v u Q I rx ry h
  obtain ⟨a, dx, fs, rfl, ha, hs⟩ := h
  cases ry
  obtain ⟨od, J⟩ := inst_at I ha
  obtain ⟨m, hF⟩ := I.fr
  refine PySem.W.in_K hF I.ok.mod.kin J o.find o.fn (thn (run_own (Sub.here hr) F hb hx I (show Vals [V.ref a, x] [Value.ref a, v] from .cons rfl (.cons rx .nil)) hs) fun v s' q => ?_)
  obtain ⟨y, H', I', ry, b, rfl, q⟩ := q
  cases ry
  exact wpAny_truthy_bool ⟨.bl b, H', I', rfl, q⟩
theorem op_notInOwn (F : FnOk X.prog X.w X.K X.mg X.base CX n f fd ps sp) (hb : Binds X.K fd ps []) (hx : Passes CX X E) (o : Own X.K C "__contains__" f) (hr : Room n X.A) :
    OpR X (compareOp .NotIn) (fun x y H Q => ∃ a dx fs, y = .ref a ∧ H a = some (.ins C dx fs) ∧ sp [.ref a, x] H (fun v H' => ∃ b, v = .bl b ∧ Q (.bl (!b)) H') E) := by
  intro pins s σ H x y v u Q I rx ry h
  obtain ⟨a, dx, fs, rfl, ha, hs⟩ := h
  cases ry
  obtain ⟨od, J⟩ := inst_at I ha
  obtain ⟨m, hF⟩ := I.fr
  refine PySem.W.notIn_K hF I.ok.mod.kin J o.find o.fn (thn (run_own (Sub.here hr) F hb hx I (show Vals [V.ref a, x] [Value.ref a, v] from .cons rfl (.cons rx .nil)) hs) fun v s' q => ?_)
  obtain ⟨y, H', I', ry, b, rfl, q⟩ := q
  cases ry
  exact wpAny_truthy_bool ⟨.bl (!b), H', I', rfl, q⟩
/-- o[k] by an own __getitem__ -/
theorem pe_ixOwn {a b : Expr} {ta tb : TE} {pos : Pos} (F : FnOk X.prog X.w X.K X.mg X.base CX n f fd ps sp) (hb : Binds X.K fd ps []) (hx : Passes CX X E) (o : Own X.K C "__getitem__" f) (hf : PySem.W.fnIn X.K f = true) (hr : Room (n + 1) X.A) (hA : PE X a ta) (hB : PE X b tb)
    (hsl : ∀ v u, subscripted b true v u = runValue (.builtin "lifetime.subscript" ⟨[v, u], []⟩) := by intro _ _; rfl) :
    PE X (.Subscript a b pos) (tOp (fun x y H Q => ∃ a dx fs, x = .ref a ∧ H a = some (.ins C dx fs) ∧ sp [.ref a, y] H Q E) ta tb) := by
  refine ⟨fun pins s σ H Q I h => ?_⟩
  refine Subscript_ (binT hA hB I h fun v u s2 x y H2 I2 rx ry q => ?_)
  obtain ⟨a, dx, fs, rfl, ha, hs⟩ := q
  cases rx
  obtain ⟨od, J⟩ := inst_at I2 ha
  obtain ⟨m, hF⟩ := I2.fr
  exact PySem.W.sub_K hF I2.ok.mod.kin J o.find hf o.fn (run_own (Sub.here hr).in1 F hb hx I2 (show Vals [V.ref a, y] [Value.ref a, u] from .cons rfl (.cons ry .nil)) hs) (hsl _ _)
/-- str(o) by an own __str__ -/
theorem call_strOwn (F : FnOk X.prog X.w X.K X.mg X.base CX n f fd ps sp) (hb : Binds X.K fd ps []) (hx : Passes CX X E) (o : Own X.K C "__str__" f) (hr : Room (n + 2) X.A) :
    CallR X (.type "str") (fun xs H Q => ∃ a dx fs, xs = [.ref a] ∧ H a = some (.ins C dx fs) ∧ sp [.ref a] H (fun v H' => ∃ z, v = .str z ∧ Q (.str z) H') E) := by
  intro pins s σ H xs us Q I r h
  obtain ⟨a, dx, fs, rfl, ha, hs⟩ := h
  obtain ⟨u, rfl, rx⟩ := vals1 r
  cases rx
  obtain ⟨od, J⟩ := inst_at I ha
  have sb : Sub X n X.A.in1.in1 := (Sub.in1 (Sub.in1 (Sub.here hr)))
  refine PySem.W.kso_call sb.room.units0 I.kIn J o.find o.fn (thn (run_own sb F hb hx I (show Vals [V.ref a] [Value.ref a] from .cons rfl .nil) hs) fun v s' q => ?_)
  obtain ⟨y, H', I', ry, z, rfl, q⟩ := q
  obtain ⟨t, rfl⟩ := ry
  exact ⟨.str z, H', I', ⟨_, rfl⟩, q⟩
end
end L2

set_option Elab.async false
set_option linter.all false
set_option maxRecDepth 100000
set_option maxHeartbeats 4000000
/-! == and != by an own __eq__ that gives True or False. -/
namespace PySem.W
open PySem PySem.Calls PyProof.Rows Builtin
section
variable {prog : Program} {w : World} {A : Around} {E : Value → Shared → Prop} {s : Shared} {K : Frag} {x C L f : Addr} {h₀ : Heap} {m : Str → Option Value} {ox : Obj} {od : Option Obj} {b tb : Value}
theorem ifBoundB_K {M : Model} {name : Str} {id : String} {args : List Value} {Q : Option Value → Shared → Prop} (X : K.In s.heap) (I : InstAt s.heap x ox C od) (hs : findIn K (.ref C) name = some (some (.builtin id)))
    (hb : ∀ self, bindSpecial (.builtin id) self = pure (.builtin id, [self]))
    (h : wpAny M A (call (.builtin id) (.ref x :: args)) (fun v => Q (some v)) E s) : wpAny M A (callSpecialIfBound? (.ref x) name args) Q E s := by
  simp only [callSpecialIfBound?, bindSpecialIfBound?]
  refine wpAny_holding (wpAny_bind (wpAny_bind (wpAny_bind (I.type.here ((looks_findIn X hs).here ?_)))))
  simp only [hb]
  refine wpAny_bind (wpAny_askSetting (wpAny_ite ?_))
  have fin : wpAny M A (call (.builtin id) ([.ref x] ++ args) >>= fun v => pure (some v)) Q E s := wpAny_bind (wpAny_mono h (fun v s' h' => wpAny_pure h') fun _ _ h' => h')
  split
  · exact wpAny_bind (wpAny_pure (wpAny_pure (by exact fin)))
  · exact wpAny_tryCatch (wpAny_bind (wpAny_pure (wpAny_pure (by exact fin))))
theorem neO_K {Q : Value → Shared → Prop} (hu : A.in1.units < cLine) (X : K.In s.heap) (I : InstAt s.heap x ox C od) (hm : mroIn K C (.type "object") = some true) (hs : findIn K (.ref C) "__eq__" = some (some (.ref f))) (hf : isFn K (.ref f) = true)
    (h : wpAny (model prog w) A.in1 (call (.ref f) [.ref x, b]) (fun v s' => ∃ r, v = .bool r ∧ Q (.bool (!r)) s') E s) : wpAny (model prog w) A (call (.builtin "object.__ne__") [.ref x, b]) Q E s := by
  refine wpAny_call (codeAny_call_builtin F.cmp_object.ne.plain F.cmpEntry_ne (check_slot (i := "object.__ne__") (owner := "object") (n := "__ne__") F.cmpKind_ne F.cmpSplit_ne (I.type.andThen (looks_mroIn X hm)) (F.cmpArgs_ne _ _) ?_))
  unfold Builtin.«object.__ne__»
  refine wpAny_bind (m := slotArgs "__ne__" 1 _) (wpAny_pure ?_)
  refine wpAny_bind (m := cRoomFor _ _) (wpAny_cRoomFor hu ?_)
  refine wpAny_bind (m := callSpecialIfBound? (.ref x) (Str.ofString "__eq__") _) (ifBound_K X I hs hf (wpAny_mono h (fun r s' hq => ?_) fun _ _ y => y))
  obtain ⟨r, rfl, hq⟩ := hq
  exact wpAny_bind (wpAny_truthy_bool (wpAny_pure hq))
theorem neq_K {Q : Value → Shared → Prop} (hu : A.in1.units < cLine) (hu0 : A.units < cLine) (F : Fr h₀ L s.heap m) (X₀ : K.In h₀) (I : InstAt s.heap x ox C od) (hb : Looks (model prog w) s.heap (typeOf b) tb) (hn : notFirst K C tb = true)
    (hne : findIn K (.ref C) "__ne__" = some (some (.builtin "object.__ne__"))) (hm : mroIn K C (.type "object") = some true) (hs : findIn K (.ref C) "__eq__" = some (some (.ref f))) (hf : isFn K (.ref f) = true)
    (h : wpAny (model prog w) A.in1 (call (.ref f) [.ref x, b]) (fun v s' => ∃ r, v = .bool r ∧ Q (.bool (!r)) s') E s) : wpAny (model prog w) A (richCompare .NotEq (.ref x) b) Q E s := by
  have X := X₀.keeps F.keep
  have one : wpAny (model prog w) A (tryCompare (.ref x) (cmpInfo .NotEq).2.1 b) (fun r s' => ∃ v, r = some v ∧ Q v s') E s := by
    unfold tryCompare
    refine wpAny_bind (ifBoundB_K X I (by exact hne) PySem.F.cmp_object.ne.bind ?_)
    refine wpAny_mono (neO_K (Q := fun v s' => ∃ r, v = .bool r ∧ Q (.bool r) s') hu X I hm hs hf (wpAny_mono h (fun v s' hv => ?_) fun _ _ e => e)) (fun v s' hv => ?_) fun _ _ e => e
    · obtain ⟨r, rfl, hq⟩ := hv
      exact ⟨r, rfl, !r, rfl, hq⟩
    · obtain ⟨r, rfl, hq⟩ := hv
      exact wpAny_pure ⟨_, rfl, hq⟩
  unfold richCompare
  simp only [oneThing_ref]
  refine wpAny_holding (wpAny_bind (wpAny_cRoomFor hu0 ?_))
  refine wpAny_bind (I.type.here (wpAny_bind (hb.here ?_)))
  split
  · rename_i q
    have e : subIn K tb (.ref C) = some false := by
      rcases Bool.or_eq_true_iff.mp hn with e | e
      · rw [beq_iff_eq.mp e] at q; simp at q
      · exact beq_iff_eq.mp e
    refine wpAny_bind ((looks_subIn X e).here ?_)
    simp only [Bool.false_eq_true, if_false]
    refine wpAny_bind (wpAny_mono one (fun r s' z => ?_) fun _ _ e => e)
    obtain ⟨v, rfl, hq⟩ := z
    exact wpAny_pure hq
  · refine wpAny_bind (wpAny_pure ?_)
    simp only [Bool.false_eq_true, if_false]
    refine wpAny_bind (wpAny_mono one (fun r s' z => ?_) fun _ _ e => e)
    obtain ⟨v, rfl, hq⟩ := z
    exact wpAny_pure hq
end
end PySem.W
namespace L2
open PySem PySem.Spec PyProof.Rows
section
variable {X : Cx} {n : Nat} {CX : CXT} {C f : Addr} {fd : FuncData} {ps : List Str} {sp : Sp} {E : XK}
def rEqOwn (K : PySem.W.Frag) (C : Addr) (sp : Sp) (E : XK) (g : Bool → Bool) : R2 := fun x y H Q => ∃ a dx fs tb, x = .ref a ∧ H a = some (.ins C dx fs) ∧ TyX K H y tb ∧ PySem.W.notFirst K C tb = true ∧ sp [.ref a, y] H (fun v H' => ∃ b, v = .bl b ∧ Q (.bl (g b)) H') E
theorem op_eqOwn (F : FnOk X.prog X.w X.K X.mg X.base CX n f fd ps sp) (hb : Binds X.K fd ps []) (hx : Passes CX X E) (o : Own X.K C "__eq__" f) (hr : Room n X.A) : OpR X (compareOp .Eq) (rEqOwn X.K C sp E id) := by
  intro pins s σ H x y v u Q I rx ry h
  obtain ⟨a, dx, fs, tb, rfl, ha, ty, hn, hs⟩ := h
  cases rx
  obtain ⟨od, J⟩ := inst_at I ha
  obtain ⟨m, hF⟩ := I.fr
  obtain ⟨P, Z, p, _⟩ := kit_of I ry ty
  refine PySem.W.cmp_K (op := .Eq) hr.units0 hF I.ok.mod.kin J (Z.ty _ _ I.kIn p) hn o.find o.fn (thn (run_own (Sub.here hr) F hb hx I (show Vals [V.ref a, y] [Value.ref a, u] from .cons rfl (.cons ry .nil)) hs) fun v s' q => ?_)
  obtain ⟨y, H', I', ry, b, rfl, q⟩ := q
  cases ry
  exact ⟨.bl b, H', I', rfl, q⟩
theorem op_neOwn (F : FnOk X.prog X.w X.K X.mg X.base CX n f fd ps sp) (hb : Binds X.K fd ps []) (hx : Passes CX X E) (o : Own X.K C "__eq__" f) (hne : PySem.W.findIn X.K (.ref C) "__ne__" = some (some (.builtin "object.__ne__")))
    (hm : PySem.W.mroIn X.K C (.type "object") = some true) (hr : Room (n + 1) X.A) : OpR X (compareOp .NotEq) (rEqOwn X.K C sp E not) := by
  intro pins s σ H x y v u Q I rx ry h
  obtain ⟨a, dx, fs, tb, rfl, ha, ty, hn, hs⟩ := h
  cases rx
  obtain ⟨od, J⟩ := inst_at I ha
  obtain ⟨m, hF⟩ := I.fr
  obtain ⟨P, Z, p, _⟩ := kit_of I ry ty
  refine PySem.W.neq_K hr.in1.units0 hr.units0 hF I.ok.mod.kin J (Z.ty _ _ I.kIn p) hn hne hm o.find o.fn (thn (run_own (Sub.here hr).in1 F hb hx I (show Vals [V.ref a, y] [Value.ref a, u] from .cons rfl (.cons ry .nil)) hs) fun v s' q => ?_)
  obtain ⟨y, H', I', ry, b, rfl, q⟩ := q
  cases ry
  exact ⟨b, rfl, .bl (!b), H', I', rfl, q⟩
end
end L2

set_option Elab.async false
set_option linter.all false
set_option maxRecDepth 100000
set_option maxHeartbeats 4000000
/-! for x in o, by an own __iter__ that gives iter(a tuple). -/
namespace L2
open PySem PySem.Spec PyProof.Rows ItX
abbrev itTObj (l : Addr) : Obj := { cls := .type "tuple_iterator", data := .fields #[.ref l, .int 0 0] }
/-- at it a fresh iterator of the tuple at l -/
def ItT (l it : Addr) : HO := .ext fun h => h.get? it = some (itTObj l)
theorem itT_ok {P : Program} {w : World} {H : Hp} {h : Heap} {l it : Addr} (e : h.get? it = some (itTObj l)) : ObjOk P w H h it (ItT l it) := ⟨e, ⟨_, e⟩, fun h1 h2 q k => k _ q⟩
theorem call_iterTup {prog : Program} {w : World} {A : Around} {E : Value → Shared → Prop} {s : Shared} {l : Addr} {items : Array Value} {Q : Value → Shared → Prop} (hl : s.heap.IsTuple l items) (h : Q (.ref s.heap.objs.size) { s with heap := s.heap.push (itTObj l) }) : wpAny (model prog w) A (call (.builtin "iter") [.ref l]) Q E s := by
  refine Calls.call_function_entry (by decide +kernel) (by decide +kernel) PySem.W.kdk_entry_iter (PySem.W.kdk_args_iter _) ?_
  unfold Builtin.«iter»
  refine wpAny_bind (m := someArgs "iter" 1 2 _) (wpAny_of_eq (a := [Value.ref l]) (by first | rfl | kernel_rfl!) ?_)
  show wpAny _ _ (pyIter (.ref l) >>= _) _ _ _
  refine wpAny_bind (wpAny_pyIter_tuple hl ?_)
  exact wpAny_pure ⟨_, rfl, h⟩
section
variable {X : Cx}
theorem call_iterT : CallR X (.builtin "iter") (fun xs H Q => ∃ (l : Addr) (zs : List V), xs = [.ref l] ∧ SqT X.K H l zs ∧ ∀ it, H it = none → X.s_0.heap.objs.size ≤ it → Q (.ref it) (upd H it (ItT l it))) := by
  intro pins s σ H xs us Q I r h
  obtain ⟨l, zs, rfl, hq, q⟩ := h
  obtain rfl := Vals.ref1 r
  obtain ⟨its, rv, pl, hz⟩ := I.tuple hq
  refine call_iterTup (show s.heap.IsTuple l its.toArray from pl) ?_
  exact ⟨.ref s.heap.objs.size, _, I.laid (t' := s.toks) (fun b u e => Heap.get?_push_of_some _ e) (Nat.le_refl _) (itT_ok (Heap.get?_push_size _ rfl)), rfl, q _ (I.hok.fresh (Nat.le_refl _)) I.sz⟩
variable {n : Nat} {CX : CXT} {C f : Addr} {fd : FuncData} {ps : List Str} {sp : Sp} {E : XK}
/-- a def whose promise may speak of how many objects stand at its entry -/
structure FnN (P : Program) (w : World) (K : PySem.W.Frag) (mg : Str → Option Value) (base : Heap) (CX : CXT) (k : Nat) (f : Addr) (fd : FuncData) (ps : List Str) (sn : Nat → Sp) : Prop where
  many : ∀ m vs H Q E, sn m vs H Q E → vs.length = ps.length
  goes : ∀ (A : Around) (outer : List Env) (s : Shared) (H : Hp) (args : Args) (us : List Value) (vs : List V) (Q : VK) (E : XK), Room k A → Env0 P w K mg base A outer s H → BindsTo s fd args (ps.zip us) → Vals vs us →
    sn s.heap.objs.size vs H Q E → codeAny (model P w) A (.call (.ref f) args) (CR CX outer P w H s Q E) s
theorem fnN_mk {CX : CXT} {P : Program} {w : World} {K : PySem.W.Frag} {mg : Str → Option Value} {base : Heap} {k : Nat} {f : Addr} {x qual : Str} {st : Stmt} {fd : FuncData} {N ps : List Str} {sn : Nat → Sp}
    (F : Fun K x qual st f fd) (S : FnScope N ps (defScope st)) (many : ∀ m vs H Q E, sn m vs H Q E → vs.length = ps.length)
    (body : ∀ (cdv : Value) (A : Around) (outer : List Env) (s : Shared) (H : Hp) (vs : List V) (Q : VK) (E : XK), Room k (A.deeper (envOfC qual (defScope st) s.heap.objs.size f cdv)) → sn s.heap.objs.size vs H Q E →
      ∃ t, PSs (cxOf CX P w K mg base N qual (defScope st) f cdv A outer s H E) (defBody st) t ∧ t { nx := fun _ H' => Q .non H', rt := Q } (start N vs) H) : FnN P w K mg base CX (k + 1) f fd ps sn := by
  obtain ⟨oc, od, kV, doc, pm, an, cdv, ct, osl, rfl, lk, hcd⟩ := F.ex
  refine ⟨many, fun A₁ out s₁ H₁ ar us₁ vs₁ Q₁ E₁ room ev bd rel prom => ?_⟩
  have len₁ := many _ _ _ _ _ prom
  have kin₁ : K.In s₁.heap := ev.mod.kin.keeps (fun a o z => (ev.bs a o z).left)
  have kinds : ∀ y ∈ ps.zip us₁, (defScope st).names.lookup y.1 = some .local ∨ ((defScope st).names.lookup y.1 = some .cell ∧ ((cellsFrom (s₁.heap.objs.size + 1) (defScope st).names []).lookup y.1).isSome = true) := by
    rintro ⟨nm, vl⟩ mem
    rcases S.par nm (List.of_mem_zip mem).1 with z | z
    · exact Or.inl z
    · exact Or.inr ⟨z, PySem.W.cellsFrom_some _ _ _ (Or.inl z)⟩
  refine codeAny_call_function room.depth (kin₁ _ _ lk) rfl S.co S.gen rfl (PySem.W.codeRec_of kin₁ hcd) (bd _ _ _ _ ?_)
  refine wpAny_newFunctionEnv_cells S.kind kinds (fun e₁ is₁ s₂ made => ?_)
  subst is₁
  refine ⟨Heap.NoLimit.keeps (ev.mod.nolimit.keeps fun a o z => (ev.bs a o z).left) made.toInCall.keep, codeAny_func ?_⟩
  obtain ⟨t₁, term, reads⟩ := body cdv A₁ out s₁ H₁ vs₁ Q₁ E₁ (room.deeper _) prom
  have inv₁ := inv_start (CX := CX) (P := P) (w := w) (mg := mg) (base := base) (E := E₁) S room.hd ev len₁ rel made
  refine wpAny_mono (term.run [] s₂ (start N vs₁) H₁ _ inv₁ reads) (fun flow s₃ done => ?_) (fun _ _ z => z)
  cases flow with
  | ret u₁ =>
    obtain ⟨v₁, _, H₂, J, rv, q⟩ := done
    exact ⟨v₁, H₂, J.os, J.bare, J.base, J.hok, rv, q⟩
  | next =>
    obtain ⟨_, H₂, J, q⟩ := done
    exact ⟨V.non, H₂, J.os, J.bare, J.base, J.hok, rfl, q⟩
  | brk => exact (done.elim fun _ z => z.elim fun _ z => z.2).elim
  | cont => exact (done.elim fun _ z => z.elim fun _ z => z.2).elim
variable {sn : Nat → Sp}
theorem run_N {A : Around} {pins : List (Addr × Obj)} {σ : St} {H : Hp} {s : Shared} {Q : VK} {us : List Value} {vs : List V} (sb : Sub X n A) (F : FnN X.prog X.w X.K X.mg X.base CX n f fd ps sn) (hb : Binds X.K fd ps []) (hx : Passes CX X E)
    (I : Inv X pins σ H s) (r : Vals vs us) (h : sn s.heap.objs.size vs H Q E) : wpAny (model X.prog X.w) A (call (.ref f) us) (EP X pins σ Q) X.xe s := by
  have e0 : Env0 X.prog X.w X.K X.mg X.base A X.stack s H := by
    have e := I.env0
    exact ⟨by rw [sb.fr]; exact e.frames, e.mod, e.bs, e.bsz, e.funs, e.frf, e.hok, e.bare⟩
  have hl := F.many _ _ _ _ _ h
  have hl2 : us.length = ps.length := by rw [← r.length]; exact hl
  refine wpAny_call (codeAny_mono (F.goes A X.stack s H ⟨us, []⟩ us vs Q E sb.room e0 (by
    have := hb s us I.kIn (by simpa using hl2)
    simpa using this) r h) fun r s' hq => ?_)
  cases r with
  | error e => exact hx pins σ H s e s' I hq
  | ok fl =>
    cases fl with
    | ret w => exact I.after hq
    | next => exact False.elim hq
    | brk => exact False.elim hq
    | cont => exact False.elim hq
def iOwn (K : PySem.W.Frag) (C : Addr) (m : Nat) (sn : Nat → Sp) (E : XK) (tl : TE) : TI := fun σ H R => tl σ H fun x H1 => ∃ a dx fs, x = .ref a ∧ H1 a = some (.ins C dx fs) ∧
  ∀ k, m ≤ k → sn k [.ref a] H1 (fun v H' => ∃ it t, v = .ref it ∧ k ≤ it ∧ H' it = some (ItT t it) ∧ R (Itt K t) (dropH H' it)) E
theorem pi_own {tg l : Expr} {tl : TE} (F : FnN X.prog X.w X.K X.mg X.base CX n f fd ps sn) (hb : Binds X.K fd ps []) (hx : Passes CX X E) (o : Own X.K C "__iter__" f) (hr : Room n X.A) (hl : PE X l tl) : PI X tg l (iOwn X.K C X.s_0.heap.objs.size sn E tl) := by
  refine ⟨fun pins s σ H R I h => ?_⟩
  refine thn (hl.run pins s σ H _ I h) fun v s1 ⟨x, H1, I1, r1, q1⟩ => ?_
  obtain ⟨a, dx, fs, rfl, ha, hs⟩ := q1
  cases r1
  obtain ⟨od, J⟩ := inst_at I1 ha
  obtain ⟨m, hF⟩ := I1.fr
  refine PySem.W.owit_iter hF I1.ok.mod.kin J o.find o.fn (thn (run_N (Sub.here hr) F hb hx I1 (show Vals [V.ref a] [Value.ref a] from .cons rfl .nil) (hs s1.heap.objs.size I1.sz)) fun v s' q => ?_)
  obtain ⟨y, H', I', ry, ⟨it, t, rfl, hn, hi, q⟩⟩ := q
  cases ry
  have hy := Nat.le_trans I1.sz hn
  have hit : s'.heap.get? it = some (itTObj t) := (I'.hok it _ hi).1
  unfold PySem.W.OwitIt
  refine wpAny_specialOf (T := "tuple_iterator") (v := .ref it) ⟨_, hit, rfl⟩ PySem.F.slot_tuple_iterator_next.lookup ?_
  refine ⟨it, [it], _, _, dropH H' it, rfl, inv_drop I' hi, turn_tuple t _, ⟨_, hit, rfl, rfl⟩, fun b hb => ?_, q⟩
  have e : b = it := by simpa using hb
  subst e
  exact inv_fp I' hi hy
end
end L2

set_option Elab.async false
set_option linter.all false
set_option maxRecDepth 100000
set_option maxHeartbeats 4000000
/-! {**a, **b}: two dicts of ints and texts, one behind the other, into a new one. -/
namespace PySem
open PyProof.Rows
section
variable {prog : Program} {w : World} {A : Around} {E : Value → Shared → Prop} {s : Shared} {K : Type} [DecidableEq K] {knd : KeyKind prog w K}
theorem put_pairs {a : Addr} {old : List (K × Value)} {c : K} {u v : Value} {R : Unit → Shared → Prop} (isC : knd.is c u = true) (D : s.heap.DictOf knd a old)
    (next : ∀ hp, hp.DictOf knd a (stored old c v) → Heap.SameBut a s.heap hp → R () { s with heap := hp }) (few : old.length ≤ sizeLine) :
    wpAny (model prog w) A (dictPut a (knd.hash c) u v) R E s := by
  obtain ⟨ob, es, ep, at_, exact_, dat, keyed, prs, uniq⟩ := D
  have szs : es.size ≤ sizeLine := by
    have l1 := prs.length
    have l2 : es.toList.length = es.size := by simp
    omega
  unfold dictPut
  refine wpAny_bind (wpAny_dictFind_of isC at_ dat keyed ?_)
  have same : (es.findIdx? fun e => knd.is c e.key) = old.findIdx? fun kv => decide (kv.1 = c) := by
    have z := prs.findIdx c
    obtain ⟨lst⟩ := es
    simpa using z
  cases found : es.findIdx? fun e => knd.is c e.key with
  | some j =>
    have there : (old.any fun kv => decide (kv.1 = c)) = true := any_of_findIdx_some (same ▸ found)
    refine wpAny_updateDict at_ dat (next _ ⟨_, _, ep, Heap.get?_update_self _ at_ (Obj.isFreed_of_dict (Obj.data_mapDict dat _)), exact_.mapDict _, Obj.data_mapDict dat _, keyed.modify _ _, ?_, ?_⟩ (Heap.SameBut.update ..))
    · have inList : (es.toList.findIdx? fun e => knd.is c e.key) = some j := by
        rw [← found]
        obtain ⟨lst⟩ := es
        simp
      have z := prs.modify uniq inList v
      rw [stored, if_pos there]
      obtain ⟨lst⟩ := es
      simpa using z
    · rw [stored, if_pos there, keys_map_store]
      exact uniq
  | none =>
    have notIn : c ∉ old.map (·.1) := not_mem_of_findIdx_none (same ▸ found)
    have gone : ¬ (old.any fun kv => decide (kv.1 = c)) = true := fun z => by
      obtain ⟨kv, mem, eq⟩ := List.any_eq_true.mp z
      exact notIn (List.mem_map.mpr ⟨kv, mem, of_decide_eq_true eq⟩)
    refine wpAny_updateDictKeys (hz := szs) at_ dat (next _ ⟨_, _, ep + 1, Heap.get?_update_self _ at_ (Obj.isFreed_of_dict (Obj.data_mapDictKeys dat _)), exact_.mapDictKeys _, Obj.data_mapDictKeys dat _, keyed.push isC _, ?_, ?_⟩ (Heap.SameBut.update ..))
    · have z := prs.append isC (knd.hash c) v
      rw [stored, if_neg gone]
      obtain ⟨lst⟩ := es
      simpa using z
    · rw [stored, if_neg gone, List.map_append]
      refine List.nodup_append.mpr ⟨uniq, by simp, fun x hx y hy => ?_⟩
      have ey : y = c := by simpa using hy
      intro exy
      exact notIn (by rw [← ey, ← exy]; exact hx)
end
section
variable {prog : Program} {w : World} {A : Around} {E : Value → Shared → Prop} {s : Shared}
open L2
theorem dict_sub : isSubtype (.type "dict") (.type "dict") = pure true := by rw [isSubtype_type]; kernel_rfl
theorem mergeMapping_mix {d o : Addr} {kvs more : List (Key × Value)} {Q : Unit → Shared → Prop} (hdo : d ≠ o) (hoS : (o == sysModules) = false)
    (hd : s.heap.DictOf (mixKind prog w) d kvs) (ho : s.heap.DictOf (mixKind prog w) o more)
    (hQ : ∀ h', h'.DictOf (mixKind prog w) d (merged kvs more) → Heap.SameBut d s.heap h' → Q () { s with heap := h' }) (hsz : kvs.length + more.length ≤ sizeLine) :
    wpAny (model prog w) A (mergeMapping d (.ref o) false) Q E s := by
  obtain ⟨oo, eso, epo, hoo, hco, hdo', hko, hpo, hno⟩ := id ho
  obtain ⟨od, esd, epd, hod, hcd, hdd, _⟩ := id hd
  have hlen : more.length = eso.size := by
    have z := hpo.length
    simpa using z.symm
  have loop : wpAny (model prog w) A (do
      let l ← dictEntries o
      let epoch ← dictEpoch o
      forIn (List.range l.size) PUnit.unit fun i (_ : PUnit) => (do
        let l' ← dictEntries o
        match l'[i]? with
          | some e => do
            holding [e.key, e.val] (dictPut d e.hash e.key e.val)
            let ep' ← dictEpoch o
            if (ep' != epoch) = true then do
                (unsupported "dict.changed-during-merge" : Sem PUnit)
                pure (ForInStep.yield PUnit.unit)
              else pure (ForInStep.yield PUnit.unit)
          | _ => do
            (unsupported "dict.changed-during-merge" : Sem PUnit)
            pure (ForInStep.yield PUnit.unit) : Sem (ForInStep PUnit))
      pure ()) Q E s := by
    refine wpAny_bind (wpAny_dictEntries hoo hdo' ?_)
    refine wpAny_bind (wpAny_dictEpoch hoo hdo' ?_)
    refine wpAny_bind ?_
    refine wpAny_forIn_list _ (fun left _ t => ∃ hp j, t = { s with heap := hp } ∧ left = (List.range eso.size).drop j ∧ j ≤ eso.size ∧ hp.DictOf (mixKind prog w) d (merged kvs (more.take j)) ∧ hp.get? o = some oo ∧ Heap.SameBut d s.heap hp) _ ?_ ?_ _ _
      ⟨s.heap, 0, rfl, by simp, Nat.zero_le _, by simpa [merged] using hd, hoo, Heap.SameBut.refl _ _⟩
    · rintro y left b t ⟨hp, j, rfl, hr, hj, hdj, hoj, hsb⟩
      have hlt : j < eso.size := by
        rcases Nat.lt_or_ge j eso.size with z | z
        · exact z
        · rw [List.drop_of_length_le (by rw [List.length_range]; exact z)] at hr
          cases hr
      have hd1 : (List.range eso.size).drop j = j :: (List.range eso.size).drop (j + 1) := by
        rw [List.drop_eq_getElem_cons (by rw [List.length_range]; exact hlt), List.getElem_range]
      rw [hd1] at hr
      obtain ⟨rfl, hleft⟩ : y = j ∧ left = (List.range eso.size).drop (j + 1) := by
        injection hr with z1 z2
        exact ⟨z1, z2⟩
      refine wpAny_bind (wpAny_dictEntries hoj hdo' ?_)
      rw [Array.getElem?_eq_getElem hlt]
      have hym : y < more.length := by rw [hlen]; exact hlt
      obtain ⟨isK, isV⟩ := hpo.get? (e := eso[y]) (by simp [hlt]) (List.getElem?_eq_getElem hym)
      obtain ⟨c, isC, isH⟩ := hko eso[y] (Array.getElem_mem hlt)
      have ec : c = more[y].1 := (mixKind prog w).inj _ _ _ isC isK
      show wpAny _ _ (holding [eso[y].key, eso[y].val] (dictPut d eso[y].hash eso[y].key eso[y].val) >>= _) _ _ _
      rw [isH, isV]
      have few : (merged kvs (more.take y)).length ≤ sizeLine := by
        have z1 := merged_length_le kvs (more.take y)
        have z2 : (more.take y).length ≤ more.length := by rw [List.length_take]; omega
        omega
      refine wpAny_bind (wpAny_holding (put_pairs isC hdj (fun hp2 hd2 hs2 => ?_) few))
      have ho2 : hp2.get? o = some oo := (hs2.2 o (Ne.symm hdo)).trans hoj
      refine wpAny_bind (wpAny_dictEpoch ho2 hdo' ?_)
      rw [if_neg (by simp)]
      refine wpAny_pure ⟨hp2, y + 1, rfl, hleft, hlt, ?_, ho2, hsb.trans hs2⟩
      rw [merged_take_succ kvs more y more[y] (List.getElem?_eq_getElem hym), ← ec]
      exact hd2
    · rintro b t ⟨hp, j, rfl, hr, hj, hdj, hoj, hsb⟩
      have hje : j = eso.size := by
        rcases Nat.lt_or_ge j eso.size with z | z
        · have e := congrArg List.length hr
          rw [List.length_drop, List.length_range] at e
          simp at e
          omega
        · exact Nat.le_antisymm hj z
      refine wpAny_pure (hQ hp ?_ hsb)
      rw [hje, ← hlen, List.take_length] at hdj
      exact hdj
  unfold mergeMapping
  refine wpAny_bind (wpAny_isInstance (T := "dict") (b := true) ho.typeIs dict_sub ?_)
  simp only [if_true]
  refine wpAny_bind (wpAny_specialOf (T := "dict") (v := .ref o) ho.typeIs PySem.F.slot_dict_iter.lookup (wpAny_bind (wpAny_pure ?_)))
  rw [show (some (Value.builtin "dict.__iter__") == some (Value.builtin "dict.__iter__")) = true from beq_self_eq_true _]
  dsimp only
  rw [if_neg (by rw [hoS]; exact Bool.false_ne_true)]
  refine wpAny_bind (wpAny_dictEntries hod hdd ?_)
  split
  · refine wpAny_bind (wpAny_dictEntries hoo hdo' ?_)
    refine wpAny_bind ?_
    rw [← Array.forIn_toList]
    refine wpAny_forIn_list _ (fun (left : List DictEntry) _ t => t = s ∧ ∀ e ∈ left, ∃ c : Key, keyIs c e.key = true) _ ?_ ?_ _ _ ⟨rfl, fun e he => ?_⟩
    · rintro e left b t ⟨rfl, all⟩
      obtain ⟨c, hc⟩ := all e List.mem_cons_self
      have more' : ∀ e ∈ left, ∃ c : Key, keyIs c e.key = true := fun e he => all e (List.mem_cons_of_mem _ he)
      rcases keyIs_shape hc with ⟨i, u, _, ek⟩ | ⟨z, u, _, ek⟩
      · rw [ek]
        exact wpAny_pure ⟨rfl, more'⟩
      · rw [ek]
        exact wpAny_pure ⟨rfl, more'⟩
    · rintro b t ⟨rfl, _⟩
      exact loop
    · obtain ⟨c, hc, _⟩ := hko e (by simpa using he)
      exact ⟨c, hc⟩
  · exact loop
end
end PySem

set_option Elab.async false
set_option linter.all false
set_option maxRecDepth 100000
set_option maxHeartbeats 4000000
namespace L2
open PySem PySem.Spec PyProof.Rows
/-- {**a, **b}: a new dict stands empty at p, the first one's pairs come into it, then the second one's -/
def tMerge2 (t1 t2 : TE) : TE := fun σ H Q => ∀ p, H p = none → t1 σ (upd H p (.dK [])) fun x H1 => ∃ a kvs, x = .ref a ∧ a ≠ p ∧ H1 p = some (.dK []) ∧ Rd H1 a (.dK kvs) ∧ kvs.length ≤ 1000 ∧
  t2 σ (upd H1 p (.dK (mergeK [] kvs))) fun y H2 => ∃ b acc more, y = .ref b ∧ b ≠ p ∧ H2 p = some (.dK acc) ∧ acc.length ≤ 1000 ∧ Rd H2 b (.dK more) ∧ more.length ≤ 1000 ∧ Q (.ref p) (upd H2 p (.dK (mergeK acc more)))
section
variable {X : Cx}
theorem merge_in {pins : List (Addr × Obj)} {σ : St} {H : Hp} {s : Shared} {p a : Addr} {acc kvs : List (Key × V)} {R : Unit → Shared → Prop} {E : Value → Shared → Prop} {A : Around} (I : Inv X pins σ H s) (ne : a ≠ p) (hp : H p = some (.dK acc)) (ha : Rd H a (.dK kvs))
    (l1 : acc.length ≤ 1000) (l2 : kvs.length ≤ 1000) (k : ∀ s', Inv X pins σ (upd H p (.dK (mergeK acc kvs))) s' → R () s') : wpAny (model X.prog X.w) A (mergeMapping p (.ref a) false) R E s := by
  obtain ⟨z, hd, vs, r, dd⟩ := dk_of I.hok hp
  obtain ⟨z2, hd2, ws, r2, dd2⟩ := dk_rd I.hok ha
  have e1 : vs.length = acc.length := (Paired.length r).symm
  have e2 : ws.length = kvs.length := (Paired.length r2).symm
  refine mergeMapping_mix (Ne.symm ne) hd2 dd dd2 (fun h' dd' sb => k _ ?_) (by rw [sizeLine_eq]; omega)
  have hz : (mergeK acc kvs).length ≤ sizeLine := by
    have h1 := length_mergeK kvs acc
    rw [sizeLine_eq]; omega
  have he : ∃ q, h'.get? p = some q := let ⟨q, _, _, hq, _⟩ := dd'; ⟨q, hq⟩
  exact d_write I (by rw [hp]; exact True.intro) sb he (dk_new hz hd (r2.merge r) dd')
theorem pe_merge2 {e1 e2 : Expr} {t1 t2 : TE} {pos : Pos} (h1 : PE X e1 t1) (h2 : PE X e2 t2) : PE X (.Dict [none, none] [e1, e2] pos) (tMerge2 t1 t2) := by
  refine ⟨fun pins s σ H Q I q => ?_⟩
  have hn := I.hok.fresh (Nat.le_refl s.heap.objs.size)
  have I1 := I.laid (a := s.heap.objs.size) (o := .dK []) (h' := s.heap.push { cls := .type "dict", data := .dict #[] }) (t' := s.toks) (fun _ _ q => Heap.get?_push_of_some _ q) (Nat.le_refl _) (dk_empty s.heap I.big)
  rw [arm_eval_Dict]
  refine wpAny_bind (wpAny_standAt ?_)
  show wpAny _ _ (dictDisplay [(none, do let x ← eval e1 X.env; standAt pos; pure x), (none, do let x ← eval e2 X.env; standAt pos; pure x)]) _ _ _
  unfold dictDisplay
  simp only [List.forIn_cons, List.forIn_nil, List.isEmpty_nil, if_true]
  refine wpAny_bind (wpAny_bind (wpAny_bind (wpAny_pure ?_)))
  dsimp only
  refine wpAny_bind (wpAny_alloc ?_)
  refine wpAny_bind (wpAny_holding (wpAny_bind (thn (h1.run pins _ σ _ _ I1 (q _ hn)) fun u s1 ⟨x, H1, I2, r1, a, kvs, ex, ne, e0, ra, l1, q1⟩ => ?_)))
  subst ex
  cases r1
  refine wpAny_bind (wpAny_standAt (wpAny_pure ?_))
  refine wpAny_bind (wpAny_onRaise (wpAny_tryCatch (wpAny_onRaise (wpAny_holding (merge_in I2 ne e0 ra (by simp) l1 fun s2 I3 => ?_)))))
  refine wpAny_pure ?_
  dsimp only
  simp only [List.isEmpty_nil, if_true]
  refine wpAny_bind (wpAny_bind (wpAny_pure ?_))
  dsimp only
  refine wpAny_bind (wpAny_pure ?_)
  refine wpAny_bind (wpAny_holding (wpAny_bind (thn (h2.run pins _ σ _ _ I3 q1) fun u s3 ⟨y, H2, I4, r2, b, acc, more, ey, ne2, e1', l2, rb, l3, q2⟩ => ?_)))
  subst ey
  cases r2
  refine wpAny_bind (wpAny_standAt (wpAny_pure ?_))
  refine wpAny_bind (wpAny_onRaise (wpAny_tryCatch (wpAny_onRaise (wpAny_holding (merge_in I4 ne2 e1' rb l2 l3 fun s4 I5 => ?_)))))
  refine wpAny_pure ?_
  dsimp only
  refine wpAny_pure ?_
  simp only [List.isEmpty_nil, if_true]
  refine wpAny_bind (wpAny_pure ?_)
  dsimp only
  exact wpAny_pure ⟨.ref _, _, I5, rfl, q2⟩
end
end L2

set_option Elab.async false
set_option linter.all false
set_option maxRecDepth 100000
set_option maxHeartbeats 4000000
namespace L2
open PySem PySem.Spec PyProof.Rows
/-- a def of the text, by its name, without defaults -/
structure Df (P : Program) (w : World) (K : PySem.W.Frag) (mg : Str → Option Value) (base : Heap) (k : Nat) (x : Str) (sp : Sp) : Prop where
  ex : ∃ (f : Addr) (fd : FuncData) (ps : List Str), FnOk P w K mg base CX0 k f fd ps sp ∧ mg x = some (.ref f) ∧ PySem.W.keepIn K (.ref f) = true ∧ Binds K fd ps []
/-- a method of the text's own, by its address -/
structure Mf (P : Program) (w : World) (K : PySem.W.Frag) (mg : Str → Option Value) (base : Heap) (k : Nat) (C : Addr) (m : Str) (sp : Sp) : Prop where
  ex : ∃ (f : Addr) (fd : FuncData) (ps : List Str), FnOk P w K mg base CX0 k f fd ps sp ∧ Meth K C m f ∧ Own K C m f ∧ PySem.W.fnIn K f = true ∧ Binds K fd ps []
section
variable {X : Cx} {k j : Nat} {C : Addr} {x m : Str} {sp : Sp} {p pos apos : Pos} {e o : Expr} {es : List Expr} {ta tb : TE} {t : TA}
theorem pe_c (c : Df X.prog X.w X.K X.mg X.base k x sp) (hr : Room j X.A) (hk : k ≤ j) (hg : Gl X x) (ha : PA X (e :: es) t)
    (hdb : (x == ("__debug__" : Str)) = false := by decide) (he : starEach (e :: es) X.env = (false, eval e X.env) :: starEach es X.env := by rfl) (hpl : (backTo pos (starEach es X.env)).any (·.1) = false := by rfl) :
    PE X (.Call (.Name x p) (e :: es) [] pos) (tCall sp [] E0 t) := by
  obtain ⟨f, fd, ps, F, hm, kp, b⟩ := c.ex
  exact pe_call F (hr.mono hk) hg hm kp b .nil pass0 ha hdb he hpl
theorem op_inO (c : Mf X.prog X.w X.K X.mg X.base k C "__contains__" sp) (hr : Room j X.A) (hk : k ≤ j) :
    OpR X (compareOp .In) (fun x y H Q => ∃ a dx fs, y = .ref a ∧ H a = some (.ins C dx fs) ∧ sp [.ref a, x] H (fun v H' => ∃ b, v = .bl b ∧ Q (.bl b) H') E0) := by
  obtain ⟨f, fd, ps, F, _, o, _, b⟩ := c.ex
  exact op_inOwn F b pass0 o (hr.mono hk)
theorem op_notInO (c : Mf X.prog X.w X.K X.mg X.base k C "__contains__" sp) (hr : Room j X.A) (hk : k ≤ j) :
    OpR X (compareOp .NotIn) (fun x y H Q => ∃ a dx fs, y = .ref a ∧ H a = some (.ins C dx fs) ∧ sp [.ref a, x] H (fun v H' => ∃ b, v = .bl b ∧ Q (.bl (!b)) H') E0) := by
  obtain ⟨f, fd, ps, F, _, o, _, b⟩ := c.ex
  exact op_notInOwn F b pass0 o (hr.mono hk)
theorem call_lenO (c : Mf X.prog X.w X.K X.mg X.base k C "__len__" sp) (hr : Room j X.A) (hk : k + 1 ≤ j) :
    CallR X (.builtin "len") (fun xs H Q => ∃ a dx fs, xs = [.ref a] ∧ H a = some (.ins C dx fs) ∧ sp [.ref a] H (fun v H' => ∃ k : Nat, v = .int k ∧ k ≤ sizeLine ∧ Q (.int k) H') E0) := by
  obtain ⟨f, fd, ps, F, _, o, _, b⟩ := c.ex
  exact call_lenOwn F b pass0 o (hr.mono hk)
theorem call_strO (c : Mf X.prog X.w X.K X.mg X.base k C "__str__" sp) (hr : Room j X.A) (hk : k + 2 ≤ j) :
    CallR X (.type "str") (fun xs H Q => ∃ a dx fs, xs = [.ref a] ∧ H a = some (.ins C dx fs) ∧ sp [.ref a] H (fun v H' => ∃ z, v = .str z ∧ Q (.str z) H') E0) := by
  obtain ⟨f, fd, ps, F, _, o, _, b⟩ := c.ex
  exact call_strOwn F b pass0 o (hr.mono hk)
theorem pe_ixO {a b : Expr} (c : Mf X.prog X.w X.K X.mg X.base k C "__getitem__" sp) (hr : Room j X.A) (hk : k + 1 ≤ j) (hA : PE X a ta) (hB : PE X b tb)
    (hsl : ∀ v u, subscripted b true v u = runValue (.builtin "lifetime.subscript" ⟨[v, u], []⟩) := by intro _ _; rfl) :
    PE X (.Subscript a b pos) (tOp (fun x y H Q => ∃ a dx fs, x = .ref a ∧ H a = some (.ins C dx fs) ∧ sp [.ref a, y] H Q E0) ta tb) := by
  obtain ⟨f, fd, ps, F, _, o, fi, b⟩ := c.ex
  exact pe_ixOwn F b pass0 o fi (hr.mono hk) hA hB hsl
theorem op_eqO (c : Mf X.prog X.w X.K X.mg X.base k C "__eq__" sp) (hr : Room j X.A) (hk : k ≤ j) : OpR X (compareOp .Eq) (rEqOwn X.K C sp E0 id) := by
  obtain ⟨f, fd, ps, F, _, o, _, b⟩ := c.ex
  exact op_eqOwn F b pass0 o (hr.mono hk)
theorem op_neO (c : Mf X.prog X.w X.K X.mg X.base k C "__eq__" sp) (hne : PySem.W.findIn X.K (.ref C) "__ne__" = some (some (.builtin "object.__ne__"))) (hm : PySem.W.mroIn X.K C (.type "object") = some true) (hr : Room j X.A) (hk : k + 1 ≤ j) :
    OpR X (compareOp .NotEq) (rEqOwn X.K C sp E0 not) := by
  obtain ⟨f, fd, ps, F, _, o, _, b⟩ := c.ex
  exact op_neOwn F b pass0 o hne hm (hr.mono hk)
end
end L2

set_option Elab.async false
set_option linter.all false
set_option maxRecDepth 100000
set_option maxHeartbeats 4000000
/-! The rules whose readings name X.K, with K said: for what stands in a comprehension's block. -/
namespace L2
open PySem PySem.Spec PyProof.Rows
section
variable {X : Cx} {K : PySem.W.Frag} {o e a b : Expr} {es : List Expr} {to ta tb : TE} {t : TA} {name f : Str} {apos cpos pos : Pos} {T id : String} {r : V → List V → Hp → VK → Prop}
theorem pe_bm0K (hK : X.K = K) (pa : PlainAttrs T) (slot : Slot T name id) (hty : typeOf (.builtin id) = pure (.type "method_descriptor")) (hm : MtR X id r) (ho : PE X o to) (hbase : attributeBase o name X.env (eval o X.env) = eval o X.env := by rfl) (hline : (apos.endLine == cpos.line) = true := by rfl) : PE X (.Call (.Attribute o name apos) [] [] cpos) (tBM0 K T r to) := by
  subst hK
  exact pe_bm0 pa slot hty hm ho hbase hline
theorem pe_bmK (hK : X.K = K) (pa : PlainAttrs T) (slot : Slot T name id) (hty : typeOf (.builtin id) = pure (.type "method_descriptor")) (hm : MtR X id r) (ho : PE X o to) (ha : PA X (e :: es) t) (hbase : attributeBase o name X.env (eval o X.env) = eval o X.env := by rfl) (hfew : ((backTo cpos (starEach (e :: es) X.env)).all (fun x => !x.1) && (backToKw cpos (keywordEach [] X.env)).all (fun x => x.1.isSome) && decide ((e :: es).length + ([] : List Keyword).length + (if ([] : List Keyword).isEmpty then 0 else 1) < 30)) = true := by rfl) (hline : (apos.endLine == cpos.line) = true := by rfl) (hs : starEach (e :: es) X.env = (false, eval e X.env) :: starEach es X.env := by rfl) (hplain : (backTo cpos (starEach es X.env)).any (·.1) = false := by rfl) :
    PE X (.Call (.Attribute o name apos) (e :: es) [] cpos) (tBM K T r to t) := by
  subst hK
  exact pe_bm pa slot hty hm ho ha hbase hfew hline hs hplain
theorem pe_fldK (hK : X.K = K) (he : PE X e ta) (hb : attributeBase e f X.env (eval e X.env) = eval e X.env) : PE X (.Attribute e f pos) (tFld K ta f) := by
  subst hK
  exact pe_fld he hb
def rLenSeq (K : PySem.W.Frag) : List V → Hp → VK → Prop := fun xs H Q => ∃ p ys, xs = [.ref p] ∧ (SqL K H p ys ∨ SqT K H p ys) ∧ Q (.int ys.length) H
theorem call_len_seqK (hK : X.K = K) : CallR X (.builtin "len") (rLenSeq K) := by
  subst hK
  exact call_len_seq
theorem ix_listK (hK : X.K = K) : IxR X (rIxL K) := by
  subst hK
  exact ix_list
theorem ix_tupK (hK : X.K = K) : IxR X (rIxT K) := by
  subst hK
  exact ix_tup
theorem sl_listK (hK : X.K = K) : SlR X (rSlL K) := by
  subst hK
  exact sl_list
theorem op_neDK (hK : X.K = K) (hu : X.A.units + 64 < cLine) : OpR X (compareOp .NotEq) (rNeD K) := by
  subst hK
  exact op_neD hu
theorem op_eqDK (hK : X.K = K) (hu : X.A.units + 64 < cLine) : OpR X (compareOp .Eq) (rEqD K) := by
  subst hK
  exact op_eqD hu
def rListOf (K : PySem.W.Frag) : List V → Hp → VK → Prop := fun xs H Q => ∃ p ys, xs = [.ref p] ∧ (SqL K H p ys ∨ SqT K H p ys) ∧ ∀ l, H l = none → Q (.ref l) (upd H l (.lst ys))
theorem call_list_ofK (hK : X.K = K) : CallR X (.type "list") (rListOf K) := by
  subst hK
  exact call_list_of
def rJoin (K : PySem.W.Frag) : V → List V → Hp → VK → Prop := fun x xs H Q => ∃ a p, ∃ ys : List Str, x = .str a ∧ xs = [.ref p] ∧ (SqL K H p (ys.map V.str) ∨ SqT K H p (ys.map V.str)) ∧ (ys.map (·.length)).sum + ys.length * a.length ≤ 16777216 ∧ Q (.str (Txt.join a ys)) H
theorem pe_joinK (hK : X.K = K) (ho : PE X o to) (he : PE X e ta) (hs : starEach [e] X.env = [(false, eval e X.env)] := by rfl) (hbase : attributeBase o "join" X.env (eval o X.env) = eval o X.env := by rfl) (hline : (apos.endLine == pos.line) = true := by rfl) : PE X (.Call (.Attribute o "join" apos) [e] [] pos) (tM1 (rJoin K) to ta) := by
  subst hK
  exact pe_join ho he hs hbase hline
theorem call_strS : CallR X (.type "str") (fun xs H Q => ∃ a, xs = [.str a] ∧ Q (.str a) H) := SkE.call_str_str
def rTupleOf (K : PySem.W.Frag) : List V → Hp → VK → Prop := fun xs H Q => ∃ p ys, xs = [.ref p] ∧ ((SqL K H p ys ∧ ∀ l, H l = none → Q (.ref l) (upd H l (.tup ys))) ∨ (SqT K H p ys ∧ Q (.ref p) H))
theorem call_tuple_ofK (hK : X.K = K) : CallR X (.type "tuple") (rTupleOf K) := by
  subst hK
  exact call_tuple_of
end
end L2

set_option Elab.async false
set_option linter.all false
set_option maxRecDepth 100000
set_option maxHeartbeats 4000000
namespace L2
open PySem PySem.Spec PyProof.Rows
/-- a name of the module holds a value -/
def GV (mg : Str → Option Value) (x : Str) (v : V) : Prop := ∃ u, mg x = some u ∧ RelV v u
theorem pe_gv {X : Cx} {x : Str} {v : V} {pos : Pos} (h : GV X.mg x v) (hg : Gl X x) (hd : (x == ("__debug__" : Str)) = false := by decide) : PE X (.Name x pos) (tC v) := by
  obtain ⟨u, h1, h2⟩ := h
  exact pe_glob hg h1 h2 hd
theorem pj_nil {X : Cx} : PJ X [] [] := .nil
theorem pj_cons {X : Cx} {e : Expr} {t : TE} {es : List Expr} {ts : List TE} (h : PE X e t) (r : PJ X es ts) : PJ X (e :: es) (t :: ts) := .cons h r
/-- a dict comprehension over what a Walk tells -/
theorem dc_it {J : It} {m : Nat} {G : Hp → Prop} {Y : Nat → Hp → V → Hp → Prop} (w : Walk J m G Y) {g : TG} {tt : TT} {tk tv : TE} {own : List Nat} {σ : St} {H1 : Hp} {D : Addr} {Qd : Hp → Prop} (Pv : Nat → Hp → Prop) (start : Pv 0 (upd H1 D (.dK []))) (keeps : ∀ i H, i ≤ m → Pv i H → G H)
    (turn : ∀ i x H H', i < m → Pv i H → Y i H x H' → g x (wipe σ own) H' fun σ2 H2 => wipe σ2 own = wipe σ own ∧ tt σ2 H2 fun b H3 =>
      if b = true then tk σ2 H3 fun y H4 => tv σ2 H4 fun z H5 => ∃ kvs k, y = kV k ∧ H5 D = some (.dK kvs) ∧ kvs.length < sizeLine ∧ Pv (i + 1) (upd H5 D (.dK (putK kvs k z))) else Pv (i + 1) H3) (done : ∀ H, Pv m H → Qd H) :
    ∃ W : Nat → Nat → Hp → Prop, (∃ j, W 0 j (upd H1 D (.dK []))) ∧ ∀ i j H, W i j H →
      (J.stop i H ∧ Qd H) ∨ (J.go i H ∧ ∃ Nx : Hp → Prop, (∀ H', Nx H' → ∃ j', j' < j ∧ W (i + 1) j' H') ∧ ∀ x H', J.yld i H x H' → g x (wipe σ own) H' fun σ2 H2 => wipe σ2 own = wipe σ own ∧ tt σ2 H2 fun b H3 =>
        if b = true then tk σ2 H3 fun y H4 => tv σ2 H4 fun z H5 => ∃ kvs k, y = kV k ∧ H5 D = some (.dK kvs) ∧ kvs.length < sizeLine ∧ Nx (upd H5 D (.dK (putK kvs k z))) else Nx H3) := by
  refine ⟨fun i j H => j = m - i ∧ i ≤ m ∧ Pv i H, ⟨m, by simp, Nat.zero_le _, start⟩, ?_⟩
  rintro i j H ⟨rfl, hi, pv⟩
  have kp := keeps i H hi pv
  rcases Nat.lt_or_ge i m with less | more
  · exact .inr ⟨w.goes i H less kp, Pv (i + 1), fun H' p' => ⟨m - (i + 1), by omega, rfl, less, p'⟩, fun x H' y => turn i x H H' less pv (w.yields i H x H' less kp y)⟩
  · obtain rfl : i = m := Nat.le_antisymm hi more
    exact .inl ⟨w.stops H kp, done H pv⟩
section
variable {X : Cx}
/-- y = {k: v for ..}: the name is stored within the comprehension's frame -/
theorem ps_setDc {j : Nat} {y : Str} {yp : Pos} {kx vx tg iter : Expr} {ifs : List Expr} {scope : Scope} {own : List (Str × Nat)} {cp sp : Pos} {wi : TI} {g : TG} {tt : TT} {tk tv : TE} (calm : X.calm = true) (nodup : X.N.Nodup) (atJ : X.N[j]? = some y) (isLoc : X.env.scope.names.lookup y = some .local)
    (swaps : swapsWith (.DictComp kx vx [⟨tg, iter, ifs, 0⟩] scope cp) (some (.Name y yp)) sp.line X.env = pure true) (walks : PI X tg iter wi) (blk : BlkOk X.N X.env.scope scope own)
    (target : ∀ (s : Shared) (H : Hp) (C : Addr) (cl : List (Str × Addr)) (fp : List Addr), PG (X.blk s H scope (compEnvC scope cl C X.env) fp) tg g) (tests : ∀ (s : Shared) (H : Hp) (C : Addr) (cl : List (Str × Addr)) (fp : List Addr), PTs (X.blk s H scope (compEnvC scope cl C X.env) fp) ifs tt)
    (keys : ∀ (s : Shared) (H : Hp) (C : Addr) (cl : List (Str × Addr)) (fp : List Addr), PE (X.blk s H scope (compEnvC scope cl C X.env) fp) kx tk)
    (vals : ∀ (s : Shared) (H : Hp) (C : Addr) (cl : List (Str × Addr)) (fp : List Addr), PE (X.blk s H scope (compEnvC scope cl C X.env) fp) vx tv) (plain : ∀ x, foldedSetIterable iter X.env x = pure x := by intro _; rfl) :
    PS X (.Assign [.Name y yp] (.DictComp kx vx [⟨tg, iter, ifs, 0⟩] scope cp) sp) (tAsg (tDc wi g tt tk tv (own.map (·.2))) (gName j)) := by
  refine ⟨fun pins s σ H D I want => ?_⟩
  rw [exec_Assign_Name_used _ _ _ _ swaps]
  refine wpAny_bind (wpAny_standAt (wpAny_bind ?_))
  show wpAny _ X.A (do let _ ← comprehension (.DictComp kx vx [⟨tg, iter, ifs, 0⟩] scope cp) scope X.env (firstIterPos [⟨tg, iter, ifs, 0⟩] cp) newDict false (eval iter X.env) (some (assign (.Name y yp) X.env))) _ _ s
  have want' : tDc wi g tt tk tv (own.map (·.2)) σ H (fun x H1 => gName j x σ H1 D.nx) := want
  refine wpAny_bind (thn (dc_core (Qf := fun _ s' => SP X pins D .next s') calm nodup I walks blk target tests keys vals plain want' fun made frame s' m H' J q hn young => ?_) fun _ s' z => wpAny_pure (wpAny_pure z))
  show wpAny _ _ (assign (.Name y yp) X.env (.ref made)) _ _ _
  refine wpAny_assign_Name (store_ok2 (v := V.ref made) J nodup atJ (.inl isLoc) rfl (fun s2 J2 ⟨a, but, isA⟩ => ?_) (.inr isLoc))
  obtain ⟨y0, y1, y2, y3, y4, y5⟩ := young
  have apart : frame ≠ a := by
    rcases isA with z | z
    · rw [z]
      exact y1
    · intro e
      exact y4 y a z e.symm
  refine ⟨m, hn.sameBut but apart, fun h3 but3 => ?_⟩
  exact ⟨_, H', J2.turned (t' := s2.toks) (fun b o hb e => (but3.2 b hb).trans e) y0 y1 y3 y4 y5, q⟩
theorem sw_trueD {kx vx : Expr} {gs : List Comprehension} {scope : Scope} {pos py : Pos} {y : Str} {l : Nat} {env : Env} (isFun : env.scope.kind = .function) (isLoc : env.scope.names.lookup y = some .local) (line : (py.line == pos.line) = true)
    (apart : (scope.names.any fun (n, k) => n == y && (k == .local || k == .cell)) = false) : swapsWith (.DictComp kx vx gs scope pos) (some (.Name y py)) l env = pure true := by
  have k1 : env.kindOf y = some .local := isLoc
  have k2 : env.blockKind = .function := by
    unfold Env.blockKind
    rw [isFun]
    rfl
  unfold swapsWith
  simp only [k2, k1, apart, Expr.pos, line]
  rfl
end
/-- not x, by truth, K said -/
theorem pe_notTK {X : Cx} {K : PySem.W.Frag} {a : Expr} {ta : TE} {pos : Pos} (hK : X.K = K) (ha : PE X a ta) : PE X (.UnaryOp .Not a pos) (tNotT K ta) := by
  subst hK
  exact pe_notT ha
end L2

set_option Elab.async false
set_option linter.all false
set_option maxRecDepth 100000
set_option maxHeartbeats 4000000
/-! Dicts of texts compared both ways; a staticmethod called by the class's name. -/
namespace L2
open PySem PySem.Spec PyProof.Rows
def Strs (ks : List (Key × V)) : Prop := ∀ p ∈ ks, ∃ z, p.2 = .str z
def sameD (ks ls : List (Key × V)) : Bool := ks.length == ls.length && ks.all fun p => decide (valV ls p.1 = some p.2)
theorem valV_mem {ls : List (Key × V)} {k : Key} {y : V} (h : valV ls k = some y) : ∃ p ∈ ls, p.2 = y := by
  unfold valV at h
  cases e : ls.find? (fun kv => decide (kv.1 = k)) with
  | none =>
    rw [e] at h
    cases h
  | some q =>
    rw [e] at h
    exact ⟨q, List.mem_of_find?_eq_some e, Option.some.inj h⟩
theorem eqAt_strs {A : Around} {s : Shared} {x y : Str} {u u' : Value} (r : RelV (.str x) u) (r' : RelV (.str y) u') : SeqAt.EqAt A s u u' (decide (x = y)) := by
  obtain ⟨t, rfl⟩ := (show ∃ t, u = Value.str x t from r)
  obtain ⟨t', rfl⟩ := (show ∃ t, u' = Value.str y t from r')
  have q := SeqAt.EqAt.str_str (A := A) (s := s) x t y t'
  have e : (x == y) = decide (x = y) := by
    rw [Bool.eq_iff_iff]
    simp
  rw [e] at q
  exact q
theorem hits_str {A : Around} {s : Shared} {ls : List (Key × V)} {vb : List (Key × Value)} (rb : KV ls vb) (sl : Strs ls) {ks : List (Key × V)} {va : List (Key × Value)} (ra : KV ks va) :
    Strs ks → PySem.W.KeqHits A s vb va (ks.all fun p => decide (valV ls p.1 = some p.2)) := by
  unfold KV at ra
  induction ra with
  | nil => intro _; exact .nil
  | @cons p q ps qs h t ih =>
    intro hp
    obtain ⟨h1, h2⟩ := h
    obtain ⟨z, ez⟩ := hp p List.mem_cons_self
    have rr : RelO (valV ls p.1) (valueAt vb p.1) := rb.val p.1
    obtain ⟨k, v⟩ := q
    have h1' : p.1 = k := h1
    rw [h1'] at rr
    rw [List.all_cons, h1']
    cases e : valV ls k with
    | none =>
      rw [e] at rr
      have hn : valueAt vb k = none := RelO.none_of rr
      have ef : decide ((none : Option V) = some p.2) = false := rfl
      rw [ef, Bool.false_and]
      exact .miss hn
    | some y =>
      rw [e] at rr
      obtain ⟨y', hy, ry⟩ := rr.some_of
      obtain ⟨q2, hm, e2⟩ := valV_mem e
      obtain ⟨z2, ez2⟩ := sl q2 hm
      have ey : y = .str z2 := e2.symm.trans ez2
      subst ey
      rw [ez] at h2
      have hh := eqAt_strs (A := A) (s := s) h2 ry
      have ed : decide (some (V.str z2) = some p.2) = decide (z = z2) := by
        rw [ez]
        by_cases c : z = z2
        · rw [c]
          simp
        · rw [decide_eq_false c, decide_eq_false]
          intro w
          exact c (V.str.inj (Option.some.inj w)).symm
      rw [ed]
      exact .hit hy hh (ih fun p' hm => hp p' (List.mem_cons_of_mem _ hm))
section
variable {X : Cx}
def rEqDT (g : Bool → Bool) : R2 := fun x y H Q => ∃ a b ks ls, x = .ref a ∧ y = .ref b ∧ Rd H a (.dK ks) ∧ Rd H b (.dK ls) ∧ Strs ks ∧ Strs ls ∧ Q (.bl (g (sameD ks ls))) H
theorem op_eqDT (hu : X.A.units + 1 < cLine) : OpR X (compareOp .Eq) (rEqDT id) := by
  intro pins s σ H x y v u Q I rx ry h
  obtain ⟨a, b, ks, ls, rfl, rfl, ea, eb, sk, sl, q⟩ := h
  obtain rfl : v = Value.ref a := rx
  obtain rfl : u = Value.ref b := ry
  obtain ⟨_, ya, va, ra, da⟩ := dk_rd I.hok ea
  obtain ⟨_, yb, vb, rb, db⟩ := dk_rd I.hok eb
  have h1 : va.length = ks.length := (Paired.length ra).symm
  have h2 : vb.length = ls.length := (Paired.length rb).symm
  exact PySem.W.keq_eq (knd := mixKind X.prog X.w) ya yb da db (Nat.lt_of_succ_lt hu) (fun _ => hits_str rb sl ra sk) (fin_bl I q (by rw [h1, h2]; rfl))
theorem op_neDT (hu : X.A.units + 1 < cLine) : OpR X (compareOp .NotEq) (rEqDT not) := by
  intro pins s σ H x y v u Q I rx ry h
  obtain ⟨a, b, ks, ls, rfl, rfl, ea, eb, sk, sl, q⟩ := h
  obtain rfl : v = Value.ref a := rx
  obtain rfl : u = Value.ref b := ry
  obtain ⟨_, ya, va, ra, da⟩ := dk_rd I.hok ea
  obtain ⟨_, yb, vb, rb, db⟩ := dk_rd I.hok eb
  have h1 : va.length = ks.length := (Paired.length ra).symm
  have h2 : vb.length = ls.length := (Paired.length rb).symm
  exact PySem.W.keq_ne (knd := mixKind X.prog X.w) ya yb da db (Nat.lt_of_succ_lt hu) (fun _ => hits_str rb sl ra sk) (fin_bl I q (by rw [h1, h2]; rfl))
end
/-- C.m is a staticmethod: its record at p, its def at g -/
structure SMet (K : PySem.W.Frag) (C : Addr) (mc : Value) (m : Str) (p g : Addr) : Prop where
  at_ : PySem.W.findCls K (.ref C) mc m = some (.get (.builtin "staticmethod.__get__") (.ref p) .none (.ref C))
  rc : ∃ rest, PySem.W.recIn K p "staticmethod" = some (.ref g :: rest)
  kp : PySem.W.keepIn K (.ref g) = true
section
variable {X : Cx} {CX : CXT} {k : Nat} {C p g : Addr} {mc : Value} {sp : Sp} {E : XK} {o e : Expr} {es : List Expr} {m : Str} {pos apos : Pos} {ta : TE} {t : TA} {pl : Sem Bool} {fd : FuncData} {ps : List Str}
theorem getmethsm_ok {pins : List (Addr × Obj)} {σ : L2.St} {H : Hp} {s : Shared} {A : Around} {E : Value → Shared → Prop} {Q : Value × List Value → Shared → Prop} (I : Inv X pins σ H s) (r : ClX.CRead X.K C mc) (k : SMet X.K C mc m p g)
    (h : ∀ s', Inv X pins σ H s' → Q (.ref g, []) s') : wpAny (model X.prog X.w) A (getMethod (.ref C) m pl) Q E s := by
  obtain ⟨rest, hp⟩ := k.rc
  refine PySem.W.method_cls I.kIn r.ga ?_
  refine PySem.W.cls_bind I.kIn r.rd k.at_ ?_
  refine wpAny_call (PySem.W.sm_get (s := { s with toks := s.toks + 1 }) I.kIn hp (PySem.W.handed_on rfl ?_))
  exact h _ (I.tok _)
/-- e.m(..), e the class at C, m a staticmethod -/
def tSMeth (C : Addr) (sp : Sp) (E : XK) (ta : TE) (t : TA) : TE := fun σ H Q => ta σ H fun x H1 => x = .ref C ∧ t σ H1 fun vs H2 => sp vs H2 Q E
theorem pe_smeth (he : PE X o ta) (r : ClX.CRead X.K C mc) (c : SMet X.K C mc m p g) (F : FnOk X.prog X.w X.K X.mg X.base CX k g fd ps sp) (hr : Room k X.A) (hb : Binds X.K fd ps []) (hx : Passes CX X E) (ha : PA X (e :: es) t)
    (hst : starEach (e :: es) X.env = (false, eval e X.env) :: starEach es X.env := by rfl) (hpl : (backTo pos (starEach es X.env)).any (·.1) = false := by rfl)
    (ht : eval (.Call (.Attribute o m apos) (e :: es) [] pos) X.env = (do
      let ov ← eval o X.env
      standAt apos.atName
      let (f, first) ← holding [ov] (getMethod ov m pl)
      callWith pos f first (backTo pos (starEach (e :: es) X.env)) (backToKw pos (keywordEach [] X.env))) := by rfl) :
    PE X (.Call (.Attribute o m apos) (e :: es) [] pos) (tSMeth C sp E ta t) := by
  refine ⟨fun pins s σ H Q I h => ?_⟩
  refine PySem.W.methodCall_KW (pl := pl) (thn (he.run pins s σ H _ I h) fun u s1 ⟨x, H1, I1, rx, ex, q⟩ => ?_) ht
  subst ex
  obtain rfl : u = Value.ref C := rx
  refine getmethsm_ok I1 r c fun s2 I2 => ?_
  refine PySem.W.callWith_K (h₀ := X.base) I.ok.mod.kin c.kp (thn (ha.run pos pins s2 σ H1 _ I2 q) fun us s3 ⟨vs, H2, I3, rv, q2⟩ => ⟨I3.kIn, ?_⟩) hst hpl
  exact run_fn (us := us) (dvs := []) (ds := []) F hr hb .nil hx I3 rv (by rw [List.append_nil]; exact q2)
/-- e.m(k = v, ..) -/
def tSMethK (C : Addr) (sp : Sp) (gV : List V → List V → List V) (E : XK) (ta : TE) (tk : TA) : TE := fun σ H Q => ta σ H fun x H1 => x = .ref C ∧ tk σ H1 fun zs H2 => sp (gV [] zs) H2 Q E
theorem pe_smethK0 {kws : List Keyword} {tk : TA} {ks : List Str} {gg : List Value → List Value → List Value} {gV : List V → List V → List V} (he : PE X o ta) (r : ClX.CRead X.K C mc) (c : SMet X.K C mc m p g) (F : FnOk X.prog X.w X.K X.mg X.base CX k g fd ps sp) (hr : Room k X.A) (hb : KBinds X.K fd ps ks gg gV) (hx : Passes CX X E) (hkw : PK X kws tk)
    (hall : (backToKw pos (keywordEach kws X.env)).all (·.1.isSome) = true := by rfl) (hks : (backToKw pos (keywordEach kws X.env)).filterMap (·.1) = ks := by rfl)
    (hpl : ((backTo pos (starEach [] X.env)).any (·.1) || (backToKw pos (keywordEach kws X.env)).any (·.1.isNone)) = false := by rfl)
    (ht : eval (.Call (.Attribute o m apos) [] kws pos) X.env = (do
      let ov ← eval o X.env
      standAt apos.atName
      let (f, first) ← holding [ov] (getMethod ov m pl)
      callWith pos f first (backTo pos (starEach [] X.env)) (backToKw pos (keywordEach kws X.env))) := by rfl) :
    PE X (.Call (.Attribute o m apos) [] kws pos) (tSMethK C sp gV E ta tk) := by
  refine ⟨fun pins s σ H Q I h => ?_⟩
  refine PySem.W.methodCall_KW (pl := pl) (thn (he.run pins s σ H _ I h) fun u s1 ⟨x, H1, I1, rx, ex, q⟩ => ?_) ht
  subst ex
  obtain rfl : u = Value.ref C := rx
  refine getmethsm_ok I1 r c fun s2 I2 => ?_
  refine PySem.W.callWith_KW0 (h₀ := X.base) I.ok.mod.kin c.kp hall (thn (hkw.run pos pins s2 σ H1 _ I2 q) fun ws s3 ⟨zs, H2, I3, rz, q2⟩ => ⟨I3.kIn, ?_⟩) hpl
  rw [hks]
  exact run_fnk (us := []) (vs := []) F hr hb hx I3 .nil rz q2
end
/-- f'..' of two parts or more, by a name -/
def tJo (ts : List TE) : TE := fun σ H Q => tJs ts Str.empty σ H fun out H1 => Q (.str out) H1
theorem pe_joinedT {X : Cx} {v1 v2 : Expr} {rest : List Expr} {ts : List TE} {pos : Pos} (h : PJ X (v1 :: v2 :: rest) ts) : PE X (.JoinedStr (v1 :: v2 :: rest) pos) (tJo ts) := pe_joined h
end L2

set_option Elab.async false
set_option linter.all false
set_option maxRecDepth 100000
set_option maxHeartbeats 4000000
/-! An own error's `__init__` that calls the base error's by the base's name, where the base has none of its own. -/
namespace L2
open PySem PySem.Spec PyProof.Rows
section
variable {X : Cx} {e : Expr} {es : List Expr} {ta : TA} {x : Str} {CR : Addr} {mc : Value} {p1 p2 pos : Pos} {pl : Sem Bool}
theorem pe_baseinit (hg : Gl X x) (hm : X.mg x = some (.ref CR)) (r : ClX.CRead X.K CR mc) (vV : PySem.W.findCls X.K (.ref CR) mc "__init__" = some (.val (.builtin "ValueError.__init__"))) (ha : PA X (e :: es) ta)
    (hdb : (x == ("__debug__" : Str)) = false := by decide)
    (hc : eval (.Call (.Attribute (.Name x p1) "__init__" p2) (e :: es) [] pos) X.env = (do
      let ov ← eval (.Name x p1) X.env
      standAt p2.atName
      let (f, first) ← holding [ov] (getMethod ov "__init__" pl)
      callWith pos f first (backTo pos (starEach (e :: es) X.env)) (backToKw pos (keywordEach [] X.env))) := by rfl)
    (he : starEach (e :: es) X.env = (false, eval e X.env) :: starEach es X.env := by rfl) (hpl : (backTo pos (starEach es X.env)).any (·.1) = false := by rfl) :
    PE X (.Call (.Attribute (.Name x p1) "__init__" p2) (e :: es) [] pos) (tVeI X.K ta) := by
  refine ⟨fun pins s σ H Q I h => ?_⟩
  refine PySem.W.methodCall_KW (pl := pl) (ld_glob I hg hm ?_ hdb) hc
  refine PySem.W.method_cls I.kIn r.ga ?_
  refine PySem.W.cls_value I.kIn r.rd vV (by decide +kernel) ?_
  show wpAny _ _ (callWith pos (Value.builtin "ValueError.__init__") [] (backTo pos (starEach (e :: es) X.env)) []) _ _ _
  refine PyProof.Rows.callWith_method1 (thn (ha.run pos pins _ σ H _ (I.tok _) h) fun us s1 ⟨vs, H1, I1, r1, a, C, ws, ev, hl, T, ea, q⟩ => ?_) he hpl
  subst ev
  cases r1 with
  | @cons _ u0 _ ur ra rw' =>
    obtain rfl : u0 = Value.ref a := ra
    have hlen : ur.length ≤ sizeLine := by
      rw [← Paired.length rw', sizeLine_eq]
      omega
    exact oinit_ok T I1 ea hlen fun s' J => ⟨.non, H1, J, rfl, q⟩
end
end L2

set_option Elab.async false
set_option linter.all false
set_option maxRecDepth 100000
set_option maxHeartbeats 4000000
/-! a | b, a >> b .. by an own method, both of the same class; a <= b by an own one (its answer a bool). -/
namespace L2
open PySem PySem.Spec PyProof.Rows
section
variable {X : Cx} {n : Nat} {CX : CXT} {C f : Addr} {fd : FuncData} {ps : List Str} {sp : Sp} {E : XK}
theorem notNI {v : V} {u : Value} (r : RelV v u) {Q : Value → Shared → Prop} {s : Shared} (q : Q u s) : PySem.W.CmpBack Q u s := by
  cases v <;> first
    | (obtain ⟨t, rfl⟩ := r; exact q)
    | (cases r; exact q)
def rBinOwn (K : PySem.W.Frag) (C : Addr) (sp : Sp) (E : XK) : R2 := fun x y H Q => ∃ a dx fs b dy gs, x = .ref a ∧ H a = some (.ins C dx fs) ∧ y = .ref b ∧ H b = some (.ins C dy gs) ∧ sp [.ref a, y] H Q E
theorem op_binOwn {op : Operator} (F : FnOk X.prog X.w X.K X.mg X.base CX n f fd ps sp) (hb : Binds X.K fd ps []) (hx : Passes CX X E) (hs : PySem.W.findIn X.K (.ref C) (PySem.dunder op.info.2) = some (some (.ref f))) (hf : PySem.W.isFn X.K (.ref f) = true) (hc : PySem.W.selfFirst X.K C = true) (hr : Room n X.A) :
    OpR X (binaryOp op) (rBinOwn X.K C sp E) := by
  intro pins s σ H x y v u Q I rx ry h
  obtain ⟨a, dx, fs, b, dy, gs, rfl, ha, rfl, hbb, hsp⟩ := h
  cases rx
  cases ry
  obtain ⟨od, J⟩ := inst_at I ha
  obtain ⟨od2, J2⟩ := inst_at I hbb
  obtain ⟨m, hF⟩ := I.fr
  refine PySem.W.binop_K hF I.ok.mod.kin J J2.type hc hs hf (thn (run_own (Sub.here hr) F hb hx I (show Vals [V.ref a, V.ref b] [Value.ref a, Value.ref b] from .cons rfl (.cons rfl .nil)) hsp) fun r s' q => ?_)
  obtain ⟨z, H', I', rz, q⟩ := q
  exact notNI rz ⟨z, H', I', rz, q⟩
def rLeOwn (K : PySem.W.Frag) (C : Addr) (sp : Sp) (E : XK) : R2 := fun x y H Q => ∃ a dx fs tb, x = .ref a ∧ H a = some (.ins C dx fs) ∧ TyX K H y tb ∧ PySem.W.notFirst K C tb = true ∧ sp [.ref a, y] H Q E
theorem op_leOwn (F : FnOk X.prog X.w X.K X.mg X.base CX n f fd ps sp) (hb : Binds X.K fd ps []) (hx : Passes CX X E) (o : Own X.K C "__le__" f) (hr : Room n X.A) : OpR X (compareOp .LtE) (rLeOwn X.K C sp E) := by
  intro pins s σ H x y v u Q I rx ry h
  obtain ⟨a, dx, fs, tb, rfl, ha, ty, hn, hs⟩ := h
  cases rx
  obtain ⟨od, J⟩ := inst_at I ha
  obtain ⟨m, hF⟩ := I.fr
  obtain ⟨P, Z, p, _⟩ := kit_of I ry ty
  refine PySem.W.cmp_K (op := .LtE) hr.units0 hF I.ok.mod.kin J (Z.ty _ _ I.kIn p) hn o.find o.fn (thn (run_own (Sub.here hr) F hb hx I (show Vals [V.ref a, y] [Value.ref a, u] from .cons rfl (.cons ry .nil)) hs) fun r s' q => ?_)
  obtain ⟨z, H', I', rz, q⟩ := q
  exact notNI rz ⟨z, H', I', rz, q⟩
end
end L2

set_option Elab.async false
set_option linter.all false
set_option maxRecDepth 100000
set_option maxHeartbeats 4000000
/-! enumerate(text). -/
namespace L2
open PySem PySem.Spec PyProof.Rows
/-- the signs of a text, each in a new pair behind its number -/
def ItSe (z : Str) : It :=
  ⟨fun i _ => i < z.cps.size, fun i H v H' => ∃ T c, v = .ref T ∧ H T = none ∧ H' = upd H T (.tup [.int (i : Nat), .str ⟨#[c]⟩]) ∧ z.cps[i]? = some c, fun i _ => i = z.cps.size⟩
theorem turn_enumS {P : Program} {w : World} {K : PySem.W.Frag} {elts : List Expr} {kk : Nat} {tpos : Pos} (z : Str) (t : Tok) (e it : Addr) :
    Turn P w K (.Tuple elts kk tpos) (ItSe z) [e, it] e (fun i h => (∃ old, IsEnum h e it ((i : Nat) : Int) old) ∧ h.IsStrIter it (strIterType z) z t i ∧ e ≠ it) where
  mem := by simp
  obj := fun i h st b hb => by
    obtain ⟨⟨old, he⟩, ⟨o, ho, hc, hd⟩, _⟩ := st
    have e' : b = e ∨ b = it := by simpa using hb
    rcases e' with z | z
    · rw [z]; exact ⟨_, he, fun v q => nomatch q⟩
    · rw [z]; exact ⟨o, ho, fun v q => by rw [hd] at q; cases q⟩
  keep := fun i h h' st k => by
    obtain ⟨⟨old, he⟩, ⟨o, ho, r⟩, hne⟩ := st
    exact ⟨⟨old, k e (by simp) _ he⟩, ⟨o, k it (by simp) o ho, r⟩, hne⟩
  item := by
    intro X hP hw hK hc i pins s σ H E I hf st hg
    subst hP hw hK
    obtain ⟨⟨old, he⟩, hit, hne⟩ := st
    have hel : e < s.heap.objs.size := Heap.lt_size he
    have hil : it < s.heap.objs.size := by obtain ⟨_, q, _⟩ := hit; exact Heap.lt_size q
    refine wpAny_pyNext_enum_itemD (Draws.text (A := X.A.in1) (I.ok.hd hc) it z t) he hit hg hne (by simpa using hne) fun x h' tk hx ho hit' hT hsz hk => ?_
    obtain ⟨c, u, hcx, rfl⟩ := hx
    refine ⟨_, rfl, wpAny_letOwnedTupleGo_enum (s := { s with heap := h', toks := tk + 1 }) ho fun h'' he' sb => ?_⟩
    have hT2 : h''.get? s.heap.objs.size = some { cls := .type "tuple", data := .seq #[.int i tk, .str ⟨#[c]⟩ u] } := (sb.2 _ (Nat.ne_of_gt hel)).trans hT
    have new : ObjOk X.prog X.w (upd H s.heap.objs.size (.tup [.int (i : Nat), .str ⟨#[c]⟩])) h'' s.heap.objs.size (.tup [.int (i : Nat), .str ⟨#[c]⟩]) :=
      ⟨by show 2 ≤ sizeLine; decide, [.int i tk, .str ⟨#[c]⟩ u], .cons ⟨_, rfl⟩ (.cons ⟨_, rfl⟩ .nil), ⟨_, hT2, rfl, _, rfl⟩⟩
    have I1 : Inv X pins σ (upd H s.heap.objs.size (.tup [.int (i : Nat), .str ⟨#[c]⟩])) { s with heap := h'', toks := tk + 1 } :=
      I.turnedNew (ch := [e, it]) (fun b ob hb q => (sb.2 b (fun z => hb (by simp [z]))).trans (hk b ob (fun z => hb (by simp [z])) (fun z => hb (by simp [z])) q)) hf (Nat.le_refl _) new
    refine ⟨.ref s.heap.objs.size, _, I1, rfl, ⟨_, c, rfl, I.hok.fresh (Nat.le_refl _), rfl, hcx⟩, ⟨⟨.str ⟨#[c]⟩ u, ?_⟩, ?_, hne⟩, fun b hb => ?_⟩
    · have e1 : ((i + 1 : Nat) : Int) = (i : Int) + 1 := by omega
      rw [e1]; exact he'
    · obtain ⟨o, q, r⟩ := hit'
      exact ⟨o, (sb.2 it (Ne.symm hne)).trans q, r⟩
    · have hb' : b < s.heap.objs.size := by
        have e' : b = e ∨ b = it := by simpa using hb
        rcases e' with z | z
        · rw [z]; exact hel
        · rw [z]; exact hil
      rw [upd_ne (Nat.ne_of_lt hb')]
      exact (hf b hb).1
  done := by
    intro X hP hw hK hc i pins s σ H E I hf st hg
    subst hP hw hK
    obtain ⟨⟨old, he⟩, hit, hne⟩ := st
    have hi : i = z.cps.size := hg
    obtain ⟨f0, f1, f2, f3, f4, f5⟩ := hf it (by simp)
    subst hi
    exact wpAny_pyNext_enum_endD (Draws.text (A := X.A.in1) (I.ok.hd hc) it z t) he hit fun h' eb => ⟨rfl, I.turned (t' := s.toks) (fun b o hb q => eb b o hb q) f0 f1 f3 f4 f5⟩
  self := fun A i s Q E st h => let ⟨⟨_, he⟩, _⟩ := st; wpAny_pyIter_enum he h
def iEnumS (ta : TA) : TI := fun σ H R => ta σ H fun vs H1 => ∃ z, vs = [.str z] ∧ R (ItSe z) H1
theorem pi_enumS {X : Cx} {e : Expr} {ta : TA} {p pos tpos : Pos} {elts : List Expr} {kk : Nat} (hg : Gl X "enumerate") (hm : X.mg "enumerate" = none) (ha : PA X [e] ta) (hs : starEach [e] X.env = [(false, eval e X.env)] := by rfl) :
    PI X (.Tuple elts kk tpos) (.Call (.Name "enumerate" p) [e] [] pos) (iEnumS ta) := by
  refine ⟨fun pins s σ H R I h => ?_⟩
  refine Call_ (ld_blt I hg hm boot_enumerate (PyProof.Rows.callWith_type1 (thn (ha.run pos pins s σ H _ I h) fun us s1 ⟨vs, H1, I1, r1, q1⟩ => ?_) hs rfl))
  obtain ⟨z, ex, q⟩ := q1
  subst ex
  cases r1 with
  | cons r rr =>
    cases rr
    obtain ⟨t, rfl⟩ := r
    refine call_enumerate_str fun h' he hit hsz hk => wpAny_pyIter_enum he ?_
    have I2 : Inv X pins σ H1 { s1 with heap := h' } := I1.kept (t' := s1.toks) hk
    refine ⟨s1.heap.objs.size + 1, [s1.heap.objs.size + 1, s1.heap.objs.size], _, _, H1, rfl, I2, turn_enumS z t (s1.heap.objs.size + 1) s1.heap.objs.size, ⟨⟨.none, he⟩, hit, Nat.succ_ne_self _⟩, fun b hb => ?_, q⟩
    have e' : b = s1.heap.objs.size + 1 ∨ b = s1.heap.objs.size := by simpa using hb
    have hle : s1.heap.objs.size ≤ b := by
      rcases e' with z | z
      · rw [z]; exact Nat.le_add_right _ _
      · rw [z]; exact Nat.le_refl _
    exact I1.fpOk hle (I1.hok.fresh hle)
theorem walk_enumS {z : Str} : Walk (ItSe z) z.cps.size (fun _ => True) (fun i H v H' => ∃ T c, v = .ref T ∧ H T = none ∧ H' = upd H T (.tup [.int (i : Nat), .str ⟨#[c]⟩]) ∧ z.cps[i]? = some c) :=
  ⟨fun _ _ hi _ => hi, fun _ _ => rfl, fun _ _ _ _ _ _ y => y⟩
end L2

set_option Elab.async false
set_option linter.all false
set_option maxRecDepth 100000
set_option maxHeartbeats 4000000
/-! Signs of an own class by its own methods, by an address; a ** k. -/
namespace L2
open PySem PySem.Spec PyProof.Rows
/-- an own method that a sign of two calls -/
structure Bo (P : Program) (w : World) (K : PySem.W.Frag) (mg : Str → Option Value) (base : Heap) (k : Nat) (C : Addr) (m : Str) (sp : Sp) : Prop where
  ex : ∃ (f : Addr) (fd : FuncData) (ps : List Str), FnOk P w K mg base CX0 k f fd ps sp ∧ Binds K fd ps [] ∧ PySem.W.findIn K (.ref C) m = some (some (.ref f)) ∧ PySem.W.isFn K (.ref f) = true ∧ PySem.W.selfFirst K C = true
/-- what the sign of the power asks of int -/
structure IntP (K : PySem.W.Frag) (C : Addr) : Prop where
  rp : PySem.W.findIn K (.ref C) "__rpow__" = some none
  h1 : ∃ fo, PySem.W.findIn K (.type "int") "__pow__" = some fo
  h2 : ∃ ro, PySem.W.findIn K (.type "int") "__rpow__" = some ro
  sub : PySem.W.subIn K (.type "int") (.ref C) = some false
def rPowOwn (K : PySem.W.Frag) (C : Addr) (sp : Sp) (E : XK) : R2 := fun x y H Q => ∃ a dx fs i, x = .ref a ∧ H a = some (.ins C dx fs) ∧ y = .int i ∧ sp [.ref a, .int i] H Q E
section
variable {X : Cx} {k j : Nat} {C : Addr} {sp : Sp}
theorem op_bin {op : Operator} {m : Str} (c : Bo X.prog X.w X.K X.mg X.base k C m sp) (hr : Room j X.A) (hk : k ≤ j) (hm : PySem.dunder op.info.2 = m := by rfl) : OpR X (binaryOp op) (rBinOwn X.K C sp E0) := by
  obtain ⟨f, fd, ps, F, b, h1, h2, h3⟩ := c.ex
  subst hm
  exact op_binOwn F b pass0 h1 h2 h3 (hr.mono hk)
theorem op_powO {m : Str} (c : Bo X.prog X.w X.K X.mg X.base k C m sp) (ip : IntP X.K C) (hr : Room j X.A) (hk : k ≤ j) (hm : PySem.dunder (Operator.info .Pow).2 = m := by rfl) : OpR X (binaryOp .Pow) (rPowOwn X.K C sp E0) := by
  obtain ⟨f, fd, ps, F, b, h1, h2, h3⟩ := c.ex
  subst hm
  intro pins s σ H x y v u Q I rx ry h
  obtain ⟨a, dx, fs, i, rfl, ha, rfl, hsp⟩ := h
  obtain rfl : v = Value.ref a := rx
  obtain ⟨od, J⟩ := inst_at I ha
  obtain ⟨m, hF⟩ := I.fr
  obtain ⟨fo, e1⟩ := ip.h1
  obtain ⟨ro, e2⟩ := ip.h2
  have hb : typeOf u = pure (.type "int") := by
    obtain ⟨t, rfl⟩ := (show ∃ t, u = Value.int i t from ry)
    rfl
  refine PySem.W.ksp_binT hF I.ok.mod.kin J hb h3 h1 h2 ip.rp (.inl rfl) e1 e2 ip.sub (thn (run_own (Sub.here (hr.mono hk)) F b pass0 I (show Vals [V.ref a, V.int i] [Value.ref a, u] from .cons rfl (.cons ry .nil)) hsp) fun r s' q => ?_)
  obtain ⟨z, H', I', rz, q⟩ := q
  exact notNI rz ⟨z, H', I', rz, q⟩
theorem pe_mt {pl : Sem Bool} {m : Str} {o e : Expr} {es : List Expr} {apos pos : Pos} {ta : TE} {t : TA} (c : Cls X.K C) (D : Mf X.prog X.w X.K X.mg X.base k C m sp) (hr : Room j X.A) (hk : k ≤ j) (he : PE X o ta) (ha : PA X (e :: es) t)
    (hst : starEach (e :: es) X.env = (false, eval e X.env) :: starEach es X.env := by rfl) (hpl : (backTo pos (starEach es X.env)).any (·.1) = false := by rfl)
    (ht : eval (.Call (.Attribute o m apos) (e :: es) [] pos) X.env = (do
      let ov ← eval o X.env
      standAt apos.atName
      let (f, first) ← holding [ov] (getMethod ov m pl)
      callWith pos f first (backTo pos (starEach (e :: es) X.env)) (backToKw pos (keywordEach [] X.env))) := by rfl) :
    PE X (.Call (.Attribute o m apos) (e :: es) [] pos) (tMeth C m sp [] E0 ta t) := by
  obtain ⟨f, fd, ps, F, hm, _, _, b⟩ := D.ex
  exact pe_meth (pl := pl) he c hm F (hr.mono hk) b .nil pass0 ha hst hpl ht
theorem op_leM (c : Bo X.prog X.w X.K X.mg X.base k C "__le__" sp) (hr : Room j X.A) (hk : k ≤ j) : OpR X (compareOp .LtE) (rLeOwn X.K C sp E0) := by
  obtain ⟨f, fd, ps, F, b, h1, h2, h3⟩ := c.ex
  exact op_leOwn F b pass0 ⟨h1, h2⟩ (hr.mono hk)
end
end L2

set_option Elab.async false
set_option linter.all false
set_option maxRecDepth 100000
set_option maxHeartbeats 4000000
/-! try: .. except E as n: k = n, where k is read later: the caught exception becomes a thing of the abstract heap. -/
namespace L2
open PySem PySem.Spec PyProof.Rows
/-- an exception that was caught and is kept: its class, its dict -/
def CaughtO (cls : Value) (d : Option Addr) (a : Addr) : HO := .ext fun h => ∃ (oe : Obj) (vs : Array Value), h.get? a = some oe ∧ Zc cls d oe ∧ oe.data = .fields vs
/-- a caught exception stands on the ground of X, and nothing of X has known it before -/
structure Down (X : Cx) (pins : List (Addr × Obj)) (σ : St) (H : Hp) (cls : Value) (d : Option Addr) (a : Addr) (B : Heap) (s : Shared) : Prop where
  inv : Inv X pins σ H s
  fly : HandSPX.FlyingZ B X.stack a (Zc cls d) s.heap
  unk : H a = none
  notL : a ≠ X.env.locals
  notF : a ∉ X.fs
  notS : ∀ o, X.s_0.heap.get? a = some o → a ∉ X.ex → False
  notP : ∀ p ∈ X.pn ++ pins, p.1 ≠ a
  gnd : ∃ s0 : Shared, Inv X pins σ H s0 ∧ (∀ c o, s0.heap.get? c = some o → c ∉ frs X.stack → B.get? c = some o) ∧ s0.heap.UpToSlots s.heap ∧ s.os = s0.os ∧ AllBare s.gens
section
variable {X : Cx} {pins : List (Addr × Obj)} {σ : St} {H : Hp} {cls : Value} {d : Option Addr} {a : Addr} {B : Heap} {s : Shared}
theorem Down.obj (W : Down X pins σ H cls d a B s) : ∃ (oe : Obj) (vs : Array Value), s.heap.get? a = some oe ∧ Zc cls d oe ∧ oe.data = .fields vs := W.fly.there
/-- from now on it is tracked -/
theorem Down.tracked (W : Down X pins σ H cls d a B s) : Inv X pins σ (upd H a (CaughtO cls d a)) s := by
  obtain ⟨oe, vs, q1, q2, q3⟩ := W.obj
  obtain ⟨i1, i2, i3, i4, i5, i6, i7, i8, i9, i10, i11⟩ := W.inv
  have off : ∀ c, c ≠ a → upd H a (CaughtO cls d a) c = H c := fun c h => upd_ne h
  have off' : ∀ c u, H c = some u → upd H a (CaughtO cls d a) c = some u := fun c u h => (off c (ne_of_none h W.unk)).trans h
  have tell : ObjOk X.prog X.w (upd H a (CaughtO cls d a)) s.heap a (CaughtO cls d a) := by
    refine ⟨⟨oe, vs, q1, q2, q3⟩, ⟨oe, q1⟩, fun g g' hg keep => ?_⟩
    obtain ⟨o, v, r1, r2⟩ := hg
    exact ⟨o, v, keep o r1, r2⟩
  refine ⟨i1, i2, i3, ⟨i4.keep, i4.slot, fun c o e n x => ?_, i4.there, fun c xs e => off' c _ (i4.tups c xs e), fun c o u e => off' c _ (i4.frzs c o u e), fun c ps e => ?_⟩, i5, i6, (off _ (Ne.symm W.notL)).trans i7, fun y c e => ?_, fun p hp => ?_, i10.laidN (fun _ _ z => z) W.unk tell, i11⟩
  · by_cases hc : c = a
    · rw [hc] at e x
      exact (W.notS o e x).elim
    · exact (off c hc).trans (i4.free c o e n x)
  · obtain ⟨more, z⟩ := i4.tbls c ps e
    exact ⟨more, off' c _ z⟩
  · have hc : c ≠ a := fun z => by
      obtain ⟨v, o, r1, r2⟩ := i6 y c e
      rw [z, q1] at r1
      rw [← Option.some.inj r1, q3] at r2
      cases r2
    exact (off c hc).trans (i8 y c e)
  · obtain ⟨p1, p2, p3⟩ := i9 p hp
    exact ⟨p1, (off _ (W.notP p hp)).trans p2, p3⟩
/-- an exception that X lets through lands -/
theorem down_of {M : Model} {x' : Value → Shared → Prop} {pn : List (Addr × Obj)} {W : WX} {u : Value} {E : Value → Shared → Prop} {Q : Shared → Prop} (ok : X.Ok) (hst : X.stack = X.env :: X.outer) (hfl : X.env.frame = some X.env.locals) (xx : XE (X.tr (X.pn ++ pn) x') W u s)
    (hQ : ∀ (a : Addr) (B : Heap) (cls : Value) (d : Option Addr) (σ : St) (H : Hp) (s' : Shared), u = .ref a → W cls d σ H → Down X pn σ H cls d a B s' → Q s') : wpAny M X.A (noteFrame u X.env) (fun _ s1 => wpAny M X.A (setFlight u none) (fun _ s2 => Q s2) E s1) E s := by
  obtain ⟨a, B, sI, more, σ1, H1, cls, d, rfl, IT, gr, ups, sky, none1, eos, bar, wish⟩ := xx
  have I1 : Inv X pn σ1 H1 sI := Inv.ofTry IT ok
  have frameEq : X.A.frames = some (X.env :: X.outer) := ok.frames.trans (by rw [hst])
  have sky1 : Sky B (X.env :: X.outer) a (Zc cls d) X.env.locals s.heap := hst ▸ sky
  refine Sky.land (Q := fun _ => Q) Zc.steady frameEq hfl sky1 fun hL fly up2 => ?_
  obtain ⟨oe, vs, r1, _, r3⟩ := HandSPX.FlyingZ.there fly
  have out : a ∉ frs X.stack := fun hm => by
    rw [hst] at hm
    obtain ⟨_, o, eo, no⟩ := fly.2.2.1.mem hm
    rw [r1] at eo
    exact no vs (by rw [← Option.some.inj eo]; exact r3)
  have never : ∀ o, sI.heap.get? a = some o → False := fun o e => by
    have q := gr a o e out
    rw [fly.2.1] at q
    cases q
  refine hQ a B cls d σ1 H1 { s with heap := hL } rfl wish ⟨I1.landed gr fly.1 (ups.trans up2) eos bar, by rw [hst]; exact fly, none1, fun z => ?_, fun z => ?_, fun o e x => ?_, fun p hp z => ?_, sI, I1, gr, ups.trans up2, eos, bar⟩
  · exact out (by rw [hst]; exact List.mem_filterMap.mpr ⟨X.env, List.mem_cons_self, by rw [hfl, z]⟩)
  · obtain ⟨e, he, q⟩ := List.mem_filterMap.mp z
    exact out (by rw [hst]; exact List.mem_filterMap.mpr ⟨e, List.mem_cons_of_mem _ he, q⟩)
  · obtain ⟨o2, q⟩ := I1.base.there a o e x
    exact never o2 q
  · exact never _ (z ▸ (I1.pin p hp).1)
/-- .. and once more, when the suite begins -/
theorem Down.again {M : Model} {A : Around} {Q : Shared → Prop} {E : Value → Shared → Prop} (W : Down X pins σ H cls d a B s) (h : ∀ s', Down X pins σ H cls d a B s' → Q s') : wpAny M A (setFlight (.ref a) none) (fun _ => Q) E s := by
  obtain ⟨s0, J, gr, ups, eos, bar⟩ := W.gnd
  exact HandSPX.lands_againZ (Q := fun _ => Q) W.fly fun hL fly up2 => h { s with heap := hL } ⟨J.landed gr fly.1 (ups.trans up2) eos bar, fly, W.unk, W.notL, W.notF, W.notS, W.notP, s0, J, gr, ups.trans up2, eos, bar⟩
/-- its class is what the clause names -/
theorem Down.meets {A : Around} {E : Value → Shared → Prop} {c : Value} {Q : Bool → Shared → Prop} (W : Down X pins σ H cls d a B s) (hm : PySem.W.exmOne X.K cls c = some true) (h : Q true s) : wpAny (model X.prog X.w) A (excMatches (.ref a) c) Q E s := by
  obtain ⟨oe, vs, q1, q2, _⟩ := W.obj
  refine (PySem.W.exm_one (M := model X.prog X.w) W.inv.kIn (cls := cls) ?_ hm).here h
  intro A1 Q1 E1 s1 keep q
  exact wpAny_typeOf_ref (keep _ _ q1) (q2.1 ▸ q)
/-- the suite's context, the exception tracked -/
theorem Down.suite (W : Down X pins σ H cls d a B s) (ok : X.Ok) : Inv (X.suite a (X.pn ++ pins)) [] σ (upd H a (CaughtO cls d a)) s := by
  have I := W.tracked
  exact ⟨ok.suite _ _, I.os, I.bare, I.base, I.loc, I.cell, I.free, I.freeC, fun p hp => I.pin p (List.append_nil (X.pn ++ pins) ▸ hp), I.hok, I.len⟩
theorem unsuite_inv {σ' : St} {H' : Hp} {s' : Shared} (ok : X.Ok) (I : Inv (X.suite a (X.pn ++ pins)) [] σ' H' s') : Inv X pins σ' H' s' :=
  ⟨ok, I.os, I.bare, I.base, I.loc, I.cell, I.free, I.freeC, fun p hp => I.pin p ((List.append_nil (X.pn ++ pins)).symm ▸ hp), I.hok, I.len⟩
end
/-- what the clause wishes of an exception of the body, which is one of c: slot i is n's -/
def wKeep (K : PySem.W.Frag) (k : Nat) (c : Value) (i : Nat) (ts : Addr → TS) (D : Ends) : WX := fun cls d σ H =>
  PySem.W.exmOne K cls c = some true ∧ (σ.length = k → ∀ a, H a = none → ts a { nx := fun σ' H' => D.nx (σ'.set i none) H', rt := D.rt, bk := fun _ _ => False, ct := fun _ _ => False } (σ.set i (some (.ref a))) (upd H a (CaughtO cls d a)))
section
variable {X : Cx} {x n : Str} {c : Value} {i : Nat} {body suite : List Stmt} {b₀ : Stmt} {np pos pos' : Pos} {tb : WX → TS} {ts : Addr → TS}
theorem ps_try_keep (hst : X.stack = X.env :: X.outer) (hfl : X.env.frame = some X.env.locals) (nd : X.N.Nodup) (hi : X.N[i]? = some n) (hn : X.env.kindOf n = some .local) (nm : Names X x c)
    (hb : ∀ (W : WX) (pn : List (Addr × Obj)) (xe : Value → Shared → Prop), Takes (X.tr pn xe) W → PassesOwn (model X.prog X.w) X.A X.env xe → PSs (X.tr pn xe) body (tb W)) (hs : ∀ (a : Addr) (pn : List (Addr × Obj)), PSs (X.suite a pn) (b₀ :: suite) (ts a)) :
    PS X (.Try body [.ExceptHandler (some (.Name x np)) (some n) (b₀ :: suite) pos'] [] [] pos) (fun D σ H => tb (wKeep X.K X.N.length c i ts D) D σ H) := by
  constructor
  intro pins s σ H D I0 reading
  have ok := I0.ok
  apply wpAny_Try_except
  -- what a landed exception meets
  have clause : ∀ (a : Addr) (B : Heap) (cls : Value) (d : Option Addr) (σ1 : St) (H1 : Hp) (s1 : Shared), wKeep X.K X.N.length c i ts D cls d σ1 H1 → Down X pins σ1 H1 cls d a B s1 → wpAny (model X.prog X.w) X.A (handleBy (.ref a) X.env [.ExceptHandler (some (.Name x np)) (some n) (b₀ :: suite) pos']) (SP X pins D) X.xe s1 := by
    rintro a B cls d σ1 H1 s1 ⟨hm, go⟩ W
    apply wpAny_handleBy_cons
    · apply codeAny_handlers_test
      have named : ∀ {Q1 : Value → Shared → Prop} {E1 : Value → Shared → Prop}, Q1 c s1 → wpAny (model X.prog X.w) (X.suite a (X.pn ++ pins)).A (eval (.Name x np) X.env) Q1 E1 s1 := fun {Q1 E1} q => by
        have I := W.suite ok
        rcases nm with ⟨g, db, m | ⟨m, v, w⟩⟩
        · exact ld_glob (X := X.suite a (X.pn ++ pins)) I g m q db
        · exact ld_blt (X := X.suite a (X.pn ++ pins)) I g m v q w db
      refine named (W.meets hm ?_)
      apply codeAny_handlers_suite_as
      refine W.again fun s2 W2 => ?_
      refine store_ok (X := X.suite a (X.pn ++ pins)) (v := .ref a) (W2.suite ok) nd hi (.inl hn) rfl (fun s3 I3 => ?_) (.inr hn)
      refine wpAny_mono ((hs a (X.pn ++ pins)).run [] s3 _ _ _ I3 (go W.inv.len a W.unk)) (fun f s4 sp => ?_) fun _ _ z => False.elim z
      -- the clause's name goes
      have away : ∀ {σ5 : St} {H5 : Hp} {Q5 : Shared → Prop}, Inv (X.suite a (X.pn ++ pins)) [] σ5 H5 s4 → (∀ s6, Inv X pins (σ5.set i none) H5 s6 → Q5 s6) → wpAny (model X.prog X.w) X.A (do bindName X.env n .none; unbindBehindTheSuite X.env n pos') (fun _ => Q5) X.xe s4 :=
        fun I5 h5 => gone_ok (unsuite_inv ok I5) nd hi hn h5
      match f, sp with
      | .next, ⟨σ5, H5, I5, q5⟩ => exact away I5 fun s6 I6 => ⟨_, _, I6, q5⟩
      | .ret u, ⟨v, σ5, H5, I5, r5, q5⟩ => exact away I5 fun s6 I6 => ⟨_, _, _, I6, r5, q5⟩
      | .brk, ⟨_, _, _, z⟩ => exact z.elim
      | .cont, ⟨_, _, _, z⟩ => exact z.elim
    · intro z
      cases z
  refine wpAny_mono ((hb (wKeep X.K X.N.length c i ts D) (X.pn ++ pins) _ (fun u s' xx => down_of ok hst hfl xx fun a B cls d σ1 H1 s1 e wish W => e ▸ clause a B cls d σ1 H1 s1 wish W) PassesOwn.looking).run [] s σ H D (I0.toTry _) reading) (fun f s1 sp => ?_) fun _ _ z => z
  match f, sp with
  | .next, ⟨σ1, H1, I1, q1⟩ => exact wpAny_execs_nil ⟨σ1, H1, Inv.ofTry I1 ok, q1⟩
  | .ret u, ⟨v, σ1, H1, I1, r1, q1⟩ => exact ⟨v, σ1, H1, Inv.ofTry I1 ok, r1, q1⟩
  | .brk, ⟨σ1, H1, I1, q1⟩ => exact ⟨σ1, H1, Inv.ofTry I1 ok, q1⟩
  | .cont, ⟨σ1, H1, I1, q1⟩ => exact ⟨σ1, H1, Inv.ofTry I1 ok, q1⟩
end
end L2

set_option Elab.async false
set_option linter.all false
set_option maxRecDepth 100000
set_option maxHeartbeats 4000000
/-! A kept exception: isinstance, its fields. -/
namespace L2
open PySem PySem.Spec PyProof.Rows
/-- at a a kept exception of the own class D, with these fields -/
structure KeptX (K : PySem.W.Frag) (H : Hp) (a D : Addr) (fs : List (Str × V)) : Prop where
  ex : ∃ d, H a = some (CaughtO (.ref D) (some d) a) ∧ H d = some (.xd fs)
  cl : ExcC K D
section
variable {X : Cx} {pins : List (Addr × Obj)} {σ : St} {H : Hp} {s : Shared} {a D : Addr} {fs : List (Str × V)}
theorem kept_inst (I : Inv X pins σ H s) (k : KeptX X.K H a D fs) : ∃ (oe : Obj) (od : Obj), PySem.W.InstAt s.heap a oe D (some od) ∧ ∀ f, ∃ o, PySem.W.lookIn f od = some o ∧ RelO (fs.lookup f) o := by
  obtain ⟨d, h1, h2⟩ := k.ex
  obtain ⟨⟨oe, vs, q1, ⟨q2, q3⟩, q4⟩, _, _⟩ := I.hok a _ h1
  obtain ⟨m, ns, rel⟩ := I.hok d _ h2
  obtain ⟨od, ho, hl⟩ := lookIn_ns ns
  refine ⟨oe, od, ⟨q1, q2, ?_, ?_⟩, fun f => ⟨m f, hl f, rel f⟩⟩
  · unfold PySem.W.notCls
    rw [q4]
  · rw [q3]
    exact ho
/-- isinstance(e, c) -/
def rIsK (K : PySem.W.Frag) : List V → Hp → VK → Prop := fun xs H Q => ∃ (a D : Addr) (fs : List (Str × V)) (c : V) (cv : Value) (b : Bool), xs = [.ref a, c] ∧ KeptX K H a D fs ∧ (∀ u, RelV c u → u = cv) ∧ PySem.W.kitOne K (.ref D) cv = some b ∧ Q (.bl b) H
theorem call_isK : CallR X (.builtin "isinstance") (rIsK X.K) := by
  intro pins s σ H xs us Q I r h
  obtain ⟨a, D, fs, c, cv, b, rfl, k, hc, e, q⟩ := h
  match us, r with
  | [u1, u2], .cons r1 (.cons r2 .nil) =>
    obtain rfl : u1 = Value.ref a := r1
    rw [hc _ r2]
    obtain ⟨oe, od, J, _⟩ := kept_inst I k
    have C := k.cl
    obtain ⟨cd, e1, _⟩ := PySem.W.any_some C.hd
    exact PySem.W.kia_one (PySem.W.kitx_exc (by rw [e1]; rfl) C.hg C.hk C.hs C.ha C.hn C.ht C.hm) I.kIn J e (fun z => nomatch z) fun tk => ⟨.bl b, H, I.tok _, rfl, q⟩
/-- e.f -/
def tKeptF (K : PySem.W.Frag) (f : Str) (te : TE) : TE := fun σ H Q => te σ H fun x H1 => ∃ (a D : Addr) (fs : List (Str × V)) (v : V), x = .ref a ∧ KeptX K H1 a D fs ∧ PySem.W.findIn K (.ref D) f = some none ∧ fs.lookup f = some v ∧ Q v H1
theorem pe_keptF {e : Expr} {f : Str} {te : TE} {pos : Pos} (he : PE X e te) (hb : attributeBase e f X.env (eval e X.env) = eval e X.env := by rfl) : PE X (.Attribute e f pos) (tKeptF X.K f te) := by
  refine ⟨fun pins s σ H Q I h => attr_of hb (thn (he.run pins s σ H _ I h) fun u s1 hh => ?_)⟩
  obtain ⟨x, H1, I1, rx, a, D, fs, v, rfl, k, no, hl, q⟩ := hh
  obtain rfl : u = Value.ref a := rx
  obtain ⟨oe, od, J, look⟩ := kept_inst I1 k
  obtain ⟨o, l1, l2⟩ := look f
  obtain ⟨w', ew, rw'⟩ := RelO.some_of (v := v) (o := o) (hl ▸ l2)
  exact HandSPX.exc_get I1.kIn J k.cl.hg k.cl.hk k.cl.hs (PySem.W.findObj_own k.cl.hd no rfl (by rw [l1, ew])) (handed_of rw') ⟨v, H1, I1.tok _, rw', q⟩
end
end L2

set_option Elab.async false
set_option linter.all false
set_option maxRecDepth 100000
set_option maxHeartbeats 4000000
/-! A classmethod called by the class's name, with keywords. -/
namespace L2
open PySem PySem.Spec PyProof.Rows ClX
section
variable {X : Cx} {CX : CXT} {k : Nat} {C p g f : Addr} {mc : Value} {sp : Sp} {E : XK} {o : Expr} {kws : List Keyword} {m : Str} {pos apos : Pos} {ta : TE} {tk : TA} {pl : Sem Bool} {fd : FuncData} {ps ks : List Str} {gg : List Value → List Value → List Value} {gV : List V → List V → List V}
theorem run_fnkC {pins : List (Addr × Obj)} {σ : L2.St} {H : Hp} {s : Shared} {Q : VK} {us ws : List Value} {vs zs : List V} (F : FnOk X.prog X.w X.K X.mg X.base CX k f fd ps sp) (hr : Room k X.A) (hb : KBinds X.K fd ps ks gg gV) (hx : Passes CX X E)
    (I : Inv X pins σ H s) (r : Vals vs us) (rz : Vals zs ws) (h : sp (gV vs zs) H Q E) : codeAny (model X.prog X.w) X.A (.call (.ref f) ⟨us, ks.zip ws⟩) (fun r s' => match r with | .ok (.ret v) => EP X pins σ Q v s' | .ok _ => False | .error e => X.xe e s') s := by
  have r2 := hb.rel r rz
  have hl : (gg us ws).length = ps.length := by rw [← r2.length]; exact F.len _ _ _ _ h
  refine codeAny_mono (F.run X.A X.stack s H ⟨us, ks.zip ws⟩ (gg us ws) (gV vs zs) Q E hr I.env0 (hb.to s us ws I.kIn hl) r2 h) fun r s' hq => ?_
  cases r with
  | error e => exact hx pins σ H s e s' I hq
  | ok fl =>
    cases fl with
    | ret u => exact I.after hq
    | next => exact False.elim hq
    | brk => exact False.elim hq
    | cont => exact False.elim hq
def tCMethK (C : Addr) (sp : Sp) (gV : List V → List V → List V) (E : XK) (ta : TE) (tk : TA) : TE := fun σ H Q => ta σ H fun x H1 => x = .ref C ∧ tk σ H1 fun zs H2 => sp (gV [.ref C] zs) H2 Q E
theorem pe_cmethK (he : PE X o ta) (r : CRead X.K C mc) (c : CMet X.K C mc m p g) (F : FnOk X.prog X.w X.K X.mg X.base CX k g fd ps sp) (hr : Room k X.A) (hb : KBinds X.K fd ps ks gg gV) (hx : Passes CX X E) (hkw : PK X kws tk)
    (hall : (backToKw pos (keywordEach kws X.env)).all (·.1.isSome) = true := by rfl) (hks : (backToKw pos (keywordEach kws X.env)).filterMap (·.1) = ks := by rfl)
    (hpl : ((backTo pos (starEach [] X.env)).any (·.1) || (backToKw pos (keywordEach kws X.env)).any (·.1.isNone)) = false := by rfl)
    (ht : eval (.Call (.Attribute o m apos) [] kws pos) X.env = (do
      let ov ← eval o X.env
      standAt apos.atName
      let (f, first) ← holding [ov] (getMethod ov m pl)
      callWith pos f first (backTo pos (starEach [] X.env)) (backToKw pos (keywordEach kws X.env))) := by rfl) :
    PE X (.Call (.Attribute o m apos) [] kws pos) (tCMethK C sp gV E ta tk) := by
  refine ⟨fun pins s σ H Q I h => ?_⟩
  refine PySem.W.methodCall_KW (pl := pl) (thn (he.run pins s σ H _ I h) fun u s1 ⟨x, H1, I1, rx, ex, q⟩ => ?_) ht
  subst ex
  obtain rfl : u = Value.ref C := rx
  refine getmethcm_ok I1 r c fun s2 I2 => ?_
  refine PySem.W.callWith_of hpl (PySem.W.keeps_M (K := X.K) (self := .ref C) c.fi) (PyProof.Rows.evalArgs_kw2_nil hall (thn (hkw.run pos _ s2 σ H1 _ I2 q) fun ws s3 ⟨zs, H2, I3, rz, q2⟩ => ⟨⟨pin_at I3, I3.kIn⟩, ?_⟩))
  rw [hks]
  have z : wpAny (model X.prog X.w) X.A (call (.ref s1.heap.objs.size) ([] ++ []) (ks.zip ws)) (EP X ((s1.heap.objs.size, PySem.W.methodObj (.ref g) (.ref C)) :: pins) σ Q) X.xe s3 :=
    wpAny_call (PySem.W.method_call (pin_at I3) (run_fnkC (us := [.ref C]) (vs := [.ref C]) F hr hb hx I3 (.cons rfl .nil) rz q2))
  exact thn z fun _ _ y => unpinE y
end
end L2

set_option Elab.async false
set_option linter.all false
set_option maxRecDepth 100000
set_option maxHeartbeats 4000000
/-! Lambdas as values: made, kept in lists, called later by a def that gets them. -/
namespace LamX
open PySem PySem.Spec PyProof.Rows L2
/-- the object at f is known -/
def FnO (f : Addr) (o : Obj) : HO := .ext fun h => h.get? f = some o
/-- the object that a lambda of X makes -/
abbrev lamObj (X : Cx) (params : Arguments) (body : Expr) (scope : Scope) (pm ctv : Value) (c' : Addr) : Obj :=
  PySem.W.kla_obj "<lambda>" (X.env.qual ++ "<lambda>") params body scope (cloFrom X.env.cells scope.names []) pm c' ctv
/-- at f stands a lambda of X -/
def LamO (X : Cx) (H : Hp) (f : Addr) (params : Arguments) (body : Expr) (scope : Scope) : Prop :=
  ∃ (c' : Addr) (pm ctv : Value), H f = some (FnO f (lamObj X params body scope pm ctv c')) ∧ H c' = some (CodeO c' (X.env.qual ++ "<lambda>"))
theorem fnO_ne {f : Addr} {o : Obj} (ps : Array Value) : FnO f o ≠ .tbl ps := fun z => by
  unfold FnO at z
  cases z
theorem LamO.ext {X : Cx} {H H' : Hp} {f : Addr} {params : Arguments} {body : Expr} {scope : Scope} (l : LamO X H f params body scope) (e : ExtN H H') : LamO X H' f params body scope := by
  obtain ⟨c', pm, ctv, h1, h2⟩ := l
  exact ⟨c', pm, ctv, e _ _ h1 fnO_ne, e _ _ h2 codeO_ne⟩
theorem fnO_ok {P : Program} {w : World} {H : Hp} {h : Heap} {f : Addr} {o : Obj} (e : h.get? f = some o) : ObjOk P w H h f (FnO f o) :=
  ⟨e, ⟨o, e⟩, fun _ _ p k => k _ p⟩
section
variable {X : Cx} {pins : List (Addr × Obj)} {σ : L2.St} {H : Hp} {s : Shared}
/-- a lambda is made, and its object is known from now on -/
theorem lam_made {T : List (Addr × Str)} {c P : Addr} {params : Arguments} {body : Expr} {scope : Scope} {pos : Pos} {E : Value → Shared → Prop} {Q : Value → Shared → Prop} (I : Inv X pins σ H s) (TB : TabB X.base X.mg c P) (hcode : X.env.code = .ref c)
    (hm : (P, X.env.qual ++ "<lambda>") ∈ T) (hu : ∀ p ∈ T, p.1 = P → p.2 = X.env.qual ++ "<lambda>") (hT : Tabs T H) (hdef : defaultsOf params X.env = ([], []))
    (hfree : ∀ y ∈ scope.names, y.2 = .free → ∃ c, X.env.cells.lookup y.1 = some c)
    (k : ∀ (f : Addr) (H1 : Hp) (s' : Shared), Inv X pins σ H1 s' → ExtN H H1 → Tabs T H1 → H f = none → LamO X H1 f params body scope → Q (.ref f) s') :
    wpAny (model X.prog X.w) X.A (eval (.Lambda params body scope pos) X.env) Q E s := by
  have here := hT _ hm
  obtain ⟨ps, hP, trip, among⟩ := here
  have oP : s.heap.get? P = some { cls := .none, data := .fields ps } := I.hok P _ hP
  have gl := I.mod.glob.keeps I.bk
  have cd := TB.code.keeps I.bk
  have bP := TB.bm.keeps I.bk
  refine PySem.W.kla_eval hdef ?_
  cases hc : codeAmong pos ps.toList with
  | some cv =>
    obtain ⟨c1, rfl, known⟩ := among pos cv hc
    refine PySem.W.kla_makeFunctionHit (mg := X.mg) (c := c) (P := P) (ps := ps) (closure_ok hfree) I.ok.glob gl hcode cd oP trip hc bP fun ctv h1 tk hx hsz => ?_
    have J : Inv X pins σ H { s with heap := h1, toks := tk } := I.kept fun b o e => hx b o e
    have new : H h1.objs.size = none := I.hok.fresh hsz
    have J2 := J.laid (a := h1.objs.size) (t' := tk) (h' := h1.push (lamObj X params body scope ((X.mg "__name__").getD .none) ctv c1)) (o := FnO h1.objs.size (lamObj X params body scope ((X.mg "__name__").getD .none) ctv c1))
      (fun b u e => Heap.get?_push_of_some _ e) (Nat.le_refl _) (fnO_ok (Heap.get?_push_size _ rfl))
    have eN : ExtN H (upd H h1.objs.size (FnO h1.objs.size (lamObj X params body scope ((X.mg "__name__").getD .none) ctv c1))) := fun b o e _ => by
      rw [upd_ne (ne_of_none e new)]
      exact e
    exact k _ _ _ J2 eN (hT.ext fun b o e => by rw [upd_ne (ne_of_none e new)]; exact e) new ⟨c1, _, _, upd_same, eN _ _ known codeO_ne⟩
  | none =>
    refine PySem.W.kla_makeFunction (mg := X.mg) (c := c) (P := P) (ps := ps) (closure_ok hfree) I.ok.glob gl hcode cd oP trip hc TB.gP bP fun c1 ctv h1 tk hx hge hlt hrec htb => ?_
    obtain ⟨c2, oc, vs, t, e2, hoc, hd, hv⟩ := hrec
    cases e2
    have nC : H c1 = none := I.hok.fresh hge
    have J := inv_table (t' := tk) (more := #[rawInt pos.line, rawInt pos.col, .ref c1]) (h' := h1) I hP hx htb hge ⟨oc, vs, t, hoc, hd, hv⟩
    have hsz : s.heap.objs.size ≤ h1.objs.size := Nat.le_trans hge (Nat.le_of_lt hlt)
    have new0 : H h1.objs.size = none := I.hok.fresh hsz
    have new : upd (upd H P (.tbl (ps ++ #[rawInt pos.line, rawInt pos.col, .ref c1]))) c1 (CodeO c1 (X.env.qual ++ "<lambda>")) h1.objs.size = none := J.hok.fresh (Nat.le_refl _)
    have J2 := J.laid (a := h1.objs.size) (t' := tk) (h' := h1.push (lamObj X params body scope ((X.mg "__name__").getD .none) ctv c1)) (o := FnO h1.objs.size (lamObj X params body scope ((X.mg "__name__").getD .none) ctv c1))
      (fun b u e => Heap.get?_push_of_some _ e) (Nat.le_refl _) (fnO_ok (Heap.get?_push_size _ rfl))
    have eA : ExtN H (upd (upd H P (.tbl (ps ++ #[rawInt pos.line, rawInt pos.col, .ref c1]))) c1 (CodeO c1 (X.env.qual ++ "<lambda>"))) := fun b o e n => by
      have h1 : b ≠ P := fun z => by
        rw [z, hP] at e
        exact n ps (Option.some.inj e).symm
      rw [upd_ne (ne_of_none e nC), upd_ne h1]
      exact e
    have known : upd (upd H P (.tbl (ps ++ #[rawInt pos.line, rawInt pos.col, .ref c1]))) c1 (CodeO c1 (X.env.qual ++ "<lambda>")) c1 = some (CodeO c1 (X.env.qual ++ "<lambda>")) := upd_same
    have tA : Tabs T (upd (upd H P (.tbl (ps ++ #[rawInt pos.line, rawInt pos.col, .ref c1]))) c1 (CodeO c1 (X.env.qual ++ "<lambda>"))) := fun p hp => by
      by_cases hb : p.1 = P
      · rw [hu p hp hb, hb]
        refine ⟨ps ++ #[rawInt pos.line, rawInt pos.col, .ref c1], by rw [upd_ne (ne_of_none hP nC), upd_same], ?_, fun p2 cv hcv => ?_⟩
        · rw [Array.toList_append]
          exact PySem.TriplesOk_snoc _ _ _ _ trip
        · rw [Array.toList_append] at hcv
          rcases among_app _ trip hcv with z | z
          · obtain ⟨c0, e1, e3⟩ := among p2 cv z
            exact ⟨c0, e1, eA _ _ e3 codeO_ne⟩
          · exact ⟨c1, z, known⟩
      · obtain ⟨qs, a1, a2, a3⟩ := hT p hp
        refine ⟨qs, by rw [upd_ne (ne_of_none a1 nC), upd_ne hb]; exact a1, a2, fun p2 cv hcv => ?_⟩
        obtain ⟨c0, e1, e3⟩ := a3 p2 cv hcv
        exact ⟨c0, e1, eA _ _ e3 codeO_ne⟩
    generalize upd (upd H P (.tbl (ps ++ #[rawInt pos.line, rawInt pos.col, .ref c1]))) c1 (CodeO c1 (X.env.qual ++ "<lambda>")) = HA at J J2 new eA known tA
    have st : ∀ b o, HA b = some o → upd HA h1.objs.size (FnO h1.objs.size (lamObj X params body scope ((X.mg "__name__").getD .none) ctv c1)) b = some o := fun b o e => by
      rw [upd_ne (ne_of_none e new)]
      exact e
    exact k _ _ _ J2 (eA.trans (ExtN.of st)) (tA.ext st) new0 ⟨c1, _, _, upd_same, st _ _ known⟩
/-- a lambda as a value -/
theorem pe_lamV {T : List (Addr × Str)} {c P : Addr} {params : Arguments} {body : Expr} {scope : Scope} {pos : Pos} (TB : TabB X.base X.mg c P) (hcode : X.env.code = .ref c) (hm : (P, X.env.qual ++ "<lambda>") ∈ T)
    (hu : ∀ p ∈ T, p.1 = P → p.2 = X.env.qual ++ "<lambda>") (L : LamS X.env.scope scope) (hdef : defaultsOf params X.env = ([], [])) :
    PE X (.Lambda params body scope pos) (fun _ H Q => Tabs T H ∧ ∀ f H1, ExtN H H1 → Tabs T H1 → H f = none → LamO X H1 f params body scope → Q (.ref f) H1) := by
  refine ⟨fun pins s σ H Q I h => ?_⟩
  obtain ⟨hT, h⟩ := h
  exact lam_made I TB hcode hm hu hT hdef (L.has I.ok) fun f H1 s' J eN tA nf l => ⟨.ref f, H1, J, rfl, h f H1 eN tA nf l⟩
end
end LamX

set_option Elab.async false
set_option linter.all false
set_option maxRecDepth 100000
set_option maxHeartbeats 4000000
/-! A def that calls what it got, where what it got is a lambda kept before. -/
namespace LamX
open PySem PySem.Spec PyProof.Rows L2
/-- what a lambda of X must be -/
structure LamOk (X : Cx) (k : Nat) (params : Arguments) (body : Expr) (scope : Scope) (t : XK → TE) : Prop where
  own : LamS X.env.scope scope
  bind : ∀ (q : Str) (cl : List (Str × Addr)) (pm cv ctv : Value), bindArgs (PySem.W.kla_fn "<lambda>" q params body scope cl pm cv ctv) ⟨[], []⟩ = pure []
  reads : ∀ (A : Around) (outer : List Env) (s : Shared) (H : Hp) (E : XK) (f c' : Addr), Room k (A.deeper (lamEnv X scope s.heap.objs.size f c')) → PE (lamCx X A outer s H E scope f c') body (t E)
/-- a def x(a) that calls a: f stands for what it got, Kn is what is known of f -/
def GivesK (X : Cx) (Ng : List Str) (x : Str) (sg : Scope) (g : Addr) (cdg : Value) (bg : List Stmt) (a : Str) (TT : (XK → Hp → VK → Prop) → Hp → VK → Prop) : Prop :=
  ∀ (f : Addr) (Kn : Hp → Prop) (s : Shared) (H : Hp) (Q : VK) (tl : XK → Hp → VK → Prop), (∀ H H' : Hp, Kn H → (∀ b o, H b = some o → H' b = some o) → Kn H') →
    (∀ (W : WX) (pn : List (Addr × Obj)) (xe : Value → Shared → Prop) (E : XK) (p1 p2 : Pos), Takes ((cxOf C8.CX0 X.prog X.w X.K X.mg X.base Ng x sg g cdg X.A X.stack s H C8.E0).tr pn xe) W → (∀ cls d σ' H', E cls d H' → W cls d σ' H') →
      PE ((cxOf C8.CX0 X.prog X.w X.K X.mg X.base Ng x sg g cdg X.A X.stack s H C8.E0).tr pn xe) (.Call (.Name a p1) [] [] p2) (fun σZ HZ Q => σZ[0]? = some (some (.ref f)) ∧ Kn HZ ∧ tl E HZ Q)) →
    Kn H → TT tl H Q →
    ∃ t, PSs (cxOf C8.CX0 X.prog X.w X.K X.mg X.base Ng x sg g cdg X.A X.stack s H C8.E0).nox bg t ∧ t { nx := fun _ H' => Q .non H', rt := Q } (L2.start Ng [.ref f]) H
theorem GivesK.to {X : Cx} {Ng : List Str} {x a q : Str} {sg : Scope} {g : Addr} {cdg : Value} {bg : List Stmt} {TT : (XK → Hp → VK → Prop) → Hp → VK → Prop} (G : GivesK X Ng x sg g cdg bg a TT) : GivesTo X Ng x sg g cdg bg a q TT :=
  fun f c' s H Q tl act hc h => G f (fun HZ => HZ c' = some (CodeO c' q)) s H Q tl (fun _ _ z e => e _ _ z) act hc h
section
variable {X : Cx} {pins : List (Addr × Obj)} {σ : L2.St} {H : Hp} {s : Shared}
/-- a() in the def that got a kept lambda -/
theorem act_kept {CXg : CXT} {Eg : XK} {Ng : List Str} {qg : Str} {sg : Scope} {g f c1 : Addr} {cdg pm ctv : Value} {params : Arguments} {body : Expr} {scope : Scope} {k i : Nat} {a : Str} {pn : List (Addr × Obj)} {xe : Value → Shared → Prop} {W : WX} {E : XK} {t : XK → TE} {p1 p2 : Pos}
    (I : Inv X pins σ H s) (l : LamOk X k params body scope t) (tk : Takes ((cxOf CXg X.prog X.w X.K X.mg X.base Ng qg sg g cdg X.A X.stack s H Eg).tr pn xe) W) (hW : ∀ cls d σ' H', E cls d H' → W cls d σ' H')
    (room : Room (k + 1) (X.A.deeper (envOfC qg sg s.heap.objs.size g cdg))) (hN : Ng[i]? = some a) (hv : Vis sg a) (hd : (a == ("__debug__" : Str)) = false := by decide) (hcd : (a == ("__classdict__" : Str)) = false := by decide) :
    PE ((cxOf CXg X.prog X.w X.K X.mg X.base Ng qg sg g cdg X.A X.stack s H Eg).tr pn xe) (.Call (.Name a p1) [] [] p2)
      (fun σZ HZ Q => σZ[i]? = some (some (.ref f)) ∧ (HZ f = some (FnO f (lamObj X params body scope pm ctv c1)) ∧ HZ c1 = some (CodeO c1 (X.env.qual ++ "<lambda>"))) ∧ t E σ HZ Q) := by
  have own := l.own
  refine ⟨fun pinsZ sZ σZ HZ Q IZ h => ?_⟩
  obtain ⟨at_, ⟨kf, kc⟩, rest⟩ := h
  have name := (pe_var (pos := p1) (i := i) hN hv hd hcd).run pinsZ sZ σZ HZ (fun v H1 => v = .ref f ∧ H1 = HZ) IZ ⟨.ref f, at_, rfl, rfl⟩
  refine wpAny_Call_Name_kw (thn name fun u s1 z => ?_)
  obtain ⟨v, H1, J, rel, rfl, rfl⟩ := z
  obtain rfl : u = Value.ref f := rel
  have obj : s1.heap.get? f = some (lamObj X params body scope pm ctv c1) := (J.hok f _ kf).1
  have code := (J.hok c1 _ kc).1
  obtain ⟨oc, vs, tt, code1, code2, code3⟩ := code
  refine PySem.W.callWith_F0 ⟨_, _, _, _, obj⟩ ?_
  have ran : codeAny (model X.prog X.w) (X.A.deeper (envOfC qg sg s.heap.objs.size g cdg)) (.call (.ref f) ⟨[], []⟩) (CR (L2.CX X.prog X.w) (envOfC qg sg s.heap.objs.size g cdg :: X.stack) X.prog X.w H1 s1 Q E) s1 := by
    refine PySem.W.kla_callFunE room.depth obj rfl own.co own.gen rfl ⟨c1, oc, vs, tt, rfl, code1, code2, code3⟩ ?_
    rw [l.bind]
    refine wpAny_pure (wpAny_newFunctionEnv (fun y hy => (own.own y hy).2) (fun y hy => absurd hy (by simp)) (fun h₁ hns hsb => ?_) own.kind)
    refine ⟨J.nolimit.fresh _ hsb, ?_⟩
    have stay : ∀ b o, s1.heap.get? b = some o → h₁.get? b = some o := fun b o e => hsb.extBut b o (Nat.ne_of_lt (Heap.lt_size e)) (Heap.get?_push_of_some _ e)
    have start : Inv (lamCx X (X.A.deeper (envOfC qg sg s.heap.objs.size g cdg)) (envOfC qg sg s.heap.objs.size g cdg :: X.stack) s1 H1 E scope f c1) [] σ H1 { s1 with heap := h₁, toks := s1.toks + ([] : List (Str × Value)).length } :=
      lam_start2 I own J.env0 room.hd J.base hns stay
    have go := (l.reads _ _ s1 H1 E f c1 (room.deeper _)).run [] _ _ H1 Q start rest
    refine PySem.W.kla_codeExpr (wpAny_mono go (fun v s' hq => ?_) fun e s' hq => hq)
    obtain ⟨w', H', J', rv, q⟩ := hq
    exact ⟨w', H', J'.os, J'.bare, J'.base, J'.hok, rv, q⟩
  have out : Passes (L2.CX X.prog X.w) ((cxOf CXg X.prog X.w X.K X.mg X.base Ng qg sg g cdg X.A X.stack s H Eg).tr pn xe) E := passes_call tk hW
  refine wpAny_call (codeAny_mono ran fun r s' hq => ?_)
  match r, hq with
  | .error e, hq => exact out pinsZ σZ H1 s1 e s' J hq
  | .ok (.ret u), hq => exact J.after hq
  | .ok .next, hq => exact False.elim hq
  | .ok .brk, hq => exact False.elim hq
  | .ok .cont, hq => exact False.elim hq
/-- a kept lambda, handed on -/
def tLamV (X : Cx) (k : Nat) (TT : (XK → Hp → VK → Prop) → Hp → VK → Prop) (ta : TA) : TE := fun σ H Q => ta σ H fun vs H1 =>
  ∃ (f : Addr) (params : Arguments) (body : Expr) (scope : Scope) (t : XK → TE), vs = [.ref f] ∧ LamOk X k params body scope t ∧ LamO X H1 f params body scope ∧ TT (fun E H' Q' => t E σ H' Q') H1 Q
theorem pe_keptcall {TT : (XK → Hp → VK → Prop) → Hp → VK → Prop} {x a : Str} {g : Addr} {k : Nat} {pg : Arguments} {bg : List Stmt} {sg : Scope} {dV kV doc pm cdv ct oc : Value} {an od : Option Addr} {osl : Array (Option Value)} {Ng : List Str} {e : Expr} {ta : TA} {p pos : Pos}
    (hg : Gl X x) (hm : X.mg x = some (.ref g)) (hk : PySem.W.keepIn X.K (.ref g) = true) (lk : X.K.lookup g = some ⟨oc, od, .func (PySem.W.fnOf x x pg bg sg dV kV doc pm an cdv ct), osl⟩) (hcg : PySem.W.codeIn X.K cdv x = true)
    (hb : L2.Binds X.K (PySem.W.fnOf x x pg bg sg dV kV doc pm an cdv ct) [a] []) (Sg : FnScope Ng [a] sg) (hNg : Ng[0]? = some a) (hva : Vis sg a) (hG : GivesK X Ng x sg g cdv bg a TT) (hr : Room (k + 2) X.A) (ha : PA X [e] ta)
    (he : starEach [e] X.env = (false, eval e X.env) :: starEach [] X.env := by rfl) (hpl : (backTo pos (starEach [] X.env)).any (·.1) = false := by rfl) (hdb : (x == ("__debug__" : Str)) = false := by decide) (hd : (a == ("__debug__" : Str)) = false := by decide) (hcd : (a == ("__classdict__" : Str)) = false := by decide) :
    PE X (.Call (.Name x p) [e] [] pos) (tLamV X k TT ta) := by
  refine ⟨fun pins s σ H Q I h => ?_⟩
  refine wpAny_Call_Name_kw (ld_glob I hg hm ?_ hdb)
  refine PySem.W.callWith_K (h₀ := X.base) I.ok.mod.kin hk (thn (ha.run pos pins s σ H _ I h) fun us s1 z => ?_) he hpl
  obtain ⟨vs, H1, J, rel, f, params, body, scope, t, rfl, ok, ⟨c1, pmf, ctf, kf, kc⟩, q⟩ := z
  obtain ⟨u, rfl, ru⟩ : ∃ u, us = [u] ∧ RelV (.ref f) u := by
    cases rel with
    | cons r rr =>
      cases rr
      exact ⟨_, rfl, r⟩
  obtain rfl : u = Value.ref f := ru
  refine ⟨J.kIn, ?_⟩
  have ran : codeAny (model X.prog X.w) X.A (.call (.ref g) ⟨[.ref f], []⟩) (CR C8.CX0 X.stack X.prog X.w H1 s1 Q C8.E0) s1 := by
    refine run_ofS (N := Ng) (ps := [a]) (us := [.ref f]) (vs := [.ref f]) lk hcg Sg hr J.env0 (hb s1 [.ref f] J.kIn rfl) (.cons rfl .nil) rfl fun room => ?_
    obtain ⟨t1, ht1, hq1⟩ := hG f (fun HZ => HZ f = some (FnO f (lamObj X params body scope pmf ctf c1)) ∧ HZ c1 = some (CodeO c1 (X.env.qual ++ "<lambda>"))) s1 H1 Q (fun E H' Q' => t E σ H' Q')
      (fun _ _ z e => ⟨e _ _ z.1, e _ _ z.2⟩) (fun W pn xe E p1 p2 tk hW => act_kept (i := 0) J ok tk hW room hNg hva hd hcd) ⟨kf, kc⟩ q
    exact ⟨t1, ht1.nox, hq1⟩
  refine wpAny_call (codeAny_mono ran fun r s2 hq => ?_)
  match r, hq with
  | .error e, hq => exact (show False from hq).elim
  | .ok (.ret u), hq => exact J.after hq
  | .ok .next, hq => exact False.elim hq
  | .ok .brk, hq => exact False.elim hq
  | .ok .cont, hq => exact False.elim hq
end
end LamX

set_option Elab.async false
set_option linter.all false
set_option maxRecDepth 100000
set_option maxHeartbeats 4000000
/-! zip(text, text). -/
namespace L2
open PySem PySem.Spec PyProof.Rows
/-- the signs of two texts of one length, in new pairs -/
def ItSz (x y : Str) (n : Nat) : It :=
  ⟨fun i _ => i < n, fun i H v H' => ∃ T c d, v = .ref T ∧ H T = none ∧ H' = upd H T (.tup [.str ⟨#[c]⟩, .str ⟨#[d]⟩]) ∧ x.cps[i]? = some c ∧ y.cps[i]? = some d, fun i _ => i = n⟩
theorem turn_zipS {P : Program} {w : World} {K : PySem.W.Frag} {elts : List Expr} {kk : Nat} {tpos : Pos} {n : Nat} (x y : Str) (t t2 : Tok) {z TI TO i1 i2 : Addr} (S : ZipSep2 z TI TO i1 i2 [i1] [i2]) (ex : x.cps.size = n) (ey : y.cps.size = n) :
    Turn P w K (.Tuple elts kk tpos) (ItSz x y n) [z, TI, TO, i1, i2] z (fun i h => IsZip h z TI TO .none ∧ IsTupOf2 h TI (.ref i1) (.ref i2) ∧ (∃ a b, IsTupOf2 h TO a b) ∧ h.IsStrIter i1 (strIterType x) x t i ∧ h.IsStrIter i2 (strIterType y) y t2 i) where
  mem := by simp
  obj := fun i h st c hc => by
    obtain ⟨hz, hTI, ⟨a, b, hTO⟩, ⟨o1, e1, _, d1⟩, ⟨o2, e2, _, d2⟩⟩ := st
    have e' : c = z ∨ c = TI ∨ c = TO ∨ c = i1 ∨ c = i2 := by simpa using hc
    rcases e' with q | q | q | q | q
    · rw [q]; exact ⟨_, hz, fun v q => nomatch q⟩
    · rw [q]; exact ⟨_, hTI, fun v q => nomatch q⟩
    · rw [q]; exact ⟨_, hTO, fun v q => nomatch q⟩
    · rw [q]; exact ⟨o1, e1, fun v q => by rw [d1] at q; cases q⟩
    · rw [q]; exact ⟨o2, e2, fun v q => by rw [d2] at q; cases q⟩
  keep := fun i h h' st k => by
    obtain ⟨hz, hTI, ⟨a, b, hTO⟩, ⟨o1, q1, r1⟩, ⟨o2, q2, r2⟩⟩ := st
    exact ⟨k z (by simp) _ hz, k TI (by simp) _ hTI, ⟨a, b, k TO (by simp) _ hTO⟩, ⟨o1, k i1 (by simp) _ q1, r1⟩, ⟨o2, k i2 (by simp) _ q2, r2⟩⟩
  item := by
    intro X hP hw hK hc i pins s σ H E I hf st hg
    subst hP hw hK
    obtain ⟨hz, hTI, ⟨a0, b0, hTO⟩, h1, h2⟩ := st
    have hzl : z < s.heap.objs.size := Heap.lt_size hz
    have hl1 : i < x.cps.size := by rw [ex]; exact hg
    have hl2 : i < y.cps.size := by rw [ey]; exact hg
    refine wpAny_pyNext_zipD2_item S (Draws.text (A := X.A.in1) (I.ok.hd hc) i1 x t) (Draws.text (A := X.A.in1) (I.ok.hd hc) i2 y t2) hz hTI hTO h1 h2 hl1 hl2 fun x1 x2 h' tk hx1 hx2 z' TO' h1' h2' hT hsz hk => ?_
    obtain ⟨c, u, hcx, rfl⟩ := hx1
    obtain ⟨d, u2, hdx, rfl⟩ := hx2
    refine ⟨_, rfl, wpAny_letOwnedTupleGo_zip (s := { s with heap := h', toks := tk }) z' fun h'' z'' sb => ?_⟩
    have hT2 : h''.get? s.heap.objs.size = some { cls := .type "tuple", data := .seq #[.str ⟨#[c]⟩ u, .str ⟨#[d]⟩ u2] } := (sb.2 _ (Nat.ne_of_gt hzl)).trans hT
    have new : ObjOk X.prog X.w (upd H s.heap.objs.size (.tup [.str ⟨#[c]⟩, .str ⟨#[d]⟩])) h'' s.heap.objs.size (.tup [.str ⟨#[c]⟩, .str ⟨#[d]⟩]) :=
      ⟨by show 2 ≤ sizeLine; decide, [.str ⟨#[c]⟩ u, .str ⟨#[d]⟩ u2], .cons ⟨_, rfl⟩ (.cons ⟨_, rfl⟩ .nil), ⟨_, hT2, rfl, _, rfl⟩⟩
    have I1 : Inv X pins σ (upd H s.heap.objs.size (.tup [.str ⟨#[c]⟩, .str ⟨#[d]⟩])) { s with heap := h'', toks := tk } :=
      I.turnedNew (t' := tk) (ch := [z, TI, TO, i1, i2]) (fun c o hb q => (sb.2 c (fun q' => hb (by simp [q']))).trans (hk c o (fun q' => hb (by simp [q'])) (fun q' => hb (by simp [q'])) (fun q' => hb (by simp [q'])) (fun q' => hb (by simp [q'])) q)) hf (Nat.le_refl _) new
    refine ⟨.ref s.heap.objs.size, _, I1, rfl, ⟨_, c, d, rfl, I.hok.fresh (Nat.le_refl _), rfl, hcx, hdx⟩, ⟨z'', ?_, ⟨.str ⟨#[c]⟩ u, .str ⟨#[d]⟩ u2, ?_⟩, ?_, ?_⟩, fun c hcm => ?_⟩
    · exact (sb.2 _ S.TIz).trans (hk _ _ S.TIz S.TITO S.TIi1 S.TIi2 hTI)
    · exact (sb.2 _ S.TOz).trans TO'
    · obtain ⟨o, q, r⟩ := h1'
      exact ⟨o, (sb.2 _ (Ne.symm S.zi1)).trans q, r⟩
    · obtain ⟨o, q, r⟩ := h2'
      exact ⟨o, (sb.2 _ (Ne.symm S.zi2)).trans q, r⟩
    · have hlt : c < s.heap.objs.size := by
        have e' : c = z ∨ c = TI ∨ c = TO ∨ c = i1 ∨ c = i2 := by simpa using hcm
        rcases e' with q | q | q | q | q
        · rw [q]; exact hzl
        · rw [q]; exact Heap.lt_size hTI
        · rw [q]; exact Heap.lt_size hTO
        · rw [q]; obtain ⟨_, e1, _⟩ := h1; exact Heap.lt_size e1
        · rw [q]; obtain ⟨_, e2, _⟩ := h2; exact Heap.lt_size e2
      rw [upd_ne (Nat.ne_of_lt hlt)]
      exact (hf c hcm).1
  done := by
    intro X hP hw hK hc i pins s σ H E I hf st hg
    subst hP hw hK
    obtain ⟨hz, hTI, ⟨a0, b0, hTO⟩, h1, h2⟩ := st
    have hi : i = n := hg
    exact wpAny_pyNext_zipD2_end S (Draws.text (A := X.A.in1) (I.ok.hd hc) i1 x t) (Draws.text (A := X.A.in1) (I.ok.hd hc) i2 y t2) hz hTI hTO h1 h2 (by omega) (by omega) (.inl (by omega)) fun h' tk hk => ⟨rfl, I.turnedL (t' := tk) (ch := [z, TI, TO, i1, i2]) (fun c o hb q =>
      hk c o (fun q' => hb (by simp [q'])) (fun q' => hb (by simp [q'])) (fun q' => hb (by simp [q'])) (fun q' => hb (by simp [q'])) q) hf⟩
  self := fun A i s Q E st h => wpAny_pyIter_zip st.1 h
theorem zsep (n : Nat) : ZipSep2 (n + 4) (n + 2) (n + 3) n (n + 1) [n] [n + 1] where
  TIz := by show (n + 2 : Nat) ≠ n + 4; omega
  TOz := by show (n + 3 : Nat) ≠ n + 4; omega
  TITO := by show (n + 2 : Nat) ≠ n + 3; omega
  TIi1 := by show (n + 2 : Nat) ≠ n; omega
  mem1 := List.mem_singleton.mpr rfl
  zf1 := fun h => by have : (n + 4 : Nat) = n := List.mem_singleton.mp h; omega
  Tf1 := fun h => by have : (n + 3 : Nat) = n := List.mem_singleton.mp h; omega
  TIi2 := by show (n + 2 : Nat) ≠ n + 1; omega
  mem2 := List.mem_singleton.mpr rfl
  zf2 := fun h => by have : (n + 4 : Nat) = n + 1 := List.mem_singleton.mp h; omega
  Tf2 := fun h => by have : (n + 3 : Nat) = n + 1 := List.mem_singleton.mp h; omega
  sep1_2 := fun h => by have : (n : Nat) = n + 1 := List.mem_singleton.mp h; omega
  sep2_1 := fun h => by have : (n + 1 : Nat) = n := List.mem_singleton.mp h; omega
def iZipS (ta : TA) : TI := fun σ H R => ta σ H fun vs H1 => ∃ x y n, vs = [.str x, .str y] ∧ x.cps.size = n ∧ y.cps.size = n ∧ R (ItSz x y n) H1
theorem pi_zipS {X : Cx} {e e2 : Expr} {ta : TA} {p pos tpos : Pos} {elts : List Expr} {kk : Nat} (hg : Gl X "zip") (hm : X.mg "zip" = none) (ha : PA X [e, e2] ta)
    (hs : starEach [e, e2] X.env = (false, eval e X.env) :: starEach [e2] X.env := by rfl) (hpl : (backTo pos (starEach [e2] X.env)).any (·.1) = false := by rfl) :
    PI X (.Tuple elts kk tpos) (.Call (.Name "zip" p) [e, e2] [] pos) (iZipS ta) := by
  refine ⟨fun pins s σ H R I h => ?_⟩
  refine Call_ (ld_blt I hg hm PyProof.Rows.boot_zip (PyProof.Rows.callWith_type1 (thn (ha.run pos pins s σ H _ I h) fun us s1 ⟨vs, H1, I1, r1, q1⟩ => ?_) hs hpl))
  obtain ⟨x, y, n, rfl, ex, ey, q⟩ := q1
  cases r1 with
  | cons r rr =>
    cases rr with
    | cons r' rr =>
      cases rr
      obtain ⟨t, rfl⟩ := r
      obtain ⟨t2, rfl⟩ := r'
      have fresh5 : ∀ c, c ∈ [s1.heap.objs.size + 4, s1.heap.objs.size + 2, s1.heap.objs.size + 3, s1.heap.objs.size, s1.heap.objs.size + 1] → FpOk X pins H1 c := fun c hcm => by
        have e' : c = s1.heap.objs.size + 4 ∨ c = s1.heap.objs.size + 2 ∨ c = s1.heap.objs.size + 3 ∨ c = s1.heap.objs.size ∨ c = s1.heap.objs.size + 1 := by simpa using hcm
        have hle : s1.heap.objs.size ≤ c := by
          rcases e' with z | z | z | z | z
          · rw [z]; exact Nat.le_add_right _ _
          · rw [z]; exact Nat.le_add_right _ _
          · rw [z]; exact Nat.le_add_right _ _
          · rw [z]; exact Nat.le_refl _
          · rw [z]; exact Nat.le_add_right _ _
        exact I1.fpOk hle (I1.hok.fresh hle)
      refine zip_begins2 (begins_text x t) (begins_text y t2) trivial trivial fun h' hz hTI hTO h1 h2 hsz hk => wpAny_pyIter_zip hz ?_
      have I2 : Inv X pins σ H1 { s1 with heap := h' } := I1.kept (t' := s1.toks) hk
      refine ⟨s1.heap.objs.size + 4, [s1.heap.objs.size + 4, s1.heap.objs.size + 2, s1.heap.objs.size + 3, s1.heap.objs.size, s1.heap.objs.size + 1], _, _, H1, rfl, I2, turn_zipS x y t t2 (zsep _) ex ey, ⟨hz, hTI, ⟨_, _, hTO⟩, ⟨_, h1, rfl, rfl⟩, ⟨_, h2, rfl, rfl⟩⟩, fresh5, q⟩
theorem walk_zipS {x y : Str} {n : Nat} : Walk (ItSz x y n) n (fun _ => True) (fun i H v H' => ∃ T c d, v = .ref T ∧ H T = none ∧ H' = upd H T (.tup [.str ⟨#[c]⟩, .str ⟨#[d]⟩]) ∧ x.cps[i]? = some c ∧ y.cps[i]? = some d) :=
  ⟨fun _ _ hi _ => hi, fun _ _ => rfl, fun _ _ _ _ _ _ y => y⟩
end L2

set_option Elab.async false
set_option linter.all false
set_option maxRecDepth 100000
set_option maxHeartbeats 4000000
/-! text * k. -/
namespace L2
open PySem PySem.Spec PyProof.Rows
theorem op_repS {X : Cx} : OpR X (binaryOp .Mult) (fun x y H Q => ∃ z k, x = .str z ∧ y = .int k ∧ z.length ≤ 1000 ∧ 0 ≤ k ∧ k ≤ 1000 ∧ Q (.str (Txt.mul z k)) H) := by
  intro pins s σ H x y v u Q I rx ry h
  obtain ⟨z, k, rfl, rfl, hz, k0, k1, q⟩ := h
  obtain ⟨t, rfl⟩ := rx
  obtain ⟨t', rfl⟩ := ry
  exact SB.mul (PyProof.Rows.mulOk_of 1000 1000 hz k1 (by omega) (by decide) (by decide)) fun t' tk => ⟨.str _, H, I.tok _, ⟨_, rfl⟩, q⟩
end L2

set_option Elab.async false
set_option linter.all false
set_option maxRecDepth 100000
set_option maxHeartbeats 4000000
/-! Equal dicts, whose values are data of any depth; iter(a dict) and loops by it. -/
namespace L2
open PySem PySem.Spec PyProof.Rows ItX
section
variable {X : Cx} {pins : List (Addr × Obj)} {σ : L2.St} {H : Hp} {s : Shared}
/-- each of the one has an equal one behind the same key -/
def AlikeD (K : PySem.W.Frag) (H : Hp) (ks ls : List (Key × V)) : Prop := ∀ p ∈ ks, ∃ y d, valV ls p.1 = some y ∧ Dp K H p.2 d ∧ Dp K H y d ∧ SeqAt.shaped d = true
theorem hits_data {A : Around} (I : Inv X pins σ H s) (hA : A.units + 64 < cLine) {ls : List (Key × V)} {vb : List (Key × Value)} (rb : KV ls vb) {ks : List (Key × V)} {va : List (Key × Value)} (ra : KV ks va) : AlikeD X.K H ks ls → PySem.W.KeqHits A s vb va true := by
  unfold KV at ra
  induction ra with
  | nil => intro _; exact .nil
  | @cons p q ps qs h t ih =>
    intro hp
    obtain ⟨y, d, e, d1, d2, sh⟩ := hp p List.mem_cons_self
    obtain ⟨h1, h2⟩ := h
    obtain ⟨k, v⟩ := q
    have h1' : p.1 = k := h1
    have rr : RelO (valV ls p.1) (valueAt vb p.1) := rb.val p.1
    rw [e] at rr
    obtain ⟨y', hy, ry⟩ := rr.some_of
    rw [h1'] at hy
    obtain ⟨as, r1⟩ := Dp.reads I d p.2 v d1 h2
    obtain ⟨bs, r2⟩ := Dp.reads I d y y' d2 ry
    have sh' : (d.canLay0 && decide (d.depth ≤ 64)) = true := sh
    rw [Bool.and_eq_true] at sh'
    have dep := of_decide_eq_true sh'.2
    have hh := SeqAt.eqAt_reads d d A s v y' as bs r1 r2 sh'.1 sh'.1 (by omega)
    rw [SeqAt.eqv_refl d sh'.1] at hh
    exact .hit hy hh (ih fun p' hm => hp p' (List.mem_cons_of_mem _ hm))
def rEqDD (K : PySem.W.Frag) : R2 := fun x y H Q => ∃ a b ks ls, x = .ref a ∧ y = .ref b ∧ Rd H a (.dK ks) ∧ Rd H b (.dK ls) ∧ ks.length = ls.length ∧ AlikeD K H ks ls ∧ Q (.bl true) H
theorem op_eqDD {K : PySem.W.Frag} {j : Nat} (hK : X.K = K) (hr : Room j X.A) : OpR X (compareOp .Eq) (rEqDD K) := by
  subst hK
  intro pins s σ H x y v u Q I rx ry h
  obtain ⟨a, b, ks, ls, rfl, rfl, ea, eb, hl, al, q⟩ := h
  obtain rfl : v = Value.ref a := rx
  obtain rfl : u = Value.ref b := ry
  obtain ⟨_, ya, va, ra, da⟩ := dk_rd I.hok ea
  obtain ⟨_, yb, vb, rb, db⟩ := dk_rd I.hok eb
  have h1 : va.length = ks.length := (Paired.length ra).symm
  have h2 : vb.length = ls.length := (Paired.length rb).symm
  have hu := hr.un
  refine PySem.W.keq_eq (knd := mixKind X.prog X.w) (r := true) ya yb da db (by omega) (fun _ => hits_data I (by show X.A.units + 1 + 64 < cLine; omega) rb ra al) (fin_bl I q ?_)
  rw [h1, h2, hl]
  simp
end
/-- at it a fresh iterator of the keys of the dict at d, whose object is o -/
def ItK (d : Addr) (o : Obj) (n : Nat) (it : Addr) : HO := .ext fun h => ∃ es ep, o.data = .dict es ep ∧ h.IsKeyIter it d 0 n ep
theorem itK_ok {P : Program} {w : World} {H : Hp} {h : Heap} {d it : Addr} {o : Obj} {n : Nat} {es : Array DictEntry} {ep : Nat} (e : o.data = .dict es ep) (k : h.IsKeyIter it d 0 n ep) : ObjOk P w H h it (ItK d o n it) := by
  obtain ⟨oi, e1, e2, e3⟩ := id k
  exact ⟨⟨es, ep, e, k⟩, ⟨oi, e1⟩, fun h1 h2 q st => by
    obtain ⟨es', ep', e', k'⟩ := q
    exact ⟨es', ep', e', k'.at fun oi e => st oi e⟩⟩
section
variable {X : Cx}
theorem call_iterK : CallR X (.builtin "iter") (fun xs H Q => ∃ (d : Addr) (o : Obj) (kvs : List (Key × V)), xs = [.ref d] ∧ H d = some (.frz o (.dK kvs)) ∧ ∀ it, H it = none → X.s_0.heap.objs.size ≤ it → Q (.ref it) (upd H it (ItK d o kvs.length it))) := by
  intro pins s σ H xs us Q I r h
  obtain ⟨d, o, kvs, rfl, hd, q⟩ := h
  obtain rfl := Vals.ref1 r
  obtain ⟨hs, hgd, hx, es, ep, vs, hdt, hsz, kv, hm⟩ := I.frzK hd
  refine Calls.call_function_entry (by decide +kernel) (by decide +kernel) PySem.W.kdk_entry_iter (PySem.W.kdk_args_iter _) ?_
  unfold Builtin.«iter»
  refine wpAny_bind (m := someArgs "iter" 1 2 _) (wpAny_of_eq (a := [Value.ref d]) (by first | rfl | kernel_rfl!) ?_)
  show wpAny _ _ (pyIter (.ref d) >>= _) _ _ _
  refine wpAny_bind (iter_keys hs hgd hx hdt ?_)
  have key : (s.heap.push { cls := .type "dict_keyiterator", data := .fields #[.ref d, .int 0 0, .int es.size 0, .int ep 0] }).IsKeyIter s.heap.objs.size d 0 kvs.length ep := by
    refine ⟨_, Heap.get?_push_size _ rfl, rfl, ?_⟩
    rw [hsz] <;> rfl
  exact wpAny_pure ⟨_, rfl, .ref s.heap.objs.size, _, I.laid (t' := s.toks) (fun b u e => Heap.get?_push_of_some _ e) (Nat.le_refl _) (itK_ok hdt key), rfl, q _ (I.hok.fresh (Nat.le_refl _)) I.sz⟩
variable {n : Nat} {CX : CXT} {C f : Addr} {fd : FuncData} {ps : List Str} {sp : Sp} {E : XK} {sn : Nat → Sp}
/-- a loop by the class's own __iter__, which gives iter(a dict) -/
def iOwnK (K : PySem.W.Frag) (C : Addr) (m : Nat) (sn : Nat → Sp) (E : XK) (tl : TE) : TI := fun σ H R => tl σ H fun x H1 => ∃ a dx fs, x = .ref a ∧ H1 a = some (.ins C dx fs) ∧
  ∀ k, m ≤ k → sn k [.ref a] H1 (fun v H' => ∃ it d o kvs, v = .ref it ∧ k ≤ it ∧ H' it = some (ItK d o kvs.length it) ∧ H' d = some (.frz o (.dK kvs)) ∧ R (Itk d o kvs) (dropH H' it)) E
theorem pi_ownK {tg l : Expr} {tl : TE} (F : FnN X.prog X.w X.K X.mg X.base CX n f fd ps sn) (hb : Binds X.K fd ps []) (hx : Passes CX X E) (o : Own X.K C "__iter__" f) (hr : Room n X.A) (hl : PE X l tl) : PI X tg l (iOwnK X.K C X.s_0.heap.objs.size sn E tl) := by
  refine ⟨fun pins s σ H R I h => ?_⟩
  refine thn (hl.run pins s σ H _ I h) fun v s1 ⟨x, H1, I1, r1, q1⟩ => ?_
  obtain ⟨a, dx, fs, rfl, ha, hs⟩ := q1
  cases r1
  obtain ⟨od, J⟩ := inst_at I1 ha
  obtain ⟨m, hF⟩ := I1.fr
  refine PySem.W.owit_iter hF I1.ok.mod.kin J o.find o.fn (thn (run_N (Sub.here hr) F hb hx I1 (show Vals [V.ref a] [Value.ref a] from .cons rfl .nil) (hs s1.heap.objs.size I1.sz)) fun v s' q => ?_)
  obtain ⟨y, H', I', ry, ⟨it, d, ob, kvs, rfl, hn, hi, hd, q⟩⟩ := q
  cases ry
  have hy := Nat.le_trans I1.sz hn
  obtain ⟨es, ep, e1, k1⟩ := (I'.hok it _ hi).1
  obtain ⟨oi, e2, c2, d2⟩ := id k1
  have nd : d ≠ it := fun z => by
    rw [z, hi] at hd
    cases hd
  unfold PySem.W.OwitIt
  refine wpAny_specialOf (T := "dict_keyiterator") (v := .ref it) ⟨_, e2, c2⟩ PySem.F.slot_dict_keyiterator_next.lookup ?_
  refine ⟨it, [it], _, _, dropH H' it, rfl, inv_drop I' hi, turn_keys it e1, k1, fun b hb => ?_, q⟩
  have e : b = it := by simpa using hb
  subst e
  exact inv_fp I' hi hy
end
end L2

set_option Elab.async false
set_option linter.all false
set_option maxRecDepth 100000
set_option maxHeartbeats 4000000
/-! enumerate(a tuple). -/
namespace PySem
/-- enumerate's cells over what begins as B tells -/
theorem enumNewB {v : Value} {o : Obj} {H : Heap → Prop} (B : Begins v o H) :
    Meets (Builtin.«enumerate.__new__» ⟨[.type "enumerate", v], []⟩) (fun _ R s => H s.heap ∧
      R (.ok (.ret (.ref (s.heap.push o).objs.size))) { s with heap := (s.heap.push o).push { cls := .type "enumerate", data := .fields #[.none, .bool false, .ref s.heap.objs.size, rawInt 0, .none, .none] } }) :=
  .of_wp fun prog w A R s h => by
    obtain ⟨hp, g, d, tk, os⟩ := s
    obtain ⟨h1, h⟩ := h
    have sb := sub_enumerate
    have bg : ∀ {A' : Around} {E : Value → Shared → Prop} {Q : Value → Shared → Prop}, Q (.ref hp.objs.size) ⟨hp.push o, g, d, tk, os⟩ → wpAny (model prog w) A' (pyIter v) Q E ⟨hp, g, d, tk, os⟩ :=
      fun q => B.iter prog w _ _ ⟨hp, g, d, tk, os⟩ _ h1 q
    wp_walk using bg
    refine wpAny_stack_any fun _ => wpAny_pure ?_
    split
    · rename_i c _ _ _ _ _
      by_cases hc : (c == Value.type "enumerate") = true
      all_goals
        simp only [hc]
        wp_walk using bg
        exact ⟨_, rfl, h⟩
    · wp_walk using bg
      exact ⟨_, rfl, h⟩
theorem enumCall {prog : Program} {w : World} {A : Around} {E : Value → Shared → Prop} {s : Shared} {v : Value} {o : Obj} {H : Heap → Prop} {Q : Value → Shared → Prop} (B : Begins v o H) (h1 : H s.heap)
    (h : ∀ h', IsEnum h' (s.heap.objs.size + 1) s.heap.objs.size 0 .none → h'.get? s.heap.objs.size = some o → (∀ b o, s.heap.get? b = some o → h'.get? b = some o) → Q (.ref (s.heap.objs.size + 1)) { s with heap := h' }) :
    wpAny (model prog w) A (call (.type "enumerate") [v]) Q E s := by
  have sz : (s.heap.push o).objs.size = s.heap.objs.size + 1 := Heap.size_push ..
  refine callType_new F.called_enumerate (by decide) (F.typeCall_enumerate_1 _) (F.newCall_enumerate_1 _) (fun obj => F.args_object_init_2 obj _) F.entry_enumerate_new (enumNewB B) ⟨h1, ?_⟩
  show _ ∧ _
  have e1 := Heap.get?_push_size (s.heap.push o) (o := { cls := .type "enumerate", data := .fields #[.none, .bool false, .ref s.heap.objs.size, rawInt 0, .none, .none] }) rfl
  rw [sz] at e1 ⊢
  exact ⟨⟨_, e1, rfl⟩, h _ e1 (Heap.get?_push_of_some _ (Heap.get?_push_size _ B.free)) fun b u e => Heap.get?_push_of_some _ (Heap.get?_push_of_some _ e)⟩
end PySem
namespace L2
open PySem PySem.Spec PyProof.Rows
/-- the items of the tuple at a, each in a new pair behind its number -/
def ItTe (K : PySem.W.Frag) (a : Addr) : It :=
  ⟨fun i H => ∃ (xs : List V) (x : V), SqT K H a xs ∧ xs[i]? = some x, fun i H v H' => ∃ T x, v = .ref T ∧ H T = none ∧ H' = upd H T (.tup [.int (i : Nat), x]) ∧ ∀ xs, SqT K H a xs → xs[i]? = some x, fun i H => ∃ xs : List V, SqT K H a xs ∧ xs.length = i⟩
theorem turn_enumT {P : Program} {w : World} {K : PySem.W.Frag} {elts : List Expr} {kk : Nat} {tpos : Pos} (a e it : Addr) :
    Turn P w K (.Tuple elts kk tpos) (ItTe K a) [e, it] e (fun i h => (∃ old, IsEnum h e it ((i : Nat) : Int) old) ∧ h.IsTupleIter it a i ∧ e ≠ it) where
  mem := by simp
  obj := fun i h st b hb => by
    obtain ⟨⟨old, he⟩, ⟨o, ho, hc, hd⟩, _⟩ := st
    rcases (show b = e ∨ b = it by simpa using hb) with z | z
    · rw [z]; exact ⟨_, he, fun v q => nomatch q⟩
    · rw [z]; exact ⟨o, ho, fun v q => by rw [hd] at q; cases q⟩
  keep := fun i h h' st k => by
    obtain ⟨⟨old, he⟩, ⟨o, ho, r⟩, hne⟩ := st
    exact ⟨⟨old, k e (by simp) _ he⟩, ⟨o, k it (by simp) o ho, r⟩, hne⟩
  item := by
    intro X hP hw hK hc i pins s σ H E I hf st hg
    subst hP hw hK
    obtain ⟨⟨old, he⟩, hit, hne⟩ := st
    obtain ⟨xs, x, hq, hx⟩ := hg
    obtain ⟨its, rv, p, hz⟩ := I.tuple hq
    obtain ⟨u, hu, ru⟩ := rv.get hx
    have hi : i < its.toArray.size := by
      obtain ⟨hh, _⟩ := List.getElem?_eq_some_iff.mp hu
      simpa using hh
    have hel : e < s.heap.objs.size := Heap.lt_size he
    have hil : it < s.heap.objs.size := by obtain ⟨_, q, _⟩ := hit; exact Heap.lt_size q
    have pt : s.heap.IsTuple a its.toArray := p
    have nat : a ≠ it := by
      intro z
      obtain ⟨o1, q1, c1, _⟩ := pt
      obtain ⟨o2, q2, c2, _⟩ := hit
      rw [z, q2] at q1
      cases q1
      rw [c1] at c2
      exact absurd (Value.type.inj c2) (by decide)
    have nae : e ≠ a := by
      intro z
      obtain ⟨o1, q1, c1, _⟩ := pt
      have he' : s.heap.get? e = some _ := he
      rw [z, q1] at he'
      have z2 := Option.some.inj he'
      rw [z2] at c1
      have c3 : Value.type "enumerate" = .type "tuple" := c1
      exact absurd (Value.type.inj c3) (by decide)
    refine wpAny_pyNext_enum_itemD (Draws.tuple (A := X.A.in1) (I.ok.hd hc) it a nat its.toArray) he ⟨hit, pt⟩ hi hne (by simp [hne, nae]) fun y h' tk hy ho hit' hT hsz hk => ?_
    have ey : y = u := by
      have hy' : its[i]? = some y := by simpa using hy
      rw [hu] at hy'
      exact (Option.some.inj hy').symm
    subst ey
    refine ⟨_, rfl, wpAny_letOwnedTupleGo_enum (s := { s with heap := h', toks := tk + 1 }) ho fun h'' he' sb => ?_⟩
    have hT2 : h''.get? s.heap.objs.size = some { cls := .type "tuple", data := .seq #[.int i tk, y] } := (sb.2 _ (Nat.ne_of_gt hel)).trans hT
    have new : ObjOk X.prog X.w (upd H s.heap.objs.size (.tup [.int (i : Nat), x])) h'' s.heap.objs.size (.tup [.int (i : Nat), x]) :=
      ⟨by show 2 ≤ sizeLine; decide, [.int i tk, y], .cons ⟨_, rfl⟩ (.cons ru .nil), ⟨_, hT2, rfl, _, rfl⟩⟩
    have I1 : Inv X pins σ (upd H s.heap.objs.size (.tup [.int (i : Nat), x])) { s with heap := h'', toks := tk + 1 } :=
      I.turnedNew (ch := [e, it]) (fun b ob hb q => (sb.2 b (fun z => hb (by simp [z]))).trans (hk b ob (fun z => hb (by simp [z])) (fun z => hb (by simp [z])) q)) hf (Nat.le_refl _) new
    refine ⟨.ref s.heap.objs.size, _, I1, rfl, ⟨_, x, rfl, I.hok.fresh (Nat.le_refl _), rfl, fun ys hy => by rw [I.tuple_inj hy hq]; exact hx⟩, ⟨⟨y, ?_⟩, ?_, hne⟩, fun b hb => ?_⟩
    · have e1 : ((i + 1 : Nat) : Int) = (i : Int) + 1 := by omega
      rw [e1]; exact he'
    · obtain ⟨o, q, r⟩ := hit'.1
      exact ⟨o, (sb.2 it (Ne.symm hne)).trans q, r⟩
    · have hb' : b < s.heap.objs.size := by
        rcases (show b = e ∨ b = it by simpa using hb) with z | z
        · rw [z]; exact hel
        · rw [z]; exact hil
      rw [upd_ne (Nat.ne_of_lt hb')]
      exact (hf b hb).1
  done := by
    intro X hP hw hK hc i pins s σ H E I hf st hg
    subst hP hw hK
    obtain ⟨⟨old, he⟩, hit, hne⟩ := st
    obtain ⟨xs, hq, hx⟩ := hg
    obtain ⟨its, rv, p, hz⟩ := I.tuple hq
    have hl := rv.length
    have pt : s.heap.IsTuple a its.toArray := p
    have nat : a ≠ it := by
      intro z
      obtain ⟨o1, q1, c1, _⟩ := pt
      obtain ⟨o2, q2, c2, _⟩ := hit
      rw [z, q2] at q1
      cases q1
      rw [c1] at c2
      exact absurd (Value.type.inj c2) (by decide)
    have hi : its.toArray.size = i := by
      rw [List.size_toArray]
      omega
    obtain ⟨f0, f1, f2, f3, f4, f5⟩ := hf it (by simp)
    exact wpAny_pyNext_enum_endD (Draws.tuple (A := X.A.in1) (I.ok.hd hc) it a nat its.toArray) he (by rw [hi]; exact ⟨hit, pt⟩) fun h' eb => ⟨rfl, I.turned (t' := s.toks) (fun b o hb q => eb b o hb q) f0 f1 f3 f4 f5⟩
  self := fun A i s Q E st h => let ⟨⟨_, he⟩, _⟩ := st; wpAny_pyIter_enum he h
def iEnumT (K : PySem.W.Frag) (ta : TA) : TI := fun σ H R => ta σ H fun vs H1 => ∃ a xs, vs = [.ref a] ∧ SqT K H1 a xs ∧ R (ItTe K a) H1
theorem pi_enumT {X : Cx} {e : Expr} {ta : TA} {p pos tpos : Pos} {elts : List Expr} {kk : Nat} (hg : Gl X "enumerate") (hm : X.mg "enumerate" = none) (ha : PA X [e] ta) (hs : starEach [e] X.env = [(false, eval e X.env)] := by rfl) :
    PI X (.Tuple elts kk tpos) (.Call (.Name "enumerate" p) [e] [] pos) (iEnumT X.K ta) := by
  refine ⟨fun pins s σ H R I h => ?_⟩
  refine Call_ (ld_blt I hg hm boot_enumerate (PyProof.Rows.callWith_type1 (thn (ha.run pos pins s σ H _ I h) fun us s1 ⟨vs, H1, I1, r1, q1⟩ => ?_) hs rfl))
  obtain ⟨a, xs, ex, hq, q⟩ := q1
  subst ex
  obtain rfl := Vals.ref1 r1
  obtain ⟨its, rv, p', hz⟩ := I1.tuple hq
  refine enumCall (begins_tuple a its.toArray) (show s1.heap.IsTuple a its.toArray from p') fun h' he hit hk => wpAny_pyIter_enum he ?_
  have I2 : Inv X pins σ H1 { s1 with heap := h' } := I1.kept (t' := s1.toks) hk
  refine ⟨s1.heap.objs.size + 1, [s1.heap.objs.size + 1, s1.heap.objs.size], _, _, H1, rfl, I2, turn_enumT a (s1.heap.objs.size + 1) s1.heap.objs.size, ⟨⟨.none, he⟩, ⟨_, hit, rfl, rfl⟩, Nat.succ_ne_self _⟩, fun b hb => ?_, q⟩
  have hle : s1.heap.objs.size ≤ b := by
    rcases (show b = s1.heap.objs.size + 1 ∨ b = s1.heap.objs.size by simpa using hb) with z | z
    · rw [z]; exact Nat.le_add_right _ _
    · rw [z]; exact Nat.le_refl _
  exact I1.fpOk hle (I1.hok.fresh hle)
theorem walk_enumT {K : PySem.W.Frag} {a : Addr} {xs : List V} : Walk (ItTe K a) xs.length (fun H => SqT K H a xs) (fun i H v H' => ∃ T x, v = .ref T ∧ H T = none ∧ H' = upd H T (.tup [.int (i : Nat), x]) ∧ xs[i]? = some x) :=
  ⟨fun i _ hi q => ⟨xs, xs[i], q, by simp [hi]⟩, fun _ q => ⟨xs, q, rfl⟩, fun _ _ _ _ _ q y => by
    obtain ⟨T, x, e1, e2, e3, e4⟩ := y
    exact ⟨T, x, e1, e2, e3, e4 xs q⟩⟩
end L2

set_option Elab.async false
set_option linter.all false
set_option maxRecDepth 100000
set_option maxHeartbeats 4000000
/-! repr of a text or an integer. -/
namespace L2
open PySem PySem.Spec PyProof.Rows
theorem call_reprV {X : Cx} : CallR X (.builtin "repr") (fun xs H Q => (∃ z, xs = [.str z] ∧ (reprText z).length ≤ sizeLine ∧ Q (.str (reprText z)) H) ∨ ∃ i, xs = [.int i] ∧ i.natAbs.log2 < 1920 ∧ Q (.str (toString i)) H) := by
  intro pins s σ H xs us Q I r h
  rcases h with ⟨z, rfl, hz, q⟩ | ⟨i, rfl, hz, q⟩
  · obtain ⟨u, rfl, t, rfl⟩ := vals1 r
    exact PySem.P.repr_of_str ⟨.str _, H, I.tok _, ⟨_, rfl⟩, q⟩ hz
  · exact SkE.call_repr_int pins s σ H _ us Q I r ⟨i, rfl, hz, q⟩
end L2

set_option Elab.async false
set_option linter.all false
set_option maxRecDepth 100000
set_option maxHeartbeats 4000000
/-! Signs of an own class: with a value of any other kind on the right; x >= y, where y's own <= answers; x |= y, where there is no __ior__. -/
namespace PySem.W
open PySem PySem.Spec PySem.Calls PyProof.Rows
theorem slot_obj_ge : Slot "object" "__ge__" "object.__ge__" := by
  refine .of (owner := "object") (n := "__ge__") ?_ (by decide +kernel) (by decide +kernel) (by decide +kernel) (.inl (by decide +kernel)) ?_
  · rw [typeLookup_type, builtinLookup_eq_fast]
    kernel_rfl
  · rw [isSubtype_type]
    kernel_rfl
theorem entry_obj_ge : entryFor table "object.__ge__" = some Builtin.«object.__ge__» := entryFor_of_tree (by kernel_rfl)
theorem args_obj_ge (u v : Value) : argsOk "object.__ge__" ⟨[u, v], []⟩ := by
  unfold argsOk
  kernel_rfl
section
variable {prog : Program} {w : World} {A : Around} {E : Value → Shared → Prop} {s : Shared} {K : Frag} {m : Str → Option Value} {h₀ : Heap} {L x y C f : Addr} {ox oy : Obj} {od od2 : Option Obj}
/-- object's own >= says that it does not know -/
theorem obj_ge_none {b : Value} {Q : Value → Shared → Prop} (X : K.In s.heap) (I : InstAt s.heap x ox C od) (hm : mroIn K C (.type "object") = some true) (q : Q .notImplemented s) : wpAny (model prog w) A (call (.builtin "object.__ge__") [.ref x, b]) Q E s := by
  refine wpAny_call (codeAny_call_builtin slot_obj_ge.plain entry_obj_ge (check_slot (n := "__ge__") (by decide +kernel) (by decide +kernel) (I.type.andThen (looks_mroIn X hm)) (args_obj_ge _ _) ?_))
  have e : Builtin.«object.__ge__» ⟨[.ref x, b], []⟩ = (do
      let _ ← slotArgs "__ge__" 1 ⟨[.ref x, b], []⟩
      ret .notImplemented) := rfl
  rw [e]
  repeat wp_step
  exact q
theorem try_ge {b : Value} {Q : Option Value → Shared → Prop} (X : K.In s.heap) (I : InstAt s.heap x ox C od) (hm : mroIn K C (.type "object") = some true) (no : findIn K (.ref C) "__ge__" = some (some (.builtin "object.__ge__"))) (q : Q none s) : wpAny (model prog w) A (tryCompare (.ref x) "__ge__" b) Q E s := by
  unfold tryCompare
  have told : wpAny (model prog w) A (callSpecialIfBound? (.ref x) "__ge__" [b]) (fun r s' => r = some .notImplemented ∧ s' = s) E s := by
    simp only [callSpecialIfBound?, bindSpecialIfBound?]
    refine wpAny_holding (wpAny_bind (wpAny_bind (wpAny_bind (I.type.here ((looks_findIn X no).here (wpAny_bind (wpAny_askSetting (wpAny_ite ?_))))))))
    have last : wpAny (model prog w) A (call (.builtin "object.__ge__") ([.ref x] ++ [b]) >>= fun v => pure (some v)) (fun r s' => r = some .notImplemented ∧ s' = s) E s :=
      wpAny_bind (obj_ge_none X I hm (wpAny_pure ⟨rfl, rfl⟩))
    split
    · exact wpAny_bind (wpAny_of_eq (slot_obj_ge.bind _) (wpAny_pure last))
    · exact wpAny_tryCatch (wpAny_bind (wpAny_of_eq (slot_obj_ge.bind _) (wpAny_pure last)))
  refine wpAny_bind (wpAny_mono told (fun r s' z => ?_) fun _ _ e => e)
  obtain ⟨rfl, rfl⟩ := z
  exact wpAny_pure q
/-- x >= y -/
theorem ge_back {Q : Value → Shared → Prop} (hu : A.units < cLine) (F : Fr h₀ L s.heap m) (X₀ : K.In h₀) (I : InstAt s.heap x ox C od) (J : InstAt s.heap y oy C od2) (hm : mroIn K C (.type "object") = some true) (no : findIn K (.ref C) "__ge__" = some (some (.builtin "object.__ge__")))
    (hs : findIn K (.ref C) "__le__" = some (some (.ref f))) (hf : isFn K (.ref f) = true) (h : wpAny (model prog w) A (call (.ref f) [.ref y, .ref x]) (CmpBack Q) E s) : wpAny (model prog w) A (richCompare .GtE (.ref x) (.ref y)) Q E s := by
  have X := X₀.keeps F.keep
  have own : wpAny (model prog w) A (tryCompare (.ref y) "__le__" (.ref x)) (fun r s' => ∃ v, r = some v ∧ Q v s') E s := by
    unfold tryCompare
    refine wpAny_bind (ifBound_K X J hs hf (wpAny_mono h (fun v s' hv => ?_) fun _ _ e => e))
    cases v <;> first
      | exact hv.elim
      | exact wpAny_pure ⟨_, rfl, hv⟩
  unfold richCompare
  simp only [oneThing_ref, cmpInfo]
  refine wpAny_holding (wpAny_bind (wpAny_cRoomFor hu (wpAny_bind (I.type.here (wpAny_bind (J.type.here ?_))))))
  rw [if_neg (by simp)]
  refine wpAny_bind (wpAny_pure ?_)
  simp only [Bool.false_eq_true, if_false, Bool.not_false, if_true]
  refine wpAny_bind (try_ge X I hm no ?_)
  refine wpAny_bind (wpAny_mono own (fun r s' z => ?_) fun _ _ e => e)
  obtain ⟨v, rfl, q⟩ := z
  exact wpAny_pure q
/-- x op b, b of a built-in type T -/
theorem bin_any {op : Operator} {T : String} {b : Value} {fo ro rc : Option Value} {Q : Value → Shared → Prop} (F : Fr h₀ L s.heap m) (X₀ : K.In h₀) (I : InstAt s.heap x ox C od) (hb : Looks (model prog w) s.heap (typeOf b) (.type T)) (hc : selfFirst K C = true)
    (hs : findIn K (.ref C) (PySem.dunder op.info.2) = some (some (.ref f))) (hf : isFn K (.ref f) = true) (hr : findIn K (.ref C) (dunderR op.info.2) = some rc) (hp : rc = none ∨ ∃ g : Addr, rc = some (.ref g))
    (h1 : findIn K (.type T) (PySem.dunder op.info.2) = some fo) (h2 : findIn K (.type T) (dunderR op.info.2) = some ro) (hsub : subIn K (.type T) (.ref C) = some false) (h : wpAny (model prog w) A (call (.ref f) [.ref x, b]) (CmpBack Q) E s) :
    wpAny (model prog w) A (binaryOp op (.ref x) b) Q E s := by
  have X := X₀.keeps F.keep
  obtain ⟨cd, more, e1, e2⟩ := ksp_first hc
  rcases hi : op.info with ⟨sg, nm⟩
  rw [hi] at hs hr h1 h2
  dsimp only at hs hr h1 h2
  have go := ksp_try X I hs hf h
  have tx := I.type (M := model prog w)
  have lf := fills_K (M := model prog w) X e1 e2 hs
  have rf := ksp_fillsT (M := model prog w) X h1 h2
  have su := looks_subIn (M := model prog w) X hsub
  have py := ksp_inPy (M := model prog w) X hs hr hp
  have nopy : Looks (model prog w) s.heap (numberSlotInPython (.type T) nm) false := Looks.of_pure rfl
  have rl := looks_findIn (M := model prog w) X h2
  have ne : (Value.ref C == Value.type T) = false := rfl
  obtain ⟨hh, g, d, tt, os⟩ := s
  simp only [binaryOp, hi]
  refine wpAny_holding (wpAny_bind ?_)
  unfold binaryOp1
  refine wpAny_bind (tx.at (wpAny_bind (hb.at (wpAny_bind (lf.at ?_)))))
  simp only [ne, Bool.false_eq_true, if_false]
  cases hri : ((fo.isSome && !isSeqSlot fo) || (ro.isSome && !isSeqSlot ro)) <;> rw [hri] at rf
  all_goals
    ksp_lk
    refine wpAny_mono go (fun r s' z => ?_) fun _ _ e => e
    obtain ⟨v, rfl, q⟩ := z
    ksp_lk
    exact q
end
end PySem.W

set_option Elab.async false
set_option linter.all false
set_option maxRecDepth 100000
set_option maxHeartbeats 4000000
/-! x op= y of one own class, which has no method for it in place. -/
namespace PySem.W
open PySem PySem.Spec PySem.Calls PyProof.Rows
section
variable {prog : Program} {w : World} {A : Around} {E : Value → Shared → Prop} {s : Shared} {K : Frag} {m : Str → Option Value} {h₀ : Heap} {L x y C f : Addr} {ox oy : Obj} {od od2 : Option Obj}
theorem no_inplace {M : Model} {h : Heap} {nm : String} {add : Bool} {cd : ClassData} (X : K.In h) (hc : clsIn K C = some cd) (hm : cd.mro = [.ref C, .type "object"]) (n1 : findIn K (.ref C) (dunderI nm) = some none) (n2 : typeLookup (.type "object") (dunderI nm) = pure none) : Looks M h (fillsInplaceSlot (.ref C) nm add) false := by
  intro A Q E s k q
  have Lm := ((looks_clsIn (M := M) X hc).andThen (f := fun cd => pure cd.mro) .now).keeps k
  obtain ⟨hh, g, d, tt, os⟩ := s
  have X' : K.In hh := X.keeps k
  have t1 : Looks M hh (typeLookup (.ref C) (dunderI nm)) none := looks_findIn X' n1
  have t2 : Looks M hh (typeLookup (.type "object") (dunderI nm)) none := Looks.of_pure n2
  unfold fillsInplaceSlot
  refine wpAny_bind (Lm.at ?_)
  rw [hm, List.anyM_cons]
  refine wpAny_bind ?_
  repeat lk
  exact q
theorem in_own {op : Operator} {b : Value} {cd : ClassData} {Q : Value → Shared → Prop} (F : Fr h₀ L s.heap m) (X₀ : K.In h₀) (I : InstAt s.heap x ox C od) (hb : Looks (model prog w) s.heap (typeOf b) (.ref C)) (hc : clsIn K C = some cd) (hm : cd.mro = [.ref C, .type "object"])
    (n1 : findIn K (.ref C) (dunderI op.info.2) = some none) (n2 : typeLookup (.type "object") (dunderI op.info.2) = pure none) (hs : findIn K (.ref C) (PySem.dunder op.info.2) = some (some (.ref f))) (hf : isFn K (.ref f) = true)
    (h : wpAny (model prog w) A (call (.ref f) [.ref x, b]) (CmpBack Q) E s) : wpAny (model prog w) A (inplaceOp op (.ref x) b) Q E s := by
  have X := X₀.keeps F.keep
  have go := ksp_try X I hs hf h
  have tx := I.type (M := model prog w)
  have lf := fills_K (M := model prog w) X hc hm hs
  have ni := no_inplace (M := model prog w) (add := op == .Add) X hc hm n1 n2
  obtain ⟨hh, g, d, tt, os⟩ := s
  unfold inplaceOp
  refine wpAny_holding (wpAny_bind (tx.at (wpAny_bind (ni.at ?_))))
  simp only [Bool.false_eq_true, if_false]
  refine wpAny_bind (m := binaryOp1 op.info.2 (.ref x) b) ?_
  unfold binaryOp1
  refine wpAny_bind (tx.at (wpAny_bind (hb.at (wpAny_bind (lf.at ?_)))))
  simp only [beq_self_eq_true, if_true]
  ksp_lk
  refine wpAny_mono go (fun r s' z => ?_) fun _ _ e => e
  obtain ⟨v, rfl, q⟩ := z
  ksp_lk
  exact q
end
end PySem.W

set_option Elab.async false
set_option linter.all false
set_option maxRecDepth 100000
set_option maxHeartbeats 4000000
/-! The rules for these signs. -/
namespace L2
open PySem PySem.Spec PyProof.Rows
section
variable {X : Cx} {n : Nat} {CX : CXT} {C f : Addr} {fd : FuncData} {ps : List Str} {sp : Sp} {E : XK}
/-- what a built-in type says of a sign, beside an own class -/
structure BesideT (K : PySem.W.Frag) (C : Addr) (nm : String) (t : Value) : Prop where
  ex : ∃ (T : String) (fo ro : Option Value), t = .type T ∧ PySem.W.findIn K (.type T) (PySem.dunder nm) = some fo ∧ PySem.W.findIn K (.type T) (PySem.dunderR nm) = some ro ∧ PySem.W.subIn K (.type T) (.ref C) = some false
def rBinAny (K : PySem.W.Frag) (C : Addr) (nm : String) (sp : Sp) (E : XK) : R2 := fun x y H Q => ∃ a dx fs t, x = .ref a ∧ H a = some (.ins C dx fs) ∧ TyX K H y t ∧ BesideT K C nm t ∧ sp [.ref a, y] H Q E
theorem op_binAny {op : Operator} (F : FnOk X.prog X.w X.K X.mg X.base CX n f fd ps sp) (hb : Binds X.K fd ps []) (hx : Passes CX X E) (hs : PySem.W.findIn X.K (.ref C) (PySem.dunder op.info.2) = some (some (.ref f))) (hf : PySem.W.isFn X.K (.ref f) = true) (hc : PySem.W.selfFirst X.K C = true)
    (hr : PySem.W.findIn X.K (.ref C) (PySem.dunderR op.info.2) = some none) (hm : Room n X.A) : OpR X (binaryOp op) (rBinAny X.K C op.info.2 sp E) := by
  intro pins s σ H x y v u Q I rx ry h
  obtain ⟨a, dx, fs, t, rfl, ha, ty, bt, hsp⟩ := h
  cases rx
  obtain ⟨od, J⟩ := inst_at I ha
  obtain ⟨m, hF⟩ := I.fr
  obtain ⟨P, Z, p, _⟩ := kit_of I ry ty
  obtain ⟨T, fo, ro, rfl, h1, h2, h3⟩ := bt.ex
  refine PySem.W.bin_any hF I.ok.mod.kin J (Z.ty _ _ I.kIn p) hc hs hf hr (.inl rfl) h1 h2 h3 (thn (run_own (Sub.here hm) F hb hx I (show Vals [V.ref a, y] [Value.ref a, u] from .cons rfl (.cons ry .nil)) hsp) fun r s' q => ?_)
  obtain ⟨z, H', I', rz, q⟩ := q
  exact notNI rz ⟨z, H', I', rz, q⟩
def rGeOwn (C : Addr) (sp : Sp) (E : XK) : R2 := fun x y H Q => ∃ a dx fs b dy gs, x = .ref a ∧ H a = some (.ins C dx fs) ∧ y = .ref b ∧ H b = some (.ins C dy gs) ∧ sp [.ref b, .ref a] H Q E
theorem op_geOwn (F : FnOk X.prog X.w X.K X.mg X.base CX n f fd ps sp) (hb : Binds X.K fd ps []) (hx : Passes CX X E) (o : Own X.K C "__le__" f) (no : PySem.W.findIn X.K (.ref C) "__ge__" = some (some (.builtin "object.__ge__"))) (hm : PySem.W.mroIn X.K C (.type "object") = some true) (hr : Room n X.A) : OpR X (compareOp .GtE) (rGeOwn C sp E) := by
  intro pins s σ H x y v u Q I rx ry h
  obtain ⟨a, dx, fs, b, dy, gs, rfl, ha, rfl, hb2, hsp⟩ := h
  cases rx
  cases ry
  obtain ⟨od, J⟩ := inst_at I ha
  obtain ⟨od2, J2⟩ := inst_at I hb2
  obtain ⟨m, hF⟩ := I.fr
  refine PySem.W.ge_back hr.units0 hF I.ok.mod.kin J J2 hm no o.find o.fn (thn (run_own (Sub.here hr) F hb hx I (show Vals [V.ref b, V.ref a] [Value.ref b, Value.ref a] from .cons rfl (.cons rfl .nil)) hsp) fun r s' q => ?_)
  obtain ⟨z, H', I', rz, q⟩ := q
  exact notNI rz ⟨z, H', I', rz, q⟩
theorem op_inOwnP {op : Operator} {cd : ClassData} (F : FnOk X.prog X.w X.K X.mg X.base CX n f fd ps sp) (hb : Binds X.K fd ps []) (hx : Passes CX X E) (hs : PySem.W.findIn X.K (.ref C) (PySem.dunder op.info.2) = some (some (.ref f))) (hf : PySem.W.isFn X.K (.ref f) = true) (hc : PySem.W.clsIn X.K C = some cd) (hm : cd.mro = [.ref C, .type "object"])
    (n1 : PySem.W.findIn X.K (.ref C) (PySem.dunderI op.info.2) = some none) (n2 : typeLookup (.type "object") (PySem.dunderI op.info.2) = pure none) (hr : Room n X.A) : OpR X (inplaceOp op) (rBinOwn X.K C sp E) := by
  intro pins s σ H x y v u Q I rx ry h
  obtain ⟨a, dx, fs, b, dy, gs, rfl, ha, rfl, hb2, hsp⟩ := h
  cases rx
  cases ry
  obtain ⟨od, J⟩ := inst_at I ha
  obtain ⟨od2, J2⟩ := inst_at I hb2
  obtain ⟨m, hF⟩ := I.fr
  refine PySem.W.in_own hF I.ok.mod.kin J J2.type hc hm n1 n2 hs hf (thn (run_own (Sub.here hr) F hb hx I (show Vals [V.ref a, V.ref b] [Value.ref a, Value.ref b] from .cons rfl (.cons rfl .nil)) hsp) fun r s' q => ?_)
  obtain ⟨z, H', I', rz, q⟩ := q
  exact notNI rz ⟨z, H', I', rz, q⟩
end
theorem no_ior : typeLookup (.type "object") (PySem.dunderI (Operator.info .BitOr).2) = pure none := by
  rw [typeLookup_type, builtinLookup_eq_fast]
  kernel_rfl
end L2

set_option Elab.async false
set_option linter.all false
set_option maxRecDepth 100000
set_option maxHeartbeats 4000000
/-! repr of a bool. -/
namespace L2
open PySem PySem.Spec PyProof.Rows
theorem call_reprB {X : Cx} : CallR X (.builtin "repr") (fun xs H Q => ∃ b, xs = [.bl b] ∧ Q (.str (if b = true then "True" else "False")) H) := by
  intro pins s σ H xs us Q I r h
  obtain ⟨b, rfl, q⟩ := h
  match us, r with
  | [u], .cons r1 .nil =>
    obtain rfl : u = Value.bool b := r1
    refine PySem.P.repr_of_bool ?_
    exact ⟨.str _, H, I.tok _, ⟨_, by cases b <;> rfl⟩, q⟩
end L2

set_option Elab.async false
set_option linter.all false
set_option maxRecDepth 100000
set_option maxHeartbeats 4000000
/-! Where no repr is under way: what defs promise there; repr of lists and tuples. -/
namespace L2
open PySem PySem.Spec PyProof.Rows
mutual
/-- x is laid in H as the datum d -/
inductive PyV (H : Hp) : V → PyData → Prop
  | non : PyV H .non .none
  | bl (b : Bool) : PyV H (.bl b) (.bool b)
  | int (i : Int) : PyV H (.int i) (.int i)
  | str (z : Str) : PyV H (.str z) (.str z)
  | tup {a : Addr} {xs : List V} {ds : List PyData} : H a = some (.tup xs) → PyVs H xs ds → PyV H (.ref a) (.tuple ds)
  | lst {a : Addr} {xs : List V} {ds : List PyData} : H a = some (.lst xs) → PyVs H xs ds → PyV H (.ref a) (.list ds)
inductive PyVs (H : Hp) : List V → List PyData → Prop
  | nil : PyVs H [] []
  | cons {x : V} {d : PyData} {xs : List V} {ds : List PyData} : PyV H x d → PyVs H xs ds → PyVs H (x :: xs) (d :: ds)
end
mutual
theorem PyV.same {H H2 : Hp} (s : ∀ b o, H b = some o → H2 b = some o) : ∀ {x : V} {d : PyData}, PyV H x d → PyV H2 x d
  | _, _, .non => .non
  | _, _, .bl b => .bl b
  | _, _, .int i => .int i
  | _, _, .str z => .str z
  | _, _, .tup h r => .tup (s _ _ h) (PyVs.same s r)
  | _, _, .lst h r => .lst (s _ _ h) (PyVs.same s r)
theorem PyVs.same {H H2 : Hp} (s : ∀ b o, H b = some o → H2 b = some o) : ∀ {xs : List V} {ds : List PyData}, PyVs H xs ds → PyVs H2 xs ds
  | _, _, .nil => .nil
  | _, _, .cons h r => .cons (PyV.same s h) (PyVs.same s r)
end
mutual
theorem PyV.keep {H H2 : Hp} (s : ∀ b o, H b = some o → ((∃ xs, o = .tup xs) ∨ ∃ xs, o = .lst xs) → H2 b = some o) : ∀ {x : V} {d : PyData}, PyV H x d → PyV H2 x d
  | _, _, .non => .non
  | _, _, .bl b => .bl b
  | _, _, .int i => .int i
  | _, _, .str z => .str z
  | _, _, .tup h r => .tup (s _ _ h (.inl ⟨_, rfl⟩)) (PyVs.keep s r)
  | _, _, .lst h r => .lst (s _ _ h (.inr ⟨_, rfl⟩)) (PyVs.keep s r)
theorem PyVs.keep {H H2 : Hp} (s : ∀ b o, H b = some o → ((∃ xs, o = .tup xs) ∨ ∃ xs, o = .lst xs) → H2 b = some o) : ∀ {xs : List V} {ds : List PyData}, PyVs H xs ds → PyVs H2 xs ds
  | _, _, .nil => .nil
  | _, _, .cons h r => .cons (PyV.keep s h) (PyVs.keep s r)
end
theorem PyV.but {H H2 : Hp} {a : Addr} {x : V} {d : PyData} {f : Heap → Prop} (p : PyV H x d) (s : ∀ b o, H b = some o → b ≠ a → H2 b = some o) (ha : H a = some (.ext f)) : PyV H2 x d :=
  p.keep fun b o e k => s b o e fun z => by
    rw [z, ha] at e
    cases e
    rcases k with ⟨xs, k⟩ | ⟨xs, k⟩ <;> cases k
mutual
theorem PyV.noDict {H : Hp} : ∀ {x : V} {d : PyData}, PyV H x d → d.hasDict = false
  | _, _, .non => by simp only [PyData.hasDict]
  | _, _, .bl b => by simp only [PyData.hasDict]
  | _, _, .int i => by simp only [PyData.hasDict]
  | _, _, .str z => by simp only [PyData.hasDict]
  | _, _, .tup h r => by simp only [PyData.hasDict]; exact PyVs.noDict r
  | _, _, .lst h r => by simp only [PyData.hasDict]; exact PyVs.noDict r
theorem PyVs.noDict {H : Hp} : ∀ {xs : List V} {ds : List PyData}, PyVs H xs ds → PyData.hasDictAll ds = false
  | _, _, .nil => by simp only [PyData.hasDictAll]
  | _, _, .cons h r => by simp only [PyData.hasDictAll, PyV.noDict h, PyVs.noDict r, Bool.or_false]
end
mutual
theorem PyV.reads {P : Program} {w : World} {H : Hp} {h : Heap} (ok : HOk P w H h) : ∀ {x : V} {d : PyData} {u : Value}, PyV H x d → RelV x u → ∃ as, Reads h u d as
  | _, _, u, .non, r => by
    obtain rfl : u = Value.none := r
    exact ⟨_, .none⟩
  | _, _, u, .bl b, r => by
    obtain rfl : u = Value.bool b := r
    exact ⟨_, .bool b⟩
  | _, _, u, .int i, r => by
    obtain ⟨t, rfl⟩ : ∃ t, u = Value.int i t := r
    exact ⟨_, .int i t⟩
  | _, _, u, .str z, r => by
    obtain ⟨t, rfl⟩ : ∃ t, u = Value.str z t := r
    exact ⟨_, .str z t⟩
  | _, _, u, .tup (a := a) h1 h2, r => by
    obtain rfl : u = Value.ref a := r
    obtain ⟨_, its, rel, o, e1, e2, n, e3⟩ := ok a _ h1
    obtain ⟨as, q⟩ := PyVs.reads ok h2 rel
    exact ⟨_, .tuple e1 e2 e3 q⟩
  | _, _, u, .lst (a := a) h1 h2, r => by
    obtain rfl : u = Value.ref a := r
    obtain ⟨_, its, n, rel, e1⟩ := ok a _ h1
    obtain ⟨as, q⟩ := PyVs.reads ok h2 rel
    exact ⟨_, .list e1 rfl rfl q⟩
theorem PyVs.reads {P : Program} {w : World} {H : Hp} {h : Heap} (ok : HOk P w H h) : ∀ {xs : List V} {ds : List PyData} {us : List Value}, PyVs H xs ds → Vals xs us → ∃ as, ReadsAll h us ds as
  | _, _, _, .nil, r => by
    cases r
    exact ⟨_, .nil⟩
  | _, _, _, .cons h1 h2, r => by
    cases r with
    | cons r1 r2 =>
      obtain ⟨a1, q1⟩ := PyV.reads ok h1 r1
      obtain ⟨a2, q2⟩ := PyVs.reads ok h2 r2
      exact ⟨_, .cons q1 q2⟩
end
/-- a datum that can be told: its text is not too long -/
structure Tells (d : PyData) : Prop where
  sh : d.showable = true
  dp : d.depth ≤ 4
  sz : d.shown.length ≤ 8000000
theorem Tells.size {d : PyData} (t : Tells d) : d.shown.length ≤ sizeLine := by
  have := t.sz
  rw [sizeLine_eq]
  omega
theorem shown_str (z : Str) : (PyData.str z).shown = reprText z := by simp only [PyData.shown]
theorem shown_none : PyData.none.shown = "None" := by simp only [PyData.shown]
section
variable {X : Cx} {j : Nat}
/-- repr of a datum, as its text -/
theorem repr_any {pins : List (Addr × Obj)} {σ : St} {H : Hp} {s : Shared} {Q : VK} {x : V} {u : Value} {d : PyData} (quiet : X.A.guards = some []) (room : X.A.units + 64 < cLine) (I : Inv X pins σ H s) (r : RelV x u) (p : PyV H x d) (t : Tells d) (q : Q (.str d.shown) H) :
    wpAny (model X.prog X.w) X.A (pyReprObj u) (EP X pins σ Q) X.xe s := by
  have out : ∀ (h2 : Heap) (k tk : Nat), (∀ b o, s.heap.get? b = some o → h2.get? b = some o) → EP X pins σ Q (.str d.shown k) { s with heap := h2, toks := tk } := fun h2 k tk kp => ⟨.str d.shown, H, I.kept kp, ⟨k, rfl⟩, q⟩
  have dp := t.dp
  have un : X.A.units + d.depth < cLine := by omega
  obtain ⟨as, rd⟩ := p.reads I.hok r
  cases p with
  | non =>
    obtain rfl : u = Value.none := r
    rw [shown_none] at out
    exact pyReprObj_none (out _ _ _ fun _ _ e => e)
  | bl b =>
    obtain rfl : u = Value.bool b := r
    have e : (PyData.bool b).shown = if b = true then "True" else "False" := by cases b <;> simp [PyData.shown]
    rw [e] at out
    refine pyReprObj_bool ?_
    have o2 := out s.heap s.toks (s.toks + 1) fun _ _ e => e
    cases b <;> exact o2
  | int i =>
    obtain ⟨tt, rfl⟩ : ∃ t, u = Value.int i t := r
    have e : (PyData.int i).shown = toString i := by simp only [PyData.shown]
    have hz : i.natAbs.log2 < 1920 := by simpa [PyData.showable] using t.sh
    rw [e] at out
    exact pyReprObj_int hz (out _ _ _ fun _ _ e => e)
  | str z =>
    obtain ⟨tt, rfl⟩ : ∃ t, u = Value.str z t := r
    have sz := t.size
    rw [shown_str] at out sz
    exact pyReprObj_str (out _ _ _ fun _ _ e => e) sz
  | tup h1 h2 =>
    obtain rfl := r
    exact pyReprObj_of_reads rd t.sh (PyData.noDict_hsm (PyV.noDict (.tup h1 h2))) quiet un (fun _ _ e => e) out t.size
  | lst h1 h2 =>
    obtain rfl := r
    exact pyReprObj_of_reads rd t.sh (PyData.noDict_hsm (PyV.noDict (.lst h1 h2))) quiet un (fun _ _ e => e) out t.size
/-- repr(x) -/
theorem call_reprG (quiet : X.A.guards = some []) (room : Room j X.A) : CallR X (.builtin "repr") (fun xs H Q => ∃ x d, xs = [x] ∧ PyV H x d ∧ Tells d ∧ Q (.str d.shown) H) := by
  intro pins s σ H xs us Q I rel h
  obtain ⟨x, d, rfl, p, t, q⟩ := h
  match us, rel with
  | [u], .cons r .nil =>
    have out : ∀ (h2 : Heap) (k tk : Nat), (∀ b o, s.heap.get? b = some o → h2.get? b = some o) → EP X pins σ Q (.str d.shown k) { s with heap := h2, toks := tk } := fun h2 k tk kp => ⟨.str d.shown, H, I.kept kp, ⟨k, rfl⟩, q⟩
    have dp := t.dp
    have ru := room.units
    have un : X.A.units + (d.depth + 1) < cLine := by omega
    obtain ⟨as, rd⟩ := p.reads I.hok r
    cases p with
    | non =>
      obtain rfl : u = Value.none := r
      rw [shown_none] at out
      exact PySem.P.repr_of_none (out _ _ _ fun _ _ e => e)
    | bl b =>
      exact call_reprB pins s σ H _ _ Q I (.cons r .nil) ⟨b, rfl, by
        have e : (PyData.bool b).shown = if b = true then "True" else "False" := by cases b <;> simp [PyData.shown]
        rw [e] at q
        cases b <;> exact q⟩
    | int i =>
      have e : (PyData.int i).shown = toString i := by simp only [PyData.shown]
      have hz : i.natAbs.log2 < 1920 := by simpa [PyData.showable] using t.sh
      rw [e] at q
      exact call_reprV pins s σ H _ _ Q I (.cons r .nil) (.inr ⟨i, rfl, hz, q⟩)
    | str z =>
      have sz := t.size
      rw [shown_str] at q sz
      exact call_reprV pins s σ H _ _ Q I (.cons r .nil) (.inl ⟨z, rfl, sz, q⟩)
    | tup h1 h2 =>
      obtain rfl := r
      exact repr_of_reads' rd t.sh (PyData.noDict_hsm (PyV.noDict (.tup h1 h2))) quiet un (fun _ _ e => e) out t.size
    | lst h1 h2 =>
      obtain rfl := r
      exact repr_of_reads' rd t.sh (PyData.noDict_hsm (PyV.noDict (.lst h1 h2))) quiet un (fun _ _ e => e) out t.size
/-- {x!r} of a datum -/
def tFmtG (te : TE) : TE := fun σ H Q => te σ H fun x H1 => ∃ d, PyV H1 x d ∧ Tells d ∧ Q (.str d.shown) H1
theorem pe_fmtG {e : Expr} {te : TE} {pos : Pos} (quiet : X.A.guards = some []) (room : Room j X.A) (he : PE X e te) : PE X (.FormattedValue e 114 none pos) (tFmtG te) := by
  refine ⟨fun pins s σ H Q I h => wpAny_FormattedValue_repr (thn (he.run pins s σ H _ I h) fun v s1 hv => ?_)⟩
  obtain ⟨x, H1, J, rel, d, p, t, q⟩ := hv
  refine thn (repr_any (Q := fun y H2 => y = .str d.shown ∧ H2 = H1) quiet room.units J rel p t ⟨rfl, rfl⟩) fun u s2 z => ?_
  obtain ⟨y, H2, J2, r2, ey, eH⟩ := z
  subst ey
  subst eH
  obtain ⟨k, rfl⟩ := r2
  exact wpAny_formatField_str ⟨.str d.shown, _, J2, ⟨_, rfl⟩, q⟩ ⟨.str d.shown, _, J2.tok _, ⟨_, rfl⟩, q⟩ t.size
end
end L2

set_option Elab.async false
set_option linter.all false
set_option maxRecDepth 100000
set_option maxHeartbeats 4000000
/-! Where no repr is under way: calls of defs, own errors made, lambdas called. -/
namespace L2
open PySem PySem.Spec PyProof.Rows
/-- no repr is under way -/
abbrev Quiet (A : Around) : Prop := A.guards = some []
/-- what a def promises where no repr is under way -/
structure FnG (P : Program) (w : World) (K : PySem.W.Frag) (mg : Str → Option Value) (base : Heap) (C : CXT) (k : Nat) (f : Addr) (fd : FuncData) (ps : List Str) (sp : Sp) : Prop where
  count : ∀ (xs : List V) (H : Hp) (Q : VK) (E : XK), sp xs H Q E → xs.length = ps.length
  runs : ∀ (A : Around) (outer : List Env) (s : Shared) (H : Hp) (args : Args) (us : List Value) (xs : List V) (Q : VK) (E : XK), Quiet A → Room k A → Env0 P w K mg base A outer s H → BindsTo s fd args (ps.zip us) → Vals xs us → sp xs H Q E →
    codeAny (model P w) A (.call (.ref f) args) (CR C outer P w H s Q E) s
section
variable {P : Program} {w : World} {K : PySem.W.Frag} {mg : Str → Option Value} {base : Heap} {C : CXT} {k j : Nat} {f : Addr} {fd : FuncData} {ps : List Str} {sp : Sp}
theorem FnOk.quiet (F : FnOk P w K mg base C k f fd ps sp) : FnG P w K mg base C k f fd ps sp := ⟨fun xs H Q E h => F.len xs H Q E h, fun A outer s H args us xs Q E _ r e b v h => F.run A outer s H args us xs Q E r e b v h⟩
theorem FnG.more (F : FnG P w K mg base C j f fd ps sp) (h : j ≤ k) : FnG P w K mg base C k f fd ps sp := ⟨F.count, fun A outer s H args us xs Q E g r => F.runs A outer s H args us xs Q E g (r.mono h)⟩
/-- two promises of one def -/
theorem FnG.both {sp2 : Sp} (F1 : FnG P w K mg base C k f fd ps sp) (F2 : FnG P w K mg base C k f fd ps sp2) : FnG P w K mg base C k f fd ps (fun xs H Q E => sp xs H Q E ∨ sp2 xs H Q E) := by
  refine ⟨fun xs H Q E h => h.elim (F1.count _ _ _ _) (F2.count _ _ _ _), fun A outer s H args us xs Q E g r e b v h => ?_⟩
  rcases h with h | h
  · exact F1.runs A outer s H args us xs Q E g r e b v h
  · exact F2.runs A outer s H args us xs Q E g r e b v h
/-- a def by its body -/
theorem Fun.okG {x qual : Str} {st : Stmt} {N : List Str} (F : Fun K x qual st f fd) (S : FnScope N ps (defScope st)) (count : ∀ (xs : List V) (H : Hp) (Q : VK) (E : XK), sp xs H Q E → xs.length = ps.length)
    (body : ∀ (cdv : Value) (A : Around) (outer : List Env) (s : Shared) (H : Hp) (xs : List V) (Q : VK) (E : XK), Quiet A → Room k (A.deeper (envOfC qual (defScope st) s.heap.objs.size f cdv)) → sp xs H Q E →
      ∃ t, PSs (cxOf CX0 P w K mg base N qual (defScope st) f cdv A outer s H E).nox (defBody st) t ∧ t { nx := fun _ H2 => Q .non H2, rt := Q } (start N xs) H) : FnG P w K mg base CX0 (k + 1) f fd ps sp := by
  obtain ⟨oc, od, kV, doc, pm, an, cdv, ct, osl, e, look, ci⟩ := F.ex
  subst e
  refine ⟨count, fun A outer s H args us xs Q E g r e0 b v h => LamX.run_ofS look ci S r e0 b v (count _ _ _ _ h) fun r2 => ?_⟩
  obtain ⟨t, h1, h2⟩ := body cdv A outer s H xs Q E g r2 h
  exact ⟨t, h1.nox, h2⟩
theorem Fun.okXG {x qual : Str} {st : Stmt} {N : List Str} (F : Fun K x qual st f fd) (S : FnScope N ps (defScope st)) (count : ∀ (xs : List V) (H : Hp) (Q : VK) (E : XK), sp xs H Q E → xs.length = ps.length)
    (body : ∀ (cdv : Value) (A : Around) (outer : List Env) (s : Shared) (H : Hp) (xs : List V) (Q : VK) (E : XK), Quiet A → Room k (A.deeper (envOfC qual (defScope st) s.heap.objs.size f cdv)) → sp xs H Q E →
      ∃ t, PSs (cxOf (L2.CX P w) P w K mg base N qual (defScope st) f cdv A outer s H E) (defBody st) t ∧ t { nx := fun _ H2 => Q .non H2, rt := Q } (start N xs) H) : FnG P w K mg base (L2.CX P w) (k + 1) f fd ps sp := by
  obtain ⟨oc, od, kV, doc, pm, an, cdv, ct, osl, e, look, ci⟩ := F.ex
  subst e
  exact ⟨count, fun A outer s H args us xs Q E g r e0 b v h => LamX.run_ofS look ci S r e0 b v (count _ _ _ _ h) fun r2 => body cdv A outer s H xs Q E g r2 h⟩
end
section
variable {X : Cx} {C : CXT} {k j : Nat} {f : Addr} {fd : FuncData} {ps : List Str} {sp : Sp} {dvs : List V} {ds : List Value} {E : XK} {x : Str} {p pos pos2 : Pos} {e : Expr} {es : List Expr} {t ta : TA} {W : WX}
/-- the def runs -/
theorem runG {pins : List (Addr × Obj)} {σ : St} {H : Hp} {s : Shared} {Q : VK} {us : List Value} {xs : List V} (F : FnG X.prog X.w X.K X.mg X.base C k f fd ps sp) (g : Quiet X.A) (r : Room k X.A) (b : Binds X.K fd ps ds) (d : Vals dvs ds) (out : Passes C X E)
    (I : Inv X pins σ H s) (v : Vals xs us) (h : sp (xs ++ dvs) H Q E) : wpAny (model X.prog X.w) X.A (call (.ref f) us) (EP X pins σ Q) X.xe s := by
  have v2 := v.append d
  have n : (us ++ ds).length = ps.length := by
    rw [← v2.length]
    exact F.count _ _ _ _ h
  have ran := F.runs X.A X.stack s H ⟨us, []⟩ (us ++ ds) (xs ++ dvs) Q E g r I.env0 (b s us I.kIn n) v2 h
  refine wpAny_call (codeAny_mono ran fun a s2 z => ?_)
  match a, z with
  | .error er, z => exact out pins σ H s er s2 I z
  | .ok (.ret u), z => exact I.after z
  | .ok .next, z => exact z.elim
  | .ok .brk, z => exact z.elim
  | .ok .cont, z => exact z.elim
/-- a def of the text, by its name, where no repr is under way -/
structure DfG (P : Program) (w : World) (K : PySem.W.Frag) (mg : Str → Option Value) (base : Heap) (C : CXT) (k : Nat) (x : Str) (sp : Sp) : Prop where
  ex : ∃ (f : Addr) (fd : FuncData) (ps : List Str), FnG P w K mg base C k f fd ps sp ∧ mg x = some (.ref f) ∧ PySem.W.keepIn K (.ref f) = true ∧ Binds K fd ps []
theorem pe_cG (c : DfG X.prog X.w X.K X.mg X.base C k x sp) (g : Quiet X.A) (out : Passes C X E) (r : Room j X.A) (hk : k ≤ j) (hg : Gl X x) (ha : PA X (e :: es) t)
    (hdb : (x == ("__debug__" : Str)) = false := by decide) (he : starEach (e :: es) X.env = (false, eval e X.env) :: starEach es X.env := by rfl) (hpl : (backTo pos (starEach es X.env)).any (·.1) = false := by rfl) :
    PE X (.Call (.Name x p) (e :: es) [] pos) (tCall sp [] E t) := by
  obtain ⟨f, fd, ps, F, hm, kp, b⟩ := c.ex
  refine ⟨fun pins s σ H Q I h => ?_⟩
  refine wpAny_Call_Name_kw (ld_glob I hg hm ?_ hdb)
  refine PySem.W.callWith_K (h₀ := X.base) I.ok.mod.kin kp (thn (ha.run pos pins s σ H _ I h) fun us s1 z => ?_) he hpl
  obtain ⟨xs, H1, J, v, q⟩ := z
  exact ⟨J.kIn, runG F g (r.mono hk) b .nil out J v q⟩
/-- an expression that makes an error whose record has its six fields -/
def PMk6 (X : Cx) (e : Expr) (t : St → Hp → XK → Prop) : Prop :=
  ∀ (pins : List (Addr × Obj)) (s : Shared) (σ : St) (H : Hp) (Q : XK), Inv X pins σ H s → t σ H Q → wpAny (model X.prog X.w) X.A (eval e X.env) (fun u s2 => MkP X pins σ Q u s2 ∧ ∀ (a : Addr) (oe : Obj) (vs : Array Value), u = .ref a → s2.heap.get? a = some oe → oe.data = .fields vs → 4 < vs.size) X.xe s
theorem PMk6.pmk {X : Cx} {e : Expr} {t : St → Hp → XK → Prop} (h : PMk6 X e t) : PMk X e t := fun pins s σ H Q I q => thn (h pins s σ H Q I q) fun _ _ z => z.1
theorem under_quiet {A : Around} {Cl : Addr} {us : List Value} {kw : List (Str × Value)} (g : Quiet A) : Quiet (A.under (.builtin "type.__call__" ⟨.ref Cl :: us, kw⟩)) := by
  have e : A.guards = some [] := g
  show (A.under (.builtin "type.__call__" ⟨.ref Cl :: us, kw⟩)).guards = some []
  simp [Around.under, e, Code.guards, Code.isGuard, pushGuards, guardIds]
/-- an own error, made -/
theorem pmk_oexG {Cl fI : Addr} (T : OexC X.K Cl) (iC : PySem.W.findIn X.K (.ref Cl) "__init__" = some (some (.ref fI))) (tI : PySem.W.typeIn X.K (.ref fI) = some (.type "function"))
    (Fn : FnG X.prog X.w X.K X.mg X.base C k fI fd ps sp) (g : Quiet X.A) (r : Room (k + 1) X.A) (b : Binds X.K fd ps []) (none_out : Passes C X (fun _ _ _ => False)) (hg : Gl X x) (hm : X.mg x = some (.ref Cl)) (ha : PA X (e :: es) ta)
    (hdb : (x == ("__debug__" : Str)) = false := by decide) (he : starEach (e :: es) X.env = (false, eval e X.env) :: starEach es X.env := by rfl) (hpl : (backTo pos (starEach es X.env)).any (·.1) = false := by rfl) :
    PMk6 X (.Call (.Name x p) (e :: es) [] pos) (tMkO Cl sp [] ta) := by
  intro pins s σ H Q I h
  obtain ⟨nm, qn, NN, bs, bm, sn, sub, ab, col, dd, k0, k1, k2, k3, k5, isC, isB⟩ := T.cls
  refine wpAny_Call_Name_kw (ld_glob I hg hm ?_ hdb)
  refine PySem.W.callWith_K (h₀ := X.base) I.ok.mod.kin T.kC (thn (ha.run pos pins s σ H _ I h) fun us s1 z => ?_) he hpl
  obtain ⟨xs, H1, J, v, small, q⟩ := z
  refine ⟨J.kIn, ?_⟩
  obtain ⟨hp, gn, dr, tk, os⟩ := s1
  -- the tuple of the arguments, then the error
  have up : hp.objs.size ≤ hp.objs.size + 1 := Nat.le_succ _
  have new : H1 (hp.objs.size + 1) = none := J.hok.fresh up
  have q2 := q _ new
  generalize hG : (hp.push (PySem.W.kdv_tup us)).push (PySem.HandSPX.excO Cl hp.objs.size) = G
  have keep : ∀ c o, hp.get? c = some o → G.get? c = some o := fun c o z => by
    rw [← hG]
    exact Heap.get?_push_of_some _ (Heap.get?_push_of_some _ z)
  have here : G.get? (hp.objs.size + 1) = some (PySem.HandSPX.excO Cl hp.objs.size) := by
    rw [← hG]
    heap_get
  have J2 : Inv X pins σ (upd H1 (hp.objs.size + 1) (exo (hp.objs.size + 1) Cl none)) ⟨G, gn, dr, tk, os⟩ := J.laid (t' := tk) keep up (exo_ok here)
  have v2 : Vals (V.ref (hp.objs.size + 1) :: (xs ++ [])) (Value.ref (hp.objs.size + 1) :: (us ++ [])) := .cons rfl (v.append .nil)
  have n2 : (Value.ref (hp.objs.size + 1) :: us ++ []).length = ps.length := by
    have z := v2.length
    rw [Fn.count _ _ _ _ q2] at z
    exact z.symm
  have short : us.length ≤ sizeLine := by
    have z := v.length
    rw [← z, sizeLine_eq]
    omega
  have bb : BindsTo ⟨G, gn, dr, tk, os⟩ fd ⟨Value.ref (hp.objs.size + 1) :: us, []⟩ (ps.zip (Value.ref (hp.objs.size + 1) :: (us ++ []))) := by
    have z := b ⟨G, gn, dr, tk, os⟩ (Value.ref (hp.objs.size + 1) :: us) J2.kIn n2
    rw [List.cons_append] at z
    exact z
  have ran := Fn.runs _ X.stack _ _ ⟨Value.ref (hp.objs.size + 1) :: us, []⟩ (Value.ref (hp.objs.size + 1) :: (us ++ [])) _ _ (fun _ _ _ => False) (under_quiet g) (r.make Cl us []) (J2.env0.make Cl us []) bb v2 q2
  have isC2 := J.kIn _ _ isC
  subst hG
  refine wpAny_call (PySem.HandSPX.call_own PySem.F.excBase_ValueError (fun Y => PySem.HandSPX.refsVE_contains Y bm isB) isC2 (PySem.W.looks_findIn J.kIn iC) (fun self => PySem.W.bind_fn J.kIn self tI) short (codeAny_mono ran fun a s2 z => ?_))
  match a, z with
  | .error er, z => exact none_out pins σ _ _ er s2 J2 z
  | .ok .next, z => exact z.elim
  | .ok .brk, z => exact z.elim
  | .ok .cont, z => exact z.elim
  | .ok (.ret u), z =>
    obtain ⟨y, H2, os2, bare2, un2, hok2, rv, ey, d, fs, ea, ed, nd, q3⟩ := z
    subst ey
    obtain ⟨h2, g2, d2, t2, os3⟩ := s2
    have six : ∀ (y : Addr) (oe : Obj) (ws : Array Value), Value.ref (hp.objs.size + 1) = .ref y → h2.get? y = some oe → oe.data = .fields ws → 4 < ws.size := fun y oe ws e1 e2 e3 => by
      cases e1
      obtain ⟨t0, e4⟩ := exo_at hok2 ea
      rw [e4] at e2
      cases e2
      cases e3
      show (4 : Nat) < 6
      decide
    exact ⟨rv, mk_end (raises_own T.exC T.tyC) J up keep un2 hok2 os2 bare2 ea ed nd q3, six⟩
end
end L2

set_option Elab.async false
set_option linter.all false
set_option maxRecDepth 100000
set_option maxHeartbeats 4000000
/-! raise X(..) from Y(..), where nothing is being handled. -/
namespace L2
open PySem PySem.Spec PyProof.Rows
/-- the object of an error of which another one is the cause -/
def withCause (b : Addr) (o : Obj) : Obj := (o.mapFields (·.setIfInBounds 3 (.ref b))).mapFields (·.setIfInBounds 4 (.bool true))
/-- the heap in which the error at a has the one at b as its cause -/
def caused (h : Heap) (a b : Addr) : Heap := (h.update a (Obj.mapFields (·.setIfInBounds 3 (.ref b)))).update a (Obj.mapFields (·.setIfInBounds 4 (.bool true)))
theorem set_get {vs : Array Value} {i j : Nat} {x y : Value} (ne : i ≠ j) (h : vs[j]? = some y) : (vs.setIfInBounds i x)[j]? = some y := by
  first
  | (rw [Array.getElem?_setIfInBounds_ne ne]; exact h)
  | (simp [Array.getElem?_setIfInBounds, ne, h])
theorem caused_at {h : Heap} {a b : Addr} {oe : Obj} {vs : Array Value} (e : h.get? a = some oe) (d : oe.data = .fields vs) :
    (caused h a b).get? a = some (withCause b oe) ∧ (withCause b oe).data = .fields ((vs.setIfInBounds 3 (.ref b)).setIfInBounds 4 (.bool true)) := by
  have d3 := Obj.data_mapFields d (·.setIfInBounds 3 (.ref b))
  have e3 := Heap.get?_update_self (Obj.mapFields (·.setIfInBounds 3 (.ref b))) e (Obj.isFreed_of_fields d3)
  have d4 := Obj.data_mapFields d3 (·.setIfInBounds 4 (.bool true))
  exact ⟨Heap.get?_update_self (Obj.mapFields (·.setIfInBounds 4 (.bool true))) e3 (Obj.isFreed_of_fields d4), d4⟩
theorem caused_ne {h : Heap} {a b c : Addr} (ne : a ≠ c) : (caused h a b).get? c = h.get? c := by
  unfold caused
  rw [Heap.get?_update_other _ _ ne, Heap.get?_update_other _ _ ne]
theorem raise_from {P : Program} {w : World} {A : Around} {E : Value → Shared → Prop} {env : Env} {s : Shared} {x c : Sem Value} {Q : Flow → Shared → Prop} (calm : A.handled = none)
    (h : wpAny (model P w) A x (fun v s1 => ∃ a, v = .ref a ∧ wpAny (model P w) A c (fun u s2 => ∃ b oe ob vs ws cls cb, u = .ref b ∧ s2.heap.get? a = some oe ∧ oe.cls = cls ∧ oe.data = .fields vs ∧ vs[1]? = some .none ∧ 4 < vs.size ∧
      s2.heap.get? b = some ob ∧ ob.cls = cb ∧ ob.data = .fields ws ∧ PySem.W.Looks (model P w) s2.heap (isSubtype cls (.type "BaseException")) true ∧ PySem.W.Looks (model P w) s2.heap (isSubtype cb (.type "BaseException")) true ∧
      PySem.W.Looks (model P w) (caused s2.heap a b) (typeOf cls) (.type "type") ∧ E (.ref a) { s2 with heap := caused s2.heap a b }) E s1) E s) :
    wpAny (model P w) A (raiseStmt env (some x) (some c)) Q E s := by
  unfold raiseStmt
  dsimp only
  refine wpAny_bind (wpAny_mono h (fun v s1 z => ?_) fun _ _ y => y)
  obtain ⟨a, rfl, z⟩ := z
  refine wpAny_bind (wpAny_holding (wpAny_mono z (fun u s2 y => ?_) fun _ _ y => y))
  obtain ⟨b, oe, ob, vs, ws, cls, cb, rfl, ea, hcls, da, h1, big, eb, hcb, db, sub, subB, ty, out⟩ := y
  have type_a : PySem.W.Looks (model P w) s2.heap (typeOf (.ref a)) cls := fun A Q E s k q => wpAny_typeOf_ref (k _ _ ea) (by rw [hcls]; exact q)
  have type_b : PySem.W.Looks (model P w) s2.heap (typeOf (.ref b)) cb := fun A Q E s k q => wpAny_typeOf_ref (k _ _ eb) (by rw [hcb]; exact q)
  have inst_a : PySem.W.Looks (model P w) s2.heap (isInstance (.ref a) (.type "BaseException")) true := type_a.andThen sub
  have inst_b : PySem.W.Looks (model P w) s2.heap (isInstance (.ref b) (.type "BaseException")) true := type_b.andThen subB
  have no_type : ∀ {y : Addr} {oy : Obj} {us : Array Value} {s' : Shared} {R : Bool → Shared → Prop}, s'.heap.get? y = some oy → oy.data = .fields us → R false s' → wpAny (model P w) A (isType (.ref y)) R E s' := fun {y oy us s' R} e d q => by
    simp only [isType, loadHead]
    refine wpAny_bind (wpAny_loadPart e ?_)
    rw [d]
    exact wpAny_pure q
  have d3 := Obj.data_mapFields da (·.setIfInBounds 3 (.ref b))
  have e3 := Heap.get?_update_self (Obj.mapFields (·.setIfInBounds 3 (.ref b))) ea (Obj.isFreed_of_fields d3)
  obtain ⟨e4, d4⟩ := caused_at (b := b) ea da
  have n3 : 3 < vs.size := by omega
  have n4 : 4 < (vs.setIfInBounds 3 (Value.ref b)).size := by simpa using big
  have h4 : ((vs.setIfInBounds 3 (Value.ref b)).setIfInBounds 4 (Value.bool true))[1]? = some Value.none := set_get (by decide) (set_get (by decide) h1)
  have type4 : PySem.W.Looks (model P w) (caused s2.heap a b) (typeOf (.ref a)) cls := fun A Q E s k q => wpAny_typeOf_ref (k _ _ e4) (by
    have : (withCause b oe).cls = cls := by
      unfold withCause
      rw [Obj.cls_mapFields, Obj.cls_mapFields]
      exact hcls
    rw [this]
    exact q)
  have rest : wpAny (model P w) A (do
      let y ← isType (.ref a)
      if y = true then do
        let e ← holding [.ref a] (raisedFor (.ref a) (.ref a))
        setFlight e none
        raiseNew e
      else do
        let e ← raisedInstance (.ref a)
        setFlight e none
        raiseNew e : Sem Flow) Q E { s2 with heap := caused s2.heap a b } := by
    refine wpAny_bind (no_type e4 d4 ?_)
    simp only [Bool.false_eq_true, if_false]
    unfold raisedInstance
    refine wpAny_bind (wpAny_bind (type4.here (wpAny_bind (ty.here ?_))))
    rw [if_pos (beq_self_eq_true _)]
    refine wpAny_pure ?_
    unfold setFlight raiseNew
    refine wpAny_bind (wpAny_bind (wpAny_field e4 d4 h4 ?_))
    rw [if_neg (by decide)]
    refine wpAny_pure (wpAny_bind (wpAny_handled ?_))
    rw [calm]
    first
      | exact wpAny_throw out
      | exact wpAny_bind (wpAny_pure (wpAny_throw out))
  refine wpAny_bind (wpAny_pure ?_)
  dsimp only
  have told : ∀ {y : Addr} {oy : Obj} {us : Array Value} {m : String} {R : Value → Shared → Prop}, s2.heap.get? y = some oy → oy.data = .fields us → PySem.W.Looks (model P w) s2.heap (isInstance (.ref y) (.type "BaseException")) true → R (.ref y) s2 →
      wpAny (model P w) A (excFromValue (.ref y) m) R E s2 := fun {y oy us m R} e d i q => by
    unfold excFromValue isExcClass
    refine wpAny_bind (wpAny_bind (no_type e d ?_))
    simp only [Bool.false_eq_true, if_false]
    refine wpAny_pure ?_
    simp only [Bool.false_eq_true, if_false]
    refine wpAny_bind (i.here ?_)
    simp only [if_true]
    exact wpAny_pure q
  refine wpAny_bind (wpAny_holding (told ea da inst_a ?_))
  rw [if_neg (show ¬ (Value.ref b == Value.none) = true from fun z => nomatch z)]
  refine wpAny_bind (wpAny_holding (told eb db inst_b ?_))
  refine wpAny_bind (wpAny_setField ea da n3 (wpAny_bind (wpAny_setField e3 d3 n4 ?_)))
  exact rest
end L2

set_option Elab.async false
set_option linter.all false
set_option maxRecDepth 100000
set_option maxHeartbeats 4000000
/-! raise X(..) from Y(..): the rule. -/
namespace L2
open PySem PySem.Spec PyProof.Rows
section
variable {X : Cx} {pins : List (Addr × Obj)} {σ : St} {H : Hp} {s : Shared}
/-- the same, where only what is not the heap's has changed, and more is there -/
theorem Inv.grown {s2 : Shared} (I : Inv X pins σ H s) (k : ∀ b o, s.heap.get? b = some o → s2.heap.get? b = some o) (os : s2.os = s.os) (bare : AllBare s2.gens) : Inv X pins σ H s2 := by
  obtain ⟨h2, g2, d2, t2, o2⟩ := s2
  have J := I.kept (h' := h2) (t' := t2) k
  exact ⟨J.ok, by show o2 = _; exact Eq.trans os I.os, bare, J.base, J.loc, J.cell, J.free, J.freeC, J.pin, J.hok, J.len⟩
/-- one more object that is held fast -/
theorem Inv.hold {a : Addr} {o : Obj} (I : Inv X pins σ H s) (e : s.heap.get? a = some o) (n : H a = none) (l : a ≠ X.env.locals) (f : a ∉ X.fs) (c : ∀ v, o.data ≠ .cell v) : Inv X ((a, o) :: pins) σ H s := by
  refine ⟨I.ok, I.os, I.bare, I.base, I.loc, I.cell, I.free, I.freeC, fun p hp => ?_, I.hok, I.len⟩
  rcases List.mem_append.mp hp with h | h
  · exact I.pin p (List.mem_append_left _ h)
  · rcases List.mem_cons.mp h with h | h
    · rw [h]
      exact ⟨e, n, l, f, c⟩
    · exact I.pin p (List.mem_append_right _ h)
/-- without an object that is not tracked, nor a frame's nor a cell -/
theorem Inv.less {a : Addr} {o : Obj} {G : Heap} (I : Inv X ((a, o) :: pins) σ H s) (new : X.s_0.heap.get? a = none) (c : ∀ v, o.data ≠ .cell v) (away : ∀ p ∈ X.pn ++ pins, p.1 ≠ a) (gk : ∀ b, b ≠ a → G.get? b = s.heap.get? b) : Inv X pins σ H { s with heap := G } := by
  obtain ⟨ea, na, la, fa, _⟩ := I.pin (a, o) (List.mem_append_right _ (List.mem_cons_self ..))
  have old : ∀ {b : Addr} {u : Obj}, X.s_0.heap.get? b = some u → b ≠ a := fun {b u} e z => by
    rw [z, new] at e
    cases e
  have look : ∀ {b : Addr} {v : Option Value}, s.heap.IsCell b v → G.IsCell b v := fun {b v} ⟨u, hu, hd⟩ => by
    refine ⟨u, ?_, hd⟩
    rw [gk b fun z => ?_]
    · exact hu
    · rw [z, ea] at hu
      cases hu
      exact c _ hd
  refine ⟨I.ok, I.os, I.bare, ?_, ?_, fun x b e => ?_, I.free, I.freeC, fun p hp => ?_, ?_, I.len⟩
  · refine { keep := fun b u e n h1 h2 => ?_, slot := fun b u e n h1 h2 => ?_, free := I.base.free, there := fun b u e h => ?_, tups := I.base.tups, frzs := I.base.frzs, tbls := I.base.tbls }
    · show G.get? b = _
      rw [gk b (old e)]
      exact I.base.keep b u e n h1 h2
    · show ∃ sl, G.get? b = _
      rw [gk b (old e)]
      exact I.base.slot b u e n h1 h2
    · show ∃ q, G.get? b = some q
      rw [gk b (old e)]
      exact I.base.there b u e h
  · obtain ⟨m, ⟨u, es, ep, e, d, r⟩, q⟩ := I.loc
    refine ⟨m, ⟨u, es, ep, ?_, d, r⟩, fun i x v h1 h2 h3 => ?_⟩
    · show G.get? _ = _
      rw [gk _ (Ne.symm la)]
      exact e
    · obtain ⟨w, rv, lk⟩ := q i x v h1 h2 h3
      refine ⟨w, rv, ?_⟩
      rcases lk with lk | ⟨k1, b, k2, k3⟩
      · exact .inl lk
      · exact .inr ⟨k1, b, k2, look k3⟩
  · obtain ⟨v, hv⟩ := I.cell x b e
    exact ⟨v, look hv⟩
  · obtain ⟨e, r⟩ := I.pin p (by
      rcases List.mem_append.mp hp with h | h
      · exact List.mem_append_left _ h
      · exact List.mem_append_right _ (List.mem_cons_of_mem _ h))
    refine ⟨?_, r⟩
    show G.get? _ = _
    rw [gk _ (away p hp)]
    exact e
  · intro b u e
    have nb : b ≠ a := fun z => by
      rw [z, na] at e
      cases e
    refine (I.hok b u e).stay (fun d v hd q => ?_) (fun d q => q) fun d xs q => q
    rw [gk d ?_]
    · exact q
    · rcases hd with z | z
      · rw [z]
        exact nb
      · exact fun y => by
          rw [y, na] at z
          cases z
end
section
variable {X : Cx} {C : Addr} {e c : Expr} {te tc : St → Hp → XK → Prop} {pos : Pos} {W : WX}
theorem ps_from (hex : X.ex = []) (hc : X.calm = true) (tk : Takes X W) (he : PMk6 X e te) (hcs : PMk X c tc) : PS X (.Raise (some e) (some c) pos) (fun _ σ H => te σ H fun cls d H1 => tc σ H1 fun _ _ H2 => W cls d σ H2) := by
  refine ⟨fun pins s σ H D I h => ?_⟩
  show wpAny _ _ (do standAt pos; raiseStmt X.env (some (do let v ← eval e X.env; standAt pos; pure v)) (some (do let v ← eval c X.env; standAt pos; pure v))) _ _ _
  refine wpAny_bind (wpAny_standAt (raise_from (I.ok.hd hc) (wpAny_bind (wpAny_mono (he pins s σ H _ I h) (fun u s1 hu => wpAny_bind (wpAny_standAt (wpAny_pure ?_))) fun _ _ x => x))))
  obtain ⟨⟨a, oe, vs, sI, H1, cls, d, rfl, J, k, gone, ea, za, da, first, na, os, bare, r, q⟩, six⟩ := hu
  have big := six a oe vs rfl ea da
  have nocell : ∀ v, oe.data ≠ .cell v := fun v z => by
    rw [da] at z
    cases z
  have other : ∀ {b : Addr} {o : Obj}, sI.heap.get? b = some o → b ≠ a := fun {b o} e z => by
    rw [z, gone] at e
    cases e
  have new : X.s_0.heap.get? a = none := by
    cases z : X.s_0.heap.get? a with
    | none => rfl
    | some o =>
      obtain ⟨o2, e2⟩ := J.base.there a o z (by rw [hex]; exact List.not_mem_nil)
      exact absurd rfl (other e2)
  have aloc : a ≠ X.env.locals := fun z => by
    obtain ⟨m, ⟨u, es, ep, e1, _⟩, _⟩ := J.loc
    exact other e1 z.symm
  have afs : a ∉ X.fs := fun z => by
    obtain ⟨_, o, ho, _⟩ := J.ok.funs.mem z
    rw [new] at ho
    cases ho
  have J2 := (J.grown k os bare).hold ea na aloc afs nocell
  refine ⟨a, rfl, wpAny_bind (wpAny_mono (hcs _ s1 σ H1 _ J2 q) (fun u s2 hu => wpAny_bind (wpAny_standAt (wpAny_pure ?_))) fun _ _ x => x)⟩
  obtain ⟨b, ob, ws, sI2, H2, cls2, d2, rfl, J3, k2, gone2, eb, zb, db, first2, nb, os2, bare2, r2, q2⟩ := hu
  obtain ⟨ea2, na2, _⟩ := J3.pin (a, oe) (List.mem_append_right _ (List.mem_cons_self ..))
  have ea3 := k2 _ _ ea2
  have kin2 := J3.kIn.keeps k2
  have inK : ∀ {y : Addr} {o : Obj}, X.K.lookup y = some o → y ≠ a := fun {y o} e => other (J.kIn _ _ e)
  obtain ⟨c1, c2⟩ := caused_at (b := b) ea3 da
  have kin3 : X.K.In (caused s2.heap a b) := fun y o e => by
    rw [caused_ne (Ne.symm (inK e))]
    exact kin2 _ _ e
  obtain ⟨l1, _⟩ := r (model X.prog X.w) s2.heap kin2
  obtain ⟨_, l3⟩ := r (model X.prog X.w) (caused s2.heap a b) kin3
  obtain ⟨l2, _⟩ := r2 (model X.prog X.w) s2.heap kin2
  obtain ⟨G, g1, g2⟩ := restrict sI2.heap fun y => decide (y ≠ a)
  have gk : ∀ y, y ≠ a → G.get? y = sI2.heap.get? y := fun y hy => g1 y (decide_eq_true hy)
  have ga : G.get? a = none := g2 a (by simp)
  have J4 := J3.less (G := G) new nocell (fun p hp => other (J.pin p hp).1) gk
  refine ⟨b, oe, ob, vs, ws, cls, cls2, rfl, ea3, za.1, da, first, big, eb, zb.1, db, l1, l2, l3, tk _ _ ?_⟩
  refine XE.new (s' := { s2 with heap := caused s2.heap a b }) J4 (fun y o e => ?_) ga c1 ?_ c2 ?_ na2 os2 bare2 q2
  · have ne : y ≠ a := fun z => by
      rw [z] at e
      rw [show G.get? a = some o from e] at ga
      cases ga
    show (caused s2.heap a b).get? y = _
    rw [caused_ne (Ne.symm ne)]
    exact k2 _ _ ((gk y ne).symm.trans e)
  · unfold withCause
    exact Zc.steady _ _ (Zc.steady _ _ za)
  · exact set_get (by decide) (set_get (by decide) first)
end
end L2

set_option Elab.async false
set_option linter.all false
set_option maxRecDepth 100000
set_option maxHeartbeats 4000000
/-! Values with dicts among them, told by repr. -/
namespace L2
open PySem PySem.Spec PyProof.Rows
/-- a key as a datum -/
def keyD : Key → PyData
  | .inl i => .int i
  | .inr s => .str s
def zipD (ks : List Key) (ds : List PyData) : List (PyData × PyData) := (ks.map keyD).zip ds
mutual
inductive PyW (H : Hp) : V → PyData → Prop
  | non : PyW H .non .none
  | bl (b : Bool) : PyW H (.bl b) (.bool b)
  | int (i : Int) : PyW H (.int i) (.int i)
  | str (z : Str) : PyW H (.str z) (.str z)
  | tup {a : Addr} {xs : List V} {ds : List PyData} : H a = some (.tup xs) → PyWs H xs ds → PyW H (.ref a) (.tuple ds)
  | lst {a : Addr} {xs : List V} {ds : List PyData} : H a = some (.lst xs) → PyWs H xs ds → PyW H (.ref a) (.list ds)
  | dic {a : Addr} {kvs : List (Key × V)} {ds : List PyData} : H a = some (.dK kvs) → PyWs H (kvs.map (·.2)) ds → PyW H (.ref a) (.dict (zipD (kvs.map (·.1)) ds))
inductive PyWs (H : Hp) : List V → List PyData → Prop
  | nil : PyWs H [] []
  | cons {x : V} {d : PyData} {xs : List V} {ds : List PyData} : PyW H x d → PyWs H xs ds → PyWs H (x :: xs) (d :: ds)
end
mutual
theorem PyW.keep {H H2 : Hp} (s : ∀ b o, H b = some o → ((∃ xs, o = .tup xs) ∨ (∃ xs, o = .lst xs) ∨ ∃ xs, o = .dK xs) → H2 b = some o) : ∀ {x : V} {d : PyData}, PyW H x d → PyW H2 x d
  | _, _, .non => .non
  | _, _, .bl b => .bl b
  | _, _, .int i => .int i
  | _, _, .str z => .str z
  | _, _, .tup h r => .tup (s _ _ h (.inl ⟨_, rfl⟩)) (PyWs.keep s r)
  | _, _, .lst h r => .lst (s _ _ h (.inr (.inl ⟨_, rfl⟩))) (PyWs.keep s r)
  | _, _, .dic h r => .dic (s _ _ h (.inr (.inr ⟨_, rfl⟩))) (PyWs.keep s r)
theorem PyWs.keep {H H2 : Hp} (s : ∀ b o, H b = some o → ((∃ xs, o = .tup xs) ∨ (∃ xs, o = .lst xs) ∨ ∃ xs, o = .dK xs) → H2 b = some o) : ∀ {xs : List V} {ds : List PyData}, PyWs H xs ds → PyWs H2 xs ds
  | _, _, .nil => .nil
  | _, _, .cons h r => .cons (PyW.keep s h) (PyWs.keep s r)
end
theorem PyW.same {H H2 : Hp} (s : ∀ b o, H b = some o → H2 b = some o) {x : V} {d : PyData} (p : PyW H x d) : PyW H2 x d := p.keep fun b o e _ => s b o e
theorem PyWs.same {H H2 : Hp} (s : ∀ b o, H b = some o → H2 b = some o) {xs : List V} {ds : List PyData} (p : PyWs H xs ds) : PyWs H2 xs ds := p.keep fun b o e _ => s b o e
theorem PyW.but {H H2 : Hp} {a : Addr} {x : V} {d : PyData} {f : Heap → Prop} (p : PyW H x d) (s : ∀ b o, H b = some o → b ≠ a → H2 b = some o) (ha : H a = some (.ext f)) : PyW H2 x d :=
  p.keep fun b o e k => s b o e fun z => by
    rw [z, ha] at e
    cases e
    rcases k with ⟨xs, k⟩ | ⟨xs, k⟩ | ⟨xs, k⟩ <;> cases k
theorem PyWs.length {H : Hp} : ∀ {xs : List V} {ds : List PyData}, PyWs H xs ds → xs.length = ds.length
  | _, _, .nil => rfl
  | _, _, .cons _ r => by rw [List.length_cons, List.length_cons, PyWs.length r]
theorem PyWs.append {H : Hp} : ∀ {xs ys : List V} {ds es : List PyData}, PyWs H xs ds → PyWs H ys es → PyWs H (xs ++ ys) (ds ++ es)
  | _, _, _, _, .nil, q => q
  | _, _, _, _, .cons h r, q => .cons h (PyWs.append r q)
theorem zipD_fst : ∀ (ks : List Key) (ds : List PyData), ks.length = ds.length → (zipD ks ds).map (·.1) = ks.map keyD
  | [], _, _ => rfl
  | k :: ks, [], h => by cases h
  | k :: ks, d :: ds, h => by
    show keyD k :: (zipD ks ds).map (·.1) = keyD k :: ks.map keyD
    rw [zipD_fst ks ds (by simpa using h)]
theorem zipD_snd : ∀ (ks : List Key) (ds : List PyData), ks.length = ds.length → (zipD ks ds).map (·.2) = ds
  | [], [], _ => rfl
  | [], d :: ds, h => by cases h
  | k :: ks, [], h => by cases h
  | k :: ks, d :: ds, h => by
    show d :: (zipD ks ds).map (·.2) = d :: ds
    rw [zipD_snd ks ds (by simpa using h)]
/-- the keys of a dict read -/
theorem keys_read {P : Program} {w : World} {h : Heap} : ∀ {es : List DictEntry} {kvs : List (Key × V)} {vs : List (Key × Value)}, KV kvs vs → Pairs (mixKind P w) es vs →
    ReadsAll h (es.map (·.key)) ((kvs.map (·.1)).map keyD) [] ∧ Vals (kvs.map (·.2)) (es.map (·.val))
  | _, _, _, .nil, .nil => ⟨.nil, .nil⟩
  | e :: es, kv :: kvs, q :: vs, .cons r1 r2, .cons p1 p2 p3 => by
    obtain ⟨h1, h2⟩ := keys_read r2 p3
    obtain ⟨k, v⟩ := kv
    obtain ⟨k', v'⟩ := q
    obtain ⟨rk, rv⟩ := r1
    obtain rfl : k = k' := rk
    have rv' : RelV v v' := rv
    have e2 : e.val = v' := p2
    refine ⟨?_, ?_⟩
    · have one : Reads h e.key (keyD k) [] := by
        rcases keyIs_shape p1 with ⟨i, t, rfl, ek⟩ | ⟨x, t, rfl, ek⟩
        · rw [ek]
          exact .int i t
        · rw [ek]
          exact .str x t
      exact ReadsAll.cons one h1
    · show Vals (v :: kvs.map (·.2)) (e.val :: es.map (·.val))
      rw [e2]
      exact .cons rv' h2
mutual
theorem PyW.reads {P : Program} {w : World} {H : Hp} {h : Heap} (ok : HOk P w H h) (ns : H sysModules = none) : ∀ {x : V} {d : PyData} {u : Value}, PyW H x d → RelV x u → ∃ as, Reads h u d as ∧ sysModules ∉ as
  | _, _, u, .non, r => by
    obtain rfl : u = Value.none := r
    exact ⟨_, .none, List.not_mem_nil⟩
  | _, _, u, .bl b, r => by
    obtain rfl : u = Value.bool b := r
    exact ⟨_, .bool b, List.not_mem_nil⟩
  | _, _, u, .int i, r => by
    obtain ⟨t, rfl⟩ : ∃ t, u = Value.int i t := r
    exact ⟨_, .int i t, List.not_mem_nil⟩
  | _, _, u, .str z, r => by
    obtain ⟨t, rfl⟩ : ∃ t, u = Value.str z t := r
    exact ⟨_, .str z t, List.not_mem_nil⟩
  | _, _, u, .tup (a := a) h1 h2, r => by
    obtain rfl : u = Value.ref a := r
    obtain ⟨_, its, rel, o, e1, e2, n, e3⟩ := ok a _ h1
    obtain ⟨as, q, m⟩ := PyWs.reads ok ns h2 rel
    exact ⟨_, .tuple e1 e2 e3 q, m⟩
  | _, _, u, .lst (a := a) h1 h2, r => by
    obtain rfl : u = Value.ref a := r
    obtain ⟨_, its, n, rel, e1⟩ := ok a _ h1
    obtain ⟨as, q, m⟩ := PyWs.reads ok ns h2 rel
    exact ⟨_, .list e1 rfl rfl q, fun z => (List.mem_cons.mp z).elim (fun e => ne_of_none h1 ns e.symm) m⟩
  | _, _, u, .dic (a := a) (kvs := kvs) (ds := ds) h1 h2, r => by
    obtain rfl : u = Value.ref a := r
    obtain ⟨_, hs, vs, rel, o, es, ep, e1, ex, e2, _, pr, _⟩ := ok a _ h1
    obtain ⟨rk, rv⟩ := keys_read (h := h) rel pr
    obtain ⟨bs, q, m⟩ := PyWs.reads ok ns h2 rv
    have hl : (kvs.map (·.1)).length = ds.length := by
      have := PyWs.length h2
      rw [List.length_map] at this ⊢
      exact this
    refine ⟨_, .dict e1 ex.1 e2 (as := []) (bs := bs) (by rw [zipD_fst _ _ hl]; exact rk) (by rw [zipD_snd _ _ hl]; exact q), fun z => ?_⟩
    exact (List.mem_cons.mp (show sysModules ∈ a :: bs from z)).elim (fun e => ne_of_none h1 ns e.symm) m
theorem PyWs.reads {P : Program} {w : World} {H : Hp} {h : Heap} (ok : HOk P w H h) (ns : H sysModules = none) : ∀ {xs : List V} {ds : List PyData} {us : List Value}, PyWs H xs ds → Vals xs us → ∃ as, ReadsAll h us ds as ∧ sysModules ∉ as
  | _, _, _, .nil, r => by
    cases r
    exact ⟨_, .nil, List.not_mem_nil⟩
  | _, _, _, .cons h1 h2, r => by
    cases r with
    | cons r1 r2 =>
      obtain ⟨a1, q1, m1⟩ := PyW.reads ok ns h1 r1
      obtain ⟨a2, q2, m2⟩ := PyWs.reads ok ns h2 r2
      exact ⟨_, .cons q1 q2, fun z => (List.mem_append.mp z).elim m1 m2⟩
end
/-- sys.modules stands in the ground -/
def SysIn (base : Heap) : Prop := ∃ o, base.get? sysModules = some o
theorem SysIn.no {X : Cx} {pins : List (Addr × Obj)} {σ : St} {H : Hp} {s : Shared} (b : SysIn X.base) (I : Inv X pins σ H s) : H sysModules = none := by
  obtain ⟨o, e⟩ := b
  exact (I.bs _ _ e).2
/-- it is flat, or an object -/
theorem PyW.flat {H : Hp} {x : V} {d : PyData} (p : PyW H x d) : PyV H x d ∨ ∃ a, x = .ref a := by
  cases p with
  | non => exact .inl .non
  | bl b => exact .inl (.bl b)
  | int i => exact .inl (.int i)
  | str z => exact .inl (.str z)
  | tup h r => exact .inr ⟨_, rfl⟩
  | lst h r => exact .inr ⟨_, rfl⟩
  | dic h r => exact .inr ⟨_, rfl⟩
section
variable {X : Cx} {j : Nat}
theorem repr_anyW {pins : List (Addr × Obj)} {σ : St} {H : Hp} {s : Shared} {Q : VK} {x : V} {u : Value} {d : PyData} (sys : SysIn X.base) (quiet : X.A.guards = some []) (room : X.A.units + 64 < cLine) (I : Inv X pins σ H s) (r : RelV x u) (p : PyW H x d) (t : Tells d) (q : Q (.str d.shown) H) :
    wpAny (model X.prog X.w) X.A (pyReprObj u) (EP X pins σ Q) X.xe s := by
  rcases p.flat with f | ⟨a, rfl⟩
  · exact repr_any quiet room I r f t q
  · obtain rfl : u = Value.ref a := r
    obtain ⟨as, rd, no⟩ := p.reads I.hok (sys.no I) rfl
    have dp := t.dp
    exact pyReprObj_of_reads rd t.sh (fun _ => no) quiet (by omega) (fun _ _ e => e) (fun h2 k tk kp => ⟨.str d.shown, H, I.kept kp, ⟨k, rfl⟩, q⟩) t.size
/-- repr(x) -/
theorem call_reprW (sys : SysIn X.base) (quiet : X.A.guards = some []) (room : Room j X.A) : CallR X (.builtin "repr") (fun xs H Q => ∃ x d, xs = [x] ∧ PyW H x d ∧ Tells d ∧ Q (.str d.shown) H) := by
  intro pins s σ H xs us Q I rel h
  obtain ⟨x, d, rfl, p, t, q⟩ := h
  rcases p.flat with f | ⟨a, rfl⟩
  · exact call_reprG quiet room pins s σ H _ us Q I rel ⟨x, d, rfl, f, t, q⟩
  · match us, rel with
    | [u], .cons r .nil =>
      obtain rfl : u = Value.ref a := r
      obtain ⟨as, rd, no⟩ := p.reads I.hok (sys.no I) rfl
      have dp := t.dp
      have ru := room.units
      exact repr_of_reads' rd t.sh (fun _ => no) quiet (by omega) (fun _ _ e => e) (fun h2 k tk kp => ⟨.str d.shown, H, I.kept kp, ⟨k, rfl⟩, q⟩) t.size
/-- {x!r} of a datum -/
def tFmtW (te : TE) : TE := fun σ H Q => te σ H fun x H1 => ∃ d, PyW H1 x d ∧ Tells d ∧ Q (.str d.shown) H1
theorem pe_fmtW {e : Expr} {te : TE} {pos : Pos} (sys : SysIn X.base) (quiet : X.A.guards = some []) (room : Room j X.A) (he : PE X e te) : PE X (.FormattedValue e 114 none pos) (tFmtW te) := by
  refine ⟨fun pins s σ H Q I h => wpAny_FormattedValue_repr (thn (he.run pins s σ H _ I h) fun v s1 hv => ?_)⟩
  obtain ⟨x, H1, J, rel, d, p, t, q⟩ := hv
  refine thn (repr_anyW (Q := fun y H2 => y = .str d.shown ∧ H2 = H1) sys quiet room.units J rel p t ⟨rfl, rfl⟩) fun u s2 z => ?_
  obtain ⟨y, H2, J2, r2, ey, eH⟩ := z
  subst ey
  subst eH
  obtain ⟨k, rfl⟩ := r2
  exact wpAny_formatField_str ⟨.str d.shown, _, J2, ⟨_, rfl⟩, q⟩ ⟨.str d.shown, _, J2.tok _, ⟨_, rfl⟩, q⟩ t.size
end
end L2

set_option Elab.async false
set_option linter.all false
set_option maxRecDepth 100000
set_option maxHeartbeats 4000000
/-! The drawing of the law: the pen, a draw, a pick. -/
namespace V8
open PySem PySem.Spec PyProof.Rows L2
def topS (i : Nat) : Stmt := PySem.Challenge.pw_blindrepair_k01_errors_apart.main.body.getD i (.Pass ⟨0, 0, 0, 0⟩)
abbrev s_pen : Stmt := topS 30
abbrev n_pen : List Str := ["_law_script"]
theorem sc_pen : FnScope ["_law_script"] ["_law_script"] (defScope s_pen) := ⟨rfl, rfl, rfl, by decide +kernel, rfl, by decide +kernel, by decide +kernel⟩
abbrev s_draw : Stmt := topS 31
abbrev n_draw : List Str := ["_law_pen_here", "_law_many", "_law_digit", "_law_spot", "_law_cell", "_law_great", "_law_stirred"]
theorem sc_draw : FnScope ["_law_pen_here", "_law_many", "_law_digit", "_law_spot", "_law_cell", "_law_great", "_law_stirred"] ["_law_pen_here", "_law_many"] (defScope s_draw) := ⟨rfl, rfl, rfl, by decide +kernel, rfl, by decide +kernel, by decide +kernel⟩
abbrev s_pick : Stmt := topS 32
abbrev n_pick : List Str := ["_law_pen_here", "_law_some"]
theorem sc_pick : FnScope ["_law_pen_here", "_law_some"] ["_law_pen_here", "_law_some"] (defScope s_pick) := ⟨rfl, rfl, rfl, by decide +kernel, rfl, by decide +kernel, by decide +kernel⟩

/-- all but the object at p stands as it stood -/
def Fr (p : Addr) (H H' : Hp) : Prop := ∀ b o, H b = some o → b ≠ p → H' b = some o
theorem Fr.refl {p : Addr} {H : Hp} : Fr p H H := fun _ _ h _ => h
theorem Fr.trans {p : Addr} {H H1 H2 : Hp} (a : Fr p H H1) (b : Fr p H1 H2) : Fr p H H2 := fun c o h n => b c o (a c o h n) n
theorem Fr.new {p q : Addr} {o : HO} {H : Hp} (h : H q = none) : Fr p H (upd H q o) := fun b u e _ => by
  rw [upd_ne (ne_of_none e h)]; exact e
theorem Fr.at {p : Addr} {o : HO} {H : Hp} : Fr p H (upd H p o) := fun b u e n => by
  rw [upd_ne n]; exact e
theorem Fr.none' {p q : Addr} {H H' : Hp} (a : Fr p H H') (hp : H' p ≠ none) (h : H' q = none) : H q = none := by
  cases e : H q with
  | none => rfl
  | some o =>
    by_cases hq : q = p
    · subst hq; exact absurd h hp
    · rw [a q o e hq] at h; cases h
/-- the pen at p, the script's ints at l, n draws are let -/
structure PenAt (H : Hp) (p l : Addr) (ns : List Int) (n : Nat) : Prop where
  here : ∃ (spot great : Int), H p = some (.lst [.ref l, .int spot, .int great]) ∧ 0 ≤ spot ∧ spot + n ≤ 1000000 ∧ 0 ≤ great
  nums : H l = some (.lst (ns.map V.int))
  ne : l ≠ p
  short : ns.length ≤ 63
theorem PenAt.less {H : Hp} {p l : Addr} {ns : List Int} {n m : Nat} (P : PenAt H p l ns n) (h : m ≤ n) : PenAt H p l ns m := by
  obtain ⟨⟨s, g, h1, h2, h3, h4⟩, i, e, sh⟩ := P
  exact ⟨⟨s, g, h1, h2, by omega, h4⟩, i, e, sh⟩
theorem PenAt.some' {H : Hp} {p l : Addr} {ns : List Int} {n : Nat} (P : PenAt H p l ns n) : H p ≠ none := by
  obtain ⟨⟨s, g, h1, _⟩, _⟩ := P
  rw [h1]; exact fun z => nomatch z
theorem PenAt.new {H : Hp} {p l q : Addr} {o : HO} {ns : List Int} {n : Nat} (P : PenAt H p l ns n) (h : H q = none) : PenAt (upd H q o) p l ns n := by
  obtain ⟨⟨s, g, h1, h2, h3, h4⟩, i, e, sh⟩ := P
  exact ⟨⟨s, g, by rw [upd_ne (ne_of_none h1 h)]; exact h1, h2, h3, h4⟩, by rw [upd_ne (ne_of_none i h)]; exact i, e, sh⟩
/-- another object is written -/
theorem PenAt.other {H : Hp} {p l q : Addr} {o : HO} {ns : List Int} {n : Nat} (P : PenAt H p l ns n) (h : q ≠ p) (h' : q ≠ l) : PenAt (upd H q o) p l ns n := by
  obtain ⟨⟨s, g, h1, h2, h3, h4⟩, i, e, sh⟩ := P
  exact ⟨⟨s, g, by rw [upd_ne (Ne.symm h)]; exact h1, h2, h3, h4⟩, by rw [upd_ne (Ne.symm h')]; exact i, e, sh⟩
def spDraw : Sp := fun vs H Q _ => ∃ (p l : Addr) (ns : List Int) (n : Nat) (many : Int), vs = [.ref p, .int many] ∧ PenAt H p l ns (n + 1) ∧ 0 < many ∧ many < 1000 ∧
  ∀ (v : Int) (H' : Hp), 0 ≤ v → v < many → PenAt H' p l ns n → Fr p H H' → Q (.int v) H'
section
variable {P : Program} {w : World} {K : PySem.W.Frag} {mg : Str → Option Value} {base : Heap}
theorem ints_at {ns : List Int} {i : Int} (h0 : 0 ≤ i) (h : i < ns.length) : ∃ z : Int, atI (ns.map V.int) i = some (.int z) := by
  obtain ⟨j, rfl⟩ : ∃ j : Nat, i = j := ⟨i.toNat, by omega⟩
  have hj : j < ns.length := by omega
  exact ⟨ns[j], atI_nat (by rw [List.getElem?_map, List.getElem?_eq_getElem hj]; rfl)⟩
def dInts (ns : List Int) : List PyData := ns.map PyData.int
theorem dp_ints {H : Hp} : ∀ ns : List Int, DpAll K H (ns.map V.int) (dInts ns)
  | [] => .nil
  | n :: ns => .cons (.int n) (dp_ints ns)
theorem lay_ints : ∀ ns : List Int, PyData.canLayAll0 (dInts ns) = true
  | [] => by simp [dInts, PyData.canLayAll0]
  | n :: ns => by
    have h := lay_ints ns
    simp only [dInts, List.map_cons, PyData.canLayAll0, PyData.canLay0, Bool.true_and]
    exact h
theorem depth_ints : ∀ ns : List Int, PyData.depthAll (dInts ns) = 0
  | [] => by simp [dInts, PyData.depthAll]
  | n :: ns => by
    have h := depth_ints ns
    simp only [dInts, List.map_cons, PyData.depthAll, PyData.depth]
    unfold dInts at h
    omega
theorem shaped_ints (ns : List Int) : SeqAt.shaped (.list (dInts ns)) = true := by
  have h2 : PyData.depth (.list (dInts ns)) ≤ 64 := by
    simp only [PyData.depth, depth_ints]
    omega
  show (PyData.canLay0 (.list (dInts ns)) && decide (PyData.depth (.list (dInts ns)) ≤ 64)) = true
  rw [Bool.and_eq_true]
  exact ⟨by simp only [PyData.canLay0]; exact lay_ints ns, decide_eq_true h2⟩
structure Blt (mg : Str → Option Value) : Prop where
  list : mg "list" = none
  int : mg "int" = none
  len : mg "len" = none
  abs : mg "abs" = none
  range : mg "range" = none
  dict : mg "dict" = none
  str : mg "str" = none
  sorted : mg "sorted" = none
  tuple : mg "tuple" = none
theorem pw2 {st spot : Int} (s0 : 0 ≤ st) (s1 : st < 2147483549) (h0 : 0 ≤ spot) (h1 : spot ≤ 1000000) : (st * (2 * spot + 191) + 44017 * spot * spot + 271).natAbs < 2 ^ 64 := by
  have a1 : st * (2 * spot + 191) ≤ 2147483647 * 2000999 := Int.mul_le_mul (by omega) (by omega) (by omega) (by omega)
  have a0 : 0 ≤ st * (2 * spot + 191) := Int.mul_nonneg s0 (by omega)
  have c1 : 44017 * spot * spot ≤ 99999000000 * 1000000 := Int.mul_le_mul (by omega) h1 h0 (by omega)
  have c0 : 0 ≤ 44017 * spot * spot := Int.mul_nonneg (by omega) h0
  omega
theorem ok_draw {f : Addr} {fd : FuncData} {k : Nat} (F : Fun K "_law_draw" "_law_draw" s_draw f fd) (T : Blt mg) : FnOk P w K mg base CX0 (k + 1) f fd ["_law_pen_here", "_law_many"] spDraw := by
  refine F.ok sc_draw (fun vs H Q E h => ?_) (fun cdv A outer s H vs Q E hr h => ?_)
  · obtain ⟨p, l, ns, n, many, rfl, _⟩ := h
    rfl
  · obtain ⟨p, l, ns, n, many, rfl, PA, m0, m1, q⟩ := h
    obtain ⟨⟨spot, great, hp, hs0, hsn, hg⟩, hl, hne, hsh⟩ := id PA
    refine ⟨_, (pss_cons (ps_if (pt_cmpR op_gt (pe_ix (ix_listK (K := K) rfl) (pv 0) pe_int (fun _ _ => rfl)) pe_int (nomark _))
        (pss_cons (ps_set (i := 2) sc_draw.nd rfl (.inl rfl) (pe_op op_mod (pe_callTy call_int1 (by rfl) T.int (by decide +kernel) (pa_cons (pe_ix (ix_listK (K := K) rfl) (pv 0) pe_int (fun _ _ => rfl)) pa_nil)) (pv 1)))
        (pss_cons (ps_asg (pe_op op_fdiv (pe_callTy call_int1 (by rfl) T.int (by decide +kernel) (pa_cons (pe_ix (ix_listK (K := K) rfl) (pv 0) pe_int (fun _ _ => rfl)) pa_nil)) (pv 1)) (pg_sub (pv 0) pe_int set_list))
        (pss_one (ps_ret (pv 2)))))
        pss_nil)
      (pss_cons (ps_set (i := 3) sc_draw.nd rfl (.inl rfl) (pe_ix (ix_listK (K := K) rfl) (pv 0) pe_int (fun _ _ => rfl)))
      (pss_cons (ps_asg (pe_op op_add (pv 3) pe_int) (pg_sub (pv 0) pe_int set_list))
      (pss_cons (ps_set (i := 4) sc_draw.nd rfl (.inl rfl) (pe_op op_add (pe_op op_mul pe_int (pv 3)) pe_int))
      (pss_cons (ps_if (pt_cmpR (op_neDK (K := K) rfl hr.units) (pe_ix (ix_listK (K := K) rfl) (pv 0) pe_int (fun _ _ => rfl)) (pe_lst pa_nil) (nomark _))
        (pss_one (ps_set (i := 4) sc_draw.nd rfl (.inl rfl) (pe_ix (ix_listK (K := K) rfl) (pe_ix (ix_listK (K := K) rfl) (pv 0) pe_int (fun _ _ => rfl)) (pe_op op_mod (pe_callTy call_int1 (by rfl) T.int (by decide +kernel) (pa_cons (pv 3) pa_nil)) (pe_callB (call_len_seqK (K := K) rfl) (by rfl) T.len (by decide +kernel) (pa_cons (pe_ix (ix_listK (K := K) rfl) (pv 0) pe_int (fun _ _ => rfl)) pa_nil))) (fun _ _ => rfl))))
        pss_nil)
      (pss_cons (ps_if (PW.pt (pw_and (pt_cmpR op_lt (pv 3) (pe_callB (call_len_seqK (K := K) rfl) (by rfl) T.len (by decide +kernel) (pa_cons (pe_ix (ix_listK (K := K) rfl) (pv 0) pe_int (fun _ _ => rfl)) pa_nil)) (nomark _)) (pw_and1 (pt_cmpR op_ge (pe_callB call_abs (by rfl) T.abs (by decide +kernel) (pa_cons (pv 4) pa_nil)) (pe_op op_pow pe_int pe_int) (nomark _)))))
        (pss_cons (ps_set (i := 5) sc_draw.nd rfl (.inl rfl) (pe_op op_add (pe_op op_mul pe_int (pe_op op_sub (pe_callB call_abs (by rfl) T.abs (by decide +kernel) (pa_cons (pv 4) pa_nil)) (pe_op op_pow pe_int pe_int))) (pe_callTy call_int1 (by rfl) T.int (by decide +kernel) (pa_cons (pe_cmpR op_lt (pv 4) pe_int (nomark _)) pa_nil))))
        (pss_cons (ps_asg (pe_op op_fdiv (pe_callTy call_int1 (by rfl) T.int (by decide +kernel) (pa_cons (pv 5) pa_nil)) (pv 1)) (pg_sub (pv 0) pe_int set_list))
        (pss_one (ps_ret (pe_op op_mod (pe_callTy call_int1 (by rfl) T.int (by decide +kernel) (pa_cons (pv 5) pa_nil)) (pv 1))))))
        pss_nil)
      (pss_cons (ps_set (i := 6) sc_draw.nd rfl (.inl rfl) (pe_op op_mod (pe_callTy call_int1 (by rfl) T.int (by decide +kernel) (pa_cons (pe_op op_pow (pe_op op_add (pe_op op_add (pe_op op_mod (pe_callTy call_int1 (by rfl) T.int (by decide +kernel) (pa_cons (pv 4) pa_nil)) pe_int) (pe_op op_mul pe_int (pv 3))) pe_int) pe_int) pa_nil)) pe_int))
      (pss_cons (ps_set (i := 6) sc_draw.nd rfl (.inl rfl) (pe_op op_mod (pe_callTy call_int1 (by rfl) T.int (by decide +kernel) (pa_cons (pe_op op_pow (pe_op op_add (pe_op op_add (pe_op op_mul (pv 6) (pe_op op_add (pe_op op_mul pe_int (pv 3)) pe_int)) (pe_op op_mul (pe_op op_mul pe_int (pv 3)) (pv 3))) pe_int) pe_int) pa_nil)) pe_int))
      (pss_one (ps_ret (pe_op op_mod (pe_callTy call_int1 (by rfl) T.int (by decide +kernel) (pa_cons (pe_op op_fdiv (pv 6) pe_int) pa_nil)) (pv 1)))))))))))), ?_⟩
    -- pen[2] > 0
    refine ⟨_, rfl, p, _, 2, _, rfl, rfl, SqL.of hp, rfl, great, 0, rfl, rfl, _, rfl, ?_⟩
    refine ite2 (fun e => ?_) (fun e => ?_)
    · refine ⟨_, rfl, p, _, 2, _, rfl, rfl, SqL.of hp, rfl, .inl ⟨_, rfl, _, rfl, _, _, rfl, rfl, m0, ?_⟩⟩
      refine ⟨_, rfl, p, _, 2, _, rfl, rfl, SqL.of hp, rfl, .inl ⟨_, rfl, _, rfl, _, _, rfl, rfl, ⟨m0, by omega⟩, _, rfl, p, _, 2, 2, rfl, rfl, hp, rfl, ?_⟩⟩
      refine ⟨_, rfl, q _ _ (Int.emod_nonneg _ (by omega)) (Int.emod_lt_of_pos _ m0) ⟨⟨spot, great / many, upd_same, hs0, by omega, Int.ediv_nonneg hg (by omega)⟩, by rw [upd_ne hne]; exact hl, hne, hsh⟩ Fr.at⟩
    -- spot = pen[1]; pen[1] = spot + 1; cell = ..
    refine ⟨_, rfl, p, _, 1, _, rfl, rfl, SqL.of hp, rfl, ?_⟩
    refine ⟨_, rfl, _, _, rfl, rfl, _, rfl, p, _, 1, 1, rfl, rfl, hp, rfl, ?_⟩
    refine ⟨_, rfl, _, _, rfl, rfl, .inl ⟨by decide, by decide⟩, _, _, rfl, rfl, ?_⟩
    have hp1 : upd H p (.lst [.ref l, .int (spot + 1), .int great]) p = some (.lst [.ref l, .int (spot + 1), .int great]) := upd_same
    have hl1 : upd H p (.lst [.ref l, .int (spot + 1), .int great]) l = some (.lst (ns.map V.int)) := by rw [upd_ne hne]; exact hl
    dsimp only [List.set_cons_succ, List.set_cons_zero]
    -- pen[0] != []
    refine ⟨_, rfl, p, _, 0, _, rfl, rfl, SqL.of hp1, rfl, Nat.zero_le _, fun o no => ?_⟩
    have hpo : p ≠ o := ne_of_none hp1 no
    have hlo : l ≠ o := ne_of_none hl1 no
    have hp2 : upd (upd H p (.lst [.ref l, .int (spot + 1), .int great])) o (.lst []) p = some (.lst [.ref l, .int (spot + 1), .int great]) := by rw [upd_ne hpo]; exact hp1
    have hl2 : upd (upd H p (.lst [.ref l, .int (spot + 1), .int great])) o (.lst []) l = some (.lst (ns.map V.int)) := by rw [upd_ne hlo]; exact hl1
    have fr2 : Fr p H (upd (upd H p (.lst [.ref l, .int (spot + 1), .int great])) o (.lst [])) := Fr.at.trans (Fr.new no)
    refine ⟨_, _, .lst (SqL.of hl2) (dp_ints ns), .lst (SqL.of upd_same) .nil, shaped_ints ns, by decide, _, rfl, ?_⟩
    generalize upd (upd H p (.lst [.ref l, .int (spot + 1), .int great])) o (.lst []) = H2 at hp2 hl2 fr2 ⊢
    refine ite2 (fun e => ?g1) (fun e => ?g2)
    case' g1 =>
      have hns : 0 < ns.length := by
        cases ns with
        | nil => simp [dInts, PyData.eqv, PyData.eqvAll] at e
        | cons a r => simp
      have hpos : (0 : Int) < ((ns.map V.int).length : Int) := by rw [List.length_map]; omega
      obtain ⟨z, hz⟩ := ints_at (ns := ns) (i := spot % ((ns.map V.int).length : Int)) (Int.emod_nonneg _ (by omega)) (by
        have := Int.emod_lt_of_pos spot hpos
        rw [List.length_map] at this ⊢
        exact this)
      refine ⟨_, rfl, p, _, 0, _, rfl, rfl, SqL.of hp2, rfl, _, rfl, .inl ⟨_, rfl, _, rfl, p, _, 0, _, rfl, rfl, SqL.of hp2, rfl, l, _, rfl, .inl (SqL.of hl2), _, _, rfl, rfl, hpos, l, _, _, _, rfl, rfl, SqL.of hl2, hz, ?_⟩⟩
      generalize z = c
      refine ⟨_, rfl, _, rfl, p, _, 0, _, rfl, rfl, SqL.of hp2, rfl, l, _, rfl, .inl (SqL.of hl2), _, _, rfl, rfl, _, rfl, ?_⟩
      refine ite2 (fun e1 => ?a3) (fun e1 => ?a4)
      case' a3 =>
        refine ⟨_, rfl, _, rfl, _, _, rfl, rfl, ⟨by decide, by decide, by decide⟩, _, _, rfl, rfl, _, rfl, ?_⟩
        refine ite2 (fun e2 => ?a5) (fun e2 => ?a6)
        case' a5 =>
          have hge := of_decide_eq_true e2
          refine ⟨_, rfl, _, rfl, _, _, rfl, rfl, ⟨by decide, by decide, by decide⟩, _, _, rfl, rfl, _, _, rfl, rfl, .inl ⟨by decide, by decide⟩, _, rfl, _, _, rfl, rfl, .inr ⟨_, rfl, _, _, rfl, rfl, ?_⟩⟩
          have hG : 0 ≤ 2 * ((if c < 0 then -c else c) - 10 ^ (18 : Int).toNat) + (if decide (c < 0) = true then 1 else 0) := by
            have h1 : (10 : Int) ^ (18 : Int).toNat ≤ (if c < 0 then -c else c) := hge
            have h2 : (0 : Int) ≤ (if decide (c < 0) = true then 1 else 0) := by split <;> decide
            omega
          refine ⟨_, rfl, .inl ⟨_, rfl, _, rfl, _, _, rfl, rfl, ⟨m0, by omega⟩, _, rfl, p, _, 2, 2, rfl, rfl, hp2, rfl, ?_⟩⟩
          refine ⟨_, rfl, .inl ⟨_, rfl, _, rfl, _, _, rfl, rfl, m0, ?_⟩⟩
          exact q _ _ (Int.emod_nonneg _ (by omega)) (Int.emod_lt_of_pos _ m0) ⟨⟨spot + 1, _, upd_same, by omega, by omega, Int.ediv_nonneg hG (by omega)⟩, by rw [upd_ne hne]; exact hl2, hne, hsh⟩ (fr2.trans Fr.at)
      case' a4 => refine iteF ?_
    case' g2 =>
      generalize 70121 * spot + 1109 = c
      refine ⟨_, rfl, _, rfl, p, _, 0, _, rfl, rfl, SqL.of hp2, rfl, l, _, rfl, .inl (SqL.of hl2), _, _, rfl, rfl, _, rfl, ?_⟩
      refine ite2 (fun e1 => ?b3) (fun e1 => ?b4)
      case' b3 =>
        refine ⟨_, rfl, _, rfl, _, _, rfl, rfl, ⟨by decide, by decide, by decide⟩, _, _, rfl, rfl, _, rfl, ?_⟩
        refine ite2 (fun e2 => ?b5) (fun e2 => ?b6)
        case' b5 =>
          have hge := of_decide_eq_true e2
          refine ⟨_, rfl, _, rfl, _, _, rfl, rfl, ⟨by decide, by decide, by decide⟩, _, _, rfl, rfl, _, _, rfl, rfl, .inl ⟨by decide, by decide⟩, _, rfl, _, _, rfl, rfl, .inr ⟨_, rfl, _, _, rfl, rfl, ?_⟩⟩
          have hG : 0 ≤ 2 * ((if c < 0 then -c else c) - 10 ^ (18 : Int).toNat) + (if decide (c < 0) = true then 1 else 0) := by
            have h1 : (10 : Int) ^ (18 : Int).toNat ≤ (if c < 0 then -c else c) := hge
            have h2 : (0 : Int) ≤ (if decide (c < 0) = true then 1 else 0) := by split <;> decide
            omega
          refine ⟨_, rfl, .inl ⟨_, rfl, _, rfl, _, _, rfl, rfl, ⟨m0, by omega⟩, _, rfl, p, _, 2, 2, rfl, rfl, hp2, rfl, ?_⟩⟩
          refine ⟨_, rfl, .inl ⟨_, rfl, _, rfl, _, _, rfl, rfl, m0, ?_⟩⟩
          exact q _ _ (Int.emod_nonneg _ (by omega)) (Int.emod_lt_of_pos _ m0) ⟨⟨spot + 1, _, upd_same, by omega, by omega, Int.ediv_nonneg hG (by omega)⟩, by rw [upd_ne hne]; exact hl2, hne, hsh⟩ (fr2.trans Fr.at)
      case' b4 => refine iteF ?_
    all_goals
      have b0 := Int.emod_nonneg c (show (2147483647 : Int) ≠ 0 by decide)
      have b1 := Int.emod_lt_of_pos c (show (0 : Int) < 2147483647 by decide)
      refine ⟨_, rfl, .inl ⟨_, rfl, _, _, rfl, rfl, (show (0 : Int) < 2147483647 by decide), _, rfl, _, _, rfl, rfl, .inl ⟨by decide, by decide⟩, _, _, rfl, rfl, _, _, rfl, rfl, _, _, rfl, rfl, ⟨by decide, by decide, by omega⟩, .inl ⟨_, rfl, _, _, rfl, rfl, (show (0 : Int) < 2147483549 by decide), ?_⟩⟩⟩
      have s0 : 0 ≤ ((c % 2147483647 + 51307 * spot + 611) ^ (5 : Int).toNat) % 2147483549 := Int.emod_nonneg _ (by decide)
      have s1 : ((c % 2147483647 + 51307 * spot + 611) ^ (5 : Int).toNat) % 2147483549 < 2147483549 := Int.emod_lt_of_pos _ (by decide)
      have hsp : spot ≤ 1000000 := by omega
      refine ⟨_, rfl, _, rfl, _, _, rfl, rfl, .inl ⟨by decide, by decide⟩, _, _, rfl, rfl, _, _, rfl, rfl, .inl ⟨by omega, by omega⟩, _, rfl, _, _, rfl, rfl, .inl ⟨by decide, by decide⟩, _, rfl, _, _, rfl, rfl, .inl ⟨by omega, by omega⟩, _, _, rfl, rfl, _, _, rfl, rfl, _, _, rfl, rfl, ⟨by decide, by decide, pw2 s0 s1 hs0 hsp⟩, .inl ⟨_, rfl, _, _, rfl, rfl, (show (0 : Int) < 2147483489 by decide), ?_⟩⟩
      refine ⟨_, rfl, _, _, rfl, rfl, ⟨by decide, by decide⟩, .inl ⟨_, rfl, _, rfl, _, _, rfl, rfl, m0, ?_⟩⟩
      exact q _ _ (Int.emod_nonneg _ (by omega)) (Int.emod_lt_of_pos _ m0) ⟨⟨spot + 1, great, hp2, by omega, by omega, hg⟩, hl2, hne, hsh⟩ fr2
end
end V8

set_option Elab.async false
set_option linter.all false
set_option maxRecDepth 100000
set_option maxHeartbeats 4000000
/-! What the law draws: a pick, letters, images, tables. -/
namespace V8
open PySem PySem.Spec PyProof.Rows L2
/-- the text of one sign; of several -/
def L1 (c : Nat) : Str := ⟨#[c]⟩
def Sx (cs : List Nat) : Str := ⟨cs.toArray⟩
theorem L1_Sx (c : Nat) : L1 c = Sx [c] := rfl
theorem L1_inj {a b : Nat} (h : L1 a = L1 b) : a = b := by
  have h1 : (#[a] : Array Nat) = #[b] := congrArg Str.cps h
  simpa using h1
theorem Sx_inj {a b : List Nat} (h : Sx a = Sx b) : a = b := by
  have h1 : a.toArray = b.toArray := congrArg Str.cps h
  simpa using h1
def isLt (c : Nat) : Prop := 97 ≤ c ∧ c ≤ 122
instance (c : Nat) : Decidable (isLt c) := inferInstanceAs (Decidable (97 ≤ c ∧ c ≤ 122))
def lets (cs : List Nat) : List V := cs.map fun c => V.str (L1 c)
theorem lets_len (cs : List Nat) : (lets cs).length = cs.length := List.length_map ..
theorem lets_erase (cs : List Nat) (k : Nat) : (lets cs).eraseIdx k = lets (cs.eraseIdx k) := by
  unfold lets
  rw [List.eraseIdx_eq_take_drop_succ, List.eraseIdx_eq_take_drop_succ, List.map_append, List.map_take, List.map_drop]
theorem lets_snoc (cs : List Nat) (c : Nat) : lets (cs ++ [c]) = lets cs ++ [V.str (L1 c)] := by
  unfold lets
  rw [List.map_append]
  rfl
/-- a thing that is new, as seen from the start, is written -/
theorem Fr.put {p a : Addr} {o : HO} {H H1 : Hp} (f : Fr p H H1) (hn : H a = none) : Fr p H (upd H1 a o) := fun b u e n => by
  rw [upd_ne (ne_of_none e hn)]
  exact f b u e n
theorem lets_mem {cs : List Nat} {v : V} (h : v ∈ lets cs) : ∃ c ∈ cs, v = .str (L1 c) := by
  obtain ⟨c, hc, e⟩ := List.mem_map.mp h
  exact ⟨c, hc, e.symm⟩
/-- a to z -/
def abc : List Nat := (List.range 26).map (· + 97)
theorem abc_len : abc.length = 26 := by decide
theorem abc_nd : abc.Nodup := by decide
theorem abc_mem {c : Nat} : c ∈ abc ↔ isLt c := by
  unfold abc isLt
  rw [List.mem_map]
  constructor
  · rintro ⟨a, ha, rfl⟩
    have := List.mem_range.mp ha
    omega
  · rintro ⟨h1, h2⟩
    exact ⟨c - 97, List.mem_range.mpr (by omega), by omega⟩
def abcS : Str := "abcdefghijklmnopqrstuvwxyz"
theorem abcS_cps : abcS.cps.toList = abc := by decide +kernel

def spPick (K : PySem.W.Frag) : Sp := fun vs H Q _ => ∃ (p l a : Addr) (ns : List Int) (n : Nat) (xs : List V), vs = [.ref p, .ref a] ∧ PenAt H p l ns (n + 1) ∧ SqL K H a xs ∧ 0 < xs.length ∧ xs.length < 1000 ∧
  (∀ H', Fr p H H' → SqL K H' a xs) ∧ ∀ (v : V) (H' : Hp), v ∈ xs → PenAt H' p l ns n → Fr p H H' → Q v H'
theorem SqL.fr {K : PySem.W.Frag} {H H' : Hp} {p a : Addr} {xs : List V} (h : SqL K H a xs) (f : Fr p H H') (ne : a ≠ p) : SqL K H' a xs :=
  h.elim (fun h => .inl (h.elim (fun h => .inl (f _ _ h ne)) fun ⟨o, h⟩ => .inr ⟨o, f _ _ h ne⟩)) fun h => .inr h
def spLetters : Sp := fun vs H Q _ => ∃ (p l : Addr) (ns : List Int) (n : Nat) (many : Nat), vs = [.ref p, .int many] ∧ PenAt H p l ns (n + many) ∧ many ≤ 26 ∧
  ∀ (D : Addr) (cs : List Nat) (H' : Hp), cs.length = many → cs.Nodup → (∀ c ∈ cs, isLt c) → PenAt H' p l ns n → Fr p H H' → H D = none → H' D = some (.lst (lets cs)) → Q (.ref D) H'
section
variable {P : Program} {w : World} {K : PySem.W.Frag} {mg : Str → Option Value} {base : Heap}
theorem ok_pick {f : Addr} {fd : FuncData} (F : Fun K "_law_pick" "_law_pick" s_pick f fd) (T : Blt mg) (D_draw : Df P w K mg base 1 "_law_draw" spDraw) : FnOk P w K mg base CX0 2 f fd ["_law_pen_here", "_law_some"] (spPick K) := by
  refine F.ok sc_pick (fun vs H Q E h => ?_) (fun cdv A outer s H vs Q E hr h => ?_)
  · obtain ⟨p, l, a, ns, n, xs, rfl, _⟩ := h
    rfl
  · obtain ⟨p, l, a, ns, n, xs, rfl, PA, hS, h0, h1, st, q⟩ := h
    refine ⟨_, (pss_one (ps_ret (pe_ix (ix_listK (K := K) rfl) (pv 1) (pe_c D_draw hr (by decide) (by rfl) (pa_cons (pv 0) (pa_cons (pe_callB (call_len_seqK (K := K) rfl) (by rfl) T.len (by decide +kernel) (pa_cons (pv 1) pa_nil)) pa_nil))) (fun _ _ => rfl)))), ?_⟩
    refine ⟨.ref a, rfl, .ref p, rfl, .ref a, rfl, a, xs, rfl, .inl hS, p, l, ns, n, _, rfl, PA, by omega, by omega, fun v H' v0 v1 PA' fr => ?_⟩
    obtain ⟨j, rfl⟩ : ∃ j : Nat, v = j := ⟨v.toNat, by omega⟩
    have hj : j < xs.length := by omega
    exact ⟨a, xs, j, xs[j], rfl, rfl, st H' fr, atI_nat (List.getElem?_eq_getElem hj), q _ _ (List.getElem_mem hj) PA' fr⟩
theorem perm_erase {got rest : List Nat} {k : Nat} {y : Nat} (hp : (got ++ rest).Perm abc) (hy : rest[k]? = some y) : ((got ++ [y]) ++ rest.eraseIdx k).Perm abc := by
  refine List.Perm.trans ?_ hp
  rw [List.append_assoc]
  refine List.Perm.append_left got ?_
  show (y :: rest.eraseIdx k).Perm rest
  obtain ⟨hk, e⟩ := List.getElem?_eq_some_iff.mp hy
  rw [List.eraseIdx_eq_take_drop_succ]
  have h2 : rest = rest.take k ++ (y :: rest.drop (k + 1)) := by
    rw [← e, ← List.drop_eq_getElem_cons hk, List.take_append_drop]
  exact (List.perm_middle.symm).trans (List.Perm.of_eq h2.symm)
end
end V8

set_option Elab.async false
set_option linter.all false
set_option maxRecDepth 100000
set_option maxHeartbeats 8000000
/-! The pen made; what is due. -/
namespace V8
open PySem PySem.Spec PyProof.Rows L2
def spPen (K : PySem.W.Frag) : Sp := fun vs H Q _ => ∃ (a : Addr) (ns : List Int), vs = [.ref a] ∧ SqL K H a (ns.map V.int) ∧ ns.length ≤ 63 ∧ ∀ (p l : Addr) (H' : Hp), H p = none → Same H H' → PenAt H' p l ns 1000000 → Q (.ref p) H'
section
variable {P : Program} {w : World} {K : PySem.W.Frag} {mg : Str → Option Value} {base : Heap} {CM CJ : Addr}
theorem ok_pen {f : Addr} {fd : FuncData} (F : Fun K "_law_pen" "_law_pen" s_pen f fd) (T : Blt mg) : FnOk P w K mg base CX0 1 f fd ["_law_script"] (spPen K) := by
  refine F.ok sc_pen (fun vs H Q E h => ?_) (fun cdv A outer s H vs Q E hr h => ?_)
  · obtain ⟨a, ns, rfl, _⟩ := h
    rfl
  · obtain ⟨a, ns, rfl, hS, hn, q⟩ := h
    refine ⟨_, (pss_one (ps_ret (pe_lst (pa_cons (pe_callTy (call_list_ofK (K := K) rfl) (by rfl) T.list (by decide +kernel) (pa_cons (pe_slice (sl_listK (K := K) rfl) (pv 0) po_none (po_some pe_int)) pa_nil)) (pa_cons pe_int (pa_cons pe_int pa_nil)))))), ?_⟩
    refine ⟨_, rfl, 63, rfl, a, ns.map V.int, rfl, hS, fun l1 n1 => ?_⟩
    have hc : cutV (ns.map V.int) none (some 63) = ns.map V.int := by
      have e : HT.sIx (ns.map V.int).length (ns.map V.int).length (some 63) = (ns.map V.int).length := by
        show HT.sIx _ _ (some ((63 : Nat) : Int)) = _
        rw [HT.sIx_nat, List.length_map]
        omega
      unfold cutV
      rw [HT.sIx_none, List.drop_zero, e]
      exact List.take_of_length_le (Nat.le_refl _)
    rw [hc]
    refine ⟨l1, ns.map V.int, rfl, .inl (SqL.of upd_same), fun l n2 => ⟨by show 3 ≤ sizeLine; decide, fun p n3 => ?_⟩⟩
    have h1 : l1 ≠ l := ne_of_none upd_same n2
    have hl : l ≠ p := ne_of_none upd_same n3
    have n2H : upd H l1 (.lst (ns.map V.int)) l = none := n2
    have sm : Same H (upd (upd (upd H l1 (.lst (ns.map V.int))) l (.lst (ns.map V.int))) p (.lst [.ref l, .int 0, .int 0])) := fun b o e => by
      have b1 := ne_of_none e n1
      have e1 : upd H l1 (.lst (ns.map V.int)) b = some o := by rw [upd_ne b1]; exact e
      have b2 := ne_of_none e1 n2
      have e2 : upd (upd H l1 (.lst (ns.map V.int))) l (.lst (ns.map V.int)) b = some o := by rw [upd_ne b2]; exact e1
      rw [upd_ne (ne_of_none e2 n3)]
      exact e2
    refine q p l _ ?_ sm ⟨⟨0, 0, upd_same, by omega, by omega, by omega⟩, by rw [upd_ne hl]; exact upd_same, hl, hn⟩
    cases e : H p with
    | none => rfl
    | some o =>
      have b1 := ne_of_none e n1
      have e1 : upd H l1 (.lst (ns.map V.int)) p = some o := by rw [upd_ne b1]; exact e
      have b2 := ne_of_none e1 n2
      rw [upd_ne b2, e1] at n3
      cases n3
end
end V8

set_option Elab.async false
set_option linter.all false
set_option maxRecDepth 100000
set_option maxHeartbeats 8000000
/-! Values of any kind copied. -/
namespace V8
open PySem PySem.Spec PyProof.Rows L2
abbrev s_copied : Stmt := topS 1
abbrev n_copied : List Str := ["value", "part", "key"]
theorem sc_copied : FnScope ["value", "part", "key"] ["value"] (defScope s_copied) := ⟨rfl, rfl, rfl, by decide +kernel, rfl, by decide +kernel, by decide +kernel⟩
theorem ty_str {K : PySem.W.Frag} {H : Hp} (z : Str) : TyX K H (.str z) (.type "str") := .base (.str z)
theorem same_put {H H' : Hp} {D : Addr} {o : HO} (s : Same H H') (n : H' D = none) : Same H (upd H' D o) := fun b u e => by
  rw [upd_ne (ne_of_none (s b u e) n)]
  exact s b u e
theorem same_none {H H' : Hp} {D : Addr} (s : Same H H') (n : H' D = none) : H D = none := by
  cases e : H D with
  | none => rfl
  | some o =>
    rw [s _ _ e] at n
    cases n
theorem valV_at : ∀ {kvs : List (Key × V)} {i : Nat} {k : Key} {v : V}, (kvs.map (·.1)).Nodup → kvs[i]? = some (k, v) → valV kvs k = some v
  | [], i, k, v, _, h => by simp at h
  | p :: r, 0, k, v, _, h => by
    obtain rfl : p = (k, v) := by simpa using h
    simp [valV]
  | p :: r, i + 1, k, v, nd, h => by
    have h2 : r[i]? = some (k, v) := by simpa using h
    have nd2 := List.nodup_cons.mp (by simpa using nd : (p.1 :: r.map (·.1)).Nodup)
    have ne : ¬ p.1 = k := fun z => nd2.1 (z ▸ List.mem_map.mpr ⟨(k, v), List.mem_of_getElem? h2, rfl⟩)
    have ih := valV_at nd2.2 h2
    unfold valV at ih ⊢
    rw [List.find?_cons_of_neg (by simpa using ne)]
    exact ih
theorem not_take {kvs : List (Key × V)} {i : Nat} {k : Key} {v : V} (nd : (kvs.map (·.1)).Nodup) (h : kvs[i]? = some (k, v)) : k ∉ (kvs.take i).map (·.1) := by
  obtain ⟨hi, e⟩ := List.getElem?_eq_some_iff.mp h
  intro z
  rw [← List.take_append_drop i kvs, List.map_append, List.drop_eq_getElem_cons hi, e, List.map_cons] at nd
  exact (List.nodup_append.mp nd).2.2 _ z _ List.mem_cons_self rfl
/-- names that the text does not take -/
structure Tq (mg : Str → Option Value) : Prop extends Blt mg where
  isinstance : mg "isinstance" = none
  repr : mg "repr" = none
  enumerate : mg "enumerate" = none
/-- no list, tuple, dict, object -/
def Flat (x : V) : Prop := (∃ z, x = .str z) ∨ (∃ i, x = .int i) ∨ x = .non ∨ ∃ b, x = .bl b
theorem Flat.ty {K : PySem.W.Frag} {x : V} (f : Flat x) : ∃ t, (∀ H : Hp, TyX K H x t) ∧ PySem.W.kitOne K t (.type "list") = some false ∧ PySem.W.kitOne K t (.type "tuple") = some false ∧ PySem.W.kitOne K t (.type "dict") = some false := by
  rcases f with ⟨z, rfl⟩ | ⟨i, rfl⟩ | rfl | ⟨b, rfl⟩
  · exact ⟨_, fun _ => ty_str _, kit_ty (by decide +kernel), kit_ty (by decide +kernel), kit_ty (by decide +kernel)⟩
  · exact ⟨_, fun _ => .base (.int i), kit_ty (by decide +kernel), kit_ty (by decide +kernel), kit_ty (by decide +kernel)⟩
  · exact ⟨_, fun _ => .base .non, kit_ty (by decide +kernel), kit_ty (by decide +kernel), kit_ty (by decide +kernel)⟩
  · exact ⟨_, fun _ => .base (.bl b), kit_ty (by decide +kernel), kit_ty (by decide +kernel), kit_ty (by decide +kernel)⟩
theorem Flat.pyw {H H2 : Hp} {x : V} {d : PyData} (f : Flat x) (p : PyW H x d) : PyW H2 x d := by
  rcases f with ⟨z, rfl⟩ | ⟨i, rfl⟩ | rfl | ⟨b, rfl⟩ <;> cases p <;> constructor
theorem flats_pyw {H H2 : Hp} : ∀ {xs : List V} {ds : List PyData}, (∀ y ∈ xs, Flat y) → PyWs H xs ds → PyWs H2 xs ds
  | _, _, _, .nil => .nil
  | _, _, f, .cons h r => .cons ((f _ (List.mem_cons_self ..)).pyw h) (flats_pyw (fun y hy => f y (List.mem_cons_of_mem _ hy)) r)
/-- a flat value is handed back as it is -/
def spCopied (K : PySem.W.Frag) : Sp := fun vs H Q _ => ∃ (x : V) (t : Value), vs = [x] ∧ TyX K H x t ∧ PySem.W.kitOne K t (.type "list") = some false ∧ PySem.W.kitOne K t (.type "tuple") = some false ∧ PySem.W.kitOne K t (.type "dict") = some false ∧ Q x H
/-- flat, or a tuple, list or dict of such -/
def Told2 (H : Hp) (x : V) : Prop := Flat x ∨ (∃ a xs, x = .ref a ∧ (H a = some (.tup xs) ∨ H a = some (.lst xs)) ∧ xs.length ≤ 100 ∧ ∀ y ∈ xs, Flat y) ∨ ∃ a kvs, x = .ref a ∧ H a = some (.dK kvs) ∧ kvs.length ≤ 15 ∧ (kvs.map (·.1)).Nodup ∧ ∀ y ∈ kvs.map (·.2), Flat y
theorem Told2.same {H H2 : Hp} {x : V} (t : Told2 H x) (s : Same H H2) : Told2 H2 x := by
  rcases t with f | ⟨a, xs, e, h, l, g⟩ | ⟨a, kvs, e, h, l, n, g⟩
  · exact .inl f
  · exact .inr (.inl ⟨a, xs, e, h.imp (s _ _) (s _ _), l, g⟩)
  · exact .inr (.inr ⟨a, kvs, e, s _ _ h, l, n, g⟩)
theorem putK_new {kvs : List (Key × V)} {k : Key} {v : V} (h : k ∉ kvs.map (·.1)) : putK kvs k v = kvs ++ [(k, v)] := by
  unfold putK
  rw [if_neg]
  intro z
  obtain ⟨p, hp, e⟩ := List.any_eq_true.mp z
  have e2 : p.1 = k := by simpa using e
  exact h (e2 ▸ List.mem_map.mpr ⟨p, hp, rfl⟩)
def spCopyW : Sp := fun vs H Q _ => ∃ (x : V) (d : PyData), vs = [x] ∧ Told2 H x ∧ PyW H x d ∧ ∀ y H', Same H H' → PyW H' y d → Q y H'
section
variable {P : Program} {w : World} {K : PySem.W.Frag} {mg : Str → Option Value} {base : Heap}
theorem ok_copied {f : Addr} {fd : FuncData} (F : Fun K "copied" "copied" s_copied f fd) (T : Tq mg) (D_copied : Df P w K mg base 0 "copied" fun _ _ _ _ => False) : FnOk P w K mg base CX0 1 f fd ["value"] (spCopied K) := by
  refine F.ok sc_copied (fun vs H Q E h => ?_) (fun cdv A outer s H vs Q E hr h => ?_)
  · obtain ⟨x, t, rfl, _⟩ := h
    rfl
  · obtain ⟨x, t, rfl, ty, e1, e2, e3, q⟩ := h
    refine ⟨_, (pss_cons (ps_if (pt_val (pe_callB call_isi (by rfl) T.isinstance (by decide +kernel) (pa_cons (pv 0) (pa_cons (pe_bltn (v := .ty "list") (by rfl) T.list (by decide +kernel) rfl) pa_nil))))
        (pss_one (ps_ret (pe_lc (own := [("part", 1)]) (g := gName 1) (by rfl) sc_copied.nd (pi_list (pv 0)) (blkOk_by (own := [("part", 1)]) (N := n_copied) (sc := defScope s_copied) (by decide +kernel)) (fun _ _ _ _ _ => (pg_name (i := 1) sc_copied.nd rfl (.inl rfl))) (fun _ _ _ _ _ => pts_nil) (fun _ _ _ _ _ => (pe_c D_copied hr (by decide) (by rfl) (pa_cons (pv 1) pa_nil))))))
        pss_nil)
      (pss_cons (ps_if (pt_val (pe_callB call_isi (by rfl) T.isinstance (by decide +kernel) (pa_cons (pv 0) (pa_cons (pe_bltn (v := .ty "tuple") (by rfl) T.tuple (by decide +kernel) rfl) pa_nil))))
        (pss_one (ps_ret (pe_callTy (call_tuple_ofK (K := K) rfl) (by rfl) T.tuple (by decide +kernel) (pa_cons (pe_lc (own := [("part", 1)]) (g := gName 1) (by rfl) sc_copied.nd (pi_tup (pv 0)) (blkOk_by (own := [("part", 1)]) (N := n_copied) (sc := defScope s_copied) (by decide +kernel)) (fun _ _ _ _ _ => (pg_name (i := 1) sc_copied.nd rfl (.inl rfl))) (fun _ _ _ _ _ => pts_nil) (fun _ _ _ _ _ => (pe_c D_copied hr (by decide) (by rfl) (pa_cons (pv 1) pa_nil)))) pa_nil))))
        pss_nil)
      (pss_cons (ps_if (pt_val (pe_callB call_isi (by rfl) T.isinstance (by decide +kernel) (pa_cons (pv 0) (pa_cons (pe_bltn (v := .ty "dict") (by rfl) T.dict (by decide +kernel) rfl) pa_nil))))
        (pss_one (ps_ret (pe_lock (pe_dc (own := [("key", 2)]) (g := gName 2) (by rfl) sc_copied.nd (pi_keys (pv 0)) (blkOk_by (own := [("key", 2)]) (N := n_copied) (sc := defScope s_copied) (by decide +kernel)) (fun _ _ _ _ _ => (pg_name (i := 2) sc_copied.nd rfl (.inl rfl))) (fun _ _ _ _ _ => pts_nil) (fun _ _ _ _ _ => (pv 2)) (fun _ _ _ _ _ => (pe_c D_copied hr (by decide) (by rfl) (pa_cons (pe_dget (hu_of hr) (pv 0) (pv 2) (fun _ _ => rfl)) pa_nil)))))))
        pss_nil)
      (pss_one (ps_ret (pv 0)))))), ?_⟩
    refine ⟨_, rfl, _, .ty "list", t, .type "list", false, rfl, .ty _, ty, e1, false, rfl, iteF ?_⟩
    refine ⟨_, rfl, _, .ty "tuple", t, .type "tuple", false, rfl, .ty _, ty, e2, false, rfl, iteF ?_⟩
    refine ⟨_, rfl, _, .ty "dict", t, .type "dict", false, rfl, .ty _, ty, e3, false, rfl, iteF ?_⟩
    exact ⟨_, rfl, q⟩
theorem ok_copyW {f : Addr} {fd : FuncData} (F : Fun K "copied" "copied" s_copied f fd) (T : Tq mg) (D_copied : Df P w K mg base 1 "copied" (spCopied K)) : FnOk P w K mg base CX0 2 f fd ["value"] spCopyW := by
  refine F.ok sc_copied (fun vs H Q E h => ?_) (fun cdv A outer s H vs Q E hr h => ?_)
  · obtain ⟨x, d, rfl, _⟩ := h
    rfl
  · obtain ⟨x, d, rfl, tl, pv0, q⟩ := h
    refine ⟨_, (pss_cons (ps_if (pt_val (pe_callB call_isi (by rfl) T.isinstance (by decide +kernel) (pa_cons (pv 0) (pa_cons (pe_bltn (v := .ty "list") (by rfl) T.list (by decide +kernel) rfl) pa_nil))))
        (pss_one (ps_ret (pe_lc (own := [("part", 1)]) (g := gName 1) (by rfl) sc_copied.nd (pi_list (pv 0)) (blkOk_by (own := [("part", 1)]) (N := n_copied) (sc := defScope s_copied) (by decide +kernel)) (fun _ _ _ _ _ => (pg_name (i := 1) sc_copied.nd rfl (.inl rfl))) (fun _ _ _ _ _ => pts_nil) (fun _ _ _ _ _ => (pe_c D_copied hr (by decide) (by rfl) (pa_cons (pv 1) pa_nil))))))
        pss_nil)
      (pss_cons (ps_if (pt_val (pe_callB call_isi (by rfl) T.isinstance (by decide +kernel) (pa_cons (pv 0) (pa_cons (pe_bltn (v := .ty "tuple") (by rfl) T.tuple (by decide +kernel) rfl) pa_nil))))
        (pss_one (ps_ret (pe_callTy (call_tuple_ofK (K := K) rfl) (by rfl) T.tuple (by decide +kernel) (pa_cons (pe_lc (own := [("part", 1)]) (g := gName 1) (by rfl) sc_copied.nd (pi_tup (pv 0)) (blkOk_by (own := [("part", 1)]) (N := n_copied) (sc := defScope s_copied) (by decide +kernel)) (fun _ _ _ _ _ => (pg_name (i := 1) sc_copied.nd rfl (.inl rfl))) (fun _ _ _ _ _ => pts_nil) (fun _ _ _ _ _ => (pe_c D_copied hr (by decide) (by rfl) (pa_cons (pv 1) pa_nil)))) pa_nil))))
        pss_nil)
      (pss_cons (ps_if (pt_val (pe_callB call_isi (by rfl) T.isinstance (by decide +kernel) (pa_cons (pv 0) (pa_cons (pe_bltn (v := .ty "dict") (by rfl) T.dict (by decide +kernel) rfl) pa_nil))))
        (pss_one (ps_ret (pe_lock (pe_dc (own := [("key", 2)]) (g := gName 2) (by rfl) sc_copied.nd (pi_keys (pv 0)) (blkOk_by (own := [("key", 2)]) (N := n_copied) (sc := defScope s_copied) (by decide +kernel)) (fun _ _ _ _ _ => (pg_name (i := 2) sc_copied.nd rfl (.inl rfl))) (fun _ _ _ _ _ => pts_nil) (fun _ _ _ _ _ => (pv 2)) (fun _ _ _ _ _ => (pe_c D_copied hr (by decide) (by rfl) (pa_cons (pe_dget (hu_of hr) (pv 0) (pv 2) (fun _ _ => rfl)) pa_nil)))))))
        pss_nil)
      (pss_one (ps_ret (pv 0)))))), ?_⟩
    rcases tl with f | ⟨a, xs, rfl, ha | ha, l, fl⟩ | ⟨a, kvs, rfl, ha, l, nd, fl⟩
    · obtain ⟨t, ty, e1, e2, e3⟩ := f.ty (K := K)
      refine ⟨_, rfl, _, .ty "list", t, .type "list", false, rfl, .ty _, ty _, e1, false, rfl, iteF ?_⟩
      refine ⟨_, rfl, _, .ty "tuple", t, .type "tuple", false, rfl, .ty _, ty _, e2, false, rfl, iteF ?_⟩
      refine ⟨_, rfl, _, .ty "dict", t, .type "dict", false, rfl, .ty _, ty _, e3, false, rfl, iteF ?_⟩
      exact ⟨_, rfl, q _ _ (Same.refl H) pv0⟩
    · refine ⟨_, rfl, _, .ty "list", .type "tuple", .type "list", false, rfl, .ty _, .base (.tup ha), kit_ty (by decide +kernel), false, rfl, iteF ?_⟩
      refine ⟨_, rfl, _, .ty "tuple", .type "tuple", .type "tuple", true, rfl, .ty _, .base (.tup ha), kit_ty (by decide +kernel), true, rfl, iteT ?_⟩
      refine ⟨_, rfl, a, rfl, ⟨_, .inl (.inl ha)⟩, fun D nD => lc_it (walk_tup (K := K) (a := a) (xs := xs)) (fun i H2 => H2 = upd H D (.lst (xs.take i))) rfl ?_ ?_ ?_⟩
      · rintro i H2 hi rfl
        exact .inl (.inl (by rw [upd_ne (ne_of_none ha nD)]; exact ha))
      · rintro i y H2 H3 hi rfl ⟨rfl, hy⟩
        obtain ⟨hi', ey⟩ := List.getElem?_eq_some_iff.mp hy
        obtain ⟨t, ty, e1, e2, e3⟩ := (fl y (ey ▸ List.getElem_mem hi')).ty (K := K)
        refine ⟨rfl, _, rfl, y, t, rfl, ty _, e1, e2, e3, _, upd_same, ?_, ?_⟩
        · rw [List.length_take, sizeLine_eq]
          omega
        · rw [upd_upd, List.take_add_one, hy]
          rfl
      · rintro H2 rfl
        rw [List.take_length]
        refine ⟨D, xs, rfl, .inl ⟨SqL.of upd_same, fun b nb => ?_⟩⟩
        cases pv0 with
        | tup h r =>
          rw [ha] at h
          cases h
          exact q _ _ (same_put (s := same_put (s := Same.refl H) nD) nb) (.tup upd_same (flats_pyw fl r))
        | lst h r =>
          rw [ha] at h
          cases h
        | dic h r =>
          rw [ha] at h
          cases h
    · refine ⟨_, rfl, _, .ty "list", .type "list", .type "list", true, rfl, .ty _, .base (.lst ha), kit_ty (by decide +kernel), true, rfl, iteT ?_⟩
      refine ⟨_, rfl, a, rfl, ⟨_, SqL.of ha⟩, fun D nD => lc_it (walk_list (K := K) (a := a) (xs := xs)) (fun i H2 => H2 = upd H D (.lst (xs.take i))) rfl ?_ ?_ ?_⟩
      · rintro i H2 hi rfl
        exact SqL.of (by rw [upd_ne (ne_of_none ha nD)]; exact ha)
      · rintro i y H2 H3 hi rfl ⟨rfl, hy⟩
        obtain ⟨hi', ey⟩ := List.getElem?_eq_some_iff.mp hy
        obtain ⟨t, ty, e1, e2, e3⟩ := (fl y (ey ▸ List.getElem_mem hi')).ty (K := K)
        refine ⟨rfl, _, rfl, y, t, rfl, ty _, e1, e2, e3, _, upd_same, ?_, ?_⟩
        · rw [List.length_take, sizeLine_eq]
          omega
        · rw [upd_upd, List.take_add_one, hy]
          rfl
      · rintro H2 rfl
        rw [List.take_length]
        cases pv0 with
        | tup h r =>
          rw [ha] at h
          cases h
        | lst h r =>
          rw [ha] at h
          cases h
          exact q _ _ (same_put (s := Same.refl H) nD) (.lst upd_same (flats_pyw fl r))
        | dic h r =>
          rw [ha] at h
          cases h
    · refine ⟨_, rfl, _, .ty "list", .type "dict", .type "list", false, rfl, .ty _, .base (.dK ha), kit_ty (by decide +kernel), false, rfl, iteF ?_⟩
      refine ⟨_, rfl, _, .ty "tuple", .type "dict", .type "tuple", false, rfl, .ty _, .base (.dK ha), kit_ty (by decide +kernel), false, rfl, iteF ?_⟩
      refine ⟨_, rfl, _, .ty "dict", .type "dict", .type "dict", true, rfl, .ty _, .base (.dK ha), kit_ty (by decide +kernel), true, rfl, iteT ?_⟩
      refine ⟨a, _, ha, True.intro, fun od => ⟨_, rfl, a, od, rfl, .inl ⟨_, upd_same, fun D nD => dc_it (walk_keys (d := a) (o := od) (kvs := kvs)) (fun i H2 => H2 = upd (upd H a (.frz od (.dK kvs))) D (.dK (kvs.take i))) rfl ?_ ?_ ?_⟩⟩⟩
      · rintro i H2 hi rfl
        rw [upd_ne (ne_of_none upd_same nD)]
        exact upd_same
      · rintro i x H2 H3 hi rfl ⟨rfl, k, v, hk, rfl⟩
        obtain ⟨hi', ek⟩ := List.getElem?_eq_some_iff.mp hk
        obtain ⟨t, ty, e1, e2, e3⟩ := (fl v (List.mem_map.mpr ⟨(k, v), ek ▸ List.getElem_mem hi', rfl⟩)).ty (K := K)
        have ad : a ≠ D := ne_of_none (show upd H a (.frz od (.dK kvs)) a = _ from upd_same) nD
        refine ⟨rfl, _, rfl, _, rfl, _, rfl, a, v, rfl, .inl ⟨kvs, k, .inr ⟨od, by rw [upd_ne ad]; exact upd_same⟩, rfl, (valV_at nd hk).symm⟩, v, t, rfl, ty _, e1, e2, e3, kvs.take i, k, rfl, upd_same, ?_, ?_⟩
        · rw [List.length_take, sizeLine_eq]
          omega
        · rw [upd_upd, putK_new (not_take nd hk), List.take_add_one, hk]
          rfl
      · rintro H2 rfl
        rw [List.take_length]
        have ad : a ≠ D := ne_of_none (show upd H a (.frz od (.dK kvs)) a = _ from upd_same) nD
        have nD2 : H D = none := by
          rw [upd_ne (Ne.symm ad)] at nD
          exact nD
        have eH : upd (upd (upd H a (.frz od (.dK kvs))) D (.dK kvs)) a (.dK kvs) = upd H D (.dK kvs) := by
          funext b
          by_cases h1 : b = a
          · rw [h1, upd_same, upd_ne ad, ha]
          · by_cases h2 : b = D
            · rw [h2, upd_ne (Ne.symm ad), upd_same, upd_same]
            · rw [upd_ne h1, upd_ne h2, upd_ne h1, upd_ne h2]
        refine ⟨by rw [upd_ne ad]; exact upd_same, ?_⟩
        rw [eH]
        cases pv0 with
        | tup h r =>
          rw [ha] at h
          cases h
        | lst h r =>
          rw [ha] at h
          cases h
        | dic h r =>
          rw [ha] at h
          cases h
          exact q _ _ (same_put (s := Same.refl H) nD2) (.dic upd_same (flats_pyw fl r))
end
end V8

set_option Elab.async false
set_option linter.all false
set_option maxRecDepth 100000
set_option maxHeartbeats 4000000
/-! ~ by an own __invert__. -/
namespace L2
open PySem PySem.Spec PyProof.Rows
theorem un_invO {X : Cx} {k j : Nat} {C : Addr} {sp : Sp} (c : Mf X.prog X.w X.K X.mg X.base k C "__invert__" sp) (hr : Room j X.A) (hk : k ≤ j) : UnR X (unaryOp .Invert) (fun x H Q => ∃ a dx fs, x = .ref a ∧ H a = some (.ins C dx fs) ∧ sp [.ref a] H Q E0) := by
  obtain ⟨f, fd, ps, F, _, o, _, b⟩ := c.ex
  intro pins s σ H x v Q I rx h
  obtain ⟨a, dx, fs, rfl, ha, hs⟩ := h
  cases rx
  obtain ⟨od, J⟩ := inst_at I ha
  obtain ⟨m, hF⟩ := I.fr
  exact PySem.W.ksp_inv hF I.ok.mod.kin J o.find o.fn (run_own (Sub.here (hr.mono hk)) F b pass0 I (show Vals [V.ref a] [Value.ref a] from .cons rfl .nil) hs)
end L2

set_option Elab.async false
set_option linter.all false
set_option maxRecDepth 100000
set_option maxHeartbeats 4000000
/-! Own errors made and kept as values. -/
namespace L2
open PySem PySem.Spec PyProof.Rows
section
variable {X : Cx} {pins : List (Addr × Obj)} {σ : St} {H : Hp} {s : Shared} {a : Addr} {φ : Heap → Prop} {o : HO}
/-- another word for a thing of one's own -/
theorem Inv.reword (I : Inv X pins σ H s) (e : H a = some (.ext φ)) (ok : ObjOk X.prog X.w (upd H a o) s.heap a o) : Inv X pins σ (upd H a o) s := by
  have off : ∀ {b : Addr} {u : HO}, H b = some u → (∀ ψ, u ≠ .ext ψ) → upd H a o b = some u := fun {b u} h n => by
    rw [upd_ne]
    · exact h
    · intro z
      rw [z, e] at h
      exact n _ (Option.some.inj h).symm
  have none_ : ∀ {b : Addr}, H b = none → upd H a o b = none := fun {b} h => by
    rw [upd_ne]
    · exact h
    · intro z
      rw [z, e] at h
      cases h
  exact {
    ok := I.ok
    os := I.os
    bare := I.bare
    base := {
      keep := I.base.keep
      slot := I.base.slot
      free := fun b u h n x => none_ (I.base.free b u h n x)
      there := I.base.there
      tups := fun b xs h => off (I.base.tups b xs h) fun _ z => nomatch z
      frzs := fun b u v h => off (I.base.frzs b u v h) fun _ z => nomatch z
      tbls := fun b ps h => by
        obtain ⟨more, h2⟩ := I.base.tbls b ps h
        exact ⟨more, off h2 fun _ z => nomatch z⟩ }
    loc := I.loc
    cell := I.cell
    free := none_ I.free
    freeC := fun x c h => none_ (I.freeC x c h)
    pin := fun p hp => ⟨(I.pin p hp).1, none_ (I.pin p hp).2.1, (I.pin p hp).2.2⟩
    hok := fun b u h => by
      by_cases hb : b = a
      · subst hb
        rw [upd_same] at h
        cases h
        exact ok
      · rw [upd_ne hb] at h
        exact (I.hok b u h).stay (fun c v _ y => y) (fun c h2 => off h2 fun _ z => nomatch z) fun c xs h2 => off h2 fun _ z => nomatch z
    len := I.len }
end
/-- an error made: its class, its fields -/
def tEr (C : Addr) (sp : Sp) (ta : TA) : TE := fun σ H Q => ta σ H fun vs H1 => vs.length ≤ 1000 ∧ ∀ a, H1 a = none → sp (.ref a :: (vs ++ [])) (upd H1 a (exo a C none))
  (fun v H2 => v = .non ∧ ((∃ (d : Addr) (fs : List (Str × V)), H2 a = some (exo a C (some d)) ∧ H2 d = some (exd d fs) ∧ Q (.ref a) (upd (upd H2 a (CaughtO (.ref C) (some d) a)) d (.xd fs))) ∨
    (H2 a = some (exo a C none) ∧ Q (.ref a) (upd H2 a (CaughtO (.ref C) none a))))) (fun _ _ _ => False)
theorem caught_ok {P : Program} {w : World} {H : Hp} {h : Heap} {a C t0 : Addr} {d : Option Addr} (e : h.get? a = some ({ cls := .ref C, dict := d, data := .fields #[.ref t0, .none, .none, .none, .bool false, .none] } : Obj)) : ObjOk P w H h a (CaughtO (.ref C) d a) :=
  ⟨⟨_, _, e, ⟨rfl, rfl⟩, rfl⟩, ⟨_, e⟩, fun _ _ ⟨o, v, q, r⟩ k => ⟨o, v, k o q, r⟩⟩
section
variable {X : Cx} {pins : List (Addr × Obj)} {σ : St} {H : Hp} {s : Shared} {a C : Addr} {Q : VK}
/-- what the maker leaves, kept as a value -/
theorem Inv.kept_err {d : Addr} {fs : List (Str × V)} (I : Inv X pins σ H s) (ea : H a = some (exo a C (some d))) (ed : H d = some (exd d fs)) : Inv X pins σ (upd (upd H a (CaughtO (.ref C) (some d) a)) d (.xd fs)) s := by
  obtain ⟨t0, e⟩ := exo_at I.hok ea
  have da : d ≠ a := fun z => by
    obtain ⟨⟨mA, ns, _⟩, _, _⟩ := I.hok d _ ed
    obtain ⟨o, es, ep, h1, h2, _⟩ := ns
    rw [z, e] at h1
    cases h1
    cases h2
  have I2 := I.reword (o := CaughtO (.ref C) (some d) a) ea (caught_ok e)
  have ed2 : upd H a (CaughtO (.ref C) (some d) a) d = some (exd d fs) := by
    rw [upd_ne da]
    exact ed
  obtain ⟨⟨mA, ns, rel⟩, _, _⟩ := I.hok d _ ed
  exact I2.reword (o := .xd fs) ed2 ⟨mA, ns, rel⟩
theorem Inv.kept_err0 (I : Inv X pins σ H s) (ea : H a = some (exo a C none)) : Inv X pins σ (upd H a (CaughtO (.ref C) none a)) s := by
  obtain ⟨t0, e⟩ := exo_at I.hok ea
  exact I.reword ea (caught_ok e)
end
/-- what is asked of the def that fills a new error -/
def EndE (C a : Addr) (Q : VK) : VK := fun v H2 => v = .non ∧ ((∃ (d : Addr) (fs : List (Str × V)), H2 a = some (exo a C (some d)) ∧ H2 d = some (exd d fs) ∧ Q (.ref a) (upd (upd H2 a (CaughtO (.ref C) (some d) a)) d (.xd fs))) ∨
    (H2 a = some (exo a C none) ∧ Q (.ref a) (upd H2 a (CaughtO (.ref C) none a))))
section
variable {X : Cx} {C : CXT} {k j : Nat} {fd : FuncData} {ps : List Str} {sp : Sp} {x : Str} {p pos : Pos} {e : Expr} {es : List Expr} {ta : TA}
/-- the class is called -/
theorem er_core {Cl fI : Addr} {pins : List (Addr × Obj)} {σ : St} {H1 : Hp} {s1 : Shared} {Q : VK} {us : List Value} {xs : List V} (T : OexC X.K Cl) (iC : PySem.W.findIn X.K (.ref Cl) "__init__" = some (some (.ref fI))) (tI : PySem.W.typeIn X.K (.ref fI) = some (.type "function"))
    (Fn : FnG X.prog X.w X.K X.mg X.base C k fI fd ps sp) (g : Quiet X.A) (r : Room (k + 1) X.A) (b : Binds X.K fd ps []) (none_out : Passes C X (fun _ _ _ => False)) (J : Inv X pins σ H1 s1) (v : Vals xs us) (small : xs.length ≤ 1000)
    (q : ∀ a, H1 a = none → sp (.ref a :: (xs ++ [])) (upd H1 a (exo a Cl none)) (EndE Cl a Q) (fun _ _ _ => False)) : wpAny (model X.prog X.w) X.A (call (.ref Cl) us) (EP X pins σ Q) X.xe s1 := by
  obtain ⟨nm, qn, NN, bs, bm, sn, sub, ab, col, dd, k0, k1, k2, k3, k5, isC, isB⟩ := T.cls
  obtain ⟨hp, gn, dr, tk, os⟩ := s1
  have up : hp.objs.size ≤ hp.objs.size + 1 := Nat.le_succ _
  have new : H1 (hp.objs.size + 1) = none := J.hok.fresh up
  have q2 := q _ new
  generalize hG : (hp.push (PySem.W.kdv_tup us)).push (PySem.HandSPX.excO Cl hp.objs.size) = G
  have keep : ∀ c o, hp.get? c = some o → G.get? c = some o := fun c o z => by
    rw [← hG]
    exact Heap.get?_push_of_some _ (Heap.get?_push_of_some _ z)
  have here : G.get? (hp.objs.size + 1) = some (PySem.HandSPX.excO Cl hp.objs.size) := by
    rw [← hG]
    heap_get
  have J2 : Inv X pins σ (upd H1 (hp.objs.size + 1) (exo (hp.objs.size + 1) Cl none)) ⟨G, gn, dr, tk, os⟩ := J.laid (t' := tk) keep up (exo_ok here)
  have v2 : Vals (V.ref (hp.objs.size + 1) :: (xs ++ [])) (Value.ref (hp.objs.size + 1) :: (us ++ [])) := .cons rfl (v.append .nil)
  have n2 : (Value.ref (hp.objs.size + 1) :: us ++ []).length = ps.length := by
    have z := v2.length
    rw [Fn.count _ _ _ _ q2] at z
    exact z.symm
  have short : us.length ≤ sizeLine := by
    have z := v.length
    rw [← z, sizeLine_eq]
    omega
  have bb : BindsTo ⟨G, gn, dr, tk, os⟩ fd ⟨Value.ref (hp.objs.size + 1) :: us, []⟩ (ps.zip (Value.ref (hp.objs.size + 1) :: (us ++ []))) := by
    have z := b ⟨G, gn, dr, tk, os⟩ (Value.ref (hp.objs.size + 1) :: us) J2.kIn n2
    rw [List.cons_append] at z
    exact z
  have ran := Fn.runs _ X.stack _ _ ⟨Value.ref (hp.objs.size + 1) :: us, []⟩ (Value.ref (hp.objs.size + 1) :: (us ++ [])) _ _ (fun _ _ _ => False) (under_quiet g) (r.make Cl us []) (J2.env0.make Cl us []) bb v2 q2
  have isC2 := J.kIn _ _ isC
  subst hG
  refine wpAny_call (PySem.HandSPX.call_own PySem.F.excBase_ValueError (fun Y => PySem.HandSPX.refsVE_contains Y bm isB) isC2 (PySem.W.looks_findIn J.kIn iC) (fun self => PySem.W.bind_fn J.kIn self tI) short (codeAny_mono ran fun a s2 z => ?_))
  match a, z with
  | .error er, z => exact none_out pins σ _ _ er s2 J2 z
  | .ok .next, z => exact z.elim
  | .ok .brk, z => exact z.elim
  | .ok .cont, z => exact z.elim
  | .ok (.ret u), z =>
    obtain ⟨y, H2, J3, rv, ey, z⟩ := J2.after z
    subst ey
    refine ⟨rv, ?_⟩
    rcases z with ⟨d, fs, ea, ed, q3⟩ | ⟨ea, q3⟩
    · exact ⟨.ref _, _, J3.kept_err ea ed, rfl, q3⟩
    · exact ⟨.ref _, _, J3.kept_err0 ea, rfl, q3⟩
theorem pe_er {Cl fI : Addr} (T : OexC X.K Cl) (iC : PySem.W.findIn X.K (.ref Cl) "__init__" = some (some (.ref fI))) (tI : PySem.W.typeIn X.K (.ref fI) = some (.type "function"))
    (Fn : FnG X.prog X.w X.K X.mg X.base C k fI fd ps sp) (g : Quiet X.A) (r : Room (k + 1) X.A) (b : Binds X.K fd ps []) (none_out : Passes C X (fun _ _ _ => False)) (hg : Gl X x) (hm : X.mg x = some (.ref Cl)) (ha : PA X (e :: es) ta)
    (hdb : (x == ("__debug__" : Str)) = false := by decide) (he : starEach (e :: es) X.env = (false, eval e X.env) :: starEach es X.env := by rfl) (hpl : (backTo pos (starEach es X.env)).any (·.1) = false := by rfl) :
    PE X (.Call (.Name x p) (e :: es) [] pos) (fun σ H Q => ta σ H fun vs H1 => vs.length ≤ 1000 ∧ ∀ a, H1 a = none → sp (.ref a :: (vs ++ [])) (upd H1 a (exo a Cl none)) (EndE Cl a Q) (fun _ _ _ => False)) := by
  refine ⟨fun pins s σ H Q I h => ?_⟩
  refine wpAny_Call_Name_kw (ld_glob I hg hm ?_ hdb)
  refine PySem.W.callWith_K (h₀ := X.base) I.ok.mod.kin T.kC (thn (ha.run pos pins s σ H _ I h) fun us s1 z => ?_) he hpl
  obtain ⟨xs, H1, J, v, small, q⟩ := z
  exact ⟨J.kIn, er_core T iC tI Fn g r b none_out J v small q⟩
theorem pe_er0 {Cl fI : Addr} (T : OexC X.K Cl) (iC : PySem.W.findIn X.K (.ref Cl) "__init__" = some (some (.ref fI))) (tI : PySem.W.typeIn X.K (.ref fI) = some (.type "function"))
    (Fn : FnG X.prog X.w X.K X.mg X.base C k fI fd ps sp) (g : Quiet X.A) (r : Room (k + 1) X.A) (b : Binds X.K fd ps []) (none_out : Passes C X (fun _ _ _ => False)) (hg : Gl X x) (hm : X.mg x = some (.ref Cl))
    (hdb : (x == ("__debug__" : Str)) = false := by decide) : PE X (.Call (.Name x p) [] [] pos) (fun σ H Q => ∀ a, H a = none → sp [.ref a] (upd H a (exo a Cl none)) (EndE Cl a Q) (fun _ _ _ => False)) := by
  refine ⟨fun pins s σ H Q I h => ?_⟩
  refine wpAny_Call_Name_kw (ld_glob I hg hm ?_ hdb)
  exact PySem.W.callWith_K0 I.kIn T.kC (er_core (us := []) (xs := []) T iC tI Fn g r b none_out I .nil (by decide) h)
end
end L2

set_option Elab.async false
set_option linter.all false
set_option maxRecDepth 100000
set_option maxHeartbeats 4000000
/-! Own errors made by keywords. -/
namespace PySem
namespace HandSPX
open PySem.W PySem.Calls PyProof.Rows
section
variable {prog : Program} {w : World} {A : Around} {E : Value → Shared → Prop} {R : Result → Shared → Prop} {hp : Heap} {gs : Array GenState} {dr : Drawn} {tk : Nat} {os : OsState}
variable {cn cq : Str} {Cl Nn : Addr} {b1 b2 bB : List Value} {hasD : Bool} {sN : List Str} {sB : List Value} {aB : Bool} {cO : Option Bool} {dD : Option Addr} {z0 z1 z2 z3 z5 : Option Value} {Bs nw ini : String} {kw : List (Str × Value)}
theorem check_newK {M : Model} (Fx : ExcBaseFacts Bs nw ini bB) (same : ∀ Y : String, b2.contains (.type Y) = bB.contains (.type Y)) {us : List Value} {Q : Unit → Shared → Prop}
    (isC : hp.get? Cl = some (excClassObj cn cq Cl Nn b1 b2 hasD sN sB aB cO dD z0 z1 z2 z3 z5 nw)) (q : Q () ⟨hp, gs, dr, tk, os⟩) : wpAny M A (checkBuiltinCall nw ⟨.ref Cl :: us, kw⟩) Q E ⟨hp, gs, dr, tk, os⟩ := by
  have inB : (Value.ref Cl :: b2).contains (.type Bs) = true := by
    rw [List.contains_cons, same, Fx.hasB, Bool.or_true]
  have noS := Fx.noStar
  simp only [checkBuiltinCall, Fx.newKind, Fx.newSplit, Fx.newRow]
  repeat (first | refine wpAny_loadPart_at isC ?_ | (refine wpAny_isSubtype_exc isC ?_; rw [inB]) | refine wpAny_staticBase_exc isC ?_ | refine wpAny_madeBy_exc isC ?_ | simp only [bne_self_eq_false, Bool.false_eq_true, if_false] | wp_step)
  exact q
theorem newK (Fx : ExcBaseFacts Bs nw ini bB) (same : ∀ Y : String, b2.contains (.type Y) = bB.contains (.type Y)) {us : List Value}
    (isC : hp.get? Cl = some (excClassObj cn cq Cl Nn b1 b2 hasD sN sB aB cO dD z0 z1 z2 z3 z5 nw))
    (q : R (.ok (.ret (.ref (hp.objs.size + 1)))) ⟨(hp.push (W.kdv_tup us)).push (excO Cl hp.objs.size), gs, dr, tk, os⟩) (few : us.length ≤ sizeLine) :
    codeAny (model prog w) A (.builtin nw ⟨.ref Cl :: us, kw⟩) R ⟨hp, gs, dr, tk, os⟩ := by
  have en := Fx.ends
  have cB : (Value.ref Cl :: b2).contains (.type Bs) = true := by
    rw [List.contains_cons, same, Fx.hasB, Bool.or_true]
  have cA : (Value.ref Cl :: b2).contains (.type "AttributeError") = false := by
    rw [List.contains_cons, same, Fx.noAttr]
    rfl
  have cN : (Value.ref Cl :: b2).contains (.type "NameError") = false := by
    rw [List.contains_cons, same, Fx.noName]
    rfl
  refine codeAny_builtinAt Fx.entry ?_
  unfold Builtin.«BaseException.__new__»
  refine wpAt_bind ?_
  show wpAt _ _ _ (stack >>= _) _ _ _
  refine wpAt_bind (wpAt_stack fun p below => wpAt_of_wpAny ?_)
  wp_walk
  refine wpAt_of_wpAny ?_
  rw [Fx.owner]
  repeat (first | with_reducible refine wpAny_madeHere_exc Fx.canon isC ?_ | with_reducible refine wpAny_loadPart_at isC ?_ | (with_reducible refine wpAny_isSubtype_exc isC ?_; first | rw [cB] | rw [cA] | rw [cN]) | wp_step)
  show R _ _
  rw [Heap.size_push]
  exact q
theorem type_callK (Fx : ExcBaseFacts Bs nw ini bB) (same : ∀ Y : String, b2.contains (.type Y) = bB.contains (.type Y)) {us : List Value} {fI : Addr} {Q : Fin → Shared → Prop}
    (isC : hp.get? Cl = some (excClassObj cn cq Cl Nn b1 b2 hasD sN sB aB cO dD z0 z1 z2 z3 z5 nw))
    (isI : W.Looks (model prog w) hp (typeLookup (.ref Cl) "__init__") (some (.ref fI))) (bd : ∀ self, W.Looks (model prog w) hp (bindSpecial (.ref fI) self) (.ref fI, [self])) (few : us.length ≤ sizeLine)
    (q : codeAny (model prog w) A (.call (.ref fI) ⟨.ref (hp.objs.size + 1) :: us, kw⟩)
      (fun a s2 => match a with | .ok (.ret v) => v = .none ∧ Q (.done (.ret (.ref (hp.objs.size + 1)))) s2 | .ok _ => False | .error e => E e s2)
      ⟨(hp.push (W.kdv_tup us)).push (excO Cl hp.objs.size), gs, dr, tk, os⟩) :
    wpAny (model prog w) A (Builtin.«type.__call__» ⟨.ref Cl :: us, kw⟩) Q E ⟨hp, gs, dr, tk, os⟩ := by
  repeat (first | with_reducible refine wpAny_loadPart_at isC ?_ | with_reducible refine wpAny_madeBy_exc isC ?_ | wp_step)
  refine codeAny_call_builtin_code (Code.quiet_builtin _ Fx.quiet) (check_newK Fx same isC ?_)
  refine newK Fx same isC ?_ few
  show wpAny _ _ _ _ _ _
  have up : ∀ c o, hp.get? c = some o → ((hp.push (W.kdv_tup us)).push (excO Cl hp.objs.size)).get? c = some o := fun c o z => Heap.get?_push_of_some _ (Heap.get?_push_of_some _ z)
  have isC2 := up _ _ isC
  have here : ((hp.push (W.kdv_tup us)).push (excO Cl hp.objs.size)).get? (hp.objs.size + 1) = some (excO Cl hp.objs.size) := by heap_get
  have own : (Value.ref Cl :: b2).contains (.ref Cl) = true := by simp
  have i2 := isI.keeps up
  have bd2 := (bd (.ref (hp.objs.size + 1))).keeps up
  unfold isInstance
  repeat (first | with_reducible refine wpAny_loadPart_at here ?_ | (with_reducible refine wpAny_isSubtype_exc isC2 ?_; rw [own]) | wp_step)
  show wpAny _ _ (typeLookup (.ref Cl) _) _ _ _
  refine i2.at ?_
  refine wpAny_holding (wpAny_bind (bd2.at ?_))
  refine wpAny_bind (wpAny_call (codeAny_mono q fun a s2 z => ?_))
  rcases a with e | (v | _ | _ | _) <;> first | exact z | exact z.elim | skip
  obtain ⟨rfl, z⟩ := z
  first
    | exact wpAny_pure (wpAny_pure z)
    | (wp_walk; exact z)
theorem call_ownK (Fx : ExcBaseFacts Bs nw ini bB) (same : ∀ Y : String, b2.contains (.type Y) = bB.contains (.type Y)) {us : List Value} {fI : Addr}
    (isC : hp.get? Cl = some (excClassObj cn cq Cl Nn b1 b2 hasD sN sB aB cO dD z0 z1 z2 z3 z5 nw))
    (isI : W.Looks (model prog w) hp (typeLookup (.ref Cl) "__init__") (some (.ref fI))) (bd : ∀ self, W.Looks (model prog w) hp (bindSpecial (.ref fI) self) (.ref fI, [self])) (few : us.length ≤ sizeLine)
    (q : codeAny (model prog w) (A.under (.builtin "type.__call__" ⟨.ref Cl :: us, kw⟩)) (.call (.ref fI) ⟨.ref (hp.objs.size + 1) :: us, kw⟩) (W.InitBack (hp.objs.size + 1) R)
      ⟨(hp.push (W.kdv_tup us)).push (excO Cl hp.objs.size), gs, dr, tk, os⟩) :
    codeAny (model prog w) A (.call (.ref Cl) ⟨us, kw⟩) R ⟨hp, gs, dr, tk, os⟩ := by
  have f1 := tc_lookup
  have f2 := tc_bind (.ref Cl)
  have ty : (⟨hp, gs, dr, tk, os⟩ : Shared).TypeIs (.ref Cl) "type" := ⟨_, isC, rfl⟩
  refine codeAny_of_tree ?_
  show wpAny _ _ (callAny (.ref Cl) _) _ _ _
  repeat (any_goals (first | assumption | with_reducible refine wpAny_loadPart_at isC ?_ | wp_step))
  refine ⟨rfl, ?_⟩
  refine codeAny_call_builtin_at (Code.quiet_builtin _ (by decide +kernel)) entry_typeCall (wpAny_check_type_call_sub isC (type_callK Fx same isC isI bd few ?_))
  refine codeAny_mono q fun a s2 z => ?_
  rcases a with e | (v | _ | _ | _) <;> exact z
end
end HandSPX
end PySem

namespace L2
open PySem PySem.Spec PyProof.Rows
section
variable {X : Cx} {C : CXT} {k j : Nat} {fd : FuncData} {ps : List Str} {sp : Sp} {x : Str} {p pos : Pos} {kws : List Keyword} {tk : TA}
theorem under_quietK {A : Around} {Cl : Addr} {us : List Value} {kw : List (Str × Value)} (g : Quiet A) : Quiet (A.under (.builtin "type.__call__" ⟨.ref Cl :: us, kw⟩)) := under_quiet g
theorem er_coreK {Cl fI : Addr} {pins : List (Addr × Obj)} {σ : St} {H1 : Hp} {s1 : Shared} {Q : VK} {ws : List Value} {zs : List V} {ks : List Str} {gU : List Value → List Value → List Value} {gV : List V → List V → List V} (T : OexC X.K Cl) (iC : PySem.W.findIn X.K (.ref Cl) "__init__" = some (some (.ref fI))) (tI : PySem.W.typeIn X.K (.ref fI) = some (.type "function"))
    (Fn : FnG X.prog X.w X.K X.mg X.base C k fI fd ps sp) (g : Quiet X.A) (r : Room (k + 1) X.A) (b : KBn X.K fd ps 1 ks gU gV) (none_out : Passes C X (fun _ _ _ => False)) (J : Inv X pins σ H1 s1) (v : Vals zs ws) (many : zs.length = ks.length)
    (q : ∀ a, H1 a = none → sp (gV [.ref a] zs) (upd H1 a (exo a Cl none)) (EndE Cl a Q) (fun _ _ _ => False)) : wpAny (model X.prog X.w) X.A (call (.ref Cl) [] (ks.zip ws)) (EP X pins σ Q) X.xe s1 := by
  obtain ⟨nm, qn, NN, bs, bm, sn, sub, ab, col, dd, k0, k1, k2, k3, k5, isC, isB⟩ := T.cls
  obtain ⟨hp, gn, dr, tk, os⟩ := s1
  have up : hp.objs.size ≤ hp.objs.size + 1 := Nat.le_succ _
  have new : H1 (hp.objs.size + 1) = none := J.hok.fresh up
  have q2 := q _ new
  generalize hG : (hp.push (PySem.W.kdv_tup [])).push (PySem.HandSPX.excO Cl hp.objs.size) = G
  have keep : ∀ c o, hp.get? c = some o → G.get? c = some o := fun c o z => by
    rw [← hG]
    exact Heap.get?_push_of_some _ (Heap.get?_push_of_some _ z)
  have here : G.get? (hp.objs.size + 1) = some (PySem.HandSPX.excO Cl hp.objs.size) := by
    rw [← hG]
    heap_get
  have J2 : Inv X pins σ (upd H1 (hp.objs.size + 1) (exo (hp.objs.size + 1) Cl none)) ⟨G, gn, dr, tk, os⟩ := J.laid (t' := tk) keep up (exo_ok here)
  have v2 := b.rel (vs := [V.ref (hp.objs.size + 1)]) (us := [Value.ref (hp.objs.size + 1)]) (.cons rfl .nil) v
  have bb := b.to ⟨G, gn, dr, tk, os⟩ [Value.ref (hp.objs.size + 1)] ws J2.kIn rfl (v.length.symm.trans many)
  have ran := Fn.runs _ X.stack _ _ ⟨[Value.ref (hp.objs.size + 1)], ks.zip ws⟩ (gU [Value.ref (hp.objs.size + 1)] ws) _ _ (fun _ _ _ => False) (under_quiet g) (r.make Cl [] (ks.zip ws)) (J2.env0.make Cl [] (ks.zip ws)) bb v2 q2
  have isC2 := J.kIn _ _ isC
  subst hG
  refine wpAny_call (PySem.HandSPX.call_ownK PySem.F.excBase_ValueError (fun Y => PySem.HandSPX.refsVE_contains Y bm isB) isC2 (PySem.W.looks_findIn J.kIn iC) (fun self => PySem.W.bind_fn J.kIn self tI) (Nat.zero_le _) (codeAny_mono ran fun a s2 z => ?_))
  match a, z with
  | .error er, z => exact none_out pins σ _ _ er s2 J2 z
  | .ok .next, z => exact z.elim
  | .ok .brk, z => exact z.elim
  | .ok .cont, z => exact z.elim
  | .ok (.ret u), z =>
    obtain ⟨y, H2, J3, rv, ey, z⟩ := J2.after z
    subst ey
    refine ⟨rv, ?_⟩
    rcases z with ⟨d, fs, ea, ed, q3⟩ | ⟨ea, q3⟩
    · exact ⟨.ref _, _, J3.kept_err ea ed, rfl, q3⟩
    · exact ⟨.ref _, _, J3.kept_err0 ea, rfl, q3⟩
theorem pe_erK {Cl fI : Addr} {ks : List Str} {gU : List Value → List Value → List Value} {gV : List V → List V → List V} (T : OexC X.K Cl) (iC : PySem.W.findIn X.K (.ref Cl) "__init__" = some (some (.ref fI))) (tI : PySem.W.typeIn X.K (.ref fI) = some (.type "function"))
    (Fn : FnG X.prog X.w X.K X.mg X.base C k fI fd ps sp) (g : Quiet X.A) (r : Room (k + 1) X.A) (b : KBn X.K fd ps 1 ks gU gV) (none_out : Passes C X (fun _ _ _ => False)) (hg : Gl X x) (hm : X.mg x = some (.ref Cl)) (hkw : PK X kws tk)
    (hall : (backToKw pos (keywordEach kws X.env)).all (·.1.isSome) = true := by rfl) (hks : (backToKw pos (keywordEach kws X.env)).filterMap (·.1) = ks := by rfl) (hdb : (x == ("__debug__" : Str)) = false := by decide)
    (hpl : ((backTo pos (starEach [] X.env)).any (·.1) || (backToKw pos (keywordEach kws X.env)).any (·.1.isNone)) = false := by rfl) :
    PE X (.Call (.Name x p) [] kws pos) (fun σ H Q => tk σ H fun zs H1 => zs.length = ks.length ∧ ∀ a, H1 a = none → sp (gV [.ref a] zs) (upd H1 a (exo a Cl none)) (EndE Cl a Q) (fun _ _ _ => False)) := by
  refine ⟨fun pins s σ H Q I h => ?_⟩
  refine wpAny_Call_Name_kw (ld_glob I hg hm ?_ hdb)
  refine PySem.W.callWith_KW0 (h₀ := X.base) I.ok.mod.kin T.kC hall ?_ hpl
  refine thn (hkw.run pos pins s σ H _ I h) fun ws s2 ⟨zs, H2, I2, rz, l2, q2⟩ => ⟨I2.kIn, ?_⟩
  rw [hks]
  exact er_coreK T iC tI Fn g r b none_out I2 rz l2 q2
end
end L2

set_option Elab.async false
set_option linter.all false
set_option maxRecDepth 100000
set_option maxHeartbeats 8000000
/-! The errors filled. -/
namespace V8
open PySem PySem.Spec PyProof.Rows L2
abbrev s_BadLetter_init : Stmt := inClass (topS 4) 0
abbrev n_BadLetter_init : List Str := ["self", "value"]
theorem sc_BadLetter_init : FnScope ["self", "value"] ["self", "value"] (defScope s_BadLetter_init) := ⟨rfl, rfl, rfl, by decide +kernel, rfl, by decide +kernel, by decide +kernel⟩
abbrev s_BadWord_init : Stmt := inClass (topS 5) 0
abbrev n_BadWord_init : List Str := ["self", "value"]
theorem sc_BadWord_init : FnScope ["self", "value"] ["self", "value"] (defScope s_BadWord_init) := ⟨rfl, rfl, rfl, by decide +kernel, rfl, by decide +kernel, by decide +kernel⟩
abbrev s_BadImage_init : Stmt := inClass (topS 6) 0
abbrev n_BadImage_init : List Str := ["self", "letter"]
theorem sc_BadImage_init : FnScope ["self", "letter"] ["self", "letter"] (defScope s_BadImage_init) := ⟨rfl, rfl, rfl, by decide +kernel, rfl, by decide +kernel, by decide +kernel⟩
abbrev s_BadNumber_init : Stmt := inClass (topS 7) 0
abbrev n_BadNumber_init : List Str := ["self", "value"]
theorem sc_BadNumber_init : FnScope ["self", "value"] ["self", "value"] (defScope s_BadNumber_init) := ⟨rfl, rfl, rfl, by decide +kernel, rfl, by decide +kernel, by decide +kernel⟩
abbrev s_BadTable_init : Stmt := inClass (topS 8) 0
abbrev n_BadTable_init : List Str := ["self", "part"]
theorem sc_BadTable_init : FnScope ["self", "part"] ["self", "part"] (defScope s_BadTable_init) := ⟨rfl, rfl, rfl, by decide +kernel, rfl, by decide +kernel, by decide +kernel⟩
abbrev s_BadCode_init : Stmt := inClass (topS 9) 0
abbrev n_BadCode_init : List Str := ["self", "value"]
theorem sc_BadCode_init : FnScope ["self", "value"] ["self", "value"] (defScope s_BadCode_init) := ⟨rfl, rfl, rfl, by decide +kernel, rfl, by decide +kernel, by decide +kernel⟩
abbrev s_NoSign_init : Stmt := inClass (topS 10) 0
abbrev n_NoSign_init : List Str := ["self", "letter"]
theorem sc_NoSign_init : FnScope ["self", "letter"] ["self", "letter"] (defScope s_NoSign_init) := ⟨rfl, rfl, rfl, by decide +kernel, rfl, by decide +kernel, by decide +kernel⟩
abbrev s_Unread_init : Stmt := inClass (topS 11) 0
abbrev n_Unread_init : List Str := ["self", "at"]
theorem sc_Unread_init : FnScope ["self", "at"] ["self", "at"] (defScope s_Unread_init) := ⟨rfl, rfl, rfl, by decide +kernel, rfl, by decide +kernel, by decide +kernel⟩
abbrev s_Barred_init : Stmt := inClass (topS 12) 0
abbrev n_Barred_init : List Str := ["self", "at"]
theorem sc_Barred_init : FnScope ["self", "at"] ["self", "at"] (defScope s_Barred_init) := ⟨rfl, rfl, rfl, by decide +kernel, rfl, by decide +kernel, by decide +kernel⟩
abbrev s_NoImage_init : Stmt := inClass (topS 13) 0
abbrev n_NoImage_init : List Str := ["self"]
theorem sc_NoImage_init : FnScope ["self"] ["self"] (defScope s_NoImage_init) := ⟨rfl, rfl, rfl, by decide +kernel, rfl, by decide +kernel, by decide +kernel⟩
abbrev s_Merging_init : Stmt := inClass (topS 14) 0
abbrev n_Merging_init : List Str := ["self", "one", "other"]
theorem sc_Merging_init : FnScope ["self", "one", "other"] ["self", "one", "other"] (defScope s_Merging_init) := ⟨rfl, rfl, rfl, by decide +kernel, rfl, by decide +kernel, by decide +kernel⟩
abbrev s_Unlike_init : Stmt := inClass (topS 15) 0
abbrev n_Unlike_init : List Str := ["self", "letter"]
theorem sc_Unlike_init : FnScope ["self", "letter"] ["self", "letter"] (defScope s_Unlike_init) := ⟨rfl, rfl, rfl, by decide +kernel, rfl, by decide +kernel, by decide +kernel⟩
abbrev s_BadRight_init : Stmt := inClass (topS 16) 0
abbrev n_BadRight_init : List Str := ["self", "part"]
theorem sc_BadRight_init : FnScope ["self", "part"] ["self", "part"] (defScope s_BadRight_init) := ⟨rfl, rfl, rfl, by decide +kernel, rfl, by decide +kernel, by decide +kernel⟩
abbrev s_BadList_init : Stmt := inClass (topS 17) 0
abbrev n_BadList_init : List Str := ["self", "at"]
theorem sc_BadList_init : FnScope ["self", "at"] ["self", "at"] (defScope s_BadList_init) := ⟨rfl, rfl, rfl, by decide +kernel, rfl, by decide +kernel, by decide +kernel⟩
abbrev s_BadRow_init : Stmt := inClass (topS 18) 0
abbrev n_BadRow_init : List Str := ["self", "at"]
theorem sc_BadRow_init : FnScope ["self", "at"] ["self", "at"] (defScope s_BadRow_init) := ⟨rfl, rfl, rfl, by decide +kernel, rfl, by decide +kernel, by decide +kernel⟩
abbrev s_NoOrigin_init : Stmt := inClass (topS 19) 0
abbrev n_NoOrigin_init : List Str := ["self", "text"]
theorem sc_NoOrigin_init : FnScope ["self", "text"] ["self", "text"] (defScope s_NoOrigin_init) := ⟨rfl, rfl, rfl, by decide +kernel, rfl, by decide +kernel, by decide +kernel⟩
abbrev s_Several_init : Stmt := inClass (topS 20) 0
abbrev n_Several_init : List Str := ["self", "one", "other"]
theorem sc_Several_init : FnScope ["self", "one", "other"] ["self", "one", "other"] (defScope s_Several_init) := ⟨rfl, rfl, rfl, by decide +kernel, rfl, by decide +kernel, by decide +kernel⟩
abbrev s_Ring_init : Stmt := inClass (topS 21) 0
abbrev n_Ring_init : List Str := ["self", "text"]
theorem sc_Ring_init : FnScope ["self", "text"] ["self", "text"] (defScope s_Ring_init) := ⟨rfl, rfl, rfl, by decide +kernel, rfl, by decide +kernel, by decide +kernel⟩
abbrev s_BadFixer_init : Stmt := inClass (topS 22) 0
abbrev n_BadFixer_init : List Str := ["self", "at"]
theorem sc_BadFixer_init : FnScope ["self", "at"] ["self", "at"] (defScope s_BadFixer_init) := ⟨rfl, rfl, rfl, by decide +kernel, rfl, by decide +kernel, by decide +kernel⟩
abbrev s_BadName_init : Stmt := inClass (topS 23) 0
abbrev n_BadName_init : List Str := ["self", "value"]
theorem sc_BadName_init : FnScope ["self", "value"] ["self", "value"] (defScope s_BadName_init) := ⟨rfl, rfl, rfl, by decide +kernel, rfl, by decide +kernel, by decide +kernel⟩
abbrev s_NoName_init : Stmt := inClass (topS 24) 0
abbrev n_NoName_init : List Str := ["self", "name"]
theorem sc_NoName_init : FnScope ["self", "name"] ["self", "name"] (defScope s_NoName_init) := ⟨rfl, rfl, rfl, by decide +kernel, rfl, by decide +kernel, by decide +kernel⟩
abbrev s_Nothing_init : Stmt := inClass (topS 25) 0
abbrev n_Nothing_init : List Str := ["self"]
theorem sc_Nothing_init : FnScope ["self"] ["self"] (defScope s_Nothing_init) := ⟨rfl, rfl, rfl, by decide +kernel, rfl, by decide +kernel, by decide +kernel⟩
abbrev s_TooMany_init : Stmt := inClass (topS 26) 0
abbrev n_TooMany_init : List Str := ["self", "what", "most"]
theorem sc_TooMany_init : FnScope ["self", "what", "most"] ["self", "what", "most"] (defScope s_TooMany_init) := ⟨rfl, rfl, rfl, by decide +kernel, rfl, by decide +kernel, by decide +kernel⟩
abbrev s_BadText_init : Stmt := inClass (topS 27) 0
abbrev n_BadText_init : List Str := ["self", "line", "word"]
theorem sc_BadText_init : FnScope ["self", "line", "word"] ["self", "line", "word"] (defScope s_BadText_init) := ⟨rfl, rfl, rfl, by decide +kernel, rfl, by decide +kernel, by decide +kernel⟩
abbrev s_BadCommand_init : Stmt := inClass (topS 28) 0
abbrev n_BadCommand_init : List Str := ["self", "word"]
theorem sc_BadCommand_init : FnScope ["self", "word"] ["self", "word"] (defScope s_BadCommand_init) := ⟨rfl, rfl, rfl, by decide +kernel, rfl, by decide +kernel, by decide +kernel⟩
theorem len_app (a b : Str) : (a ++ b).length = a.length + b.length := strLen_append a b
/-- the base of the errors, by its name -/
structure Tb (K : PySem.W.Frag) (mg : Str → Option Value) (CE : Addr) : Prop where
  bE : mg "RepairError" = some (.ref CE)
  bR : ClX.CRead K CE (.type "type")
  bV : PySem.W.findCls K (.ref CE) (.type "type") "__init__" = some (.val (.builtin "ValueError.__init__"))
/-- a thing told to an error -/
structure Th1 (H : Hp) (x : V) (d : PyData) : Prop where
  tl : Told2 H x
  pw : PyW H x d
  te : Tells d
  sz : d.shown.length ≤ 1000
  dp : d.depth ≤ 1
theorem Told2.but {H H2 : Hp} {a : Addr} {x : V} {f : Heap → Prop} (t : Told2 H x) (s : ∀ b o, H b = some o → b ≠ a → H2 b = some o) (ha : H a = some (.ext f)) : Told2 H2 x := by
  have st : ∀ {b : Addr} {o : HO}, H b = some o → (∀ f, o ≠ .ext f) → H2 b = some o := fun {b o} e n => s b o e fun z => by
    rw [z, ha] at e
    exact n _ (Option.some.inj e).symm
  rcases t with f | ⟨b, xs, e, h, l, g⟩ | ⟨b, kvs, e, h, l, n, g⟩
  · exact .inl f
  · exact .inr (.inl ⟨b, xs, e, h.imp (fun h => st h fun _ z => nomatch z) (fun h => st h fun _ z => nomatch z), l, g⟩)
  · exact .inr (.inr ⟨b, kvs, e, st h (fun _ z => nomatch z), l, n, g⟩)
theorem Th1.same {H H2 : Hp} {x : V} {d : PyData} (t : Th1 H x d) (s : Same H H2) : Th1 H2 x d := ⟨t.tl.same s, t.pw.same s, t.te, t.sz, t.dp⟩
theorem Th1.but {H H2 : Hp} {a : Addr} {x : V} {d : PyData} {f : Heap → Prop} (t : Th1 H x d) (s : ∀ b o, H b = some o → b ≠ a → H2 b = some o) (ha : H a = some (.ext f)) : Th1 H2 x d := ⟨t.tl.but s ha, t.pw.but s ha, t.te, t.sz, t.dp⟩
def spErrW (K : PySem.W.Frag) (C : Addr) (fld : Str) : Sp := fun vs H Q _ => ∃ (a : Addr) (x : V) (d : PyData), vs = [.ref a, x] ∧ H a = some (exo a C none) ∧ OexC K C ∧ PySem.W.findIn K (.ref C) fld = some none ∧ Th1 H x d ∧
  ∀ y dx H1, Same H H1 → PyW H1 y d → H1 dx = none → dx ≠ a → Q .non (upd (upd H1 dx (exd dx [(fld, y)])) a (exo a C (some dx)))
def spErrW2 (K : PySem.W.Frag) (C : Addr) (f1 f2 : Str) : Sp := fun vs H Q _ => ∃ (a : Addr) (x1 x2 : V) (d1 d2 : PyData), vs = [.ref a, x1, x2] ∧ H a = some (exo a C none) ∧ OexC K C ∧ PySem.W.findIn K (.ref C) f1 = some none ∧ PySem.W.findIn K (.ref C) f2 = some none ∧ Th1 H x1 d1 ∧ Th1 H x2 d2 ∧
  ∀ y1 y2 dx H2, (∀ b o, H b = some o → b ≠ a → H2 b = some o) → PyW H2 y1 d1 → PyW H2 y2 d2 → H dx = none → dx ≠ a → H2 dx = some (exd dx [(f1, y1)]) → H2 a = some (exo a C (some dx)) → Q .non (upd H2 dx (exd dx [(f2, y2), (f1, y1)]))
def spErrW0 (K : PySem.W.Frag) (C : Addr) : Sp := fun vs H Q _ => ∃ a : Addr, vs = [.ref a] ∧ H a = some (exo a C none) ∧ OexC K C ∧ Q .non H
theorem two_at {H H1 : Hp} {a dx : Addr} {o1 o2 : HO} (s : Same H H1) (n : H1 dx = none) : ∀ b o, H b = some o → b ≠ a → upd (upd H1 dx o1) a o2 b = some o := fun b o e nb => by
  rw [upd_ne nb, upd_ne (ne_of_none (s _ _ e) n)]
  exact s _ _ e
section
variable {P : Program} {w : World} {K : PySem.W.Frag} {mg : Str → Option Value} {base : Heap} {CE C : Addr}
theorem ok_BadLetter {f : Addr} {fd : FuncData} (F : Fun K "__init__" "BadLetter.__init__" s_BadLetter_init f fd) (T : Tb K mg CE) (sys : SysIn base) (D_copied : Df P w K mg base 2 "copied" spCopyW) : FnG P w K mg base CX0 3 f fd ["self", "value"] (spErrW K C "value") := by
  refine F.okG sc_BadLetter_init (fun vs H Q E h => ?_) (fun cdv A outer s H vs Q E quiet hr h => ?_)
  · obtain ⟨a, x, d, rfl, _⟩ := h
    rfl
  · obtain ⟨a, x1, d1, rfl, ha, oc, no, t1, q⟩ := h
    refine ⟨_, (pss_cons (ps_expr (pe_baseinit (by rfl) T.bE T.bR T.bV (pa_cons (pv 0) (pa_cons (pe_joinedT (pj_cons (pe_fmtW sys quiet hr (pv 1)) (pj_cons pe_str pj_nil))) pa_nil))))
      (pss_one (ps_ost (pv 0) (pe_c D_copied hr (by decide) (by rfl) (pa_cons (pv 1) pa_nil)) rfl))), ?_⟩
    have z1 := t1.sz
    have h0 : (" is no letter" : Str).length ≤ 1000 := by decide +kernel
    have he : Str.empty.length ≤ 1000 := by decide +kernel
    refine ⟨_, rfl, _, rfl, d1, t1.pw, t1.te, d1.shown, rfl, ?_, _, rfl, ?_, a, C, _, rfl, (by show 1 ≤ 1000; decide), oc, ha, ?_⟩
    · simp only [len_app, sizeLine_eq]
      try simp only [len_app] at *
      omega
    · simp only [len_app, sizeLine_eq]
      try simp only [len_app] at *
      omega
    · exact ⟨_, rfl, x1, d1, rfl, t1.tl, t1.pw, fun y H1 s1 p1 => ⟨_, rfl, a, C, rfl, oc, no, .inl ⟨s1 _ _ ha, fun dx n ne => q y dx H1 s1 p1 n ne⟩⟩⟩
theorem ok_BadWord {f : Addr} {fd : FuncData} (F : Fun K "__init__" "BadWord.__init__" s_BadWord_init f fd) (T : Tb K mg CE) (sys : SysIn base) (D_copied : Df P w K mg base 2 "copied" spCopyW) : FnG P w K mg base CX0 3 f fd ["self", "value"] (spErrW K C "value") := by
  refine F.okG sc_BadWord_init (fun vs H Q E h => ?_) (fun cdv A outer s H vs Q E quiet hr h => ?_)
  · obtain ⟨a, x, d, rfl, _⟩ := h
    rfl
  · obtain ⟨a, x1, d1, rfl, ha, oc, no, t1, q⟩ := h
    refine ⟨_, (pss_cons (ps_expr (pe_baseinit (by rfl) T.bE T.bR T.bV (pa_cons (pv 0) (pa_cons (pe_joinedT (pj_cons (pe_fmtW sys quiet hr (pv 1)) (pj_cons pe_str pj_nil))) pa_nil))))
      (pss_one (ps_ost (pv 0) (pe_c D_copied hr (by decide) (by rfl) (pa_cons (pv 1) pa_nil)) rfl))), ?_⟩
    have z1 := t1.sz
    have h0 : (" is no text that can stand here" : Str).length ≤ 1000 := by decide +kernel
    have he : Str.empty.length ≤ 1000 := by decide +kernel
    refine ⟨_, rfl, _, rfl, d1, t1.pw, t1.te, d1.shown, rfl, ?_, _, rfl, ?_, a, C, _, rfl, (by show 1 ≤ 1000; decide), oc, ha, ?_⟩
    · simp only [len_app, sizeLine_eq]
      try simp only [len_app] at *
      omega
    · simp only [len_app, sizeLine_eq]
      try simp only [len_app] at *
      omega
    · exact ⟨_, rfl, x1, d1, rfl, t1.tl, t1.pw, fun y H1 s1 p1 => ⟨_, rfl, a, C, rfl, oc, no, .inl ⟨s1 _ _ ha, fun dx n ne => q y dx H1 s1 p1 n ne⟩⟩⟩
theorem ok_BadImage {f : Addr} {fd : FuncData} (F : Fun K "__init__" "BadImage.__init__" s_BadImage_init f fd) (T : Tb K mg CE) (sys : SysIn base) (D_copied : Df P w K mg base 2 "copied" spCopyW) : FnG P w K mg base CX0 3 f fd ["self", "letter"] (spErrW K C "letter") := by
  refine F.okG sc_BadImage_init (fun vs H Q E h => ?_) (fun cdv A outer s H vs Q E quiet hr h => ?_)
  · obtain ⟨a, x, d, rfl, _⟩ := h
    rfl
  · obtain ⟨a, x1, d1, rfl, ha, oc, no, t1, q⟩ := h
    refine ⟨_, (pss_cons (ps_expr (pe_baseinit (by rfl) T.bE T.bR T.bV (pa_cons (pv 0) (pa_cons (pe_joinedT (pj_cons pe_str (pj_cons (pe_fmtW sys quiet hr (pv 1)) (pj_cons pe_str pj_nil)))) pa_nil))))
      (pss_one (ps_ost (pv 0) (pe_c D_copied hr (by decide) (by rfl) (pa_cons (pv 1) pa_nil)) rfl))), ?_⟩
    have z1 := t1.sz
    have h0 : (Str.empty ++ ("the image of " : Str)).length ≤ 1000 := by decide +kernel
    have h1 : (" cannot stand here" : Str).length ≤ 1000 := by decide +kernel
    refine ⟨_, rfl, _, rfl, ?_, _, rfl, d1, t1.pw, t1.te, d1.shown, rfl, ?_, _, rfl, ?_, a, C, _, rfl, (by show 1 ≤ 1000; decide), oc, ha, ?_⟩
    · simp only [len_app, sizeLine_eq]
      try simp only [len_app] at *
      omega
    · simp only [len_app, sizeLine_eq]
      try simp only [len_app] at *
      omega
    · simp only [len_app, sizeLine_eq]
      try simp only [len_app] at *
      omega
    · exact ⟨_, rfl, x1, d1, rfl, t1.tl, t1.pw, fun y H1 s1 p1 => ⟨_, rfl, a, C, rfl, oc, no, .inl ⟨s1 _ _ ha, fun dx n ne => q y dx H1 s1 p1 n ne⟩⟩⟩
theorem ok_BadNumber {f : Addr} {fd : FuncData} (F : Fun K "__init__" "BadNumber.__init__" s_BadNumber_init f fd) (T : Tb K mg CE) (sys : SysIn base) (D_copied : Df P w K mg base 2 "copied" spCopyW) : FnG P w K mg base CX0 3 f fd ["self", "value"] (spErrW K C "value") := by
  refine F.okG sc_BadNumber_init (fun vs H Q E h => ?_) (fun cdv A outer s H vs Q E quiet hr h => ?_)
  · obtain ⟨a, x, d, rfl, _⟩ := h
    rfl
  · obtain ⟨a, x1, d1, rfl, ha, oc, no, t1, q⟩ := h
    refine ⟨_, (pss_cons (ps_expr (pe_baseinit (by rfl) T.bE T.bR T.bV (pa_cons (pv 0) (pa_cons (pe_joinedT (pj_cons (pe_fmtW sys quiet hr (pv 1)) (pj_cons pe_str pj_nil))) pa_nil))))
      (pss_one (ps_ost (pv 0) (pe_c D_copied hr (by decide) (by rfl) (pa_cons (pv 1) pa_nil)) rfl))), ?_⟩
    have z1 := t1.sz
    have h0 : (" is no number that can stand here" : Str).length ≤ 1000 := by decide +kernel
    have he : Str.empty.length ≤ 1000 := by decide +kernel
    refine ⟨_, rfl, _, rfl, d1, t1.pw, t1.te, d1.shown, rfl, ?_, _, rfl, ?_, a, C, _, rfl, (by show 1 ≤ 1000; decide), oc, ha, ?_⟩
    · simp only [len_app, sizeLine_eq]
      try simp only [len_app] at *
      omega
    · simp only [len_app, sizeLine_eq]
      try simp only [len_app] at *
      omega
    · exact ⟨_, rfl, x1, d1, rfl, t1.tl, t1.pw, fun y H1 s1 p1 => ⟨_, rfl, a, C, rfl, oc, no, .inl ⟨s1 _ _ ha, fun dx n ne => q y dx H1 s1 p1 n ne⟩⟩⟩
theorem ok_BadTable {f : Addr} {fd : FuncData} (F : Fun K "__init__" "BadTable.__init__" s_BadTable_init f fd) (T : Tb K mg CE) (sys : SysIn base) (D_copied : Df P w K mg base 2 "copied" spCopyW) : FnG P w K mg base CX0 3 f fd ["self", "part"] (spErrW K C "part") := by
  refine F.okG sc_BadTable_init (fun vs H Q E h => ?_) (fun cdv A outer s H vs Q E quiet hr h => ?_)
  · obtain ⟨a, x, d, rfl, _⟩ := h
    rfl
  · obtain ⟨a, x1, d1, rfl, ha, oc, no, t1, q⟩ := h
    refine ⟨_, (pss_cons (ps_expr (pe_baseinit (by rfl) T.bE T.bR T.bV (pa_cons (pv 0) (pa_cons (pe_joinedT (pj_cons (pe_fmtW sys quiet hr (pv 1)) (pj_cons pe_str pj_nil))) pa_nil))))
      (pss_one (ps_ost (pv 0) (pe_c D_copied hr (by decide) (by rfl) (pa_cons (pv 1) pa_nil)) rfl))), ?_⟩
    have z1 := t1.sz
    have h0 : (" is not of the kind that it should be" : Str).length ≤ 1000 := by decide +kernel
    have he : Str.empty.length ≤ 1000 := by decide +kernel
    refine ⟨_, rfl, _, rfl, d1, t1.pw, t1.te, d1.shown, rfl, ?_, _, rfl, ?_, a, C, _, rfl, (by show 1 ≤ 1000; decide), oc, ha, ?_⟩
    · simp only [len_app, sizeLine_eq]
      try simp only [len_app] at *
      omega
    · simp only [len_app, sizeLine_eq]
      try simp only [len_app] at *
      omega
    · exact ⟨_, rfl, x1, d1, rfl, t1.tl, t1.pw, fun y H1 s1 p1 => ⟨_, rfl, a, C, rfl, oc, no, .inl ⟨s1 _ _ ha, fun dx n ne => q y dx H1 s1 p1 n ne⟩⟩⟩
theorem ok_BadCode {f : Addr} {fd : FuncData} (F : Fun K "__init__" "BadCode.__init__" s_BadCode_init f fd) (T : Tb K mg CE) (sys : SysIn base) (D_copied : Df P w K mg base 2 "copied" spCopyW) : FnG P w K mg base CX0 3 f fd ["self", "value"] (spErrW K C "value") := by
  refine F.okG sc_BadCode_init (fun vs H Q E h => ?_) (fun cdv A outer s H vs Q E quiet hr h => ?_)
  · obtain ⟨a, x, d, rfl, _⟩ := h
    rfl
  · obtain ⟨a, x1, d1, rfl, ha, oc, no, t1, q⟩ := h
    refine ⟨_, (pss_cons (ps_expr (pe_baseinit (by rfl) T.bE T.bR T.bV (pa_cons (pv 0) (pa_cons (pe_joinedT (pj_cons (pe_fmtW sys quiet hr (pv 1)) (pj_cons pe_str pj_nil))) pa_nil))))
      (pss_one (ps_ost (pv 0) (pe_c D_copied hr (by decide) (by rfl) (pa_cons (pv 1) pa_nil)) rfl))), ?_⟩
    have z1 := t1.sz
    have h0 : (" is no code, or no integer of one" : Str).length ≤ 1000 := by decide +kernel
    have he : Str.empty.length ≤ 1000 := by decide +kernel
    refine ⟨_, rfl, _, rfl, d1, t1.pw, t1.te, d1.shown, rfl, ?_, _, rfl, ?_, a, C, _, rfl, (by show 1 ≤ 1000; decide), oc, ha, ?_⟩
    · simp only [len_app, sizeLine_eq]
      try simp only [len_app] at *
      omega
    · simp only [len_app, sizeLine_eq]
      try simp only [len_app] at *
      omega
    · exact ⟨_, rfl, x1, d1, rfl, t1.tl, t1.pw, fun y H1 s1 p1 => ⟨_, rfl, a, C, rfl, oc, no, .inl ⟨s1 _ _ ha, fun dx n ne => q y dx H1 s1 p1 n ne⟩⟩⟩
theorem ok_NoSign {f : Addr} {fd : FuncData} (F : Fun K "__init__" "NoSign.__init__" s_NoSign_init f fd) (T : Tb K mg CE) (sys : SysIn base) (D_copied : Df P w K mg base 2 "copied" spCopyW) : FnG P w K mg base CX0 3 f fd ["self", "letter"] (spErrW K C "letter") := by
  refine F.okG sc_NoSign_init (fun vs H Q E h => ?_) (fun cdv A outer s H vs Q E quiet hr h => ?_)
  · obtain ⟨a, x, d, rfl, _⟩ := h
    rfl
  · obtain ⟨a, x1, d1, rfl, ha, oc, no, t1, q⟩ := h
    refine ⟨_, (pss_cons (ps_expr (pe_baseinit (by rfl) T.bE T.bR T.bV (pa_cons (pv 0) (pa_cons (pe_joinedT (pj_cons pe_str (pj_cons (pe_fmtW sys quiet hr (pv 1)) pj_nil))) pa_nil))))
      (pss_one (ps_ost (pv 0) (pe_c D_copied hr (by decide) (by rfl) (pa_cons (pv 1) pa_nil)) rfl))), ?_⟩
    have z1 := t1.sz
    have h0 : (Str.empty ++ ("there is no code for " : Str)).length ≤ 1000 := by decide +kernel
    refine ⟨_, rfl, _, rfl, ?_, _, rfl, d1, t1.pw, t1.te, d1.shown, rfl, ?_, a, C, _, rfl, (by show 1 ≤ 1000; decide), oc, ha, ?_⟩
    · simp only [len_app, sizeLine_eq]
      try simp only [len_app] at *
      omega
    · simp only [len_app, sizeLine_eq]
      try simp only [len_app] at *
      omega
    · exact ⟨_, rfl, x1, d1, rfl, t1.tl, t1.pw, fun y H1 s1 p1 => ⟨_, rfl, a, C, rfl, oc, no, .inl ⟨s1 _ _ ha, fun dx n ne => q y dx H1 s1 p1 n ne⟩⟩⟩
theorem ok_Unread {f : Addr} {fd : FuncData} (F : Fun K "__init__" "Unread.__init__" s_Unread_init f fd) (T : Tb K mg CE) (sys : SysIn base) (D_copied : Df P w K mg base 2 "copied" spCopyW) : FnG P w K mg base CX0 3 f fd ["self", "at"] (spErrW K C "at") := by
  refine F.okG sc_Unread_init (fun vs H Q E h => ?_) (fun cdv A outer s H vs Q E quiet hr h => ?_)
  · obtain ⟨a, x, d, rfl, _⟩ := h
    rfl
  · obtain ⟨a, x1, d1, rfl, ha, oc, no, t1, q⟩ := h
    refine ⟨_, (pss_cons (ps_expr (pe_baseinit (by rfl) T.bE T.bR T.bV (pa_cons (pv 0) (pa_cons (pe_joinedT (pj_cons pe_str (pj_cons (pe_fmtW sys quiet hr (pv 1)) (pj_cons pe_str pj_nil)))) pa_nil))))
      (pss_one (ps_ost (pv 0) (pe_c D_copied hr (by decide) (by rfl) (pa_cons (pv 1) pa_nil)) rfl))), ?_⟩
    have z1 := t1.sz
    have h0 : (Str.empty ++ ("the integer at " : Str)).length ≤ 1000 := by decide +kernel
    have h1 : (" cannot be read" : Str).length ≤ 1000 := by decide +kernel
    refine ⟨_, rfl, _, rfl, ?_, _, rfl, d1, t1.pw, t1.te, d1.shown, rfl, ?_, _, rfl, ?_, a, C, _, rfl, (by show 1 ≤ 1000; decide), oc, ha, ?_⟩
    · simp only [len_app, sizeLine_eq]
      try simp only [len_app] at *
      omega
    · simp only [len_app, sizeLine_eq]
      try simp only [len_app] at *
      omega
    · simp only [len_app, sizeLine_eq]
      try simp only [len_app] at *
      omega
    · exact ⟨_, rfl, x1, d1, rfl, t1.tl, t1.pw, fun y H1 s1 p1 => ⟨_, rfl, a, C, rfl, oc, no, .inl ⟨s1 _ _ ha, fun dx n ne => q y dx H1 s1 p1 n ne⟩⟩⟩
theorem ok_Barred {f : Addr} {fd : FuncData} (F : Fun K "__init__" "Barred.__init__" s_Barred_init f fd) (T : Tb K mg CE) (sys : SysIn base) (D_copied : Df P w K mg base 2 "copied" spCopyW) : FnG P w K mg base CX0 3 f fd ["self", "at"] (spErrW K C "at") := by
  refine F.okG sc_Barred_init (fun vs H Q E h => ?_) (fun cdv A outer s H vs Q E quiet hr h => ?_)
  · obtain ⟨a, x, d, rfl, _⟩ := h
    rfl
  · obtain ⟨a, x1, d1, rfl, ha, oc, no, t1, q⟩ := h
    refine ⟨_, (pss_cons (ps_expr (pe_baseinit (by rfl) T.bE T.bR T.bV (pa_cons (pv 0) (pa_cons (pe_joinedT (pj_cons pe_str (pj_cons (pe_fmtW sys quiet hr (pv 1)) pj_nil))) pa_nil))))
      (pss_one (ps_ost (pv 0) (pe_c D_copied hr (by decide) (by rfl) (pa_cons (pv 1) pa_nil)) rfl))), ?_⟩
    have z1 := t1.sz
    have h0 : (Str.empty ++ ("the misreading cannot happen, because of what stands at " : Str)).length ≤ 1000 := by decide +kernel
    refine ⟨_, rfl, _, rfl, ?_, _, rfl, d1, t1.pw, t1.te, d1.shown, rfl, ?_, a, C, _, rfl, (by show 1 ≤ 1000; decide), oc, ha, ?_⟩
    · simp only [len_app, sizeLine_eq]
      try simp only [len_app] at *
      omega
    · simp only [len_app, sizeLine_eq]
      try simp only [len_app] at *
      omega
    · exact ⟨_, rfl, x1, d1, rfl, t1.tl, t1.pw, fun y H1 s1 p1 => ⟨_, rfl, a, C, rfl, oc, no, .inl ⟨s1 _ _ ha, fun dx n ne => q y dx H1 s1 p1 n ne⟩⟩⟩
theorem ok_NoImage {f : Addr} {fd : FuncData} (F : Fun K "__init__" "NoImage.__init__" s_NoImage_init f fd) (T : Tb K mg CE) : FnG P w K mg base CX0 3 f fd ["self"] (spErrW0 K C) := by
  refine F.okG sc_NoImage_init (fun vs H Q E h => ?_) (fun cdv A outer s H vs Q E quiet hr h => ?_)
  · obtain ⟨a, rfl, _⟩ := h
    rfl
  · obtain ⟨a, rfl, ha, oc, q⟩ := h
    refine ⟨_, (pss_one (ps_expr (pe_baseinit (by rfl) T.bE T.bR T.bV (pa_cons (pv 0) (pa_cons pe_str pa_nil))))), ?_⟩
    exact ⟨_, rfl, a, C, _, rfl, (by show 1 ≤ 1000; decide), oc, ha, q⟩
theorem ok_Merging {f : Addr} {fd : FuncData} (F : Fun K "__init__" "Merging.__init__" s_Merging_init f fd) (T : Tb K mg CE) (sys : SysIn base) (D_copied : Df P w K mg base 2 "copied" spCopyW) : FnG P w K mg base CX0 3 f fd ["self", "one", "other"] (spErrW2 K C "one" "other") := by
  refine F.okG sc_Merging_init (fun vs H Q E h => ?_) (fun cdv A outer s H vs Q E quiet hr h => ?_)
  · obtain ⟨a, x1, x2, d1, d2, rfl, _⟩ := h
    rfl
  · obtain ⟨a, x1, x2, d1, d2, rfl, ha, oc, n1, n2, t1, t2, q⟩ := h
    refine ⟨_, (pss_cons (ps_expr (pe_baseinit (by rfl) T.bE T.bR T.bV (pa_cons (pv 0) (pa_cons (pe_joinedT (pj_cons (pe_fmtW sys quiet hr (pv 1)) (pj_cons pe_str (pj_cons (pe_fmtW sys quiet hr (pv 2)) (pj_cons pe_str pj_nil))))) pa_nil))))
      (pss_cons (ps_ost (pv 0) (pe_c D_copied hr (by decide) (by rfl) (pa_cons (pv 1) pa_nil)) rfl)
      (pss_one (ps_ost (pv 0) (pe_c D_copied hr (by decide) (by rfl) (pa_cons (pv 2) pa_nil)) rfl)))), ?_⟩
    have z1 := t1.sz
    have z2 := t2.sz
    have h0 : (" and " : Str).length ≤ 1000 := by decide +kernel
    have h1 : (" become the same text" : Str).length ≤ 1000 := by decide +kernel
    have he : Str.empty.length ≤ 1000 := by decide +kernel
    refine ⟨_, rfl, _, rfl, d1, t1.pw, t1.te, d1.shown, rfl, ?_, _, rfl, ?_, _, rfl, d2, t2.pw, t2.te, d2.shown, rfl, ?_, _, rfl, ?_, a, C, _, rfl, (by show 1 ≤ 1000; decide), oc, ha, ?_⟩
    · simp only [len_app, sizeLine_eq]
      try simp only [len_app] at *
      omega
    · simp only [len_app, sizeLine_eq]
      try simp only [len_app] at *
      omega
    · simp only [len_app, sizeLine_eq]
      try simp only [len_app] at *
      omega
    · simp only [len_app, sizeLine_eq]
      try simp only [len_app] at *
      omega
    · refine ⟨_, rfl, x1, d1, rfl, t1.tl, t1.pw, fun y1 H1 s1 p1 => ⟨_, rfl, a, C, rfl, oc, n1, .inl ⟨s1 _ _ ha, fun dx n ne => ?_⟩⟩⟩
      have tt := two_at (a := a) (o1 := exd dx [("one", y1)]) (o2 := exo a C (some dx)) s1 n
      have t2' := t2.but tt ha
      have p1' := p1.but (H2 := upd (upd H1 dx (exd dx [("one", y1)])) a (exo a C (some dx))) (two_at (Same.refl H1) n) (s1 _ _ ha)
      refine ⟨_, rfl, x2, d2, rfl, t2'.tl, t2'.pw, fun y2 H2 s2 p2 => ⟨_, rfl, a, C, rfl, oc, n2, .inr ⟨dx, [("one", y1)], s2 _ _ upd_same, s2 _ _ (by rw [upd_ne ne]; exact upd_same), (by show 1 ≤ 900; decide), ?_⟩⟩⟩
      exact q y1 y2 dx H2 (fun b o e nb => s2 _ _ (tt b o e nb)) (p1'.same s2) p2 (same_none s1 n) ne (s2 _ _ (by rw [upd_ne ne]; exact upd_same)) (s2 _ _ upd_same)
theorem ok_Unlike {f : Addr} {fd : FuncData} (F : Fun K "__init__" "Unlike.__init__" s_Unlike_init f fd) (T : Tb K mg CE) (sys : SysIn base) (D_copied : Df P w K mg base 2 "copied" spCopyW) : FnG P w K mg base CX0 3 f fd ["self", "letter"] (spErrW K C "letter") := by
  refine F.okG sc_Unlike_init (fun vs H Q E h => ?_) (fun cdv A outer s H vs Q E quiet hr h => ?_)
  · obtain ⟨a, x, d, rfl, _⟩ := h
    rfl
  · obtain ⟨a, x1, d1, rfl, ha, oc, no, t1, q⟩ := h
    refine ⟨_, (pss_cons (ps_expr (pe_baseinit (by rfl) T.bE T.bR T.bV (pa_cons (pv 0) (pa_cons (pe_joinedT (pj_cons (pe_fmtW sys quiet hr (pv 1)) (pj_cons pe_str pj_nil))) pa_nil))))
      (pss_one (ps_ost (pv 0) (pe_c D_copied hr (by decide) (by rfl) (pa_cons (pv 1) pa_nil)) rfl))), ?_⟩
    have z1 := t1.sz
    have h0 : (" is told in two unlike ways" : Str).length ≤ 1000 := by decide +kernel
    have he : Str.empty.length ≤ 1000 := by decide +kernel
    refine ⟨_, rfl, _, rfl, d1, t1.pw, t1.te, d1.shown, rfl, ?_, _, rfl, ?_, a, C, _, rfl, (by show 1 ≤ 1000; decide), oc, ha, ?_⟩
    · simp only [len_app, sizeLine_eq]
      try simp only [len_app] at *
      omega
    · simp only [len_app, sizeLine_eq]
      try simp only [len_app] at *
      omega
    · exact ⟨_, rfl, x1, d1, rfl, t1.tl, t1.pw, fun y H1 s1 p1 => ⟨_, rfl, a, C, rfl, oc, no, .inl ⟨s1 _ _ ha, fun dx n ne => q y dx H1 s1 p1 n ne⟩⟩⟩
theorem ok_BadRight {f : Addr} {fd : FuncData} (F : Fun K "__init__" "BadRight.__init__" s_BadRight_init f fd) (T : Tb K mg CE) (sys : SysIn base) (D_copied : Df P w K mg base 2 "copied" spCopyW) : FnG P w K mg base CX0 3 f fd ["self", "part"] (spErrW K C "part") := by
  refine F.okG sc_BadRight_init (fun vs H Q E h => ?_) (fun cdv A outer s H vs Q E quiet hr h => ?_)
  · obtain ⟨a, x, d, rfl, _⟩ := h
    rfl
  · obtain ⟨a, x1, d1, rfl, ha, oc, no, t1, q⟩ := h
    refine ⟨_, (pss_cons (ps_expr (pe_baseinit (by rfl) T.bE T.bR T.bV (pa_cons (pv 0) (pa_cons (pe_joinedT (pj_cons pe_str (pj_cons (pe_fmtW sys quiet hr (pv 1)) pj_nil))) pa_nil))))
      (pss_one (ps_ost (pv 0) (pe_c D_copied hr (by decide) (by rfl) (pa_cons (pv 1) pa_nil)) rfl))), ?_⟩
    have z1 := t1.sz
    have h0 : (Str.empty ++ ("no right set is told: " : Str)).length ≤ 1000 := by decide +kernel
    refine ⟨_, rfl, _, rfl, ?_, _, rfl, d1, t1.pw, t1.te, d1.shown, rfl, ?_, a, C, _, rfl, (by show 1 ≤ 1000; decide), oc, ha, ?_⟩
    · simp only [len_app, sizeLine_eq]
      try simp only [len_app] at *
      omega
    · simp only [len_app, sizeLine_eq]
      try simp only [len_app] at *
      omega
    · exact ⟨_, rfl, x1, d1, rfl, t1.tl, t1.pw, fun y H1 s1 p1 => ⟨_, rfl, a, C, rfl, oc, no, .inl ⟨s1 _ _ ha, fun dx n ne => q y dx H1 s1 p1 n ne⟩⟩⟩
theorem ok_BadList {f : Addr} {fd : FuncData} (F : Fun K "__init__" "BadList.__init__" s_BadList_init f fd) (T : Tb K mg CE) (sys : SysIn base) (D_copied : Df P w K mg base 2 "copied" spCopyW) : FnG P w K mg base CX0 3 f fd ["self", "at"] (spErrW K C "at") := by
  refine F.okG sc_BadList_init (fun vs H Q E h => ?_) (fun cdv A outer s H vs Q E quiet hr h => ?_)
  · obtain ⟨a, x, d, rfl, _⟩ := h
    rfl
  · obtain ⟨a, x1, d1, rfl, ha, oc, no, t1, q⟩ := h
    refine ⟨_, (pss_cons (ps_expr (pe_baseinit (by rfl) T.bE T.bR T.bV (pa_cons (pv 0) (pa_cons (pe_joinedT (pj_cons pe_str (pj_cons (pe_fmtW sys quiet hr (pv 1)) pj_nil))) pa_nil))))
      (pss_one (ps_ost (pv 0) (pe_c D_copied hr (by decide) (by rfl) (pa_cons (pv 1) pa_nil)) rfl))), ?_⟩
    have z1 := t1.sz
    have h0 : (Str.empty ++ ("this is no list of misreadings: " : Str)).length ≤ 1000 := by decide +kernel
    refine ⟨_, rfl, _, rfl, ?_, _, rfl, d1, t1.pw, t1.te, d1.shown, rfl, ?_, a, C, _, rfl, (by show 1 ≤ 1000; decide), oc, ha, ?_⟩
    · simp only [len_app, sizeLine_eq]
      try simp only [len_app] at *
      omega
    · simp only [len_app, sizeLine_eq]
      try simp only [len_app] at *
      omega
    · exact ⟨_, rfl, x1, d1, rfl, t1.tl, t1.pw, fun y H1 s1 p1 => ⟨_, rfl, a, C, rfl, oc, no, .inl ⟨s1 _ _ ha, fun dx n ne => q y dx H1 s1 p1 n ne⟩⟩⟩
theorem ok_BadRow {f : Addr} {fd : FuncData} (F : Fun K "__init__" "BadRow.__init__" s_BadRow_init f fd) (T : Tb K mg CE) (sys : SysIn base) (D_copied : Df P w K mg base 2 "copied" spCopyW) : FnG P w K mg base CX0 3 f fd ["self", "at"] (spErrW K C "at") := by
  refine F.okG sc_BadRow_init (fun vs H Q E h => ?_) (fun cdv A outer s H vs Q E quiet hr h => ?_)
  · obtain ⟨a, x, d, rfl, _⟩ := h
    rfl
  · obtain ⟨a, x1, d1, rfl, ha, oc, no, t1, q⟩ := h
    refine ⟨_, (pss_cons (ps_expr (pe_baseinit (by rfl) T.bE T.bR T.bV (pa_cons (pv 0) (pa_cons (pe_joinedT (pj_cons pe_str (pj_cons (pe_fmtW sys quiet hr (pv 1)) pj_nil))) pa_nil))))
      (pss_one (ps_ost (pv 0) (pe_c D_copied hr (by decide) (by rfl) (pa_cons (pv 1) pa_nil)) rfl))), ?_⟩
    have z1 := t1.sz
    have h0 : (Str.empty ++ ("this is no row of misreadings: " : Str)).length ≤ 1000 := by decide +kernel
    refine ⟨_, rfl, _, rfl, ?_, _, rfl, d1, t1.pw, t1.te, d1.shown, rfl, ?_, a, C, _, rfl, (by show 1 ≤ 1000; decide), oc, ha, ?_⟩
    · simp only [len_app, sizeLine_eq]
      try simp only [len_app] at *
      omega
    · simp only [len_app, sizeLine_eq]
      try simp only [len_app] at *
      omega
    · exact ⟨_, rfl, x1, d1, rfl, t1.tl, t1.pw, fun y H1 s1 p1 => ⟨_, rfl, a, C, rfl, oc, no, .inl ⟨s1 _ _ ha, fun dx n ne => q y dx H1 s1 p1 n ne⟩⟩⟩
theorem ok_NoOrigin {f : Addr} {fd : FuncData} (F : Fun K "__init__" "NoOrigin.__init__" s_NoOrigin_init f fd) (T : Tb K mg CE) (sys : SysIn base) (D_copied : Df P w K mg base 2 "copied" spCopyW) : FnG P w K mg base CX0 3 f fd ["self", "text"] (spErrW K C "text") := by
  refine F.okG sc_NoOrigin_init (fun vs H Q E h => ?_) (fun cdv A outer s H vs Q E quiet hr h => ?_)
  · obtain ⟨a, x, d, rfl, _⟩ := h
    rfl
  · obtain ⟨a, x1, d1, rfl, ha, oc, no, t1, q⟩ := h
    refine ⟨_, (pss_cons (ps_expr (pe_baseinit (by rfl) T.bE T.bR T.bV (pa_cons (pv 0) (pa_cons (pe_joinedT (pj_cons (pe_fmtW sys quiet hr (pv 1)) (pj_cons pe_str pj_nil))) pa_nil))))
      (pss_one (ps_ost (pv 0) (pe_c D_copied hr (by decide) (by rfl) (pa_cons (pv 1) pa_nil)) rfl))), ?_⟩
    have z1 := t1.sz
    have h0 : (" comes of no right text" : Str).length ≤ 1000 := by decide +kernel
    have he : Str.empty.length ≤ 1000 := by decide +kernel
    refine ⟨_, rfl, _, rfl, d1, t1.pw, t1.te, d1.shown, rfl, ?_, _, rfl, ?_, a, C, _, rfl, (by show 1 ≤ 1000; decide), oc, ha, ?_⟩
    · simp only [len_app, sizeLine_eq]
      try simp only [len_app] at *
      omega
    · simp only [len_app, sizeLine_eq]
      try simp only [len_app] at *
      omega
    · exact ⟨_, rfl, x1, d1, rfl, t1.tl, t1.pw, fun y H1 s1 p1 => ⟨_, rfl, a, C, rfl, oc, no, .inl ⟨s1 _ _ ha, fun dx n ne => q y dx H1 s1 p1 n ne⟩⟩⟩
theorem ok_Several {f : Addr} {fd : FuncData} (F : Fun K "__init__" "Several.__init__" s_Several_init f fd) (T : Tb K mg CE) (sys : SysIn base) (D_copied : Df P w K mg base 2 "copied" spCopyW) : FnG P w K mg base CX0 3 f fd ["self", "one", "other"] (spErrW2 K C "one" "other") := by
  refine F.okG sc_Several_init (fun vs H Q E h => ?_) (fun cdv A outer s H vs Q E quiet hr h => ?_)
  · obtain ⟨a, x1, x2, d1, d2, rfl, _⟩ := h
    rfl
  · obtain ⟨a, x1, x2, d1, d2, rfl, ha, oc, n1, n2, t1, t2, q⟩ := h
    refine ⟨_, (pss_cons (ps_expr (pe_baseinit (by rfl) T.bE T.bR T.bV (pa_cons (pv 0) (pa_cons (pe_joinedT (pj_cons (pe_fmtW sys quiet hr (pv 1)) (pj_cons pe_str (pj_cons (pe_fmtW sys quiet hr (pv 2)) (pj_cons pe_str pj_nil))))) pa_nil))))
      (pss_cons (ps_ost (pv 0) (pe_c D_copied hr (by decide) (by rfl) (pa_cons (pv 1) pa_nil)) rfl)
      (pss_one (ps_ost (pv 0) (pe_c D_copied hr (by decide) (by rfl) (pa_cons (pv 2) pa_nil)) rfl)))), ?_⟩
    have z1 := t1.sz
    have z2 := t2.sz
    have h0 : (" and " : Str).length ≤ 1000 := by decide +kernel
    have h1 : (" are both right" : Str).length ≤ 1000 := by decide +kernel
    have he : Str.empty.length ≤ 1000 := by decide +kernel
    refine ⟨_, rfl, _, rfl, d1, t1.pw, t1.te, d1.shown, rfl, ?_, _, rfl, ?_, _, rfl, d2, t2.pw, t2.te, d2.shown, rfl, ?_, _, rfl, ?_, a, C, _, rfl, (by show 1 ≤ 1000; decide), oc, ha, ?_⟩
    · simp only [len_app, sizeLine_eq]
      try simp only [len_app] at *
      omega
    · simp only [len_app, sizeLine_eq]
      try simp only [len_app] at *
      omega
    · simp only [len_app, sizeLine_eq]
      try simp only [len_app] at *
      omega
    · simp only [len_app, sizeLine_eq]
      try simp only [len_app] at *
      omega
    · refine ⟨_, rfl, x1, d1, rfl, t1.tl, t1.pw, fun y1 H1 s1 p1 => ⟨_, rfl, a, C, rfl, oc, n1, .inl ⟨s1 _ _ ha, fun dx n ne => ?_⟩⟩⟩
      have tt := two_at (a := a) (o1 := exd dx [("one", y1)]) (o2 := exo a C (some dx)) s1 n
      have t2' := t2.but tt ha
      have p1' := p1.but (H2 := upd (upd H1 dx (exd dx [("one", y1)])) a (exo a C (some dx))) (two_at (Same.refl H1) n) (s1 _ _ ha)
      refine ⟨_, rfl, x2, d2, rfl, t2'.tl, t2'.pw, fun y2 H2 s2 p2 => ⟨_, rfl, a, C, rfl, oc, n2, .inr ⟨dx, [("one", y1)], s2 _ _ upd_same, s2 _ _ (by rw [upd_ne ne]; exact upd_same), (by show 1 ≤ 900; decide), ?_⟩⟩⟩
      exact q y1 y2 dx H2 (fun b o e nb => s2 _ _ (tt b o e nb)) (p1'.same s2) p2 (same_none s1 n) ne (s2 _ _ (by rw [upd_ne ne]; exact upd_same)) (s2 _ _ upd_same)
theorem ok_Ring {f : Addr} {fd : FuncData} (F : Fun K "__init__" "Ring.__init__" s_Ring_init f fd) (T : Tb K mg CE) (sys : SysIn base) (D_copied : Df P w K mg base 2 "copied" spCopyW) : FnG P w K mg base CX0 3 f fd ["self", "text"] (spErrW K C "text") := by
  refine F.okG sc_Ring_init (fun vs H Q E h => ?_) (fun cdv A outer s H vs Q E quiet hr h => ?_)
  · obtain ⟨a, x, d, rfl, _⟩ := h
    rfl
  · obtain ⟨a, x1, d1, rfl, ha, oc, no, t1, q⟩ := h
    refine ⟨_, (pss_cons (ps_expr (pe_baseinit (by rfl) T.bE T.bR T.bV (pa_cons (pv 0) (pa_cons (pe_joinedT (pj_cons pe_str (pj_cons (pe_fmtW sys quiet hr (pv 1)) (pj_cons pe_str pj_nil)))) pa_nil))))
      (pss_one (ps_ost (pv 0) (pe_c D_copied hr (by decide) (by rfl) (pa_cons (pv 1) pa_nil)) rfl))), ?_⟩
    have z1 := t1.sz
    have h0 : (Str.empty ++ ("the repair of " : Str)).length ≤ 1000 := by decide +kernel
    have h1 : (" does not end" : Str).length ≤ 1000 := by decide +kernel
    refine ⟨_, rfl, _, rfl, ?_, _, rfl, d1, t1.pw, t1.te, d1.shown, rfl, ?_, _, rfl, ?_, a, C, _, rfl, (by show 1 ≤ 1000; decide), oc, ha, ?_⟩
    · simp only [len_app, sizeLine_eq]
      try simp only [len_app] at *
      omega
    · simp only [len_app, sizeLine_eq]
      try simp only [len_app] at *
      omega
    · simp only [len_app, sizeLine_eq]
      try simp only [len_app] at *
      omega
    · exact ⟨_, rfl, x1, d1, rfl, t1.tl, t1.pw, fun y H1 s1 p1 => ⟨_, rfl, a, C, rfl, oc, no, .inl ⟨s1 _ _ ha, fun dx n ne => q y dx H1 s1 p1 n ne⟩⟩⟩
theorem ok_BadFixer {f : Addr} {fd : FuncData} (F : Fun K "__init__" "BadFixer.__init__" s_BadFixer_init f fd) (T : Tb K mg CE) (sys : SysIn base) (D_copied : Df P w K mg base 2 "copied" spCopyW) : FnG P w K mg base CX0 3 f fd ["self", "at"] (spErrW K C "at") := by
  refine F.okG sc_BadFixer_init (fun vs H Q E h => ?_) (fun cdv A outer s H vs Q E quiet hr h => ?_)
  · obtain ⟨a, x, d, rfl, _⟩ := h
    rfl
  · obtain ⟨a, x1, d1, rfl, ha, oc, no, t1, q⟩ := h
    refine ⟨_, (pss_cons (ps_expr (pe_baseinit (by rfl) T.bE T.bR T.bV (pa_cons (pv 0) (pa_cons (pe_joinedT (pj_cons pe_str (pj_cons (pe_fmtW sys quiet hr (pv 1)) pj_nil))) pa_nil))))
      (pss_one (ps_ost (pv 0) (pe_c D_copied hr (by decide) (by rfl) (pa_cons (pv 1) pa_nil)) rfl))), ?_⟩
    have z1 := t1.sz
    have h0 : (Str.empty ++ ("this is no list of replacements: " : Str)).length ≤ 1000 := by decide +kernel
    refine ⟨_, rfl, _, rfl, ?_, _, rfl, d1, t1.pw, t1.te, d1.shown, rfl, ?_, a, C, _, rfl, (by show 1 ≤ 1000; decide), oc, ha, ?_⟩
    · simp only [len_app, sizeLine_eq]
      try simp only [len_app] at *
      omega
    · simp only [len_app, sizeLine_eq]
      try simp only [len_app] at *
      omega
    · exact ⟨_, rfl, x1, d1, rfl, t1.tl, t1.pw, fun y H1 s1 p1 => ⟨_, rfl, a, C, rfl, oc, no, .inl ⟨s1 _ _ ha, fun dx n ne => q y dx H1 s1 p1 n ne⟩⟩⟩
theorem ok_BadName {f : Addr} {fd : FuncData} (F : Fun K "__init__" "BadName.__init__" s_BadName_init f fd) (T : Tb K mg CE) (sys : SysIn base) (D_copied : Df P w K mg base 2 "copied" spCopyW) : FnG P w K mg base CX0 3 f fd ["self", "value"] (spErrW K C "value") := by
  refine F.okG sc_BadName_init (fun vs H Q E h => ?_) (fun cdv A outer s H vs Q E quiet hr h => ?_)
  · obtain ⟨a, x, d, rfl, _⟩ := h
    rfl
  · obtain ⟨a, x1, d1, rfl, ha, oc, no, t1, q⟩ := h
    refine ⟨_, (pss_cons (ps_expr (pe_baseinit (by rfl) T.bE T.bR T.bV (pa_cons (pv 0) (pa_cons (pe_joinedT (pj_cons (pe_fmtW sys quiet hr (pv 1)) (pj_cons pe_str pj_nil))) pa_nil))))
      (pss_one (ps_ost (pv 0) (pe_c D_copied hr (by decide) (by rfl) (pa_cons (pv 1) pa_nil)) rfl))), ?_⟩
    have z1 := t1.sz
    have h0 : (" cannot be a name" : Str).length ≤ 1000 := by decide +kernel
    have he : Str.empty.length ≤ 1000 := by decide +kernel
    refine ⟨_, rfl, _, rfl, d1, t1.pw, t1.te, d1.shown, rfl, ?_, _, rfl, ?_, a, C, _, rfl, (by show 1 ≤ 1000; decide), oc, ha, ?_⟩
    · simp only [len_app, sizeLine_eq]
      try simp only [len_app] at *
      omega
    · simp only [len_app, sizeLine_eq]
      try simp only [len_app] at *
      omega
    · exact ⟨_, rfl, x1, d1, rfl, t1.tl, t1.pw, fun y H1 s1 p1 => ⟨_, rfl, a, C, rfl, oc, no, .inl ⟨s1 _ _ ha, fun dx n ne => q y dx H1 s1 p1 n ne⟩⟩⟩
theorem ok_NoName {f : Addr} {fd : FuncData} (F : Fun K "__init__" "NoName.__init__" s_NoName_init f fd) (T : Tb K mg CE) (sys : SysIn base) (D_copied : Df P w K mg base 2 "copied" spCopyW) : FnG P w K mg base CX0 3 f fd ["self", "name"] (spErrW K C "name") := by
  refine F.okG sc_NoName_init (fun vs H Q E h => ?_) (fun cdv A outer s H vs Q E quiet hr h => ?_)
  · obtain ⟨a, x, d, rfl, _⟩ := h
    rfl
  · obtain ⟨a, x1, d1, rfl, ha, oc, no, t1, q⟩ := h
    refine ⟨_, (pss_cons (ps_expr (pe_baseinit (by rfl) T.bE T.bR T.bV (pa_cons (pv 0) (pa_cons (pe_joinedT (pj_cons pe_str (pj_cons (pe_fmtW sys quiet hr (pv 1)) pj_nil))) pa_nil))))
      (pss_one (ps_ost (pv 0) (pe_c D_copied hr (by decide) (by rfl) (pa_cons (pv 1) pa_nil)) rfl))), ?_⟩
    have z1 := t1.sz
    have h0 : (Str.empty ++ ("nothing is called " : Str)).length ≤ 1000 := by decide +kernel
    refine ⟨_, rfl, _, rfl, ?_, _, rfl, d1, t1.pw, t1.te, d1.shown, rfl, ?_, a, C, _, rfl, (by show 1 ≤ 1000; decide), oc, ha, ?_⟩
    · simp only [len_app, sizeLine_eq]
      try simp only [len_app] at *
      omega
    · simp only [len_app, sizeLine_eq]
      try simp only [len_app] at *
      omega
    · exact ⟨_, rfl, x1, d1, rfl, t1.tl, t1.pw, fun y H1 s1 p1 => ⟨_, rfl, a, C, rfl, oc, no, .inl ⟨s1 _ _ ha, fun dx n ne => q y dx H1 s1 p1 n ne⟩⟩⟩
theorem ok_Nothing {f : Addr} {fd : FuncData} (F : Fun K "__init__" "Nothing.__init__" s_Nothing_init f fd) (T : Tb K mg CE) : FnG P w K mg base CX0 3 f fd ["self"] (spErrW0 K C) := by
  refine F.okG sc_Nothing_init (fun vs H Q E h => ?_) (fun cdv A outer s H vs Q E quiet hr h => ?_)
  · obtain ⟨a, rfl, _⟩ := h
    rfl
  · obtain ⟨a, rfl, ha, oc, q⟩ := h
    refine ⟨_, (pss_one (ps_expr (pe_baseinit (by rfl) T.bE T.bR T.bV (pa_cons (pv 0) (pa_cons pe_str pa_nil))))), ?_⟩
    exact ⟨_, rfl, a, C, _, rfl, (by show 1 ≤ 1000; decide), oc, ha, q⟩
theorem ok_TooMany {f : Addr} {fd : FuncData} (F : Fun K "__init__" "TooMany.__init__" s_TooMany_init f fd) (T : Tb K mg CE) (sys : SysIn base) (D_copied : Df P w K mg base 2 "copied" spCopyW) : FnG P w K mg base CX0 3 f fd ["self", "what", "most"] (spErrW2 K C "what" "most") := by
  refine F.okG sc_TooMany_init (fun vs H Q E h => ?_) (fun cdv A outer s H vs Q E quiet hr h => ?_)
  · obtain ⟨a, x1, x2, d1, d2, rfl, _⟩ := h
    rfl
  · obtain ⟨a, x1, x2, d1, d2, rfl, ha, oc, n1, n2, t1, t2, q⟩ := h
    refine ⟨_, (pss_cons (ps_expr (pe_baseinit (by rfl) T.bE T.bR T.bV (pa_cons (pv 0) (pa_cons (pe_joinedT (pj_cons pe_str (pj_cons (pe_fmtW sys quiet hr (pv 1)) (pj_cons pe_str (pj_cons (pe_fmtW sys quiet hr (pv 2)) pj_nil))))) pa_nil))))
      (pss_cons (ps_ost (pv 0) (pe_c D_copied hr (by decide) (by rfl) (pa_cons (pv 1) pa_nil)) rfl)
      (pss_one (ps_ost (pv 0) (pe_c D_copied hr (by decide) (by rfl) (pa_cons (pv 2) pa_nil)) rfl)))), ?_⟩
    have z1 := t1.sz
    have z2 := t2.sz
    have h0 : (Str.empty ++ ("too many: " : Str)).length ≤ 1000 := by decide +kernel
    have h1 : (", of which there can be " : Str).length ≤ 1000 := by decide +kernel
    refine ⟨_, rfl, _, rfl, ?_, _, rfl, d1, t1.pw, t1.te, d1.shown, rfl, ?_, _, rfl, ?_, _, rfl, d2, t2.pw, t2.te, d2.shown, rfl, ?_, a, C, _, rfl, (by show 1 ≤ 1000; decide), oc, ha, ?_⟩
    · simp only [len_app, sizeLine_eq]
      try simp only [len_app] at *
      omega
    · simp only [len_app, sizeLine_eq]
      try simp only [len_app] at *
      omega
    · simp only [len_app, sizeLine_eq]
      try simp only [len_app] at *
      omega
    · simp only [len_app, sizeLine_eq]
      try simp only [len_app] at *
      omega
    · refine ⟨_, rfl, x1, d1, rfl, t1.tl, t1.pw, fun y1 H1 s1 p1 => ⟨_, rfl, a, C, rfl, oc, n1, .inl ⟨s1 _ _ ha, fun dx n ne => ?_⟩⟩⟩
      have tt := two_at (a := a) (o1 := exd dx [("what", y1)]) (o2 := exo a C (some dx)) s1 n
      have t2' := t2.but tt ha
      have p1' := p1.but (H2 := upd (upd H1 dx (exd dx [("what", y1)])) a (exo a C (some dx))) (two_at (Same.refl H1) n) (s1 _ _ ha)
      refine ⟨_, rfl, x2, d2, rfl, t2'.tl, t2'.pw, fun y2 H2 s2 p2 => ⟨_, rfl, a, C, rfl, oc, n2, .inr ⟨dx, [("what", y1)], s2 _ _ upd_same, s2 _ _ (by rw [upd_ne ne]; exact upd_same), (by show 1 ≤ 900; decide), ?_⟩⟩⟩
      exact q y1 y2 dx H2 (fun b o e nb => s2 _ _ (tt b o e nb)) (p1'.same s2) p2 (same_none s1 n) ne (s2 _ _ (by rw [upd_ne ne]; exact upd_same)) (s2 _ _ upd_same)
theorem ok_BadText {f : Addr} {fd : FuncData} (F : Fun K "__init__" "BadText.__init__" s_BadText_init f fd) (T : Tb K mg CE) (sys : SysIn base) (D_copied : Df P w K mg base 2 "copied" spCopyW) : FnG P w K mg base CX0 3 f fd ["self", "line", "word"] (spErrW2 K C "line" "word") := by
  refine F.okG sc_BadText_init (fun vs H Q E h => ?_) (fun cdv A outer s H vs Q E quiet hr h => ?_)
  · obtain ⟨a, x1, x2, d1, d2, rfl, _⟩ := h
    rfl
  · obtain ⟨a, x1, x2, d1, d2, rfl, ha, oc, n1, n2, t1, t2, q⟩ := h
    refine ⟨_, (pss_cons (ps_expr (pe_baseinit (by rfl) T.bE T.bR T.bV (pa_cons (pv 0) (pa_cons (pe_joinedT (pj_cons pe_str (pj_cons (pe_fmtW sys quiet hr (pv 1)) (pj_cons pe_str (pj_cons (pe_fmtW sys quiet hr (pv 2)) (pj_cons pe_str pj_nil)))))) pa_nil))))
      (pss_cons (ps_ost (pv 0) (pe_c D_copied hr (by decide) (by rfl) (pa_cons (pv 1) pa_nil)) rfl)
      (pss_one (ps_ost (pv 0) (pe_c D_copied hr (by decide) (by rfl) (pa_cons (pv 2) pa_nil)) rfl)))), ?_⟩
    have z1 := t1.sz
    have z2 := t2.sz
    have h0 : (Str.empty ++ ("line " : Str)).length ≤ 1000 := by decide +kernel
    have h1 : (", word " : Str).length ≤ 1000 := by decide +kernel
    have h2 : (" cannot stand, or lacks" : Str).length ≤ 1000 := by decide +kernel
    refine ⟨_, rfl, _, rfl, ?_, _, rfl, d1, t1.pw, t1.te, d1.shown, rfl, ?_, _, rfl, ?_, _, rfl, d2, t2.pw, t2.te, d2.shown, rfl, ?_, _, rfl, ?_, a, C, _, rfl, (by show 1 ≤ 1000; decide), oc, ha, ?_⟩
    · simp only [len_app, sizeLine_eq]
      try simp only [len_app] at *
      omega
    · simp only [len_app, sizeLine_eq]
      try simp only [len_app] at *
      omega
    · simp only [len_app, sizeLine_eq]
      try simp only [len_app] at *
      omega
    · simp only [len_app, sizeLine_eq]
      try simp only [len_app] at *
      omega
    · simp only [len_app, sizeLine_eq]
      try simp only [len_app] at *
      omega
    · refine ⟨_, rfl, x1, d1, rfl, t1.tl, t1.pw, fun y1 H1 s1 p1 => ⟨_, rfl, a, C, rfl, oc, n1, .inl ⟨s1 _ _ ha, fun dx n ne => ?_⟩⟩⟩
      have tt := two_at (a := a) (o1 := exd dx [("line", y1)]) (o2 := exo a C (some dx)) s1 n
      have t2' := t2.but tt ha
      have p1' := p1.but (H2 := upd (upd H1 dx (exd dx [("line", y1)])) a (exo a C (some dx))) (two_at (Same.refl H1) n) (s1 _ _ ha)
      refine ⟨_, rfl, x2, d2, rfl, t2'.tl, t2'.pw, fun y2 H2 s2 p2 => ⟨_, rfl, a, C, rfl, oc, n2, .inr ⟨dx, [("line", y1)], s2 _ _ upd_same, s2 _ _ (by rw [upd_ne ne]; exact upd_same), (by show 1 ≤ 900; decide), ?_⟩⟩⟩
      exact q y1 y2 dx H2 (fun b o e nb => s2 _ _ (tt b o e nb)) (p1'.same s2) p2 (same_none s1 n) ne (s2 _ _ (by rw [upd_ne ne]; exact upd_same)) (s2 _ _ upd_same)
theorem ok_BadCommand {f : Addr} {fd : FuncData} (F : Fun K "__init__" "BadCommand.__init__" s_BadCommand_init f fd) (T : Tb K mg CE) (sys : SysIn base) (D_copied : Df P w K mg base 2 "copied" spCopyW) : FnG P w K mg base CX0 3 f fd ["self", "word"] (spErrW K C "word") := by
  refine F.okG sc_BadCommand_init (fun vs H Q E h => ?_) (fun cdv A outer s H vs Q E quiet hr h => ?_)
  · obtain ⟨a, x, d, rfl, _⟩ := h
    rfl
  · obtain ⟨a, x1, d1, rfl, ha, oc, no, t1, q⟩ := h
    refine ⟨_, (pss_cons (ps_expr (pe_baseinit (by rfl) T.bE T.bR T.bV (pa_cons (pv 0) (pa_cons (pe_joinedT (pj_cons pe_str (pj_cons (pe_fmtW sys quiet hr (pv 1)) (pj_cons pe_str pj_nil)))) pa_nil))))
      (pss_one (ps_ost (pv 0) (pe_c D_copied hr (by decide) (by rfl) (pa_cons (pv 1) pa_nil)) rfl))), ?_⟩
    have z1 := t1.sz
    have h0 : (Str.empty ++ ("word " : Str)).length ≤ 1000 := by decide +kernel
    have h1 : (" cannot stand, or lacks" : Str).length ≤ 1000 := by decide +kernel
    refine ⟨_, rfl, _, rfl, ?_, _, rfl, d1, t1.pw, t1.te, d1.shown, rfl, ?_, _, rfl, ?_, a, C, _, rfl, (by show 1 ≤ 1000; decide), oc, ha, ?_⟩
    · simp only [len_app, sizeLine_eq]
      try simp only [len_app] at *
      omega
    · simp only [len_app, sizeLine_eq]
      try simp only [len_app] at *
      omega
    · simp only [len_app, sizeLine_eq]
      try simp only [len_app] at *
      omega
    · exact ⟨_, rfl, x1, d1, rfl, t1.tl, t1.pw, fun y H1 s1 p1 => ⟨_, rfl, a, C, rfl, oc, no, .inl ⟨s1 _ _ ha, fun dx n ne => q y dx H1 s1 p1 n ne⟩⟩⟩
end
end V8

set_option Elab.async false
set_option linter.all false
set_option maxRecDepth 100000
set_option maxHeartbeats 8000000
/-! Errors made and kept: their fields. -/
namespace V8
open PySem PySem.Spec PyProof.Rows L2
section
variable (P : Program) (w : World) (K : PySem.W.Frag) (mg : Str → Option Value) (base : Heap)
structure Er1 (x fld : Str) (C : Addr) : Prop where
  oc : OexC K C
  xc : ExcC K C
  no : PySem.W.findIn K (.ref C) fld = some none
  hm : mg x = some (.ref C)
  ex : ∃ (fI : Addr) (fd : FuncData) (ps : List Str), PySem.W.findIn K (.ref C) "__init__" = some (some (.ref fI)) ∧ PySem.W.typeIn K (.ref fI) = some (.type "function") ∧ FnG P w K mg base CX0 3 fI fd ps (spErrW K C fld) ∧ Binds K fd ps [] ∧ KBn K fd ps 1 [fld] (fun us ws => us ++ ws) (fun vs zs => vs ++ zs)
structure Er2 (x f1 f2 : Str) (C : Addr) : Prop where
  oc : OexC K C
  xc : ExcC K C
  n1 : PySem.W.findIn K (.ref C) f1 = some none
  n2 : PySem.W.findIn K (.ref C) f2 = some none
  hm : mg x = some (.ref C)
  ex : ∃ (fI : Addr) (fd : FuncData) (ps : List Str), PySem.W.findIn K (.ref C) "__init__" = some (some (.ref fI)) ∧ PySem.W.typeIn K (.ref fI) = some (.type "function") ∧ FnG P w K mg base CX0 3 fI fd ps (spErrW2 K C f1 f2) ∧ Binds K fd ps [] ∧ KBn K fd ps 1 [f2, f1] (fun us ws => us ++ ws.reverse) (fun vs zs => vs ++ zs.reverse)
structure Er0 (x : Str) (C : Addr) : Prop where
  oc : OexC K C
  xc : ExcC K C
  hm : mg x = some (.ref C)
  ex : ∃ (fI : Addr) (fd : FuncData) (ps : List Str), PySem.W.findIn K (.ref C) "__init__" = some (some (.ref fI)) ∧ PySem.W.typeIn K (.ref fI) = some (.type "function") ∧ FnG P w K mg base CX0 3 fI fd ps (spErrW0 K C) ∧ Binds K fd ps []
end
def End1 (K : PySem.W.Frag) (C : Addr) (fld : Str) (x : V) (H1 : Hp) (Q : VK) : Prop := ∃ d, Th1 H1 x d ∧ ∀ a y H2, H1 a = none → Same H1 H2 → KeptX K H2 a C [(fld, y)] → PyW H2 y d → Q (.ref a) H2
def End2 (K : PySem.W.Frag) (C : Addr) (f1 f2 : Str) (x1 x2 : V) (H1 : Hp) (Q : VK) : Prop := ∃ d1 d2, Th1 H1 x1 d1 ∧ Th1 H1 x2 d2 ∧ ∀ a y1 y2 H2, H1 a = none → Same H1 H2 → KeptX K H2 a C [(f2, y2), (f1, y1)] → PyW H2 y1 d1 → PyW H2 y2 d2 → Q (.ref a) H2
def tE1 (K : PySem.W.Frag) (C : Addr) (fld : Str) (ta : TA) : TE := fun σ H Q => ta σ H fun vs H1 => ∃ x, vs = [x] ∧ End1 K C fld x H1 Q
def tE2 (K : PySem.W.Frag) (C : Addr) (f1 f2 : Str) (ta : TA) : TE := fun σ H Q => ta σ H fun vs H1 => ∃ x1 x2, vs = [x1, x2] ∧ End2 K C f1 f2 x1 x2 H1 Q
def tE2K (K : PySem.W.Frag) (C : Addr) (f1 f2 : Str) (ta : TA) : TE := fun σ H Q => ta σ H fun vs H1 => ∃ x1 x2, vs = [x2, x1] ∧ End2 K C f1 f2 x1 x2 H1 Q
def tE0 (C : Addr) : TE := fun σ H Q => ∀ a H2, H a = none → Same H H2 → H2 a = some (CaughtO (.ref C) none a) → Q (.ref a) H2
theorem end1 {K : PySem.W.Frag} {C : Addr} {fld : Str} {x : V} {H1 : Hp} {Q : VK} {E : XK} (oc : OexC K C) (xc : ExcC K C) (no : PySem.W.findIn K (.ref C) fld = some none) (h : End1 K C fld x H1 Q) (a : Addr) (na : H1 a = none) : spErrW K C fld [.ref a, x] (upd H1 a (exo a C none)) (EndE C a Q) E := by
  obtain ⟨d, t, q⟩ := h
  have s0 : Same H1 (upd H1 a (exo a C none)) := same_put (s := Same.refl H1) na
  refine ⟨a, x, d, rfl, upd_same, oc, no, t.same s0, fun y dx H2 s2 p2 ndx ne => ⟨rfl, .inl ⟨dx, [(fld, y)], upd_same, by rw [upd_ne ne]; exact upd_same, ?_⟩⟩⟩
  have ha2 : H2 a = some (exo a C none) := s2 _ _ upd_same
  refine q a y _ na (fun b o e => ?_) ⟨⟨dx, by rw [upd_ne (Ne.symm ne)]; exact upd_same, upd_same⟩, xc⟩ (p2.keep fun b o e k => ?_)
  · have nb : b ≠ a := ne_of_none e na
    have e2 : H2 b = some o := s2 _ _ (s0 _ _ e)
    have nd : b ≠ dx := ne_of_none e2 ndx
    rw [upd_ne nd, upd_ne nb, upd_ne nb, upd_ne nd]
    exact e2
  · have nd : b ≠ dx := ne_of_none e ndx
    have nb : b ≠ a := fun z => by
      rw [z, ha2] at e
      cases e
      rcases k with ⟨xs, k⟩ | ⟨xs, k⟩ | ⟨xs, k⟩ <;> cases k
    rw [upd_ne nd, upd_ne nb, upd_ne nb, upd_ne nd]
    exact e
theorem end2 {K : PySem.W.Frag} {C : Addr} {f1 f2 : Str} {x1 x2 : V} {H1 : Hp} {Q : VK} {E : XK} (oc : OexC K C) (xc : ExcC K C) (n1 : PySem.W.findIn K (.ref C) f1 = some none) (n2 : PySem.W.findIn K (.ref C) f2 = some none) (h : End2 K C f1 f2 x1 x2 H1 Q) (a : Addr) (na : H1 a = none) : spErrW2 K C f1 f2 [.ref a, x1, x2] (upd H1 a (exo a C none)) (EndE C a Q) E := by
  obtain ⟨d1, d2, t1, t2, q⟩ := h
  have s0 : Same H1 (upd H1 a (exo a C none)) := same_put (s := Same.refl H1) na
  refine ⟨a, x1, x2, d1, d2, rfl, upd_same, oc, n1, n2, t1.same s0, t2.same s0, fun y1 y2 dx H2 s2 p1 p2 ndx ne e1 e2 => ⟨rfl, .inl ⟨dx, [(f2, y2), (f1, y1)], by rw [upd_ne (Ne.symm ne)]; exact e2, upd_same, ?_⟩⟩⟩
  have kp : ∀ b o, H2 b = some o → ((∃ xs, o = .tup xs) ∨ (∃ xs, o = .lst xs) ∨ ∃ xs, o = .dK xs) → upd (upd (upd H2 dx (exd dx [(f2, y2), (f1, y1)])) a (CaughtO (.ref C) (some dx) a)) dx (.xd [(f2, y2), (f1, y1)]) b = some o := fun b o e k => by
    have nd : b ≠ dx := fun z => by
      rw [z, e1] at e
      cases e
      rcases k with ⟨xs, k⟩ | ⟨xs, k⟩ | ⟨xs, k⟩ <;> cases k
    have nb : b ≠ a := fun z => by
      rw [z, e2] at e
      cases e
      rcases k with ⟨xs, k⟩ | ⟨xs, k⟩ | ⟨xs, k⟩ <;> cases k
    rw [upd_ne nd, upd_ne nb, upd_ne nd]
    exact e
  refine q a y1 y2 _ na (fun b o e => ?_) ⟨⟨dx, by rw [upd_ne (Ne.symm ne)]; exact upd_same, upd_same⟩, xc⟩ (p1.keep kp) (p2.keep kp)
  have nb : b ≠ a := ne_of_none e na
  have nd : b ≠ dx := ne_of_none (s0 _ _ e) ndx
  rw [upd_ne nd, upd_ne nb, upd_ne nd]
  exact s2 _ _ (s0 _ _ e) nb
section
variable {X : Cx} {j : Nat} {x fld f1 f2 : Str} {C : Addr} {p pos : Pos} {e e' : Expr} {es : List Expr} {ta tk : TA} {kws : List Keyword}
theorem pe_e1 (c : Er1 X.prog X.w X.K X.mg X.base x fld C) (g : Quiet X.A) (r : Room j X.A) (hj : 4 ≤ j) (hg : Gl X x) (ha : PA X (e :: es) ta)
    (hdb : (x == ("__debug__" : Str)) = false := by decide) (he : starEach (e :: es) X.env = (false, eval e X.env) :: starEach es X.env := by rfl) (hpl : (backTo pos (starEach es X.env)).any (·.1) = false := by rfl) : PE X (.Call (.Name x p) (e :: es) [] pos) (tE1 X.K C fld ta) := by
  obtain ⟨fI, fd, ps, iC, tI, Fn, b, kb⟩ := c.ex
  refine ⟨fun pins s σ H Q I h => wpAny_Call_Name_kw (ld_glob I hg c.hm ?_ hdb)⟩
  refine PySem.W.callWith_K (h₀ := X.base) I.ok.mod.kin c.oc.kC (thn (ha.run pos pins s σ H _ I h) fun us s1 z => ?_) he hpl
  obtain ⟨xs, H1, J, v, xx, rfl, q⟩ := z
  exact ⟨J.kIn, er_core c.oc iC tI Fn g (r.mono hj) b pass0 J v (by show 1 ≤ 1000; decide) fun a na => end1 c.oc c.xc c.no q a na⟩
theorem pe_e1K (c : Er1 X.prog X.w X.K X.mg X.base x fld C) (g : Quiet X.A) (r : Room j X.A) (hj : 4 ≤ j) (hg : Gl X x) (hkw : PK X kws tk) (hall : (backToKw pos (keywordEach kws X.env)).all (·.1.isSome) = true := by rfl) (hks : (backToKw pos (keywordEach kws X.env)).filterMap (·.1) = [fld] := by rfl) (hdb : (x == ("__debug__" : Str)) = false := by decide)
    (hpl : ((backTo pos (starEach [] X.env)).any (·.1) || (backToKw pos (keywordEach kws X.env)).any (·.1.isNone)) = false := by rfl) : PE X (.Call (.Name x p) [] kws pos) (tE1 X.K C fld tk) := by
  obtain ⟨fI, fd, ps, iC, tI, Fn, b, kb⟩ := c.ex
  refine ⟨fun pins s σ H Q I h => wpAny_Call_Name_kw (ld_glob I hg c.hm ?_ hdb)⟩
  refine PySem.W.callWith_KW0 (h₀ := X.base) I.ok.mod.kin c.oc.kC hall ?_ hpl
  refine thn (hkw.run pos pins s σ H _ I h) fun ws s2 ⟨zs, H2, I2, rz, xx, ez, q2⟩ => ⟨I2.kIn, ?_⟩
  subst ez
  rw [hks]
  exact er_coreK c.oc iC tI Fn g (r.mono hj) kb pass0 I2 rz rfl fun a na => end1 c.oc c.xc c.no q2 a na
theorem pe_e2 (c : Er2 X.prog X.w X.K X.mg X.base x f1 f2 C) (g : Quiet X.A) (r : Room j X.A) (hj : 4 ≤ j) (hg : Gl X x) (ha : PA X (e :: es) ta)
    (hdb : (x == ("__debug__" : Str)) = false := by decide) (he : starEach (e :: es) X.env = (false, eval e X.env) :: starEach es X.env := by rfl) (hpl : (backTo pos (starEach es X.env)).any (·.1) = false := by rfl) : PE X (.Call (.Name x p) (e :: es) [] pos) (tE2 X.K C f1 f2 ta) := by
  obtain ⟨fI, fd, ps, iC, tI, Fn, b, kb⟩ := c.ex
  refine ⟨fun pins s σ H Q I h => wpAny_Call_Name_kw (ld_glob I hg c.hm ?_ hdb)⟩
  refine PySem.W.callWith_K (h₀ := X.base) I.ok.mod.kin c.oc.kC (thn (ha.run pos pins s σ H _ I h) fun us s1 z => ?_) he hpl
  obtain ⟨xs, H1, J, v, x1, x2, rfl, q⟩ := z
  exact ⟨J.kIn, er_core c.oc iC tI Fn g (r.mono hj) b pass0 J v (by show 2 ≤ 1000; decide) fun a na => end2 c.oc c.xc c.n1 c.n2 q a na⟩
theorem pe_e2K (c : Er2 X.prog X.w X.K X.mg X.base x f1 f2 C) (g : Quiet X.A) (r : Room j X.A) (hj : 4 ≤ j) (hg : Gl X x) (hkw : PK X kws tk) (hall : (backToKw pos (keywordEach kws X.env)).all (·.1.isSome) = true := by rfl) (hks : (backToKw pos (keywordEach kws X.env)).filterMap (·.1) = [f2, f1] := by rfl) (hdb : (x == ("__debug__" : Str)) = false := by decide)
    (hpl : ((backTo pos (starEach [] X.env)).any (·.1) || (backToKw pos (keywordEach kws X.env)).any (·.1.isNone)) = false := by rfl) : PE X (.Call (.Name x p) [] kws pos) (tE2K X.K C f1 f2 tk) := by
  obtain ⟨fI, fd, ps, iC, tI, Fn, b, kb⟩ := c.ex
  refine ⟨fun pins s σ H Q I h => wpAny_Call_Name_kw (ld_glob I hg c.hm ?_ hdb)⟩
  refine PySem.W.callWith_KW0 (h₀ := X.base) I.ok.mod.kin c.oc.kC hall ?_ hpl
  refine thn (hkw.run pos pins s σ H _ I h) fun ws s2 ⟨zs, H2, I2, rz, x1, x2, ez, q2⟩ => ⟨I2.kIn, ?_⟩
  subst ez
  rw [hks]
  exact er_coreK c.oc iC tI Fn g (r.mono hj) kb pass0 I2 rz rfl fun a na => end2 c.oc c.xc c.n1 c.n2 q2 a na
theorem pe_e0 (c : Er0 X.prog X.w X.K X.mg X.base x C) (g : Quiet X.A) (r : Room j X.A) (hj : 4 ≤ j) (hg : Gl X x) (hdb : (x == ("__debug__" : Str)) = false := by decide) : PE X (.Call (.Name x p) [] [] pos) (tE0 C) := by
  obtain ⟨fI, fd, ps, iC, tI, Fn, b⟩ := c.ex
  refine ⟨fun pins s σ H Q I h => wpAny_Call_Name_kw (ld_glob I hg c.hm ?_ hdb)⟩
  exact PySem.W.callWith_K0 I.kIn c.oc.kC (er_core (us := []) (xs := []) c.oc iC tI Fn g (r.mono hj) b pass0 I .nil (by decide) fun a na => ⟨a, rfl, upd_same, c.oc, rfl, .inr ⟨upd_same, h a _ na (by rw [upd_upd]; exact same_put (s := Same.refl H) na) upd_same⟩⟩)
end
/-! isinstance of such an error -/
structure KeptN (K : PySem.W.Frag) (H : Hp) (a D : Addr) : Prop where
  at_ : H a = some (CaughtO (.ref D) none a)
  cl : ExcC K D
/-- an error of the class D -/
def ErrAt (K : PySem.W.Frag) (H : Hp) (a D : Addr) : Prop := (∃ fs, KeptX K H a D fs) ∨ KeptN K H a D
def rIsE (K : PySem.W.Frag) : List V → Hp → VK → Prop := fun xs H Q => ∃ (a D : Addr) (c : V) (cv : Value) (b : Bool), xs = [.ref a, c] ∧ ErrAt K H a D ∧ (∀ u, RelV c u → u = cv) ∧ PySem.W.kitOne K (.ref D) cv = some b ∧ Q (.bl b) H
theorem call_isE {X : Cx} : CallR X (.builtin "isinstance") (rIsE X.K) := by
  intro pins s σ H xs us Q I r h
  obtain ⟨a, D, c, cv, b, rfl, k, hc, e, q⟩ := h
  rcases k with ⟨fs, k⟩ | k
  · exact call_isK pins s σ H _ us Q I r ⟨a, D, fs, c, cv, b, rfl, k, hc, e, q⟩
  · match us, r with
    | [u1, u2], .cons r1 (.cons r2 .nil) =>
      obtain rfl : u1 = Value.ref a := r1
      rw [hc _ r2]
      obtain ⟨⟨oe, vs, q1, ⟨q2, q3⟩, q4⟩, _, _⟩ := I.hok a _ k.at_
      have J : PySem.W.InstAt s.heap a oe D none := ⟨q1, q2, by unfold PySem.W.notCls; rw [q4], by rw [q3]; trivial⟩
      have C := k.cl
      obtain ⟨cd, e1, _⟩ := PySem.W.any_some C.hd
      exact PySem.W.kia_one (PySem.W.kitx_exc (by rw [e1]; rfl) C.hg C.hk C.hs C.ha C.hn C.ht C.hm) I.kIn J e (fun z => nomatch z) fun tk => ⟨.bl b, H, I.tok _, rfl, q⟩
theorem ErrAt.same {K : PySem.W.Frag} {H H2 : Hp} {a D : Addr} (e : ErrAt K H a D) (s : Same H H2) : ErrAt K H2 a D := by
  rcases e with ⟨fs, ⟨d, h1, h2⟩, c⟩ | ⟨h, c⟩
  · exact .inl ⟨fs, ⟨d, s _ _ h1, s _ _ h2⟩, c⟩
  · exact .inr ⟨s _ _ h, c⟩
end V8

set_option Elab.async false
set_option linter.all false
set_option maxRecDepth 100000
set_option maxHeartbeats 16000000
/-! The classes, their fields. -/
namespace V8
open PySem PySem.Spec PyProof.Rows L2
abbrev s__law_kinds : Stmt := topS 38
abbrev n__law_kinds : List Str := ["_law_error"]
theorem sc__law_kinds : FnScope ["_law_error"] ["_law_error"] (defScope s__law_kinds) := ⟨rfl, rfl, rfl, by decide +kernel, rfl, by decide +kernel, by decide +kernel⟩
abbrev s__law_single_fields : Stmt := topS 36
abbrev n__law_single_fields : List Str := ["_law_some"]
theorem sc__law_single_fields : FnScope ["_law_some"] ["_law_some"] (defScope s__law_single_fields) := ⟨rfl, rfl, rfl, by decide +kernel, rfl, by decide +kernel, by decide +kernel⟩
abbrev s__law_double_fields : Stmt := topS 37
abbrev n__law_double_fields : List Str := ["_law_some"]
theorem sc__law_double_fields : FnScope ["_law_some"] ["_law_some"] (defScope s__law_double_fields) := ⟨rfl, rfl, rfl, by decide +kernel, rfl, by decide +kernel, by decide +kernel⟩
abbrev s__law_singles : Stmt := topS 34
abbrev n__law_singles : List Str := ["_law_thing_here", "_law_is_named"]
theorem sc__law_singles : FnScope ["_law_thing_here", "_law_is_named"] ["_law_thing_here", "_law_is_named"] (defScope s__law_singles) := ⟨rfl, rfl, rfl, by decide +kernel, rfl, by decide +kernel, by decide +kernel⟩
abbrev s__law_doubles : Stmt := topS 35
abbrev n__law_doubles : List Str := ["_law_thing_here", "_law_more", "_law_is_named"]
theorem sc__law_doubles : FnScope ["_law_thing_here", "_law_more", "_law_is_named"] ["_law_thing_here", "_law_more", "_law_is_named"] (defScope s__law_doubles) := ⟨rfl, rfl, rfl, by decide +kernel, rfl, by decide +kernel, by decide +kernel⟩
def fnm (i : Nat) : Str := (["value", "value", "value", "value", "value", "letter", "letter", "letter", "part", "part", "at", "at", "at", "at", "at", "text", "text", "name", "word"] : List Str).getD i ""
def fn1 (i : Nat) : Str := (["one", "one", "what", "line"] : List Str).getD i ""
def fn2 (i : Nat) : Str := (["other", "other", "most", "word"] : List Str).getD i ""
/-- names, and the classes of the errors by their number -/
structure Tk (K : PySem.W.Frag) (mg : Str → Option Value) (Cz : Nat → Addr) (CE : Addr) : Prop extends Tq mg where
  gBadLetter : GV mg "BadLetter" (.ref (Cz 0))
  gBadWord : GV mg "BadWord" (.ref (Cz 1))
  gBadNumber : GV mg "BadNumber" (.ref (Cz 2))
  gBadCode : GV mg "BadCode" (.ref (Cz 3))
  gBadName : GV mg "BadName" (.ref (Cz 4))
  gBadImage : GV mg "BadImage" (.ref (Cz 5))
  gNoSign : GV mg "NoSign" (.ref (Cz 6))
  gUnlike : GV mg "Unlike" (.ref (Cz 7))
  gBadTable : GV mg "BadTable" (.ref (Cz 8))
  gBadRight : GV mg "BadRight" (.ref (Cz 9))
  gUnread : GV mg "Unread" (.ref (Cz 10))
  gBarred : GV mg "Barred" (.ref (Cz 11))
  gBadList : GV mg "BadList" (.ref (Cz 12))
  gBadRow : GV mg "BadRow" (.ref (Cz 13))
  gBadFixer : GV mg "BadFixer" (.ref (Cz 14))
  gNoOrigin : GV mg "NoOrigin" (.ref (Cz 15))
  gRing : GV mg "Ring" (.ref (Cz 16))
  gNoName : GV mg "NoName" (.ref (Cz 17))
  gBadCommand : GV mg "BadCommand" (.ref (Cz 18))
  gMerging : GV mg "Merging" (.ref (Cz 19))
  gSeveral : GV mg "Several" (.ref (Cz 20))
  gTooMany : GV mg "TooMany" (.ref (Cz 21))
  gBadText : GV mg "BadText" (.ref (Cz 22))
  gNoImage : GV mg "NoImage" (.ref (Cz 23))
  gNothing : GV mg "Nothing" (.ref (Cz 24))
  gRepairError : GV mg "RepairError" (.ref CE)
  ValueError : mg "ValueError" = none
  kit : ∀ i j, i < 25 → j < 25 → PySem.W.kitOne K (.ref (Cz i)) (.ref (Cz j)) = some (decide (i = j))
  kitE : ∀ i, i < 25 → PySem.W.kitOne K (.ref (Cz i)) (.ref CE) = some true
  kitV : ∀ i, i < 25 → PySem.W.kitOne K (.ref (Cz i)) (.type "ValueError") = some true
  nof : ∀ i, i < 19 → PySem.W.findIn K (.ref (Cz i)) (fnm i) = some none
  nf1 : ∀ i, i < 4 → PySem.W.findIn K (.ref (Cz (19 + i))) (fn1 i) = some none
  nf2 : ∀ i, i < 4 → PySem.W.findIn K (.ref (Cz (19 + i))) (fn2 i) = some none
/-- the first n errors of one field, made -/
structure Built (K : PySem.W.Frag) (Cz : Nat → Addr) (d : PyData) (n : Nat) (as : List Addr) (ys : List V) (H : Hp) : Prop where
  la : as.length = n
  ly : ys.length = n
  at_ : ∀ (i : Nat) (a : Addr) (y : V), as[i]? = some a → ys[i]? = some y → KeptX K H a (Cz i) [(fnm i, y)] ∧ PyW H y d
theorem kept_same {K : PySem.W.Frag} {H H2 : Hp} {a D : Addr} {fs : List (Str × V)} (k : KeptX K H a D fs) (s : Same H H2) : KeptX K H2 a D fs := by
  obtain ⟨⟨d, h1, h2⟩, c⟩ := k
  exact ⟨⟨d, s _ _ h1, s _ _ h2⟩, c⟩
theorem look2 {f1 f2 : Str} {y z : V} (h : (f1 == f2) = false) : List.lookup f1 [(f2, z), (f1, y)] = some y := by simp [List.lookup, h]
theorem look1 {f : Str} {z : V} {r : List (Str × V)} : List.lookup f ((f, z) :: r) = some z := by simp [List.lookup]
theorem Built.same {K : PySem.W.Frag} {Cz : Nat → Addr} {d : PyData} {n : Nat} {as : List Addr} {ys : List V} {H H2 : Hp} (b : Built K Cz d n as ys H) (s : Same H H2) : Built K Cz d n as ys H2 := ⟨b.la, b.ly, fun i a y h1 h2 => ⟨kept_same (b.at_ i a y h1 h2).1 s, (b.at_ i a y h1 h2).2.same s⟩⟩
theorem Built.snoc {K : PySem.W.Frag} {Cz : Nat → Addr} {d : PyData} {n : Nat} {as : List Addr} {ys : List V} {H : Hp} {a : Addr} {y : V} (b : Built K Cz d n as ys H) (k : KeptX K H a (Cz n) [(fnm n, y)]) (p : PyW H y d) : Built K Cz d (n + 1) (as ++ [a]) (ys ++ [y]) H := by
  refine ⟨by rw [List.length_append, b.la]; rfl, by rw [List.length_append, b.ly]; rfl, fun i a' y' h1 h2 => ?_⟩
  by_cases h : i < n
  · rw [List.getElem?_append_left (by rw [b.la]; exact h)] at h1
    rw [List.getElem?_append_left (by rw [b.ly]; exact h)] at h2
    exact b.at_ i a' y' h1 h2
  · have hi : i < (as ++ [a]).length := (List.getElem?_eq_some_iff.mp h1).1
    rw [List.length_append, b.la] at hi
    have e : i = n := by
      have : i < n + 1 := hi
      omega
    subst e
    rw [List.getElem?_append_right (by rw [b.la]; exact Nat.le_refl _), b.la, Nat.sub_self] at h1
    rw [List.getElem?_append_right (by rw [b.ly]; exact Nat.le_refl _), b.ly, Nat.sub_self] at h2
    cases h1
    cases h2
    exact ⟨k, p⟩
theorem e1_step {K : PySem.W.Frag} {Cz : Nat → Addr} {d : PyData} {n : Nat} {as : List Addr} {ys : List V} {H H0 : Hp} {x : V} {Q : VK} (t : Th1 H0 x d) (s0 : Same H0 H) (b : Built K Cz d n as ys H)
    (q : ∀ a y H2, Same H0 H2 → Built K Cz d (n + 1) (as ++ [a]) (ys ++ [y]) H2 → Q (.ref a) H2) : End1 K (Cz n) (fnm n) x H Q :=
  ⟨d, t.same s0, fun a y H2 na s2 k p => q a y H2 (fun b o e => s2 _ _ (s0 _ _ e)) ((b.same s2).snoc k p)⟩
/-- .. and the n errors of two fields -/
structure Built2 (K : PySem.W.Frag) (Cz : Nat → Addr) (d1 d2 : PyData) (n : Nat) (as : List Addr) (ys zs : List V) (H : Hp) : Prop where
  la : as.length = n
  ly : ys.length = n
  lz : zs.length = n
  at_ : ∀ (i : Nat) (a : Addr) (y z : V), as[i]? = some a → ys[i]? = some y → zs[i]? = some z → KeptX K H a (Cz (19 + i)) [(fn2 i, z), (fn1 i, y)] ∧ PyW H y d1 ∧ PyW H z d2
theorem Built2.same {K : PySem.W.Frag} {Cz : Nat → Addr} {d1 d2 : PyData} {n : Nat} {as : List Addr} {ys zs : List V} {H H2 : Hp} (b : Built2 K Cz d1 d2 n as ys zs H) (s : Same H H2) : Built2 K Cz d1 d2 n as ys zs H2 := ⟨b.la, b.ly, b.lz, fun i a y z h1 h2 h3 => ⟨kept_same (b.at_ i a y z h1 h2 h3).1 s, (b.at_ i a y z h1 h2 h3).2.1.same s, (b.at_ i a y z h1 h2 h3).2.2.same s⟩⟩
theorem Built2.snoc {K : PySem.W.Frag} {Cz : Nat → Addr} {d1 d2 : PyData} {n : Nat} {as : List Addr} {ys zs : List V} {H : Hp} {a : Addr} {y z : V} (b : Built2 K Cz d1 d2 n as ys zs H) (k : KeptX K H a (Cz (19 + n)) [(fn2 n, z), (fn1 n, y)]) (p1 : PyW H y d1) (p2 : PyW H z d2) : Built2 K Cz d1 d2 (n + 1) (as ++ [a]) (ys ++ [y]) (zs ++ [z]) H := by
  refine ⟨by rw [List.length_append, b.la]; rfl, by rw [List.length_append, b.ly]; rfl, by rw [List.length_append, b.lz]; rfl, fun i a' y' z' h1 h2 h3 => ?_⟩
  by_cases h : i < n
  · rw [List.getElem?_append_left (by rw [b.la]; exact h)] at h1
    rw [List.getElem?_append_left (by rw [b.ly]; exact h)] at h2
    rw [List.getElem?_append_left (by rw [b.lz]; exact h)] at h3
    exact b.at_ i a' y' z' h1 h2 h3
  · have hi : i < (as ++ [a]).length := (List.getElem?_eq_some_iff.mp h1).1
    rw [List.length_append, b.la] at hi
    have e : i = n := by
      have : i < n + 1 := hi
      omega
    subst e
    rw [List.getElem?_append_right (by rw [b.la]; exact Nat.le_refl _), b.la, Nat.sub_self] at h1
    rw [List.getElem?_append_right (by rw [b.ly]; exact Nat.le_refl _), b.ly, Nat.sub_self] at h2
    rw [List.getElem?_append_right (by rw [b.lz]; exact Nat.le_refl _), b.lz, Nat.sub_self] at h3
    cases h1
    cases h2
    cases h3
    exact ⟨k, p1, p2⟩
theorem e2_step {K : PySem.W.Frag} {Cz : Nat → Addr} {d1 d2 : PyData} {n : Nat} {as : List Addr} {ys zs : List V} {H H0 : Hp} {x1 x2 : V} {Q : VK} (t1 : Th1 H0 x1 d1) (t2 : Th1 H0 x2 d2) (s0 : Same H0 H) (b : Built2 K Cz d1 d2 n as ys zs H)
    (q : ∀ a y z H2, Same H0 H2 → Built2 K Cz d1 d2 (n + 1) (as ++ [a]) (ys ++ [y]) (zs ++ [z]) H2 → Q (.ref a) H2) : End2 K (Cz (19 + n)) (fn1 n) (fn2 n) x1 x2 H Q :=
  ⟨d1, d2, t1.same s0, t2.same s0, fun a y1 y2 H2 na s2 k p1 p2 => q a y1 y2 H2 (fun b o e => s2 _ _ (s0 _ _ e)) ((b.same s2).snoc k p1 p2)⟩
/-- which of the classes it is -/
def kindV (i : Nat) : List V := (List.range 25).map fun j => V.bl (decide (i = j))
def spKinds (K : PySem.W.Frag) (Cz : Nat → Addr) : Sp := fun vs H Q _ => ∃ (a : Addr) (i : Nat), vs = [.ref a] ∧ i < 25 ∧ ErrAt K H a (Cz i) ∧ ∀ l H', H l = none → Same H H' → H' l = some (.lst (kindV i)) → Q (.ref l) H'
def spSF (K : PySem.W.Frag) (Cz : Nat → Addr) : Sp := fun vs H Q _ => ∃ (l : Addr) (d : PyData) (as : List Addr) (ys : List V), vs = [.ref l] ∧ H l = some (.lst (as.map V.ref)) ∧ Built K Cz d 19 as ys H ∧ ∀ r H', Same H H' → H' r = some (.lst ys) → Q (.ref r) H'
def spDF (K : PySem.W.Frag) (Cz : Nat → Addr) : Sp := fun vs H Q _ => ∃ (l : Addr) (d1 d2 : PyData) (as : List Addr) (ys zs : List V), vs = [.ref l] ∧ H l = some (.lst (as.map V.ref)) ∧ Built2 K Cz d1 d2 4 as ys zs H ∧
  ∀ r H' (rs : List Addr), Same H H' → H' r = some (.lst (rs.map V.ref)) → rs.length = 4 → (∀ (i : Nat) (b : Addr) (y z : V), rs[i]? = some b → ys[i]? = some y → zs[i]? = some z → H' b = some (.lst [y, z])) → Q (.ref r) H'
section
variable {P : Program} {w : World} {K : PySem.W.Frag} {mg : Str → Option Value} {base : Heap} {Cz : Nat → Addr} {CE : Addr}
theorem ok_kinds {f : Addr} {fd : FuncData} (F : Fun K "_law_kinds" "_law_kinds" s__law_kinds f fd) (T : Tk K mg Cz CE) : FnOk P w K mg base CX0 1 f fd ["_law_error"] (spKinds K Cz) := by
  refine F.ok sc__law_kinds (fun vs H Q E h => ?_) (fun cdv A outer s H vs Q E hr h => ?_)
  · obtain ⟨a, i, rfl, _⟩ := h
    rfl
  · obtain ⟨a, i, rfl, hi, e, q⟩ := h
    refine ⟨_, (pss_one (ps_ret (pe_lst (pa_cons (pe_callB call_isE (by rfl) T.isinstance (by decide +kernel) (pa_cons (pv 0) (pa_cons (pe_gv T.gBadLetter (by rfl)) pa_nil))) (pa_cons (pe_callB call_isE (by rfl) T.isinstance (by decide +kernel) (pa_cons (pv 0) (pa_cons (pe_gv T.gBadWord (by rfl)) pa_nil))) (pa_cons (pe_callB call_isE (by rfl) T.isinstance (by decide +kernel) (pa_cons (pv 0) (pa_cons (pe_gv T.gBadNumber (by rfl)) pa_nil))) (pa_cons (pe_callB call_isE (by rfl) T.isinstance (by decide +kernel) (pa_cons (pv 0) (pa_cons (pe_gv T.gBadCode (by rfl)) pa_nil))) (pa_cons (pe_callB call_isE (by rfl) T.isinstance (by decide +kernel) (pa_cons (pv 0) (pa_cons (pe_gv T.gBadName (by rfl)) pa_nil))) (pa_cons (pe_callB call_isE (by rfl) T.isinstance (by decide +kernel) (pa_cons (pv 0) (pa_cons (pe_gv T.gBadImage (by rfl)) pa_nil))) (pa_cons (pe_callB call_isE (by rfl) T.isinstance (by decide +kernel) (pa_cons (pv 0) (pa_cons (pe_gv T.gNoSign (by rfl)) pa_nil))) (pa_cons (pe_callB call_isE (by rfl) T.isinstance (by decide +kernel) (pa_cons (pv 0) (pa_cons (pe_gv T.gUnlike (by rfl)) pa_nil))) (pa_cons (pe_callB call_isE (by rfl) T.isinstance (by decide +kernel) (pa_cons (pv 0) (pa_cons (pe_gv T.gBadTable (by rfl)) pa_nil))) (pa_cons (pe_callB call_isE (by rfl) T.isinstance (by decide +kernel) (pa_cons (pv 0) (pa_cons (pe_gv T.gBadRight (by rfl)) pa_nil))) (pa_cons (pe_callB call_isE (by rfl) T.isinstance (by decide +kernel) (pa_cons (pv 0) (pa_cons (pe_gv T.gUnread (by rfl)) pa_nil))) (pa_cons (pe_callB call_isE (by rfl) T.isinstance (by decide +kernel) (pa_cons (pv 0) (pa_cons (pe_gv T.gBarred (by rfl)) pa_nil))) (pa_cons (pe_callB call_isE (by rfl) T.isinstance (by decide +kernel) (pa_cons (pv 0) (pa_cons (pe_gv T.gBadList (by rfl)) pa_nil))) (pa_cons (pe_callB call_isE (by rfl) T.isinstance (by decide +kernel) (pa_cons (pv 0) (pa_cons (pe_gv T.gBadRow (by rfl)) pa_nil))) (pa_cons (pe_callB call_isE (by rfl) T.isinstance (by decide +kernel) (pa_cons (pv 0) (pa_cons (pe_gv T.gBadFixer (by rfl)) pa_nil))) (pa_cons (pe_callB call_isE (by rfl) T.isinstance (by decide +kernel) (pa_cons (pv 0) (pa_cons (pe_gv T.gNoOrigin (by rfl)) pa_nil))) (pa_cons (pe_callB call_isE (by rfl) T.isinstance (by decide +kernel) (pa_cons (pv 0) (pa_cons (pe_gv T.gRing (by rfl)) pa_nil))) (pa_cons (pe_callB call_isE (by rfl) T.isinstance (by decide +kernel) (pa_cons (pv 0) (pa_cons (pe_gv T.gNoName (by rfl)) pa_nil))) (pa_cons (pe_callB call_isE (by rfl) T.isinstance (by decide +kernel) (pa_cons (pv 0) (pa_cons (pe_gv T.gBadCommand (by rfl)) pa_nil))) (pa_cons (pe_callB call_isE (by rfl) T.isinstance (by decide +kernel) (pa_cons (pv 0) (pa_cons (pe_gv T.gMerging (by rfl)) pa_nil))) (pa_cons (pe_callB call_isE (by rfl) T.isinstance (by decide +kernel) (pa_cons (pv 0) (pa_cons (pe_gv T.gSeveral (by rfl)) pa_nil))) (pa_cons (pe_callB call_isE (by rfl) T.isinstance (by decide +kernel) (pa_cons (pv 0) (pa_cons (pe_gv T.gTooMany (by rfl)) pa_nil))) (pa_cons (pe_callB call_isE (by rfl) T.isinstance (by decide +kernel) (pa_cons (pv 0) (pa_cons (pe_gv T.gBadText (by rfl)) pa_nil))) (pa_cons (pe_callB call_isE (by rfl) T.isinstance (by decide +kernel) (pa_cons (pv 0) (pa_cons (pe_gv T.gNoImage (by rfl)) pa_nil))) (pa_cons (pe_callB call_isE (by rfl) T.isinstance (by decide +kernel) (pa_cons (pv 0) (pa_cons (pe_gv T.gNothing (by rfl)) pa_nil))) pa_nil)))))))))))))))))))))))))))), ?_⟩
    refine ⟨_, rfl, a, Cz i, .ref (Cz 0), .ref (Cz 0), decide (i = 0), rfl, e, fun u r => r, T.kit i 0 hi (by decide), ?_⟩
    refine ⟨_, rfl, a, Cz i, .ref (Cz 1), .ref (Cz 1), decide (i = 1), rfl, e, fun u r => r, T.kit i 1 hi (by decide), ?_⟩
    refine ⟨_, rfl, a, Cz i, .ref (Cz 2), .ref (Cz 2), decide (i = 2), rfl, e, fun u r => r, T.kit i 2 hi (by decide), ?_⟩
    refine ⟨_, rfl, a, Cz i, .ref (Cz 3), .ref (Cz 3), decide (i = 3), rfl, e, fun u r => r, T.kit i 3 hi (by decide), ?_⟩
    refine ⟨_, rfl, a, Cz i, .ref (Cz 4), .ref (Cz 4), decide (i = 4), rfl, e, fun u r => r, T.kit i 4 hi (by decide), ?_⟩
    refine ⟨_, rfl, a, Cz i, .ref (Cz 5), .ref (Cz 5), decide (i = 5), rfl, e, fun u r => r, T.kit i 5 hi (by decide), ?_⟩
    refine ⟨_, rfl, a, Cz i, .ref (Cz 6), .ref (Cz 6), decide (i = 6), rfl, e, fun u r => r, T.kit i 6 hi (by decide), ?_⟩
    refine ⟨_, rfl, a, Cz i, .ref (Cz 7), .ref (Cz 7), decide (i = 7), rfl, e, fun u r => r, T.kit i 7 hi (by decide), ?_⟩
    refine ⟨_, rfl, a, Cz i, .ref (Cz 8), .ref (Cz 8), decide (i = 8), rfl, e, fun u r => r, T.kit i 8 hi (by decide), ?_⟩
    refine ⟨_, rfl, a, Cz i, .ref (Cz 9), .ref (Cz 9), decide (i = 9), rfl, e, fun u r => r, T.kit i 9 hi (by decide), ?_⟩
    refine ⟨_, rfl, a, Cz i, .ref (Cz 10), .ref (Cz 10), decide (i = 10), rfl, e, fun u r => r, T.kit i 10 hi (by decide), ?_⟩
    refine ⟨_, rfl, a, Cz i, .ref (Cz 11), .ref (Cz 11), decide (i = 11), rfl, e, fun u r => r, T.kit i 11 hi (by decide), ?_⟩
    refine ⟨_, rfl, a, Cz i, .ref (Cz 12), .ref (Cz 12), decide (i = 12), rfl, e, fun u r => r, T.kit i 12 hi (by decide), ?_⟩
    refine ⟨_, rfl, a, Cz i, .ref (Cz 13), .ref (Cz 13), decide (i = 13), rfl, e, fun u r => r, T.kit i 13 hi (by decide), ?_⟩
    refine ⟨_, rfl, a, Cz i, .ref (Cz 14), .ref (Cz 14), decide (i = 14), rfl, e, fun u r => r, T.kit i 14 hi (by decide), ?_⟩
    refine ⟨_, rfl, a, Cz i, .ref (Cz 15), .ref (Cz 15), decide (i = 15), rfl, e, fun u r => r, T.kit i 15 hi (by decide), ?_⟩
    refine ⟨_, rfl, a, Cz i, .ref (Cz 16), .ref (Cz 16), decide (i = 16), rfl, e, fun u r => r, T.kit i 16 hi (by decide), ?_⟩
    refine ⟨_, rfl, a, Cz i, .ref (Cz 17), .ref (Cz 17), decide (i = 17), rfl, e, fun u r => r, T.kit i 17 hi (by decide), ?_⟩
    refine ⟨_, rfl, a, Cz i, .ref (Cz 18), .ref (Cz 18), decide (i = 18), rfl, e, fun u r => r, T.kit i 18 hi (by decide), ?_⟩
    refine ⟨_, rfl, a, Cz i, .ref (Cz 19), .ref (Cz 19), decide (i = 19), rfl, e, fun u r => r, T.kit i 19 hi (by decide), ?_⟩
    refine ⟨_, rfl, a, Cz i, .ref (Cz 20), .ref (Cz 20), decide (i = 20), rfl, e, fun u r => r, T.kit i 20 hi (by decide), ?_⟩
    refine ⟨_, rfl, a, Cz i, .ref (Cz 21), .ref (Cz 21), decide (i = 21), rfl, e, fun u r => r, T.kit i 21 hi (by decide), ?_⟩
    refine ⟨_, rfl, a, Cz i, .ref (Cz 22), .ref (Cz 22), decide (i = 22), rfl, e, fun u r => r, T.kit i 22 hi (by decide), ?_⟩
    refine ⟨_, rfl, a, Cz i, .ref (Cz 23), .ref (Cz 23), decide (i = 23), rfl, e, fun u r => r, T.kit i 23 hi (by decide), ?_⟩
    refine ⟨_, rfl, a, Cz i, .ref (Cz 24), .ref (Cz 24), decide (i = 24), rfl, e, fun u r => r, T.kit i 24 hi (by decide), ?_⟩
    refine ⟨by show 25 ≤ sizeLine; decide, fun l nl => q l _ nl (same_put (s := Same.refl H) nl) upd_same⟩
theorem ok_single_fields {f : Addr} {fd : FuncData} (F : Fun K "_law_single_fields" "_law_single_fields" s__law_single_fields f fd) (T : Tk K mg Cz CE) : FnOk P w K mg base CX0 1 f fd ["_law_some"] (spSF K Cz) := by
  refine F.ok sc__law_single_fields (fun vs H Q E h => ?_) (fun cdv A outer s H vs Q E hr h => ?_)
  · obtain ⟨l, d, as, ys, rfl, _⟩ := h
    rfl
  · obtain ⟨l, d, as, ys, rfl, hl, b, q⟩ := h
    obtain ⟨a0, a1, a2, a3, a4, a5, a6, a7, a8, a9, a10, a11, a12, a13, a14, a15, a16, a17, a18, rfl⟩ : ∃ a0 a1 a2 a3 a4 a5 a6 a7 a8 a9 a10 a11 a12 a13 a14 a15 a16 a17 a18, as = [a0, a1, a2, a3, a4, a5, a6, a7, a8, a9, a10, a11, a12, a13, a14, a15, a16, a17, a18] := by
      match as, b.la with
      | [a0, a1, a2, a3, a4, a5, a6, a7, a8, a9, a10, a11, a12, a13, a14, a15, a16, a17, a18], _ => exact ⟨a0, a1, a2, a3, a4, a5, a6, a7, a8, a9, a10, a11, a12, a13, a14, a15, a16, a17, a18, rfl⟩
    obtain ⟨y0, y1, y2, y3, y4, y5, y6, y7, y8, y9, y10, y11, y12, y13, y14, y15, y16, y17, y18, rfl⟩ : ∃ y0 y1 y2 y3 y4 y5 y6 y7 y8 y9 y10 y11 y12 y13 y14 y15 y16 y17 y18, ys = [y0, y1, y2, y3, y4, y5, y6, y7, y8, y9, y10, y11, y12, y13, y14, y15, y16, y17, y18] := by
      match ys, b.ly with
      | [y0, y1, y2, y3, y4, y5, y6, y7, y8, y9, y10, y11, y12, y13, y14, y15, y16, y17, y18], _ => exact ⟨y0, y1, y2, y3, y4, y5, y6, y7, y8, y9, y10, y11, y12, y13, y14, y15, y16, y17, y18, rfl⟩
    have hs := SqL.of (K := K) hl
    refine ⟨_, (pss_one (ps_ret (pe_lst (pa_cons (pe_keptF (pe_ix (ix_listK (K := K) rfl) (pv 0) pe_int (fun _ _ => rfl))) (pa_cons (pe_keptF (pe_ix (ix_listK (K := K) rfl) (pv 0) pe_int (fun _ _ => rfl))) (pa_cons (pe_keptF (pe_ix (ix_listK (K := K) rfl) (pv 0) pe_int (fun _ _ => rfl))) (pa_cons (pe_keptF (pe_ix (ix_listK (K := K) rfl) (pv 0) pe_int (fun _ _ => rfl))) (pa_cons (pe_keptF (pe_ix (ix_listK (K := K) rfl) (pv 0) pe_int (fun _ _ => rfl))) (pa_cons (pe_keptF (pe_ix (ix_listK (K := K) rfl) (pv 0) pe_int (fun _ _ => rfl))) (pa_cons (pe_keptF (pe_ix (ix_listK (K := K) rfl) (pv 0) pe_int (fun _ _ => rfl))) (pa_cons (pe_keptF (pe_ix (ix_listK (K := K) rfl) (pv 0) pe_int (fun _ _ => rfl))) (pa_cons (pe_keptF (pe_ix (ix_listK (K := K) rfl) (pv 0) pe_int (fun _ _ => rfl))) (pa_cons (pe_keptF (pe_ix (ix_listK (K := K) rfl) (pv 0) pe_int (fun _ _ => rfl))) (pa_cons (pe_keptF (pe_ix (ix_listK (K := K) rfl) (pv 0) pe_int (fun _ _ => rfl))) (pa_cons (pe_keptF (pe_ix (ix_listK (K := K) rfl) (pv 0) pe_int (fun _ _ => rfl))) (pa_cons (pe_keptF (pe_ix (ix_listK (K := K) rfl) (pv 0) pe_int (fun _ _ => rfl))) (pa_cons (pe_keptF (pe_ix (ix_listK (K := K) rfl) (pv 0) pe_int (fun _ _ => rfl))) (pa_cons (pe_keptF (pe_ix (ix_listK (K := K) rfl) (pv 0) pe_int (fun _ _ => rfl))) (pa_cons (pe_keptF (pe_ix (ix_listK (K := K) rfl) (pv 0) pe_int (fun _ _ => rfl))) (pa_cons (pe_keptF (pe_ix (ix_listK (K := K) rfl) (pv 0) pe_int (fun _ _ => rfl))) (pa_cons (pe_keptF (pe_ix (ix_listK (K := K) rfl) (pv 0) pe_int (fun _ _ => rfl))) (pa_cons (pe_keptF (pe_ix (ix_listK (K := K) rfl) (pv 0) pe_int (fun _ _ => rfl))) pa_nil)))))))))))))))))))))), ?_⟩
    refine ⟨_, rfl, l, _, 0, .ref a0, rfl, rfl, hs, atI_nat (j := 0) rfl, a0, Cz 0, _, y0, rfl, (b.at_ 0 a0 y0 rfl rfl).1, T.nof 0 (by decide), look1, ?_⟩
    refine ⟨_, rfl, l, _, 1, .ref a1, rfl, rfl, hs, atI_nat (j := 1) rfl, a1, Cz 1, _, y1, rfl, (b.at_ 1 a1 y1 rfl rfl).1, T.nof 1 (by decide), look1, ?_⟩
    refine ⟨_, rfl, l, _, 2, .ref a2, rfl, rfl, hs, atI_nat (j := 2) rfl, a2, Cz 2, _, y2, rfl, (b.at_ 2 a2 y2 rfl rfl).1, T.nof 2 (by decide), look1, ?_⟩
    refine ⟨_, rfl, l, _, 3, .ref a3, rfl, rfl, hs, atI_nat (j := 3) rfl, a3, Cz 3, _, y3, rfl, (b.at_ 3 a3 y3 rfl rfl).1, T.nof 3 (by decide), look1, ?_⟩
    refine ⟨_, rfl, l, _, 4, .ref a4, rfl, rfl, hs, atI_nat (j := 4) rfl, a4, Cz 4, _, y4, rfl, (b.at_ 4 a4 y4 rfl rfl).1, T.nof 4 (by decide), look1, ?_⟩
    refine ⟨_, rfl, l, _, 5, .ref a5, rfl, rfl, hs, atI_nat (j := 5) rfl, a5, Cz 5, _, y5, rfl, (b.at_ 5 a5 y5 rfl rfl).1, T.nof 5 (by decide), look1, ?_⟩
    refine ⟨_, rfl, l, _, 6, .ref a6, rfl, rfl, hs, atI_nat (j := 6) rfl, a6, Cz 6, _, y6, rfl, (b.at_ 6 a6 y6 rfl rfl).1, T.nof 6 (by decide), look1, ?_⟩
    refine ⟨_, rfl, l, _, 7, .ref a7, rfl, rfl, hs, atI_nat (j := 7) rfl, a7, Cz 7, _, y7, rfl, (b.at_ 7 a7 y7 rfl rfl).1, T.nof 7 (by decide), look1, ?_⟩
    refine ⟨_, rfl, l, _, 8, .ref a8, rfl, rfl, hs, atI_nat (j := 8) rfl, a8, Cz 8, _, y8, rfl, (b.at_ 8 a8 y8 rfl rfl).1, T.nof 8 (by decide), look1, ?_⟩
    refine ⟨_, rfl, l, _, 9, .ref a9, rfl, rfl, hs, atI_nat (j := 9) rfl, a9, Cz 9, _, y9, rfl, (b.at_ 9 a9 y9 rfl rfl).1, T.nof 9 (by decide), look1, ?_⟩
    refine ⟨_, rfl, l, _, 10, .ref a10, rfl, rfl, hs, atI_nat (j := 10) rfl, a10, Cz 10, _, y10, rfl, (b.at_ 10 a10 y10 rfl rfl).1, T.nof 10 (by decide), look1, ?_⟩
    refine ⟨_, rfl, l, _, 11, .ref a11, rfl, rfl, hs, atI_nat (j := 11) rfl, a11, Cz 11, _, y11, rfl, (b.at_ 11 a11 y11 rfl rfl).1, T.nof 11 (by decide), look1, ?_⟩
    refine ⟨_, rfl, l, _, 12, .ref a12, rfl, rfl, hs, atI_nat (j := 12) rfl, a12, Cz 12, _, y12, rfl, (b.at_ 12 a12 y12 rfl rfl).1, T.nof 12 (by decide), look1, ?_⟩
    refine ⟨_, rfl, l, _, 13, .ref a13, rfl, rfl, hs, atI_nat (j := 13) rfl, a13, Cz 13, _, y13, rfl, (b.at_ 13 a13 y13 rfl rfl).1, T.nof 13 (by decide), look1, ?_⟩
    refine ⟨_, rfl, l, _, 14, .ref a14, rfl, rfl, hs, atI_nat (j := 14) rfl, a14, Cz 14, _, y14, rfl, (b.at_ 14 a14 y14 rfl rfl).1, T.nof 14 (by decide), look1, ?_⟩
    refine ⟨_, rfl, l, _, 15, .ref a15, rfl, rfl, hs, atI_nat (j := 15) rfl, a15, Cz 15, _, y15, rfl, (b.at_ 15 a15 y15 rfl rfl).1, T.nof 15 (by decide), look1, ?_⟩
    refine ⟨_, rfl, l, _, 16, .ref a16, rfl, rfl, hs, atI_nat (j := 16) rfl, a16, Cz 16, _, y16, rfl, (b.at_ 16 a16 y16 rfl rfl).1, T.nof 16 (by decide), look1, ?_⟩
    refine ⟨_, rfl, l, _, 17, .ref a17, rfl, rfl, hs, atI_nat (j := 17) rfl, a17, Cz 17, _, y17, rfl, (b.at_ 17 a17 y17 rfl rfl).1, T.nof 17 (by decide), look1, ?_⟩
    refine ⟨_, rfl, l, _, 18, .ref a18, rfl, rfl, hs, atI_nat (j := 18) rfl, a18, Cz 18, _, y18, rfl, (b.at_ 18 a18 y18 rfl rfl).1, T.nof 18 (by decide), look1, ?_⟩
    exact ⟨by show 19 ≤ sizeLine; decide, fun r nr => q r _ (same_put (s := Same.refl H) nr) upd_same⟩
theorem ok_double_fields {f : Addr} {fd : FuncData} (F : Fun K "_law_double_fields" "_law_double_fields" s__law_double_fields f fd) (T : Tk K mg Cz CE) : FnOk P w K mg base CX0 1 f fd ["_law_some"] (spDF K Cz) := by
  refine F.ok sc__law_double_fields (fun vs H Q E h => ?_) (fun cdv A outer s H vs Q E hr h => ?_)
  · obtain ⟨l, d1, d2, as, ys, zs, rfl, _⟩ := h
    rfl
  · obtain ⟨l, d1, d2, as, ys, zs, rfl, hl, b, q⟩ := h
    obtain ⟨a0, a1, a2, a3, rfl⟩ : ∃ a0 a1 a2 a3, as = [a0, a1, a2, a3] := by
      match as, b.la with
      | [a0, a1, a2, a3], _ => exact ⟨a0, a1, a2, a3, rfl⟩
    obtain ⟨y0, y1, y2, y3, rfl⟩ : ∃ y0 y1 y2 y3, ys = [y0, y1, y2, y3] := by
      match ys, b.ly with
      | [y0, y1, y2, y3], _ => exact ⟨y0, y1, y2, y3, rfl⟩
    obtain ⟨z0, z1, z2, z3, rfl⟩ : ∃ z0 z1 z2 z3, zs = [z0, z1, z2, z3] := by
      match zs, b.lz with
      | [z0, z1, z2, z3], _ => exact ⟨z0, z1, z2, z3, rfl⟩
    have s0 : Same H H := Same.refl H
    refine ⟨_, (pss_one (ps_ret (pe_lst (pa_cons (pe_lst (pa_cons (pe_keptF (pe_ix (ix_listK (K := K) rfl) (pv 0) pe_int (fun _ _ => rfl))) (pa_cons (pe_keptF (pe_ix (ix_listK (K := K) rfl) (pv 0) pe_int (fun _ _ => rfl))) pa_nil))) (pa_cons (pe_lst (pa_cons (pe_keptF (pe_ix (ix_listK (K := K) rfl) (pv 0) pe_int (fun _ _ => rfl))) (pa_cons (pe_keptF (pe_ix (ix_listK (K := K) rfl) (pv 0) pe_int (fun _ _ => rfl))) pa_nil))) (pa_cons (pe_lst (pa_cons (pe_keptF (pe_ix (ix_listK (K := K) rfl) (pv 0) pe_int (fun _ _ => rfl))) (pa_cons (pe_keptF (pe_ix (ix_listK (K := K) rfl) (pv 0) pe_int (fun _ _ => rfl))) pa_nil))) (pa_cons (pe_lst (pa_cons (pe_keptF (pe_ix (ix_listK (K := K) rfl) (pv 0) pe_int (fun _ _ => rfl))) (pa_cons (pe_keptF (pe_ix (ix_listK (K := K) rfl) (pv 0) pe_int (fun _ _ => rfl))) pa_nil))) pa_nil))))))), ?_⟩
    refine ⟨_, rfl, l, _, 0, .ref a0, rfl, rfl, SqL.of (s0 _ _ hl), atI_nat (j := 0) rfl, a0, Cz (19 + 0), _, y0, rfl, ((b.same s0).at_ 0 a0 y0 z0 rfl rfl rfl).1, T.nf1 0 (by decide), look2 (by decide +kernel), ?_⟩
    refine ⟨_, rfl, l, _, 0, .ref a0, rfl, rfl, SqL.of (s0 _ _ hl), atI_nat (j := 0) rfl, a0, Cz (19 + 0), _, z0, rfl, ((b.same s0).at_ 0 a0 y0 z0 rfl rfl rfl).1, T.nf2 0 (by decide), look1, ?_⟩
    refine ⟨by show 2 ≤ sizeLine; decide, fun r0 n0 => ?_⟩
    have s_ := same_put (s := Same.refl H) (o := .lst [y0, z0]) n0
    have h0 : upd H r0 (.lst [y0, z0]) r0 = some (.lst [y0, z0]) := upd_same
    replace s0 : Same H (upd H r0 (.lst [y0, z0])) := fun b o e => s_ _ _ (s0 _ _ e)
    generalize upd H r0 (.lst [y0, z0]) = H1 at s0 h0 ⊢
    clear s_ n0
    refine ⟨_, rfl, l, _, 1, .ref a1, rfl, rfl, SqL.of (s0 _ _ hl), atI_nat (j := 1) rfl, a1, Cz (19 + 1), _, y1, rfl, ((b.same s0).at_ 1 a1 y1 z1 rfl rfl rfl).1, T.nf1 1 (by decide), look2 (by decide +kernel), ?_⟩
    refine ⟨_, rfl, l, _, 1, .ref a1, rfl, rfl, SqL.of (s0 _ _ hl), atI_nat (j := 1) rfl, a1, Cz (19 + 1), _, z1, rfl, ((b.same s0).at_ 1 a1 y1 z1 rfl rfl rfl).1, T.nf2 1 (by decide), look1, ?_⟩
    refine ⟨by show 2 ≤ sizeLine; decide, fun r1 n1 => ?_⟩
    have s_ := same_put (s := Same.refl H1) (o := .lst [y1, z1]) n1
    have h1 : upd H1 r1 (.lst [y1, z1]) r1 = some (.lst [y1, z1]) := upd_same
    replace h0 := s_ _ _ h0
    replace s0 : Same H (upd H1 r1 (.lst [y1, z1])) := fun b o e => s_ _ _ (s0 _ _ e)
    generalize upd H1 r1 (.lst [y1, z1]) = H2 at s0 h0 h1 ⊢
    clear s_ n1
    refine ⟨_, rfl, l, _, 2, .ref a2, rfl, rfl, SqL.of (s0 _ _ hl), atI_nat (j := 2) rfl, a2, Cz (19 + 2), _, y2, rfl, ((b.same s0).at_ 2 a2 y2 z2 rfl rfl rfl).1, T.nf1 2 (by decide), look2 (by decide +kernel), ?_⟩
    refine ⟨_, rfl, l, _, 2, .ref a2, rfl, rfl, SqL.of (s0 _ _ hl), atI_nat (j := 2) rfl, a2, Cz (19 + 2), _, z2, rfl, ((b.same s0).at_ 2 a2 y2 z2 rfl rfl rfl).1, T.nf2 2 (by decide), look1, ?_⟩
    refine ⟨by show 2 ≤ sizeLine; decide, fun r2 n2 => ?_⟩
    have s_ := same_put (s := Same.refl H2) (o := .lst [y2, z2]) n2
    have h2 : upd H2 r2 (.lst [y2, z2]) r2 = some (.lst [y2, z2]) := upd_same
    replace h0 := s_ _ _ h0
    replace h1 := s_ _ _ h1
    replace s0 : Same H (upd H2 r2 (.lst [y2, z2])) := fun b o e => s_ _ _ (s0 _ _ e)
    generalize upd H2 r2 (.lst [y2, z2]) = H3 at s0 h0 h1 h2 ⊢
    clear s_ n2
    refine ⟨_, rfl, l, _, 3, .ref a3, rfl, rfl, SqL.of (s0 _ _ hl), atI_nat (j := 3) rfl, a3, Cz (19 + 3), _, y3, rfl, ((b.same s0).at_ 3 a3 y3 z3 rfl rfl rfl).1, T.nf1 3 (by decide), look2 (by decide +kernel), ?_⟩
    refine ⟨_, rfl, l, _, 3, .ref a3, rfl, rfl, SqL.of (s0 _ _ hl), atI_nat (j := 3) rfl, a3, Cz (19 + 3), _, z3, rfl, ((b.same s0).at_ 3 a3 y3 z3 rfl rfl rfl).1, T.nf2 3 (by decide), look1, ?_⟩
    refine ⟨by show 2 ≤ sizeLine; decide, fun r3 n3 => ?_⟩
    have s_ := same_put (s := Same.refl H3) (o := .lst [y3, z3]) n3
    have h3 : upd H3 r3 (.lst [y3, z3]) r3 = some (.lst [y3, z3]) := upd_same
    replace h0 := s_ _ _ h0
    replace h1 := s_ _ _ h1
    replace h2 := s_ _ _ h2
    replace s0 : Same H (upd H3 r3 (.lst [y3, z3])) := fun b o e => s_ _ _ (s0 _ _ e)
    generalize upd H3 r3 (.lst [y3, z3]) = H4 at s0 h0 h1 h2 h3 ⊢
    clear s_ n3
    refine ⟨by show 4 ≤ sizeLine; decide, fun r nr => ?_⟩
    have s_ := same_put (s := Same.refl H4) (o := .lst [.ref r0, .ref r1, .ref r2, .ref r3]) nr
    refine q r _ [r0, r1, r2, r3] (fun b o e => s_ _ _ (s0 _ _ e)) upd_same rfl fun i b y z e1 e2 e3 => ?_
    match i, e1, e2, e3 with
    | 0, e1, e2, e3 => cases e1; cases e2; cases e3; exact s_ _ _ h0
    | 1, e1, e2, e3 => cases e1; cases e2; cases e3; exact s_ _ _ h1
    | 2, e1, e2, e3 => cases e1; cases e2; cases e3; exact s_ _ _ h2
    | 3, e1, e2, e3 => cases e1; cases e2; cases e3; exact s_ _ _ h3
    | k + 4, e1, _, _ => simp at e1
end
end V8

set_option Elab.async false
set_option linter.all false
set_option maxRecDepth 100000
set_option maxHeartbeats 16000000
/-! The errors made. -/
namespace V8
open PySem PySem.Spec PyProof.Rows L2
section
variable (P : Program) (w : World) (K : PySem.W.Frag) (mg : Str → Option Value) (base : Heap) (Cz : Nat → Addr)
/-- the makers -/
structure Ers : Prop where
  eBadLetter : Er1 P w K mg base "BadLetter" (fnm 0) (Cz 0)
  eBadWord : Er1 P w K mg base "BadWord" (fnm 1) (Cz 1)
  eBadNumber : Er1 P w K mg base "BadNumber" (fnm 2) (Cz 2)
  eBadCode : Er1 P w K mg base "BadCode" (fnm 3) (Cz 3)
  eBadName : Er1 P w K mg base "BadName" (fnm 4) (Cz 4)
  eBadImage : Er1 P w K mg base "BadImage" (fnm 5) (Cz 5)
  eNoSign : Er1 P w K mg base "NoSign" (fnm 6) (Cz 6)
  eUnlike : Er1 P w K mg base "Unlike" (fnm 7) (Cz 7)
  eBadTable : Er1 P w K mg base "BadTable" (fnm 8) (Cz 8)
  eBadRight : Er1 P w K mg base "BadRight" (fnm 9) (Cz 9)
  eUnread : Er1 P w K mg base "Unread" (fnm 10) (Cz 10)
  eBarred : Er1 P w K mg base "Barred" (fnm 11) (Cz 11)
  eBadList : Er1 P w K mg base "BadList" (fnm 12) (Cz 12)
  eBadRow : Er1 P w K mg base "BadRow" (fnm 13) (Cz 13)
  eBadFixer : Er1 P w K mg base "BadFixer" (fnm 14) (Cz 14)
  eNoOrigin : Er1 P w K mg base "NoOrigin" (fnm 15) (Cz 15)
  eRing : Er1 P w K mg base "Ring" (fnm 16) (Cz 16)
  eNoName : Er1 P w K mg base "NoName" (fnm 17) (Cz 17)
  eBadCommand : Er1 P w K mg base "BadCommand" (fnm 18) (Cz 18)
  eMerging : Er2 P w K mg base "Merging" (fn1 0) (fn2 0) (Cz (19 + 0))
  eSeveral : Er2 P w K mg base "Several" (fn1 1) (fn2 1) (Cz (19 + 1))
  eTooMany : Er2 P w K mg base "TooMany" (fn1 2) (fn2 2) (Cz (19 + 2))
  eBadText : Er2 P w K mg base "BadText" (fn1 3) (fn2 3) (Cz (19 + 3))
  eNoImage : Er0 P w K mg base "NoImage" (Cz 23)
  eNothing : Er0 P w K mg base "Nothing" (Cz 24)
end
def spSingles (K : PySem.W.Frag) (Cz : Nat → Addr) : Sp := fun vs H Q _ => ∃ (x : V) (b : Bool) (d : PyData), vs = [x, .bl b] ∧ Th1 H x d ∧ ∀ l as ys H', Same H H' → H' l = some (.lst (as.map V.ref)) → Built K Cz d 19 as ys H' → Q (.ref l) H'
def spDoubles (K : PySem.W.Frag) (Cz : Nat → Addr) : Sp := fun vs H Q _ => ∃ (x1 x2 : V) (b : Bool) (d1 d2 : PyData), vs = [x1, x2, .bl b] ∧ Th1 H x1 d1 ∧ Th1 H x2 d2 ∧ ∀ l as ys zs H', Same H H' → H' l = some (.lst (as.map V.ref)) → Built2 K Cz d1 d2 4 as ys zs H' → Q (.ref l) H'
section
variable {P : Program} {w : World} {K : PySem.W.Frag} {mg : Str → Option Value} {base : Heap} {Cz : Nat → Addr} {CE : Addr}
theorem ok_singles {f : Addr} {fd : FuncData} (F : Fun K "_law_singles" "_law_singles" s__law_singles f fd) (T : Tk K mg Cz CE) (R : Ers P w K mg base Cz) : FnG P w K mg base CX0 5 f fd ["_law_thing_here", "_law_is_named"] (spSingles K Cz) := by
  refine F.okG sc__law_singles (fun vs H Q E h => ?_) (fun cdv A outer s H vs Q E quiet hr h => ?_)
  · obtain ⟨x, b, d, rfl, _⟩ := h
    rfl
  · obtain ⟨x, b, d, rfl, t, q⟩ := h
    refine ⟨_, (pss_cons (ps_if (pt_val (pv 1))
        (pss_one (ps_ret (pe_lst (pa_cons (pe_e1K R.eBadLetter quiet hr (by decide) (by rfl) (pk_cons (pv 0) pk_nil)) (pa_cons (pe_e1K R.eBadWord quiet hr (by decide) (by rfl) (pk_cons (pv 0) pk_nil)) (pa_cons (pe_e1K R.eBadNumber quiet hr (by decide) (by rfl) (pk_cons (pv 0) pk_nil)) (pa_cons (pe_e1K R.eBadCode quiet hr (by decide) (by rfl) (pk_cons (pv 0) pk_nil)) (pa_cons (pe_e1K R.eBadName quiet hr (by decide) (by rfl) (pk_cons (pv 0) pk_nil)) (pa_cons (pe_e1K R.eBadImage quiet hr (by decide) (by rfl) (pk_cons (pv 0) pk_nil)) (pa_cons (pe_e1K R.eNoSign quiet hr (by decide) (by rfl) (pk_cons (pv 0) pk_nil)) (pa_cons (pe_e1K R.eUnlike quiet hr (by decide) (by rfl) (pk_cons (pv 0) pk_nil)) (pa_cons (pe_e1K R.eBadTable quiet hr (by decide) (by rfl) (pk_cons (pv 0) pk_nil)) (pa_cons (pe_e1K R.eBadRight quiet hr (by decide) (by rfl) (pk_cons (pv 0) pk_nil)) (pa_cons (pe_e1K R.eUnread quiet hr (by decide) (by rfl) (pk_cons (pv 0) pk_nil)) (pa_cons (pe_e1K R.eBarred quiet hr (by decide) (by rfl) (pk_cons (pv 0) pk_nil)) (pa_cons (pe_e1K R.eBadList quiet hr (by decide) (by rfl) (pk_cons (pv 0) pk_nil)) (pa_cons (pe_e1K R.eBadRow quiet hr (by decide) (by rfl) (pk_cons (pv 0) pk_nil)) (pa_cons (pe_e1K R.eBadFixer quiet hr (by decide) (by rfl) (pk_cons (pv 0) pk_nil)) (pa_cons (pe_e1K R.eNoOrigin quiet hr (by decide) (by rfl) (pk_cons (pv 0) pk_nil)) (pa_cons (pe_e1K R.eRing quiet hr (by decide) (by rfl) (pk_cons (pv 0) pk_nil)) (pa_cons (pe_e1K R.eNoName quiet hr (by decide) (by rfl) (pk_cons (pv 0) pk_nil)) (pa_cons (pe_e1K R.eBadCommand quiet hr (by decide) (by rfl) (pk_cons (pv 0) pk_nil)) pa_nil))))))))))))))))))))))
        pss_nil)
      (pss_one (ps_ret (pe_lst (pa_cons (pe_e1 R.eBadLetter quiet hr (by decide) (by rfl) (pa_cons (pv 0) pa_nil)) (pa_cons (pe_e1 R.eBadWord quiet hr (by decide) (by rfl) (pa_cons (pv 0) pa_nil)) (pa_cons (pe_e1 R.eBadNumber quiet hr (by decide) (by rfl) (pa_cons (pv 0) pa_nil)) (pa_cons (pe_e1 R.eBadCode quiet hr (by decide) (by rfl) (pa_cons (pv 0) pa_nil)) (pa_cons (pe_e1 R.eBadName quiet hr (by decide) (by rfl) (pa_cons (pv 0) pa_nil)) (pa_cons (pe_e1 R.eBadImage quiet hr (by decide) (by rfl) (pa_cons (pv 0) pa_nil)) (pa_cons (pe_e1 R.eNoSign quiet hr (by decide) (by rfl) (pa_cons (pv 0) pa_nil)) (pa_cons (pe_e1 R.eUnlike quiet hr (by decide) (by rfl) (pa_cons (pv 0) pa_nil)) (pa_cons (pe_e1 R.eBadTable quiet hr (by decide) (by rfl) (pa_cons (pv 0) pa_nil)) (pa_cons (pe_e1 R.eBadRight quiet hr (by decide) (by rfl) (pa_cons (pv 0) pa_nil)) (pa_cons (pe_e1 R.eUnread quiet hr (by decide) (by rfl) (pa_cons (pv 0) pa_nil)) (pa_cons (pe_e1 R.eBarred quiet hr (by decide) (by rfl) (pa_cons (pv 0) pa_nil)) (pa_cons (pe_e1 R.eBadList quiet hr (by decide) (by rfl) (pa_cons (pv 0) pa_nil)) (pa_cons (pe_e1 R.eBadRow quiet hr (by decide) (by rfl) (pa_cons (pv 0) pa_nil)) (pa_cons (pe_e1 R.eBadFixer quiet hr (by decide) (by rfl) (pa_cons (pv 0) pa_nil)) (pa_cons (pe_e1 R.eNoOrigin quiet hr (by decide) (by rfl) (pa_cons (pv 0) pa_nil)) (pa_cons (pe_e1 R.eRing quiet hr (by decide) (by rfl) (pa_cons (pv 0) pa_nil)) (pa_cons (pe_e1 R.eNoName quiet hr (by decide) (by rfl) (pa_cons (pv 0) pa_nil)) (pa_cons (pe_e1 R.eBadCommand quiet hr (by decide) (by rfl) (pa_cons (pv 0) pa_nil)) pa_nil))))))))))))))))))))))), ?_⟩
    have b0 : Built K Cz d 0 [] [] H := ⟨rfl, rfl, fun i a y h => by simp at h⟩
    have s0 : Same H H := Same.refl H
    cases b with
    | true =>
      refine ⟨_, rfl, true, rfl, iteT ?_⟩
      refine ⟨_, rfl, x, rfl, e1_step t s0 b0 fun a0 y0 H1 s1 b1 => ?_⟩
      refine ⟨_, rfl, x, rfl, e1_step t s1 b1 fun a1 y1 H2 s2 b2 => ?_⟩
      refine ⟨_, rfl, x, rfl, e1_step t s2 b2 fun a2 y2 H3 s3 b3 => ?_⟩
      refine ⟨_, rfl, x, rfl, e1_step t s3 b3 fun a3 y3 H4 s4 b4 => ?_⟩
      refine ⟨_, rfl, x, rfl, e1_step t s4 b4 fun a4 y4 H5 s5 b5 => ?_⟩
      refine ⟨_, rfl, x, rfl, e1_step t s5 b5 fun a5 y5 H6 s6 b6 => ?_⟩
      refine ⟨_, rfl, x, rfl, e1_step t s6 b6 fun a6 y6 H7 s7 b7 => ?_⟩
      refine ⟨_, rfl, x, rfl, e1_step t s7 b7 fun a7 y7 H8 s8 b8 => ?_⟩
      refine ⟨_, rfl, x, rfl, e1_step t s8 b8 fun a8 y8 H9 s9 b9 => ?_⟩
      refine ⟨_, rfl, x, rfl, e1_step t s9 b9 fun a9 y9 H10 s10 b10 => ?_⟩
      refine ⟨_, rfl, x, rfl, e1_step t s10 b10 fun a10 y10 H11 s11 b11 => ?_⟩
      refine ⟨_, rfl, x, rfl, e1_step t s11 b11 fun a11 y11 H12 s12 b12 => ?_⟩
      refine ⟨_, rfl, x, rfl, e1_step t s12 b12 fun a12 y12 H13 s13 b13 => ?_⟩
      refine ⟨_, rfl, x, rfl, e1_step t s13 b13 fun a13 y13 H14 s14 b14 => ?_⟩
      refine ⟨_, rfl, x, rfl, e1_step t s14 b14 fun a14 y14 H15 s15 b15 => ?_⟩
      refine ⟨_, rfl, x, rfl, e1_step t s15 b15 fun a15 y15 H16 s16 b16 => ?_⟩
      refine ⟨_, rfl, x, rfl, e1_step t s16 b16 fun a16 y16 H17 s17 b17 => ?_⟩
      refine ⟨_, rfl, x, rfl, e1_step t s17 b17 fun a17 y17 H18 s18 b18 => ?_⟩
      refine ⟨_, rfl, x, rfl, e1_step t s18 b18 fun a18 y18 H19 s19 b19 => ?_⟩
      exact ⟨by show 19 ≤ sizeLine; decide, fun l nl => q l _ _ _ (same_put (s := s19) nl) upd_same (b19.same (same_put (s := Same.refl H19) nl))⟩
    | false =>
      refine ⟨_, rfl, false, rfl, iteF ?_⟩
      refine ⟨_, rfl, x, rfl, e1_step t s0 b0 fun a0 y0 H1 s1 b1 => ?_⟩
      refine ⟨_, rfl, x, rfl, e1_step t s1 b1 fun a1 y1 H2 s2 b2 => ?_⟩
      refine ⟨_, rfl, x, rfl, e1_step t s2 b2 fun a2 y2 H3 s3 b3 => ?_⟩
      refine ⟨_, rfl, x, rfl, e1_step t s3 b3 fun a3 y3 H4 s4 b4 => ?_⟩
      refine ⟨_, rfl, x, rfl, e1_step t s4 b4 fun a4 y4 H5 s5 b5 => ?_⟩
      refine ⟨_, rfl, x, rfl, e1_step t s5 b5 fun a5 y5 H6 s6 b6 => ?_⟩
      refine ⟨_, rfl, x, rfl, e1_step t s6 b6 fun a6 y6 H7 s7 b7 => ?_⟩
      refine ⟨_, rfl, x, rfl, e1_step t s7 b7 fun a7 y7 H8 s8 b8 => ?_⟩
      refine ⟨_, rfl, x, rfl, e1_step t s8 b8 fun a8 y8 H9 s9 b9 => ?_⟩
      refine ⟨_, rfl, x, rfl, e1_step t s9 b9 fun a9 y9 H10 s10 b10 => ?_⟩
      refine ⟨_, rfl, x, rfl, e1_step t s10 b10 fun a10 y10 H11 s11 b11 => ?_⟩
      refine ⟨_, rfl, x, rfl, e1_step t s11 b11 fun a11 y11 H12 s12 b12 => ?_⟩
      refine ⟨_, rfl, x, rfl, e1_step t s12 b12 fun a12 y12 H13 s13 b13 => ?_⟩
      refine ⟨_, rfl, x, rfl, e1_step t s13 b13 fun a13 y13 H14 s14 b14 => ?_⟩
      refine ⟨_, rfl, x, rfl, e1_step t s14 b14 fun a14 y14 H15 s15 b15 => ?_⟩
      refine ⟨_, rfl, x, rfl, e1_step t s15 b15 fun a15 y15 H16 s16 b16 => ?_⟩
      refine ⟨_, rfl, x, rfl, e1_step t s16 b16 fun a16 y16 H17 s17 b17 => ?_⟩
      refine ⟨_, rfl, x, rfl, e1_step t s17 b17 fun a17 y17 H18 s18 b18 => ?_⟩
      refine ⟨_, rfl, x, rfl, e1_step t s18 b18 fun a18 y18 H19 s19 b19 => ?_⟩
      exact ⟨by show 19 ≤ sizeLine; decide, fun l nl => q l _ _ _ (same_put (s := s19) nl) upd_same (b19.same (same_put (s := Same.refl H19) nl))⟩
theorem ok_doubles {f : Addr} {fd : FuncData} (F : Fun K "_law_doubles" "_law_doubles" s__law_doubles f fd) (T : Tk K mg Cz CE) (R : Ers P w K mg base Cz) : FnG P w K mg base CX0 5 f fd ["_law_thing_here", "_law_more", "_law_is_named"] (spDoubles K Cz) := by
  refine F.okG sc__law_doubles (fun vs H Q E h => ?_) (fun cdv A outer s H vs Q E quiet hr h => ?_)
  · obtain ⟨x1, x2, b, d1, d2, rfl, _⟩ := h
    rfl
  · obtain ⟨x1, x2, b, d1, d2, rfl, t1, t2, q⟩ := h
    refine ⟨_, (pss_cons (ps_if (pt_val (pv 2))
        (pss_one (ps_ret (pe_lst (pa_cons (pe_e2K R.eMerging quiet hr (by decide) (by rfl) (pk_cons (pv 1) (pk_cons (pv 0) pk_nil))) (pa_cons (pe_e2K R.eSeveral quiet hr (by decide) (by rfl) (pk_cons (pv 1) (pk_cons (pv 0) pk_nil))) (pa_cons (pe_e2K R.eTooMany quiet hr (by decide) (by rfl) (pk_cons (pv 1) (pk_cons (pv 0) pk_nil))) (pa_cons (pe_e2K R.eBadText quiet hr (by decide) (by rfl) (pk_cons (pv 1) (pk_cons (pv 0) pk_nil))) pa_nil)))))))
        pss_nil)
      (pss_one (ps_ret (pe_lst (pa_cons (pe_e2 R.eMerging quiet hr (by decide) (by rfl) (pa_cons (pv 0) (pa_cons (pv 1) pa_nil))) (pa_cons (pe_e2 R.eSeveral quiet hr (by decide) (by rfl) (pa_cons (pv 0) (pa_cons (pv 1) pa_nil))) (pa_cons (pe_e2 R.eTooMany quiet hr (by decide) (by rfl) (pa_cons (pv 0) (pa_cons (pv 1) pa_nil))) (pa_cons (pe_e2 R.eBadText quiet hr (by decide) (by rfl) (pa_cons (pv 0) (pa_cons (pv 1) pa_nil))) pa_nil)))))))), ?_⟩
    have b0 : Built2 K Cz d1 d2 0 [] [] [] H := ⟨rfl, rfl, rfl, fun i a y z h => by simp at h⟩
    have s0 : Same H H := Same.refl H
    cases b with
    | true =>
      refine ⟨_, rfl, true, rfl, iteT ?_⟩
      refine ⟨_, rfl, _, rfl, x1, x2, rfl, e2_step t1 t2 s0 b0 fun a0 y0 z0 H1 s1 b1 => ?_⟩
      refine ⟨_, rfl, _, rfl, x1, x2, rfl, e2_step t1 t2 s1 b1 fun a1 y1 z1 H2 s2 b2 => ?_⟩
      refine ⟨_, rfl, _, rfl, x1, x2, rfl, e2_step t1 t2 s2 b2 fun a2 y2 z2 H3 s3 b3 => ?_⟩
      refine ⟨_, rfl, _, rfl, x1, x2, rfl, e2_step t1 t2 s3 b3 fun a3 y3 z3 H4 s4 b4 => ?_⟩
      exact ⟨by show 4 ≤ sizeLine; decide, fun l nl => q l _ _ _ _ (same_put (s := s4) nl) upd_same (b4.same (same_put (s := Same.refl H4) nl))⟩
    | false =>
      refine ⟨_, rfl, false, rfl, iteF ?_⟩
      refine ⟨_, rfl, _, rfl, x1, x2, rfl, e2_step t1 t2 s0 b0 fun a0 y0 z0 H1 s1 b1 => ?_⟩
      refine ⟨_, rfl, _, rfl, x1, x2, rfl, e2_step t1 t2 s1 b1 fun a1 y1 z1 H2 s2 b2 => ?_⟩
      refine ⟨_, rfl, _, rfl, x1, x2, rfl, e2_step t1 t2 s2 b2 fun a2 y2 z2 H3 s3 b3 => ?_⟩
      refine ⟨_, rfl, _, rfl, x1, x2, rfl, e2_step t1 t2 s3 b3 fun a3 y3 z3 H4 s4 b4 => ?_⟩
      exact ⟨by show 4 ≤ sizeLine; decide, fun l nl => q l _ _ _ _ (same_put (s := s4) nl) upd_same (b4.same (same_put (s := Same.refl H4) nl))⟩
end
end V8

set_option Elab.async false
set_option linter.all false
set_option maxRecDepth 100000
set_option maxHeartbeats 16000000
set_option pp.maxSteps 3000
/-! A thing drawn. -/
namespace V8
open PySem PySem.Spec PyProof.Rows L2
abbrev s__law_thing : Stmt := topS 33
abbrev n__law_thing : List Str := ["_law_pen_here", "_law_some"]
theorem sc__law_thing : FnScope ["_law_pen_here", "_law_some"] ["_law_pen_here"] (defScope s__law_thing) := ⟨rfl, rfl, rfl, by decide +kernel, rfl, by decide +kernel, by decide +kernel⟩
theorem atName {i : Nat} {v : V} {σ : L2.St} {H : Hp} {Q : L2.St → Hp → Prop} (h : Q (σ.set i (some v)) H) : gName i v σ H Q := h
theorem PenAt.nep {H : Hp} {p l q : Addr} {ns : List Int} {n : Nat} (P : PenAt H p l ns n) (h : H q = none) : q ≠ p := by
  intro e
  subst e
  exact P.some' h
theorem pen_same {H H' : Hp} {p l : Addr} {ns : List Int} {n : Nat} (P : PenAt H p l ns n) (s : Same H H') : PenAt H' p l ns n := by
  obtain ⟨⟨a, g, h1, h2, h3, h4⟩, i, e, sh⟩ := P
  exact ⟨⟨a, g, s _ _ h1, h2, h3, h4⟩, s _ _ i, e, sh⟩
def spThing : Sp := fun vs H Q _ => ∃ (p l : Addr) (ns : List Int) (n : Nat), vs = [.ref p] ∧ PenAt H p l ns (n + 1) ∧ ∀ (v : V) (d : PyData) (H' : Hp), (∀ H2, Fr p H' H2 → Th1 H2 v d) → PenAt H' p l ns n → Fr p H H' → Q v H'
theorem flat_th {H : Hp} {x : V} {d : PyData} (f : Flat x) (p : PyW H x d) (t : Tells d) (s : d.shown.length ≤ 1000) (dp : d.depth ≤ 1) : Th1 H x d := ⟨.inl f, p, t, s, dp⟩
theorem tells_of {d : PyData} (h : (d.showable && decide (d.depth ≤ 1) && decide (d.shown.length ≤ 1000)) = true) : Tells d ∧ d.shown.length ≤ 1000 ∧ d.depth ≤ 1 := by
  rw [Bool.and_eq_true, Bool.and_eq_true, decide_eq_true_iff, decide_eq_true_iff] at h
  exact ⟨⟨h.1.1, by have := h.1.2; omega, by have := h.2; omega⟩, h.2, h.1.2⟩
theorem mk_th {H : Hp} {x : V} {d : PyData} (tl : Told2 H x) (p : PyW H x d) (h : (d.showable && decide (d.depth ≤ 1) && decide (d.shown.length ≤ 1000)) = true) : Th1 H x d := ⟨tl, p, (tells_of h).1, (tells_of h).2.1, (tells_of h).2.2⟩
section
variable {P : Program} {w : World} {K : PySem.W.Frag} {mg : Str → Option Value} {base : Heap}
theorem ok_thing {f : Addr} {fd : FuncData} (F : Fun K "_law_thing" "_law_thing" s__law_thing f fd) (T : Tq mg) (D_pick : Df P w K mg base 2 "_law_pick" (spPick K)) : FnOk P w K mg base CX0 3 f fd ["_law_pen_here"] spThing := by
  refine F.ok sc__law_thing (fun vs H Q E h => ?_) (fun cdv A outer s H vs Q E hr h => ?_)
  · obtain ⟨p, l, ns, n, rfl, _⟩ := h
    rfl
  · obtain ⟨p, l, ns, n, rfl, PA, q⟩ := h
    refine ⟨_, (pss_cons (ps_set (i := 1) sc__law_thing.nd rfl (.inl rfl) (pe_lst (pa_cons pe_non (pa_cons pe_bl (pa_cons pe_bl (pa_cons pe_int (pa_cons pe_int (pa_cons (pe_un un_neg pe_int) (pa_cons (pe_op op_pow pe_int pe_int) (pa_cons pe_str (pa_cons pe_str (pa_cons pe_str (pa_cons (pe_tup pa_nil) (pa_cons (pe_tup (pa_cons pe_str (pa_cons pe_int pa_nil))) (pa_cons (pe_lst pa_nil) (pa_cons (pe_lst (pa_cons pe_str pa_nil)) (pa_cons pe_dnewK (pa_cons (pe_disp (pps_cons pe_str pe_str pps_nil) (by rfl) (by rfl) (fun z => by cases z) (by decide)) (pa_cons pe_str pa_nil)))))))))))))))))))
      (pss_one (ps_ret (pe_c D_pick hr (by decide) (by rfl) (pa_cons (pv 0) (pa_cons (pv 1) pa_nil)))))), ?_⟩
    have s0 : Same H H := Same.refl H
    have e0 : ("" : Str).length ≤ 1000 := by decide +kernel
    refine ⟨_, rfl, 10, 59, rfl, rfl, ⟨by decide, by decide, by decide⟩, ?_⟩
    refine ⟨Nat.zero_le _, fun t1 n1 => ?_⟩
    have s_ := same_put (s := Same.refl H) (o := .tup []) n1
    have h1 : upd H t1 (.tup []) t1 = some (.tup []) := upd_same
    have p1 : t1 ≠ p := PA.nep n1
    replace PA := pen_same PA s_
    replace s0 : Same H (upd H t1 (.tup [])) := fun b o e => s_ _ _ (s0 _ _ e)
    generalize upd H t1 (.tup []) = H1 at PA s0 h1 ⊢
    clear s_ n1
    refine ⟨by show 2 ≤ sizeLine; decide, fun t2 n2 => ?_⟩
    have s_ := same_put (s := Same.refl H1) (o := .tup [.str "a", .int 1]) n2
    have h2 : upd H1 t2 (.tup [.str "a", .int 1]) t2 = some (.tup [.str "a", .int 1]) := upd_same
    have p2 : t2 ≠ p := PA.nep n2
    replace h1 := s_ _ _ h1
    replace PA := pen_same PA s_
    replace s0 : Same H (upd H1 t2 (.tup [.str "a", .int 1])) := fun b o e => s_ _ _ (s0 _ _ e)
    generalize upd H1 t2 (.tup [.str "a", .int 1]) = H2 at PA s0 h1 h2 ⊢
    clear s_ n2
    refine ⟨Nat.zero_le _, fun t3 n3 => ?_⟩
    have s_ := same_put (s := Same.refl H2) (o := .lst []) n3
    have h3 : upd H2 t3 (.lst []) t3 = some (.lst []) := upd_same
    have p3 : t3 ≠ p := PA.nep n3
    replace h1 := s_ _ _ h1
    replace h2 := s_ _ _ h2
    replace PA := pen_same PA s_
    replace s0 : Same H (upd H2 t3 (.lst [])) := fun b o e => s_ _ _ (s0 _ _ e)
    generalize upd H2 t3 (.lst []) = H3 at PA s0 h1 h2 h3 ⊢
    clear s_ n3
    refine ⟨by show 1 ≤ sizeLine; decide, fun t4 n4 => ?_⟩
    have s_ := same_put (s := Same.refl H3) (o := .lst [.str "e"]) n4
    have h4 : upd H3 t4 (.lst [.str "e"]) t4 = some (.lst [.str "e"]) := upd_same
    have p4 : t4 ≠ p := PA.nep n4
    replace h1 := s_ _ _ h1
    replace h2 := s_ _ _ h2
    replace h3 := s_ _ _ h3
    replace PA := pen_same PA s_
    replace s0 : Same H (upd H3 t4 (.lst [.str "e"])) := fun b o e => s_ _ _ (s0 _ _ e)
    generalize upd H3 t4 (.lst [.str "e"]) = H4 at PA s0 h1 h2 h3 h4 ⊢
    clear s_ n4
    refine fun t5 n5 => ?_
    have s_ := same_put (s := Same.refl H4) (o := .dK []) n5
    have h5 : upd H4 t5 (.dK []) t5 = some (.dK []) := upd_same
    have p5 : t5 ≠ p := PA.nep n5
    replace h1 := s_ _ _ h1
    replace h2 := s_ _ _ h2
    replace h3 := s_ _ _ h3
    replace h4 := s_ _ _ h4
    replace PA := pen_same PA s_
    replace s0 : Same H (upd H4 t5 (.dK [])) := fun b o e => s_ _ _ (s0 _ _ e)
    generalize upd H4 t5 (.dK []) = H5 at PA s0 h1 h2 h3 h4 h5 ⊢
    clear s_ n5
    refine fun t6 n6 => ⟨upd_same, [((Sum.inr "e" : Key), V.str "xc")], rfl, by show 1 ≤ 15; decide, ?_⟩
    rw [show mergeK [] [((Sum.inr "e" : Key), V.str "xc")] = [((Sum.inr "e" : Key), V.str "xc")] from rfl, upd_upd]
    have s_ := same_put (s := Same.refl H5) (o := .dK [((Sum.inr "e" : Key), V.str "xc")]) n6
    have h6 : upd H5 t6 (.dK [((Sum.inr "e" : Key), V.str "xc")]) t6 = some (.dK [((Sum.inr "e" : Key), V.str "xc")]) := upd_same
    have p6 : t6 ≠ p := PA.nep n6
    replace h1 := s_ _ _ h1
    replace h2 := s_ _ _ h2
    replace h3 := s_ _ _ h3
    replace h4 := s_ _ _ h4
    replace h5 := s_ _ _ h5
    replace PA := pen_same PA s_
    replace s0 : Same H (upd H5 t6 (.dK [((Sum.inr "e" : Key), V.str "xc")])) := fun b o e => s_ _ _ (s0 _ _ e)
    generalize upd H5 t6 (.dK [((Sum.inr "e" : Key), V.str "xc")]) = H6 at PA s0 h1 h2 h3 h4 h5 h6 ⊢
    clear s_ n6
    refine ⟨by show 17 ≤ sizeLine; decide, fun L nL => ?_⟩
    have hL : upd H6 L (.lst [V.non, V.bl true, V.bl false, V.int 0, V.int 1, V.int (-7), V.int (10 ^ (59 : Int).toNat), V.str "", V.str "a", V.str "xc", V.ref t1, V.ref t2, V.ref t3, V.ref t4, V.ref t5, V.ref t6, V.str "two words"]) L = some (.lst [V.non, V.bl true, V.bl false, V.int 0, V.int 1, V.int (-7), V.int (10 ^ (59 : Int).toNat), V.str "", V.str "a", V.str "xc", V.ref t1, V.ref t2, V.ref t3, V.ref t4, V.ref t5, V.ref t6, V.str "two words"]) := upd_same
    have pL : L ≠ p := PA.nep nL
    have s_ := same_put (s := Same.refl H6) (o := .lst [V.non, V.bl true, V.bl false, V.int 0, V.int 1, V.int (-7), V.int (10 ^ (59 : Int).toNat), V.str "", V.str "a", V.str "xc", V.ref t1, V.ref t2, V.ref t3, V.ref t4, V.ref t5, V.ref t6, V.str "two words"]) nL
    replace h1 := s_ _ _ h1
    replace h2 := s_ _ _ h2
    replace h3 := s_ _ _ h3
    replace h4 := s_ _ _ h4
    replace h5 := s_ _ _ h5
    replace h6 := s_ _ _ h6
    replace PA := pen_same PA s_
    replace s0 : Same H _ := fun b o e => s_ _ _ (s0 _ _ e)
    refine atName ?_
    try dsimp only
    refine ⟨_, rfl, _, rfl, p, l, L, ns, n, _, rfl, PA, SqL.of hL, by show 0 < 17; decide, by show 17 < 1000; decide, fun H' fr => SqL.of (fr _ _ hL pL), fun v H' hv PA2 fr2 => ?_⟩
    have fin : ∀ {x : V} {d : PyData}, (∀ H2, Fr p H' H2 → Th1 H2 x d) → Q x H' := fun th => q _ _ _ th PA2 fun b o e nb => fr2 _ _ (s0 _ _ e) nb
    replace h1 := fr2 _ _ h1 p1
    replace h2 := fr2 _ _ h2 p2
    replace h3 := fr2 _ _ h3 p3
    replace h4 := fr2 _ _ h4 p4
    replace h5 := fr2 _ _ h5 p5
    replace h6 := fr2 _ _ h6 p6
    simp only [List.mem_cons, List.not_mem_nil, or_false] at hv
    rcases hv with rfl | rfl | rfl | rfl | rfl | rfl | rfl | rfl | rfl | rfl | rfl | rfl | rfl | rfl | rfl | rfl | rfl
    · exact fin (fun H2 fr => mk_th (.inl (.inr (.inr (.inl rfl)))) .non (by decide +kernel))
    · exact fin (fun H2 fr => mk_th (.inl (.inr (.inr (.inr ⟨_, rfl⟩)))) (.bl _) (by decide +kernel))
    · exact fin (fun H2 fr => mk_th (.inl (.inr (.inr (.inr ⟨_, rfl⟩)))) (.bl _) (by decide +kernel))
    · exact fin (fun H2 fr => mk_th (.inl (.inr (.inl ⟨_, rfl⟩))) (.int _) (by decide +kernel))
    · exact fin (fun H2 fr => mk_th (.inl (.inr (.inl ⟨_, rfl⟩))) (.int _) (by decide +kernel))
    · exact fin (fun H2 fr => mk_th (.inl (.inr (.inl ⟨_, rfl⟩))) (.int _) (by decide +kernel))
    · exact fin (fun H2 fr => mk_th (.inl (.inr (.inl ⟨_, rfl⟩))) (.int _) (by decide +kernel))
    · exact fin (fun H2 fr => mk_th (.inl (.inl ⟨_, rfl⟩)) (.str _) (by decide +kernel))
    · exact fin (fun H2 fr => mk_th (.inl (.inl ⟨_, rfl⟩)) (.str _) (by decide +kernel))
    · exact fin (fun H2 fr => mk_th (.inl (.inl ⟨_, rfl⟩)) (.str _) (by decide +kernel))
    · exact fin (fun H2 fr => mk_th (.inr (.inl ⟨t1, [], rfl, .inl (fr _ _ h1 p1), by decide, fun y hy => (nomatch hy)⟩)) (.tup (fr _ _ h1 p1) .nil) (by decide +kernel))
    · exact fin (fun H2 fr => mk_th (.inr (.inl ⟨t2, _, rfl, .inl (fr _ _ h2 p2), by decide, fun y hy => by
        simp only [List.mem_cons, List.not_mem_nil, or_false] at hy
        rcases hy with rfl | rfl
        · exact .inl ⟨_, rfl⟩
        · exact .inr (.inl ⟨_, rfl⟩)⟩)) (.tup (fr _ _ h2 p2) (.cons (.str _) (.cons (.int _) .nil))) (by decide +kernel))
    · exact fin (fun H2 fr => mk_th (.inr (.inl ⟨t3, [], rfl, .inr (fr _ _ h3 p3), by decide, fun y hy => (nomatch hy)⟩)) (.lst (fr _ _ h3 p3) .nil) (by decide +kernel))
    · exact fin (fun H2 fr => mk_th (.inr (.inl ⟨t4, _, rfl, .inr (fr _ _ h4 p4), by decide, fun y hy => by
        rw [List.mem_singleton.mp hy]
        exact .inl ⟨_, rfl⟩⟩)) (.lst (fr _ _ h4 p4) (.cons (.str _) .nil)) (by decide +kernel))
    · exact fin (fun H2 fr => mk_th (.inr (.inr ⟨t5, [], rfl, (fr _ _ h5 p5), by decide, List.nodup_nil, fun y hy => (nomatch hy)⟩)) (.dic (fr _ _ h5 p5) .nil) (by decide +kernel))
    · exact fin (fun H2 fr => mk_th (.inr (.inr ⟨t6, _, rfl, (fr _ _ h6 p6), by decide, by decide, fun y hy => by
        rw [List.mem_singleton.mp hy]
        exact .inl ⟨_, rfl⟩⟩)) (.dic (fr _ _ h6 p6) (.cons (.str _) .nil)) (by decide +kernel))
    · exact fin (fun H2 fr => mk_th (.inl (.inl ⟨_, rfl⟩)) (.str _) (by decide +kernel))
end
end V8

set_option Elab.async false
set_option linter.all false
set_option maxRecDepth 100000
set_option maxHeartbeats 16000000
set_option pp.maxSteps 3000
/-! The law. -/
namespace V8
open PySem PySem.Spec PyProof.Rows L2
abbrev s_law : Stmt := topS 40
abbrev n_law : List Str := ["_law_script", "_law_pen_here", "_law_turn", "_law_thing_here", "_law_more", "_law_is_named", "_law_singles_here", "_law_doubles_here", "_law_k", "_law_error", "_law_heard", "_law_each", "_law_way"]
theorem sc_law : FnScope ["_law_script", "_law_pen_here", "_law_turn", "_law_thing_here", "_law_more", "_law_is_named", "_law_singles_here", "_law_doubles_here", "_law_k", "_law_error", "_law_heard", "_law_each", "_law_way"] ["_law_script"] (defScope s_law) := ⟨rfl, rfl, rfl, by decide +kernel, rfl, by decide +kernel, by decide +kernel⟩
abbrev scB : Scope := { kind := ScopeKind.function, names := [(".0", NameKind.local), ("_law_k", NameKind.cell), ("range", NameKind.globalImplicit)], isGenerator := false, isCoroutine := false }
def spLaw (K : PySem.W.Frag) : Sp := fun vs H Q _ => ∃ (a : Addr) (ns : List Int), vs = [.ref a] ∧ SqL K H a (ns.map V.int) ∧ ns.length ≤ 63 ∧ ∀ H', Q (.bl true) H'
def spCaught : Sp := fun vs H Q _ => ∃ i : Nat, vs = [.int (i : Nat)] ∧ i < 3 ∧ ∀ l H', Same H H' → H' l = some (.lst (kindV (([23, 24, 21] : List Nat).getD i 0))) → Q (.ref l) H'
theorem dp_map {K : PySem.W.Frag} {H : Hp} {α : Type} (f : α → V) (g : α → PyData) (h : ∀ a, Dp K H (f a) (g a)) : ∀ l : List α, DpAll K H (l.map f) (l.map g)
  | [] => .nil
  | a :: r => .cons (h a) (dp_map f g h r)
theorem lay_map {α : Type} (g : α → PyData) : ∀ l : List α, (∀ a ∈ l, (g a).canLay0 = true) → PyData.canLayAll0 (l.map g) = true
  | [], _ => by simp [PyData.canLayAll0]
  | a :: r, h => by
    have ih := lay_map g r fun x hx => h x (List.mem_cons_of_mem _ hx)
    simp only [List.map_cons, PyData.canLayAll0, h a (List.mem_cons_self ..), Bool.true_and]
    exact ih
theorem depth_map {α : Type} (g : α → PyData) (n : Nat) (h : ∀ a, (g a).depth = n) : ∀ l : List α, PyData.depthAll (l.map g) ≤ n
  | [] => by simp [PyData.depthAll]
  | a :: r => by
    have ih := depth_map g n h r
    simp only [List.map_cons, PyData.depthAll, h a]
    omega
theorem shaped_map {α : Type} (g : α → PyData) (n : Nat) (hn : n ≤ 60) (l : List α) (h1 : ∀ a ∈ l, (g a).canLay0 = true) (h2 : ∀ a, (g a).depth = n) : SeqAt.shaped (.list (l.map g)) = true := by
  have h3 : PyData.depth (.list (l.map g)) ≤ 64 := by
    have := depth_map g n h2 l
    simp only [PyData.depth]
    omega
  show (PyData.canLay0 (.list (l.map g)) && decide (PyData.depth (.list (l.map g)) ≤ 64)) = true
  rw [Bool.and_eq_true]
  exact ⟨by simp only [PyData.canLay0]; exact lay_map g l h1, decide_eq_true h3⟩
theorem lay_of {d : PyData} (h : SeqAt.shaped d = true) : d.canLay0 = true := by
  have h' : (PyData.canLay0 d && decide (PyData.depth d ≤ 64)) = true := h
  exact (Bool.and_eq_true _ _ ▸ h').1
theorem eq_same {K : PySem.W.Frag} {H : Hp} {Q : VK} {x y : V} {d : PyData} (hx : Dp K H x d) (hy : Dp K H y d) (sh : SeqAt.shaped d = true) (q : Q (.bl true) H) : rEqD K x y H Q := by
  refine ⟨d, d, hx, hy, sh, sh, ?_⟩
  rw [SeqAt.eqv_refl d (lay_of sh)]
  exact q
theorem neD_same {K : PySem.W.Frag} {H : Hp} {Q : VK} {x y : V} {d : PyData} (hx : Dp K H x d) (hy : Dp K H y d) (sh : SeqAt.shaped d = true) (q : Q (.bl false) H) : rNeD K x y H Q := by
  refine ⟨d, d, hx, hy, sh, sh, ?_⟩
  rw [SeqAt.eqv_refl d (lay_of sh)]
  exact q
theorem sh_int (i : Int) : SeqAt.shaped (.int i) = true := by
  show (PyData.canLay0 (.int i) && decide (PyData.depth (.int i) ≤ 64)) = true
  simp only [PyData.canLay0, PyData.depth]
  rfl
theorem eq_ints {K : PySem.W.Frag} {H : Hp} {Q : VK} {i j : Nat} (q : Q (.bl (decide (i = j))) H) : rEqD K (.int (i : Nat)) (.int (j : Nat)) H Q := by
  refine ⟨.int (i : Nat), .int (j : Nat), .int _, .int _, sh_int _, sh_int _, ?_⟩
  have e : PyData.eqv (.int (i : Nat)) (.int (j : Nat)) = decide (i = j) := by
    simp only [PyData.eqv]
    by_cases h : i = j
    · subst h
      simp
    · have h2 : ¬ ((i : Nat) : Int) = (j : Nat) := fun z => h (by omega)
      simp [h, h2]
  rw [e]
  exact q
def kindD (i : Nat) : PyData := .list ((List.range 25).map fun j => .bool (decide (i = j)))
theorem kind_dp {K : PySem.W.Frag} {H : Hp} {l : Addr} {i : Nat} (h : H l = some (.lst (kindV i))) : Dp K H (.ref l) (kindD i) := .lst (SqL.of h) (dp_map _ _ (fun j => .bl _) _)
theorem kind_shaped (i : Nat) : SeqAt.shaped (kindD i) = true := shaped_map _ 0 (by decide) _ (fun _ _ => by simp only [PyData.canLay0]) fun _ => by simp only [PyData.depth]
theorem pyws_rep {H : Hp} {x : V} {d : PyData} (p : PyW H x d) : ∀ n : Nat, PyWs H (List.replicate n x) (List.replicate n d)
  | 0 => .nil
  | n + 1 => by
    rw [List.replicate_succ, List.replicate_succ]
    exact .cons p (pyws_rep p n)
theorem pyws_all {H : Hp} {d : PyData} : ∀ {ys : List V}, (∀ y ∈ ys, PyW H y d) → PyWs H ys (List.replicate ys.length d)
  | [], _ => .nil
  | y :: r, h => by
    rw [List.length_cons, List.replicate_succ]
    exact .cons (h y List.mem_cons_self) (pyws_all fun z hz => h z (List.mem_cons_of_mem _ hz))
theorem built_pys {K : PySem.W.Frag} {Cz : Nat → Addr} {d : PyData} {n : Nat} {as : List Addr} {ys : List V} {H : Hp} (b : Built K Cz d n as ys H) : PyWs H ys (List.replicate n d) := by
  have h := pyws_all (H := H) (d := d) (ys := ys) fun y hy => by
    obtain ⟨i, hi, rfl⟩ := List.getElem_of_mem hy
    have ha : i < as.length := by rw [b.la, ← b.ly]; exact hi
    exact (b.at_ i as[i] ys[i] (List.getElem?_eq_getElem ha) (List.getElem?_eq_getElem hi)).2
  rw [b.ly] at h
  exact h
theorem show_rep {d : PyData} (h : d.showable = true) : ∀ n : Nat, PyData.showableAll (List.replicate n d) = true
  | 0 => by simp [PyData.showableAll]
  | n + 1 => by
    rw [List.replicate_succ]
    simp only [PyData.showableAll, h, show_rep h n, Bool.and_self]
theorem depth_rep {d : PyData} {k : Nat} (h : d.depth ≤ k) : ∀ n : Nat, PyData.depthAll (List.replicate n d) ≤ k
  | 0 => by simp [PyData.depthAll]
  | n + 1 => by
    rw [List.replicate_succ]
    have := depth_rep h n
    simp only [PyData.depthAll]
    omega
theorem shown_rep {d : PyData} : ∀ n : Nat, ((PyData.shownAll (List.replicate n d)).map (·.length)).sum = n * d.shown.length ∧ (PyData.shownAll (List.replicate n d)).length = n
  | 0 => by simp [PyData.shownAll]
  | n + 1 => by
    obtain ⟨h1, h2⟩ := shown_rep (d := d) n
    rw [List.replicate_succ]
    simp only [PyData.shownAll, List.map_cons, List.sum_cons, List.length_cons, h1, h2]
    rw [Nat.add_mul, Nat.one_mul, Nat.add_comm]
    exact ⟨rfl, trivial⟩
theorem tells_rep {d : PyData} {n : Nat} (hn : n ≤ 19) (h1 : d.showable = true) (h2 : d.depth ≤ 2) (h3 : d.shown.length ≤ 3000) : Tells (.list (List.replicate n d)) := by
  refine ⟨by simp only [PyData.showable]; exact show_rep h1 n, by have := depth_rep h2 n; simp only [PyData.depth]; omega, ?_⟩
  have e : (PyData.list (List.replicate n d)).shown = listText (PyData.shownAll (List.replicate n d)) := by simp only [PyData.shown]
  have t := listText_len_le (PyData.shownAll (List.replicate n d))
  obtain ⟨s1, s2⟩ := shown_rep (d := d) n
  rw [s1, s2] at t
  rw [e]
  have := Nat.mul_le_mul hn h3
  omega
theorem pair_tells {d1 d2 : PyData} (a : Tells d1) (a1 : d1.shown.length ≤ 1000) (a2 : d1.depth ≤ 1) (b : Tells d2) (b1 : d2.shown.length ≤ 1000) (b2 : d2.depth ≤ 1) : (PyData.list [d1, d2]).showable = true ∧ (PyData.list [d1, d2]).depth ≤ 2 ∧ (PyData.list [d1, d2]).shown.length ≤ 3000 := by
  refine ⟨by simp only [PyData.showable, PyData.showableAll, a.sh, b.sh, Bool.and_self], by simp only [PyData.depth, PyData.depthAll]; omega, ?_⟩
  have e : (PyData.list [d1, d2]).shown = listText [d1.shown, d2.shown] := by simp only [PyData.shown, PyData.shownAll]
  have t := listText_len_le [d1.shown, d2.shown]
  simp only [List.map_cons, List.map_nil, List.sum_cons, List.sum_nil, List.length_cons, List.length_nil] at t
  rw [e]
  omega
def kz (j : Nat) : Nat := ([23, 24, 21] : List Nat).getD j 0
theorem three_shaped : SeqAt.shaped (.list [kindD 23, kindD 24, kindD 21]) = true := by decide +kernel
/-- lists of what each is, in a list -/
structure Kls (H : Hp) (D : Addr) (qs : List Addr) : Prop where
  at_ : H D = some (.lst (qs.map V.ref))
  ks : ∀ (j : Nat) (b : Addr), qs[j]? = some b → H b = some (.lst (kindV (kz j)))
theorem kind_ne {H : Hp} {b D : Addr} {i : Nat} {xs : List V} (hb : H b = some (.lst (kindV i))) (hD : H D = some (.lst xs)) (l : xs.length ≤ 20) : b ≠ D := ne_of hb hD fun z => by
  have e : kindV i = xs := by
    injection z
  rw [← e] at l
  unfold kindV at l
  rw [List.length_map, List.length_range] at l
  omega
theorem Kls.snoc {H H2 : Hp} {D l : Addr} {qs : List Addr} (k : Kls H D qs) (s : Same H H2) (hl : H2 l = some (.lst (kindV (kz qs.length)))) (few : qs.length ≤ 3) : Kls (upd H2 D (.lst (qs.map V.ref ++ [.ref l]))) D (qs ++ [l]) := by
  have hD2 := s _ _ k.at_
  refine ⟨by rw [upd_same, List.map_append]; rfl, fun j b h => ?_⟩
  by_cases hj : j < qs.length
  · rw [List.getElem?_append_left hj] at h
    have hb := s _ _ (k.ks j b h)
    rw [upd_ne (kind_ne hb hD2 (by rw [List.length_map]; omega))]
    exact hb
  · have hi : j < (qs ++ [l]).length := (List.getElem?_eq_some_iff.mp h).1
    rw [List.length_append] at hi
    have e : j = qs.length := by
      have : j < qs.length + 1 := hi
      omega
    subst e
    rw [List.getElem?_append_right (Nat.le_refl _), Nat.sub_self] at h
    cases h
    rw [upd_ne (kind_ne hl hD2 (by rw [List.length_map]; omega))]
    exact hl
theorem Kls.same {H H2 : Hp} {D : Addr} {qs : List Addr} (k : Kls H D qs) (s : Same H H2) : Kls H2 D qs := ⟨s _ _ k.at_, fun j b h => s _ _ (k.ks j b h)⟩
theorem Kls.dp {K : PySem.W.Frag} {H : Hp} {D : Addr} {qs : List Addr} (k : Kls H D qs) (l : qs.length = 3) : Dp K H (.ref D) (.list [kindD 23, kindD 24, kindD 21]) := by
  match qs, l, k with
  | [b0, b1, b2], _, k => exact .lst (SqL.of k.at_) (.cons (kind_dp (k.ks 0 b0 rfl)) (.cons (kind_dp (k.ks 1 b1 rfl)) (.cons (kind_dp (k.ks 2 b2 rfl)) .nil)))
/-- the 25 errors, in one list -/
def ErrL (K : PySem.W.Frag) (Cz : Nat → Addr) (H : Hp) (xs : List V) : Prop := xs.length = 25 ∧ ∀ (i : Nat) (y : V), xs[i]? = some y → ∃ a, y = .ref a ∧ ErrAt K H a (Cz i)
theorem err_list {K : PySem.W.Frag} {Cz : Nat → Addr} {d d1 d2 : PyData} {as bs : List Addr} {ys us ws : List V} {H : Hp} {n1 n2 : Addr} (A : Built K Cz d 19 as ys H) (B : Built2 K Cz d1 d2 4 bs us ws H) (h1 : KeptN K H n1 (Cz 23)) (h2 : KeptN K H n2 (Cz 24)) : ErrL K Cz H (as.map V.ref ++ bs.map V.ref ++ [.ref n1, .ref n2]) := by
  have la : (as.map V.ref).length = 19 := by rw [List.length_map, A.la]
  have lb : (bs.map V.ref).length = 4 := by rw [List.length_map, B.la]
  refine ⟨by rw [List.length_append, List.length_append, la, lb]; rfl, fun i y hy => ?_⟩
  by_cases i1 : i < 19
  · rw [List.append_assoc, List.getElem?_append_left (by rw [la]; exact i1), List.getElem?_map] at hy
    have hi : i < as.length := by rw [A.la]; exact i1
    have hj : i < ys.length := by rw [A.ly]; exact i1
    rw [List.getElem?_eq_getElem hi] at hy
    cases hy
    exact ⟨as[i], rfl, .inl ⟨_, (A.at_ i as[i] ys[i] (List.getElem?_eq_getElem hi) (List.getElem?_eq_getElem hj)).1⟩⟩
  · rw [List.append_assoc, List.getElem?_append_right (by rw [la]; omega), la] at hy
    by_cases i2 : i < 23
    · have hi : i - 19 < bs.length := by rw [B.la]; omega
      have hj : i - 19 < us.length := by rw [B.ly]; omega
      have hk : i - 19 < ws.length := by rw [B.lz]; omega
      rw [List.getElem?_append_left (by rw [lb]; omega), List.getElem?_map, List.getElem?_eq_getElem hi] at hy
      cases hy
      have k := (B.at_ (i - 19) bs[i - 19] us[i - 19] ws[i - 19] (List.getElem?_eq_getElem hi) (List.getElem?_eq_getElem hj) (List.getElem?_eq_getElem hk)).1
      rw [show 19 + (i - 19) = i by omega] at k
      exact ⟨bs[i - 19], rfl, .inl ⟨_, k⟩⟩
    · rw [List.getElem?_append_right (by rw [lb]; omega), lb] at hy
      have hi : i < 25 := by
        have := (List.getElem?_eq_some_iff.mp hy).1
        have : i - 19 - 4 < 2 := this
        omega
      rcases (by omega : i = 23 ∨ i = 24) with rfl | rfl
      · cases hy
        exact ⟨n1, rfl, .inr h1⟩
      · cases hy
        exact ⟨n2, rfl, .inr h2⟩
section
variable {P : Program} {w : World} {K : PySem.W.Frag} {mg : Str → Option Value} {base : Heap} {Cz : Nat → Addr} {CE : Addr}
theorem ok_law {f : Addr} {fd : FuncData} (F : Fun K "law" "law" s_law f fd) (T : Tk K mg Cz CE) (sys : SysIn base) (R : Ers P w K mg base Cz) (D_pen : Df P w K mg base 1 "_law_pen" (spPen K)) (D_draw : Df P w K mg base 1 "_law_draw" spDraw) (D_thing : Df P w K mg base 3 "_law_thing" spThing)
    (D_singles : DfG P w K mg base CX0 5 "_law_singles" (spSingles K Cz)) (D_doubles : DfG P w K mg base CX0 5 "_law_doubles" (spDoubles K Cz)) (D_kinds : Df P w K mg base 1 "_law_kinds" (spKinds K Cz)) (D_single_fields : Df P w K mg base 1 "_law_single_fields" (spSF K Cz)) (D_double_fields : Df P w K mg base 1 "_law_double_fields" (spDF K Cz))
    (D_caught : DfG P w K mg base CX0 6 "_law_caught" spCaught) : FnG P w K mg base CX0 8 f fd ["_law_script"] (spLaw K) := by
  refine F.okG sc_law (fun vs H Q E h => ?_) (fun cdv A outer s H vs Q E quiet hr h => ?_)
  · obtain ⟨a, ns, rfl, _⟩ := h
    rfl
  · obtain ⟨a, ns, rfl, hS, hn, q⟩ := h
    refine ⟨_, (pss_cons (ps_set (i := 1) sc_law.nd rfl (.inl rfl) (pe_c D_pen hr (by decide) (by rfl) (pa_cons (pv 0) pa_nil)))
      (pss_cons (ps_for PassesOwn.never rfl (pi_range1 (by rfl) T.range (pa_cons pe_int pa_nil)) (pg_name (i := 2) sc_law.nd rfl (.inl rfl))
        (pss_cons (ps_asg (pe_tup (pa_cons (pe_c D_thing hr (by decide) (by rfl) (pa_cons (pv 1) pa_nil)) (pa_cons (pe_c D_thing hr (by decide) (by rfl) (pa_cons (pv 1) pa_nil)) pa_nil))) (pg_tup (by rfl) (pgs_cons (pg_name (i := 3) sc_law.nd rfl (.inr rfl)) (pgs_cons (pg_name (i := 4) sc_law.nd rfl (.inr rfl)) pgs_nil))))
        (pss_cons (ps_set (i := 5) sc_law.nd rfl (.inl rfl) (pe_cmpR op_eq (pe_c D_draw hr (by decide) (by rfl) (pa_cons (pv 1) (pa_cons pe_int pa_nil))) pe_int (nomark _)))
        (pss_cons (ps_par (i := 6) (j := 7) (by rfl) sc_law.nd rfl rfl (by decide) rfl rfl (pa_cons (pe_cG D_singles quiet pass0 hr (by decide) (by rfl) (pa_cons (pv 3) (pa_cons (pv 5) pa_nil))) (pa_cons (pe_cG D_doubles quiet pass0 hr (by decide) (by rfl) (pa_cons (pv 3) (pa_cons (pv 4) (pa_cons (pv 5) pa_nil)))) pa_nil)) (by rfl))
        (pss_cons (ps_for PassesOwn.never rfl (pi_enum (by rfl) T.enumerate (pa_cons (pe_op op_cat (pe_op op_cat (pv 6) (pv 7)) (pe_lst (pa_cons (pe_e0 R.eNoImage quiet hr (by decide) (by rfl)) (pa_cons (pe_e0 R.eNothing quiet hr (by decide) (by rfl)) pa_nil)))) pa_nil)) (pg_tup (by rfl) (pgs_cons (pg_name (i := 8) sc_law.nd rfl (.inr rfl)) (pgs_cons (pg_name (i := 9) sc_law.nd rfl (.inl rfl)) pgs_nil)))
          (pss_cons (ps_if (pt_cmpR (op_neDK (K := K) rfl hr.units) (pe_c D_kinds hr (by decide) (by rfl) (pa_cons (pv 9) pa_nil)) (pe_lc (own := [("_law_each", 11)]) (g := gName 11) (by rfl) sc_law.nd (pi_range1 (by rfl) T.range (pa_cons pe_int pa_nil)) (blkOk_by (own := [("_law_each", 11)]) (N := n_law) (sc := defScope s_law) (by decide +kernel)) (fun _ _ _ _ _ => (pg_name (i := 11) sc_law.nd rfl (.inl rfl))) (fun _ _ _ _ _ => pts_nil) (fun _ _ _ _ _ => (pe_cmpR (op_eqDK (K := K) rfl hr.units) (pv 8) (pv 11) (nomark _)))) (nomark _))
            (pss_one (ps_ret pe_bl))
            pss_nil)
          (pss_one (ps_if (PW.pt (pw_or (pt_not (pt_val (pe_callB call_isE (by rfl) T.isinstance (by decide +kernel) (pa_cons (pv 9) (pa_cons (pe_gv T.gRepairError (by rfl)) pa_nil))))) (pw_or1 (pt_not (pt_val (pe_callB call_isE (by rfl) T.isinstance (by decide +kernel) (pa_cons (pv 9) (pa_cons (pe_bltn (v := .ty "ValueError") (by rfl) T.ValueError (by decide +kernel) rfl) pa_nil))))))))
            (pss_one (ps_ret pe_bl))
            pss_nil))))
        (pss_cons (ps_if (pt_cmpR op_ne (pe_callB (call_reprW sys quiet hr) (by rfl) T.repr (by decide +kernel) (pa_cons (pe_c D_single_fields hr (by decide) (by rfl) (pa_cons (pv 6) pa_nil)) pa_nil)) (pe_callB (call_reprW sys quiet hr) (by rfl) T.repr (by decide +kernel) (pa_cons (pe_lc (own := [("_law_each", 11)]) (g := gName 11) (by rfl) sc_law.nd (pi_range1 (by rfl) T.range (pa_cons pe_int pa_nil)) (blkOk_by (own := [("_law_each", 11)]) (N := n_law) (sc := defScope s_law) (by decide +kernel)) (fun _ _ _ _ _ => (pg_name (i := 11) sc_law.nd rfl (.inl rfl))) (fun _ _ _ _ _ => pts_nil) (fun _ _ _ _ _ => (pv 3))) pa_nil)) (nomark _))
          (pss_one (ps_ret pe_bl))
          pss_nil)
        (pss_one (ps_if (pt_cmpR op_ne (pe_callB (call_reprW sys quiet hr) (by rfl) T.repr (by decide +kernel) (pa_cons (pe_c D_double_fields hr (by decide) (by rfl) (pa_cons (pv 7) pa_nil)) pa_nil)) (pe_callB (call_reprW sys quiet hr) (by rfl) T.repr (by decide +kernel) (pa_cons (pe_lc (own := [("_law_each", 11)]) (g := gName 11) (by rfl) sc_law.nd (pi_range1 (by rfl) T.range (pa_cons pe_int pa_nil)) (blkOk_by (own := [("_law_each", 11)]) (N := n_law) (sc := defScope s_law) (by decide +kernel)) (fun _ _ _ _ _ => (pg_name (i := 11) sc_law.nd rfl (.inl rfl))) (fun _ _ _ _ _ => pts_nil) (fun _ _ _ _ _ => (pe_lst (pa_cons (pv 3) (pa_cons (pv 4) pa_nil))))) pa_nil)) (nomark _))
          (pss_one (ps_ret pe_bl))
          pss_nil))))))))
      (pss_cons (ps_setLc (i := 10) (own := [("_law_way", 12)]) (g := gName 12) (by rfl) sc_law.nd rfl rfl (sw_true rfl rfl rfl (by decide +kernel)) (pi_range1 (by rfl) T.range (pa_cons pe_int pa_nil)) (blkOk_by (own := [("_law_way", 12)]) (N := n_law) (sc := defScope s_law) (by decide +kernel)) (fun _ _ _ _ _ => (pg_name (i := 12) sc_law.nd rfl (.inl rfl))) (fun _ _ _ _ _ => pts_nil) (fun _ _ _ _ _ => (pe_cG D_caught quiet pass0 hr (by decide) (by rfl) (pa_cons (pv 12) pa_nil))))
      (pss_one (ps_ret (pe_cmpR (op_eqDK (K := K) rfl hr.units) (pv 10) (pe_lc (own := [("_law_k", 8)]) (g := gName 8) (by rfl) sc_law.nd (pi_list (pe_lst (pa_cons pe_int (pa_cons pe_int (pa_cons pe_int pa_nil))))) (blkOk_by (own := [("_law_k", 8)]) (N := n_law) (sc := defScope s_law) (by decide +kernel)) (fun _ _ _ _ _ => (pg_name (i := 8) sc_law.nd rfl (.inr rfl))) (fun _ _ _ _ _ => pts_nil) (fun _ _ _ _ _ => (pe_lc (own := [("_law_each", 11)]) (g := gName 11) (by rfl) sc_law.nd (pi_range1 (by rfl) T.range (pa_cons pe_int pa_nil)) (blkOk_by (own := [("_law_each", 11)]) (N := n_law) (sc := scB) (by decide +kernel)) (fun _ _ _ _ _ => (pg_name (i := 11) sc_law.nd rfl (.inl rfl))) (fun _ _ _ _ _ => pts_nil) (fun _ _ _ _ _ => (pe_cmpR (op_eqDK (K := K) rfl hr.units) (pv 8) (pv 11) (nomark _)))))) (nomark _))))))), ?_⟩
    -- the pen
    refine ⟨_, rfl, a, ns, rfl, hS, hn, fun p l H1 np s1 PA1 => ?_⟩
    -- the turns
    refine ⟨_, rfl, by decide, by decide, for_it (walk_range (lo := 0) (n := 4)) (fun i σ H2 => (∃ v2 v3 v4 v5 v6 v7 v8 v9 : Option V, σ = [some (.ref a), some (.ref p), v2, v3, v4, v5, v6, v7, v8, v9, none, none, none]) ∧ PenAt H2 p l ns (10 * (4 - i))) ⟨⟨none, none, none, none, none, none, none, none, rfl⟩, PA1.less (by omega)⟩ (fun _ _ _ _ _ => trivial) ?_ ?_⟩
    · rintro i z σ H20 H2 hi ⟨⟨v2, v3, v4, v5, v6, v7, v8, v9, rfl⟩, PA2⟩ ⟨rfl, rfl⟩
      have hb : 10 * (4 - i) = 10 * (4 - (i + 1)) + 10 := by omega
      rw [hb] at PA2
      generalize 10 * (4 - (i + 1)) = n at PA2 ⊢
      -- two things
      refine ⟨_, rfl, p, l, ns, n + 8, rfl, PA2.less (by omega), fun x1 d1 H3 th1 PA3 fr3 => ?_⟩
      refine ⟨_, rfl, p, l, ns, n + 6, rfl, PA3.less (by omega), fun x2 d2 H4 th2 PA4 fr4 => ?_⟩
      refine ⟨by show 2 ≤ sizeLine; decide, fun tq ntq => ⟨tq, [x1, x2], rfl, .inl (.inl upd_same), rfl, _, _, rfl, _, _, rfl, rfl, ?_⟩⟩
      have t1 := th1 _ fr4
      have s5 := same_put (s := Same.refl H4) (o := .tup [x1, x2]) ntq
      have th1' : ∀ H2, Fr p (upd H4 tq (.tup [x1, x2])) H2 → Th1 H2 x1 d1 := fun H2 f => th1 H2 fun b o e nb => f _ _ (s5 _ _ (fr4 _ _ e nb)) nb
      have th2' : ∀ H2, Fr p (upd H4 tq (.tup [x1, x2])) H2 → Th1 H2 x2 d2 := fun H2 f => th2 H2 fun b o e nb => f _ _ (s5 _ _ e) nb
      have PA5 := pen_same PA4 s5
      generalize upd H4 tq (.tup [x1, x2]) = H5 at th1' th2' PA5 ⊢
      clear s5 t1 th1 th2 PA3 PA4 fr3 fr4 PA2 ntq
      try dsimp only
      -- by name
      refine ⟨_, rfl, p, l, ns, n + 4, 2, rfl, PA5.less (by omega), by decide, by decide, fun v H6 v0 v1 PA6 fr6 => ⟨rfl, ?_⟩⟩
      generalize decide (V.int v = V.int 0) = b
      have t1 := th1' _ fr6
      have t2 := th2' _ fr6
      clear th1' th2' PA5 fr6 v0 v1
      refine atName ?_
      try dsimp only
      -- the errors
      refine ⟨_, rfl, _, rfl, x1, b, d1, rfl, t1, fun ls as ys H7 s7 hls B7 => ?_⟩
      have PA7 := pen_same PA6 s7
      have t1' := t1.same s7
      have t2' := t2.same s7
      refine ⟨_, rfl, _, rfl, _, rfl, x1, x2, b, d1, d2, rfl, t1', t2', fun ld bs us ws H8 s8 hld B8 => ?_⟩
      have PA8 := pen_same PA7 s8
      have hls8 := s8 _ _ hls
      have A8 := B7.same s8
      replace t1 := t1'.same s8
      replace t2 := t2'.same s8
      clear s7 s8 PA6 PA7 t1' t2' hls B7
      refine ⟨_, _, rfl, ?_⟩
      try dsimp only
      -- in one list
      refine ⟨_, rfl, _, rfl, ls, ld, as.map V.ref, bs.map V.ref, rfl, rfl, hls8, hld, by rw [List.length_map, List.length_map, A8.la, B8.la]; decide, fun l3 nl3 => ?_⟩
      have s9 := same_put (s := Same.refl H8) (o := .lst (as.map V.ref ++ bs.map V.ref)) nl3
      have hl3 : upd H8 l3 (.lst (as.map V.ref ++ bs.map V.ref)) l3 = some (.lst (as.map V.ref ++ bs.map V.ref)) := upd_same
      have PA9 := pen_same PA8 s9
      have hls9 := s9 _ _ hls8
      have hld9 := s9 _ _ hld
      have A9 := A8.same s9
      have B9 := B8.same s9
      replace t1 := t1.same s9
      replace t2 := t2.same s9
      generalize upd H8 l3 (.lst (as.map V.ref ++ bs.map V.ref)) = H9 at hl3 PA9 hls9 hld9 A9 B9 t1 t2 ⊢
      clear s9 nl3 PA8 hls8 hld A8 B8
      refine fun n1 H10 nn1 s10 hn1 => fun n2 H11 nn2 s11 hn2 => ⟨by show 2 ≤ sizeLine; decide, fun l4 nl4 => ?_⟩
      have s12 := same_put (s := Same.refl H11) (o := .lst [.ref n1, .ref n2]) nl4
      have hl4 : upd H11 l4 (.lst [.ref n1, .ref n2]) l4 = some (.lst [.ref n1, .ref n2]) := upd_same
      have s9c : Same H9 (upd H11 l4 (.lst [.ref n1, .ref n2])) := fun b o e => s12 _ _ (s11 _ _ (s10 _ _ e))
      replace hn1 := s12 _ _ (s11 _ _ hn1)
      replace hn2 := s12 _ _ hn2
      replace hl3 := s9c _ _ hl3
      have PAc := pen_same PA9 s9c
      have hlsc := s9c _ _ hls9
      have hldc := s9c _ _ hld9
      have Ac := A9.same s9c
      have Bc := B9.same s9c
      replace t1 := t1.same s9c
      replace t2 := t2.same s9c
      generalize upd H11 l4 (.lst [.ref n1, .ref n2]) = Hc at hl3 hl4 hn1 hn2 PAc hlsc hldc Ac Bc t1 t2 ⊢
      clear s9c s10 s11 s12 nl4 nn1 nn2 PA9 hls9 hld9 A9 B9
      refine ⟨l3, l4, as.map V.ref ++ bs.map V.ref, [.ref n1, .ref n2], rfl, rfl, hl3, hl4, by rw [List.length_append, List.length_map, List.length_map, Ac.la, Bc.la]; show 19 + 4 + 2 ≤ sizeLine; decide, fun l5 nl5 => ?_⟩
      obtain ⟨xs, exs⟩ : ∃ xs, xs = as.map V.ref ++ bs.map V.ref ++ [.ref n1, .ref n2] := ⟨_, rfl⟩
      rw [← exs]
      have sd := same_put (s := Same.refl Hc) (o := .lst xs) nl5
      have hl5 : upd Hc l5 (.lst xs) l5 = some (.lst xs) := upd_same
      have EL : ErrL K Cz Hc xs := by
        rw [exs]
        exact err_list Ac Bc ⟨hn1, R.eNoImage.xc⟩ ⟨hn2, R.eNothing.xc⟩
      have hxs := EL.1
      have PAd := pen_same PAc sd
      have hlsd := sd _ _ hlsc
      have hldd := sd _ _ hldc
      have Ad := Ac.same sd
      have Bd := Bc.same sd
      replace t1 := t1.same sd
      replace t2 := t2.same sd
      have ELd : ErrL K Cz (upd Hc l5 (.lst xs)) xs := ⟨EL.1, fun i y hy => by
        obtain ⟨a, e, h⟩ := EL.2 i y hy
        exact ⟨a, e, h.same sd⟩⟩
      generalize upd Hc l5 (.lst xs) = Hd at hl5 PAd hlsd hldd Ad Bd t1 t2 ELd ⊢
      clear sd nl5 hl3 hl4 hn1 hn2 PAc hlsc hldc Ac Bc EL exs
      refine ⟨l5, xs, rfl, SqL.of hl5, for_it walk_enum (fun k σ H2 => (∃ v8 v9 : Option V, σ = [some (.ref a), some (.ref p), some (.int (0 + (i : Nat))), some x1, some x2, some (.bl b), some (.ref ls), some (.ref ld), v8, v9, none, none, none]) ∧ Same Hd H2) ⟨⟨_, _, rfl⟩, Same.refl Hd⟩ (fun _ _ _ _ h => SqL.of (h.2 _ _ hl5)) ?_ ?_⟩
      · rintro k z σ H12 H13 hk ⟨⟨v8', v9', rfl⟩, s12⟩ ⟨tq2, x, y, rfl, nt2, rfl, ex, hy⟩
        cases ex
        have hk25 : k < 25 := by omega
        obtain ⟨e, rfl, err⟩ := ELd.2 k y hy
        have s13 := same_put (s := s12) (o := .tup [.int (k : Nat), .ref e]) nt2
        refine ⟨tq2, _, rfl, .inl (.inl upd_same), rfl, _, _, rfl, _, _, rfl, rfl, ?_⟩
        generalize upd H12 tq2 (.tup [.int (k : Nat), .ref e]) = H14 at s13 ⊢
        clear s12 nt2
        have err2 := err.same s13
        refine ⟨_, rfl, e, k, rfl, hk25, err2, fun l6 H15 nl6 s15 hl6 => ?_⟩
        have err3 := err2.same s15
        have s15' : Same Hd H15 := fun b o e => s15 _ _ (s13 _ _ e)
        refine ⟨25, rfl, by decide, by decide, fun D nD => lc_range (lo := 0) (n := 25) (fun j H2 => H2 = upd H15 D (.lst ((List.range j).map fun m => V.bl (decide (k = m))))) rfl ?_ ?_⟩
        · rintro j H2 hj rfl
          refine ⟨rfl, _, rfl, _, rfl, ?_⟩
          rw [show (0 : Int) + (j : Int) = ((j : Nat) : Int) by omega]
          refine eq_ints ⟨_, upd_same, by rw [List.length_map, List.length_range]; exact small1000 (by omega), ?_⟩
          rw [upd_upd, List.range_succ, List.map_append]
          rfl
        rintro H2 rfl
        have s16 := same_put (s := Same.refl H15) (o := .lst ((List.range 25).map fun m => V.bl (decide (k = m)))) nD
        refine neD_same (kind_dp (s16 _ _ hl6)) (kind_dp upd_same) (kind_shaped k) ⟨false, rfl, iteF ?_⟩
        have err4 := err3.same s16
        refine ⟨_, rfl, e, Cz k, .ref CE, .ref CE, true, rfl, err4, fun u r => r, T.kitE k hk25, true, rfl, ?_⟩
        refine ⟨_, rfl, e, Cz k, .ty "ValueError", .type "ValueError", true, rfl, err4, fun u r => r, T.kitV k hk25, true, rfl, ?_⟩
        refine iteF ?_
        exact ⟨⟨_, _, rfl⟩, fun b o e => s16 _ _ (s15' _ _ e)⟩
      rintro σ H16 ⟨⟨v8', v9', rfl⟩, s16⟩
      have PAe := pen_same PAd s16
      have hlse := s16 _ _ hlsd
      have hlde := s16 _ _ hldd
      have Ae := Ad.same s16
      have Be := Bd.same s16
      replace t1 := t1.same s16
      replace t2 := t2.same s16
      clear s16 hl5 ELd PAd hlsd hldd Ad Bd hxs
      -- the fields
      refine ⟨_, rfl, ls, d1, as, ys, rfl, hlse, Ae, fun r1 H17 s17 hr1 => ?_⟩
      replace t1 := t1.same s17
      replace t2 := t2.same s17
      have PAf := pen_same PAe s17
      have hldf := s17 _ _ hlde
      have Bf := Be.same s17
      have te1 := tells_rep (n := 19) (by decide) t1.te.sh (by have := t1.dp; omega) (by have := t1.sz; omega)
      refine ⟨_, .list (List.replicate 19 d1), rfl, .lst hr1 (built_pys (Ae.same s17)), te1, ?_⟩
      clear Ae Be PAe hlse hlde s17 hr1
      refine ⟨19, rfl, by decide, by decide, fun D nD => lc_range (lo := 0) (n := 19) (fun j H2 => H2 = upd H17 D (.lst (List.replicate j x1))) rfl ?_ ?_⟩
      · rintro j H2 hj rfl
        refine ⟨rfl, _, rfl, _, upd_same, by rw [List.length_replicate]; exact small1000 (by omega), ?_⟩
        rw [upd_upd, List.replicate_succ']
      rintro H2 rfl
      have s18 := same_put (s := Same.refl H17) (o := .lst (List.replicate 19 x1)) nD
      refine ⟨_, .list (List.replicate 19 d1), rfl, .lst upd_same (pyws_rep (t1.pw.same s18) 19), te1, ⟨rfl, ?_⟩⟩
      refine ⟨false, by rw [decide_eq_true rfl]; rfl, iteF ?_⟩
      replace t1 := t1.same s18
      replace t2 := t2.same s18
      have PAg := pen_same PAf s18
      have hldg := s18 _ _ hldf
      have Bg := Bf.same s18
      generalize upd H17 D (.lst (List.replicate 19 x1)) = H18 at t1 t2 PAg hldg Bg ⊢
      clear s18 nD PAf hldf Bf te1
      -- .. of two
      refine ⟨_, rfl, ld, d1, d2, bs, us, ws, rfl, hldg, Bg, fun r2 H19 rs s19 hr2 lrs hrs => ?_⟩
      replace t1 := t1.same s19
      replace t2 := t2.same s19
      have PAh := pen_same PAg s19
      have Bh := Bg.same s19
      obtain ⟨z1, z2, z3⟩ := pair_tells t1.te t1.sz t1.dp t2.te t2.sz t2.dp
      have te2 := tells_rep (d := .list [d1, d2]) (n := 4) (by decide) z1 z2 z3
      have pw2 : PyWs H19 (rs.map V.ref) (List.replicate 4 (.list [d1, d2])) := by
        have h := pyws_all (H := H19) (d := .list [d1, d2]) (ys := rs.map V.ref) fun y hy => by
          obtain ⟨b, hb, rfl⟩ := List.mem_map.mp hy
          obtain ⟨m, hm, rfl⟩ := List.getElem_of_mem hb
          have h1 : m < bs.length := by rw [Bh.la, ← lrs]; exact hm
          have h2 : m < us.length := by rw [Bh.ly, ← lrs]; exact hm
          have h3 : m < ws.length := by rw [Bh.lz, ← lrs]; exact hm
          have k := Bh.at_ m bs[m] us[m] ws[m] (List.getElem?_eq_getElem h1) (List.getElem?_eq_getElem h2) (List.getElem?_eq_getElem h3)
          exact .lst (hrs m rs[m] us[m] ws[m] (List.getElem?_eq_getElem hm) (List.getElem?_eq_getElem h2) (List.getElem?_eq_getElem h3)) (.cons k.2.1 (.cons k.2.2 .nil))
        rw [List.length_map, lrs] at h
        exact h
      refine ⟨_, .list (List.replicate 4 (.list [d1, d2])), rfl, .lst hr2 pw2, te2, ?_⟩
      clear Bg Bh hrs hr2 pw2 hldg PAg s19
      refine ⟨4, rfl, by decide, by decide, fun D nD => lc_range (lo := 0) (n := 4) (fun j H2 => ∃ qs : List Addr, qs.length = j ∧ H2 D = some (.lst (qs.map V.ref)) ∧ (∀ b ∈ qs, H2 b = some (.lst [x1, x2]) ∧ b ≠ D) ∧ Same H19 H2) ⟨[], rfl, upd_same, fun b h => (nomatch h), same_put (s := Same.refl H19) nD⟩ ?_ ?_⟩
      · rintro j H2 hj ⟨qs, lq, hD, hq, s20⟩
        refine ⟨rfl, _, rfl, _, rfl, by show 2 ≤ sizeLine; decide, fun b nb => ?_⟩
        have s21 := same_put (s := Same.refl H2) (o := .lst [x1, x2]) nb
        have hD2 := s21 _ _ hD
        have bD : b ≠ D := fun z => by
          rw [z, hD] at nb
          cases nb
        have hb : upd H2 b (.lst [x1, x2]) b = some (.lst [x1, x2]) := upd_same
        refine ⟨_, hD2, by rw [List.length_map]; exact small1000 (by omega), qs ++ [b], by rw [List.length_append, lq]; rfl, by rw [upd_same, List.map_append]; rfl, fun c hc => ?_, fun c o e => ?_⟩
        · rcases List.mem_append.mp hc with h | h
          · exact ⟨by rw [upd_ne (hq c h).2]; exact s21 _ _ (hq c h).1, (hq c h).2⟩
          · rw [List.mem_singleton.mp h]
            exact ⟨by rw [upd_ne bD]; exact hb, bD⟩
        · rw [upd_ne (ne_of_none e nD)]
          exact s21 _ _ (s20 _ _ e)
      rintro H2 ⟨qs, lq, hD, hq, s20⟩
      have pw3 : PyWs H2 (qs.map V.ref) (List.replicate 4 (.list [d1, d2])) := by
        have h := pyws_all (H := H2) (d := .list [d1, d2]) (ys := qs.map V.ref) fun y hy => by
          obtain ⟨b, hb, rfl⟩ := List.mem_map.mp hy
          exact .lst (hq b hb).1 (.cons (t1.pw.same s20) (.cons (t2.pw.same s20) .nil))
        rw [List.length_map, lq] at h
        exact h
      refine ⟨_, .list (List.replicate 4 (.list [d1, d2])), rfl, .lst hD pw3, te2, ⟨rfl, ?_⟩⟩
      refine ⟨false, by rw [decide_eq_true rfl]; rfl, iteF ?_⟩
      exact ⟨⟨_, _, _, _, _, _, _, _, rfl⟩, (pen_same PAh s20).less (by omega)⟩
    rintro σ H2 ⟨⟨v2, v3, v4, v5, v6, v7, v8, v9, rfl⟩, PA2⟩
    clear PA2 PA1
    -- caught
    refine ⟨3, rfl, by decide, by decide, fun D nD => lc_range (lo := 0) (n := 3) (fun j H3 => ∃ qs : List Addr, qs.length = j ∧ Kls H3 D qs) ⟨[], rfl, upd_same, fun j b h => by simp at h⟩ ?_ ?_⟩
    · rintro j H3 hj ⟨qs, lq, k⟩
      refine ⟨rfl, _, rfl, j, by rw [show (0 : Int) + (j : Int) = ((j : Nat) : Int) by omega]; rfl, hj, fun l1 H4 s4 hl1 => ?_⟩
      exact ⟨_, s4 _ _ k.at_, by rw [List.length_map]; exact small1000 (by omega), qs ++ [l1], by rw [List.length_append, lq]; rfl, k.snoc s4 (by rw [lq]; exact hl1) (by omega)⟩
    rintro H3 ⟨qs, lq, k⟩
    refine atName ?_
    try dsimp only
    -- due
    refine ⟨_, rfl, by show 3 ≤ sizeLine; decide, fun L nL => ⟨L, rfl, ⟨_, SqL.of upd_same⟩, fun D2 nD2 => lc_it (walk_list (xs := [V.int 23, V.int 24, V.int 21])) (fun j H4 => ∃ rs : List Addr, rs.length = j ∧ Kls H4 D2 rs ∧ Same (upd H3 L (.lst [V.int 23, V.int 24, V.int 21])) H4) ⟨[], rfl, ⟨upd_same, fun j b h => by simp at h⟩, same_put (s := Same.refl _) nD2⟩ ?_ ?_ ?_⟩⟩
    · rintro j H4 hj ⟨rs, lr, k2, s4⟩
      exact SqL.of (s4 _ _ upd_same)
    · rintro j y H4 H5 hj ⟨rs, lr, k2, s4⟩ ⟨rfl, hy⟩
      have ey : y = V.int ((kz j : Nat) : Int) := by
        have hj3 : j < 3 := hj
        rcases (by omega : j = 0 ∨ j = 1 ∨ j = 2) with rfl | rfl | rfl
        · cases hy; rfl
        · cases hy; rfl
        · cases hy; rfl
      subst ey
      refine ⟨rfl, 25, rfl, by decide, by decide, fun D3 nD3 => lc_range (lo := 0) (n := 25) (fun m H6 => H6 = upd H5 D3 (.lst ((List.range m).map fun q => V.bl (decide (kz j = q))))) rfl ?_ ?_⟩
      · rintro m H6 hm rfl
        refine ⟨rfl, _, rfl, _, rfl, ?_⟩
        rw [show (0 : Int) + (m : Int) = ((m : Nat) : Int) by omega]
        refine eq_ints ⟨_, upd_same, by rw [List.length_map, List.length_range]; exact small1000 (by omega), ?_⟩
        rw [upd_upd, List.range_succ, List.map_append]
        rfl
      rintro H6 rfl
      have s6 := same_put (s := Same.refl H5) (o := .lst ((List.range 25).map fun q => V.bl (decide (kz j = q)))) nD3
      refine ⟨_, s6 _ _ k2.at_, by rw [List.length_map]; exact small1000 (by have : j < 3 := hj; omega), rs ++ [D3], by rw [List.length_append, lr]; rfl, k2.snoc s6 (by rw [lr]; exact upd_same) (by have : j < 3 := hj; omega), fun b o e => ?_⟩
      rw [upd_ne (ne_of_none e nD2)]
      exact s6 _ _ (s4 _ _ e)
    rintro H4 ⟨rs, lr, k2, s4⟩
    have sL := same_put (s := Same.refl H3) (o := .lst [V.int 23, V.int 24, V.int 21]) nL
    refine eq_same (Kls.dp (k.same fun b o e => s4 _ _ (sL _ _ e)) lq) (k2.dp lr) three_shaped (q _)
end
end V8

set_option Elab.async false
set_option linter.all false
set_option maxRecDepth 100000
set_option maxHeartbeats 4000000
/-! A def called in an except clause, where the error is a thing that is tracked. -/
namespace L2
open PySem PySem.Spec PyProof.Rows
/-- room, whatever is handled -/
structure RoomC (k : Nat) (A : Around) : Prop where
  dp : A.depth + 3 * k + 5 < recursionLimit
  un : A.units + 16 * k + 200 < cLine
structure FnC (P : Program) (w : World) (K : PySem.W.Frag) (mg : Str → Option Value) (base : Heap) (k : Nat) (f : Addr) (fd : FuncData) (ps : List Str) (sp : Sp) : Prop where
  count : ∀ vs H Q E, sp vs H Q E → vs.length = ps.length
  runs : ∀ (A : Around) (outer : List Env) (s : Shared) (H : Hp) (args : Args) (us : List Value) (vs : List V) (Q : VK) (E : XK), RoomC k A → Env0 P w K mg base A outer s H → BindsTo s fd args (ps.zip us) → Vals vs us → sp vs H Q E →
    codeAny (model P w) A (.call (.ref f) args) (CR CX0 outer P w H s Q E) s
/-- the body's context there -/
abbrev cxC (P : Program) (w : World) (K : PySem.W.Frag) (mg : Str → Option Value) (base : Heap) (N : List Str) (qual : Str) (scope : Scope) (f : Addr) (cd : Value) (A : Around) (outer : List Env) (s : Shared) (H : Hp) (E : XK) : Cx :=
  { cxOf CX0 P w K mg base N qual scope f cd A outer s H E with calm := false }
section
variable {P : Program} {w : World} {K : PySem.W.Frag} {mg : Str → Option Value} {base : Heap} {N ps : List Str} {qual : Str} {scope : Scope} {f : Addr} {cd : Value} {A : Around} {outer : List Env} {s s1 : Shared} {H : Hp} {E : XK} {us : List Value} {vs : List V}
theorem inv_cold (S : FnScope N ps scope) (e0 : Env0 P w K mg base A outer s H) (hl : vs.length = ps.length) (r : Vals vs us)
    (x : InCallC s s.heap.objs.size (bindL (envOfC qual scope s.heap.objs.size f cd).kindOf (ps.zip us) fun _ => none) (cellsFrom (s.heap.objs.size + 1) scope.names []) (bindC (envOfC qual scope s.heap.objs.size f cd).kindOf (ps.zip us) fun _ => none) s1) :
    Inv (cxC P w K mg base N qual scope f cd A outer s H E) [] (start N vs) H s1 := by
  have e1 : Env0 P w K mg base { A with handled := none } outer s H := { e0 with frames := e0.frames }
  have I := inv_start (CX := CX0) (E := E) (A := { A with handled := none }) (qual := qual) (f := f) (cd := cd) S rfl e1 hl r x
  have ok := I.ok
  exact ⟨⟨ok.mod, ok.kind, ok.glob, ok.blt, ok.above, ok.inj, ok.has, ok.cab, fun z => Bool.noConfusion (show false = true from z), Around.frames_deeper e0.frames, ok.stk, ok.exf, ok.bs, ok.bsz, ok.noex, ok.exfs, ok.funs, ok.frf⟩,
    I.os, I.bare, I.base, I.loc, I.cell, I.free, I.freeC, I.pin, I.hok, I.len⟩
end
theorem fn_cold {P : Program} {w : World} {K : PySem.W.Frag} {mg : Str → Option Value} {base : Heap} {k : Nat} {x qual : Str} {st : Stmt} {f : Addr} {fd : FuncData} {N ps : List Str} {sp : Sp} (F : Fun K x qual st f fd) (S : FnScope N ps (defScope st)) (count : ∀ vs H Q E, sp vs H Q E → vs.length = ps.length)
    (body : ∀ (cdv : Value) (A : Around) (outer : List Env) (s : Shared) (H : Hp) (vs : List V) (Q : VK) (E : XK), sp vs H Q E →
      ∃ t, PSs (cxC P w K mg base N qual (defScope st) f cdv A outer s H E) (defBody st) t ∧ t { nx := fun _ H2 => Q .non H2, rt := Q } (start N vs) H) : FnC P w K mg base (k + 1) f fd ps sp := by
  obtain ⟨oc, od, kV, doc, pm, an, cdv, ct, osl, e, look, ci⟩ := F.ex
  subst e
  refine ⟨count, fun A outer s H args us vs Q E room e0 b r h => ?_⟩
  have many := count _ _ _ _ h
  have KX : K.In s.heap := e0.mod.kin.keeps fun c o z => (e0.bs c o z).1
  have calm : s.heap.NoLimit := e0.mod.nolimit.keeps fun c o z => (e0.bs c o z).1
  have kinds : ∀ y ∈ ps.zip us, (defScope st).names.lookup y.1 = some .local ∨ ((defScope st).names.lookup y.1 = some .cell ∧ ((cellsFrom (s.heap.objs.size + 1) (defScope st).names []).lookup y.1).isSome = true) := fun ⟨n, v⟩ hy => by
    rcases S.par n (List.of_mem_zip hy).1 with z | z
    · exact .inl z
    · exact .inr ⟨z, PySem.W.cellsFrom_some _ _ _ (.inl z)⟩
  have deep : A.depth < recursionLimit := by
    have := room.dp
    omega
  refine codeAny_call_function deep (KX _ _ look) rfl S.co S.gen rfl (PySem.W.codeRec_of KX ci) (b _ _ _ _ ?_)
  refine wpAny_newFunctionEnv_cells S.kind kinds fun env he s2 y => ?_
  subst he
  refine ⟨calm.keeps y.toInCall.keep, codeAny_func ?_⟩
  obtain ⟨t, ht, hq⟩ := body cdv A outer s H vs Q E h
  have I := inv_cold (E := E) (qual := qual) (f := f) (cd := cdv) S e0 many r y
  refine wpAny_mono (ht.run [] s2 (start N vs) H _ I hq) (fun fl s3 z => ?_) fun e s3 z => z
  match fl, z with
  | .ret u, ⟨v, σ2, H2, J, rv, q⟩ => exact ⟨v, H2, J.os, J.bare, J.base, J.hok, rv, q⟩
  | .next, ⟨σ2, H2, J, q⟩ => exact ⟨V.non, H2, J.os, J.bare, J.base, J.hok, rfl, q⟩
  | .brk, ⟨_, _, _, q⟩ => exact q.elim
  | .cont, ⟨_, _, _, q⟩ => exact q.elim
/-- by its name -/
structure DfC (P : Program) (w : World) (K : PySem.W.Frag) (mg : Str → Option Value) (base : Heap) (k : Nat) (x : Str) (sp : Sp) : Prop where
  ex : ∃ (f : Addr) (fd : FuncData) (ps : List Str), FnC P w K mg base k f fd ps sp ∧ mg x = some (.ref f) ∧ PySem.W.keepIn K (.ref f) = true ∧ Binds K fd ps []
section
variable {X : Cx} {k : Nat} {x : Str} {sp : Sp} {p pos : Pos} {e : Expr} {es : List Expr} {t : TA} {E : XK}
theorem pe_cold (c : DfC X.prog X.w X.K X.mg X.base k x sp) (room : RoomC k X.A) (out : Passes CX0 X E) (hg : Gl X x) (ha : PA X (e :: es) t)
    (hdb : (x == ("__debug__" : Str)) = false := by decide) (he : starEach (e :: es) X.env = (false, eval e X.env) :: starEach es X.env := by rfl) (hpl : (backTo pos (starEach es X.env)).any (·.1) = false := by rfl) :
    PE X (.Call (.Name x p) (e :: es) [] pos) (tCall sp [] E t) := by
  obtain ⟨f, fd, ps, F, hm, kp, b⟩ := c.ex
  refine ⟨fun pins s σ H Q I h => ?_⟩
  refine wpAny_Call_Name_kw (ld_glob I hg hm ?_ hdb)
  refine PySem.W.callWith_K (h₀ := X.base) I.ok.mod.kin kp (thn (ha.run pos pins s σ H _ I h) fun us s1 z => ?_) he hpl
  obtain ⟨xs, H1, J, v, q⟩ := z
  refine ⟨J.kIn, ?_⟩
  rw [List.append_nil] at q
  have n : us.length = ps.length := by
    rw [← v.length]
    exact F.count _ _ _ _ q
  have bb := b s1 us J.kIn (by rw [List.append_nil]; exact n)
  rw [List.append_nil] at bb
  refine wpAny_call (codeAny_mono (F.runs X.A X.stack s1 H1 ⟨us, []⟩ us xs Q E room J.env0 bb v q) fun a s2 z => ?_)
  match a, z with
  | .error er, z => exact out pins σ H1 s1 er s2 J z
  | .ok (.ret u), z => exact J.after z
  | .ok .next, z => exact z.elim
  | .ok .brk, z => exact z.elim
  | .ok .cont, z => exact z.elim
end
end L2

set_option Elab.async false
set_option linter.all false
set_option maxRecDepth 100000
set_option maxHeartbeats 16000000
set_option pp.maxSteps 3000
/-! What is caught. -/
namespace V8
open PySem PySem.Spec PyProof.Rows L2
abbrev s__law_caught : Stmt := topS 39
abbrev n__law_caught : List Str := ["_law_way", "_law_error"]
theorem sc__law_caught : FnScope ["_law_way", "_law_error"] ["_law_way"] (defScope s__law_caught) := ⟨rfl, rfl, rfl, by decide +kernel, rfl, by decide +kernel, by decide +kernel⟩
/-- the class is called, its error has no fields -/
theorem er_bare {X : Cx} {k : Nat} {fd : FuncData} {ps : List Str} {Cl fI : Addr} {pins : List (Addr × Obj)} {σ : L2.St} {H1 : Hp} {s1 : Shared} {Q : VK} (T : OexC X.K Cl) (iC : PySem.W.findIn X.K (.ref Cl) "__init__" = some (some (.ref fI))) (tI : PySem.W.typeIn X.K (.ref fI) = some (.type "function"))
    (Fn : FnG X.prog X.w X.K X.mg X.base CX0 k fI fd ps (spErrW0 X.K Cl)) (g : Quiet X.A) (r : Room (k + 1) X.A) (b : Binds X.K fd ps []) (J : Inv X pins σ H1 s1)
    (q : ∀ a, H1 a = none → Q (.ref a) (upd H1 a (ExO (.ref Cl) a))) : wpAny (model X.prog X.w) X.A (call (.ref Cl) []) (EP X pins σ Q) X.xe s1 := by
  obtain ⟨nm, qn, NN, bs, bm, sn, sub, ab, col, dd, k0, k1, k2, k3, k5, isC, isB⟩ := T.cls
  obtain ⟨hp, gn, dr, tk, os⟩ := s1
  have up : hp.objs.size ≤ hp.objs.size + 1 := Nat.le_succ _
  have new : H1 (hp.objs.size + 1) = none := J.hok.fresh up
  have q2 := q _ new
  generalize hG : (hp.push (PySem.W.kdv_tup [])).push (PySem.HandSPX.excO Cl hp.objs.size) = G
  have keep : ∀ c o, hp.get? c = some o → G.get? c = some o := fun c o z => by
    rw [← hG]
    exact Heap.get?_push_of_some _ (Heap.get?_push_of_some _ z)
  have here : G.get? (hp.objs.size + 1) = some (PySem.HandSPX.excO Cl hp.objs.size) := by
    rw [← hG]
    heap_get
  have J2 : Inv X pins σ (upd H1 (hp.objs.size + 1) (exo (hp.objs.size + 1) Cl none)) ⟨G, gn, dr, tk, os⟩ := J.laid (t' := tk) keep up (exo_ok here)
  have sp : spErrW0 X.K Cl [.ref (hp.objs.size + 1)] (upd H1 (hp.objs.size + 1) (exo (hp.objs.size + 1) Cl none)) (fun v H2 => v = .non ∧ H2 = upd H1 (hp.objs.size + 1) (exo (hp.objs.size + 1) Cl none)) (fun _ _ _ => False) := ⟨_, rfl, upd_same, T, rfl, rfl⟩
  have n2 : ([Value.ref (hp.objs.size + 1)] : List Value).length = ps.length := (Fn.count _ _ _ _ sp)
  have bb : BindsTo ⟨G, gn, dr, tk, os⟩ fd ⟨[Value.ref (hp.objs.size + 1)], []⟩ (ps.zip [Value.ref (hp.objs.size + 1)]) := b ⟨G, gn, dr, tk, os⟩ [Value.ref (hp.objs.size + 1)] J2.kIn n2
  have ran := Fn.runs _ X.stack _ _ ⟨[Value.ref (hp.objs.size + 1)], []⟩ [Value.ref (hp.objs.size + 1)] _ _ (fun _ _ _ => False) (under_quiet g) (r.make Cl [] []) (J2.env0.make Cl [] []) bb (show L2.Vals [V.ref (hp.objs.size + 1)] [Value.ref (hp.objs.size + 1)] from .cons rfl .nil) sp
  have isC2 := J.kIn _ _ isC
  subst hG
  refine wpAny_call (PySem.HandSPX.call_own PySem.F.excBase_ValueError (fun Y => PySem.HandSPX.refsVE_contains Y bm isB) isC2 (PySem.W.looks_findIn J.kIn iC) (fun self => PySem.W.bind_fn J.kIn self tI) (Nat.zero_le _) (codeAny_mono ran fun a s2 z => ?_))
  match a, z with
  | .error er, z => exact z.elim
  | .ok .next, z => exact z.elim
  | .ok .brk, z => exact z.elim
  | .ok .cont, z => exact z.elim
  | .ok (.ret u), z =>
    obtain ⟨y, H2, J3, rv, ey, eH⟩ := J2.after z
    subst ey
    subst eH
    refine ⟨rv, ?_⟩
    obtain ⟨t0, e⟩ := exo_at J3.hok upd_same
    have J4 := J3.reword (o := ExO (.ref Cl) (hp.objs.size + 1)) upd_same (exO_ok e ⟨rfl, rfl⟩ rfl rfl rfl (show 4 < 6 by decide))
    rw [upd_upd] at J4
    exact ⟨.ref _, _, J4, rfl, q2⟩
theorem pe_bare {X : Cx} {j : Nat} {x : Str} {C : Addr} {p pos : Pos} (c : Er0 X.prog X.w X.K X.mg X.base x C) (g : Quiet X.A) (r : Room j X.A) (hj : 4 ≤ j) (hg : Gl X x) (hdb : (x == ("__debug__" : Str)) = false := by decide) :
    PE X (.Call (.Name x p) [] [] pos) (fun σ H Q => ∀ a, H a = none → Q (.ref a) (upd H a (ExO (.ref C) a))) := by
  obtain ⟨fI, fd, ps, iC, tI, Fn, b⟩ := c.ex
  refine ⟨fun pins s σ H Q I h => wpAny_Call_Name_kw (ld_glob I hg c.hm ?_ hdb)⟩
  exact PySem.W.callWith_K0 I.kIn c.oc.kC (er_bare c.oc iC tI Fn g (r.mono hj) b I h)
theorem ps_bare {X : Cx} {W : WX} {j : Nat} {x : Str} {C : Addr} {p pos pos' : Pos} {H0 : Hp} (hx : X.ex = []) (h0 : X.H_0 = H0) (hc : X.calm = true) (tk : Takes X W) (c : Er0 X.prog X.w X.K X.mg X.base x C) (g : Quiet X.A) (r : Room j X.A) (hj : 4 ≤ j) (hg : Gl X x) (hdb : (x == ("__debug__" : Str)) = false := by decide) :
    PS X (.Raise (some (.Call (.Name x p) [] [] pos)) none pos') (fun _ σ H => ∀ a, H a = none → H0 a = none ∧ W (.ref C) none σ (delH (upd H a (ExO (.ref C) a)) a)) := by
  have z := ps_raise (pos := pos') hc tk (pmk_ret hx (pe_bare (p := p) (pos := pos) c g r hj hg hdb))
  refine ⟨fun pins s σ H D I q => z.run pins s σ H D I fun a na => ⟨a, .ref C, rfl, upd_same, fr0_none (by rw [h0]; exact (q a na).1), raises_own c.oc.exC c.oc.tyC, (q a na).2⟩⟩
theorem pmk_two {X : Cx} {j : Nat} {x f1 f2 : Str} {C : Addr} {p pos : Pos} {e : Expr} {es : List Expr} {ta : TA} (c : Er2 X.prog X.w X.K X.mg X.base x f1 f2 C) (g : Quiet X.A) (r : Room j X.A) (hj : 4 ≤ j) (hg : Gl X x) (ha : PA X (e :: es) ta)
    (hdb : (x == ("__debug__" : Str)) = false := by decide) (he : starEach (e :: es) X.env = (false, eval e X.env) :: starEach es X.env := by rfl) (hpl : (backTo pos (starEach es X.env)).any (·.1) = false := by rfl) : PMk X (.Call (.Name x p) (e :: es) [] pos) (tMkO C (spErrW2 X.K C f1 f2) [] ta) := by
  obtain ⟨fI, fd, ps, iC, tI, Fn, b, kb⟩ := c.ex
  exact (pmk_oexG c.oc iC tI Fn g (r.mono hj) b pass0 hg c.hm ha hdb he hpl).pmk
section
variable {P : Program} {w : World} {K : PySem.W.Frag} {mg : Str → Option Value} {base : Heap} {Cz : Nat → Addr} {CE : Addr}
theorem ok_kindsC {f : Addr} {fd : FuncData} (F : Fun K "_law_kinds" "_law_kinds" s__law_kinds f fd) (T : Tk K mg Cz CE) : FnC P w K mg base 1 f fd ["_law_error"] (spKinds K Cz) := by
  refine fn_cold F sc__law_kinds (fun vs H Q E h => ?_) (fun cdv A outer s H vs Q E h => ?_)
  · obtain ⟨a, i, rfl, _⟩ := h
    rfl
  · obtain ⟨a, i, rfl, hi, e, q⟩ := h
    refine ⟨_, (pss_one (ps_ret (pe_lst (pa_cons (pe_callB call_isE (by rfl) T.isinstance (by decide +kernel) (pa_cons (pv 0) (pa_cons (pe_gv T.gBadLetter (by rfl)) pa_nil))) (pa_cons (pe_callB call_isE (by rfl) T.isinstance (by decide +kernel) (pa_cons (pv 0) (pa_cons (pe_gv T.gBadWord (by rfl)) pa_nil))) (pa_cons (pe_callB call_isE (by rfl) T.isinstance (by decide +kernel) (pa_cons (pv 0) (pa_cons (pe_gv T.gBadNumber (by rfl)) pa_nil))) (pa_cons (pe_callB call_isE (by rfl) T.isinstance (by decide +kernel) (pa_cons (pv 0) (pa_cons (pe_gv T.gBadCode (by rfl)) pa_nil))) (pa_cons (pe_callB call_isE (by rfl) T.isinstance (by decide +kernel) (pa_cons (pv 0) (pa_cons (pe_gv T.gBadName (by rfl)) pa_nil))) (pa_cons (pe_callB call_isE (by rfl) T.isinstance (by decide +kernel) (pa_cons (pv 0) (pa_cons (pe_gv T.gBadImage (by rfl)) pa_nil))) (pa_cons (pe_callB call_isE (by rfl) T.isinstance (by decide +kernel) (pa_cons (pv 0) (pa_cons (pe_gv T.gNoSign (by rfl)) pa_nil))) (pa_cons (pe_callB call_isE (by rfl) T.isinstance (by decide +kernel) (pa_cons (pv 0) (pa_cons (pe_gv T.gUnlike (by rfl)) pa_nil))) (pa_cons (pe_callB call_isE (by rfl) T.isinstance (by decide +kernel) (pa_cons (pv 0) (pa_cons (pe_gv T.gBadTable (by rfl)) pa_nil))) (pa_cons (pe_callB call_isE (by rfl) T.isinstance (by decide +kernel) (pa_cons (pv 0) (pa_cons (pe_gv T.gBadRight (by rfl)) pa_nil))) (pa_cons (pe_callB call_isE (by rfl) T.isinstance (by decide +kernel) (pa_cons (pv 0) (pa_cons (pe_gv T.gUnread (by rfl)) pa_nil))) (pa_cons (pe_callB call_isE (by rfl) T.isinstance (by decide +kernel) (pa_cons (pv 0) (pa_cons (pe_gv T.gBarred (by rfl)) pa_nil))) (pa_cons (pe_callB call_isE (by rfl) T.isinstance (by decide +kernel) (pa_cons (pv 0) (pa_cons (pe_gv T.gBadList (by rfl)) pa_nil))) (pa_cons (pe_callB call_isE (by rfl) T.isinstance (by decide +kernel) (pa_cons (pv 0) (pa_cons (pe_gv T.gBadRow (by rfl)) pa_nil))) (pa_cons (pe_callB call_isE (by rfl) T.isinstance (by decide +kernel) (pa_cons (pv 0) (pa_cons (pe_gv T.gBadFixer (by rfl)) pa_nil))) (pa_cons (pe_callB call_isE (by rfl) T.isinstance (by decide +kernel) (pa_cons (pv 0) (pa_cons (pe_gv T.gNoOrigin (by rfl)) pa_nil))) (pa_cons (pe_callB call_isE (by rfl) T.isinstance (by decide +kernel) (pa_cons (pv 0) (pa_cons (pe_gv T.gRing (by rfl)) pa_nil))) (pa_cons (pe_callB call_isE (by rfl) T.isinstance (by decide +kernel) (pa_cons (pv 0) (pa_cons (pe_gv T.gNoName (by rfl)) pa_nil))) (pa_cons (pe_callB call_isE (by rfl) T.isinstance (by decide +kernel) (pa_cons (pv 0) (pa_cons (pe_gv T.gBadCommand (by rfl)) pa_nil))) (pa_cons (pe_callB call_isE (by rfl) T.isinstance (by decide +kernel) (pa_cons (pv 0) (pa_cons (pe_gv T.gMerging (by rfl)) pa_nil))) (pa_cons (pe_callB call_isE (by rfl) T.isinstance (by decide +kernel) (pa_cons (pv 0) (pa_cons (pe_gv T.gSeveral (by rfl)) pa_nil))) (pa_cons (pe_callB call_isE (by rfl) T.isinstance (by decide +kernel) (pa_cons (pv 0) (pa_cons (pe_gv T.gTooMany (by rfl)) pa_nil))) (pa_cons (pe_callB call_isE (by rfl) T.isinstance (by decide +kernel) (pa_cons (pv 0) (pa_cons (pe_gv T.gBadText (by rfl)) pa_nil))) (pa_cons (pe_callB call_isE (by rfl) T.isinstance (by decide +kernel) (pa_cons (pv 0) (pa_cons (pe_gv T.gNoImage (by rfl)) pa_nil))) (pa_cons (pe_callB call_isE (by rfl) T.isinstance (by decide +kernel) (pa_cons (pv 0) (pa_cons (pe_gv T.gNothing (by rfl)) pa_nil))) pa_nil)))))))))))))))))))))))))))), ?_⟩
    refine ⟨_, rfl, a, Cz i, .ref (Cz 0), .ref (Cz 0), decide (i = 0), rfl, e, fun u r => r, T.kit i 0 hi (by decide), ?_⟩
    refine ⟨_, rfl, a, Cz i, .ref (Cz 1), .ref (Cz 1), decide (i = 1), rfl, e, fun u r => r, T.kit i 1 hi (by decide), ?_⟩
    refine ⟨_, rfl, a, Cz i, .ref (Cz 2), .ref (Cz 2), decide (i = 2), rfl, e, fun u r => r, T.kit i 2 hi (by decide), ?_⟩
    refine ⟨_, rfl, a, Cz i, .ref (Cz 3), .ref (Cz 3), decide (i = 3), rfl, e, fun u r => r, T.kit i 3 hi (by decide), ?_⟩
    refine ⟨_, rfl, a, Cz i, .ref (Cz 4), .ref (Cz 4), decide (i = 4), rfl, e, fun u r => r, T.kit i 4 hi (by decide), ?_⟩
    refine ⟨_, rfl, a, Cz i, .ref (Cz 5), .ref (Cz 5), decide (i = 5), rfl, e, fun u r => r, T.kit i 5 hi (by decide), ?_⟩
    refine ⟨_, rfl, a, Cz i, .ref (Cz 6), .ref (Cz 6), decide (i = 6), rfl, e, fun u r => r, T.kit i 6 hi (by decide), ?_⟩
    refine ⟨_, rfl, a, Cz i, .ref (Cz 7), .ref (Cz 7), decide (i = 7), rfl, e, fun u r => r, T.kit i 7 hi (by decide), ?_⟩
    refine ⟨_, rfl, a, Cz i, .ref (Cz 8), .ref (Cz 8), decide (i = 8), rfl, e, fun u r => r, T.kit i 8 hi (by decide), ?_⟩
    refine ⟨_, rfl, a, Cz i, .ref (Cz 9), .ref (Cz 9), decide (i = 9), rfl, e, fun u r => r, T.kit i 9 hi (by decide), ?_⟩
    refine ⟨_, rfl, a, Cz i, .ref (Cz 10), .ref (Cz 10), decide (i = 10), rfl, e, fun u r => r, T.kit i 10 hi (by decide), ?_⟩
    refine ⟨_, rfl, a, Cz i, .ref (Cz 11), .ref (Cz 11), decide (i = 11), rfl, e, fun u r => r, T.kit i 11 hi (by decide), ?_⟩
    refine ⟨_, rfl, a, Cz i, .ref (Cz 12), .ref (Cz 12), decide (i = 12), rfl, e, fun u r => r, T.kit i 12 hi (by decide), ?_⟩
    refine ⟨_, rfl, a, Cz i, .ref (Cz 13), .ref (Cz 13), decide (i = 13), rfl, e, fun u r => r, T.kit i 13 hi (by decide), ?_⟩
    refine ⟨_, rfl, a, Cz i, .ref (Cz 14), .ref (Cz 14), decide (i = 14), rfl, e, fun u r => r, T.kit i 14 hi (by decide), ?_⟩
    refine ⟨_, rfl, a, Cz i, .ref (Cz 15), .ref (Cz 15), decide (i = 15), rfl, e, fun u r => r, T.kit i 15 hi (by decide), ?_⟩
    refine ⟨_, rfl, a, Cz i, .ref (Cz 16), .ref (Cz 16), decide (i = 16), rfl, e, fun u r => r, T.kit i 16 hi (by decide), ?_⟩
    refine ⟨_, rfl, a, Cz i, .ref (Cz 17), .ref (Cz 17), decide (i = 17), rfl, e, fun u r => r, T.kit i 17 hi (by decide), ?_⟩
    refine ⟨_, rfl, a, Cz i, .ref (Cz 18), .ref (Cz 18), decide (i = 18), rfl, e, fun u r => r, T.kit i 18 hi (by decide), ?_⟩
    refine ⟨_, rfl, a, Cz i, .ref (Cz 19), .ref (Cz 19), decide (i = 19), rfl, e, fun u r => r, T.kit i 19 hi (by decide), ?_⟩
    refine ⟨_, rfl, a, Cz i, .ref (Cz 20), .ref (Cz 20), decide (i = 20), rfl, e, fun u r => r, T.kit i 20 hi (by decide), ?_⟩
    refine ⟨_, rfl, a, Cz i, .ref (Cz 21), .ref (Cz 21), decide (i = 21), rfl, e, fun u r => r, T.kit i 21 hi (by decide), ?_⟩
    refine ⟨_, rfl, a, Cz i, .ref (Cz 22), .ref (Cz 22), decide (i = 22), rfl, e, fun u r => r, T.kit i 22 hi (by decide), ?_⟩
    refine ⟨_, rfl, a, Cz i, .ref (Cz 23), .ref (Cz 23), decide (i = 23), rfl, e, fun u r => r, T.kit i 23 hi (by decide), ?_⟩
    refine ⟨_, rfl, a, Cz i, .ref (Cz 24), .ref (Cz 24), decide (i = 24), rfl, e, fun u r => r, T.kit i 24 hi (by decide), ?_⟩
    exact ⟨by show 25 ≤ sizeLine; decide, fun l nl => q l _ nl (same_put (s := Same.refl H) nl) upd_same⟩
theorem ok_caught {f : Addr} {fd : FuncData} (F : Fun K "_law_caught" "_law_caught" s__law_caught f fd) (T : Tk K mg Cz CE) (mE : mg "RepairError" = some (.ref CE)) (xE : ∀ i, i < 25 → PySem.W.exmOne K (.ref (Cz i)) (.ref CE) = some true) (R : Ers P w K mg base Cz) (D_kinds : DfC P w K mg base 1 "_law_kinds" (spKinds K Cz)) : FnG P w K mg base CX0 6 f fd ["_law_way"] spCaught := by
  refine F.okG sc__law_caught (fun vs H Q E h => ?_) (fun cdv A outer s H vs Q E quiet hr h => ?_)
  · obtain ⟨i, rfl, _⟩ := h
    rfl
  · obtain ⟨i, rfl, hi, q⟩ := h
    have cold : RoomC 1 (A.deeper (envOfC "_law_caught" (defScope s__law_caught) s.heap.objs.size f cdv)) := ⟨by have := hr.dp; omega, by have := hr.un; omega⟩
    refine ⟨_, (pss_cons (ps_try_keep (X := (cxOf C8.CX0 P w K mg base n__law_caught "_law_caught" (defScope s__law_caught) f cdv A outer s H E).nox) (c := .ref CE) (i := 1) rfl rfl sc__law_caught.nd rfl rfl ⟨by rfl, by decide, .inl mE⟩
        (fun W pn xe tk _ => (pss_cons (ps_if (pt_cmpR op_eq (pv 0) pe_int (nomark _)) (pss_one (ps_bare (X := (cxOf C8.CX0 P w K mg base n__law_caught "_law_caught" (defScope s__law_caught) f cdv A outer s H E).nox.tr pn xe) rfl rfl rfl tk R.eNoImage quiet hr (by decide) (by rfl))) pss_nil)
          (pss_cons (ps_if (pt_cmpR op_eq (pv 0) pe_int (nomark _)) (pss_one (ps_bare (X := (cxOf C8.CX0 P w K mg base n__law_caught "_law_caught" (defScope s__law_caught) f cdv A outer s H E).nox.tr pn xe) rfl rfl rfl tk R.eNothing quiet hr (by decide) (by rfl))) pss_nil)
          (pss_one (ps_raise (X := (cxOf C8.CX0 P w K mg base n__law_caught "_law_caught" (defScope s__law_caught) f cdv A outer s H E).nox.tr pn xe) (t := tMkO (Cz 21) (spErrW2 K (Cz 21) "what" "most") [] (tCons (tC (.str "effects")) (tCons (tVar 0) tNil))) rfl tk (pmk_two (X := (cxOf C8.CX0 P w K mg base n__law_caught "_law_caught" (defScope s__law_caught) f cdv A outer s H E).nox.tr pn xe) R.eTooMany quiet hr (by decide) (by rfl) (pa_cons pe_str (pa_cons (pv 0) pa_nil))))))))
        (fun a pn => pss_one (ps_ret (pe_cold D_kinds ⟨cold.dp, cold.un⟩ pass0 (by rfl) (pa_cons (pv 1) pa_nil)))))
      (pss_one (ps_ret (pe_lst pa_nil)))), ?_⟩
    rcases (by omega : i = 0 ∨ i = 1 ∨ i = 2) with rfl | rfl | rfl
    · refine ⟨_, rfl, rfl, _, rfl, ?_⟩
      dsimp only
      rw [if_pos (decide_eq_true (show V.int ((0 : Nat) : Int) = V.int 0 from rfl))]
      intro a na
      refine ⟨na, xE 23 (by decide), fun _ a' na' => ?_⟩
      have s2 : Same H (delH (upd H a (ExO (.ref (Cz 23)) a)) a) := fun b o e => by
        rw [delH_ne (ne_of_none e na), upd_ne (ne_of_none e na)]
        exact e
      refine ⟨_, rfl, a', 23, rfl, by decide, .inr ⟨upd_same, R.eNoImage.xc⟩, fun l H' nl s3 hl => q l H' (fun b o e => ?_) hl⟩
      have e2 := s2 _ _ e
      refine s3 _ _ ?_
      rw [upd_ne (ne_of_none e2 na')]
      exact e2
    · refine ⟨_, rfl, rfl, _, rfl, ?_⟩
      dsimp only
      rw [if_neg (by rw [dec_int]; decide)]
      refine ⟨_, rfl, rfl, _, rfl, ?_⟩
      dsimp only
      rw [if_pos (decide_eq_true (show V.int ((1 : Nat) : Int) = V.int 1 from rfl))]
      intro a na
      refine ⟨na, xE 24 (by decide), fun _ a' na' => ?_⟩
      have s2 : Same H (delH (upd H a (ExO (.ref (Cz 24)) a)) a) := fun b o e => by
        rw [delH_ne (ne_of_none e na), upd_ne (ne_of_none e na)]
        exact e
      refine ⟨_, rfl, a', 24, rfl, by decide, .inr ⟨upd_same, R.eNothing.xc⟩, fun l H' nl s3 hl => q l H' (fun b o e => ?_) hl⟩
      have e2 := s2 _ _ e
      refine s3 _ _ ?_
      rw [upd_ne (ne_of_none e2 na')]
      exact e2
    · refine ⟨_, rfl, rfl, _, rfl, ?_⟩
      dsimp only
      rw [if_neg (by rw [dec_int]; decide)]
      refine ⟨_, rfl, rfl, _, rfl, ?_⟩
      dsimp only
      rw [if_neg (by rw [dec_int]; decide)]
      refine ⟨_, rfl, by decide, fun a na => ⟨a, .str "effects", .int 2, .str "effects", .int 2, rfl, upd_same, R.eTooMany.oc, R.eTooMany.n1, R.eTooMany.n2, mk_th (.inl (.inl ⟨_, rfl⟩)) (.str _) (by decide +kernel), mk_th (.inl (.inr (.inl ⟨_, rfl⟩))) (.int _) (by decide +kernel), fun y1 y2 dx H2 s2 p1 p2 ndx ne e1 e2 => ?_⟩⟩
      have nx : H dx = none := by
        rw [upd_ne ne] at ndx
        exact ndx
      refine ⟨rfl, dx, _, by rw [upd_ne (Ne.symm ne)]; exact e2, upd_same, nx, xE 21 (by decide), fun _ a' na' => ?_⟩
      have nd : a' ≠ dx := fun z => by
        rw [z, upd_same] at na'
        cases na'
      have s4 : Same H (upd (del (upd H2 dx (exd dx [("most", y2), ("what", y1)])) a) dx (.xd [("most", y2), ("what", y1)])) := fun b o e => by
        rw [upd_ne (ne_of_none e nx), del_ne (ne_of_none e na), upd_ne (ne_of_none e nx)]
        exact s2 _ _ (by rw [upd_ne (ne_of_none e na)]; exact e) (ne_of_none e na)
      refine ⟨_, rfl, a', 21, rfl, by decide, .inl ⟨[("most", y2), ("what", y1)], ⟨dx, upd_same, ?_⟩, R.eTooMany.xc⟩, fun l H' nl s3 hl => q l H' (fun b o e => ?_) hl⟩
      · rw [upd_ne (Ne.symm nd)]
        exact upd_same
      · have e4 := s4 _ _ e
        refine s3 _ _ ?_
        rw [upd_ne (ne_of_none e4 na')]
        exact e4
end
end V8

set_option Elab.async false
set_option linter.all false
set_option maxRecDepth 100000
set_option maxHeartbeats 4000000
/-! Where no repr is under way: lambdas, kept or written on the spot, called by the def that gets them. -/
namespace LamX
open PySem PySem.Spec PyProof.Rows L2
/-- what a lambda of X must be there -/
structure LamG (X : Cx) (k : Nat) (params : Arguments) (body : Expr) (scope : Scope) (t : XK → TE) : Prop where
  own : LamS X.env.scope scope
  bind : ∀ (q : Str) (cl : List (Str × Addr)) (pm cv ctv : Value), bindArgs (PySem.W.kla_fn "<lambda>" q params body scope cl pm cv ctv) ⟨[], []⟩ = pure []
  reads : ∀ (A : Around) (outer : List Env) (s : Shared) (H : Hp) (E : XK) (f c' : Addr), Quiet A → Room k (A.deeper (lamEnv X scope s.heap.objs.size f c')) → PE (lamCx X A outer s H E scope f c') body (t E)
section
variable {X : Cx} {pins : List (Addr × Obj)} {σ : L2.St} {H : Hp} {s : Shared}
/-- a() in the def that got the lambda -/
theorem act_quiet {CXg : CXT} {Eg : XK} {Ng : List Str} {qg : Str} {sg : Scope} {g f c1 : Addr} {cdg pm ctv : Value} {params : Arguments} {body : Expr} {scope : Scope} {k i : Nat} {a : Str} {pn : List (Addr × Obj)} {xe : Value → Shared → Prop} {W : WX} {E : XK} {t : XK → TE} {p1 p2 : Pos}
    (I : Inv X pins σ H s) (qu : Quiet X.A) (l : LamG X k params body scope t) (tk : Takes ((cxOf CXg X.prog X.w X.K X.mg X.base Ng qg sg g cdg X.A X.stack s H Eg).tr pn xe) W) (hW : ∀ cls d σ' H', E cls d H' → W cls d σ' H')
    (room : Room (k + 1) (X.A.deeper (envOfC qg sg s.heap.objs.size g cdg))) (hN : Ng[i]? = some a) (hv : Vis sg a) (hd : (a == ("__debug__" : Str)) = false := by decide) (hcd : (a == ("__classdict__" : Str)) = false := by decide) :
    PE ((cxOf CXg X.prog X.w X.K X.mg X.base Ng qg sg g cdg X.A X.stack s H Eg).tr pn xe) (.Call (.Name a p1) [] [] p2)
      (fun σZ HZ Q => σZ[i]? = some (some (.ref f)) ∧ (HZ f = some (FnO f (lamObj X params body scope pm ctv c1)) ∧ HZ c1 = some (CodeO c1 (X.env.qual ++ "<lambda>"))) ∧ t E σ HZ Q) := by
  have own := l.own
  refine ⟨fun pinsZ sZ σZ HZ Q IZ h => ?_⟩
  obtain ⟨at_, ⟨kf, kc⟩, rest⟩ := h
  have name := (pe_var (pos := p1) (i := i) hN hv hd hcd).run pinsZ sZ σZ HZ (fun v H1 => v = .ref f ∧ H1 = HZ) IZ ⟨.ref f, at_, rfl, rfl⟩
  refine wpAny_Call_Name_kw (thn name fun u s1 z => ?_)
  obtain ⟨v, H1, J, rel, rfl, rfl⟩ := z
  obtain rfl : u = Value.ref f := rel
  have obj : s1.heap.get? f = some (lamObj X params body scope pm ctv c1) := (J.hok f _ kf).1
  have code := (J.hok c1 _ kc).1
  obtain ⟨oc, vs, tt, code1, code2, code3⟩ := code
  refine PySem.W.callWith_F0 ⟨_, _, _, _, obj⟩ ?_
  have ran : codeAny (model X.prog X.w) (X.A.deeper (envOfC qg sg s.heap.objs.size g cdg)) (.call (.ref f) ⟨[], []⟩) (CR (L2.CX X.prog X.w) (envOfC qg sg s.heap.objs.size g cdg :: X.stack) X.prog X.w H1 s1 Q E) s1 := by
    refine PySem.W.kla_callFunE room.depth obj rfl own.co own.gen rfl ⟨c1, oc, vs, tt, rfl, code1, code2, code3⟩ ?_
    rw [l.bind]
    refine wpAny_pure (wpAny_newFunctionEnv (fun y hy => (own.own y hy).2) (fun y hy => absurd hy (by simp)) (fun h₁ hns hsb => ?_) own.kind)
    refine ⟨J.nolimit.fresh _ hsb, ?_⟩
    have stay : ∀ b o, s1.heap.get? b = some o → h₁.get? b = some o := fun b o e => hsb.extBut b o (Nat.ne_of_lt (Heap.lt_size e)) (Heap.get?_push_of_some _ e)
    have start : Inv (lamCx X (X.A.deeper (envOfC qg sg s.heap.objs.size g cdg)) (envOfC qg sg s.heap.objs.size g cdg :: X.stack) s1 H1 E scope f c1) [] σ H1 { s1 with heap := h₁, toks := s1.toks + ([] : List (Str × Value)).length } :=
      lam_start2 I own J.env0 room.hd J.base hns stay
    have go := (l.reads (X.A.deeper (envOfC qg sg s.heap.objs.size g cdg)) (envOfC qg sg s.heap.objs.size g cdg :: X.stack) s1 H1 E f c1 (show Quiet (X.A.deeper _) from qu) (room.deeper _)).run [] _ _ H1 Q start rest
    refine PySem.W.kla_codeExpr (wpAny_mono go (fun v s' hq => ?_) fun e s' hq => hq)
    obtain ⟨w', H', J', rv, q⟩ := hq
    exact ⟨w', H', J'.os, J'.bare, J'.base, J'.hok, rv, q⟩
  have out : Passes (L2.CX X.prog X.w) ((cxOf CXg X.prog X.w X.K X.mg X.base Ng qg sg g cdg X.A X.stack s H Eg).tr pn xe) E := passes_call tk hW
  refine wpAny_call (codeAny_mono ran fun r s' hq => ?_)
  match r, hq with
  | .error e, hq => exact out pinsZ σZ H1 s1 e s' J hq
  | .ok (.ret u), hq => exact J.after hq
  | .ok .next, hq => exact False.elim hq
  | .ok .brk, hq => exact False.elim hq
  | .ok .cont, hq => exact False.elim hq
/-- a lambda written where it is handed on -/
def tLamG (T : List (Addr × Str)) (TT : (XK → Hp → VK → Prop) → Hp → VK → Prop) (t : XK → TE) : TE := fun σ H Q => Tabs T H ∧ ∀ H1, ExtN H H1 → Tabs T H1 → TT (fun E H' Q' => t E σ H' Q') H1 Q
theorem pe_lamcallG {T : List (Addr × Str)} {TT : (XK → Hp → VK → Prop) → Hp → VK → Prop} {x a : Str} {g c P : Addr} {k : Nat} {pg : Arguments} {bg : List Stmt} {sg : Scope} {dV kV doc pm cdv ct oc : Value} {an od : Option Addr} {osl : Array (Option Value)} {Ng : List Str}
    {params : Arguments} {body : Expr} {scope : Scope} {t : XK → TE} {p lpos pos : Pos} (qu : Quiet X.A) (hg : Gl X x) (hm : X.mg x = some (.ref g)) (hk : PySem.W.keepIn X.K (.ref g) = true) (lk : X.K.lookup g = some ⟨oc, od, .func (PySem.W.fnOf x x pg bg sg dV kV doc pm an cdv ct), osl⟩) (hcg : PySem.W.codeIn X.K cdv x = true)
    (hb : L2.Binds X.K (PySem.W.fnOf x x pg bg sg dV kV doc pm an cdv ct) [a] []) (Sg : FnScope Ng [a] sg) (hNg : Ng[0]? = some a) (hva : Vis sg a) (hG : GivesK X Ng x sg g cdv bg a TT) (TB : TabB X.base X.mg c P) (hcode : X.env.code = .ref c) (hmT : (P, X.env.qual ++ "<lambda>") ∈ T)
    (hu : ∀ q ∈ T, q.1 = P → q.2 = X.env.qual ++ "<lambda>") (hr : Room (k + 2) X.A) (hdef : defaultsOf params X.env = ([], [])) (l : LamG X k params body scope t)
    (hdb : (x == ("__debug__" : Str)) = false := by decide) (hd : (a == ("__debug__" : Str)) = false := by decide) (hcd : (a == ("__classdict__" : Str)) = false := by decide) :
    PE X (.Call (.Name x p) [.Lambda params body scope lpos] [] pos) (tLamG T TT t) := by
  refine ⟨fun pins s σ H Q I h => wpAny_Call_Name_kw (ld_glob I hg hm ?_ hdb)⟩
  obtain ⟨hT, h⟩ := h
  refine PySem.W.callWith_K (h₀ := X.base) I.ok.mod.kin hk ?_ (by rfl) (by rfl)
  show wpAny _ _ (spliced ((false, eval (.Lambda params body scope lpos) X.env) :: backTo pos (starEach [] X.env))) _ _ s
  refine Calls.spliced_cons (lam_made I TB hcode hmT hu hT hdef (l.own.has I.ok) fun f H1 s1 J eN tA nf lo => ?_)
  refine Calls.spliced_nil ⟨J.kIn, ?_⟩
  obtain ⟨c1, pmf, ctf, kf, kc⟩ := lo
  have ran : codeAny (model X.prog X.w) X.A (.call (.ref g) ⟨[.ref f], []⟩) (CR C8.CX0 X.stack X.prog X.w H1 s1 Q C8.E0) s1 := by
    refine run_ofS (N := Ng) (ps := [a]) (us := [.ref f]) (vs := [.ref f]) lk hcg Sg hr J.env0 (hb s1 [.ref f] J.kIn rfl) (.cons rfl .nil) rfl fun room => ?_
    have gave := hG f (fun HZ => HZ f = some (FnO f (lamObj X params body scope pmf ctf c1)) ∧ HZ c1 = some (CodeO c1 (X.env.qual ++ "<lambda>"))) s1 H1 Q (fun E H' Q' => t E σ H' Q')
      (fun _ _ z e => ⟨e _ _ z.1, e _ _ z.2⟩) (fun W pn xe E p1 p2 tk hW => act_quiet (i := 0) J qu l tk hW room hNg hva hd hcd) ⟨kf, kc⟩ (h H1 eN tA)
    obtain ⟨t1, ht1, hq1⟩ := gave
    exact ⟨t1, ht1.nox, hq1⟩
  refine wpAny_call (codeAny_mono ran fun r s2 hq => ?_)
  match r, hq with
  | .error e, hq => exact (show False from hq).elim
  | .ok (.ret u), hq => exact J.after hq
  | .ok .next, hq => exact False.elim hq
  | .ok .brk, hq => exact False.elim hq
  | .ok .cont, hq => exact False.elim hq
end
end LamX

set_option Elab.async false
set_option linter.all false
set_option maxRecDepth 100000
set_option maxHeartbeats 4000000
/-! The end of a law whose promise wants that no repr is under way. -/
namespace LamX
open PySem PySem.Spec PyProof.Rows L2
/-- tables are tracked from the beginning, and so is the script unless it stands in the text -/
def firstH (K : PySem.W.Frag) (ts : List Addr) (a : Addr) (o : Obj) (xs : List V) : Hp := fun b =>
  if b ∈ ts then some (.tbl #[]) else if b = a ∧ K.lookup a = none then some (.frz o (.lst xs)) else none
theorem firstH_tab {K : PySem.W.Frag} {ts : List Addr} {a b : Addr} {o : Obj} {xs : List V} (h : b ∈ ts) : firstH K ts a o xs b = some (.tbl #[]) := by
  unfold firstH
  rw [if_pos h]
theorem firstH_at {K : PySem.W.Frag} {ts : List Addr} {a : Addr} {o : Obj} {xs : List V} (h : a ∉ ts) (n : K.lookup a = none) : firstH K ts a o xs a = some (.frz o (.lst xs)) := by
  unfold firstH
  rw [if_neg h, if_pos ⟨rfl, n⟩]
theorem firstH_of {K : PySem.W.Frag} {ts : List Addr} {a b : Addr} {o : Obj} {xs : List V} {u : HO} (h : firstH K ts a o xs b = some u) : (b ∈ ts ∧ u = .tbl #[]) ∨ (b = a ∧ K.lookup a = none ∧ u = .frz o (.lst xs)) := by
  unfold firstH at h
  by_cases h1 : b ∈ ts
  · rw [if_pos h1] at h
    exact .inl ⟨h1, (Option.some.inj h).symm⟩
  · rw [if_neg h1] at h
    by_cases h2 : b = a ∧ K.lookup a = none
    · rw [if_pos h2] at h
      exact .inr ⟨h2.1, h2.2, (Option.some.inj h).symm⟩
    · rw [if_neg h2] at h
      cases h
theorem law_callG {P : Program} {w : World} {K : PySem.W.Frag} {mg mb : Str → Option Value} {C : CXT} {k : Nat} {fa a : Addr} {cs : List (Addr × Addr)} {fd : FuncData} {x : Str} {sp : Sp} {s : Shared} {vs : List Value} {ns : List Int}
    (kin : K.In s.heap) (glob : s.heap.Ns mainGlobals mg) (bns : s.heap.Ns builtinsNs mb) (boot : ∀ y : Str, y ≠ "__name__" → mb y = bootBuiltins y) (lim : s.heap.NoLimit) (gens : s.gens = #[])
    (tabs : ∀ p ∈ cs, s.heap.get? p.2 = some { cls := .none, data := .fields #[] }) (untold : ∀ p ∈ cs, K.lookup p.2 = none) (codes : ∀ p ∈ cs, PySem.W.CodeHd s.heap p.1 p.2)
    (bmod : ∃ (bm : Addr) (ob : Obj), mg "__builtins__" = some (.ref bm) ∧ bm ≠ builtinsNs ∧ s.heap.get? bm = some ob ∧ ob.cls = .type "module" ∧ ob.dict = some builtinsNs ∧ ob.data = .plain)
    (script : s.heap.get? a = some { cls := .type "list", data := .seq vs.toArray }) (whole : IntsAre vs ns) (short : ns.length ≤ sizeLine) (room : Room k callerA)
    (F : ∀ base : Heap, K.In base → base.Ns mainGlobals mg → (∀ p ∈ cs, TabB base mg p.1 p.2) → FnG P w K mg base C k fa fd [x] sp) (binds : ∀ (s : Shared) (u : Value), BindsTo s fd ⟨[u], []⟩ [(x, u)])
    (holds : ∀ H : Hp, (∀ p ∈ cs, H p.2 = some (.tbl #[])) → SqL K H a (ns.map V.int) → sp [.ref a] H (fun v _ => v = .bl true) fun _ _ _ => False)
    (noerr : ∀ H e s', C [] H s (fun _ _ _ => False) e s' → False) :
    codeAny (model P w) callerA (.call (.ref fa) ⟨[.ref a], []⟩) (fun r s' => r = .ok (.ret (.bool true)) ∧ OldK s.heap s'.heap ∧ s'.os = s.os ∧ AllBare s'.gens) s := by
  have rel := vals_ints whole
  have many := whole.length
  generalize hts : cs.map (·.2) = ts
  have inT : ∀ p ∈ cs, p.2 ∈ ts := fun p hp => by
    rw [← hts]
    exact List.mem_map.mpr ⟨p, hp, rfl⟩
  have ofT : ∀ b ∈ ts, ∃ p ∈ cs, p.2 = b := fun b hb => by
    rw [← hts] at hb
    exact List.mem_map.mp hb
  have emp : ∀ b ∈ ts, s.heap.get? b = some { cls := .none, data := .fields #[] } := fun b hb => by
    obtain ⟨p, hp, rfl⟩ := ofT b hb
    exact tabs p hp
  have aT : a ∉ ts := fun z => by
    have e := emp a z
    rw [script] at e
    have e2 := congrArg Obj.data (Option.some.inj e)
    cases e2
  generalize hH : firstH K ts a { cls := .type "list", data := .seq vs.toArray } (ns.map V.int) = H
  have of : ∀ {b u}, H b = some u → (b ∈ ts ∧ u = .tbl #[]) ∨ (b = a ∧ K.lookup a = none ∧ u = .frz { cls := .type "list", data := .seq vs.toArray } (.lst (ns.map V.int))) := fun {b u} z => by
    rw [← hH] at z
    exact firstH_of z
  have atT : ∀ b ∈ ts, H b = some (.tbl #[]) := fun b hb => by
    rw [← hH]
    exact firstH_tab hb
  -- what is neither a list nor an empty table is not tracked
  have off : ∀ {b : Addr} {o : Obj}, s.heap.get? b = some o → (∀ us n, o.data ≠ .seq us n) → o.data ≠ .fields #[] → H b = none := fun {b o} e n1 n2 => by
    cases z : H b with
    | none => rfl
    | some u =>
      rcases of z with ⟨m, _⟩ | ⟨m, _, _⟩
      · rw [emp b m] at e
        cases e
        exact absurd rfl n2
      · rw [m, script] at e
        cases e
        exact absurd rfl (n1 _ _)
  have dict : ∀ {b : Addr} {o : Obj} {es : Array DictEntry} {n : Nat}, s.heap.get? b = some o → o.data = .dict es n → H b = none := fun {b o es n} e d =>
    off e (fun us m z => by rw [d] at z; cases z) fun z => by rw [d] at z; cases z
  have stays : ∀ {b : Addr} {m : Str → Option Value}, s.heap.Ns b m → (hidT s.heap H).Ns b m := fun {b m} z => by
    obtain ⟨o, es, ep, e, d, r⟩ := z
    exact ⟨o, es, ep, hidT_get e (dict e d), d, r⟩
  have kin2 : K.In (hidT s.heap H) := fun b o e => by
    refine hidT_get (kin b o e) ?_
    cases z : H b with
    | none => rfl
    | some u =>
      rcases of z with ⟨m, _⟩ | ⟨m, n, _⟩
      · obtain ⟨p, hp, rfl⟩ := ofT b m
        rw [untold p hp] at e
        cases e
      · rw [m, n] at e
        cases e
  have glob2 := stays glob
  have mod : L2.Mod K mg (hidT s.heap H) := by
    refine ⟨kin2, glob2, ⟨mb, stays bns, boot⟩, ?_⟩
    obtain ⟨mc, l1, l2⟩ := lim
    exact ⟨mc, stays l1, l2⟩
  have tb : ∀ p ∈ cs, TabB (hidT s.heap H) mg p.1 p.2 := fun p hp => by
    have eT := tabs p hp
    refine ⟨?_, ?_, fun z => ?_⟩
    · obtain ⟨o, us, file, tf, flags, tg, inF, text, tt, e1, r1, r2, r3, r⟩ := codes p hp
      refine ⟨o, us, file, tf, flags, tg, inF, text, tt, hidT_get e1 (off e1 (fun ws n z => ?_) fun z => ?_), r1, r2, r3, r⟩
      · rw [r2] at z
        cases z
      · rw [r2] at z
        have z2 : us = #[] := by cases z; rfl
        rw [z2] at r3
        simp at r3
    · obtain ⟨bm, ob, b1, b2, b3, b4, b5, b6⟩ := bmod
      refine ⟨bm, ob, b1, b2, fun z => ?_, fun z => ?_, hidT_get b3 (off b3 (fun ws n z => ?_) fun z => ?_), b4, b5, b6⟩
      · obtain ⟨o, es, ep, e, hd, _⟩ := glob
        rw [z, e] at b3
        cases b3
        rw [hd] at b6
        cases b6
      · rw [z, eT] at b3
        cases b3
        cases b6
      · rw [b6] at z
        cases z
      · rw [b6] at z
        cases z
    · obtain ⟨o, es, ep, e, hd, _⟩ := glob
      rw [z, eT] at e
      cases e
      cases hd
  have held : HOk P w H s.heap := fun b u z => by
    rcases of z with ⟨m, rfl⟩ | ⟨rfl, n, rfl⟩
    · exact emp b m
    · refine ⟨script, ?_, vs, 0, rel, script⟩
      rw [List.length_map]
      exact short
  have seq : SqL K H a (ns.map V.int) := by
    cases hk : K.lookup a with
    | none =>
      refine .inl (.inr ⟨{ cls := .type "list", data := .seq vs.toArray }, ?_⟩)
      rw [← hH]
      exact firstH_at aT hk
    | some o =>
      have e := kin a o hk
      rw [script] at e
      cases e
      refine .inr ⟨_, vs.toArray, _, hk, rfl, rfl, rfl, ?_, by simpa using rel⟩
      rw [List.size_toArray, many]
      exact short
  have start : Env0 P w K mg (hidT s.heap H) callerA [] s H := by
    refine ⟨rfl, mod, fun b o e => of_hidT e, Nat.le_of_eq (hidT_size _ _), trivial, fun b z => ?_, held, .of_eq gens⟩
    exact absurd z (List.not_mem_nil)
  have ran := (F _ kin2 glob2 tb).runs callerA [] s H ⟨[.ref a], []⟩ [.ref a] [.ref a] _ _ rfl room start (binds s (.ref a)) (.cons rfl .nil) (holds H (fun p hp => atT _ (inT p hp)) seq)
  refine codeAny_mono ran fun r s2 h => ?_
  match r, h with
  | .error e, h => exact (noerr H e s2 h).elim
  | .ok .next, h => exact h.elim
  | .ok .brk, h => exact h.elim
  | .ok .cont, h => exact h.elim
  | .ok (.ret u), h =>
    obtain ⟨v, H2, os, bare, un, ok2, rv, rfl⟩ := h
    obtain rfl : u = Value.bool true := rv
    have same : ∀ b o, b ∉ ts → s.heap.get? b = some o → s2.heap.get? b = some o := fun b o nb e => by
      cases z : H b with
      | none => exact un.keep b o e z (List.not_mem_nil) (List.not_mem_nil)
      | some u =>
        rcases of z with ⟨m, _⟩ | ⟨rfl, n, rfl⟩
        · exact absurd m nb
        · obtain ⟨e2, _⟩ := ok2 b _ (un.frzs b _ _ z)
          rw [script] at e
          cases e
          exact e2
    have more : ∀ b ∈ ts, ∃ us : Array Value, s2.heap.get? b = some { cls := .none, data := .fields us } := fun b hb => by
      obtain ⟨us, z⟩ := un.tbls b #[] (atT b hb)
      exact ⟨_, ok2 b _ z⟩
    refine ⟨rfl, ⟨fun b o e => ?_, fun b o e => ?_⟩, os, bare⟩
    · by_cases hb : b ∈ ts
      · obtain ⟨us, hu⟩ := more b hb
        obtain ⟨p, hp, rfl⟩ := ofT b hb
        have eT := tabs p hp
        rw [eT] at e
        cases e
        refine .inr (.inl ⟨((codes p hp).tab eT).isCodeTable, rfl, #[], us, rfl, ?_⟩)
        rw [Array.empty_append]
        exact hu
      · exact .inl (same b o hb e)
    · by_cases hb : b ∈ ts
      · obtain ⟨us, hu⟩ := more b hb
        exact ⟨_, hu⟩
      · exact ⟨o, same b o hb e⟩
end LamX

set_option Elab.async false
set_option linter.all false
set_option maxRecDepth 100000
set_option maxHeartbeats 4000000
/-! The end of a law, the modules known to stand in the ground. -/
namespace LamX
open PySem PySem.Spec PyProof.Rows L2
theorem law_callS {P : Program} {w : World} {K : PySem.W.Frag} {mg mb mm : Str → Option Value} {C : CXT} {k : Nat} {fa a : Addr} {cs : List (Addr × Addr)} {fd : FuncData} {x : Str} {sp : Sp} {s : Shared} {vs : List Value} {ns : List Int}
    (kin : K.In s.heap) (glob : s.heap.Ns mainGlobals mg) (bns : s.heap.Ns builtinsNs mb) (boot : ∀ y : Str, y ≠ "__name__" → mb y = bootBuiltins y) (lim : s.heap.NoLimit) (gens : s.gens = #[])
    (modules : s.heap.Ns sysModules mm)
    (tabs : ∀ p ∈ cs, s.heap.get? p.2 = some { cls := .none, data := .fields #[] }) (untold : ∀ p ∈ cs, K.lookup p.2 = none) (codes : ∀ p ∈ cs, PySem.W.CodeHd s.heap p.1 p.2)
    (bmod : ∃ (bm : Addr) (ob : Obj), mg "__builtins__" = some (.ref bm) ∧ bm ≠ builtinsNs ∧ s.heap.get? bm = some ob ∧ ob.cls = .type "module" ∧ ob.dict = some builtinsNs ∧ ob.data = .plain)
    (script : s.heap.get? a = some { cls := .type "list", data := .seq vs.toArray }) (whole : IntsAre vs ns) (short : ns.length ≤ sizeLine) (room : Room k callerA)
    (F : ∀ base : Heap, SysIn base → K.In base → base.Ns mainGlobals mg → (∀ p ∈ cs, TabB base mg p.1 p.2) → FnG P w K mg base C k fa fd [x] sp) (binds : ∀ (s : Shared) (u : Value), BindsTo s fd ⟨[u], []⟩ [(x, u)])
    (holds : ∀ H : Hp, (∀ p ∈ cs, H p.2 = some (.tbl #[])) → SqL K H a (ns.map V.int) → sp [.ref a] H (fun v _ => v = .bl true) fun _ _ _ => False)
    (noerr : ∀ H e s', C [] H s (fun _ _ _ => False) e s' → False) :
    codeAny (model P w) callerA (.call (.ref fa) ⟨[.ref a], []⟩) (fun r s' => r = .ok (.ret (.bool true)) ∧ OldK s.heap s'.heap ∧ s'.os = s.os ∧ AllBare s'.gens) s := by
  have rel := vals_ints whole
  have many := whole.length
  generalize hts : cs.map (·.2) = ts
  have inT : ∀ p ∈ cs, p.2 ∈ ts := fun p hp => by
    rw [← hts]
    exact List.mem_map.mpr ⟨p, hp, rfl⟩
  have ofT : ∀ b ∈ ts, ∃ p ∈ cs, p.2 = b := fun b hb => by
    rw [← hts] at hb
    exact List.mem_map.mp hb
  have emp : ∀ b ∈ ts, s.heap.get? b = some { cls := .none, data := .fields #[] } := fun b hb => by
    obtain ⟨p, hp, rfl⟩ := ofT b hb
    exact tabs p hp
  have aT : a ∉ ts := fun z => by
    have e := emp a z
    rw [script] at e
    have e2 := congrArg Obj.data (Option.some.inj e)
    cases e2
  generalize hH : firstH K ts a { cls := .type "list", data := .seq vs.toArray } (ns.map V.int) = H
  have of : ∀ {b u}, H b = some u → (b ∈ ts ∧ u = .tbl #[]) ∨ (b = a ∧ K.lookup a = none ∧ u = .frz { cls := .type "list", data := .seq vs.toArray } (.lst (ns.map V.int))) := fun {b u} z => by
    rw [← hH] at z
    exact firstH_of z
  have atT : ∀ b ∈ ts, H b = some (.tbl #[]) := fun b hb => by
    rw [← hH]
    exact firstH_tab hb
  -- what is neither a list nor an empty table is not tracked
  have off : ∀ {b : Addr} {o : Obj}, s.heap.get? b = some o → (∀ us n, o.data ≠ .seq us n) → o.data ≠ .fields #[] → H b = none := fun {b o} e n1 n2 => by
    cases z : H b with
    | none => rfl
    | some u =>
      rcases of z with ⟨m, _⟩ | ⟨m, _, _⟩
      · rw [emp b m] at e
        cases e
        exact absurd rfl n2
      · rw [m, script] at e
        cases e
        exact absurd rfl (n1 _ _)
  have dict : ∀ {b : Addr} {o : Obj} {es : Array DictEntry} {n : Nat}, s.heap.get? b = some o → o.data = .dict es n → H b = none := fun {b o es n} e d =>
    off e (fun us m z => by rw [d] at z; cases z) fun z => by rw [d] at z; cases z
  have stays : ∀ {b : Addr} {m : Str → Option Value}, s.heap.Ns b m → (hidT s.heap H).Ns b m := fun {b m} z => by
    obtain ⟨o, es, ep, e, d, r⟩ := z
    exact ⟨o, es, ep, hidT_get e (dict e d), d, r⟩
  have kin2 : K.In (hidT s.heap H) := fun b o e => by
    refine hidT_get (kin b o e) ?_
    cases z : H b with
    | none => rfl
    | some u =>
      rcases of z with ⟨m, _⟩ | ⟨m, n, _⟩
      · obtain ⟨p, hp, rfl⟩ := ofT b m
        rw [untold p hp] at e
        cases e
      · rw [m, n] at e
        cases e
  have glob2 := stays glob
  have mod : L2.Mod K mg (hidT s.heap H) := by
    refine ⟨kin2, glob2, ⟨mb, stays bns, boot⟩, ?_⟩
    obtain ⟨mc, l1, l2⟩ := lim
    exact ⟨mc, stays l1, l2⟩
  have tb : ∀ p ∈ cs, TabB (hidT s.heap H) mg p.1 p.2 := fun p hp => by
    have eT := tabs p hp
    refine ⟨?_, ?_, fun z => ?_⟩
    · obtain ⟨o, us, file, tf, flags, tg, inF, text, tt, e1, r1, r2, r3, r⟩ := codes p hp
      refine ⟨o, us, file, tf, flags, tg, inF, text, tt, hidT_get e1 (off e1 (fun ws n z => ?_) fun z => ?_), r1, r2, r3, r⟩
      · rw [r2] at z
        cases z
      · rw [r2] at z
        have z2 : us = #[] := by cases z; rfl
        rw [z2] at r3
        simp at r3
    · obtain ⟨bm, ob, b1, b2, b3, b4, b5, b6⟩ := bmod
      refine ⟨bm, ob, b1, b2, fun z => ?_, fun z => ?_, hidT_get b3 (off b3 (fun ws n z => ?_) fun z => ?_), b4, b5, b6⟩
      · obtain ⟨o, es, ep, e, hd, _⟩ := glob
        rw [z, e] at b3
        cases b3
        rw [hd] at b6
        cases b6
      · rw [z, eT] at b3
        cases b3
        cases b6
      · rw [b6] at z
        cases z
      · rw [b6] at z
        cases z
    · obtain ⟨o, es, ep, e, hd, _⟩ := glob
      rw [z, eT] at e
      cases e
      cases hd
  have held : HOk P w H s.heap := fun b u z => by
    rcases of z with ⟨m, rfl⟩ | ⟨rfl, n, rfl⟩
    · exact emp b m
    · refine ⟨script, ?_, vs, 0, rel, script⟩
      rw [List.length_map]
      exact short
  have seq : SqL K H a (ns.map V.int) := by
    cases hk : K.lookup a with
    | none =>
      refine .inl (.inr ⟨{ cls := .type "list", data := .seq vs.toArray }, ?_⟩)
      rw [← hH]
      exact firstH_at aT hk
    | some o =>
      have e := kin a o hk
      rw [script] at e
      cases e
      refine .inr ⟨_, vs.toArray, _, hk, rfl, rfl, rfl, ?_, by simpa using rel⟩
      rw [List.size_toArray, many]
      exact short
  have start : Env0 P w K mg (hidT s.heap H) callerA [] s H := by
    refine ⟨rfl, mod, fun b o e => of_hidT e, Nat.le_of_eq (hidT_size _ _), trivial, fun b z => ?_, held, .of_eq gens⟩
    exact absurd z (List.not_mem_nil)
  have ran := (F _ (by obtain ⟨o, es, ep, e, d, r⟩ := modules; exact ⟨o, hidT_get e (dict e d)⟩) kin2 glob2 tb).runs callerA [] s H ⟨[.ref a], []⟩ [.ref a] [.ref a] _ _ rfl room start (binds s (.ref a)) (.cons rfl .nil) (holds H (fun p hp => atT _ (inT p hp)) seq)
  refine codeAny_mono ran fun r s2 h => ?_
  match r, h with
  | .error e, h => exact (noerr H e s2 h).elim
  | .ok .next, h => exact h.elim
  | .ok .brk, h => exact h.elim
  | .ok .cont, h => exact h.elim
  | .ok (.ret u), h =>
    obtain ⟨v, H2, os, bare, un, ok2, rv, rfl⟩ := h
    obtain rfl : u = Value.bool true := rv
    have same : ∀ b o, b ∉ ts → s.heap.get? b = some o → s2.heap.get? b = some o := fun b o nb e => by
      cases z : H b with
      | none => exact un.keep b o e z (List.not_mem_nil) (List.not_mem_nil)
      | some u =>
        rcases of z with ⟨m, _⟩ | ⟨rfl, n, rfl⟩
        · exact absurd m nb
        · obtain ⟨e2, _⟩ := ok2 b _ (un.frzs b _ _ z)
          rw [script] at e
          cases e
          exact e2
    have more : ∀ b ∈ ts, ∃ us : Array Value, s2.heap.get? b = some { cls := .none, data := .fields us } := fun b hb => by
      obtain ⟨us, z⟩ := un.tbls b #[] (atT b hb)
      exact ⟨_, ok2 b _ z⟩
    refine ⟨rfl, ⟨fun b o e => ?_, fun b o e => ?_⟩, os, bare⟩
    · by_cases hb : b ∈ ts
      · obtain ⟨us, hu⟩ := more b hb
        obtain ⟨p, hp, rfl⟩ := ofT b hb
        have eT := tabs p hp
        rw [eT] at e
        cases e
        refine .inr (.inl ⟨((codes p hp).tab eT).isCodeTable, rfl, #[], us, rfl, ?_⟩)
        rw [Array.empty_append]
        exact hu
      · exact .inl (same b o hb e)
    · by_cases hb : b ∈ ts
      · obtain ⟨us, hu⟩ := more b hb
        exact ⟨_, hu⟩
      · exact ⟨o, same b o hb e⟩
end LamX

set_option Elab.async false
set_option linter.all false
set_option maxRecDepth 100000
set_option maxHeartbeats 16000000
set_option pp.maxSteps 3000
/-! What the top has left, taken together. -/
namespace V8
open PySem PySem.Spec PyProof.Rows L2 LamX
theorem exm_of {K : PySem.W.Frag} {S R : Addr} (h1 : PySem.W.subIn K (.ref R) (.type "BaseException") = some true) (h2 : PySem.W.isClsIn K R = true) (h3 : PySem.W.typeIn K (.ref R) = some (.type "type")) (h4 : PySem.W.subIn K (.ref S) (.ref R) = some true) : PySem.W.exmOne K (.ref S) (.ref R) = some true := by
  unfold PySem.W.isClsIn at h2
  unfold PySem.W.exmOne
  rw [h1, if_pos (show (some true == some true) = true from rfl)]
  unfold PySem.W.kitCls
  dsimp only
  rw [h2, h3, if_pos (show (true && (some (Value.type "type") == some (Value.type "type"))) = true by decide +kernel), h4]
/-- a class of errors, below CE -/
structure ClsX (K : PySem.W.Frag) (CE C : Addr) : Prop where
  x : ∃ nm q N bs sn sub ab col dd k0 k1 k2 k3 k5, K.lookup C = some (excClassObj nm q C N bs [.ref CE, .type "ValueError", .type "Exception", .type "BaseException", .type "object"] true sn sub ab col dd k0 k1 k2 k3 k5 "ValueError.__new__")
section
variable {K : PySem.W.Frag} {CE C D : Addr}
theorem ClsX.cls (c : ClsX K CE C) : ∃ cd, PySem.W.clsIn K C = some cd ∧ cd.mro = .ref C :: [.ref CE, .type "ValueError", .type "Exception", .type "BaseException", .type "object"] ∧ cd.hasDict = true := by
  obtain ⟨nm, q, N, bs, sn, sub, ab, col, dd, k0, k1, k2, k3, k5, e⟩ := c.x
  unfold PySem.W.clsIn
  rw [e]
  exact ⟨_, rfl, rfl, rfl⟩
theorem ClsX.isC (c : ClsX K CE C) : PySem.W.isClsIn K C = true := by
  obtain ⟨cd, e, _⟩ := c.cls
  unfold PySem.W.isClsIn
  rw [e]
  rfl
theorem ClsX.hd (c : ClsX K CE C) : PySem.W.hasDictIn K C = true := by
  obtain ⟨cd, e, _, h⟩ := c.cls
  unfold PySem.W.hasDictIn
  rw [e]
  exact h
theorem ClsX.ty (c : ClsX K CE C) : PySem.W.typeIn K (.ref C) = some (.type "type") := by
  obtain ⟨nm, q, N, bs, sn, sub, ab, col, dd, k0, k1, k2, k3, k5, e⟩ := c.x
  show (K.lookup C).map _ = _
  rw [e]
  rfl
theorem ClsX.sub (c : ClsX K CE C) (b : Value) : PySem.W.subIn K (.ref C) b = some ((.ref C :: [.ref CE, .type "ValueError", .type "Exception", .type "BaseException", .type "object"] : List Value).contains b) := by
  obtain ⟨cd, e, h, _⟩ := c.cls
  show PySem.W.mroIn K C b = _
  unfold PySem.W.mroIn
  rw [e]
  show (if cd.mro.isEmpty then none else some (cd.mro.contains b)) = _
  rw [h]
  rfl
theorem ClsX.ex (c : ClsX K CE C) : PySem.W.subIn K (.ref C) (.type "BaseException") = some true := by
  rw [c.sub, List.contains_iff_mem.mpr (by simp)]
theorem ClsX.hm (c : ClsX K CE C) : PySem.W.mroIn K C (.type "object") = some true := by
  have e := c.sub (.type "object")
  rw [List.contains_iff_mem.mpr (by simp)] at e
  exact e
theorem ClsX.sE (c : ClsX K CE C) : PySem.W.subIn K (.ref C) (.ref CE) = some true := by
  rw [c.sub, List.contains_iff_mem.mpr (by simp)]
theorem ClsX.kV (c : ClsX K CE C) : PySem.W.kitOne K (.ref C) (.type "ValueError") = some true := by
  unfold PySem.W.kitOne
  rw [if_neg (by intro z; exact nomatch (beq_iff_eq.mp z))]
  show (if PySem.W.kitMeta "ValueError" = true then PySem.W.subIn K (.ref C) (.type "ValueError") else none) = _
  rw [if_pos (by decide +kernel), c.sub, List.contains_iff_mem.mpr (by simp)]
theorem kE_of (c : ClsX K CE C) (ne : C ≠ CE) (h2 : PySem.W.isClsIn K CE = true) (h3 : PySem.W.typeIn K (.ref CE) = some (.type "type")) : PySem.W.kitOne K (.ref C) (.ref CE) = some true := by
  unfold PySem.W.isClsIn at h2
  unfold PySem.W.kitOne
  rw [if_neg (by intro z; cases beq_iff_eq.mp z; exact ne rfl)]
  unfold PySem.W.kitCls
  dsimp only
  rw [h2, h3, if_pos (show (true && (some (Value.type "type") == some (Value.type "type"))) = true by decide +kernel), c.sE]
theorem kk_self {v : Value} : PySem.W.kitOne K v v = some true := by
  unfold PySem.W.kitOne
  rw [if_pos (beq_self_eq_true v)]
theorem kk_of (c : ClsX K CE C) (d : ClsX K CE D) (ne : C ≠ D) (nE : D ≠ CE) : PySem.W.kitOne K (.ref C) (.ref D) = some false := by
  have h2 := d.isC
  have h3 := d.ty
  unfold PySem.W.isClsIn at h2
  unfold PySem.W.kitOne
  rw [if_neg (by intro z; cases beq_iff_eq.mp z; exact ne rfl)]
  unfold PySem.W.kitCls
  dsimp only
  rw [h2, h3, if_pos (show (true && (some (Value.type "type") == some (Value.type "type"))) = true by decide +kernel), c.sub]
  refine congrArg some (Bool.eq_false_iff.mpr fun z => ?_)
  have m := List.contains_iff_mem.mp z
  simp at m
  rcases m with m | m
  · exact ne m.symm
  · exact nE m
end
def CzOf (l : List Addr) (i : Nat) : Addr := l.getD i 0
theorem czof_get {l : List Addr} {i : Nat} (h : i < l.length) : l[i] = CzOf l i := by
  unfold CzOf
  rw [List.getD_eq_getElem?_getD, List.getElem?_eq_getElem h]
  rfl
theorem kit_all {K : PySem.W.Frag} {CE : Addr} {l : List Addr} (nd : (CE :: l).Nodup) (c : ∀ i, i < l.length → ClsX K CE (CzOf l i)) (i j : Nat) (hi : i < l.length) (hj : j < l.length) : PySem.W.kitOne K (.ref (CzOf l i)) (.ref (CzOf l j)) = some (decide (i = j)) := by
  by_cases h : i = j
  · subst h
    rw [kk_self, decide_eq_true rfl]
  · rw [decide_eq_false h]
    have n2 := List.nodup_cons.mp nd
    have pw := List.pairwise_iff_getElem.mp n2.2
    refine kk_of (c i hi) (c j hj) (fun z => ?_) fun z => n2.1 ?_
    · rw [← czof_get hi, ← czof_get hj] at z
      rcases Nat.lt_or_gt_of_ne h with lt | lt
      · exact pw i j hi hj lt z
      · exact pw j i hj hi lt z.symm
    · rw [← z, ← czof_get hj]
      exact List.getElem_mem hj
theorem ne_all {CE : Addr} {l : List Addr} (nd : (CE :: l).Nodup) (i : Nat) (hi : i < l.length) : CzOf l i ≠ CE := fun z => (List.nodup_cons.mp nd).1 (by rw [← z, ← czof_get hi]; exact List.getElem_mem hi)
theorem vals_two {x y : V} {us : List Value} (h : Vals [x, y] us) : Vals [y, x] us.reverse := by
  match us, h with
  | [a, b], .cons r1 (.cons r2 .nil) => exact .cons r2 (.cons r1 .nil)
theorem vals_revW : ∀ {xs : List V} {us : List Value}, Vals xs us → Vals xs.reverse us.reverse
  | [], _, .nil => .nil
  | x :: xs, u :: us, .cons r h => by
    rw [List.reverse_cons, List.reverse_cons]
    exact (vals_revW h).append (.cons r .nil)
/-- what the law promises where the script is laid -/
structure LawW (l : PySem.W.OpenLaw) (w : World) (K : PySem.W.Frag) (k : Nat) (mg : Str → Option Value) (fa : Addr) (h : Heap) (fd : FuncData) (sp : Sp) : Prop where
  binds : ∀ (s : Shared) (u : Value), BindsTo s fd ⟨[u], []⟩ [("_law_script", u)]
  starts : ∀ (H : Hp) (a : Addr) (ns : List Int), ns.length ≤ 63 → (∀ z ∈ ns, Builtin.Int.intBits z ≤ 1048576) → SqL K H a (ns.map V.int) → sp [.ref a] H (fun v _ => v = .bl true) fun _ _ _ => False
  runs : ∀ base : Heap, SysIn base → K.In base → base.Ns mainGlobals mg → FnG l.prog w K mg base CX0 k fa fd ["_law_script"] sp
theorem all_mk {l : PySem.W.OpenLaw} {w : World} {K : PySem.W.Frag} {fa : Addr} {h : Heap} {mg : Str → Option Value} {CE C0 N0 C1 N1 C2 N2 C3 N3 C4 N4 C5 N5 C6 N6 C7 N7 C8 N8 C9 N9 C10 N10 C11 N11 C12 N12 C13 N13 C14 N14 C15 N15 C16 N16 C17 N17 C18 N18 C19 N19 C20 N20 C21 N21 C22 N22 C23 N23 C24 N24 f0 f1 f2 f3 f4 f5 f6 f7 f8 f9 f10 f11 f12 f13 f14 f15 f16 f17 f18 f19 f20 f21 f22 f23 f24 f25 f26 f27 f28 f29 f30 f31 f32 f33 f34 f35 f36 : Addr} {od0 an0 od1 an1 od2 an2 od3 an3 od4 an4 od5 an5 od6 an6 od7 an7 od8 an8 od9 an9 od10 an10 od11 an11 od12 an12 od13 an13 od14 an14 od15 an15 od16 an16 od17 an17 od18 an18 od19 an19 od20 an20 od21 an21 od22 an22 od23 an23 od24 an24 od25 an25 od26 an26 od27 an27 od28 an28 od29 an29 od30 an30 od31 an31 od32 an32 od33 an33 od34 an34 od35 an35 od36 an36 : Option Addr} {sl0 sl1 sl2 sl3 sl4 sl5 sl6 sl7 sl8 sl9 sl10 sl11 sl12 sl13 sl14 sl15 sl16 sl17 sl18 sl19 sl20 sl21 sl22 sl23 sl24 sl25 sl26 sl27 sl28 sl29 sl30 sl31 sl32 sl33 sl34 sl35 sl36 : Array (Option Value)} {oc0 kV0 dc0 pm0 cd0 ct0 oc1 kV1 dc1 pm1 cd1 ct1 oc2 kV2 dc2 pm2 cd2 ct2 oc3 kV3 dc3 pm3 cd3 ct3 oc4 kV4 dc4 pm4 cd4 ct4 oc5 kV5 dc5 pm5 cd5 ct5 oc6 kV6 dc6 pm6 cd6 ct6 oc7 kV7 dc7 pm7 cd7 ct7 oc8 kV8 dc8 pm8 cd8 ct8 oc9 kV9 dc9 pm9 cd9 ct9 oc10 kV10 dc10 pm10 cd10 ct10 oc11 kV11 dc11 pm11 cd11 ct11 oc12 kV12 dc12 pm12 cd12 ct12 oc13 kV13 dc13 pm13 cd13 ct13 oc14 kV14 dc14 pm14 cd14 ct14 oc15 kV15 dc15 pm15 cd15 ct15 oc16 kV16 dc16 pm16 cd16 ct16 oc17 kV17 dc17 pm17 cd17 ct17 oc18 kV18 dc18 pm18 cd18 ct18 oc19 kV19 dc19 pm19 cd19 ct19 oc20 kV20 dc20 pm20 cd20 ct20 oc21 kV21 dc21 pm21 cd21 ct21 oc22 kV22 dc22 pm22 cd22 ct22 oc23 kV23 dc23 pm23 cd23 ct23 oc24 kV24 dc24 pm24 cd24 ct24 oc25 kV25 dc25 pm25 cd25 ct25 oc26 kV26 dc26 pm26 cd26 ct26 oc27 kV27 dc27 pm27 cd27 ct27 oc28 kV28 dc28 pm28 cd28 ct28 oc29 kV29 dc29 pm29 cd29 ct29 oc30 kV30 dc30 pm30 cd30 ct30 oc31 kV31 dc31 pm31 cd31 ct31 oc32 kV32 dc32 pm32 cd32 ct32 oc33 kV33 dc33 pm33 cd33 ct33 oc34 kV34 dc34 pm34 cd34 ct34 oc35 kV35 dc35 pm35 cd35 ct35 oc36 kV36 dc36 pm36 cd36 ct36 : Value} {bs0 sub0 bs1 sub1 bs2 sub2 bs3 sub3 bs4 sub4 bs5 sub5 bs6 sub6 bs7 sub7 bs8 sub8 bs9 sub9 bs10 sub10 bs11 sub11 bs12 sub12 bs13 sub13 bs14 sub14 bs15 sub15 bs16 sub16 bs17 sub17 bs18 sub18 bs19 sub19 bs20 sub20 bs21 sub21 bs22 sub22 bs23 sub23 bs24 sub24 : List Value} {nm0 q0 nm1 q1 nm2 q2 nm3 q3 nm4 q4 nm5 q5 nm6 q6 nm7 q7 nm8 q8 nm9 q9 nm10 q10 nm11 q11 nm12 q12 nm13 q13 nm14 q14 nm15 q15 nm16 q16 nm17 q17 nm18 q18 nm19 q19 nm20 q20 nm21 q21 nm22 q22 nm23 q23 nm24 q24 : Str} {sn0 sn1 sn2 sn3 sn4 sn5 sn6 sn7 sn8 sn9 sn10 sn11 sn12 sn13 sn14 sn15 sn16 sn17 sn18 sn19 sn20 sn21 sn22 sn23 sn24 : List Str} {ab0 ab1 ab2 ab3 ab4 ab5 ab6 ab7 ab8 ab9 ab10 ab11 ab12 ab13 ab14 ab15 ab16 ab17 ab18 ab19 ab20 ab21 ab22 ab23 ab24 : Bool} {col0 col1 col2 col3 col4 col5 col6 col7 col8 col9 col10 col11 col12 col13 col14 col15 col16 col17 col18 col19 col20 col21 col22 col23 col24 : Option Bool} {dd0 dd1 dd2 dd3 dd4 dd5 dd6 dd7 dd8 dd9 dd10 dd11 dd12 dd13 dd14 dd15 dd16 dd17 dd18 dd19 dd20 dd21 dd22 dd23 dd24 : Option Addr} {m00 m01 m02 m03 m05 m10 m11 m12 m13 m15 m20 m21 m22 m23 m25 m30 m31 m32 m33 m35 m40 m41 m42 m43 m45 m50 m51 m52 m53 m55 m60 m61 m62 m63 m65 m70 m71 m72 m73 m75 m80 m81 m82 m83 m85 m90 m91 m92 m93 m95 m100 m101 m102 m103 m105 m110 m111 m112 m113 m115 m120 m121 m122 m123 m125 m130 m131 m132 m133 m135 m140 m141 m142 m143 m145 m150 m151 m152 m153 m155 m160 m161 m162 m163 m165 m170 m171 m172 m173 m175 m180 m181 m182 m183 m185 m190 m191 m192 m193 m195 m200 m201 m202 m203 m205 m210 m211 m212 m213 m215 m220 m221 m222 m223 m225 m230 m231 m232 m233 m235 m240 m241 m242 m243 m245 : Option Value} (X : K.In h) (G : h.Ns mainGlobals mg) (hfa : mg "law" = some (.ref fa))
    (aE : PySem.W.nsIn K mainGlobals "RepairError" = some (some (.ref CE)))
    (a_BadLetter : PySem.W.nsIn K mainGlobals "BadLetter" = some (some (.ref C0)))
    (a_BadWord : PySem.W.nsIn K mainGlobals "BadWord" = some (some (.ref C1)))
    (a_BadNumber : PySem.W.nsIn K mainGlobals "BadNumber" = some (some (.ref C2)))
    (a_BadCode : PySem.W.nsIn K mainGlobals "BadCode" = some (some (.ref C3)))
    (a_BadName : PySem.W.nsIn K mainGlobals "BadName" = some (some (.ref C4)))
    (a_BadImage : PySem.W.nsIn K mainGlobals "BadImage" = some (some (.ref C5)))
    (a_NoSign : PySem.W.nsIn K mainGlobals "NoSign" = some (some (.ref C6)))
    (a_Unlike : PySem.W.nsIn K mainGlobals "Unlike" = some (some (.ref C7)))
    (a_BadTable : PySem.W.nsIn K mainGlobals "BadTable" = some (some (.ref C8)))
    (a_BadRight : PySem.W.nsIn K mainGlobals "BadRight" = some (some (.ref C9)))
    (a_Unread : PySem.W.nsIn K mainGlobals "Unread" = some (some (.ref C10)))
    (a_Barred : PySem.W.nsIn K mainGlobals "Barred" = some (some (.ref C11)))
    (a_BadList : PySem.W.nsIn K mainGlobals "BadList" = some (some (.ref C12)))
    (a_BadRow : PySem.W.nsIn K mainGlobals "BadRow" = some (some (.ref C13)))
    (a_BadFixer : PySem.W.nsIn K mainGlobals "BadFixer" = some (some (.ref C14)))
    (a_NoOrigin : PySem.W.nsIn K mainGlobals "NoOrigin" = some (some (.ref C15)))
    (a_Ring : PySem.W.nsIn K mainGlobals "Ring" = some (some (.ref C16)))
    (a_NoName : PySem.W.nsIn K mainGlobals "NoName" = some (some (.ref C17)))
    (a_BadCommand : PySem.W.nsIn K mainGlobals "BadCommand" = some (some (.ref C18)))
    (a_Merging : PySem.W.nsIn K mainGlobals "Merging" = some (some (.ref C19)))
    (a_Several : PySem.W.nsIn K mainGlobals "Several" = some (some (.ref C20)))
    (a_TooMany : PySem.W.nsIn K mainGlobals "TooMany" = some (some (.ref C21)))
    (a_BadText : PySem.W.nsIn K mainGlobals "BadText" = some (some (.ref C22)))
    (a_NoImage : PySem.W.nsIn K mainGlobals "NoImage" = some (some (.ref C23)))
    (a_Nothing : PySem.W.nsIn K mainGlobals "Nothing" = some (some (.ref C24)))
    (a0 : PySem.W.nsIn K mainGlobals "copied" = some (some (.ref f0)))
    (l0 : K.lookup f0 = some ⟨oc0, od0, .func (PySem.W.fnOf "copied" "copied" (defArgs s_copied) (defBody s_copied) (defScope s_copied) .none kV0 dc0 pm0 an0 cd0 ct0), sl0⟩) (c0 : PySem.W.codeIn K cd0 "copied" = true) (k0 : PySem.W.keepIn K (.ref f0) = true)
    (a1 : PySem.W.nsIn K mainGlobals "_law_pen" = some (some (.ref f1)))
    (l1 : K.lookup f1 = some ⟨oc1, od1, .func (PySem.W.fnOf "_law_pen" "_law_pen" (defArgs s_pen) (defBody s_pen) (defScope s_pen) .none kV1 dc1 pm1 an1 cd1 ct1), sl1⟩) (c1 : PySem.W.codeIn K cd1 "_law_pen" = true) (k1 : PySem.W.keepIn K (.ref f1) = true)
    (a2 : PySem.W.nsIn K mainGlobals "_law_draw" = some (some (.ref f2)))
    (l2 : K.lookup f2 = some ⟨oc2, od2, .func (PySem.W.fnOf "_law_draw" "_law_draw" (defArgs s_draw) (defBody s_draw) (defScope s_draw) .none kV2 dc2 pm2 an2 cd2 ct2), sl2⟩) (c2 : PySem.W.codeIn K cd2 "_law_draw" = true) (k2 : PySem.W.keepIn K (.ref f2) = true)
    (a3 : PySem.W.nsIn K mainGlobals "_law_pick" = some (some (.ref f3)))
    (l3 : K.lookup f3 = some ⟨oc3, od3, .func (PySem.W.fnOf "_law_pick" "_law_pick" (defArgs s_pick) (defBody s_pick) (defScope s_pick) .none kV3 dc3 pm3 an3 cd3 ct3), sl3⟩) (c3 : PySem.W.codeIn K cd3 "_law_pick" = true) (k3 : PySem.W.keepIn K (.ref f3) = true)
    (a4 : PySem.W.nsIn K mainGlobals "_law_thing" = some (some (.ref f4)))
    (l4 : K.lookup f4 = some ⟨oc4, od4, .func (PySem.W.fnOf "_law_thing" "_law_thing" (defArgs s__law_thing) (defBody s__law_thing) (defScope s__law_thing) .none kV4 dc4 pm4 an4 cd4 ct4), sl4⟩) (c4 : PySem.W.codeIn K cd4 "_law_thing" = true) (k4 : PySem.W.keepIn K (.ref f4) = true)
    (a5 : PySem.W.nsIn K mainGlobals "_law_singles" = some (some (.ref f5)))
    (l5 : K.lookup f5 = some ⟨oc5, od5, .func (PySem.W.fnOf "_law_singles" "_law_singles" (defArgs s__law_singles) (defBody s__law_singles) (defScope s__law_singles) .none kV5 dc5 pm5 an5 cd5 ct5), sl5⟩) (c5 : PySem.W.codeIn K cd5 "_law_singles" = true) (k5 : PySem.W.keepIn K (.ref f5) = true)
    (a6 : PySem.W.nsIn K mainGlobals "_law_doubles" = some (some (.ref f6)))
    (l6 : K.lookup f6 = some ⟨oc6, od6, .func (PySem.W.fnOf "_law_doubles" "_law_doubles" (defArgs s__law_doubles) (defBody s__law_doubles) (defScope s__law_doubles) .none kV6 dc6 pm6 an6 cd6 ct6), sl6⟩) (c6 : PySem.W.codeIn K cd6 "_law_doubles" = true) (k6 : PySem.W.keepIn K (.ref f6) = true)
    (a7 : PySem.W.nsIn K mainGlobals "_law_single_fields" = some (some (.ref f7)))
    (l7 : K.lookup f7 = some ⟨oc7, od7, .func (PySem.W.fnOf "_law_single_fields" "_law_single_fields" (defArgs s__law_single_fields) (defBody s__law_single_fields) (defScope s__law_single_fields) .none kV7 dc7 pm7 an7 cd7 ct7), sl7⟩) (c7 : PySem.W.codeIn K cd7 "_law_single_fields" = true) (k7 : PySem.W.keepIn K (.ref f7) = true)
    (a8 : PySem.W.nsIn K mainGlobals "_law_double_fields" = some (some (.ref f8)))
    (l8 : K.lookup f8 = some ⟨oc8, od8, .func (PySem.W.fnOf "_law_double_fields" "_law_double_fields" (defArgs s__law_double_fields) (defBody s__law_double_fields) (defScope s__law_double_fields) .none kV8 dc8 pm8 an8 cd8 ct8), sl8⟩) (c8 : PySem.W.codeIn K cd8 "_law_double_fields" = true) (k8 : PySem.W.keepIn K (.ref f8) = true)
    (a9 : PySem.W.nsIn K mainGlobals "_law_kinds" = some (some (.ref f9)))
    (l9 : K.lookup f9 = some ⟨oc9, od9, .func (PySem.W.fnOf "_law_kinds" "_law_kinds" (defArgs s__law_kinds) (defBody s__law_kinds) (defScope s__law_kinds) .none kV9 dc9 pm9 an9 cd9 ct9), sl9⟩) (c9 : PySem.W.codeIn K cd9 "_law_kinds" = true) (k9 : PySem.W.keepIn K (.ref f9) = true)
    (a10 : PySem.W.nsIn K mainGlobals "_law_caught" = some (some (.ref f10)))
    (l10 : K.lookup f10 = some ⟨oc10, od10, .func (PySem.W.fnOf "_law_caught" "_law_caught" (defArgs s__law_caught) (defBody s__law_caught) (defScope s__law_caught) .none kV10 dc10 pm10 an10 cd10 ct10), sl10⟩) (c10 : PySem.W.codeIn K cd10 "_law_caught" = true) (k10 : PySem.W.keepIn K (.ref f10) = true)
    (a11 : PySem.W.nsIn K mainGlobals "law" = some (some (.ref f11)))
    (l11 : K.lookup f11 = some ⟨oc11, od11, .func (PySem.W.fnOf "law" "law" (defArgs s_law) (defBody s_law) (defScope s_law) .none kV11 dc11 pm11 an11 cd11 ct11), sl11⟩) (c11 : PySem.W.codeIn K cd11 "law" = true) (k11 : PySem.W.keepIn K (.ref f11) = true)
    (a12 : PySem.W.findIn K (.ref C0) "__init__" = some (some (.ref f12)))
    (y12 : PySem.W.typeIn K (.ref f12) = some (.type "function"))
    (l12 : K.lookup f12 = some ⟨oc12, od12, .func (PySem.W.fnOf "__init__" "BadLetter.__init__" (defArgs s_BadLetter_init) (defBody s_BadLetter_init) (defScope s_BadLetter_init) .none kV12 dc12 pm12 an12 cd12 ct12), sl12⟩) (c12 : PySem.W.codeIn K cd12 "BadLetter.__init__" = true) (k12 : PySem.W.keepIn K (.ref f12) = true)
    (a13 : PySem.W.findIn K (.ref C1) "__init__" = some (some (.ref f13)))
    (y13 : PySem.W.typeIn K (.ref f13) = some (.type "function"))
    (l13 : K.lookup f13 = some ⟨oc13, od13, .func (PySem.W.fnOf "__init__" "BadWord.__init__" (defArgs s_BadWord_init) (defBody s_BadWord_init) (defScope s_BadWord_init) .none kV13 dc13 pm13 an13 cd13 ct13), sl13⟩) (c13 : PySem.W.codeIn K cd13 "BadWord.__init__" = true) (k13 : PySem.W.keepIn K (.ref f13) = true)
    (a14 : PySem.W.findIn K (.ref C2) "__init__" = some (some (.ref f14)))
    (y14 : PySem.W.typeIn K (.ref f14) = some (.type "function"))
    (l14 : K.lookup f14 = some ⟨oc14, od14, .func (PySem.W.fnOf "__init__" "BadNumber.__init__" (defArgs s_BadNumber_init) (defBody s_BadNumber_init) (defScope s_BadNumber_init) .none kV14 dc14 pm14 an14 cd14 ct14), sl14⟩) (c14 : PySem.W.codeIn K cd14 "BadNumber.__init__" = true) (k14 : PySem.W.keepIn K (.ref f14) = true)
    (a15 : PySem.W.findIn K (.ref C3) "__init__" = some (some (.ref f15)))
    (y15 : PySem.W.typeIn K (.ref f15) = some (.type "function"))
    (l15 : K.lookup f15 = some ⟨oc15, od15, .func (PySem.W.fnOf "__init__" "BadCode.__init__" (defArgs s_BadCode_init) (defBody s_BadCode_init) (defScope s_BadCode_init) .none kV15 dc15 pm15 an15 cd15 ct15), sl15⟩) (c15 : PySem.W.codeIn K cd15 "BadCode.__init__" = true) (k15 : PySem.W.keepIn K (.ref f15) = true)
    (a16 : PySem.W.findIn K (.ref C4) "__init__" = some (some (.ref f16)))
    (y16 : PySem.W.typeIn K (.ref f16) = some (.type "function"))
    (l16 : K.lookup f16 = some ⟨oc16, od16, .func (PySem.W.fnOf "__init__" "BadName.__init__" (defArgs s_BadName_init) (defBody s_BadName_init) (defScope s_BadName_init) .none kV16 dc16 pm16 an16 cd16 ct16), sl16⟩) (c16 : PySem.W.codeIn K cd16 "BadName.__init__" = true) (k16 : PySem.W.keepIn K (.ref f16) = true)
    (a17 : PySem.W.findIn K (.ref C5) "__init__" = some (some (.ref f17)))
    (y17 : PySem.W.typeIn K (.ref f17) = some (.type "function"))
    (l17 : K.lookup f17 = some ⟨oc17, od17, .func (PySem.W.fnOf "__init__" "BadImage.__init__" (defArgs s_BadImage_init) (defBody s_BadImage_init) (defScope s_BadImage_init) .none kV17 dc17 pm17 an17 cd17 ct17), sl17⟩) (c17 : PySem.W.codeIn K cd17 "BadImage.__init__" = true) (k17 : PySem.W.keepIn K (.ref f17) = true)
    (a18 : PySem.W.findIn K (.ref C6) "__init__" = some (some (.ref f18)))
    (y18 : PySem.W.typeIn K (.ref f18) = some (.type "function"))
    (l18 : K.lookup f18 = some ⟨oc18, od18, .func (PySem.W.fnOf "__init__" "NoSign.__init__" (defArgs s_NoSign_init) (defBody s_NoSign_init) (defScope s_NoSign_init) .none kV18 dc18 pm18 an18 cd18 ct18), sl18⟩) (c18 : PySem.W.codeIn K cd18 "NoSign.__init__" = true) (k18 : PySem.W.keepIn K (.ref f18) = true)
    (a19 : PySem.W.findIn K (.ref C7) "__init__" = some (some (.ref f19)))
    (y19 : PySem.W.typeIn K (.ref f19) = some (.type "function"))
    (l19 : K.lookup f19 = some ⟨oc19, od19, .func (PySem.W.fnOf "__init__" "Unlike.__init__" (defArgs s_Unlike_init) (defBody s_Unlike_init) (defScope s_Unlike_init) .none kV19 dc19 pm19 an19 cd19 ct19), sl19⟩) (c19 : PySem.W.codeIn K cd19 "Unlike.__init__" = true) (k19 : PySem.W.keepIn K (.ref f19) = true)
    (a20 : PySem.W.findIn K (.ref C8) "__init__" = some (some (.ref f20)))
    (y20 : PySem.W.typeIn K (.ref f20) = some (.type "function"))
    (l20 : K.lookup f20 = some ⟨oc20, od20, .func (PySem.W.fnOf "__init__" "BadTable.__init__" (defArgs s_BadTable_init) (defBody s_BadTable_init) (defScope s_BadTable_init) .none kV20 dc20 pm20 an20 cd20 ct20), sl20⟩) (c20 : PySem.W.codeIn K cd20 "BadTable.__init__" = true) (k20 : PySem.W.keepIn K (.ref f20) = true)
    (a21 : PySem.W.findIn K (.ref C9) "__init__" = some (some (.ref f21)))
    (y21 : PySem.W.typeIn K (.ref f21) = some (.type "function"))
    (l21 : K.lookup f21 = some ⟨oc21, od21, .func (PySem.W.fnOf "__init__" "BadRight.__init__" (defArgs s_BadRight_init) (defBody s_BadRight_init) (defScope s_BadRight_init) .none kV21 dc21 pm21 an21 cd21 ct21), sl21⟩) (c21 : PySem.W.codeIn K cd21 "BadRight.__init__" = true) (k21 : PySem.W.keepIn K (.ref f21) = true)
    (a22 : PySem.W.findIn K (.ref C10) "__init__" = some (some (.ref f22)))
    (y22 : PySem.W.typeIn K (.ref f22) = some (.type "function"))
    (l22 : K.lookup f22 = some ⟨oc22, od22, .func (PySem.W.fnOf "__init__" "Unread.__init__" (defArgs s_Unread_init) (defBody s_Unread_init) (defScope s_Unread_init) .none kV22 dc22 pm22 an22 cd22 ct22), sl22⟩) (c22 : PySem.W.codeIn K cd22 "Unread.__init__" = true) (k22 : PySem.W.keepIn K (.ref f22) = true)
    (a23 : PySem.W.findIn K (.ref C11) "__init__" = some (some (.ref f23)))
    (y23 : PySem.W.typeIn K (.ref f23) = some (.type "function"))
    (l23 : K.lookup f23 = some ⟨oc23, od23, .func (PySem.W.fnOf "__init__" "Barred.__init__" (defArgs s_Barred_init) (defBody s_Barred_init) (defScope s_Barred_init) .none kV23 dc23 pm23 an23 cd23 ct23), sl23⟩) (c23 : PySem.W.codeIn K cd23 "Barred.__init__" = true) (k23 : PySem.W.keepIn K (.ref f23) = true)
    (a24 : PySem.W.findIn K (.ref C12) "__init__" = some (some (.ref f24)))
    (y24 : PySem.W.typeIn K (.ref f24) = some (.type "function"))
    (l24 : K.lookup f24 = some ⟨oc24, od24, .func (PySem.W.fnOf "__init__" "BadList.__init__" (defArgs s_BadList_init) (defBody s_BadList_init) (defScope s_BadList_init) .none kV24 dc24 pm24 an24 cd24 ct24), sl24⟩) (c24 : PySem.W.codeIn K cd24 "BadList.__init__" = true) (k24 : PySem.W.keepIn K (.ref f24) = true)
    (a25 : PySem.W.findIn K (.ref C13) "__init__" = some (some (.ref f25)))
    (y25 : PySem.W.typeIn K (.ref f25) = some (.type "function"))
    (l25 : K.lookup f25 = some ⟨oc25, od25, .func (PySem.W.fnOf "__init__" "BadRow.__init__" (defArgs s_BadRow_init) (defBody s_BadRow_init) (defScope s_BadRow_init) .none kV25 dc25 pm25 an25 cd25 ct25), sl25⟩) (c25 : PySem.W.codeIn K cd25 "BadRow.__init__" = true) (k25 : PySem.W.keepIn K (.ref f25) = true)
    (a26 : PySem.W.findIn K (.ref C14) "__init__" = some (some (.ref f26)))
    (y26 : PySem.W.typeIn K (.ref f26) = some (.type "function"))
    (l26 : K.lookup f26 = some ⟨oc26, od26, .func (PySem.W.fnOf "__init__" "BadFixer.__init__" (defArgs s_BadFixer_init) (defBody s_BadFixer_init) (defScope s_BadFixer_init) .none kV26 dc26 pm26 an26 cd26 ct26), sl26⟩) (c26 : PySem.W.codeIn K cd26 "BadFixer.__init__" = true) (k26 : PySem.W.keepIn K (.ref f26) = true)
    (a27 : PySem.W.findIn K (.ref C15) "__init__" = some (some (.ref f27)))
    (y27 : PySem.W.typeIn K (.ref f27) = some (.type "function"))
    (l27 : K.lookup f27 = some ⟨oc27, od27, .func (PySem.W.fnOf "__init__" "NoOrigin.__init__" (defArgs s_NoOrigin_init) (defBody s_NoOrigin_init) (defScope s_NoOrigin_init) .none kV27 dc27 pm27 an27 cd27 ct27), sl27⟩) (c27 : PySem.W.codeIn K cd27 "NoOrigin.__init__" = true) (k27 : PySem.W.keepIn K (.ref f27) = true)
    (a28 : PySem.W.findIn K (.ref C16) "__init__" = some (some (.ref f28)))
    (y28 : PySem.W.typeIn K (.ref f28) = some (.type "function"))
    (l28 : K.lookup f28 = some ⟨oc28, od28, .func (PySem.W.fnOf "__init__" "Ring.__init__" (defArgs s_Ring_init) (defBody s_Ring_init) (defScope s_Ring_init) .none kV28 dc28 pm28 an28 cd28 ct28), sl28⟩) (c28 : PySem.W.codeIn K cd28 "Ring.__init__" = true) (k28 : PySem.W.keepIn K (.ref f28) = true)
    (a29 : PySem.W.findIn K (.ref C17) "__init__" = some (some (.ref f29)))
    (y29 : PySem.W.typeIn K (.ref f29) = some (.type "function"))
    (l29 : K.lookup f29 = some ⟨oc29, od29, .func (PySem.W.fnOf "__init__" "NoName.__init__" (defArgs s_NoName_init) (defBody s_NoName_init) (defScope s_NoName_init) .none kV29 dc29 pm29 an29 cd29 ct29), sl29⟩) (c29 : PySem.W.codeIn K cd29 "NoName.__init__" = true) (k29 : PySem.W.keepIn K (.ref f29) = true)
    (a30 : PySem.W.findIn K (.ref C18) "__init__" = some (some (.ref f30)))
    (y30 : PySem.W.typeIn K (.ref f30) = some (.type "function"))
    (l30 : K.lookup f30 = some ⟨oc30, od30, .func (PySem.W.fnOf "__init__" "BadCommand.__init__" (defArgs s_BadCommand_init) (defBody s_BadCommand_init) (defScope s_BadCommand_init) .none kV30 dc30 pm30 an30 cd30 ct30), sl30⟩) (c30 : PySem.W.codeIn K cd30 "BadCommand.__init__" = true) (k30 : PySem.W.keepIn K (.ref f30) = true)
    (a31 : PySem.W.findIn K (.ref C19) "__init__" = some (some (.ref f31)))
    (y31 : PySem.W.typeIn K (.ref f31) = some (.type "function"))
    (l31 : K.lookup f31 = some ⟨oc31, od31, .func (PySem.W.fnOf "__init__" "Merging.__init__" (defArgs s_Merging_init) (defBody s_Merging_init) (defScope s_Merging_init) .none kV31 dc31 pm31 an31 cd31 ct31), sl31⟩) (c31 : PySem.W.codeIn K cd31 "Merging.__init__" = true) (k31 : PySem.W.keepIn K (.ref f31) = true)
    (a32 : PySem.W.findIn K (.ref C20) "__init__" = some (some (.ref f32)))
    (y32 : PySem.W.typeIn K (.ref f32) = some (.type "function"))
    (l32 : K.lookup f32 = some ⟨oc32, od32, .func (PySem.W.fnOf "__init__" "Several.__init__" (defArgs s_Several_init) (defBody s_Several_init) (defScope s_Several_init) .none kV32 dc32 pm32 an32 cd32 ct32), sl32⟩) (c32 : PySem.W.codeIn K cd32 "Several.__init__" = true) (k32 : PySem.W.keepIn K (.ref f32) = true)
    (a33 : PySem.W.findIn K (.ref C21) "__init__" = some (some (.ref f33)))
    (y33 : PySem.W.typeIn K (.ref f33) = some (.type "function"))
    (l33 : K.lookup f33 = some ⟨oc33, od33, .func (PySem.W.fnOf "__init__" "TooMany.__init__" (defArgs s_TooMany_init) (defBody s_TooMany_init) (defScope s_TooMany_init) .none kV33 dc33 pm33 an33 cd33 ct33), sl33⟩) (c33 : PySem.W.codeIn K cd33 "TooMany.__init__" = true) (k33 : PySem.W.keepIn K (.ref f33) = true)
    (a34 : PySem.W.findIn K (.ref C22) "__init__" = some (some (.ref f34)))
    (y34 : PySem.W.typeIn K (.ref f34) = some (.type "function"))
    (l34 : K.lookup f34 = some ⟨oc34, od34, .func (PySem.W.fnOf "__init__" "BadText.__init__" (defArgs s_BadText_init) (defBody s_BadText_init) (defScope s_BadText_init) .none kV34 dc34 pm34 an34 cd34 ct34), sl34⟩) (c34 : PySem.W.codeIn K cd34 "BadText.__init__" = true) (k34 : PySem.W.keepIn K (.ref f34) = true)
    (a35 : PySem.W.findIn K (.ref C23) "__init__" = some (some (.ref f35)))
    (y35 : PySem.W.typeIn K (.ref f35) = some (.type "function"))
    (l35 : K.lookup f35 = some ⟨oc35, od35, .func (PySem.W.fnOf "__init__" "NoImage.__init__" (defArgs s_NoImage_init) (defBody s_NoImage_init) (defScope s_NoImage_init) .none kV35 dc35 pm35 an35 cd35 ct35), sl35⟩) (c35 : PySem.W.codeIn K cd35 "NoImage.__init__" = true) (k35 : PySem.W.keepIn K (.ref f35) = true)
    (a36 : PySem.W.findIn K (.ref C24) "__init__" = some (some (.ref f36)))
    (y36 : PySem.W.typeIn K (.ref f36) = some (.type "function"))
    (l36 : K.lookup f36 = some ⟨oc36, od36, .func (PySem.W.fnOf "__init__" "Nothing.__init__" (defArgs s_Nothing_init) (defBody s_Nothing_init) (defScope s_Nothing_init) .none kV36 dc36 pm36 an36 cd36 ct36), sl36⟩) (c36 : PySem.W.codeIn K cd36 "Nothing.__init__" = true) (k36 : PySem.W.keepIn K (.ref f36) = true)
    (x_BadLetter : K.lookup C0 = some (excClassObj nm0 q0 C0 N0 bs0 [.ref CE, .type "ValueError", .type "Exception", .type "BaseException", .type "object"] true sn0 sub0 ab0 col0 dd0 m00 m01 m02 m03 m05 "ValueError.__new__"))
    (s_BadLetter : PySem.W.findIn K (.ref C0) "__setattr__" = some (some (.builtin "object.__setattr__")))
    (k_BadLetter : PySem.W.keepIn K (.ref C0) = true)
    (hg_BadLetter : PySem.W.findIn K (.ref C0) "__getattribute__" = some (some (.builtin "BaseException.__getattribute__")))
    (hk_BadLetter : PySem.W.findIn K (.ref C0) "__getattr__" = some none)
    (ha_BadLetter : PySem.W.findIn K (.ref C0) "__class__" = some (some (.builtin "object.__class__")))
    (n_BadLetter_value : PySem.W.findIn K (.ref C0) "value" = some none)
    (x_BadWord : K.lookup C1 = some (excClassObj nm1 q1 C1 N1 bs1 [.ref CE, .type "ValueError", .type "Exception", .type "BaseException", .type "object"] true sn1 sub1 ab1 col1 dd1 m10 m11 m12 m13 m15 "ValueError.__new__"))
    (s_BadWord : PySem.W.findIn K (.ref C1) "__setattr__" = some (some (.builtin "object.__setattr__")))
    (k_BadWord : PySem.W.keepIn K (.ref C1) = true)
    (hg_BadWord : PySem.W.findIn K (.ref C1) "__getattribute__" = some (some (.builtin "BaseException.__getattribute__")))
    (hk_BadWord : PySem.W.findIn K (.ref C1) "__getattr__" = some none)
    (ha_BadWord : PySem.W.findIn K (.ref C1) "__class__" = some (some (.builtin "object.__class__")))
    (n_BadWord_value : PySem.W.findIn K (.ref C1) "value" = some none)
    (x_BadNumber : K.lookup C2 = some (excClassObj nm2 q2 C2 N2 bs2 [.ref CE, .type "ValueError", .type "Exception", .type "BaseException", .type "object"] true sn2 sub2 ab2 col2 dd2 m20 m21 m22 m23 m25 "ValueError.__new__"))
    (s_BadNumber : PySem.W.findIn K (.ref C2) "__setattr__" = some (some (.builtin "object.__setattr__")))
    (k_BadNumber : PySem.W.keepIn K (.ref C2) = true)
    (hg_BadNumber : PySem.W.findIn K (.ref C2) "__getattribute__" = some (some (.builtin "BaseException.__getattribute__")))
    (hk_BadNumber : PySem.W.findIn K (.ref C2) "__getattr__" = some none)
    (ha_BadNumber : PySem.W.findIn K (.ref C2) "__class__" = some (some (.builtin "object.__class__")))
    (n_BadNumber_value : PySem.W.findIn K (.ref C2) "value" = some none)
    (x_BadCode : K.lookup C3 = some (excClassObj nm3 q3 C3 N3 bs3 [.ref CE, .type "ValueError", .type "Exception", .type "BaseException", .type "object"] true sn3 sub3 ab3 col3 dd3 m30 m31 m32 m33 m35 "ValueError.__new__"))
    (s_BadCode : PySem.W.findIn K (.ref C3) "__setattr__" = some (some (.builtin "object.__setattr__")))
    (k_BadCode : PySem.W.keepIn K (.ref C3) = true)
    (hg_BadCode : PySem.W.findIn K (.ref C3) "__getattribute__" = some (some (.builtin "BaseException.__getattribute__")))
    (hk_BadCode : PySem.W.findIn K (.ref C3) "__getattr__" = some none)
    (ha_BadCode : PySem.W.findIn K (.ref C3) "__class__" = some (some (.builtin "object.__class__")))
    (n_BadCode_value : PySem.W.findIn K (.ref C3) "value" = some none)
    (x_BadName : K.lookup C4 = some (excClassObj nm4 q4 C4 N4 bs4 [.ref CE, .type "ValueError", .type "Exception", .type "BaseException", .type "object"] true sn4 sub4 ab4 col4 dd4 m40 m41 m42 m43 m45 "ValueError.__new__"))
    (s_BadName : PySem.W.findIn K (.ref C4) "__setattr__" = some (some (.builtin "object.__setattr__")))
    (k_BadName : PySem.W.keepIn K (.ref C4) = true)
    (hg_BadName : PySem.W.findIn K (.ref C4) "__getattribute__" = some (some (.builtin "BaseException.__getattribute__")))
    (hk_BadName : PySem.W.findIn K (.ref C4) "__getattr__" = some none)
    (ha_BadName : PySem.W.findIn K (.ref C4) "__class__" = some (some (.builtin "object.__class__")))
    (n_BadName_value : PySem.W.findIn K (.ref C4) "value" = some none)
    (x_BadImage : K.lookup C5 = some (excClassObj nm5 q5 C5 N5 bs5 [.ref CE, .type "ValueError", .type "Exception", .type "BaseException", .type "object"] true sn5 sub5 ab5 col5 dd5 m50 m51 m52 m53 m55 "ValueError.__new__"))
    (s_BadImage : PySem.W.findIn K (.ref C5) "__setattr__" = some (some (.builtin "object.__setattr__")))
    (k_BadImage : PySem.W.keepIn K (.ref C5) = true)
    (hg_BadImage : PySem.W.findIn K (.ref C5) "__getattribute__" = some (some (.builtin "BaseException.__getattribute__")))
    (hk_BadImage : PySem.W.findIn K (.ref C5) "__getattr__" = some none)
    (ha_BadImage : PySem.W.findIn K (.ref C5) "__class__" = some (some (.builtin "object.__class__")))
    (n_BadImage_letter : PySem.W.findIn K (.ref C5) "letter" = some none)
    (x_NoSign : K.lookup C6 = some (excClassObj nm6 q6 C6 N6 bs6 [.ref CE, .type "ValueError", .type "Exception", .type "BaseException", .type "object"] true sn6 sub6 ab6 col6 dd6 m60 m61 m62 m63 m65 "ValueError.__new__"))
    (s_NoSign : PySem.W.findIn K (.ref C6) "__setattr__" = some (some (.builtin "object.__setattr__")))
    (k_NoSign : PySem.W.keepIn K (.ref C6) = true)
    (hg_NoSign : PySem.W.findIn K (.ref C6) "__getattribute__" = some (some (.builtin "BaseException.__getattribute__")))
    (hk_NoSign : PySem.W.findIn K (.ref C6) "__getattr__" = some none)
    (ha_NoSign : PySem.W.findIn K (.ref C6) "__class__" = some (some (.builtin "object.__class__")))
    (n_NoSign_letter : PySem.W.findIn K (.ref C6) "letter" = some none)
    (x_Unlike : K.lookup C7 = some (excClassObj nm7 q7 C7 N7 bs7 [.ref CE, .type "ValueError", .type "Exception", .type "BaseException", .type "object"] true sn7 sub7 ab7 col7 dd7 m70 m71 m72 m73 m75 "ValueError.__new__"))
    (s_Unlike : PySem.W.findIn K (.ref C7) "__setattr__" = some (some (.builtin "object.__setattr__")))
    (k_Unlike : PySem.W.keepIn K (.ref C7) = true)
    (hg_Unlike : PySem.W.findIn K (.ref C7) "__getattribute__" = some (some (.builtin "BaseException.__getattribute__")))
    (hk_Unlike : PySem.W.findIn K (.ref C7) "__getattr__" = some none)
    (ha_Unlike : PySem.W.findIn K (.ref C7) "__class__" = some (some (.builtin "object.__class__")))
    (n_Unlike_letter : PySem.W.findIn K (.ref C7) "letter" = some none)
    (x_BadTable : K.lookup C8 = some (excClassObj nm8 q8 C8 N8 bs8 [.ref CE, .type "ValueError", .type "Exception", .type "BaseException", .type "object"] true sn8 sub8 ab8 col8 dd8 m80 m81 m82 m83 m85 "ValueError.__new__"))
    (s_BadTable : PySem.W.findIn K (.ref C8) "__setattr__" = some (some (.builtin "object.__setattr__")))
    (k_BadTable : PySem.W.keepIn K (.ref C8) = true)
    (hg_BadTable : PySem.W.findIn K (.ref C8) "__getattribute__" = some (some (.builtin "BaseException.__getattribute__")))
    (hk_BadTable : PySem.W.findIn K (.ref C8) "__getattr__" = some none)
    (ha_BadTable : PySem.W.findIn K (.ref C8) "__class__" = some (some (.builtin "object.__class__")))
    (n_BadTable_part : PySem.W.findIn K (.ref C8) "part" = some none)
    (x_BadRight : K.lookup C9 = some (excClassObj nm9 q9 C9 N9 bs9 [.ref CE, .type "ValueError", .type "Exception", .type "BaseException", .type "object"] true sn9 sub9 ab9 col9 dd9 m90 m91 m92 m93 m95 "ValueError.__new__"))
    (s_BadRight : PySem.W.findIn K (.ref C9) "__setattr__" = some (some (.builtin "object.__setattr__")))
    (k_BadRight : PySem.W.keepIn K (.ref C9) = true)
    (hg_BadRight : PySem.W.findIn K (.ref C9) "__getattribute__" = some (some (.builtin "BaseException.__getattribute__")))
    (hk_BadRight : PySem.W.findIn K (.ref C9) "__getattr__" = some none)
    (ha_BadRight : PySem.W.findIn K (.ref C9) "__class__" = some (some (.builtin "object.__class__")))
    (n_BadRight_part : PySem.W.findIn K (.ref C9) "part" = some none)
    (x_Unread : K.lookup C10 = some (excClassObj nm10 q10 C10 N10 bs10 [.ref CE, .type "ValueError", .type "Exception", .type "BaseException", .type "object"] true sn10 sub10 ab10 col10 dd10 m100 m101 m102 m103 m105 "ValueError.__new__"))
    (s_Unread : PySem.W.findIn K (.ref C10) "__setattr__" = some (some (.builtin "object.__setattr__")))
    (k_Unread : PySem.W.keepIn K (.ref C10) = true)
    (hg_Unread : PySem.W.findIn K (.ref C10) "__getattribute__" = some (some (.builtin "BaseException.__getattribute__")))
    (hk_Unread : PySem.W.findIn K (.ref C10) "__getattr__" = some none)
    (ha_Unread : PySem.W.findIn K (.ref C10) "__class__" = some (some (.builtin "object.__class__")))
    (n_Unread_at : PySem.W.findIn K (.ref C10) "at" = some none)
    (x_Barred : K.lookup C11 = some (excClassObj nm11 q11 C11 N11 bs11 [.ref CE, .type "ValueError", .type "Exception", .type "BaseException", .type "object"] true sn11 sub11 ab11 col11 dd11 m110 m111 m112 m113 m115 "ValueError.__new__"))
    (s_Barred : PySem.W.findIn K (.ref C11) "__setattr__" = some (some (.builtin "object.__setattr__")))
    (k_Barred : PySem.W.keepIn K (.ref C11) = true)
    (hg_Barred : PySem.W.findIn K (.ref C11) "__getattribute__" = some (some (.builtin "BaseException.__getattribute__")))
    (hk_Barred : PySem.W.findIn K (.ref C11) "__getattr__" = some none)
    (ha_Barred : PySem.W.findIn K (.ref C11) "__class__" = some (some (.builtin "object.__class__")))
    (n_Barred_at : PySem.W.findIn K (.ref C11) "at" = some none)
    (x_BadList : K.lookup C12 = some (excClassObj nm12 q12 C12 N12 bs12 [.ref CE, .type "ValueError", .type "Exception", .type "BaseException", .type "object"] true sn12 sub12 ab12 col12 dd12 m120 m121 m122 m123 m125 "ValueError.__new__"))
    (s_BadList : PySem.W.findIn K (.ref C12) "__setattr__" = some (some (.builtin "object.__setattr__")))
    (k_BadList : PySem.W.keepIn K (.ref C12) = true)
    (hg_BadList : PySem.W.findIn K (.ref C12) "__getattribute__" = some (some (.builtin "BaseException.__getattribute__")))
    (hk_BadList : PySem.W.findIn K (.ref C12) "__getattr__" = some none)
    (ha_BadList : PySem.W.findIn K (.ref C12) "__class__" = some (some (.builtin "object.__class__")))
    (n_BadList_at : PySem.W.findIn K (.ref C12) "at" = some none)
    (x_BadRow : K.lookup C13 = some (excClassObj nm13 q13 C13 N13 bs13 [.ref CE, .type "ValueError", .type "Exception", .type "BaseException", .type "object"] true sn13 sub13 ab13 col13 dd13 m130 m131 m132 m133 m135 "ValueError.__new__"))
    (s_BadRow : PySem.W.findIn K (.ref C13) "__setattr__" = some (some (.builtin "object.__setattr__")))
    (k_BadRow : PySem.W.keepIn K (.ref C13) = true)
    (hg_BadRow : PySem.W.findIn K (.ref C13) "__getattribute__" = some (some (.builtin "BaseException.__getattribute__")))
    (hk_BadRow : PySem.W.findIn K (.ref C13) "__getattr__" = some none)
    (ha_BadRow : PySem.W.findIn K (.ref C13) "__class__" = some (some (.builtin "object.__class__")))
    (n_BadRow_at : PySem.W.findIn K (.ref C13) "at" = some none)
    (x_BadFixer : K.lookup C14 = some (excClassObj nm14 q14 C14 N14 bs14 [.ref CE, .type "ValueError", .type "Exception", .type "BaseException", .type "object"] true sn14 sub14 ab14 col14 dd14 m140 m141 m142 m143 m145 "ValueError.__new__"))
    (s_BadFixer : PySem.W.findIn K (.ref C14) "__setattr__" = some (some (.builtin "object.__setattr__")))
    (k_BadFixer : PySem.W.keepIn K (.ref C14) = true)
    (hg_BadFixer : PySem.W.findIn K (.ref C14) "__getattribute__" = some (some (.builtin "BaseException.__getattribute__")))
    (hk_BadFixer : PySem.W.findIn K (.ref C14) "__getattr__" = some none)
    (ha_BadFixer : PySem.W.findIn K (.ref C14) "__class__" = some (some (.builtin "object.__class__")))
    (n_BadFixer_at : PySem.W.findIn K (.ref C14) "at" = some none)
    (x_NoOrigin : K.lookup C15 = some (excClassObj nm15 q15 C15 N15 bs15 [.ref CE, .type "ValueError", .type "Exception", .type "BaseException", .type "object"] true sn15 sub15 ab15 col15 dd15 m150 m151 m152 m153 m155 "ValueError.__new__"))
    (s_NoOrigin : PySem.W.findIn K (.ref C15) "__setattr__" = some (some (.builtin "object.__setattr__")))
    (k_NoOrigin : PySem.W.keepIn K (.ref C15) = true)
    (hg_NoOrigin : PySem.W.findIn K (.ref C15) "__getattribute__" = some (some (.builtin "BaseException.__getattribute__")))
    (hk_NoOrigin : PySem.W.findIn K (.ref C15) "__getattr__" = some none)
    (ha_NoOrigin : PySem.W.findIn K (.ref C15) "__class__" = some (some (.builtin "object.__class__")))
    (n_NoOrigin_text : PySem.W.findIn K (.ref C15) "text" = some none)
    (x_Ring : K.lookup C16 = some (excClassObj nm16 q16 C16 N16 bs16 [.ref CE, .type "ValueError", .type "Exception", .type "BaseException", .type "object"] true sn16 sub16 ab16 col16 dd16 m160 m161 m162 m163 m165 "ValueError.__new__"))
    (s_Ring : PySem.W.findIn K (.ref C16) "__setattr__" = some (some (.builtin "object.__setattr__")))
    (k_Ring : PySem.W.keepIn K (.ref C16) = true)
    (hg_Ring : PySem.W.findIn K (.ref C16) "__getattribute__" = some (some (.builtin "BaseException.__getattribute__")))
    (hk_Ring : PySem.W.findIn K (.ref C16) "__getattr__" = some none)
    (ha_Ring : PySem.W.findIn K (.ref C16) "__class__" = some (some (.builtin "object.__class__")))
    (n_Ring_text : PySem.W.findIn K (.ref C16) "text" = some none)
    (x_NoName : K.lookup C17 = some (excClassObj nm17 q17 C17 N17 bs17 [.ref CE, .type "ValueError", .type "Exception", .type "BaseException", .type "object"] true sn17 sub17 ab17 col17 dd17 m170 m171 m172 m173 m175 "ValueError.__new__"))
    (s_NoName : PySem.W.findIn K (.ref C17) "__setattr__" = some (some (.builtin "object.__setattr__")))
    (k_NoName : PySem.W.keepIn K (.ref C17) = true)
    (hg_NoName : PySem.W.findIn K (.ref C17) "__getattribute__" = some (some (.builtin "BaseException.__getattribute__")))
    (hk_NoName : PySem.W.findIn K (.ref C17) "__getattr__" = some none)
    (ha_NoName : PySem.W.findIn K (.ref C17) "__class__" = some (some (.builtin "object.__class__")))
    (n_NoName_name : PySem.W.findIn K (.ref C17) "name" = some none)
    (x_BadCommand : K.lookup C18 = some (excClassObj nm18 q18 C18 N18 bs18 [.ref CE, .type "ValueError", .type "Exception", .type "BaseException", .type "object"] true sn18 sub18 ab18 col18 dd18 m180 m181 m182 m183 m185 "ValueError.__new__"))
    (s_BadCommand : PySem.W.findIn K (.ref C18) "__setattr__" = some (some (.builtin "object.__setattr__")))
    (k_BadCommand : PySem.W.keepIn K (.ref C18) = true)
    (hg_BadCommand : PySem.W.findIn K (.ref C18) "__getattribute__" = some (some (.builtin "BaseException.__getattribute__")))
    (hk_BadCommand : PySem.W.findIn K (.ref C18) "__getattr__" = some none)
    (ha_BadCommand : PySem.W.findIn K (.ref C18) "__class__" = some (some (.builtin "object.__class__")))
    (n_BadCommand_word : PySem.W.findIn K (.ref C18) "word" = some none)
    (x_Merging : K.lookup C19 = some (excClassObj nm19 q19 C19 N19 bs19 [.ref CE, .type "ValueError", .type "Exception", .type "BaseException", .type "object"] true sn19 sub19 ab19 col19 dd19 m190 m191 m192 m193 m195 "ValueError.__new__"))
    (s_Merging : PySem.W.findIn K (.ref C19) "__setattr__" = some (some (.builtin "object.__setattr__")))
    (k_Merging : PySem.W.keepIn K (.ref C19) = true)
    (hg_Merging : PySem.W.findIn K (.ref C19) "__getattribute__" = some (some (.builtin "BaseException.__getattribute__")))
    (hk_Merging : PySem.W.findIn K (.ref C19) "__getattr__" = some none)
    (ha_Merging : PySem.W.findIn K (.ref C19) "__class__" = some (some (.builtin "object.__class__")))
    (n_Merging_one : PySem.W.findIn K (.ref C19) "one" = some none)
    (n_Merging_other : PySem.W.findIn K (.ref C19) "other" = some none)
    (x_Several : K.lookup C20 = some (excClassObj nm20 q20 C20 N20 bs20 [.ref CE, .type "ValueError", .type "Exception", .type "BaseException", .type "object"] true sn20 sub20 ab20 col20 dd20 m200 m201 m202 m203 m205 "ValueError.__new__"))
    (s_Several : PySem.W.findIn K (.ref C20) "__setattr__" = some (some (.builtin "object.__setattr__")))
    (k_Several : PySem.W.keepIn K (.ref C20) = true)
    (hg_Several : PySem.W.findIn K (.ref C20) "__getattribute__" = some (some (.builtin "BaseException.__getattribute__")))
    (hk_Several : PySem.W.findIn K (.ref C20) "__getattr__" = some none)
    (ha_Several : PySem.W.findIn K (.ref C20) "__class__" = some (some (.builtin "object.__class__")))
    (n_Several_one : PySem.W.findIn K (.ref C20) "one" = some none)
    (n_Several_other : PySem.W.findIn K (.ref C20) "other" = some none)
    (x_TooMany : K.lookup C21 = some (excClassObj nm21 q21 C21 N21 bs21 [.ref CE, .type "ValueError", .type "Exception", .type "BaseException", .type "object"] true sn21 sub21 ab21 col21 dd21 m210 m211 m212 m213 m215 "ValueError.__new__"))
    (s_TooMany : PySem.W.findIn K (.ref C21) "__setattr__" = some (some (.builtin "object.__setattr__")))
    (k_TooMany : PySem.W.keepIn K (.ref C21) = true)
    (hg_TooMany : PySem.W.findIn K (.ref C21) "__getattribute__" = some (some (.builtin "BaseException.__getattribute__")))
    (hk_TooMany : PySem.W.findIn K (.ref C21) "__getattr__" = some none)
    (ha_TooMany : PySem.W.findIn K (.ref C21) "__class__" = some (some (.builtin "object.__class__")))
    (n_TooMany_what : PySem.W.findIn K (.ref C21) "what" = some none)
    (n_TooMany_most : PySem.W.findIn K (.ref C21) "most" = some none)
    (x_BadText : K.lookup C22 = some (excClassObj nm22 q22 C22 N22 bs22 [.ref CE, .type "ValueError", .type "Exception", .type "BaseException", .type "object"] true sn22 sub22 ab22 col22 dd22 m220 m221 m222 m223 m225 "ValueError.__new__"))
    (s_BadText : PySem.W.findIn K (.ref C22) "__setattr__" = some (some (.builtin "object.__setattr__")))
    (k_BadText : PySem.W.keepIn K (.ref C22) = true)
    (hg_BadText : PySem.W.findIn K (.ref C22) "__getattribute__" = some (some (.builtin "BaseException.__getattribute__")))
    (hk_BadText : PySem.W.findIn K (.ref C22) "__getattr__" = some none)
    (ha_BadText : PySem.W.findIn K (.ref C22) "__class__" = some (some (.builtin "object.__class__")))
    (n_BadText_line : PySem.W.findIn K (.ref C22) "line" = some none)
    (n_BadText_word : PySem.W.findIn K (.ref C22) "word" = some none)
    (x_NoImage : K.lookup C23 = some (excClassObj nm23 q23 C23 N23 bs23 [.ref CE, .type "ValueError", .type "Exception", .type "BaseException", .type "object"] true sn23 sub23 ab23 col23 dd23 m230 m231 m232 m233 m235 "ValueError.__new__"))
    (s_NoImage : PySem.W.findIn K (.ref C23) "__setattr__" = some (some (.builtin "object.__setattr__")))
    (k_NoImage : PySem.W.keepIn K (.ref C23) = true)
    (hg_NoImage : PySem.W.findIn K (.ref C23) "__getattribute__" = some (some (.builtin "BaseException.__getattribute__")))
    (hk_NoImage : PySem.W.findIn K (.ref C23) "__getattr__" = some none)
    (ha_NoImage : PySem.W.findIn K (.ref C23) "__class__" = some (some (.builtin "object.__class__")))
    (x_Nothing : K.lookup C24 = some (excClassObj nm24 q24 C24 N24 bs24 [.ref CE, .type "ValueError", .type "Exception", .type "BaseException", .type "object"] true sn24 sub24 ab24 col24 dd24 m240 m241 m242 m243 m245 "ValueError.__new__"))
    (s_Nothing : PySem.W.findIn K (.ref C24) "__setattr__" = some (some (.builtin "object.__setattr__")))
    (k_Nothing : PySem.W.keepIn K (.ref C24) = true)
    (hg_Nothing : PySem.W.findIn K (.ref C24) "__getattribute__" = some (some (.builtin "BaseException.__getattribute__")))
    (hk_Nothing : PySem.W.findIn K (.ref C24) "__getattr__" = some none)
    (ha_Nothing : PySem.W.findIn K (.ref C24) "__class__" = some (some (.builtin "object.__class__")))
    (tB : PySem.W.specialIn K (.builtin "object.__class__") "__get__" = some (some (.builtin "getset_descriptor.__get__")))
    (tC : PySem.W.takesIn K (.builtin "object.__class__") = some true)
    (eR : PySem.W.subIn K (.ref CE) (.type "BaseException") = some true)
    (tyR : PySem.W.typeIn K (.ref CE) = some (.type "type"))
    (iR : PySem.W.isClsIn K CE = true)
    (rdR : PySem.W.readsIn K CE (.type "type") = true)
    (gaR : PySem.W.specialIn K (.ref CE) "__getattribute__" = some (some (.builtin "type.__getattribute__")))
    (vR : PySem.W.findCls K (.ref CE) (.type "type") "__init__" = some (.val (.builtin "ValueError.__init__")))
    (z_list : PySem.W.nsIn K mainGlobals "list" = some none)
    (z_int : PySem.W.nsIn K mainGlobals "int" = some none)
    (z_len : PySem.W.nsIn K mainGlobals "len" = some none)
    (z_abs : PySem.W.nsIn K mainGlobals "abs" = some none)
    (z_range : PySem.W.nsIn K mainGlobals "range" = some none)
    (z_dict : PySem.W.nsIn K mainGlobals "dict" = some none)
    (z_str : PySem.W.nsIn K mainGlobals "str" = some none)
    (z_sorted : PySem.W.nsIn K mainGlobals "sorted" = some none)
    (z_tuple : PySem.W.nsIn K mainGlobals "tuple" = some none)
    (z_isinstance : PySem.W.nsIn K mainGlobals "isinstance" = some none)
    (z_repr : PySem.W.nsIn K mainGlobals "repr" = some none)
    (z_enumerate : PySem.W.nsIn K mainGlobals "enumerate" = some none)
    (z_ValueError : PySem.W.nsIn K mainGlobals "ValueError" = some none)
    (nd : (CE :: ([C0, C1, C2, C3, C4, C5, C6, C7, C8, C9, C10, C11, C12, C13, C14, C15, C16, C17, C18, C19, C20, C21, C22, C23, C24] : List Addr)).Nodup) :
    ∃ fd sp, LawW l w K 8 mg fa h fd sp := by
  have e := hfa.symm.trans (PySem.W.mg_of X G a11)
  cases e
  have B : Blt mg := ⟨PySem.W.mg_none_of X G z_list, PySem.W.mg_none_of X G z_int, PySem.W.mg_none_of X G z_len, PySem.W.mg_none_of X G z_abs, PySem.W.mg_none_of X G z_range, PySem.W.mg_none_of X G z_dict, PySem.W.mg_none_of X G z_str, PySem.W.mg_none_of X G z_sorted, PySem.W.mg_none_of X G z_tuple⟩
  have TQ : Tq mg := ⟨B, PySem.W.mg_none_of X G z_isinstance, PySem.W.mg_none_of X G z_repr, PySem.W.mg_none_of X G z_enumerate⟩
  have TB : Tb K mg CE := ⟨PySem.W.mg_of X G aE, ⟨rdR, gaR⟩, vR⟩
  have Y0 : ClsX K CE C0 := ⟨⟨nm0, q0, N0, bs0, sn0, sub0, ab0, col0, dd0, m00, m01, m02, m03, m05, x_BadLetter⟩⟩
  have O0 : OexC K C0 := ⟨⟨nm0, q0, N0, bs0, _, sn0, sub0, ab0, col0, dd0, m00, m01, m02, m03, m05, x_BadLetter, show PySem.HandSPX.refsVE [.type "ValueError", .type "Exception", .type "BaseException", .type "object"] = true by decide +kernel⟩, s_BadLetter, Y0.ex, Y0.ty, k_BadLetter⟩
  have X0 : ExcC K C0 := ⟨hg_BadLetter, hk_BadLetter, Y0.ex, Y0.hd, ha_BadLetter, tB, tC, Y0.hm⟩
  have Y1 : ClsX K CE C1 := ⟨⟨nm1, q1, N1, bs1, sn1, sub1, ab1, col1, dd1, m10, m11, m12, m13, m15, x_BadWord⟩⟩
  have O1 : OexC K C1 := ⟨⟨nm1, q1, N1, bs1, _, sn1, sub1, ab1, col1, dd1, m10, m11, m12, m13, m15, x_BadWord, show PySem.HandSPX.refsVE [.type "ValueError", .type "Exception", .type "BaseException", .type "object"] = true by decide +kernel⟩, s_BadWord, Y1.ex, Y1.ty, k_BadWord⟩
  have X1 : ExcC K C1 := ⟨hg_BadWord, hk_BadWord, Y1.ex, Y1.hd, ha_BadWord, tB, tC, Y1.hm⟩
  have Y2 : ClsX K CE C2 := ⟨⟨nm2, q2, N2, bs2, sn2, sub2, ab2, col2, dd2, m20, m21, m22, m23, m25, x_BadNumber⟩⟩
  have O2 : OexC K C2 := ⟨⟨nm2, q2, N2, bs2, _, sn2, sub2, ab2, col2, dd2, m20, m21, m22, m23, m25, x_BadNumber, show PySem.HandSPX.refsVE [.type "ValueError", .type "Exception", .type "BaseException", .type "object"] = true by decide +kernel⟩, s_BadNumber, Y2.ex, Y2.ty, k_BadNumber⟩
  have X2 : ExcC K C2 := ⟨hg_BadNumber, hk_BadNumber, Y2.ex, Y2.hd, ha_BadNumber, tB, tC, Y2.hm⟩
  have Y3 : ClsX K CE C3 := ⟨⟨nm3, q3, N3, bs3, sn3, sub3, ab3, col3, dd3, m30, m31, m32, m33, m35, x_BadCode⟩⟩
  have O3 : OexC K C3 := ⟨⟨nm3, q3, N3, bs3, _, sn3, sub3, ab3, col3, dd3, m30, m31, m32, m33, m35, x_BadCode, show PySem.HandSPX.refsVE [.type "ValueError", .type "Exception", .type "BaseException", .type "object"] = true by decide +kernel⟩, s_BadCode, Y3.ex, Y3.ty, k_BadCode⟩
  have X3 : ExcC K C3 := ⟨hg_BadCode, hk_BadCode, Y3.ex, Y3.hd, ha_BadCode, tB, tC, Y3.hm⟩
  have Y4 : ClsX K CE C4 := ⟨⟨nm4, q4, N4, bs4, sn4, sub4, ab4, col4, dd4, m40, m41, m42, m43, m45, x_BadName⟩⟩
  have O4 : OexC K C4 := ⟨⟨nm4, q4, N4, bs4, _, sn4, sub4, ab4, col4, dd4, m40, m41, m42, m43, m45, x_BadName, show PySem.HandSPX.refsVE [.type "ValueError", .type "Exception", .type "BaseException", .type "object"] = true by decide +kernel⟩, s_BadName, Y4.ex, Y4.ty, k_BadName⟩
  have X4 : ExcC K C4 := ⟨hg_BadName, hk_BadName, Y4.ex, Y4.hd, ha_BadName, tB, tC, Y4.hm⟩
  have Y5 : ClsX K CE C5 := ⟨⟨nm5, q5, N5, bs5, sn5, sub5, ab5, col5, dd5, m50, m51, m52, m53, m55, x_BadImage⟩⟩
  have O5 : OexC K C5 := ⟨⟨nm5, q5, N5, bs5, _, sn5, sub5, ab5, col5, dd5, m50, m51, m52, m53, m55, x_BadImage, show PySem.HandSPX.refsVE [.type "ValueError", .type "Exception", .type "BaseException", .type "object"] = true by decide +kernel⟩, s_BadImage, Y5.ex, Y5.ty, k_BadImage⟩
  have X5 : ExcC K C5 := ⟨hg_BadImage, hk_BadImage, Y5.ex, Y5.hd, ha_BadImage, tB, tC, Y5.hm⟩
  have Y6 : ClsX K CE C6 := ⟨⟨nm6, q6, N6, bs6, sn6, sub6, ab6, col6, dd6, m60, m61, m62, m63, m65, x_NoSign⟩⟩
  have O6 : OexC K C6 := ⟨⟨nm6, q6, N6, bs6, _, sn6, sub6, ab6, col6, dd6, m60, m61, m62, m63, m65, x_NoSign, show PySem.HandSPX.refsVE [.type "ValueError", .type "Exception", .type "BaseException", .type "object"] = true by decide +kernel⟩, s_NoSign, Y6.ex, Y6.ty, k_NoSign⟩
  have X6 : ExcC K C6 := ⟨hg_NoSign, hk_NoSign, Y6.ex, Y6.hd, ha_NoSign, tB, tC, Y6.hm⟩
  have Y7 : ClsX K CE C7 := ⟨⟨nm7, q7, N7, bs7, sn7, sub7, ab7, col7, dd7, m70, m71, m72, m73, m75, x_Unlike⟩⟩
  have O7 : OexC K C7 := ⟨⟨nm7, q7, N7, bs7, _, sn7, sub7, ab7, col7, dd7, m70, m71, m72, m73, m75, x_Unlike, show PySem.HandSPX.refsVE [.type "ValueError", .type "Exception", .type "BaseException", .type "object"] = true by decide +kernel⟩, s_Unlike, Y7.ex, Y7.ty, k_Unlike⟩
  have X7 : ExcC K C7 := ⟨hg_Unlike, hk_Unlike, Y7.ex, Y7.hd, ha_Unlike, tB, tC, Y7.hm⟩
  have Y8 : ClsX K CE C8 := ⟨⟨nm8, q8, N8, bs8, sn8, sub8, ab8, col8, dd8, m80, m81, m82, m83, m85, x_BadTable⟩⟩
  have O8 : OexC K C8 := ⟨⟨nm8, q8, N8, bs8, _, sn8, sub8, ab8, col8, dd8, m80, m81, m82, m83, m85, x_BadTable, show PySem.HandSPX.refsVE [.type "ValueError", .type "Exception", .type "BaseException", .type "object"] = true by decide +kernel⟩, s_BadTable, Y8.ex, Y8.ty, k_BadTable⟩
  have X8 : ExcC K C8 := ⟨hg_BadTable, hk_BadTable, Y8.ex, Y8.hd, ha_BadTable, tB, tC, Y8.hm⟩
  have Y9 : ClsX K CE C9 := ⟨⟨nm9, q9, N9, bs9, sn9, sub9, ab9, col9, dd9, m90, m91, m92, m93, m95, x_BadRight⟩⟩
  have O9 : OexC K C9 := ⟨⟨nm9, q9, N9, bs9, _, sn9, sub9, ab9, col9, dd9, m90, m91, m92, m93, m95, x_BadRight, show PySem.HandSPX.refsVE [.type "ValueError", .type "Exception", .type "BaseException", .type "object"] = true by decide +kernel⟩, s_BadRight, Y9.ex, Y9.ty, k_BadRight⟩
  have X9 : ExcC K C9 := ⟨hg_BadRight, hk_BadRight, Y9.ex, Y9.hd, ha_BadRight, tB, tC, Y9.hm⟩
  have Y10 : ClsX K CE C10 := ⟨⟨nm10, q10, N10, bs10, sn10, sub10, ab10, col10, dd10, m100, m101, m102, m103, m105, x_Unread⟩⟩
  have O10 : OexC K C10 := ⟨⟨nm10, q10, N10, bs10, _, sn10, sub10, ab10, col10, dd10, m100, m101, m102, m103, m105, x_Unread, show PySem.HandSPX.refsVE [.type "ValueError", .type "Exception", .type "BaseException", .type "object"] = true by decide +kernel⟩, s_Unread, Y10.ex, Y10.ty, k_Unread⟩
  have X10 : ExcC K C10 := ⟨hg_Unread, hk_Unread, Y10.ex, Y10.hd, ha_Unread, tB, tC, Y10.hm⟩
  have Y11 : ClsX K CE C11 := ⟨⟨nm11, q11, N11, bs11, sn11, sub11, ab11, col11, dd11, m110, m111, m112, m113, m115, x_Barred⟩⟩
  have O11 : OexC K C11 := ⟨⟨nm11, q11, N11, bs11, _, sn11, sub11, ab11, col11, dd11, m110, m111, m112, m113, m115, x_Barred, show PySem.HandSPX.refsVE [.type "ValueError", .type "Exception", .type "BaseException", .type "object"] = true by decide +kernel⟩, s_Barred, Y11.ex, Y11.ty, k_Barred⟩
  have X11 : ExcC K C11 := ⟨hg_Barred, hk_Barred, Y11.ex, Y11.hd, ha_Barred, tB, tC, Y11.hm⟩
  have Y12 : ClsX K CE C12 := ⟨⟨nm12, q12, N12, bs12, sn12, sub12, ab12, col12, dd12, m120, m121, m122, m123, m125, x_BadList⟩⟩
  have O12 : OexC K C12 := ⟨⟨nm12, q12, N12, bs12, _, sn12, sub12, ab12, col12, dd12, m120, m121, m122, m123, m125, x_BadList, show PySem.HandSPX.refsVE [.type "ValueError", .type "Exception", .type "BaseException", .type "object"] = true by decide +kernel⟩, s_BadList, Y12.ex, Y12.ty, k_BadList⟩
  have X12 : ExcC K C12 := ⟨hg_BadList, hk_BadList, Y12.ex, Y12.hd, ha_BadList, tB, tC, Y12.hm⟩
  have Y13 : ClsX K CE C13 := ⟨⟨nm13, q13, N13, bs13, sn13, sub13, ab13, col13, dd13, m130, m131, m132, m133, m135, x_BadRow⟩⟩
  have O13 : OexC K C13 := ⟨⟨nm13, q13, N13, bs13, _, sn13, sub13, ab13, col13, dd13, m130, m131, m132, m133, m135, x_BadRow, show PySem.HandSPX.refsVE [.type "ValueError", .type "Exception", .type "BaseException", .type "object"] = true by decide +kernel⟩, s_BadRow, Y13.ex, Y13.ty, k_BadRow⟩
  have X13 : ExcC K C13 := ⟨hg_BadRow, hk_BadRow, Y13.ex, Y13.hd, ha_BadRow, tB, tC, Y13.hm⟩
  have Y14 : ClsX K CE C14 := ⟨⟨nm14, q14, N14, bs14, sn14, sub14, ab14, col14, dd14, m140, m141, m142, m143, m145, x_BadFixer⟩⟩
  have O14 : OexC K C14 := ⟨⟨nm14, q14, N14, bs14, _, sn14, sub14, ab14, col14, dd14, m140, m141, m142, m143, m145, x_BadFixer, show PySem.HandSPX.refsVE [.type "ValueError", .type "Exception", .type "BaseException", .type "object"] = true by decide +kernel⟩, s_BadFixer, Y14.ex, Y14.ty, k_BadFixer⟩
  have X14 : ExcC K C14 := ⟨hg_BadFixer, hk_BadFixer, Y14.ex, Y14.hd, ha_BadFixer, tB, tC, Y14.hm⟩
  have Y15 : ClsX K CE C15 := ⟨⟨nm15, q15, N15, bs15, sn15, sub15, ab15, col15, dd15, m150, m151, m152, m153, m155, x_NoOrigin⟩⟩
  have O15 : OexC K C15 := ⟨⟨nm15, q15, N15, bs15, _, sn15, sub15, ab15, col15, dd15, m150, m151, m152, m153, m155, x_NoOrigin, show PySem.HandSPX.refsVE [.type "ValueError", .type "Exception", .type "BaseException", .type "object"] = true by decide +kernel⟩, s_NoOrigin, Y15.ex, Y15.ty, k_NoOrigin⟩
  have X15 : ExcC K C15 := ⟨hg_NoOrigin, hk_NoOrigin, Y15.ex, Y15.hd, ha_NoOrigin, tB, tC, Y15.hm⟩
  have Y16 : ClsX K CE C16 := ⟨⟨nm16, q16, N16, bs16, sn16, sub16, ab16, col16, dd16, m160, m161, m162, m163, m165, x_Ring⟩⟩
  have O16 : OexC K C16 := ⟨⟨nm16, q16, N16, bs16, _, sn16, sub16, ab16, col16, dd16, m160, m161, m162, m163, m165, x_Ring, show PySem.HandSPX.refsVE [.type "ValueError", .type "Exception", .type "BaseException", .type "object"] = true by decide +kernel⟩, s_Ring, Y16.ex, Y16.ty, k_Ring⟩
  have X16 : ExcC K C16 := ⟨hg_Ring, hk_Ring, Y16.ex, Y16.hd, ha_Ring, tB, tC, Y16.hm⟩
  have Y17 : ClsX K CE C17 := ⟨⟨nm17, q17, N17, bs17, sn17, sub17, ab17, col17, dd17, m170, m171, m172, m173, m175, x_NoName⟩⟩
  have O17 : OexC K C17 := ⟨⟨nm17, q17, N17, bs17, _, sn17, sub17, ab17, col17, dd17, m170, m171, m172, m173, m175, x_NoName, show PySem.HandSPX.refsVE [.type "ValueError", .type "Exception", .type "BaseException", .type "object"] = true by decide +kernel⟩, s_NoName, Y17.ex, Y17.ty, k_NoName⟩
  have X17 : ExcC K C17 := ⟨hg_NoName, hk_NoName, Y17.ex, Y17.hd, ha_NoName, tB, tC, Y17.hm⟩
  have Y18 : ClsX K CE C18 := ⟨⟨nm18, q18, N18, bs18, sn18, sub18, ab18, col18, dd18, m180, m181, m182, m183, m185, x_BadCommand⟩⟩
  have O18 : OexC K C18 := ⟨⟨nm18, q18, N18, bs18, _, sn18, sub18, ab18, col18, dd18, m180, m181, m182, m183, m185, x_BadCommand, show PySem.HandSPX.refsVE [.type "ValueError", .type "Exception", .type "BaseException", .type "object"] = true by decide +kernel⟩, s_BadCommand, Y18.ex, Y18.ty, k_BadCommand⟩
  have X18 : ExcC K C18 := ⟨hg_BadCommand, hk_BadCommand, Y18.ex, Y18.hd, ha_BadCommand, tB, tC, Y18.hm⟩
  have Y19 : ClsX K CE C19 := ⟨⟨nm19, q19, N19, bs19, sn19, sub19, ab19, col19, dd19, m190, m191, m192, m193, m195, x_Merging⟩⟩
  have O19 : OexC K C19 := ⟨⟨nm19, q19, N19, bs19, _, sn19, sub19, ab19, col19, dd19, m190, m191, m192, m193, m195, x_Merging, show PySem.HandSPX.refsVE [.type "ValueError", .type "Exception", .type "BaseException", .type "object"] = true by decide +kernel⟩, s_Merging, Y19.ex, Y19.ty, k_Merging⟩
  have X19 : ExcC K C19 := ⟨hg_Merging, hk_Merging, Y19.ex, Y19.hd, ha_Merging, tB, tC, Y19.hm⟩
  have Y20 : ClsX K CE C20 := ⟨⟨nm20, q20, N20, bs20, sn20, sub20, ab20, col20, dd20, m200, m201, m202, m203, m205, x_Several⟩⟩
  have O20 : OexC K C20 := ⟨⟨nm20, q20, N20, bs20, _, sn20, sub20, ab20, col20, dd20, m200, m201, m202, m203, m205, x_Several, show PySem.HandSPX.refsVE [.type "ValueError", .type "Exception", .type "BaseException", .type "object"] = true by decide +kernel⟩, s_Several, Y20.ex, Y20.ty, k_Several⟩
  have X20 : ExcC K C20 := ⟨hg_Several, hk_Several, Y20.ex, Y20.hd, ha_Several, tB, tC, Y20.hm⟩
  have Y21 : ClsX K CE C21 := ⟨⟨nm21, q21, N21, bs21, sn21, sub21, ab21, col21, dd21, m210, m211, m212, m213, m215, x_TooMany⟩⟩
  have O21 : OexC K C21 := ⟨⟨nm21, q21, N21, bs21, _, sn21, sub21, ab21, col21, dd21, m210, m211, m212, m213, m215, x_TooMany, show PySem.HandSPX.refsVE [.type "ValueError", .type "Exception", .type "BaseException", .type "object"] = true by decide +kernel⟩, s_TooMany, Y21.ex, Y21.ty, k_TooMany⟩
  have X21 : ExcC K C21 := ⟨hg_TooMany, hk_TooMany, Y21.ex, Y21.hd, ha_TooMany, tB, tC, Y21.hm⟩
  have Y22 : ClsX K CE C22 := ⟨⟨nm22, q22, N22, bs22, sn22, sub22, ab22, col22, dd22, m220, m221, m222, m223, m225, x_BadText⟩⟩
  have O22 : OexC K C22 := ⟨⟨nm22, q22, N22, bs22, _, sn22, sub22, ab22, col22, dd22, m220, m221, m222, m223, m225, x_BadText, show PySem.HandSPX.refsVE [.type "ValueError", .type "Exception", .type "BaseException", .type "object"] = true by decide +kernel⟩, s_BadText, Y22.ex, Y22.ty, k_BadText⟩
  have X22 : ExcC K C22 := ⟨hg_BadText, hk_BadText, Y22.ex, Y22.hd, ha_BadText, tB, tC, Y22.hm⟩
  have Y23 : ClsX K CE C23 := ⟨⟨nm23, q23, N23, bs23, sn23, sub23, ab23, col23, dd23, m230, m231, m232, m233, m235, x_NoImage⟩⟩
  have O23 : OexC K C23 := ⟨⟨nm23, q23, N23, bs23, _, sn23, sub23, ab23, col23, dd23, m230, m231, m232, m233, m235, x_NoImage, show PySem.HandSPX.refsVE [.type "ValueError", .type "Exception", .type "BaseException", .type "object"] = true by decide +kernel⟩, s_NoImage, Y23.ex, Y23.ty, k_NoImage⟩
  have X23 : ExcC K C23 := ⟨hg_NoImage, hk_NoImage, Y23.ex, Y23.hd, ha_NoImage, tB, tC, Y23.hm⟩
  have Y24 : ClsX K CE C24 := ⟨⟨nm24, q24, N24, bs24, sn24, sub24, ab24, col24, dd24, m240, m241, m242, m243, m245, x_Nothing⟩⟩
  have O24 : OexC K C24 := ⟨⟨nm24, q24, N24, bs24, _, sn24, sub24, ab24, col24, dd24, m240, m241, m242, m243, m245, x_Nothing, show PySem.HandSPX.refsVE [.type "ValueError", .type "Exception", .type "BaseException", .type "object"] = true by decide +kernel⟩, s_Nothing, Y24.ex, Y24.ty, k_Nothing⟩
  have X24 : ExcC K C24 := ⟨hg_Nothing, hk_Nothing, Y24.ex, Y24.hd, ha_Nothing, tB, tC, Y24.hm⟩
  have YY : ∀ i, i < ([C0, C1, C2, C3, C4, C5, C6, C7, C8, C9, C10, C11, C12, C13, C14, C15, C16, C17, C18, C19, C20, C21, C22, C23, C24] : List Addr).length → ClsX K CE (CzOf [C0, C1, C2, C3, C4, C5, C6, C7, C8, C9, C10, C11, C12, C13, C14, C15, C16, C17, C18, C19, C20, C21, C22, C23, C24] i) := fun i hi => by
    match i, hi with
    | 0, _ => exact Y0
    | 1, _ => exact Y1
    | 2, _ => exact Y2
    | 3, _ => exact Y3
    | 4, _ => exact Y4
    | 5, _ => exact Y5
    | 6, _ => exact Y6
    | 7, _ => exact Y7
    | 8, _ => exact Y8
    | 9, _ => exact Y9
    | 10, _ => exact Y10
    | 11, _ => exact Y11
    | 12, _ => exact Y12
    | 13, _ => exact Y13
    | 14, _ => exact Y14
    | 15, _ => exact Y15
    | 16, _ => exact Y16
    | 17, _ => exact Y17
    | 18, _ => exact Y18
    | 19, _ => exact Y19
    | 20, _ => exact Y20
    | 21, _ => exact Y21
    | 22, _ => exact Y22
    | 23, _ => exact Y23
    | 24, _ => exact Y24
    | k + 25, z => exact absurd (show k + 25 < 25 from z) (by omega)
  have TK : Tk K mg (CzOf [C0, C1, C2, C3, C4, C5, C6, C7, C8, C9, C10, C11, C12, C13, C14, C15, C16, C17, C18, C19, C20, C21, C22, C23, C24]) CE := ⟨TQ, ⟨_, PySem.W.mg_of X G a_BadLetter, rfl⟩, ⟨_, PySem.W.mg_of X G a_BadWord, rfl⟩, ⟨_, PySem.W.mg_of X G a_BadNumber, rfl⟩, ⟨_, PySem.W.mg_of X G a_BadCode, rfl⟩, ⟨_, PySem.W.mg_of X G a_BadName, rfl⟩, ⟨_, PySem.W.mg_of X G a_BadImage, rfl⟩, ⟨_, PySem.W.mg_of X G a_NoSign, rfl⟩, ⟨_, PySem.W.mg_of X G a_Unlike, rfl⟩, ⟨_, PySem.W.mg_of X G a_BadTable, rfl⟩, ⟨_, PySem.W.mg_of X G a_BadRight, rfl⟩, ⟨_, PySem.W.mg_of X G a_Unread, rfl⟩, ⟨_, PySem.W.mg_of X G a_Barred, rfl⟩, ⟨_, PySem.W.mg_of X G a_BadList, rfl⟩, ⟨_, PySem.W.mg_of X G a_BadRow, rfl⟩, ⟨_, PySem.W.mg_of X G a_BadFixer, rfl⟩, ⟨_, PySem.W.mg_of X G a_NoOrigin, rfl⟩, ⟨_, PySem.W.mg_of X G a_Ring, rfl⟩, ⟨_, PySem.W.mg_of X G a_NoName, rfl⟩, ⟨_, PySem.W.mg_of X G a_BadCommand, rfl⟩, ⟨_, PySem.W.mg_of X G a_Merging, rfl⟩, ⟨_, PySem.W.mg_of X G a_Several, rfl⟩, ⟨_, PySem.W.mg_of X G a_TooMany, rfl⟩, ⟨_, PySem.W.mg_of X G a_BadText, rfl⟩, ⟨_, PySem.W.mg_of X G a_NoImage, rfl⟩, ⟨_, PySem.W.mg_of X G a_Nothing, rfl⟩, ⟨_, PySem.W.mg_of X G aE, rfl⟩, PySem.W.mg_none_of X G z_ValueError, fun i j hi hj => kit_all nd YY i j hi hj, fun i hi => kE_of (YY i hi) (ne_all nd i hi) iR tyR, fun i hi => (YY i hi).kV,
    (fun i hi => by
      match i, hi with
      | 0, _ => exact n_BadLetter_value
      | 1, _ => exact n_BadWord_value
      | 2, _ => exact n_BadNumber_value
      | 3, _ => exact n_BadCode_value
      | 4, _ => exact n_BadName_value
      | 5, _ => exact n_BadImage_letter
      | 6, _ => exact n_NoSign_letter
      | 7, _ => exact n_Unlike_letter
      | 8, _ => exact n_BadTable_part
      | 9, _ => exact n_BadRight_part
      | 10, _ => exact n_Unread_at
      | 11, _ => exact n_Barred_at
      | 12, _ => exact n_BadList_at
      | 13, _ => exact n_BadRow_at
      | 14, _ => exact n_BadFixer_at
      | 15, _ => exact n_NoOrigin_text
      | 16, _ => exact n_Ring_text
      | 17, _ => exact n_NoName_name
      | 18, _ => exact n_BadCommand_word
      | k + 19, z => exact absurd z (by omega)),
    (fun i hi => by
      match i, hi with
      | 0, _ => exact n_Merging_one
      | 1, _ => exact n_Several_one
      | 2, _ => exact n_TooMany_what
      | 3, _ => exact n_BadText_line
      | k + 4, z => exact absurd z (by omega)),
    (fun i hi => by
      match i, hi with
      | 0, _ => exact n_Merging_other
      | 1, _ => exact n_Several_other
      | 2, _ => exact n_TooMany_most
      | 3, _ => exact n_BadText_word
      | k + 4, z => exact absurd z (by omega))⟩
  have XE : ∀ i, i < 25 → PySem.W.exmOne K (.ref (CzOf [C0, C1, C2, C3, C4, C5, C6, C7, C8, C9, C10, C11, C12, C13, C14, C15, C16, C17, C18, C19, C20, C21, C22, C23, C24] i)) (.ref CE) = some true := fun i hi => exm_of eR iR tyR (YY i hi).sE
  have F0 := fun_mk (st := s_copied) l0 c0 k0
  have b0 := F0.binds (ps := ["value"]) fun _ _ _ _ _ _ us hl => match us, hl with | [_], _ => rfl
  have F1 := fun_mk (st := s_pen) l1 c1 k1
  have b1 := F1.binds (ps := ["_law_script"]) fun _ _ _ _ _ _ us hl => match us, hl with | [_], _ => rfl
  have F2 := fun_mk (st := s_draw) l2 c2 k2
  have b2 := F2.binds (ps := ["_law_pen_here", "_law_many"]) fun _ _ _ _ _ _ us hl => match us, hl with | [_, _], _ => rfl
  have F3 := fun_mk (st := s_pick) l3 c3 k3
  have b3 := F3.binds (ps := ["_law_pen_here", "_law_some"]) fun _ _ _ _ _ _ us hl => match us, hl with | [_, _], _ => rfl
  have F4 := fun_mk (st := s__law_thing) l4 c4 k4
  have b4 := F4.binds (ps := ["_law_pen_here"]) fun _ _ _ _ _ _ us hl => match us, hl with | [_], _ => rfl
  have F5 := fun_mk (st := s__law_singles) l5 c5 k5
  have b5 := F5.binds (ps := ["_law_thing_here", "_law_is_named"]) fun _ _ _ _ _ _ us hl => match us, hl with | [_, _], _ => rfl
  have F6 := fun_mk (st := s__law_doubles) l6 c6 k6
  have b6 := F6.binds (ps := ["_law_thing_here", "_law_more", "_law_is_named"]) fun _ _ _ _ _ _ us hl => match us, hl with | [_, _, _], _ => rfl
  have F7 := fun_mk (st := s__law_single_fields) l7 c7 k7
  have b7 := F7.binds (ps := ["_law_some"]) fun _ _ _ _ _ _ us hl => match us, hl with | [_], _ => rfl
  have F8 := fun_mk (st := s__law_double_fields) l8 c8 k8
  have b8 := F8.binds (ps := ["_law_some"]) fun _ _ _ _ _ _ us hl => match us, hl with | [_], _ => rfl
  have F9 := fun_mk (st := s__law_kinds) l9 c9 k9
  have b9 := F9.binds (ps := ["_law_error"]) fun _ _ _ _ _ _ us hl => match us, hl with | [_], _ => rfl
  have F10 := fun_mk (st := s__law_caught) l10 c10 k10
  have b10 := F10.binds (ps := ["_law_way"]) fun _ _ _ _ _ _ us hl => match us, hl with | [_], _ => rfl
  have F11 := fun_mk (st := s_law) l11 c11 k11
  have F12 := fun_mk (st := s_BadLetter_init) l12 c12 k12
  have b12 := F12.binds (ps := ["self", "value"]) fun _ _ _ _ _ _ us hl => match us, hl with | [_, _], _ => rfl
  have kb0 : KBn K (PySem.W.fnOf "__init__" "BadLetter.__init__" (defArgs s_BadLetter_init) (defBody s_BadLetter_init) (defScope s_BadLetter_init) .none kV12 dc12 pm12 an12 cd12 ct12) ["self", "value"] 1 ["value"] (fun us ws => us ++ ws) (fun vs zs => vs ++ zs) := ⟨fun s us ws _ h0 h2 => match us, ws, h0, h2 with
    | [_], [_], _, _ => .of_eq rfl, fun r1 r2 => r1.append r2⟩
  have F13 := fun_mk (st := s_BadWord_init) l13 c13 k13
  have b13 := F13.binds (ps := ["self", "value"]) fun _ _ _ _ _ _ us hl => match us, hl with | [_, _], _ => rfl
  have kb1 : KBn K (PySem.W.fnOf "__init__" "BadWord.__init__" (defArgs s_BadWord_init) (defBody s_BadWord_init) (defScope s_BadWord_init) .none kV13 dc13 pm13 an13 cd13 ct13) ["self", "value"] 1 ["value"] (fun us ws => us ++ ws) (fun vs zs => vs ++ zs) := ⟨fun s us ws _ h0 h2 => match us, ws, h0, h2 with
    | [_], [_], _, _ => .of_eq rfl, fun r1 r2 => r1.append r2⟩
  have F14 := fun_mk (st := s_BadNumber_init) l14 c14 k14
  have b14 := F14.binds (ps := ["self", "value"]) fun _ _ _ _ _ _ us hl => match us, hl with | [_, _], _ => rfl
  have kb2 : KBn K (PySem.W.fnOf "__init__" "BadNumber.__init__" (defArgs s_BadNumber_init) (defBody s_BadNumber_init) (defScope s_BadNumber_init) .none kV14 dc14 pm14 an14 cd14 ct14) ["self", "value"] 1 ["value"] (fun us ws => us ++ ws) (fun vs zs => vs ++ zs) := ⟨fun s us ws _ h0 h2 => match us, ws, h0, h2 with
    | [_], [_], _, _ => .of_eq rfl, fun r1 r2 => r1.append r2⟩
  have F15 := fun_mk (st := s_BadCode_init) l15 c15 k15
  have b15 := F15.binds (ps := ["self", "value"]) fun _ _ _ _ _ _ us hl => match us, hl with | [_, _], _ => rfl
  have kb3 : KBn K (PySem.W.fnOf "__init__" "BadCode.__init__" (defArgs s_BadCode_init) (defBody s_BadCode_init) (defScope s_BadCode_init) .none kV15 dc15 pm15 an15 cd15 ct15) ["self", "value"] 1 ["value"] (fun us ws => us ++ ws) (fun vs zs => vs ++ zs) := ⟨fun s us ws _ h0 h2 => match us, ws, h0, h2 with
    | [_], [_], _, _ => .of_eq rfl, fun r1 r2 => r1.append r2⟩
  have F16 := fun_mk (st := s_BadName_init) l16 c16 k16
  have b16 := F16.binds (ps := ["self", "value"]) fun _ _ _ _ _ _ us hl => match us, hl with | [_, _], _ => rfl
  have kb4 : KBn K (PySem.W.fnOf "__init__" "BadName.__init__" (defArgs s_BadName_init) (defBody s_BadName_init) (defScope s_BadName_init) .none kV16 dc16 pm16 an16 cd16 ct16) ["self", "value"] 1 ["value"] (fun us ws => us ++ ws) (fun vs zs => vs ++ zs) := ⟨fun s us ws _ h0 h2 => match us, ws, h0, h2 with
    | [_], [_], _, _ => .of_eq rfl, fun r1 r2 => r1.append r2⟩
  have F17 := fun_mk (st := s_BadImage_init) l17 c17 k17
  have b17 := F17.binds (ps := ["self", "letter"]) fun _ _ _ _ _ _ us hl => match us, hl with | [_, _], _ => rfl
  have kb5 : KBn K (PySem.W.fnOf "__init__" "BadImage.__init__" (defArgs s_BadImage_init) (defBody s_BadImage_init) (defScope s_BadImage_init) .none kV17 dc17 pm17 an17 cd17 ct17) ["self", "letter"] 1 ["letter"] (fun us ws => us ++ ws) (fun vs zs => vs ++ zs) := ⟨fun s us ws _ h0 h2 => match us, ws, h0, h2 with
    | [_], [_], _, _ => .of_eq rfl, fun r1 r2 => r1.append r2⟩
  have F18 := fun_mk (st := s_NoSign_init) l18 c18 k18
  have b18 := F18.binds (ps := ["self", "letter"]) fun _ _ _ _ _ _ us hl => match us, hl with | [_, _], _ => rfl
  have kb6 : KBn K (PySem.W.fnOf "__init__" "NoSign.__init__" (defArgs s_NoSign_init) (defBody s_NoSign_init) (defScope s_NoSign_init) .none kV18 dc18 pm18 an18 cd18 ct18) ["self", "letter"] 1 ["letter"] (fun us ws => us ++ ws) (fun vs zs => vs ++ zs) := ⟨fun s us ws _ h0 h2 => match us, ws, h0, h2 with
    | [_], [_], _, _ => .of_eq rfl, fun r1 r2 => r1.append r2⟩
  have F19 := fun_mk (st := s_Unlike_init) l19 c19 k19
  have b19 := F19.binds (ps := ["self", "letter"]) fun _ _ _ _ _ _ us hl => match us, hl with | [_, _], _ => rfl
  have kb7 : KBn K (PySem.W.fnOf "__init__" "Unlike.__init__" (defArgs s_Unlike_init) (defBody s_Unlike_init) (defScope s_Unlike_init) .none kV19 dc19 pm19 an19 cd19 ct19) ["self", "letter"] 1 ["letter"] (fun us ws => us ++ ws) (fun vs zs => vs ++ zs) := ⟨fun s us ws _ h0 h2 => match us, ws, h0, h2 with
    | [_], [_], _, _ => .of_eq rfl, fun r1 r2 => r1.append r2⟩
  have F20 := fun_mk (st := s_BadTable_init) l20 c20 k20
  have b20 := F20.binds (ps := ["self", "part"]) fun _ _ _ _ _ _ us hl => match us, hl with | [_, _], _ => rfl
  have kb8 : KBn K (PySem.W.fnOf "__init__" "BadTable.__init__" (defArgs s_BadTable_init) (defBody s_BadTable_init) (defScope s_BadTable_init) .none kV20 dc20 pm20 an20 cd20 ct20) ["self", "part"] 1 ["part"] (fun us ws => us ++ ws) (fun vs zs => vs ++ zs) := ⟨fun s us ws _ h0 h2 => match us, ws, h0, h2 with
    | [_], [_], _, _ => .of_eq rfl, fun r1 r2 => r1.append r2⟩
  have F21 := fun_mk (st := s_BadRight_init) l21 c21 k21
  have b21 := F21.binds (ps := ["self", "part"]) fun _ _ _ _ _ _ us hl => match us, hl with | [_, _], _ => rfl
  have kb9 : KBn K (PySem.W.fnOf "__init__" "BadRight.__init__" (defArgs s_BadRight_init) (defBody s_BadRight_init) (defScope s_BadRight_init) .none kV21 dc21 pm21 an21 cd21 ct21) ["self", "part"] 1 ["part"] (fun us ws => us ++ ws) (fun vs zs => vs ++ zs) := ⟨fun s us ws _ h0 h2 => match us, ws, h0, h2 with
    | [_], [_], _, _ => .of_eq rfl, fun r1 r2 => r1.append r2⟩
  have F22 := fun_mk (st := s_Unread_init) l22 c22 k22
  have b22 := F22.binds (ps := ["self", "at"]) fun _ _ _ _ _ _ us hl => match us, hl with | [_, _], _ => rfl
  have kb10 : KBn K (PySem.W.fnOf "__init__" "Unread.__init__" (defArgs s_Unread_init) (defBody s_Unread_init) (defScope s_Unread_init) .none kV22 dc22 pm22 an22 cd22 ct22) ["self", "at"] 1 ["at"] (fun us ws => us ++ ws) (fun vs zs => vs ++ zs) := ⟨fun s us ws _ h0 h2 => match us, ws, h0, h2 with
    | [_], [_], _, _ => .of_eq rfl, fun r1 r2 => r1.append r2⟩
  have F23 := fun_mk (st := s_Barred_init) l23 c23 k23
  have b23 := F23.binds (ps := ["self", "at"]) fun _ _ _ _ _ _ us hl => match us, hl with | [_, _], _ => rfl
  have kb11 : KBn K (PySem.W.fnOf "__init__" "Barred.__init__" (defArgs s_Barred_init) (defBody s_Barred_init) (defScope s_Barred_init) .none kV23 dc23 pm23 an23 cd23 ct23) ["self", "at"] 1 ["at"] (fun us ws => us ++ ws) (fun vs zs => vs ++ zs) := ⟨fun s us ws _ h0 h2 => match us, ws, h0, h2 with
    | [_], [_], _, _ => .of_eq rfl, fun r1 r2 => r1.append r2⟩
  have F24 := fun_mk (st := s_BadList_init) l24 c24 k24
  have b24 := F24.binds (ps := ["self", "at"]) fun _ _ _ _ _ _ us hl => match us, hl with | [_, _], _ => rfl
  have kb12 : KBn K (PySem.W.fnOf "__init__" "BadList.__init__" (defArgs s_BadList_init) (defBody s_BadList_init) (defScope s_BadList_init) .none kV24 dc24 pm24 an24 cd24 ct24) ["self", "at"] 1 ["at"] (fun us ws => us ++ ws) (fun vs zs => vs ++ zs) := ⟨fun s us ws _ h0 h2 => match us, ws, h0, h2 with
    | [_], [_], _, _ => .of_eq rfl, fun r1 r2 => r1.append r2⟩
  have F25 := fun_mk (st := s_BadRow_init) l25 c25 k25
  have b25 := F25.binds (ps := ["self", "at"]) fun _ _ _ _ _ _ us hl => match us, hl with | [_, _], _ => rfl
  have kb13 : KBn K (PySem.W.fnOf "__init__" "BadRow.__init__" (defArgs s_BadRow_init) (defBody s_BadRow_init) (defScope s_BadRow_init) .none kV25 dc25 pm25 an25 cd25 ct25) ["self", "at"] 1 ["at"] (fun us ws => us ++ ws) (fun vs zs => vs ++ zs) := ⟨fun s us ws _ h0 h2 => match us, ws, h0, h2 with
    | [_], [_], _, _ => .of_eq rfl, fun r1 r2 => r1.append r2⟩
  have F26 := fun_mk (st := s_BadFixer_init) l26 c26 k26
  have b26 := F26.binds (ps := ["self", "at"]) fun _ _ _ _ _ _ us hl => match us, hl with | [_, _], _ => rfl
  have kb14 : KBn K (PySem.W.fnOf "__init__" "BadFixer.__init__" (defArgs s_BadFixer_init) (defBody s_BadFixer_init) (defScope s_BadFixer_init) .none kV26 dc26 pm26 an26 cd26 ct26) ["self", "at"] 1 ["at"] (fun us ws => us ++ ws) (fun vs zs => vs ++ zs) := ⟨fun s us ws _ h0 h2 => match us, ws, h0, h2 with
    | [_], [_], _, _ => .of_eq rfl, fun r1 r2 => r1.append r2⟩
  have F27 := fun_mk (st := s_NoOrigin_init) l27 c27 k27
  have b27 := F27.binds (ps := ["self", "text"]) fun _ _ _ _ _ _ us hl => match us, hl with | [_, _], _ => rfl
  have kb15 : KBn K (PySem.W.fnOf "__init__" "NoOrigin.__init__" (defArgs s_NoOrigin_init) (defBody s_NoOrigin_init) (defScope s_NoOrigin_init) .none kV27 dc27 pm27 an27 cd27 ct27) ["self", "text"] 1 ["text"] (fun us ws => us ++ ws) (fun vs zs => vs ++ zs) := ⟨fun s us ws _ h0 h2 => match us, ws, h0, h2 with
    | [_], [_], _, _ => .of_eq rfl, fun r1 r2 => r1.append r2⟩
  have F28 := fun_mk (st := s_Ring_init) l28 c28 k28
  have b28 := F28.binds (ps := ["self", "text"]) fun _ _ _ _ _ _ us hl => match us, hl with | [_, _], _ => rfl
  have kb16 : KBn K (PySem.W.fnOf "__init__" "Ring.__init__" (defArgs s_Ring_init) (defBody s_Ring_init) (defScope s_Ring_init) .none kV28 dc28 pm28 an28 cd28 ct28) ["self", "text"] 1 ["text"] (fun us ws => us ++ ws) (fun vs zs => vs ++ zs) := ⟨fun s us ws _ h0 h2 => match us, ws, h0, h2 with
    | [_], [_], _, _ => .of_eq rfl, fun r1 r2 => r1.append r2⟩
  have F29 := fun_mk (st := s_NoName_init) l29 c29 k29
  have b29 := F29.binds (ps := ["self", "name"]) fun _ _ _ _ _ _ us hl => match us, hl with | [_, _], _ => rfl
  have kb17 : KBn K (PySem.W.fnOf "__init__" "NoName.__init__" (defArgs s_NoName_init) (defBody s_NoName_init) (defScope s_NoName_init) .none kV29 dc29 pm29 an29 cd29 ct29) ["self", "name"] 1 ["name"] (fun us ws => us ++ ws) (fun vs zs => vs ++ zs) := ⟨fun s us ws _ h0 h2 => match us, ws, h0, h2 with
    | [_], [_], _, _ => .of_eq rfl, fun r1 r2 => r1.append r2⟩
  have F30 := fun_mk (st := s_BadCommand_init) l30 c30 k30
  have b30 := F30.binds (ps := ["self", "word"]) fun _ _ _ _ _ _ us hl => match us, hl with | [_, _], _ => rfl
  have kb18 : KBn K (PySem.W.fnOf "__init__" "BadCommand.__init__" (defArgs s_BadCommand_init) (defBody s_BadCommand_init) (defScope s_BadCommand_init) .none kV30 dc30 pm30 an30 cd30 ct30) ["self", "word"] 1 ["word"] (fun us ws => us ++ ws) (fun vs zs => vs ++ zs) := ⟨fun s us ws _ h0 h2 => match us, ws, h0, h2 with
    | [_], [_], _, _ => .of_eq rfl, fun r1 r2 => r1.append r2⟩
  have F31 := fun_mk (st := s_Merging_init) l31 c31 k31
  have b31 := F31.binds (ps := ["self", "one", "other"]) fun _ _ _ _ _ _ us hl => match us, hl with | [_, _, _], _ => rfl
  have kb19 : KBn K (PySem.W.fnOf "__init__" "Merging.__init__" (defArgs s_Merging_init) (defBody s_Merging_init) (defScope s_Merging_init) .none kV31 dc31 pm31 an31 cd31 ct31) ["self", "one", "other"] 1 ["other", "one"] (fun us ws => us ++ ws.reverse) (fun vs zs => vs ++ zs.reverse) := ⟨fun s us ws _ h0 h2 => match us, ws, h0, h2 with
    | [_], [_, _], _, _ => .of_eq rfl, fun r1 r2 => r1.append (vals_revW r2)⟩
  have F32 := fun_mk (st := s_Several_init) l32 c32 k32
  have b32 := F32.binds (ps := ["self", "one", "other"]) fun _ _ _ _ _ _ us hl => match us, hl with | [_, _, _], _ => rfl
  have kb20 : KBn K (PySem.W.fnOf "__init__" "Several.__init__" (defArgs s_Several_init) (defBody s_Several_init) (defScope s_Several_init) .none kV32 dc32 pm32 an32 cd32 ct32) ["self", "one", "other"] 1 ["other", "one"] (fun us ws => us ++ ws.reverse) (fun vs zs => vs ++ zs.reverse) := ⟨fun s us ws _ h0 h2 => match us, ws, h0, h2 with
    | [_], [_, _], _, _ => .of_eq rfl, fun r1 r2 => r1.append (vals_revW r2)⟩
  have F33 := fun_mk (st := s_TooMany_init) l33 c33 k33
  have b33 := F33.binds (ps := ["self", "what", "most"]) fun _ _ _ _ _ _ us hl => match us, hl with | [_, _, _], _ => rfl
  have kb21 : KBn K (PySem.W.fnOf "__init__" "TooMany.__init__" (defArgs s_TooMany_init) (defBody s_TooMany_init) (defScope s_TooMany_init) .none kV33 dc33 pm33 an33 cd33 ct33) ["self", "what", "most"] 1 ["most", "what"] (fun us ws => us ++ ws.reverse) (fun vs zs => vs ++ zs.reverse) := ⟨fun s us ws _ h0 h2 => match us, ws, h0, h2 with
    | [_], [_, _], _, _ => .of_eq rfl, fun r1 r2 => r1.append (vals_revW r2)⟩
  have F34 := fun_mk (st := s_BadText_init) l34 c34 k34
  have b34 := F34.binds (ps := ["self", "line", "word"]) fun _ _ _ _ _ _ us hl => match us, hl with | [_, _, _], _ => rfl
  have kb22 : KBn K (PySem.W.fnOf "__init__" "BadText.__init__" (defArgs s_BadText_init) (defBody s_BadText_init) (defScope s_BadText_init) .none kV34 dc34 pm34 an34 cd34 ct34) ["self", "line", "word"] 1 ["word", "line"] (fun us ws => us ++ ws.reverse) (fun vs zs => vs ++ zs.reverse) := ⟨fun s us ws _ h0 h2 => match us, ws, h0, h2 with
    | [_], [_, _], _, _ => .of_eq rfl, fun r1 r2 => r1.append (vals_revW r2)⟩
  have F35 := fun_mk (st := s_NoImage_init) l35 c35 k35
  have b35 := F35.binds (ps := ["self"]) fun _ _ _ _ _ _ us hl => match us, hl with | [_], _ => rfl
  have F36 := fun_mk (st := s_Nothing_init) l36 c36 k36
  have b36 := F36.binds (ps := ["self"]) fun _ _ _ _ _ _ us hl => match us, hl with | [_], _ => rfl
  refine ⟨PySem.W.fnOf "law" "law" (defArgs s_law) (defBody s_law) (defScope s_law) .none kV11 dc11 pm11 an11 cd11 ct11, spLaw K, fun s v => .of_eq rfl, fun Hh a ns hl _ hS => ⟨a, ns, rfl, hS, hl, fun _ => rfl⟩, fun base sys _ _ => ?_⟩
  have D_pen : Df l.prog w K mg base 1 "_law_pen" (spPen K) := ⟨⟨f1, _, _, ok_pen F1 B, PySem.W.mg_of X G a1, k1, b1⟩⟩
  have D_draw : Df l.prog w K mg base 1 "_law_draw" spDraw := ⟨⟨f2, _, _, ok_draw (k := 0) F2 B, PySem.W.mg_of X G a2, k2, b2⟩⟩
  have D_pick : Df l.prog w K mg base 2 "_law_pick" (spPick K) := ⟨⟨f3, _, _, ok_pick F3 B D_draw, PySem.W.mg_of X G a3, k3, b3⟩⟩
  have D_thing : Df l.prog w K mg base 3 "_law_thing" spThing := ⟨⟨f4, _, _, ok_thing F4 TQ D_pick, PySem.W.mg_of X G a4, k4, b4⟩⟩
  have D_cop0 : Df l.prog w K mg base 0 "copied" (fun _ _ _ _ => False) := ⟨⟨f0, _, _, ⟨fun _ _ _ _ z => z.elim, fun _ _ _ _ _ _ _ _ _ _ _ _ _ z => z.elim⟩, PySem.W.mg_of X G a0, k0, b0⟩⟩
  have D_cop1 : Df l.prog w K mg base 1 "copied" (spCopied K) := ⟨⟨f0, _, _, ok_copied F0 TQ D_cop0, PySem.W.mg_of X G a0, k0, b0⟩⟩
  have D_copied : Df l.prog w K mg base 2 "copied" spCopyW := ⟨⟨f0, _, _, ok_copyW F0 TQ D_cop1, PySem.W.mg_of X G a0, k0, b0⟩⟩
  have D_kinds : Df l.prog w K mg base 1 "_law_kinds" (spKinds K (CzOf [C0, C1, C2, C3, C4, C5, C6, C7, C8, C9, C10, C11, C12, C13, C14, C15, C16, C17, C18, C19, C20, C21, C22, C23, C24])) := ⟨⟨f9, _, _, ok_kinds F9 TK, PySem.W.mg_of X G a9, k9, b9⟩⟩
  have D_kindsC : DfC l.prog w K mg base 1 "_law_kinds" (spKinds K (CzOf [C0, C1, C2, C3, C4, C5, C6, C7, C8, C9, C10, C11, C12, C13, C14, C15, C16, C17, C18, C19, C20, C21, C22, C23, C24])) := ⟨⟨f9, _, _, ok_kindsC F9 TK, PySem.W.mg_of X G a9, k9, b9⟩⟩
  have D_single_fields : Df l.prog w K mg base 1 "_law_single_fields" (spSF K (CzOf [C0, C1, C2, C3, C4, C5, C6, C7, C8, C9, C10, C11, C12, C13, C14, C15, C16, C17, C18, C19, C20, C21, C22, C23, C24])) := ⟨⟨f7, _, _, ok_single_fields F7 TK, PySem.W.mg_of X G a7, k7, b7⟩⟩
  have D_double_fields : Df l.prog w K mg base 1 "_law_double_fields" (spDF K (CzOf [C0, C1, C2, C3, C4, C5, C6, C7, C8, C9, C10, C11, C12, C13, C14, C15, C16, C17, C18, C19, C20, C21, C22, C23, C24])) := ⟨⟨f8, _, _, ok_double_fields F8 TK, PySem.W.mg_of X G a8, k8, b8⟩⟩
  have E0 : Er1 l.prog w K mg base "BadLetter" "value" C0 := ⟨O0, X0, n_BadLetter_value, PySem.W.mg_of X G a_BadLetter, f12, _, _, a12, y12, ok_BadLetter F12 TB sys D_copied, b12, kb0⟩
  have E1 : Er1 l.prog w K mg base "BadWord" "value" C1 := ⟨O1, X1, n_BadWord_value, PySem.W.mg_of X G a_BadWord, f13, _, _, a13, y13, ok_BadWord F13 TB sys D_copied, b13, kb1⟩
  have E2 : Er1 l.prog w K mg base "BadNumber" "value" C2 := ⟨O2, X2, n_BadNumber_value, PySem.W.mg_of X G a_BadNumber, f14, _, _, a14, y14, ok_BadNumber F14 TB sys D_copied, b14, kb2⟩
  have E3 : Er1 l.prog w K mg base "BadCode" "value" C3 := ⟨O3, X3, n_BadCode_value, PySem.W.mg_of X G a_BadCode, f15, _, _, a15, y15, ok_BadCode F15 TB sys D_copied, b15, kb3⟩
  have E4 : Er1 l.prog w K mg base "BadName" "value" C4 := ⟨O4, X4, n_BadName_value, PySem.W.mg_of X G a_BadName, f16, _, _, a16, y16, ok_BadName F16 TB sys D_copied, b16, kb4⟩
  have E5 : Er1 l.prog w K mg base "BadImage" "letter" C5 := ⟨O5, X5, n_BadImage_letter, PySem.W.mg_of X G a_BadImage, f17, _, _, a17, y17, ok_BadImage F17 TB sys D_copied, b17, kb5⟩
  have E6 : Er1 l.prog w K mg base "NoSign" "letter" C6 := ⟨O6, X6, n_NoSign_letter, PySem.W.mg_of X G a_NoSign, f18, _, _, a18, y18, ok_NoSign F18 TB sys D_copied, b18, kb6⟩
  have E7 : Er1 l.prog w K mg base "Unlike" "letter" C7 := ⟨O7, X7, n_Unlike_letter, PySem.W.mg_of X G a_Unlike, f19, _, _, a19, y19, ok_Unlike F19 TB sys D_copied, b19, kb7⟩
  have E8 : Er1 l.prog w K mg base "BadTable" "part" C8 := ⟨O8, X8, n_BadTable_part, PySem.W.mg_of X G a_BadTable, f20, _, _, a20, y20, ok_BadTable F20 TB sys D_copied, b20, kb8⟩
  have E9 : Er1 l.prog w K mg base "BadRight" "part" C9 := ⟨O9, X9, n_BadRight_part, PySem.W.mg_of X G a_BadRight, f21, _, _, a21, y21, ok_BadRight F21 TB sys D_copied, b21, kb9⟩
  have E10 : Er1 l.prog w K mg base "Unread" "at" C10 := ⟨O10, X10, n_Unread_at, PySem.W.mg_of X G a_Unread, f22, _, _, a22, y22, ok_Unread F22 TB sys D_copied, b22, kb10⟩
  have E11 : Er1 l.prog w K mg base "Barred" "at" C11 := ⟨O11, X11, n_Barred_at, PySem.W.mg_of X G a_Barred, f23, _, _, a23, y23, ok_Barred F23 TB sys D_copied, b23, kb11⟩
  have E12 : Er1 l.prog w K mg base "BadList" "at" C12 := ⟨O12, X12, n_BadList_at, PySem.W.mg_of X G a_BadList, f24, _, _, a24, y24, ok_BadList F24 TB sys D_copied, b24, kb12⟩
  have E13 : Er1 l.prog w K mg base "BadRow" "at" C13 := ⟨O13, X13, n_BadRow_at, PySem.W.mg_of X G a_BadRow, f25, _, _, a25, y25, ok_BadRow F25 TB sys D_copied, b25, kb13⟩
  have E14 : Er1 l.prog w K mg base "BadFixer" "at" C14 := ⟨O14, X14, n_BadFixer_at, PySem.W.mg_of X G a_BadFixer, f26, _, _, a26, y26, ok_BadFixer F26 TB sys D_copied, b26, kb14⟩
  have E15 : Er1 l.prog w K mg base "NoOrigin" "text" C15 := ⟨O15, X15, n_NoOrigin_text, PySem.W.mg_of X G a_NoOrigin, f27, _, _, a27, y27, ok_NoOrigin F27 TB sys D_copied, b27, kb15⟩
  have E16 : Er1 l.prog w K mg base "Ring" "text" C16 := ⟨O16, X16, n_Ring_text, PySem.W.mg_of X G a_Ring, f28, _, _, a28, y28, ok_Ring F28 TB sys D_copied, b28, kb16⟩
  have E17 : Er1 l.prog w K mg base "NoName" "name" C17 := ⟨O17, X17, n_NoName_name, PySem.W.mg_of X G a_NoName, f29, _, _, a29, y29, ok_NoName F29 TB sys D_copied, b29, kb17⟩
  have E18 : Er1 l.prog w K mg base "BadCommand" "word" C18 := ⟨O18, X18, n_BadCommand_word, PySem.W.mg_of X G a_BadCommand, f30, _, _, a30, y30, ok_BadCommand F30 TB sys D_copied, b30, kb18⟩
  have E19 : Er2 l.prog w K mg base "Merging" "one" "other" C19 := ⟨O19, X19, n_Merging_one, n_Merging_other, PySem.W.mg_of X G a_Merging, f31, _, _, a31, y31, ok_Merging F31 TB sys D_copied, b31, kb19⟩
  have E20 : Er2 l.prog w K mg base "Several" "one" "other" C20 := ⟨O20, X20, n_Several_one, n_Several_other, PySem.W.mg_of X G a_Several, f32, _, _, a32, y32, ok_Several F32 TB sys D_copied, b32, kb20⟩
  have E21 : Er2 l.prog w K mg base "TooMany" "what" "most" C21 := ⟨O21, X21, n_TooMany_what, n_TooMany_most, PySem.W.mg_of X G a_TooMany, f33, _, _, a33, y33, ok_TooMany F33 TB sys D_copied, b33, kb21⟩
  have E22 : Er2 l.prog w K mg base "BadText" "line" "word" C22 := ⟨O22, X22, n_BadText_line, n_BadText_word, PySem.W.mg_of X G a_BadText, f34, _, _, a34, y34, ok_BadText F34 TB sys D_copied, b34, kb22⟩
  have E23 : Er0 l.prog w K mg base "NoImage" C23 := ⟨O23, X23, PySem.W.mg_of X G a_NoImage, f35, _, _, a35, y35, ok_NoImage F35 TB, b35⟩
  have E24 : Er0 l.prog w K mg base "Nothing" C24 := ⟨O24, X24, PySem.W.mg_of X G a_Nothing, f36, _, _, a36, y36, ok_Nothing F36 TB, b36⟩
  have R : Ers l.prog w K mg base (CzOf [C0, C1, C2, C3, C4, C5, C6, C7, C8, C9, C10, C11, C12, C13, C14, C15, C16, C17, C18, C19, C20, C21, C22, C23, C24]) := ⟨E0, E1, E2, E3, E4, E5, E6, E7, E8, E9, E10, E11, E12, E13, E14, E15, E16, E17, E18, E19, E20, E21, E22, E23, E24⟩
  have D_singles : DfG l.prog w K mg base CX0 5 "_law_singles" (spSingles K (CzOf [C0, C1, C2, C3, C4, C5, C6, C7, C8, C9, C10, C11, C12, C13, C14, C15, C16, C17, C18, C19, C20, C21, C22, C23, C24])) := ⟨⟨f5, _, _, ok_singles F5 TK R, PySem.W.mg_of X G a5, k5, b5⟩⟩
  have D_doubles : DfG l.prog w K mg base CX0 5 "_law_doubles" (spDoubles K (CzOf [C0, C1, C2, C3, C4, C5, C6, C7, C8, C9, C10, C11, C12, C13, C14, C15, C16, C17, C18, C19, C20, C21, C22, C23, C24])) := ⟨⟨f6, _, _, ok_doubles F6 TK R, PySem.W.mg_of X G a6, k6, b6⟩⟩
  have D_caught : DfG l.prog w K mg base CX0 6 "_law_caught" spCaught := ⟨⟨f10, _, _, ok_caught F10 TK (PySem.W.mg_of X G aE) XE R D_kindsC, PySem.W.mg_of X G a10, k10, b10⟩⟩
  exact ok_law F11 TK sys R D_pen D_draw D_thing D_singles D_doubles D_kinds D_single_fields D_double_fields D_caught
/-- the end, the modules known -/
theorem walk {l : PySem.W.OpenLaw} {q : Program} {loose : List Str} {XP : (Str → Option Value) → Heap → Prop} {YP : World → Heap → Prop} {d : DefRec} {K : Params → PySem.W.Frag} (hn : l.most = some 63) (hdf : d.params.defaults = []) (him : importsNone q = true)
    (hY : ∀ (w : World) (h : Heap), YP w h → (K w.params).In h)
    (F : ∀ (w : World) (mg : Str → Option Value) (fa : Addr) (h : Heap), (K w.params).In h → h.Ns mainGlobals mg → mg d.name = some (.ref fa) → ∃ fd sp, LawW l w (K w.params) 8 mg fa h fd sp) :
    PySem.W.WalkO q loose XP YP l.row.toRowW d [] (fun f vs => PySem.call f vs) := by
  refine Att.attach_callB hn hdf fun w s₀ s₁ mg mb fa o pm cd doc a vs ns G Y ho hd hcd hmg hobj hints hlen hbits hg => ?_
  have KX := hY w _ Y
  obtain ⟨mm, hmods, _⟩ := (G.T.seer him).mods
  obtain ⟨fd, sp, L⟩ := F w mg fa _ KX G.T.g hmg
  exact law_callS (cs := []) KX G.T.g G.T.b G.T.builtins G.T.nolimit hg hmods (fun p hp => nomatch hp) (fun p hp => nomatch hp) (fun p hp => nomatch hp) G.T.bmain hobj hints (Nat.le_trans hlen (by decide)) ⟨rfl, by decide, by decide⟩ (fun base sys kin g _ => L.runs base sys kin g) L.binds (fun H _ hS => L.starts H a ns hlen hbits hS) fun _ _ _ z => z
end V8

set_option Elab.async false
set_option linter.all false
set_option maxRecDepth 100000
open PySem PySem.W PyProof.Rows
set_option maxHeartbeats 0 in
theorem PySem.Challenge.cw_blindrepair_k01_errors_apart_holds : PySem.Challenge.rw_blindrepair_k01_errors_apart.Holds := by
  w_on; o_law; k_head; (case hw => w_witness2)
  k_fill
  refine V8.walk (l := PySem.Challenge.rw_blindrepair_k01_errors_apart) rfl rfl (by decide +kernel) (fun w h Y => PySem.W.kIn_of Y) ?F
  case F =>
    intro w mg fa h KX G hmg
    refine' V8.all_mk KX G hmg ?aE ?a_BadLetter ?a_BadWord ?a_BadNumber ?a_BadCode ?a_BadName ?a_BadImage ?a_NoSign ?a_Unlike ?a_BadTable ?a_BadRight ?a_Unread ?a_Barred ?a_BadList ?a_BadRow ?a_BadFixer ?a_NoOrigin ?a_Ring ?a_NoName ?a_BadCommand ?a_Merging ?a_Several ?a_TooMany ?a_BadText ?a_NoImage ?a_Nothing ?a0 ?l0 ?c0 ?k0 ?a1 ?l1 ?c1 ?k1 ?a2 ?l2 ?c2 ?k2 ?a3 ?l3 ?c3 ?k3 ?a4 ?l4 ?c4 ?k4 ?a5 ?l5 ?c5 ?k5 ?a6 ?l6 ?c6 ?k6 ?a7 ?l7 ?c7 ?k7 ?a8 ?l8 ?c8 ?k8 ?a9 ?l9 ?c9 ?k9 ?a10 ?l10 ?c10 ?k10 ?a11 ?l11 ?c11 ?k11 ?a12 ?y12 ?l12 ?c12 ?k12 ?a13 ?y13 ?l13 ?c13 ?k13 ?a14 ?y14 ?l14 ?c14 ?k14 ?a15 ?y15 ?l15 ?c15 ?k15 ?a16 ?y16 ?l16 ?c16 ?k16 ?a17 ?y17 ?l17 ?c17 ?k17 ?a18 ?y18 ?l18 ?c18 ?k18 ?a19 ?y19 ?l19 ?c19 ?k19 ?a20 ?y20 ?l20 ?c20 ?k20 ?a21 ?y21 ?l21 ?c21 ?k21 ?a22 ?y22 ?l22 ?c22 ?k22 ?a23 ?y23 ?l23 ?c23 ?k23 ?a24 ?y24 ?l24 ?c24 ?k24 ?a25 ?y25 ?l25 ?c25 ?k25 ?a26 ?y26 ?l26 ?c26 ?k26 ?a27 ?y27 ?l27 ?c27 ?k27 ?a28 ?y28 ?l28 ?c28 ?k28 ?a29 ?y29 ?l29 ?c29 ?k29 ?a30 ?y30 ?l30 ?c30 ?k30 ?a31 ?y31 ?l31 ?c31 ?k31 ?a32 ?y32 ?l32 ?c32 ?k32 ?a33 ?y33 ?l33 ?c33 ?k33 ?a34 ?y34 ?l34 ?c34 ?k34 ?a35 ?y35 ?l35 ?c35 ?k35 ?a36 ?y36 ?l36 ?c36 ?k36 ?x_BadLetter ?s_BadLetter ?k_BadLetter ?hg_BadLetter ?hk_BadLetter ?ha_BadLetter ?n_BadLetter_value ?x_BadWord ?s_BadWord ?k_BadWord ?hg_BadWord ?hk_BadWord ?ha_BadWord ?n_BadWord_value ?x_BadNumber ?s_BadNumber ?k_BadNumber ?hg_BadNumber ?hk_BadNumber ?ha_BadNumber ?n_BadNumber_value ?x_BadCode ?s_BadCode ?k_BadCode ?hg_BadCode ?hk_BadCode ?ha_BadCode ?n_BadCode_value ?x_BadName ?s_BadName ?k_BadName ?hg_BadName ?hk_BadName ?ha_BadName ?n_BadName_value ?x_BadImage ?s_BadImage ?k_BadImage ?hg_BadImage ?hk_BadImage ?ha_BadImage ?n_BadImage_letter ?x_NoSign ?s_NoSign ?k_NoSign ?hg_NoSign ?hk_NoSign ?ha_NoSign ?n_NoSign_letter ?x_Unlike ?s_Unlike ?k_Unlike ?hg_Unlike ?hk_Unlike ?ha_Unlike ?n_Unlike_letter ?x_BadTable ?s_BadTable ?k_BadTable ?hg_BadTable ?hk_BadTable ?ha_BadTable ?n_BadTable_part ?x_BadRight ?s_BadRight ?k_BadRight ?hg_BadRight ?hk_BadRight ?ha_BadRight ?n_BadRight_part ?x_Unread ?s_Unread ?k_Unread ?hg_Unread ?hk_Unread ?ha_Unread ?n_Unread_at ?x_Barred ?s_Barred ?k_Barred ?hg_Barred ?hk_Barred ?ha_Barred ?n_Barred_at ?x_BadList ?s_BadList ?k_BadList ?hg_BadList ?hk_BadList ?ha_BadList ?n_BadList_at ?x_BadRow ?s_BadRow ?k_BadRow ?hg_BadRow ?hk_BadRow ?ha_BadRow ?n_BadRow_at ?x_BadFixer ?s_BadFixer ?k_BadFixer ?hg_BadFixer ?hk_BadFixer ?ha_BadFixer ?n_BadFixer_at ?x_NoOrigin ?s_NoOrigin ?k_NoOrigin ?hg_NoOrigin ?hk_NoOrigin ?ha_NoOrigin ?n_NoOrigin_text ?x_Ring ?s_Ring ?k_Ring ?hg_Ring ?hk_Ring ?ha_Ring ?n_Ring_text ?x_NoName ?s_NoName ?k_NoName ?hg_NoName ?hk_NoName ?ha_NoName ?n_NoName_name ?x_BadCommand ?s_BadCommand ?k_BadCommand ?hg_BadCommand ?hk_BadCommand ?ha_BadCommand ?n_BadCommand_word ?x_Merging ?s_Merging ?k_Merging ?hg_Merging ?hk_Merging ?ha_Merging ?n_Merging_one ?n_Merging_other ?x_Several ?s_Several ?k_Several ?hg_Several ?hk_Several ?ha_Several ?n_Several_one ?n_Several_other ?x_TooMany ?s_TooMany ?k_TooMany ?hg_TooMany ?hk_TooMany ?ha_TooMany ?n_TooMany_what ?n_TooMany_most ?x_BadText ?s_BadText ?k_BadText ?hg_BadText ?hk_BadText ?ha_BadText ?n_BadText_line ?n_BadText_word ?x_NoImage ?s_NoImage ?k_NoImage ?hg_NoImage ?hk_NoImage ?ha_NoImage ?x_Nothing ?s_Nothing ?k_Nothing ?hg_Nothing ?hk_Nothing ?ha_Nothing ?tB ?tC ?eR ?tyR ?iR ?rdR ?gaR ?vR ?z_list ?z_int ?z_len ?z_abs ?z_range ?z_dict ?z_str ?z_sorted ?z_tuple ?z_isinstance ?z_repr ?z_enumerate ?z_ValueError ?nd
    (case aE => k_is)
    (case a_BadLetter => k_is)
    (case a_BadWord => k_is)
    (case a_BadNumber => k_is)
    (case a_BadCode => k_is)
    (case a_BadName => k_is)
    (case a_BadImage => k_is)
    (case a_NoSign => k_is)
    (case a_Unlike => k_is)
    (case a_BadTable => k_is)
    (case a_BadRight => k_is)
    (case a_Unread => k_is)
    (case a_Barred => k_is)
    (case a_BadList => k_is)
    (case a_BadRow => k_is)
    (case a_BadFixer => k_is)
    (case a_NoOrigin => k_is)
    (case a_Ring => k_is)
    (case a_NoName => k_is)
    (case a_BadCommand => k_is)
    (case a_Merging => k_is)
    (case a_Several => k_is)
    (case a_TooMany => k_is)
    (case a_BadText => k_is)
    (case a_NoImage => k_is)
    (case a_Nothing => k_is)
    (case a0 => k_is)
    (case l0 => k_is)
    (case c0 => k_is)
    (case k0 => k_is)
    (case a1 => k_is)
    (case l1 => k_is)
    (case c1 => k_is)
    (case k1 => k_is)
    (case a2 => k_is)
    (case l2 => k_is)
    (case c2 => k_is)
    (case k2 => k_is)
    (case a3 => k_is)
    (case l3 => k_is)
    (case c3 => k_is)
    (case k3 => k_is)
    (case a4 => k_is)
    (case l4 => k_is)
    (case c4 => k_is)
    (case k4 => k_is)
    (case a5 => k_is)
    (case l5 => k_is)
    (case c5 => k_is)
    (case k5 => k_is)
    (case a6 => k_is)
    (case l6 => k_is)
    (case c6 => k_is)
    (case k6 => k_is)
    (case a7 => k_is)
    (case l7 => k_is)
    (case c7 => k_is)
    (case k7 => k_is)
    (case a8 => k_is)
    (case l8 => k_is)
    (case c8 => k_is)
    (case k8 => k_is)
    (case a9 => k_is)
    (case l9 => k_is)
    (case c9 => k_is)
    (case k9 => k_is)
    (case a10 => k_is)
    (case l10 => k_is)
    (case c10 => k_is)
    (case k10 => k_is)
    (case a11 => k_is)
    (case l11 => k_is)
    (case c11 => k_is)
    (case k11 => k_is)
    (case a12 => k_is)
    (case y12 => k_is)
    (case l12 => k_is)
    (case c12 => k_is)
    (case k12 => k_is)
    (case a13 => k_is)
    (case y13 => k_is)
    (case l13 => k_is)
    (case c13 => k_is)
    (case k13 => k_is)
    (case a14 => k_is)
    (case y14 => k_is)
    (case l14 => k_is)
    (case c14 => k_is)
    (case k14 => k_is)
    (case a15 => k_is)
    (case y15 => k_is)
    (case l15 => k_is)
    (case c15 => k_is)
    (case k15 => k_is)
    (case a16 => k_is)
    (case y16 => k_is)
    (case l16 => k_is)
    (case c16 => k_is)
    (case k16 => k_is)
    (case a17 => k_is)
    (case y17 => k_is)
    (case l17 => k_is)
    (case c17 => k_is)
    (case k17 => k_is)
    (case a18 => k_is)
    (case y18 => k_is)
    (case l18 => k_is)
    (case c18 => k_is)
    (case k18 => k_is)
    (case a19 => k_is)
    (case y19 => k_is)
    (case l19 => k_is)
    (case c19 => k_is)
    (case k19 => k_is)
    (case a20 => k_is)
    (case y20 => k_is)
    (case l20 => k_is)
    (case c20 => k_is)
    (case k20 => k_is)
    (case a21 => k_is)
    (case y21 => k_is)
    (case l21 => k_is)
    (case c21 => k_is)
    (case k21 => k_is)
    (case a22 => k_is)
    (case y22 => k_is)
    (case l22 => k_is)
    (case c22 => k_is)
    (case k22 => k_is)
    (case a23 => k_is)
    (case y23 => k_is)
    (case l23 => k_is)
    (case c23 => k_is)
    (case k23 => k_is)
    (case a24 => k_is)
    (case y24 => k_is)
    (case l24 => k_is)
    (case c24 => k_is)
    (case k24 => k_is)
    (case a25 => k_is)
    (case y25 => k_is)
    (case l25 => k_is)
    (case c25 => k_is)
    (case k25 => k_is)
    (case a26 => k_is)
    (case y26 => k_is)
    (case l26 => k_is)
    (case c26 => k_is)
    (case k26 => k_is)
    (case a27 => k_is)
    (case y27 => k_is)
    (case l27 => k_is)
    (case c27 => k_is)
    (case k27 => k_is)
    (case a28 => k_is)
    (case y28 => k_is)
    (case l28 => k_is)
    (case c28 => k_is)
    (case k28 => k_is)
    (case a29 => k_is)
    (case y29 => k_is)
    (case l29 => k_is)
    (case c29 => k_is)
    (case k29 => k_is)
    (case a30 => k_is)
    (case y30 => k_is)
    (case l30 => k_is)
    (case c30 => k_is)
    (case k30 => k_is)
    (case a31 => k_is)
    (case y31 => k_is)
    (case l31 => k_is)
    (case c31 => k_is)
    (case k31 => k_is)
    (case a32 => k_is)
    (case y32 => k_is)
    (case l32 => k_is)
    (case c32 => k_is)
    (case k32 => k_is)
    (case a33 => k_is)
    (case y33 => k_is)
    (case l33 => k_is)
    (case c33 => k_is)
    (case k33 => k_is)
    (case a34 => k_is)
    (case y34 => k_is)
    (case l34 => k_is)
    (case c34 => k_is)
    (case k34 => k_is)
    (case a35 => k_is)
    (case y35 => k_is)
    (case l35 => k_is)
    (case c35 => k_is)
    (case k35 => k_is)
    (case a36 => k_is)
    (case y36 => k_is)
    (case l36 => k_is)
    (case c36 => k_is)
    (case k36 => k_is)
    (case x_BadLetter => k_is)
    (case s_BadLetter => k_is)
    (case k_BadLetter => k_is)
    (case hg_BadLetter => k_is)
    (case hk_BadLetter => k_is)
    (case ha_BadLetter => k_is)
    (case n_BadLetter_value => k_is)
    (case x_BadWord => k_is)
    (case s_BadWord => k_is)
    (case k_BadWord => k_is)
    (case hg_BadWord => k_is)
    (case hk_BadWord => k_is)
    (case ha_BadWord => k_is)
    (case n_BadWord_value => k_is)
    (case x_BadNumber => k_is)
    (case s_BadNumber => k_is)
    (case k_BadNumber => k_is)
    (case hg_BadNumber => k_is)
    (case hk_BadNumber => k_is)
    (case ha_BadNumber => k_is)
    (case n_BadNumber_value => k_is)
    (case x_BadCode => k_is)
    (case s_BadCode => k_is)
    (case k_BadCode => k_is)
    (case hg_BadCode => k_is)
    (case hk_BadCode => k_is)
    (case ha_BadCode => k_is)
    (case n_BadCode_value => k_is)
    (case x_BadName => k_is)
    (case s_BadName => k_is)
    (case k_BadName => k_is)
    (case hg_BadName => k_is)
    (case hk_BadName => k_is)
    (case ha_BadName => k_is)
    (case n_BadName_value => k_is)
    (case x_BadImage => k_is)
    (case s_BadImage => k_is)
    (case k_BadImage => k_is)
    (case hg_BadImage => k_is)
    (case hk_BadImage => k_is)
    (case ha_BadImage => k_is)
    (case n_BadImage_letter => k_is)
    (case x_NoSign => k_is)
    (case s_NoSign => k_is)
    (case k_NoSign => k_is)
    (case hg_NoSign => k_is)
    (case hk_NoSign => k_is)
    (case ha_NoSign => k_is)
    (case n_NoSign_letter => k_is)
    (case x_Unlike => k_is)
    (case s_Unlike => k_is)
    (case k_Unlike => k_is)
    (case hg_Unlike => k_is)
    (case hk_Unlike => k_is)
    (case ha_Unlike => k_is)
    (case n_Unlike_letter => k_is)
    (case x_BadTable => k_is)
    (case s_BadTable => k_is)
    (case k_BadTable => k_is)
    (case hg_BadTable => k_is)
    (case hk_BadTable => k_is)
    (case ha_BadTable => k_is)
    (case n_BadTable_part => k_is)
    (case x_BadRight => k_is)
    (case s_BadRight => k_is)
    (case k_BadRight => k_is)
    (case hg_BadRight => k_is)
    (case hk_BadRight => k_is)
    (case ha_BadRight => k_is)
    (case n_BadRight_part => k_is)
    (case x_Unread => k_is)
    (case s_Unread => k_is)
    (case k_Unread => k_is)
    (case hg_Unread => k_is)
    (case hk_Unread => k_is)
    (case ha_Unread => k_is)
    (case n_Unread_at => k_is)
    (case x_Barred => k_is)
    (case s_Barred => k_is)
    (case k_Barred => k_is)
    (case hg_Barred => k_is)
    (case hk_Barred => k_is)
    (case ha_Barred => k_is)
    (case n_Barred_at => k_is)
    (case x_BadList => k_is)
    (case s_BadList => k_is)
    (case k_BadList => k_is)
    (case hg_BadList => k_is)
    (case hk_BadList => k_is)
    (case ha_BadList => k_is)
    (case n_BadList_at => k_is)
    (case x_BadRow => k_is)
    (case s_BadRow => k_is)
    (case k_BadRow => k_is)
    (case hg_BadRow => k_is)
    (case hk_BadRow => k_is)
    (case ha_BadRow => k_is)
    (case n_BadRow_at => k_is)
    (case x_BadFixer => k_is)
    (case s_BadFixer => k_is)
    (case k_BadFixer => k_is)
    (case hg_BadFixer => k_is)
    (case hk_BadFixer => k_is)
    (case ha_BadFixer => k_is)
    (case n_BadFixer_at => k_is)
    (case x_NoOrigin => k_is)
    (case s_NoOrigin => k_is)
    (case k_NoOrigin => k_is)
    (case hg_NoOrigin => k_is)
    (case hk_NoOrigin => k_is)
    (case ha_NoOrigin => k_is)
    (case n_NoOrigin_text => k_is)
    (case x_Ring => k_is)
    (case s_Ring => k_is)
    (case k_Ring => k_is)
    (case hg_Ring => k_is)
    (case hk_Ring => k_is)
    (case ha_Ring => k_is)
    (case n_Ring_text => k_is)
    (case x_NoName => k_is)
    (case s_NoName => k_is)
    (case k_NoName => k_is)
    (case hg_NoName => k_is)
    (case hk_NoName => k_is)
    (case ha_NoName => k_is)
    (case n_NoName_name => k_is)
    (case x_BadCommand => k_is)
    (case s_BadCommand => k_is)
    (case k_BadCommand => k_is)
    (case hg_BadCommand => k_is)
    (case hk_BadCommand => k_is)
    (case ha_BadCommand => k_is)
    (case n_BadCommand_word => k_is)
    (case x_Merging => k_is)
    (case s_Merging => k_is)
    (case k_Merging => k_is)
    (case hg_Merging => k_is)
    (case hk_Merging => k_is)
    (case ha_Merging => k_is)
    (case n_Merging_one => k_is)
    (case n_Merging_other => k_is)
    (case x_Several => k_is)
    (case s_Several => k_is)
    (case k_Several => k_is)
    (case hg_Several => k_is)
    (case hk_Several => k_is)
    (case ha_Several => k_is)
    (case n_Several_one => k_is)
    (case n_Several_other => k_is)
    (case x_TooMany => k_is)
    (case s_TooMany => k_is)
    (case k_TooMany => k_is)
    (case hg_TooMany => k_is)
    (case hk_TooMany => k_is)
    (case ha_TooMany => k_is)
    (case n_TooMany_what => k_is)
    (case n_TooMany_most => k_is)
    (case x_BadText => k_is)
    (case s_BadText => k_is)
    (case k_BadText => k_is)
    (case hg_BadText => k_is)
    (case hk_BadText => k_is)
    (case ha_BadText => k_is)
    (case n_BadText_line => k_is)
    (case n_BadText_word => k_is)
    (case x_NoImage => k_is)
    (case s_NoImage => k_is)
    (case k_NoImage => k_is)
    (case hg_NoImage => k_is)
    (case hk_NoImage => k_is)
    (case ha_NoImage => k_is)
    (case x_Nothing => k_is)
    (case s_Nothing => k_is)
    (case k_Nothing => k_is)
    (case hg_Nothing => k_is)
    (case hk_Nothing => k_is)
    (case ha_Nothing => k_is)
    (case tB => k_is)
    (case tC => k_is)
    (case eR => k_is)
    (case tyR => k_is)
    (case iR => k_is)
    (case rdR => k_is)
    (case gaR => k_is)
    (case vR => k_is)
    (case z_list => k_is)
    (case z_int => k_is)
    (case z_len => k_is)
    (case z_abs => k_is)
    (case z_range => k_is)
    (case z_dict => k_is)
    (case z_str => k_is)
    (case z_sorted => k_is)
    (case z_tuple => k_is)
    (case z_isinstance => k_is)
    (case z_repr => k_is)
    (case z_enumerate => k_is)
    (case z_ValueError => k_is)
    (case nd => decide +kernel)

