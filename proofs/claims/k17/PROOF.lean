import PyProof.Rows.All
import Wide.All
import OpenK.AllK
import Wide.FinOn
import HandS.ForMost
import HandS.OwnEq
import HandS.Wide
import HandS.DictComp
import HandS.IsInst
import HandS.Codes
import HandS.Flow
import PyProof.ListStr
import PyProof.InstNe
import KE.KCallOwn
import KE.KOwnIter
import KE.KFmtOwn
import HandS.Style
import HandS.IterNext
import HandS.StrMore
import HandS.MakeKw
import HandS.IterVal
import HandS.More
import PyProof.DictUpdate
import HandS.RaiseMore
import HandS.Walk
import HandS.FStr
import HandS.ClsMeth
import HandS.MakeKwOnly
import HandS.ExcInit
import KE.GoesMore
import KE.KOpsOwn
import HandS.Star
import HandS.TryOnly
import HandS.ExcValue
import HandS.ExcIs
import HandS.Lambda
import KE.KExcIs
import HandS.Zip
import KE.GoesZip
import PyProof.Rows.StrMul
import KE.KEqDict
import PyProof.P3Eq
import KE.GoesEnum
import PyProof.CallFns
import PyProof.InstEq
import PyProof.ReprRoads
import HandS.WordsExc
import HandS.RaiseFrom
import PySem.Challenge.RW_blindrepair_k17_leads_of_images
import HandS.Defaults
import KE.KxText
import PyProof.Rows.StrReprJoin
import PyProof.DictTable
import PyProof.DictRoadsH
import KE.KeyNested
import PyProof.DictKind
import PyProof.DictFindH
import HandS.Dict
import HandS.Small
import HandS.Iter
import HandS.TupLen
import PyProof.StrLawsAffix
import PyProof.Rows.SortStr
import PyProof.Rows.StrMeet
import PyProof.Rows.Range3
import OpenK.KOps
import PyProof.Rows.RegStrFacts
import HandS.Strs
import HandS.Text
import KE.KRevSl
import HandS.SortInts
import PyProof.Rows.SortKeyStr
import PyProof.NeKinds
import HandS.Deep
import HandS.TupAny
import HandS.EndTab
import KE.RegKIsAll
set_option Elab.async false
set_option linter.all false
set_option maxRecDepth 100000
set_option maxHeartbeats 4000000
/-! Rules of our own: the methods with two underscores of a text's own class, called by Python's signs; list(text). -/
namespace L2
open PySem PySem.Spec PyProof.Rows
section
variable {X : Cx} {n : Nat} {CX : CXT} {C f : Addr} {fd : FuncData} {ps : List Str} {sp : Sp} {E : XK}
/-- a def that is called from within a built-in -/
theorem run_own {A : Around} {pins : List (Addr × Obj)} {σ : St} {H : Hp} {s : Shared} {Q : VK} {us : List Value} {vs : List V} (sb : Sub X n A) (F : FnOk X.prog X.w X.K X.mg X.base CX n f fd ps sp) (hb : Binds X.K fd ps []) (hx : Passes CX X E)
    (I : Inv X pins σ H s) (r : Vals vs us) (h : sp vs H Q E) : wpAny (model X.prog X.w) A (call (.ref f) us) (EP X pins σ Q) X.xe s := by
  have e0 : Env0 X.prog X.w X.K X.mg X.base A X.stack s H := by
    have e := I.env0
    exact ⟨by rw [sb.fr]; exact e.frames, e.mod, e.bs, e.bsz, e.funs, e.frf, e.hok, e.bare⟩
  have hl := F.len _ _ _ _ h
  have hl2 : us.length = ps.length := by rw [← r.length]; exact hl
  refine wpAny_call (codeAny_mono (F.run A X.stack s H ⟨us, []⟩ us vs Q E sb.room e0 (by
    have := hb s us I.kIn (by simpa using hl2)
    simpa using this) r h) fun r s' hq => ?_)
  cases r with
  | error e => exact hx pins σ H s e s' I hq
  | ok fl =>
    cases fl with
    | ret w => exact I.after hq
    | next => exact False.elim hq
    | brk => exact False.elim hq
    | cont => exact False.elim hq
/-- the instance that H tells, for the library's rules -/
theorem inst_at {pins : List (Addr × Obj)} {σ : St} {H : Hp} {s : Shared} {a dx : Addr} {fs : List (Str × V)} (I : Inv X pins σ H s) (ha : H a = some (.ins C dx fs)) : ∃ od, PySem.W.InstAt s.heap a (PySem.W.instObj C dx) C od := by
  obtain ⟨mA, J, _⟩ := ins_get I.hok ha
  obtain ⟨od, J, _⟩ := J.look
  exact ⟨od, J⟩
/-- where one stands in a built-in, once or twice deeper -/
theorem Sub.here (hr : Room n X.A) : Sub X n X.A := ⟨hr, rfl⟩
/-- the facts of a method that a sign calls -/
structure Own (K : PySem.W.Frag) (C : Addr) (m : Str) (f : Addr) : Prop where
  find : PySem.W.findIn K (.ref C) m = some (some (.ref f))
  fn : PySem.W.isFn K (.ref f) = true
/-- list(text) -/
theorem call_listS (hc : X.calm = true) : CallR X (.type "list") (fun xs H Q => ∃ z, xs = [.str z] ∧ z.length ≤ sizeLine ∧ ∀ l, H l = none → Q (.ref l) (upd H l (.lst (z.cps.toList.map fun c => V.str ⟨#[c]⟩)))) := by
  intro pins s σ H xs us Q I r h
  obtain ⟨z, rfl, hz, q⟩ := h
  obtain ⟨u, rfl, t, rfl⟩ := vals1 r
  refine call_list_str (I.ok.hd hc) z t (fun h' tk acc c' kp e it => ?_) hz
  have rv : ∀ (xs : List Nat) (acc : List Value), acc.length = xs.length → (∀ (j : Nat) (v : Value), acc[j]? = some v → ∃ (c : Nat) (u : Tok), xs[j]? = some c ∧ v = Value.str ⟨#[c]⟩ u) → Vals (xs.map fun c => V.str ⟨#[c]⟩) acc := by
    intro xs
    induction xs with
    | nil =>
      intro acc hl _
      cases acc with
      | nil => exact .nil
      | cons a r => cases hl
    | cons x xs ih =>
      intro acc hl hi
      cases acc with
      | nil => cases hl
      | cons a r =>
        obtain ⟨c, u, e1, e2⟩ := hi 0 a rfl
        have e1' : x = c := by simpa using e1
        subst e1'
        exact .cons ⟨u, e2⟩ (ih r (by simpa using hl) fun j v hj => by
          obtain ⟨c, u, e1, e2⟩ := hi (j + 1) v (by simpa using hj)
          exact ⟨c, u, by simpa using e1, e2⟩)
  have R : Vals (z.cps.toList.map fun c => V.str ⟨#[c]⟩) acc.toList := rv _ _ (by rw [Array.length_toList, it.1, Array.length_toList]) fun j v hj => by
    obtain ⟨c, u, e1, e2⟩ := it.2 j v (by rw [← Array.getElem?_toList]; exact hj)
    exact ⟨c, u, by rw [Array.getElem?_toList]; exact e1, e2⟩
  refine ⟨.ref s.heap.objs.size, _, I.laid (t' := tk) kp (Nat.le_refl _) (show ObjOk X.prog X.w _ h' _ (.lst _) from ⟨?_, acc.toList, c', R, by rw [Array.toArray_toList]; exact e⟩), rfl, q _ (I.hok.fresh (Nat.le_refl _))⟩
  rw [List.length_map, Array.length_toList]
  exact hz
/-- o[k] by an own __getitem__ -/
theorem pe_ixOwn {a b : Expr} {ta tb : TE} {pos : Pos} (F : FnOk X.prog X.w X.K X.mg X.base CX n f fd ps sp) (hb : Binds X.K fd ps []) (hx : Passes CX X E) (o : Own X.K C "__getitem__" f) (hf : PySem.W.fnIn X.K f = true) (hr : Room (n + 1) X.A) (hA : PE X a ta) (hB : PE X b tb)
    (hsl : ∀ v u, subscripted b true v u = runValue (.builtin "lifetime.subscript" ⟨[v, u], []⟩) := by intro _ _; rfl) :
    PE X (.Subscript a b pos) (tOp (fun x y H Q => ∃ a dx fs, x = .ref a ∧ H a = some (.ins C dx fs) ∧ sp [.ref a, y] H Q E) ta tb) := by
  refine ⟨fun pins s σ H Q I h => ?_⟩
  refine Subscript_ (binT hA hB I h fun v u s2 x y H2 I2 rx ry q => ?_)
  obtain ⟨a, dx, fs, rfl, ha, hs⟩ := q
  cases rx
  obtain ⟨od, J⟩ := inst_at I2 ha
  obtain ⟨m, hF⟩ := I2.fr
  exact PySem.W.sub_K hF I2.ok.mod.kin J o.find hf o.fn (run_own (Sub.here hr).in1 F hb hx I2 (show Vals [V.ref a, y] [Value.ref a, u] from .cons rfl (.cons ry .nil)) hs) (hsl _ _)
end
end L2
set_option Elab.async false
set_option linter.all false
set_option maxRecDepth 100000
set_option maxHeartbeats 4000000
/-! == and != by an own __eq__ that gives True or False. -/
namespace PySem.W
open PySem PySem.Calls PyProof.Rows Builtin
section
variable {prog : Program} {w : World} {A : Around} {E : Value → Shared → Prop} {s : Shared} {K : Frag} {x C L f : Addr} {h₀ : Heap} {m : Str → Option Value} {ox : Obj} {od : Option Obj} {b tb : Value}
theorem ifBoundB_K {M : Model} {name : Str} {id : String} {args : List Value} {Q : Option Value → Shared → Prop} (X : K.In s.heap) (I : InstAt s.heap x ox C od) (hs : findIn K (.ref C) name = some (some (.builtin id)))
    (hb : ∀ self, bindSpecial (.builtin id) self = pure (.builtin id, [self]))
    (h : wpAny M A (call (.builtin id) (.ref x :: args)) (fun v => Q (some v)) E s) : wpAny M A (callSpecialIfBound? (.ref x) name args) Q E s := by
  simp only [callSpecialIfBound?, bindSpecialIfBound?]
  refine wpAny_holding (wpAny_bind (wpAny_bind (wpAny_bind (I.type.here ((looks_findIn X hs).here ?_)))))
  simp only [hb]
  refine wpAny_bind (wpAny_askSetting (wpAny_ite ?_))
  have fin : wpAny M A (call (.builtin id) ([.ref x] ++ args) >>= fun v => pure (some v)) Q E s := wpAny_bind (wpAny_mono h (fun v s' h' => wpAny_pure h') fun _ _ h' => h')
  split
  · exact wpAny_bind (wpAny_pure (wpAny_pure (by exact fin)))
  · exact wpAny_tryCatch (wpAny_bind (wpAny_pure (wpAny_pure (by exact fin))))
theorem neO_K {Q : Value → Shared → Prop} (hu : A.in1.units < cLine) (X : K.In s.heap) (I : InstAt s.heap x ox C od) (hm : mroIn K C (.type "object") = some true) (hs : findIn K (.ref C) "__eq__" = some (some (.ref f))) (hf : isFn K (.ref f) = true)
    (h : wpAny (model prog w) A.in1 (call (.ref f) [.ref x, b]) (fun v s' => ∃ r, v = .bool r ∧ Q (.bool (!r)) s') E s) : wpAny (model prog w) A (call (.builtin "object.__ne__") [.ref x, b]) Q E s := by
  refine wpAny_call (codeAny_call_builtin F.cmp_object.ne.plain F.cmpEntry_ne (check_slot (i := "object.__ne__") (owner := "object") (n := "__ne__") F.cmpKind_ne F.cmpSplit_ne (I.type.andThen (looks_mroIn X hm)) (F.cmpArgs_ne _ _) ?_))
  unfold Builtin.«object.__ne__»
  refine wpAny_bind (m := slotArgs "__ne__" 1 _) (wpAny_pure ?_)
  refine wpAny_bind (m := cRoomFor _ _) (wpAny_cRoomFor hu ?_)
  refine wpAny_bind (m := callSpecialIfBound? (.ref x) (Str.ofString "__eq__") _) (ifBound_K X I hs hf (wpAny_mono h (fun r s' hq => ?_) fun _ _ y => y))
  obtain ⟨r, rfl, hq⟩ := hq
  exact wpAny_bind (wpAny_truthy_bool (wpAny_pure hq))
theorem neq_K {Q : Value → Shared → Prop} (hu : A.in1.units < cLine) (hu0 : A.units < cLine) (F : Fr h₀ L s.heap m) (X₀ : K.In h₀) (I : InstAt s.heap x ox C od) (hb : Looks (model prog w) s.heap (typeOf b) tb) (hn : notFirst K C tb = true)
    (hne : findIn K (.ref C) "__ne__" = some (some (.builtin "object.__ne__"))) (hm : mroIn K C (.type "object") = some true) (hs : findIn K (.ref C) "__eq__" = some (some (.ref f))) (hf : isFn K (.ref f) = true)
    (h : wpAny (model prog w) A.in1 (call (.ref f) [.ref x, b]) (fun v s' => ∃ r, v = .bool r ∧ Q (.bool (!r)) s') E s) : wpAny (model prog w) A (richCompare .NotEq (.ref x) b) Q E s := by
  have X := X₀.keeps F.keep
  have one : wpAny (model prog w) A (tryCompare (.ref x) (cmpInfo .NotEq).2.1 b) (fun r s' => ∃ v, r = some v ∧ Q v s') E s := by
    unfold tryCompare
    refine wpAny_bind (ifBoundB_K X I (by exact hne) PySem.F.cmp_object.ne.bind ?_)
    refine wpAny_mono (neO_K (Q := fun v s' => ∃ r, v = .bool r ∧ Q (.bool r) s') hu X I hm hs hf (wpAny_mono h (fun v s' hv => ?_) fun _ _ e => e)) (fun v s' hv => ?_) fun _ _ e => e
    · obtain ⟨r, rfl, hq⟩ := hv
      exact ⟨r, rfl, !r, rfl, hq⟩
    · obtain ⟨r, rfl, hq⟩ := hv
      exact wpAny_pure ⟨_, rfl, hq⟩
  unfold richCompare
  simp only [oneThing_ref]
  refine wpAny_holding (wpAny_bind (wpAny_cRoomFor hu0 ?_))
  refine wpAny_bind (I.type.here (wpAny_bind (hb.here ?_)))
  split
  · rename_i q
    have e : subIn K tb (.ref C) = some false := by
      rcases Bool.or_eq_true_iff.mp hn with e | e
      · rw [beq_iff_eq.mp e] at q; simp at q
      · exact beq_iff_eq.mp e
    refine wpAny_bind ((looks_subIn X e).here ?_)
    simp only [Bool.false_eq_true, if_false]
    refine wpAny_bind (wpAny_mono one (fun r s' z => ?_) fun _ _ e => e)
    obtain ⟨v, rfl, hq⟩ := z
    exact wpAny_pure hq
  · refine wpAny_bind (wpAny_pure ?_)
    simp only [Bool.false_eq_true, if_false]
    refine wpAny_bind (wpAny_mono one (fun r s' z => ?_) fun _ _ e => e)
    obtain ⟨v, rfl, hq⟩ := z
    exact wpAny_pure hq
end
end PySem.W
namespace L2
open PySem PySem.Spec PyProof.Rows
section
variable {X : Cx} {n : Nat} {CX : CXT} {C f : Addr} {fd : FuncData} {ps : List Str} {sp : Sp} {E : XK}
def rEqOwn (K : PySem.W.Frag) (C : Addr) (sp : Sp) (E : XK) (g : Bool → Bool) : R2 := fun x y H Q => ∃ a dx fs tb, x = .ref a ∧ H a = some (.ins C dx fs) ∧ TyX K H y tb ∧ PySem.W.notFirst K C tb = true ∧ sp [.ref a, y] H (fun v H' => ∃ b, v = .bl b ∧ Q (.bl (g b)) H') E
theorem op_eqOwn (F : FnOk X.prog X.w X.K X.mg X.base CX n f fd ps sp) (hb : Binds X.K fd ps []) (hx : Passes CX X E) (o : Own X.K C "__eq__" f) (hr : Room n X.A) : OpR X (compareOp .Eq) (rEqOwn X.K C sp E id) := by
  intro pins s σ H x y v u Q I rx ry h
  obtain ⟨a, dx, fs, tb, rfl, ha, ty, hn, hs⟩ := h
  cases rx
  obtain ⟨od, J⟩ := inst_at I ha
  obtain ⟨m, hF⟩ := I.fr
  obtain ⟨P, Z, p, _⟩ := kit_of I ry ty
  refine PySem.W.cmp_K (op := .Eq) hr.units0 hF I.ok.mod.kin J (Z.ty _ _ I.kIn p) hn o.find o.fn (thn (run_own (Sub.here hr) F hb hx I (show Vals [V.ref a, y] [Value.ref a, u] from .cons rfl (.cons ry .nil)) hs) fun v s' q => ?_)
  obtain ⟨y, H', I', ry, b, rfl, q⟩ := q
  cases ry
  exact ⟨.bl b, H', I', rfl, q⟩
theorem op_neOwn (F : FnOk X.prog X.w X.K X.mg X.base CX n f fd ps sp) (hb : Binds X.K fd ps []) (hx : Passes CX X E) (o : Own X.K C "__eq__" f) (hne : PySem.W.findIn X.K (.ref C) "__ne__" = some (some (.builtin "object.__ne__")))
    (hm : PySem.W.mroIn X.K C (.type "object") = some true) (hr : Room (n + 1) X.A) : OpR X (compareOp .NotEq) (rEqOwn X.K C sp E not) := by
  intro pins s σ H x y v u Q I rx ry h
  obtain ⟨a, dx, fs, tb, rfl, ha, ty, hn, hs⟩ := h
  cases rx
  obtain ⟨od, J⟩ := inst_at I ha
  obtain ⟨m, hF⟩ := I.fr
  obtain ⟨P, Z, p, _⟩ := kit_of I ry ty
  refine PySem.W.neq_K hr.in1.units0 hr.units0 hF I.ok.mod.kin J (Z.ty _ _ I.kIn p) hn hne hm o.find o.fn (thn (run_own (Sub.here hr).in1 F hb hx I (show Vals [V.ref a, y] [Value.ref a, u] from .cons rfl (.cons ry .nil)) hs) fun v s' q => ?_)
  obtain ⟨y, H', I', ry, b, rfl, q⟩ := q
  cases ry
  exact ⟨b, rfl, .bl (!b), H', I', rfl, q⟩
end
end L2
set_option Elab.async false
set_option linter.all false
set_option maxRecDepth 100000
set_option maxHeartbeats 4000000
/-! for x in o, by an own __iter__ that gives iter(a tuple). -/
namespace L2
open PySem PySem.Spec PyProof.Rows ItX
abbrev itTObj (l : Addr) : Obj := { cls := .type "tuple_iterator", data := .fields #[.ref l, .int 0 0] }
/-- at it a fresh iterator of the tuple at l -/
def ItT (l it : Addr) : HO := .ext fun h => h.get? it = some (itTObj l)
theorem itT_ok {P : Program} {w : World} {H : Hp} {h : Heap} {l it : Addr} (e : h.get? it = some (itTObj l)) : ObjOk P w H h it (ItT l it) := ⟨e, ⟨_, e⟩, fun h1 h2 q k => k _ q⟩
theorem call_iterTup {prog : Program} {w : World} {A : Around} {E : Value → Shared → Prop} {s : Shared} {l : Addr} {items : Array Value} {Q : Value → Shared → Prop} (hl : s.heap.IsTuple l items) (h : Q (.ref s.heap.objs.size) { s with heap := s.heap.push (itTObj l) }) : wpAny (model prog w) A (call (.builtin "iter") [.ref l]) Q E s := by
  refine Calls.call_function_entry (by decide +kernel) (by decide +kernel) PySem.W.kdk_entry_iter (PySem.W.kdk_args_iter _) ?_
  unfold Builtin.«iter»
  refine wpAny_bind (m := someArgs "iter" 1 2 _) (wpAny_of_eq (a := [Value.ref l]) (by first | rfl | kernel_rfl!) ?_)
  show wpAny _ _ (pyIter (.ref l) >>= _) _ _ _
  refine wpAny_bind (wpAny_pyIter_tuple hl ?_)
  exact wpAny_pure ⟨_, rfl, h⟩
section
variable {X : Cx}
theorem call_iterT : CallR X (.builtin "iter") (fun xs H Q => ∃ (l : Addr) (zs : List V), xs = [.ref l] ∧ SqT X.K H l zs ∧ ∀ it, H it = none → X.s_0.heap.objs.size ≤ it → Q (.ref it) (upd H it (ItT l it))) := by
  intro pins s σ H xs us Q I r h
  obtain ⟨l, zs, rfl, hq, q⟩ := h
  obtain rfl := Vals.ref1 r
  obtain ⟨its, rv, pl, hz⟩ := I.tuple hq
  refine call_iterTup (show s.heap.IsTuple l its.toArray from pl) ?_
  exact ⟨.ref s.heap.objs.size, _, I.laid (t' := s.toks) (fun b u e => Heap.get?_push_of_some _ e) (Nat.le_refl _) (itT_ok (Heap.get?_push_size _ rfl)), rfl, q _ (I.hok.fresh (Nat.le_refl _)) I.sz⟩
variable {n : Nat} {CX : CXT} {C f : Addr} {fd : FuncData} {ps : List Str} {sp : Sp} {E : XK}
/-- a def whose promise may speak of how many objects stand at its entry -/
structure FnN (P : Program) (w : World) (K : PySem.W.Frag) (mg : Str → Option Value) (base : Heap) (CX : CXT) (k : Nat) (f : Addr) (fd : FuncData) (ps : List Str) (sn : Nat → Sp) : Prop where
  many : ∀ m vs H Q E, sn m vs H Q E → vs.length = ps.length
  goes : ∀ (A : Around) (outer : List Env) (s : Shared) (H : Hp) (args : Args) (us : List Value) (vs : List V) (Q : VK) (E : XK), Room k A → Env0 P w K mg base A outer s H → BindsTo s fd args (ps.zip us) → Vals vs us →
    sn s.heap.objs.size vs H Q E → codeAny (model P w) A (.call (.ref f) args) (CR CX outer P w H s Q E) s
theorem fnN_mk {CX : CXT} {P : Program} {w : World} {K : PySem.W.Frag} {mg : Str → Option Value} {base : Heap} {k : Nat} {f : Addr} {x qual : Str} {st : Stmt} {fd : FuncData} {N ps : List Str} {sn : Nat → Sp}
    (F : Fun K x qual st f fd) (S : FnScope N ps (defScope st)) (many : ∀ m vs H Q E, sn m vs H Q E → vs.length = ps.length)
    (body : ∀ (cdv : Value) (A : Around) (outer : List Env) (s : Shared) (H : Hp) (vs : List V) (Q : VK) (E : XK), Room k (A.deeper (envOfC qual (defScope st) s.heap.objs.size f cdv)) → sn s.heap.objs.size vs H Q E →
      ∃ t, PSs (cxOf CX P w K mg base N qual (defScope st) f cdv A outer s H E) (defBody st) t ∧ t { nx := fun _ H' => Q .non H', rt := Q } (start N vs) H) : FnN P w K mg base CX (k + 1) f fd ps sn := by
  obtain ⟨oc, od, kV, doc, pm, an, cdv, ct, osl, rfl, lk, hcd⟩ := F.ex
  refine ⟨many, fun A₁ out s₁ H₁ ar us₁ vs₁ Q₁ E₁ room ev bd rel prom => ?_⟩
  have len₁ := many _ _ _ _ _ prom
  have kin₁ : K.In s₁.heap := ev.mod.kin.keeps (fun a o z => (ev.bs a o z).left)
  have kinds : ∀ y ∈ ps.zip us₁, (defScope st).names.lookup y.1 = some .local ∨ ((defScope st).names.lookup y.1 = some .cell ∧ ((cellsFrom (s₁.heap.objs.size + 1) (defScope st).names []).lookup y.1).isSome = true) := by
    rintro ⟨nm, vl⟩ mem
    rcases S.par nm (List.of_mem_zip mem).1 with z | z
    · exact Or.inl z
    · exact Or.inr ⟨z, PySem.W.cellsFrom_some _ _ _ (Or.inl z)⟩
  refine codeAny_call_function room.depth (kin₁ _ _ lk) rfl S.co S.gen rfl (PySem.W.codeRec_of kin₁ hcd) (bd _ _ _ _ ?_)
  refine wpAny_newFunctionEnv_cells S.kind kinds (fun e₁ is₁ s₂ made => ?_)
  subst is₁
  refine ⟨Heap.NoLimit.keeps (ev.mod.nolimit.keeps fun a o z => (ev.bs a o z).left) made.toInCall.keep, codeAny_func ?_⟩
  obtain ⟨t₁, term, reads⟩ := body cdv A₁ out s₁ H₁ vs₁ Q₁ E₁ (room.deeper _) prom
  have inv₁ := inv_start (CX := CX) (P := P) (w := w) (mg := mg) (base := base) (E := E₁) S room.hd ev len₁ rel made
  refine wpAny_mono (term.run [] s₂ (start N vs₁) H₁ _ inv₁ reads) (fun flow s₃ done => ?_) (fun _ _ z => z)
  cases flow with
  | ret u₁ =>
    obtain ⟨v₁, _, H₂, J, rv, q⟩ := done
    exact ⟨v₁, H₂, J.os, J.bare, J.base, J.hok, rv, q⟩
  | next =>
    obtain ⟨_, H₂, J, q⟩ := done
    exact ⟨V.non, H₂, J.os, J.bare, J.base, J.hok, rfl, q⟩
  | brk => exact (done.elim fun _ z => z.elim fun _ z => z.2).elim
  | cont => exact (done.elim fun _ z => z.elim fun _ z => z.2).elim
variable {sn : Nat → Sp}
theorem run_N {A : Around} {pins : List (Addr × Obj)} {σ : St} {H : Hp} {s : Shared} {Q : VK} {us : List Value} {vs : List V} (sb : Sub X n A) (F : FnN X.prog X.w X.K X.mg X.base CX n f fd ps sn) (hb : Binds X.K fd ps []) (hx : Passes CX X E)
    (I : Inv X pins σ H s) (r : Vals vs us) (h : sn s.heap.objs.size vs H Q E) : wpAny (model X.prog X.w) A (call (.ref f) us) (EP X pins σ Q) X.xe s := by
  have e0 : Env0 X.prog X.w X.K X.mg X.base A X.stack s H := by
    have e := I.env0
    exact ⟨by rw [sb.fr]; exact e.frames, e.mod, e.bs, e.bsz, e.funs, e.frf, e.hok, e.bare⟩
  have hl := F.many _ _ _ _ _ h
  have hl2 : us.length = ps.length := by rw [← r.length]; exact hl
  refine wpAny_call (codeAny_mono (F.goes A X.stack s H ⟨us, []⟩ us vs Q E sb.room e0 (by
    have := hb s us I.kIn (by simpa using hl2)
    simpa using this) r h) fun r s' hq => ?_)
  cases r with
  | error e => exact hx pins σ H s e s' I hq
  | ok fl =>
    cases fl with
    | ret w => exact I.after hq
    | next => exact False.elim hq
    | brk => exact False.elim hq
    | cont => exact False.elim hq
def iOwn (K : PySem.W.Frag) (C : Addr) (m : Nat) (sn : Nat → Sp) (E : XK) (tl : TE) : TI := fun σ H R => tl σ H fun x H1 => ∃ a dx fs, x = .ref a ∧ H1 a = some (.ins C dx fs) ∧
  ∀ k, m ≤ k → sn k [.ref a] H1 (fun v H' => ∃ it t, v = .ref it ∧ k ≤ it ∧ H' it = some (ItT t it) ∧ R (Itt K t) (dropH H' it)) E
theorem pi_own {tg l : Expr} {tl : TE} (F : FnN X.prog X.w X.K X.mg X.base CX n f fd ps sn) (hb : Binds X.K fd ps []) (hx : Passes CX X E) (o : Own X.K C "__iter__" f) (hr : Room n X.A) (hl : PE X l tl) : PI X tg l (iOwn X.K C X.s_0.heap.objs.size sn E tl) := by
  refine ⟨fun pins s σ H R I h => ?_⟩
  refine thn (hl.run pins s σ H _ I h) fun v s1 ⟨x, H1, I1, r1, q1⟩ => ?_
  obtain ⟨a, dx, fs, rfl, ha, hs⟩ := q1
  cases r1
  obtain ⟨od, J⟩ := inst_at I1 ha
  obtain ⟨m, hF⟩ := I1.fr
  refine PySem.W.owit_iter hF I1.ok.mod.kin J o.find o.fn (thn (run_N (Sub.here hr) F hb hx I1 (show Vals [V.ref a] [Value.ref a] from .cons rfl .nil) (hs s1.heap.objs.size I1.sz)) fun v s' q => ?_)
  obtain ⟨y, H', I', ry, ⟨it, t, rfl, hn, hi, q⟩⟩ := q
  cases ry
  have hy := Nat.le_trans I1.sz hn
  have hit : s'.heap.get? it = some (itTObj t) := (I'.hok it _ hi).1
  unfold PySem.W.OwitIt
  refine wpAny_specialOf (T := "tuple_iterator") (v := .ref it) ⟨_, hit, rfl⟩ PySem.F.slot_tuple_iterator_next.lookup ?_
  refine ⟨it, [it], _, _, dropH H' it, rfl, inv_drop I' hi, turn_tuple t _, ⟨_, hit, rfl, rfl⟩, fun b hb => ?_, q⟩
  have e : b = it := by simpa using hb
  subst e
  exact inv_fp I' hi hy
end
end L2
set_option Elab.async false
set_option linter.all false
set_option maxRecDepth 100000
set_option maxHeartbeats 4000000
/-! {**a, **b}: two dicts of ints and texts, one behind the other, into a new one. -/
namespace PySem
open PyProof.Rows
section
variable {prog : Program} {w : World} {A : Around} {E : Value → Shared → Prop} {s : Shared} {K : Type} [DecidableEq K] {knd : KeyKind prog w K}
theorem put_pairs {a : Addr} {old : List (K × Value)} {c : K} {u v : Value} {R : Unit → Shared → Prop} (isC : knd.is c u = true) (D : s.heap.DictOf knd a old)
    (next : ∀ hp, hp.DictOf knd a (stored old c v) → Heap.SameBut a s.heap hp → R () { s with heap := hp }) (few : old.length ≤ sizeLine) :
    wpAny (model prog w) A (dictPut a (knd.hash c) u v) R E s := by
  obtain ⟨ob, es, ep, at_, exact_, dat, keyed, prs, uniq⟩ := D
  have szs : es.size ≤ sizeLine := by
    have l1 := prs.length
    have l2 : es.toList.length = es.size := by simp
    omega
  unfold dictPut
  refine wpAny_bind (wpAny_dictFind_of isC at_ dat keyed ?_)
  have same : (es.findIdx? fun e => knd.is c e.key) = old.findIdx? fun kv => decide (kv.1 = c) := by
    have z := prs.findIdx c
    obtain ⟨lst⟩ := es
    simpa using z
  cases found : es.findIdx? fun e => knd.is c e.key with
  | some j =>
    have there : (old.any fun kv => decide (kv.1 = c)) = true := any_of_findIdx_some (same ▸ found)
    refine wpAny_updateDict at_ dat (next _ ⟨_, _, ep, Heap.get?_update_self _ at_ (Obj.isFreed_of_dict (Obj.data_mapDict dat _)), exact_.mapDict _, Obj.data_mapDict dat _, keyed.modify _ _, ?_, ?_⟩ (Heap.SameBut.update ..))
    · have inList : (es.toList.findIdx? fun e => knd.is c e.key) = some j := by
        rw [← found]
        obtain ⟨lst⟩ := es
        simp
      have z := prs.modify uniq inList v
      rw [stored, if_pos there]
      obtain ⟨lst⟩ := es
      simpa using z
    · rw [stored, if_pos there, keys_map_store]
      exact uniq
  | none =>
    have notIn : c ∉ old.map (·.1) := not_mem_of_findIdx_none (same ▸ found)
    have gone : ¬ (old.any fun kv => decide (kv.1 = c)) = true := fun z => by
      obtain ⟨kv, mem, eq⟩ := List.any_eq_true.mp z
      exact notIn (List.mem_map.mpr ⟨kv, mem, of_decide_eq_true eq⟩)
    refine wpAny_updateDictKeys (hz := szs) at_ dat (next _ ⟨_, _, ep + 1, Heap.get?_update_self _ at_ (Obj.isFreed_of_dict (Obj.data_mapDictKeys dat _)), exact_.mapDictKeys _, Obj.data_mapDictKeys dat _, keyed.push isC _, ?_, ?_⟩ (Heap.SameBut.update ..))
    · have z := prs.append isC (knd.hash c) v
      rw [stored, if_neg gone]
      obtain ⟨lst⟩ := es
      simpa using z
    · rw [stored, if_neg gone, List.map_append]
      refine List.nodup_append.mpr ⟨uniq, by simp, fun x hx y hy => ?_⟩
      have ey : y = c := by simpa using hy
      intro exy
      exact notIn (by rw [← ey, ← exy]; exact hx)
end
section
variable {prog : Program} {w : World} {A : Around} {E : Value → Shared → Prop} {s : Shared}
open L2
theorem dict_sub : isSubtype (.type "dict") (.type "dict") = pure true := by rw [isSubtype_type]; kernel_rfl
theorem mergeMapping_mix {d o : Addr} {kvs more : List (Key × Value)} {Q : Unit → Shared → Prop} (hdo : d ≠ o) (hoS : (o == sysModules) = false)
    (hd : s.heap.DictOf (mixKind prog w) d kvs) (ho : s.heap.DictOf (mixKind prog w) o more)
    (hQ : ∀ h', h'.DictOf (mixKind prog w) d (merged kvs more) → Heap.SameBut d s.heap h' → Q () { s with heap := h' }) (hsz : kvs.length + more.length ≤ sizeLine) :
    wpAny (model prog w) A (mergeMapping d (.ref o) false) Q E s := by
  obtain ⟨oo, eso, epo, hoo, hco, hdo', hko, hpo, hno⟩ := id ho
  obtain ⟨od, esd, epd, hod, hcd, hdd, _⟩ := id hd
  have hlen : more.length = eso.size := by
    have z := hpo.length
    simpa using z.symm
  have loop : wpAny (model prog w) A (do
      let l ← dictEntries o
      let epoch ← dictEpoch o
      forIn (List.range l.size) PUnit.unit fun i (_ : PUnit) => (do
        let l' ← dictEntries o
        match l'[i]? with
          | some e => do
            holding [e.key, e.val] (dictPut d e.hash e.key e.val)
            let ep' ← dictEpoch o
            if (ep' != epoch) = true then do
                (unsupported "dict.changed-during-merge" : Sem PUnit)
                pure (ForInStep.yield PUnit.unit)
              else pure (ForInStep.yield PUnit.unit)
          | _ => do
            (unsupported "dict.changed-during-merge" : Sem PUnit)
            pure (ForInStep.yield PUnit.unit) : Sem (ForInStep PUnit))
      pure ()) Q E s := by
    refine wpAny_bind (wpAny_dictEntries hoo hdo' ?_)
    refine wpAny_bind (wpAny_dictEpoch hoo hdo' ?_)
    refine wpAny_bind ?_
    refine wpAny_forIn_list _ (fun left _ t => ∃ hp j, t = { s with heap := hp } ∧ left = (List.range eso.size).drop j ∧ j ≤ eso.size ∧ hp.DictOf (mixKind prog w) d (merged kvs (more.take j)) ∧ hp.get? o = some oo ∧ Heap.SameBut d s.heap hp) _ ?_ ?_ _ _
      ⟨s.heap, 0, rfl, by simp, Nat.zero_le _, by simpa [merged] using hd, hoo, Heap.SameBut.refl _ _⟩
    · rintro y left b t ⟨hp, j, rfl, hr, hj, hdj, hoj, hsb⟩
      have hlt : j < eso.size := by
        rcases Nat.lt_or_ge j eso.size with z | z
        · exact z
        · rw [List.drop_of_length_le (by rw [List.length_range]; exact z)] at hr
          cases hr
      have hd1 : (List.range eso.size).drop j = j :: (List.range eso.size).drop (j + 1) := by
        rw [List.drop_eq_getElem_cons (by rw [List.length_range]; exact hlt), List.getElem_range]
      rw [hd1] at hr
      obtain ⟨rfl, hleft⟩ : y = j ∧ left = (List.range eso.size).drop (j + 1) := by
        injection hr with z1 z2
        exact ⟨z1, z2⟩
      refine wpAny_bind (wpAny_dictEntries hoj hdo' ?_)
      rw [Array.getElem?_eq_getElem hlt]
      have hym : y < more.length := by rw [hlen]; exact hlt
      obtain ⟨isK, isV⟩ := hpo.get? (e := eso[y]) (by simp [hlt]) (List.getElem?_eq_getElem hym)
      obtain ⟨c, isC, isH⟩ := hko eso[y] (Array.getElem_mem hlt)
      have ec : c = more[y].1 := (mixKind prog w).inj _ _ _ isC isK
      show wpAny _ _ (holding [eso[y].key, eso[y].val] (dictPut d eso[y].hash eso[y].key eso[y].val) >>= _) _ _ _
      rw [isH, isV]
      have few : (merged kvs (more.take y)).length ≤ sizeLine := by
        have z1 := merged_length_le kvs (more.take y)
        have z2 : (more.take y).length ≤ more.length := by rw [List.length_take]; omega
        omega
      refine wpAny_bind (wpAny_holding (put_pairs isC hdj (fun hp2 hd2 hs2 => ?_) few))
      have ho2 : hp2.get? o = some oo := (hs2.2 o (Ne.symm hdo)).trans hoj
      refine wpAny_bind (wpAny_dictEpoch ho2 hdo' ?_)
      rw [if_neg (by simp)]
      refine wpAny_pure ⟨hp2, y + 1, rfl, hleft, hlt, ?_, ho2, hsb.trans hs2⟩
      rw [merged_take_succ kvs more y more[y] (List.getElem?_eq_getElem hym), ← ec]
      exact hd2
    · rintro b t ⟨hp, j, rfl, hr, hj, hdj, hoj, hsb⟩
      have hje : j = eso.size := by
        rcases Nat.lt_or_ge j eso.size with z | z
        · have e := congrArg List.length hr
          rw [List.length_drop, List.length_range] at e
          simp at e
          omega
        · exact Nat.le_antisymm hj z
      refine wpAny_pure (hQ hp ?_ hsb)
      rw [hje, ← hlen, List.take_length] at hdj
      exact hdj
  unfold mergeMapping
  refine wpAny_bind (wpAny_isInstance (T := "dict") (b := true) ho.typeIs dict_sub ?_)
  simp only [if_true]
  refine wpAny_bind (wpAny_specialOf (T := "dict") (v := .ref o) ho.typeIs PySem.F.slot_dict_iter.lookup (wpAny_bind (wpAny_pure ?_)))
  rw [show (some (Value.builtin "dict.__iter__") == some (Value.builtin "dict.__iter__")) = true from beq_self_eq_true _]
  dsimp only
  rw [if_neg (by rw [hoS]; exact Bool.false_ne_true)]
  refine wpAny_bind (wpAny_dictEntries hod hdd ?_)
  split
  · refine wpAny_bind (wpAny_dictEntries hoo hdo' ?_)
    refine wpAny_bind ?_
    rw [← Array.forIn_toList]
    refine wpAny_forIn_list _ (fun (left : List DictEntry) _ t => t = s ∧ ∀ e ∈ left, ∃ c : Key, keyIs c e.key = true) _ ?_ ?_ _ _ ⟨rfl, fun e he => ?_⟩
    · rintro e left b t ⟨rfl, all⟩
      obtain ⟨c, hc⟩ := all e List.mem_cons_self
      have more' : ∀ e ∈ left, ∃ c : Key, keyIs c e.key = true := fun e he => all e (List.mem_cons_of_mem _ he)
      rcases keyIs_shape hc with ⟨i, u, _, ek⟩ | ⟨z, u, _, ek⟩
      · rw [ek]
        exact wpAny_pure ⟨rfl, more'⟩
      · rw [ek]
        exact wpAny_pure ⟨rfl, more'⟩
    · rintro b t ⟨rfl, _⟩
      exact loop
    · obtain ⟨c, hc, _⟩ := hko e (by simpa using he)
      exact ⟨c, hc⟩
  · exact loop
end
end PySem
set_option Elab.async false
set_option linter.all false
set_option maxRecDepth 100000
set_option maxHeartbeats 4000000
namespace L2
open PySem PySem.Spec PyProof.Rows
/-- {**a, **b}: a new dict stands empty at p, the first one's pairs come into it, then the second one's -/
def tMerge2 (t1 t2 : TE) : TE := fun σ H Q => ∀ p, H p = none → t1 σ (upd H p (.dK [])) fun x H1 => ∃ a kvs, x = .ref a ∧ a ≠ p ∧ H1 p = some (.dK []) ∧ Rd H1 a (.dK kvs) ∧ kvs.length ≤ 1000 ∧
  t2 σ (upd H1 p (.dK (mergeK [] kvs))) fun y H2 => ∃ b acc more, y = .ref b ∧ b ≠ p ∧ H2 p = some (.dK acc) ∧ acc.length ≤ 1000 ∧ Rd H2 b (.dK more) ∧ more.length ≤ 1000 ∧ Q (.ref p) (upd H2 p (.dK (mergeK acc more)))
section
variable {X : Cx}
theorem merge_in {pins : List (Addr × Obj)} {σ : St} {H : Hp} {s : Shared} {p a : Addr} {acc kvs : List (Key × V)} {R : Unit → Shared → Prop} {E : Value → Shared → Prop} {A : Around} (I : Inv X pins σ H s) (ne : a ≠ p) (hp : H p = some (.dK acc)) (ha : Rd H a (.dK kvs))
    (l1 : acc.length ≤ 1000) (l2 : kvs.length ≤ 1000) (k : ∀ s', Inv X pins σ (upd H p (.dK (mergeK acc kvs))) s' → R () s') : wpAny (model X.prog X.w) A (mergeMapping p (.ref a) false) R E s := by
  obtain ⟨z, hd, vs, r, dd⟩ := dk_of I.hok hp
  obtain ⟨z2, hd2, ws, r2, dd2⟩ := dk_rd I.hok ha
  have e1 : vs.length = acc.length := (Paired.length r).symm
  have e2 : ws.length = kvs.length := (Paired.length r2).symm
  refine mergeMapping_mix (Ne.symm ne) hd2 dd dd2 (fun h' dd' sb => k _ ?_) (by rw [sizeLine_eq]; omega)
  have hz : (mergeK acc kvs).length ≤ sizeLine := by
    have h1 := length_mergeK kvs acc
    rw [sizeLine_eq]; omega
  have he : ∃ q, h'.get? p = some q := let ⟨q, _, _, hq, _⟩ := dd'; ⟨q, hq⟩
  exact d_write I (by rw [hp]; exact True.intro) sb he (dk_new hz hd (r2.merge r) dd')
theorem pe_merge2 {e1 e2 : Expr} {t1 t2 : TE} {pos : Pos} (h1 : PE X e1 t1) (h2 : PE X e2 t2) : PE X (.Dict [none, none] [e1, e2] pos) (tMerge2 t1 t2) := by
  refine ⟨fun pins s σ H Q I q => ?_⟩
  have hn := I.hok.fresh (Nat.le_refl s.heap.objs.size)
  have I1 := I.laid (a := s.heap.objs.size) (o := .dK []) (h' := s.heap.push { cls := .type "dict", data := .dict #[] }) (t' := s.toks) (fun _ _ q => Heap.get?_push_of_some _ q) (Nat.le_refl _) (dk_empty s.heap I.big)
  rw [arm_eval_Dict]
  refine wpAny_bind (wpAny_standAt ?_)
  show wpAny _ _ (dictDisplay [(none, do let x ← eval e1 X.env; standAt pos; pure x), (none, do let x ← eval e2 X.env; standAt pos; pure x)]) _ _ _
  unfold dictDisplay
  simp only [List.forIn_cons, List.forIn_nil, List.isEmpty_nil, if_true]
  refine wpAny_bind (wpAny_bind (wpAny_bind (wpAny_pure ?_)))
  dsimp only
  refine wpAny_bind (wpAny_alloc ?_)
  refine wpAny_bind (wpAny_holding (wpAny_bind (thn (h1.run pins _ σ _ _ I1 (q _ hn)) fun u s1 ⟨x, H1, I2, r1, a, kvs, ex, ne, e0, ra, l1, q1⟩ => ?_)))
  subst ex
  cases r1
  refine wpAny_bind (wpAny_standAt (wpAny_pure ?_))
  refine wpAny_bind (wpAny_onRaise (wpAny_tryCatch (wpAny_onRaise (wpAny_holding (merge_in I2 ne e0 ra (by simp) l1 fun s2 I3 => ?_)))))
  refine wpAny_pure ?_
  dsimp only
  simp only [List.isEmpty_nil, if_true]
  refine wpAny_bind (wpAny_bind (wpAny_pure ?_))
  dsimp only
  refine wpAny_bind (wpAny_pure ?_)
  refine wpAny_bind (wpAny_holding (wpAny_bind (thn (h2.run pins _ σ _ _ I3 q1) fun u s3 ⟨y, H2, I4, r2, b, acc, more, ey, ne2, e1', l2, rb, l3, q2⟩ => ?_)))
  subst ey
  cases r2
  refine wpAny_bind (wpAny_standAt (wpAny_pure ?_))
  refine wpAny_bind (wpAny_onRaise (wpAny_tryCatch (wpAny_onRaise (wpAny_holding (merge_in I4 ne2 e1' rb l2 l3 fun s4 I5 => ?_)))))
  refine wpAny_pure ?_
  dsimp only
  refine wpAny_pure ?_
  simp only [List.isEmpty_nil, if_true]
  refine wpAny_bind (wpAny_pure ?_)
  dsimp only
  exact wpAny_pure ⟨.ref _, _, I5, rfl, q2⟩
end
end L2
set_option Elab.async false
set_option linter.all false
set_option maxRecDepth 100000
set_option maxHeartbeats 4000000
namespace L2
open PySem PySem.Spec PyProof.Rows
/-- a def of the text, by its name, without defaults -/
structure Df (P : Program) (w : World) (K : PySem.W.Frag) (mg : Str → Option Value) (base : Heap) (k : Nat) (x : Str) (sp : Sp) : Prop where
  ex : ∃ (f : Addr) (fd : FuncData) (ps : List Str), FnOk P w K mg base CX0 k f fd ps sp ∧ mg x = some (.ref f) ∧ PySem.W.keepIn K (.ref f) = true ∧ Binds K fd ps []
/-- a method of the text's own, by its address -/
structure Mf (P : Program) (w : World) (K : PySem.W.Frag) (mg : Str → Option Value) (base : Heap) (k : Nat) (C : Addr) (m : Str) (sp : Sp) : Prop where
  ex : ∃ (f : Addr) (fd : FuncData) (ps : List Str), FnOk P w K mg base CX0 k f fd ps sp ∧ Meth K C m f ∧ Own K C m f ∧ PySem.W.fnIn K f = true ∧ Binds K fd ps []
section
variable {X : Cx} {k j : Nat} {C : Addr} {x m : Str} {sp : Sp} {p pos apos : Pos} {e o : Expr} {es : List Expr} {ta tb : TE} {t : TA}
theorem pe_c (c : Df X.prog X.w X.K X.mg X.base k x sp) (hr : Room j X.A) (hk : k ≤ j) (hg : Gl X x) (ha : PA X (e :: es) t)
    (hdb : (x == ("__debug__" : Str)) = false := by decide) (he : starEach (e :: es) X.env = (false, eval e X.env) :: starEach es X.env := by rfl) (hpl : (backTo pos (starEach es X.env)).any (·.1) = false := by rfl) :
    PE X (.Call (.Name x p) (e :: es) [] pos) (tCall sp [] E0 t) := by
  obtain ⟨f, fd, ps, F, hm, kp, b⟩ := c.ex
  exact pe_call F (hr.mono hk) hg hm kp b .nil pass0 ha hdb he hpl
theorem pe_ixO {a b : Expr} (c : Mf X.prog X.w X.K X.mg X.base k C "__getitem__" sp) (hr : Room j X.A) (hk : k + 1 ≤ j) (hA : PE X a ta) (hB : PE X b tb)
    (hsl : ∀ v u, subscripted b true v u = runValue (.builtin "lifetime.subscript" ⟨[v, u], []⟩) := by intro _ _; rfl) :
    PE X (.Subscript a b pos) (tOp (fun x y H Q => ∃ a dx fs, x = .ref a ∧ H a = some (.ins C dx fs) ∧ sp [.ref a, y] H Q E0) ta tb) := by
  obtain ⟨f, fd, ps, F, _, o, fi, b⟩ := c.ex
  exact pe_ixOwn F b pass0 o fi (hr.mono hk) hA hB hsl
theorem op_eqO (c : Mf X.prog X.w X.K X.mg X.base k C "__eq__" sp) (hr : Room j X.A) (hk : k ≤ j) : OpR X (compareOp .Eq) (rEqOwn X.K C sp E0 id) := by
  obtain ⟨f, fd, ps, F, _, o, _, b⟩ := c.ex
  exact op_eqOwn F b pass0 o (hr.mono hk)
theorem op_neO (c : Mf X.prog X.w X.K X.mg X.base k C "__eq__" sp) (hne : PySem.W.findIn X.K (.ref C) "__ne__" = some (some (.builtin "object.__ne__"))) (hm : PySem.W.mroIn X.K C (.type "object") = some true) (hr : Room j X.A) (hk : k + 1 ≤ j) :
    OpR X (compareOp .NotEq) (rEqOwn X.K C sp E0 not) := by
  obtain ⟨f, fd, ps, F, _, o, _, b⟩ := c.ex
  exact op_neOwn F b pass0 o hne hm (hr.mono hk)
end
end L2
set_option Elab.async false
set_option linter.all false
set_option maxRecDepth 100000
set_option maxHeartbeats 4000000
/-! The rules whose readings name X.K, with K said: for what stands in a comprehension's block. -/
namespace L2
open PySem PySem.Spec PyProof.Rows
section
variable {X : Cx} {K : PySem.W.Frag} {o e a b : Expr} {es : List Expr} {to ta tb : TE} {t : TA} {name f : Str} {apos cpos pos : Pos} {T id : String} {r : V → List V → Hp → VK → Prop}
theorem pe_bm0K (hK : X.K = K) (pa : PlainAttrs T) (slot : Slot T name id) (hty : typeOf (.builtin id) = pure (.type "method_descriptor")) (hm : MtR X id r) (ho : PE X o to) (hbase : attributeBase o name X.env (eval o X.env) = eval o X.env := by rfl) (hline : (apos.endLine == cpos.line) = true := by rfl) : PE X (.Call (.Attribute o name apos) [] [] cpos) (tBM0 K T r to) := by
  subst hK
  exact pe_bm0 pa slot hty hm ho hbase hline
theorem pe_bmK (hK : X.K = K) (pa : PlainAttrs T) (slot : Slot T name id) (hty : typeOf (.builtin id) = pure (.type "method_descriptor")) (hm : MtR X id r) (ho : PE X o to) (ha : PA X (e :: es) t) (hbase : attributeBase o name X.env (eval o X.env) = eval o X.env := by rfl) (hfew : ((backTo cpos (starEach (e :: es) X.env)).all (fun x => !x.1) && (backToKw cpos (keywordEach [] X.env)).all (fun x => x.1.isSome) && decide ((e :: es).length + ([] : List Keyword).length + (if ([] : List Keyword).isEmpty then 0 else 1) < 30)) = true := by rfl) (hline : (apos.endLine == cpos.line) = true := by rfl) (hs : starEach (e :: es) X.env = (false, eval e X.env) :: starEach es X.env := by rfl) (hplain : (backTo cpos (starEach es X.env)).any (·.1) = false := by rfl) :
    PE X (.Call (.Attribute o name apos) (e :: es) [] cpos) (tBM K T r to t) := by
  subst hK
  exact pe_bm pa slot hty hm ho ha hbase hfew hline hs hplain
theorem pe_fldK (hK : X.K = K) (he : PE X e ta) (hb : attributeBase e f X.env (eval e X.env) = eval e X.env) : PE X (.Attribute e f pos) (tFld K ta f) := by
  subst hK
  exact pe_fld he hb
def rLenSeq (K : PySem.W.Frag) : List V → Hp → VK → Prop := fun xs H Q => ∃ p ys, xs = [.ref p] ∧ (SqL K H p ys ∨ SqT K H p ys) ∧ Q (.int ys.length) H
theorem call_len_seqK (hK : X.K = K) : CallR X (.builtin "len") (rLenSeq K) := by
  subst hK
  exact call_len_seq
theorem ix_listK (hK : X.K = K) : IxR X (rIxL K) := by
  subst hK
  exact ix_list
theorem ix_tupK (hK : X.K = K) : IxR X (rIxT K) := by
  subst hK
  exact ix_tup
theorem sl_listK (hK : X.K = K) : SlR X (rSlL K) := by
  subst hK
  exact sl_list
theorem op_neDK (hK : X.K = K) (hu : X.A.units + 64 < cLine) : OpR X (compareOp .NotEq) (rNeD K) := by
  subst hK
  exact op_neD hu
theorem op_eqDK (hK : X.K = K) (hu : X.A.units + 64 < cLine) : OpR X (compareOp .Eq) (rEqD K) := by
  subst hK
  exact op_eqD hu
def rListOf (K : PySem.W.Frag) : List V → Hp → VK → Prop := fun xs H Q => ∃ p ys, xs = [.ref p] ∧ (SqL K H p ys ∨ SqT K H p ys) ∧ ∀ l, H l = none → Q (.ref l) (upd H l (.lst ys))
theorem call_list_ofK (hK : X.K = K) : CallR X (.type "list") (rListOf K) := by
  subst hK
  exact call_list_of
def rJoin (K : PySem.W.Frag) : V → List V → Hp → VK → Prop := fun x xs H Q => ∃ a p, ∃ ys : List Str, x = .str a ∧ xs = [.ref p] ∧ (SqL K H p (ys.map V.str) ∨ SqT K H p (ys.map V.str)) ∧ (ys.map (·.length)).sum + ys.length * a.length ≤ 16777216 ∧ Q (.str (Txt.join a ys)) H
theorem pe_joinK (hK : X.K = K) (ho : PE X o to) (he : PE X e ta) (hs : starEach [e] X.env = [(false, eval e X.env)] := by rfl) (hbase : attributeBase o "join" X.env (eval o X.env) = eval o X.env := by rfl) (hline : (apos.endLine == pos.line) = true := by rfl) : PE X (.Call (.Attribute o "join" apos) [e] [] pos) (tM1 (rJoin K) to ta) := by
  subst hK
  exact pe_join ho he hs hbase hline
theorem call_strS : CallR X (.type "str") (fun xs H Q => ∃ a, xs = [.str a] ∧ Q (.str a) H) := SkE.call_str_str
def rTupleOf (K : PySem.W.Frag) : List V → Hp → VK → Prop := fun xs H Q => ∃ p ys, xs = [.ref p] ∧ ((SqL K H p ys ∧ ∀ l, H l = none → Q (.ref l) (upd H l (.tup ys))) ∨ (SqT K H p ys ∧ Q (.ref p) H))
theorem call_tuple_ofK (hK : X.K = K) : CallR X (.type "tuple") (rTupleOf K) := by
  subst hK
  exact call_tuple_of
end
end L2
set_option Elab.async false
set_option linter.all false
set_option maxRecDepth 100000
set_option maxHeartbeats 4000000
namespace L2
open PySem PySem.Spec PyProof.Rows
/-- a name of the module holds a value -/
def GV (mg : Str → Option Value) (x : Str) (v : V) : Prop := ∃ u, mg x = some u ∧ RelV v u
theorem pe_gv {X : Cx} {x : Str} {v : V} {pos : Pos} (h : GV X.mg x v) (hg : Gl X x) (hd : (x == ("__debug__" : Str)) = false := by decide) : PE X (.Name x pos) (tC v) := by
  obtain ⟨u, h1, h2⟩ := h
  exact pe_glob hg h1 h2 hd
theorem pj_nil {X : Cx} : PJ X [] [] := .nil
theorem pj_cons {X : Cx} {e : Expr} {t : TE} {es : List Expr} {ts : List TE} (h : PE X e t) (r : PJ X es ts) : PJ X (e :: es) (t :: ts) := .cons h r
/-- a dict comprehension over what a Walk tells -/
theorem dc_it {J : It} {m : Nat} {G : Hp → Prop} {Y : Nat → Hp → V → Hp → Prop} (w : Walk J m G Y) {g : TG} {tt : TT} {tk tv : TE} {own : List Nat} {σ : St} {H1 : Hp} {D : Addr} {Qd : Hp → Prop} (Pv : Nat → Hp → Prop) (start : Pv 0 (upd H1 D (.dK []))) (keeps : ∀ i H, i ≤ m → Pv i H → G H)
    (turn : ∀ i x H H', i < m → Pv i H → Y i H x H' → g x (wipe σ own) H' fun σ2 H2 => wipe σ2 own = wipe σ own ∧ tt σ2 H2 fun b H3 =>
      if b = true then tk σ2 H3 fun y H4 => tv σ2 H4 fun z H5 => ∃ kvs k, y = kV k ∧ H5 D = some (.dK kvs) ∧ kvs.length < sizeLine ∧ Pv (i + 1) (upd H5 D (.dK (putK kvs k z))) else Pv (i + 1) H3) (done : ∀ H, Pv m H → Qd H) :
    ∃ W : Nat → Nat → Hp → Prop, (∃ j, W 0 j (upd H1 D (.dK []))) ∧ ∀ i j H, W i j H →
      (J.stop i H ∧ Qd H) ∨ (J.go i H ∧ ∃ Nx : Hp → Prop, (∀ H', Nx H' → ∃ j', j' < j ∧ W (i + 1) j' H') ∧ ∀ x H', J.yld i H x H' → g x (wipe σ own) H' fun σ2 H2 => wipe σ2 own = wipe σ own ∧ tt σ2 H2 fun b H3 =>
        if b = true then tk σ2 H3 fun y H4 => tv σ2 H4 fun z H5 => ∃ kvs k, y = kV k ∧ H5 D = some (.dK kvs) ∧ kvs.length < sizeLine ∧ Nx (upd H5 D (.dK (putK kvs k z))) else Nx H3) := by
  refine ⟨fun i j H => j = m - i ∧ i ≤ m ∧ Pv i H, ⟨m, by simp, Nat.zero_le _, start⟩, ?_⟩
  rintro i j H ⟨rfl, hi, pv⟩
  have kp := keeps i H hi pv
  rcases Nat.lt_or_ge i m with less | more
  · exact .inr ⟨w.goes i H less kp, Pv (i + 1), fun H' p' => ⟨m - (i + 1), by omega, rfl, less, p'⟩, fun x H' y => turn i x H H' less pv (w.yields i H x H' less kp y)⟩
  · obtain rfl : i = m := Nat.le_antisymm hi more
    exact .inl ⟨w.stops H kp, done H pv⟩
section
variable {X : Cx}
/-- y = {k: v for ..}: the name is stored within the comprehension's frame -/
theorem ps_setDc {j : Nat} {y : Str} {yp : Pos} {kx vx tg iter : Expr} {ifs : List Expr} {scope : Scope} {own : List (Str × Nat)} {cp sp : Pos} {wi : TI} {g : TG} {tt : TT} {tk tv : TE} (calm : X.calm = true) (nodup : X.N.Nodup) (atJ : X.N[j]? = some y) (isLoc : X.env.scope.names.lookup y = some .local)
    (swaps : swapsWith (.DictComp kx vx [⟨tg, iter, ifs, 0⟩] scope cp) (some (.Name y yp)) sp.line X.env = pure true) (walks : PI X tg iter wi) (blk : BlkOk X.N X.env.scope scope own)
    (target : ∀ (s : Shared) (H : Hp) (C : Addr) (cl : List (Str × Addr)) (fp : List Addr), PG (X.blk s H scope (compEnvC scope cl C X.env) fp) tg g) (tests : ∀ (s : Shared) (H : Hp) (C : Addr) (cl : List (Str × Addr)) (fp : List Addr), PTs (X.blk s H scope (compEnvC scope cl C X.env) fp) ifs tt)
    (keys : ∀ (s : Shared) (H : Hp) (C : Addr) (cl : List (Str × Addr)) (fp : List Addr), PE (X.blk s H scope (compEnvC scope cl C X.env) fp) kx tk)
    (vals : ∀ (s : Shared) (H : Hp) (C : Addr) (cl : List (Str × Addr)) (fp : List Addr), PE (X.blk s H scope (compEnvC scope cl C X.env) fp) vx tv) (plain : ∀ x, foldedSetIterable iter X.env x = pure x := by intro _; rfl) :
    PS X (.Assign [.Name y yp] (.DictComp kx vx [⟨tg, iter, ifs, 0⟩] scope cp) sp) (tAsg (tDc wi g tt tk tv (own.map (·.2))) (gName j)) := by
  refine ⟨fun pins s σ H D I want => ?_⟩
  rw [exec_Assign_Name_used _ _ _ _ swaps]
  refine wpAny_bind (wpAny_standAt (wpAny_bind ?_))
  show wpAny _ X.A (do let _ ← comprehension (.DictComp kx vx [⟨tg, iter, ifs, 0⟩] scope cp) scope X.env (firstIterPos [⟨tg, iter, ifs, 0⟩] cp) newDict false (eval iter X.env) (some (assign (.Name y yp) X.env))) _ _ s
  have want' : tDc wi g tt tk tv (own.map (·.2)) σ H (fun x H1 => gName j x σ H1 D.nx) := want
  refine wpAny_bind (thn (dc_core (Qf := fun _ s' => SP X pins D .next s') calm nodup I walks blk target tests keys vals plain want' fun made frame s' m H' J q hn young => ?_) fun _ s' z => wpAny_pure (wpAny_pure z))
  show wpAny _ _ (assign (.Name y yp) X.env (.ref made)) _ _ _
  refine wpAny_assign_Name (store_ok2 (v := V.ref made) J nodup atJ (.inl isLoc) rfl (fun s2 J2 ⟨a, but, isA⟩ => ?_) (.inr isLoc))
  obtain ⟨y0, y1, y2, y3, y4, y5⟩ := young
  have apart : frame ≠ a := by
    rcases isA with z | z
    · rw [z]
      exact y1
    · intro e
      exact y4 y a z e.symm
  refine ⟨m, hn.sameBut but apart, fun h3 but3 => ?_⟩
  exact ⟨_, H', J2.turned (t' := s2.toks) (fun b o hb e => (but3.2 b hb).trans e) y0 y1 y3 y4 y5, q⟩
theorem sw_trueD {kx vx : Expr} {gs : List Comprehension} {scope : Scope} {pos py : Pos} {y : Str} {l : Nat} {env : Env} (isFun : env.scope.kind = .function) (isLoc : env.scope.names.lookup y = some .local) (line : (py.line == pos.line) = true)
    (apart : (scope.names.any fun (n, k) => n == y && (k == .local || k == .cell)) = false) : swapsWith (.DictComp kx vx gs scope pos) (some (.Name y py)) l env = pure true := by
  have k1 : env.kindOf y = some .local := isLoc
  have k2 : env.blockKind = .function := by
    unfold Env.blockKind
    rw [isFun]
    rfl
  unfold swapsWith
  simp only [k2, k1, apart, Expr.pos, line]
  rfl
end
/-- not x, by truth, K said -/
theorem pe_notTK {X : Cx} {K : PySem.W.Frag} {a : Expr} {ta : TE} {pos : Pos} (hK : X.K = K) (ha : PE X a ta) : PE X (.UnaryOp .Not a pos) (tNotT K ta) := by
  subst hK
  exact pe_notT ha
end L2
set_option Elab.async false
set_option linter.all false
set_option maxRecDepth 100000
set_option maxHeartbeats 4000000
/-! Dicts of texts compared both ways; a staticmethod called by the class's name. -/
namespace L2
open PySem PySem.Spec PyProof.Rows
/-- f'..' of two parts or more, by a name -/
def tJo (ts : List TE) : TE := fun σ H Q => tJs ts Str.empty σ H fun out H1 => Q (.str out) H1
theorem pe_joinedT {X : Cx} {v1 v2 : Expr} {rest : List Expr} {ts : List TE} {pos : Pos} (h : PJ X (v1 :: v2 :: rest) ts) : PE X (.JoinedStr (v1 :: v2 :: rest) pos) (tJo ts) := pe_joined h
end L2
set_option Elab.async false
set_option linter.all false
set_option maxRecDepth 100000
set_option maxHeartbeats 4000000
/-! An own error's `__init__` that calls the base error's by the base's name, where the base has none of its own. -/
namespace L2
open PySem PySem.Spec PyProof.Rows
end L2
set_option Elab.async false
set_option linter.all false
set_option maxRecDepth 100000
set_option maxHeartbeats 4000000
/-! a | b, a >> b .. by an own method, both of the same class; a <= b by an own one (its answer a bool). -/
namespace L2
open PySem PySem.Spec PyProof.Rows
section
variable {X : Cx} {n : Nat} {CX : CXT} {C f : Addr} {fd : FuncData} {ps : List Str} {sp : Sp} {E : XK}
theorem notNI {v : V} {u : Value} (r : RelV v u) {Q : Value → Shared → Prop} {s : Shared} (q : Q u s) : PySem.W.CmpBack Q u s := by
  cases v <;> first
    | (obtain ⟨t, rfl⟩ := r; exact q)
    | (cases r; exact q)
def rBinOwn (K : PySem.W.Frag) (C : Addr) (sp : Sp) (E : XK) : R2 := fun x y H Q => ∃ a dx fs b dy gs, x = .ref a ∧ H a = some (.ins C dx fs) ∧ y = .ref b ∧ H b = some (.ins C dy gs) ∧ sp [.ref a, y] H Q E
theorem op_binOwn {op : Operator} (F : FnOk X.prog X.w X.K X.mg X.base CX n f fd ps sp) (hb : Binds X.K fd ps []) (hx : Passes CX X E) (hs : PySem.W.findIn X.K (.ref C) (PySem.dunder op.info.2) = some (some (.ref f))) (hf : PySem.W.isFn X.K (.ref f) = true) (hc : PySem.W.selfFirst X.K C = true) (hr : Room n X.A) :
    OpR X (binaryOp op) (rBinOwn X.K C sp E) := by
  intro pins s σ H x y v u Q I rx ry h
  obtain ⟨a, dx, fs, b, dy, gs, rfl, ha, rfl, hbb, hsp⟩ := h
  cases rx
  cases ry
  obtain ⟨od, J⟩ := inst_at I ha
  obtain ⟨od2, J2⟩ := inst_at I hbb
  obtain ⟨m, hF⟩ := I.fr
  refine PySem.W.binop_K hF I.ok.mod.kin J J2.type hc hs hf (thn (run_own (Sub.here hr) F hb hx I (show Vals [V.ref a, V.ref b] [Value.ref a, Value.ref b] from .cons rfl (.cons rfl .nil)) hsp) fun r s' q => ?_)
  obtain ⟨z, H', I', rz, q⟩ := q
  exact notNI rz ⟨z, H', I', rz, q⟩
end
end L2
set_option Elab.async false
set_option linter.all false
set_option maxRecDepth 100000
set_option maxHeartbeats 4000000
/-! enumerate(text). -/
namespace L2
open PySem PySem.Spec PyProof.Rows
/-- the signs of a text, each in a new pair behind its number -/
def ItSe (z : Str) : It :=
  ⟨fun i _ => i < z.cps.size, fun i H v H' => ∃ T c, v = .ref T ∧ H T = none ∧ H' = upd H T (.tup [.int (i : Nat), .str ⟨#[c]⟩]) ∧ z.cps[i]? = some c, fun i _ => i = z.cps.size⟩
theorem turn_enumS {P : Program} {w : World} {K : PySem.W.Frag} {elts : List Expr} {kk : Nat} {tpos : Pos} (z : Str) (t : Tok) (e it : Addr) :
    Turn P w K (.Tuple elts kk tpos) (ItSe z) [e, it] e (fun i h => (∃ old, IsEnum h e it ((i : Nat) : Int) old) ∧ h.IsStrIter it (strIterType z) z t i ∧ e ≠ it) where
  mem := by simp
  obj := fun i h st b hb => by
    obtain ⟨⟨old, he⟩, ⟨o, ho, hc, hd⟩, _⟩ := st
    have e' : b = e ∨ b = it := by simpa using hb
    rcases e' with z | z
    · rw [z]; exact ⟨_, he, fun v q => nomatch q⟩
    · rw [z]; exact ⟨o, ho, fun v q => by rw [hd] at q; cases q⟩
  keep := fun i h h' st k => by
    obtain ⟨⟨old, he⟩, ⟨o, ho, r⟩, hne⟩ := st
    exact ⟨⟨old, k e (by simp) _ he⟩, ⟨o, k it (by simp) o ho, r⟩, hne⟩
  item := by
    intro X hP hw hK hc i pins s σ H E I hf st hg
    subst hP hw hK
    obtain ⟨⟨old, he⟩, hit, hne⟩ := st
    have hel : e < s.heap.objs.size := Heap.lt_size he
    have hil : it < s.heap.objs.size := by obtain ⟨_, q, _⟩ := hit; exact Heap.lt_size q
    refine wpAny_pyNext_enum_itemD (Draws.text (A := X.A.in1) (I.ok.hd hc) it z t) he hit hg hne (by simpa using hne) fun x h' tk hx ho hit' hT hsz hk => ?_
    obtain ⟨c, u, hcx, rfl⟩ := hx
    refine ⟨_, rfl, wpAny_letOwnedTupleGo_enum (s := { s with heap := h', toks := tk + 1 }) ho fun h'' he' sb => ?_⟩
    have hT2 : h''.get? s.heap.objs.size = some { cls := .type "tuple", data := .seq #[.int i tk, .str ⟨#[c]⟩ u] } := (sb.2 _ (Nat.ne_of_gt hel)).trans hT
    have new : ObjOk X.prog X.w (upd H s.heap.objs.size (.tup [.int (i : Nat), .str ⟨#[c]⟩])) h'' s.heap.objs.size (.tup [.int (i : Nat), .str ⟨#[c]⟩]) :=
      ⟨by show 2 ≤ sizeLine; decide, [.int i tk, .str ⟨#[c]⟩ u], .cons ⟨_, rfl⟩ (.cons ⟨_, rfl⟩ .nil), ⟨_, hT2, rfl, _, rfl⟩⟩
    have I1 : Inv X pins σ (upd H s.heap.objs.size (.tup [.int (i : Nat), .str ⟨#[c]⟩])) { s with heap := h'', toks := tk + 1 } :=
      I.turnedNew (ch := [e, it]) (fun b ob hb q => (sb.2 b (fun z => hb (by simp [z]))).trans (hk b ob (fun z => hb (by simp [z])) (fun z => hb (by simp [z])) q)) hf (Nat.le_refl _) new
    refine ⟨.ref s.heap.objs.size, _, I1, rfl, ⟨_, c, rfl, I.hok.fresh (Nat.le_refl _), rfl, hcx⟩, ⟨⟨.str ⟨#[c]⟩ u, ?_⟩, ?_, hne⟩, fun b hb => ?_⟩
    · have e1 : ((i + 1 : Nat) : Int) = (i : Int) + 1 := by omega
      rw [e1]; exact he'
    · obtain ⟨o, q, r⟩ := hit'
      exact ⟨o, (sb.2 it (Ne.symm hne)).trans q, r⟩
    · have hb' : b < s.heap.objs.size := by
        have e' : b = e ∨ b = it := by simpa using hb
        rcases e' with z | z
        · rw [z]; exact hel
        · rw [z]; exact hil
      rw [upd_ne (Nat.ne_of_lt hb')]
      exact (hf b hb).1
  done := by
    intro X hP hw hK hc i pins s σ H E I hf st hg
    subst hP hw hK
    obtain ⟨⟨old, he⟩, hit, hne⟩ := st
    have hi : i = z.cps.size := hg
    obtain ⟨f0, f1, f2, f3, f4, f5⟩ := hf it (by simp)
    subst hi
    exact wpAny_pyNext_enum_endD (Draws.text (A := X.A.in1) (I.ok.hd hc) it z t) he hit fun h' eb => ⟨rfl, I.turned (t' := s.toks) (fun b o hb q => eb b o hb q) f0 f1 f3 f4 f5⟩
  self := fun A i s Q E st h => let ⟨⟨_, he⟩, _⟩ := st; wpAny_pyIter_enum he h
def iEnumS (ta : TA) : TI := fun σ H R => ta σ H fun vs H1 => ∃ z, vs = [.str z] ∧ R (ItSe z) H1
theorem pi_enumS {X : Cx} {e : Expr} {ta : TA} {p pos tpos : Pos} {elts : List Expr} {kk : Nat} (hg : Gl X "enumerate") (hm : X.mg "enumerate" = none) (ha : PA X [e] ta) (hs : starEach [e] X.env = [(false, eval e X.env)] := by rfl) :
    PI X (.Tuple elts kk tpos) (.Call (.Name "enumerate" p) [e] [] pos) (iEnumS ta) := by
  refine ⟨fun pins s σ H R I h => ?_⟩
  refine Call_ (ld_blt I hg hm boot_enumerate (PyProof.Rows.callWith_type1 (thn (ha.run pos pins s σ H _ I h) fun us s1 ⟨vs, H1, I1, r1, q1⟩ => ?_) hs rfl))
  obtain ⟨z, ex, q⟩ := q1
  subst ex
  cases r1 with
  | cons r rr =>
    cases rr
    obtain ⟨t, rfl⟩ := r
    refine call_enumerate_str fun h' he hit hsz hk => wpAny_pyIter_enum he ?_
    have I2 : Inv X pins σ H1 { s1 with heap := h' } := I1.kept (t' := s1.toks) hk
    refine ⟨s1.heap.objs.size + 1, [s1.heap.objs.size + 1, s1.heap.objs.size], _, _, H1, rfl, I2, turn_enumS z t (s1.heap.objs.size + 1) s1.heap.objs.size, ⟨⟨.none, he⟩, hit, Nat.succ_ne_self _⟩, fun b hb => ?_, q⟩
    have e' : b = s1.heap.objs.size + 1 ∨ b = s1.heap.objs.size := by simpa using hb
    have hle : s1.heap.objs.size ≤ b := by
      rcases e' with z | z
      · rw [z]; exact Nat.le_add_right _ _
      · rw [z]; exact Nat.le_refl _
    exact I1.fpOk hle (I1.hok.fresh hle)
theorem walk_enumS {z : Str} : Walk (ItSe z) z.cps.size (fun _ => True) (fun i H v H' => ∃ T c, v = .ref T ∧ H T = none ∧ H' = upd H T (.tup [.int (i : Nat), .str ⟨#[c]⟩]) ∧ z.cps[i]? = some c) :=
  ⟨fun _ _ hi _ => hi, fun _ _ => rfl, fun _ _ _ _ _ _ y => y⟩
end L2
set_option Elab.async false
set_option linter.all false
set_option maxRecDepth 100000
set_option maxHeartbeats 4000000
/-! Signs of an own class by its own methods, by an address; a ** k. -/
namespace L2
open PySem PySem.Spec PyProof.Rows
/-- an own method that a sign of two calls -/
structure Bo (P : Program) (w : World) (K : PySem.W.Frag) (mg : Str → Option Value) (base : Heap) (k : Nat) (C : Addr) (m : Str) (sp : Sp) : Prop where
  ex : ∃ (f : Addr) (fd : FuncData) (ps : List Str), FnOk P w K mg base CX0 k f fd ps sp ∧ Binds K fd ps [] ∧ PySem.W.findIn K (.ref C) m = some (some (.ref f)) ∧ PySem.W.isFn K (.ref f) = true ∧ PySem.W.selfFirst K C = true
/-- what the sign of the power asks of int -/
structure IntP (K : PySem.W.Frag) (C : Addr) : Prop where
  rp : PySem.W.findIn K (.ref C) "__rpow__" = some none
  h1 : ∃ fo, PySem.W.findIn K (.type "int") "__pow__" = some fo
  h2 : ∃ ro, PySem.W.findIn K (.type "int") "__rpow__" = some ro
  sub : PySem.W.subIn K (.type "int") (.ref C) = some false
section
variable {X : Cx} {k j : Nat} {C : Addr} {sp : Sp}
theorem op_bin {op : Operator} {m : Str} (c : Bo X.prog X.w X.K X.mg X.base k C m sp) (hr : Room j X.A) (hk : k ≤ j) (hm : PySem.dunder op.info.2 = m := by rfl) : OpR X (binaryOp op) (rBinOwn X.K C sp E0) := by
  obtain ⟨f, fd, ps, F, b, h1, h2, h3⟩ := c.ex
  subst hm
  exact op_binOwn F b pass0 h1 h2 h3 (hr.mono hk)
theorem pe_mt {pl : Sem Bool} {m : Str} {o e : Expr} {es : List Expr} {apos pos : Pos} {ta : TE} {t : TA} (c : Cls X.K C) (D : Mf X.prog X.w X.K X.mg X.base k C m sp) (hr : Room j X.A) (hk : k ≤ j) (he : PE X o ta) (ha : PA X (e :: es) t)
    (hst : starEach (e :: es) X.env = (false, eval e X.env) :: starEach es X.env := by rfl) (hpl : (backTo pos (starEach es X.env)).any (·.1) = false := by rfl)
    (ht : eval (.Call (.Attribute o m apos) (e :: es) [] pos) X.env = (do
      let ov ← eval o X.env
      standAt apos.atName
      let (f, first) ← holding [ov] (getMethod ov m pl)
      callWith pos f first (backTo pos (starEach (e :: es) X.env)) (backToKw pos (keywordEach [] X.env))) := by rfl) :
    PE X (.Call (.Attribute o m apos) (e :: es) [] pos) (tMeth C m sp [] E0 ta t) := by
  obtain ⟨f, fd, ps, F, hm, _, _, b⟩ := D.ex
  exact pe_meth (pl := pl) he c hm F (hr.mono hk) b .nil pass0 ha hst hpl ht
end
end L2
set_option Elab.async false
set_option linter.all false
set_option maxRecDepth 100000
set_option maxHeartbeats 4000000
/-! try: .. except E as n: k = n, where k is read later: the caught exception becomes a thing of the abstract heap. -/
namespace L2
open PySem PySem.Spec PyProof.Rows
end L2
set_option Elab.async false
set_option linter.all false
set_option maxRecDepth 100000
set_option maxHeartbeats 4000000
/-! A kept exception: isinstance, its fields. -/
namespace L2
open PySem PySem.Spec PyProof.Rows
end L2
set_option Elab.async false
set_option linter.all false
set_option maxRecDepth 100000
set_option maxHeartbeats 4000000
/-! A classmethod called by the class's name, with keywords. -/
namespace L2
open PySem PySem.Spec PyProof.Rows ClX
end L2
set_option Elab.async false
set_option linter.all false
set_option maxRecDepth 100000
set_option maxHeartbeats 4000000
/-! Lambdas as values: made, kept in lists, called later by a def that gets them. -/
namespace LamX
open PySem PySem.Spec PyProof.Rows L2
/-- the object at f is known -/
def FnO (f : Addr) (o : Obj) : HO := .ext fun h => h.get? f = some o
/-- the object that a lambda of X makes -/
abbrev lamObj (X : Cx) (params : Arguments) (body : Expr) (scope : Scope) (pm ctv : Value) (c' : Addr) : Obj :=
  PySem.W.kla_obj "<lambda>" (X.env.qual ++ "<lambda>") params body scope (cloFrom X.env.cells scope.names []) pm c' ctv
/-- at f stands a lambda of X -/
def LamO (X : Cx) (H : Hp) (f : Addr) (params : Arguments) (body : Expr) (scope : Scope) : Prop :=
  ∃ (c' : Addr) (pm ctv : Value), H f = some (FnO f (lamObj X params body scope pm ctv c')) ∧ H c' = some (CodeO c' (X.env.qual ++ "<lambda>"))
theorem fnO_ne {f : Addr} {o : Obj} (ps : Array Value) : FnO f o ≠ .tbl ps := fun z => by
  unfold FnO at z
  cases z
theorem LamO.ext {X : Cx} {H H' : Hp} {f : Addr} {params : Arguments} {body : Expr} {scope : Scope} (l : LamO X H f params body scope) (e : ExtN H H') : LamO X H' f params body scope := by
  obtain ⟨c', pm, ctv, h1, h2⟩ := l
  exact ⟨c', pm, ctv, e _ _ h1 fnO_ne, e _ _ h2 codeO_ne⟩
end LamX
set_option Elab.async false
set_option linter.all false
set_option maxRecDepth 100000
set_option maxHeartbeats 4000000
/-! A def that calls what it got, where what it got is a lambda kept before. -/
set_option Elab.async false
set_option linter.all false
set_option maxRecDepth 100000
set_option maxHeartbeats 4000000
/-! zip(text, text). -/
namespace L2
open PySem PySem.Spec PyProof.Rows
end L2
set_option Elab.async false
set_option linter.all false
set_option maxRecDepth 100000
set_option maxHeartbeats 4000000
/-! text * k. -/
namespace L2
open PySem PySem.Spec PyProof.Rows
end L2
set_option Elab.async false
set_option linter.all false
set_option maxRecDepth 100000
set_option maxHeartbeats 4000000
/-! Equal dicts, whose values are data of any depth; iter(a dict) and loops by it. -/
namespace L2
open PySem PySem.Spec PyProof.Rows ItX
end L2
set_option Elab.async false
set_option linter.all false
set_option maxRecDepth 100000
set_option maxHeartbeats 4000000
/-! enumerate(a tuple). -/
namespace PySem
end PySem
namespace L2
open PySem PySem.Spec PyProof.Rows
end L2
set_option Elab.async false
set_option linter.all false
set_option maxRecDepth 100000
set_option maxHeartbeats 4000000
/-! repr of a text or an integer. -/
namespace L2
open PySem PySem.Spec PyProof.Rows
theorem call_reprV {X : Cx} : CallR X (.builtin "repr") (fun xs H Q => (∃ z, xs = [.str z] ∧ (reprText z).length ≤ sizeLine ∧ Q (.str (reprText z)) H) ∨ ∃ i, xs = [.int i] ∧ i.natAbs.log2 < 1920 ∧ Q (.str (toString i)) H) := by
  intro pins s σ H xs us Q I r h
  rcases h with ⟨z, rfl, hz, q⟩ | ⟨i, rfl, hz, q⟩
  · obtain ⟨u, rfl, t, rfl⟩ := vals1 r
    exact PySem.P.repr_of_str ⟨.str _, H, I.tok _, ⟨_, rfl⟩, q⟩ hz
  · exact SkE.call_repr_int pins s σ H _ us Q I r ⟨i, rfl, hz, q⟩
end L2
set_option Elab.async false
set_option linter.all false
set_option maxRecDepth 100000
set_option maxHeartbeats 4000000
/-! Signs of an own class: with a value of any other kind on the right; x >= y, where y's own <= answers; x |= y, where there is no __ior__. -/
namespace PySem.W
open PySem PySem.Spec PySem.Calls PyProof.Rows
end PySem.W
set_option Elab.async false
set_option linter.all false
set_option maxRecDepth 100000
set_option maxHeartbeats 4000000
/-! x op= y of one own class, which has no method for it in place. -/
namespace PySem.W
open PySem PySem.Spec PySem.Calls PyProof.Rows
end PySem.W
set_option Elab.async false
set_option linter.all false
set_option maxRecDepth 100000
set_option maxHeartbeats 4000000
/-! The rules for these signs. -/
namespace L2
open PySem PySem.Spec PyProof.Rows
end L2
set_option Elab.async false
set_option linter.all false
set_option maxRecDepth 100000
set_option maxHeartbeats 4000000
/-! repr of a bool. -/
namespace L2
open PySem PySem.Spec PyProof.Rows
theorem call_reprB {X : Cx} : CallR X (.builtin "repr") (fun xs H Q => ∃ b, xs = [.bl b] ∧ Q (.str (if b = true then "True" else "False")) H) := by
  intro pins s σ H xs us Q I r h
  obtain ⟨b, rfl, q⟩ := h
  match us, r with
  | [u], .cons r1 .nil =>
    obtain rfl : u = Value.bool b := r1
    refine PySem.P.repr_of_bool ?_
    exact ⟨.str _, H, I.tok _, ⟨_, by cases b <;> rfl⟩, q⟩
end L2
set_option Elab.async false
set_option linter.all false
set_option maxRecDepth 100000
set_option maxHeartbeats 4000000
/-! Where no repr is under way: what defs promise there; repr of lists and tuples. -/
namespace L2
open PySem PySem.Spec PyProof.Rows
mutual
/-- x is laid in H as the datum d -/
inductive PyV (H : Hp) : V → PyData → Prop
  | non : PyV H .non .none
  | bl (b : Bool) : PyV H (.bl b) (.bool b)
  | int (i : Int) : PyV H (.int i) (.int i)
  | str (z : Str) : PyV H (.str z) (.str z)
  | tup {a : Addr} {xs : List V} {ds : List PyData} : H a = some (.tup xs) → PyVs H xs ds → PyV H (.ref a) (.tuple ds)
  | lst {a : Addr} {xs : List V} {ds : List PyData} : H a = some (.lst xs) → PyVs H xs ds → PyV H (.ref a) (.list ds)
inductive PyVs (H : Hp) : List V → List PyData → Prop
  | nil : PyVs H [] []
  | cons {x : V} {d : PyData} {xs : List V} {ds : List PyData} : PyV H x d → PyVs H xs ds → PyVs H (x :: xs) (d :: ds)
end
mutual
theorem PyV.same {H H2 : Hp} (s : ∀ b o, H b = some o → H2 b = some o) : ∀ {x : V} {d : PyData}, PyV H x d → PyV H2 x d
  | _, _, .non => .non
  | _, _, .bl b => .bl b
  | _, _, .int i => .int i
  | _, _, .str z => .str z
  | _, _, .tup h r => .tup (s _ _ h) (PyVs.same s r)
  | _, _, .lst h r => .lst (s _ _ h) (PyVs.same s r)
theorem PyVs.same {H H2 : Hp} (s : ∀ b o, H b = some o → H2 b = some o) : ∀ {xs : List V} {ds : List PyData}, PyVs H xs ds → PyVs H2 xs ds
  | _, _, .nil => .nil
  | _, _, .cons h r => .cons (PyV.same s h) (PyVs.same s r)
end
mutual
theorem PyV.keep {H H2 : Hp} (s : ∀ b o, H b = some o → ((∃ xs, o = .tup xs) ∨ ∃ xs, o = .lst xs) → H2 b = some o) : ∀ {x : V} {d : PyData}, PyV H x d → PyV H2 x d
  | _, _, .non => .non
  | _, _, .bl b => .bl b
  | _, _, .int i => .int i
  | _, _, .str z => .str z
  | _, _, .tup h r => .tup (s _ _ h (.inl ⟨_, rfl⟩)) (PyVs.keep s r)
  | _, _, .lst h r => .lst (s _ _ h (.inr ⟨_, rfl⟩)) (PyVs.keep s r)
theorem PyVs.keep {H H2 : Hp} (s : ∀ b o, H b = some o → ((∃ xs, o = .tup xs) ∨ ∃ xs, o = .lst xs) → H2 b = some o) : ∀ {xs : List V} {ds : List PyData}, PyVs H xs ds → PyVs H2 xs ds
  | _, _, .nil => .nil
  | _, _, .cons h r => .cons (PyV.keep s h) (PyVs.keep s r)
end
theorem PyV.but {H H2 : Hp} {a : Addr} {x : V} {d : PyData} {f : Heap → Prop} (p : PyV H x d) (s : ∀ b o, H b = some o → b ≠ a → H2 b = some o) (ha : H a = some (.ext f)) : PyV H2 x d :=
  p.keep fun b o e k => s b o e fun z => by
    rw [z, ha] at e
    cases e
    rcases k with ⟨xs, k⟩ | ⟨xs, k⟩ <;> cases k
mutual
theorem PyV.noDict {H : Hp} : ∀ {x : V} {d : PyData}, PyV H x d → d.hasDict = false
  | _, _, .non => by simp only [PyData.hasDict]
  | _, _, .bl b => by simp only [PyData.hasDict]
  | _, _, .int i => by simp only [PyData.hasDict]
  | _, _, .str z => by simp only [PyData.hasDict]
  | _, _, .tup h r => by simp only [PyData.hasDict]; exact PyVs.noDict r
  | _, _, .lst h r => by simp only [PyData.hasDict]; exact PyVs.noDict r
theorem PyVs.noDict {H : Hp} : ∀ {xs : List V} {ds : List PyData}, PyVs H xs ds → PyData.hasDictAll ds = false
  | _, _, .nil => by simp only [PyData.hasDictAll]
  | _, _, .cons h r => by simp only [PyData.hasDictAll, PyV.noDict h, PyVs.noDict r, Bool.or_false]
end
mutual
theorem PyV.reads {P : Program} {w : World} {H : Hp} {h : Heap} (ok : HOk P w H h) : ∀ {x : V} {d : PyData} {u : Value}, PyV H x d → RelV x u → ∃ as, Reads h u d as
  | _, _, u, .non, r => by
    obtain rfl : u = Value.none := r
    exact ⟨_, .none⟩
  | _, _, u, .bl b, r => by
    obtain rfl : u = Value.bool b := r
    exact ⟨_, .bool b⟩
  | _, _, u, .int i, r => by
    obtain ⟨t, rfl⟩ : ∃ t, u = Value.int i t := r
    exact ⟨_, .int i t⟩
  | _, _, u, .str z, r => by
    obtain ⟨t, rfl⟩ : ∃ t, u = Value.str z t := r
    exact ⟨_, .str z t⟩
  | _, _, u, .tup (a := a) h1 h2, r => by
    obtain rfl : u = Value.ref a := r
    obtain ⟨_, its, rel, o, e1, e2, n, e3⟩ := ok a _ h1
    obtain ⟨as, q⟩ := PyVs.reads ok h2 rel
    exact ⟨_, .tuple e1 e2 e3 q⟩
  | _, _, u, .lst (a := a) h1 h2, r => by
    obtain rfl : u = Value.ref a := r
    obtain ⟨_, its, n, rel, e1⟩ := ok a _ h1
    obtain ⟨as, q⟩ := PyVs.reads ok h2 rel
    exact ⟨_, .list e1 rfl rfl q⟩
theorem PyVs.reads {P : Program} {w : World} {H : Hp} {h : Heap} (ok : HOk P w H h) : ∀ {xs : List V} {ds : List PyData} {us : List Value}, PyVs H xs ds → Vals xs us → ∃ as, ReadsAll h us ds as
  | _, _, _, .nil, r => by
    cases r
    exact ⟨_, .nil⟩
  | _, _, _, .cons h1 h2, r => by
    cases r with
    | cons r1 r2 =>
      obtain ⟨a1, q1⟩ := PyV.reads ok h1 r1
      obtain ⟨a2, q2⟩ := PyVs.reads ok h2 r2
      exact ⟨_, .cons q1 q2⟩
end
/-- a datum that can be told: its text is not too long -/
structure Tells (d : PyData) : Prop where
  sh : d.showable = true
  dp : d.depth ≤ 4
  sz : d.shown.length ≤ 8000000
theorem Tells.size {d : PyData} (t : Tells d) : d.shown.length ≤ sizeLine := by
  have := t.sz
  rw [sizeLine_eq]
  omega
theorem shown_str (z : Str) : (PyData.str z).shown = reprText z := by simp only [PyData.shown]
theorem shown_none : PyData.none.shown = "None" := by simp only [PyData.shown]
section
variable {X : Cx} {j : Nat}
/-- repr(x) -/
theorem call_reprG (quiet : X.A.guards = some []) (room : Room j X.A) : CallR X (.builtin "repr") (fun xs H Q => ∃ x d, xs = [x] ∧ PyV H x d ∧ Tells d ∧ Q (.str d.shown) H) := by
  intro pins s σ H xs us Q I rel h
  obtain ⟨x, d, rfl, p, t, q⟩ := h
  match us, rel with
  | [u], .cons r .nil =>
    have out : ∀ (h2 : Heap) (k tk : Nat), (∀ b o, s.heap.get? b = some o → h2.get? b = some o) → EP X pins σ Q (.str d.shown k) { s with heap := h2, toks := tk } := fun h2 k tk kp => ⟨.str d.shown, H, I.kept kp, ⟨k, rfl⟩, q⟩
    have dp := t.dp
    have ru := room.units
    have un : X.A.units + (d.depth + 1) < cLine := by omega
    obtain ⟨as, rd⟩ := p.reads I.hok r
    cases p with
    | non =>
      obtain rfl : u = Value.none := r
      rw [shown_none] at out
      exact PySem.P.repr_of_none (out _ _ _ fun _ _ e => e)
    | bl b =>
      exact call_reprB pins s σ H _ _ Q I (.cons r .nil) ⟨b, rfl, by
        have e : (PyData.bool b).shown = if b = true then "True" else "False" := by cases b <;> simp [PyData.shown]
        rw [e] at q
        cases b <;> exact q⟩
    | int i =>
      have e : (PyData.int i).shown = toString i := by simp only [PyData.shown]
      have hz : i.natAbs.log2 < 1920 := by simpa [PyData.showable] using t.sh
      rw [e] at q
      exact call_reprV pins s σ H _ _ Q I (.cons r .nil) (.inr ⟨i, rfl, hz, q⟩)
    | str z =>
      have sz := t.size
      rw [shown_str] at q sz
      exact call_reprV pins s σ H _ _ Q I (.cons r .nil) (.inl ⟨z, rfl, sz, q⟩)
    | tup h1 h2 =>
      obtain rfl := r
      exact repr_of_reads' rd t.sh (PyData.noDict_hsm (PyV.noDict (.tup h1 h2))) quiet un (fun _ _ e => e) out t.size
    | lst h1 h2 =>
      obtain rfl := r
      exact repr_of_reads' rd t.sh (PyData.noDict_hsm (PyV.noDict (.lst h1 h2))) quiet un (fun _ _ e => e) out t.size
end
end L2
set_option Elab.async false
set_option linter.all false
set_option maxRecDepth 100000
set_option maxHeartbeats 4000000
/-! Where no repr is under way: calls of defs, own errors made, lambdas called. -/
namespace L2
open PySem PySem.Spec PyProof.Rows
/-- no repr is under way -/
abbrev Quiet (A : Around) : Prop := A.guards = some []
/-- what a def promises where no repr is under way -/
structure FnG (P : Program) (w : World) (K : PySem.W.Frag) (mg : Str → Option Value) (base : Heap) (C : CXT) (k : Nat) (f : Addr) (fd : FuncData) (ps : List Str) (sp : Sp) : Prop where
  count : ∀ (xs : List V) (H : Hp) (Q : VK) (E : XK), sp xs H Q E → xs.length = ps.length
  runs : ∀ (A : Around) (outer : List Env) (s : Shared) (H : Hp) (args : Args) (us : List Value) (xs : List V) (Q : VK) (E : XK), Quiet A → Room k A → Env0 P w K mg base A outer s H → BindsTo s fd args (ps.zip us) → Vals xs us → sp xs H Q E →
    codeAny (model P w) A (.call (.ref f) args) (CR C outer P w H s Q E) s
section
variable {P : Program} {w : World} {K : PySem.W.Frag} {mg : Str → Option Value} {base : Heap} {C : CXT} {k j : Nat} {f : Addr} {fd : FuncData} {ps : List Str} {sp : Sp}
theorem FnOk.quiet (F : FnOk P w K mg base C k f fd ps sp) : FnG P w K mg base C k f fd ps sp := ⟨fun xs H Q E h => F.len xs H Q E h, fun A outer s H args us xs Q E _ r e b v h => F.run A outer s H args us xs Q E r e b v h⟩
/-- a def by its body -/
theorem Fun.okG {x qual : Str} {st : Stmt} {N : List Str} (F : Fun K x qual st f fd) (S : FnScope N ps (defScope st)) (count : ∀ (xs : List V) (H : Hp) (Q : VK) (E : XK), sp xs H Q E → xs.length = ps.length)
    (body : ∀ (cdv : Value) (A : Around) (outer : List Env) (s : Shared) (H : Hp) (xs : List V) (Q : VK) (E : XK), Quiet A → Room k (A.deeper (envOfC qual (defScope st) s.heap.objs.size f cdv)) → sp xs H Q E →
      ∃ t, PSs (cxOf CX0 P w K mg base N qual (defScope st) f cdv A outer s H E).nox (defBody st) t ∧ t { nx := fun _ H2 => Q .non H2, rt := Q } (start N xs) H) : FnG P w K mg base CX0 (k + 1) f fd ps sp := by
  obtain ⟨oc, od, kV, doc, pm, an, cdv, ct, osl, e, look, ci⟩ := F.ex
  subst e
  refine ⟨count, fun A outer s H args us xs Q E g r e0 b v h => LamX.run_ofS look ci S r e0 b v (count _ _ _ _ h) fun r2 => ?_⟩
  obtain ⟨t, h1, h2⟩ := body cdv A outer s H xs Q E g r2 h
  exact ⟨t, h1.nox, h2⟩
end
section
variable {X : Cx} {C : CXT} {k j : Nat} {f : Addr} {fd : FuncData} {ps : List Str} {sp : Sp} {dvs : List V} {ds : List Value} {E : XK} {x : Str} {p pos pos2 : Pos} {e : Expr} {es : List Expr} {t ta : TA} {W : WX}
/-- the def runs -/
theorem runG {pins : List (Addr × Obj)} {σ : St} {H : Hp} {s : Shared} {Q : VK} {us : List Value} {xs : List V} (F : FnG X.prog X.w X.K X.mg X.base C k f fd ps sp) (g : Quiet X.A) (r : Room k X.A) (b : Binds X.K fd ps ds) (d : Vals dvs ds) (out : Passes C X E)
    (I : Inv X pins σ H s) (v : Vals xs us) (h : sp (xs ++ dvs) H Q E) : wpAny (model X.prog X.w) X.A (call (.ref f) us) (EP X pins σ Q) X.xe s := by
  have v2 := v.append d
  have n : (us ++ ds).length = ps.length := by
    rw [← v2.length]
    exact F.count _ _ _ _ h
  have ran := F.runs X.A X.stack s H ⟨us, []⟩ (us ++ ds) (xs ++ dvs) Q E g r I.env0 (b s us I.kIn n) v2 h
  refine wpAny_call (codeAny_mono ran fun a s2 z => ?_)
  match a, z with
  | .error er, z => exact out pins σ H s er s2 I z
  | .ok (.ret u), z => exact I.after z
  | .ok .next, z => exact z.elim
  | .ok .brk, z => exact z.elim
  | .ok .cont, z => exact z.elim
/-- a def of the text, by its name, where no repr is under way -/
structure DfG (P : Program) (w : World) (K : PySem.W.Frag) (mg : Str → Option Value) (base : Heap) (C : CXT) (k : Nat) (x : Str) (sp : Sp) : Prop where
  ex : ∃ (f : Addr) (fd : FuncData) (ps : List Str), FnG P w K mg base C k f fd ps sp ∧ mg x = some (.ref f) ∧ PySem.W.keepIn K (.ref f) = true ∧ Binds K fd ps []
theorem pe_cG (c : DfG X.prog X.w X.K X.mg X.base C k x sp) (g : Quiet X.A) (out : Passes C X E) (r : Room j X.A) (hk : k ≤ j) (hg : Gl X x) (ha : PA X (e :: es) t)
    (hdb : (x == ("__debug__" : Str)) = false := by decide) (he : starEach (e :: es) X.env = (false, eval e X.env) :: starEach es X.env := by rfl) (hpl : (backTo pos (starEach es X.env)).any (·.1) = false := by rfl) :
    PE X (.Call (.Name x p) (e :: es) [] pos) (tCall sp [] E t) := by
  obtain ⟨f, fd, ps, F, hm, kp, b⟩ := c.ex
  refine ⟨fun pins s σ H Q I h => ?_⟩
  refine wpAny_Call_Name_kw (ld_glob I hg hm ?_ hdb)
  refine PySem.W.callWith_K (h₀ := X.base) I.ok.mod.kin kp (thn (ha.run pos pins s σ H _ I h) fun us s1 z => ?_) he hpl
  obtain ⟨xs, H1, J, v, q⟩ := z
  exact ⟨J.kIn, runG F g (r.mono hk) b .nil out J v q⟩
end
end L2
set_option Elab.async false
set_option linter.all false
set_option maxRecDepth 100000
set_option maxHeartbeats 4000000
/-! raise X(..) from Y(..), where nothing is being handled. -/
namespace L2
open PySem PySem.Spec PyProof.Rows
end L2
set_option Elab.async false
set_option linter.all false
set_option maxRecDepth 100000
set_option maxHeartbeats 4000000
/-! raise X(..) from Y(..): the rule. -/
namespace L2
open PySem PySem.Spec PyProof.Rows
section
variable {X : Cx} {pins : List (Addr × Obj)} {σ : St} {H : Hp} {s : Shared}
/-- without an object that is not tracked, nor a frame's nor a cell -/
theorem Inv.less {a : Addr} {o : Obj} {G : Heap} (I : Inv X ((a, o) :: pins) σ H s) (new : X.s_0.heap.get? a = none) (c : ∀ v, o.data ≠ .cell v) (away : ∀ p ∈ X.pn ++ pins, p.1 ≠ a) (gk : ∀ b, b ≠ a → G.get? b = s.heap.get? b) : Inv X pins σ H { s with heap := G } := by
  obtain ⟨ea, na, la, fa, _⟩ := I.pin (a, o) (List.mem_append_right _ (List.mem_cons_self ..))
  have old : ∀ {b : Addr} {u : Obj}, X.s_0.heap.get? b = some u → b ≠ a := fun {b u} e z => by
    rw [z, new] at e
    cases e
  have look : ∀ {b : Addr} {v : Option Value}, s.heap.IsCell b v → G.IsCell b v := fun {b v} ⟨u, hu, hd⟩ => by
    refine ⟨u, ?_, hd⟩
    rw [gk b fun z => ?_]
    · exact hu
    · rw [z, ea] at hu
      cases hu
      exact c _ hd
  refine ⟨I.ok, I.os, I.bare, ?_, ?_, fun x b e => ?_, I.free, I.freeC, fun p hp => ?_, ?_, I.len⟩
  · refine { keep := fun b u e n h1 h2 => ?_, slot := fun b u e n h1 h2 => ?_, free := I.base.free, there := fun b u e h => ?_, tups := I.base.tups, frzs := I.base.frzs, tbls := I.base.tbls }
    · show G.get? b = _
      rw [gk b (old e)]
      exact I.base.keep b u e n h1 h2
    · show ∃ sl, G.get? b = _
      rw [gk b (old e)]
      exact I.base.slot b u e n h1 h2
    · show ∃ q, G.get? b = some q
      rw [gk b (old e)]
      exact I.base.there b u e h
  · obtain ⟨m, ⟨u, es, ep, e, d, r⟩, q⟩ := I.loc
    refine ⟨m, ⟨u, es, ep, ?_, d, r⟩, fun i x v h1 h2 h3 => ?_⟩
    · show G.get? _ = _
      rw [gk _ (Ne.symm la)]
      exact e
    · obtain ⟨w, rv, lk⟩ := q i x v h1 h2 h3
      refine ⟨w, rv, ?_⟩
      rcases lk with lk | ⟨k1, b, k2, k3⟩
      · exact .inl lk
      · exact .inr ⟨k1, b, k2, look k3⟩
  · obtain ⟨v, hv⟩ := I.cell x b e
    exact ⟨v, look hv⟩
  · obtain ⟨e, r⟩ := I.pin p (by
      rcases List.mem_append.mp hp with h | h
      · exact List.mem_append_left _ h
      · exact List.mem_append_right _ (List.mem_cons_of_mem _ h))
    refine ⟨?_, r⟩
    show G.get? _ = _
    rw [gk _ (away p hp)]
    exact e
  · intro b u e
    have nb : b ≠ a := fun z => by
      rw [z, na] at e
      cases e
    refine (I.hok b u e).stay (fun d v hd q => ?_) (fun d q => q) fun d xs q => q
    rw [gk d ?_]
    · exact q
    · rcases hd with z | z
      · rw [z]
        exact nb
      · exact fun y => by
          rw [y, na] at z
          cases z
end
end L2
set_option Elab.async false
set_option linter.all false
set_option maxRecDepth 100000
set_option maxHeartbeats 4000000
/-! Values with dicts among them, told by repr. -/
namespace L2
open PySem PySem.Spec PyProof.Rows
/-- a key as a datum -/
def keyD : Key → PyData
  | .inl i => .int i
  | .inr s => .str s
def zipD (ks : List Key) (ds : List PyData) : List (PyData × PyData) := (ks.map keyD).zip ds
mutual
inductive PyW (H : Hp) : V → PyData → Prop
  | non : PyW H .non .none
  | bl (b : Bool) : PyW H (.bl b) (.bool b)
  | int (i : Int) : PyW H (.int i) (.int i)
  | str (z : Str) : PyW H (.str z) (.str z)
  | tup {a : Addr} {xs : List V} {ds : List PyData} : H a = some (.tup xs) → PyWs H xs ds → PyW H (.ref a) (.tuple ds)
  | lst {a : Addr} {xs : List V} {ds : List PyData} : H a = some (.lst xs) → PyWs H xs ds → PyW H (.ref a) (.list ds)
  | dic {a : Addr} {kvs : List (Key × V)} {ds : List PyData} : H a = some (.dK kvs) → PyWs H (kvs.map (·.2)) ds → PyW H (.ref a) (.dict (zipD (kvs.map (·.1)) ds))
inductive PyWs (H : Hp) : List V → List PyData → Prop
  | nil : PyWs H [] []
  | cons {x : V} {d : PyData} {xs : List V} {ds : List PyData} : PyW H x d → PyWs H xs ds → PyWs H (x :: xs) (d :: ds)
end
mutual
theorem PyW.keep {H H2 : Hp} (s : ∀ b o, H b = some o → ((∃ xs, o = .tup xs) ∨ (∃ xs, o = .lst xs) ∨ ∃ xs, o = .dK xs) → H2 b = some o) : ∀ {x : V} {d : PyData}, PyW H x d → PyW H2 x d
  | _, _, .non => .non
  | _, _, .bl b => .bl b
  | _, _, .int i => .int i
  | _, _, .str z => .str z
  | _, _, .tup h r => .tup (s _ _ h (.inl ⟨_, rfl⟩)) (PyWs.keep s r)
  | _, _, .lst h r => .lst (s _ _ h (.inr (.inl ⟨_, rfl⟩))) (PyWs.keep s r)
  | _, _, .dic h r => .dic (s _ _ h (.inr (.inr ⟨_, rfl⟩))) (PyWs.keep s r)
theorem PyWs.keep {H H2 : Hp} (s : ∀ b o, H b = some o → ((∃ xs, o = .tup xs) ∨ (∃ xs, o = .lst xs) ∨ ∃ xs, o = .dK xs) → H2 b = some o) : ∀ {xs : List V} {ds : List PyData}, PyWs H xs ds → PyWs H2 xs ds
  | _, _, .nil => .nil
  | _, _, .cons h r => .cons (PyW.keep s h) (PyWs.keep s r)
end
theorem PyW.same {H H2 : Hp} (s : ∀ b o, H b = some o → H2 b = some o) {x : V} {d : PyData} (p : PyW H x d) : PyW H2 x d := p.keep fun b o e _ => s b o e
theorem PyWs.same {H H2 : Hp} (s : ∀ b o, H b = some o → H2 b = some o) {xs : List V} {ds : List PyData} (p : PyWs H xs ds) : PyWs H2 xs ds := p.keep fun b o e _ => s b o e
theorem PyW.but {H H2 : Hp} {a : Addr} {x : V} {d : PyData} {f : Heap → Prop} (p : PyW H x d) (s : ∀ b o, H b = some o → b ≠ a → H2 b = some o) (ha : H a = some (.ext f)) : PyW H2 x d :=
  p.keep fun b o e k => s b o e fun z => by
    rw [z, ha] at e
    cases e
    rcases k with ⟨xs, k⟩ | ⟨xs, k⟩ | ⟨xs, k⟩ <;> cases k
theorem PyWs.length {H : Hp} : ∀ {xs : List V} {ds : List PyData}, PyWs H xs ds → xs.length = ds.length
  | _, _, .nil => rfl
  | _, _, .cons _ r => by rw [List.length_cons, List.length_cons, PyWs.length r]
theorem PyWs.append {H : Hp} : ∀ {xs ys : List V} {ds es : List PyData}, PyWs H xs ds → PyWs H ys es → PyWs H (xs ++ ys) (ds ++ es)
  | _, _, _, _, .nil, q => q
  | _, _, _, _, .cons h r, q => .cons h (PyWs.append r q)
theorem zipD_fst : ∀ (ks : List Key) (ds : List PyData), ks.length = ds.length → (zipD ks ds).map (·.1) = ks.map keyD
  | [], _, _ => rfl
  | k :: ks, [], h => by cases h
  | k :: ks, d :: ds, h => by
    show keyD k :: (zipD ks ds).map (·.1) = keyD k :: ks.map keyD
    rw [zipD_fst ks ds (by simpa using h)]
theorem zipD_snd : ∀ (ks : List Key) (ds : List PyData), ks.length = ds.length → (zipD ks ds).map (·.2) = ds
  | [], [], _ => rfl
  | [], d :: ds, h => by cases h
  | k :: ks, [], h => by cases h
  | k :: ks, d :: ds, h => by
    show d :: (zipD ks ds).map (·.2) = d :: ds
    rw [zipD_snd ks ds (by simpa using h)]
/-- the keys of a dict read -/
theorem keys_read {P : Program} {w : World} {h : Heap} : ∀ {es : List DictEntry} {kvs : List (Key × V)} {vs : List (Key × Value)}, KV kvs vs → Pairs (mixKind P w) es vs →
    ReadsAll h (es.map (·.key)) ((kvs.map (·.1)).map keyD) [] ∧ Vals (kvs.map (·.2)) (es.map (·.val))
  | _, _, _, .nil, .nil => ⟨.nil, .nil⟩
  | e :: es, kv :: kvs, q :: vs, .cons r1 r2, .cons p1 p2 p3 => by
    obtain ⟨h1, h2⟩ := keys_read r2 p3
    obtain ⟨k, v⟩ := kv
    obtain ⟨k', v'⟩ := q
    obtain ⟨rk, rv⟩ := r1
    obtain rfl : k = k' := rk
    have rv' : RelV v v' := rv
    have e2 : e.val = v' := p2
    refine ⟨?_, ?_⟩
    · have one : Reads h e.key (keyD k) [] := by
        rcases keyIs_shape p1 with ⟨i, t, rfl, ek⟩ | ⟨x, t, rfl, ek⟩
        · rw [ek]
          exact .int i t
        · rw [ek]
          exact .str x t
      exact ReadsAll.cons one h1
    · show Vals (v :: kvs.map (·.2)) (e.val :: es.map (·.val))
      rw [e2]
      exact .cons rv' h2
mutual
theorem PyW.reads {P : Program} {w : World} {H : Hp} {h : Heap} (ok : HOk P w H h) (ns : H sysModules = none) : ∀ {x : V} {d : PyData} {u : Value}, PyW H x d → RelV x u → ∃ as, Reads h u d as ∧ sysModules ∉ as
  | _, _, u, .non, r => by
    obtain rfl : u = Value.none := r
    exact ⟨_, .none, List.not_mem_nil⟩
  | _, _, u, .bl b, r => by
    obtain rfl : u = Value.bool b := r
    exact ⟨_, .bool b, List.not_mem_nil⟩
  | _, _, u, .int i, r => by
    obtain ⟨t, rfl⟩ : ∃ t, u = Value.int i t := r
    exact ⟨_, .int i t, List.not_mem_nil⟩
  | _, _, u, .str z, r => by
    obtain ⟨t, rfl⟩ : ∃ t, u = Value.str z t := r
    exact ⟨_, .str z t, List.not_mem_nil⟩
  | _, _, u, .tup (a := a) h1 h2, r => by
    obtain rfl : u = Value.ref a := r
    obtain ⟨_, its, rel, o, e1, e2, n, e3⟩ := ok a _ h1
    obtain ⟨as, q, m⟩ := PyWs.reads ok ns h2 rel
    exact ⟨_, .tuple e1 e2 e3 q, m⟩
  | _, _, u, .lst (a := a) h1 h2, r => by
    obtain rfl : u = Value.ref a := r
    obtain ⟨_, its, n, rel, e1⟩ := ok a _ h1
    obtain ⟨as, q, m⟩ := PyWs.reads ok ns h2 rel
    exact ⟨_, .list e1 rfl rfl q, fun z => (List.mem_cons.mp z).elim (fun e => ne_of_none h1 ns e.symm) m⟩
  | _, _, u, .dic (a := a) (kvs := kvs) (ds := ds) h1 h2, r => by
    obtain rfl : u = Value.ref a := r
    obtain ⟨_, hs, vs, rel, o, es, ep, e1, ex, e2, _, pr, _⟩ := ok a _ h1
    obtain ⟨rk, rv⟩ := keys_read (h := h) rel pr
    obtain ⟨bs, q, m⟩ := PyWs.reads ok ns h2 rv
    have hl : (kvs.map (·.1)).length = ds.length := by
      have := PyWs.length h2
      rw [List.length_map] at this ⊢
      exact this
    refine ⟨_, .dict e1 ex.1 e2 (as := []) (bs := bs) (by rw [zipD_fst _ _ hl]; exact rk) (by rw [zipD_snd _ _ hl]; exact q), fun z => ?_⟩
    exact (List.mem_cons.mp (show sysModules ∈ a :: bs from z)).elim (fun e => ne_of_none h1 ns e.symm) m
theorem PyWs.reads {P : Program} {w : World} {H : Hp} {h : Heap} (ok : HOk P w H h) (ns : H sysModules = none) : ∀ {xs : List V} {ds : List PyData} {us : List Value}, PyWs H xs ds → Vals xs us → ∃ as, ReadsAll h us ds as ∧ sysModules ∉ as
  | _, _, _, .nil, r => by
    cases r
    exact ⟨_, .nil, List.not_mem_nil⟩
  | _, _, _, .cons h1 h2, r => by
    cases r with
    | cons r1 r2 =>
      obtain ⟨a1, q1, m1⟩ := PyW.reads ok ns h1 r1
      obtain ⟨a2, q2, m2⟩ := PyWs.reads ok ns h2 r2
      exact ⟨_, .cons q1 q2, fun z => (List.mem_append.mp z).elim m1 m2⟩
end
/-- it is flat, or an object -/
theorem PyW.flat {H : Hp} {x : V} {d : PyData} (p : PyW H x d) : PyV H x d ∨ ∃ a, x = .ref a := by
  cases p with
  | non => exact .inl .non
  | bl b => exact .inl (.bl b)
  | int i => exact .inl (.int i)
  | str z => exact .inl (.str z)
  | tup h r => exact .inr ⟨_, rfl⟩
  | lst h r => exact .inr ⟨_, rfl⟩
  | dic h r => exact .inr ⟨_, rfl⟩
end L2
set_option Elab.async false
set_option linter.all false
set_option maxRecDepth 100000
set_option maxHeartbeats 4000000
/-! The drawing of the law: the pen, a draw, a pick. -/
namespace V8
open PySem PySem.Spec PyProof.Rows L2
def topS (i : Nat) : Stmt := PySem.Challenge.pw_blindrepair_k17_leads_of_images.main.body.getD i (.Pass ⟨0, 0, 0, 0⟩)
abbrev s_pen : Stmt := topS 68
theorem sc_pen : FnScope ["_law_script"] ["_law_script"] (defScope s_pen) := ⟨rfl, rfl, rfl, by decide +kernel, rfl, by decide +kernel, by decide +kernel⟩
abbrev s_draw : Stmt := topS 69
theorem sc_draw : FnScope ["_law_pen_here", "_law_many", "_law_digit", "_law_spot", "_law_cell", "_law_great", "_law_stirred"] ["_law_pen_here", "_law_many"] (defScope s_draw) := ⟨rfl, rfl, rfl, by decide +kernel, rfl, by decide +kernel, by decide +kernel⟩
abbrev s_pick : Stmt := topS 70
theorem sc_pick : FnScope ["_law_pen_here", "_law_some"] ["_law_pen_here", "_law_some"] (defScope s_pick) := ⟨rfl, rfl, rfl, by decide +kernel, rfl, by decide +kernel, by decide +kernel⟩
/-- all but the object at p stands as it stood -/
def Fr (p : Addr) (H H' : Hp) : Prop := ∀ b o, H b = some o → b ≠ p → H' b = some o
theorem Fr.refl {p : Addr} {H : Hp} : Fr p H H := fun _ _ h _ => h
theorem Fr.trans {p : Addr} {H H1 H2 : Hp} (a : Fr p H H1) (b : Fr p H1 H2) : Fr p H H2 := fun c o h n => b c o (a c o h n) n
theorem Fr.new {p q : Addr} {o : HO} {H : Hp} (h : H q = none) : Fr p H (upd H q o) := fun b u e _ => by
  rw [upd_ne (ne_of_none e h)]; exact e
theorem Fr.at {p : Addr} {o : HO} {H : Hp} : Fr p H (upd H p o) := fun b u e n => by
  rw [upd_ne n]; exact e
/-- the pen at p, the script's ints at l, n draws are let -/
structure PenAt (H : Hp) (p l : Addr) (ns : List Int) (n : Nat) : Prop where
  here : ∃ (spot great : Int), H p = some (.lst [.ref l, .int spot, .int great]) ∧ 0 ≤ spot ∧ spot + n ≤ 1000000 ∧ 0 ≤ great
  nums : H l = some (.lst (ns.map V.int))
  ne : l ≠ p
  short : ns.length ≤ 63
theorem PenAt.less {H : Hp} {p l : Addr} {ns : List Int} {n m : Nat} (P : PenAt H p l ns n) (h : m ≤ n) : PenAt H p l ns m := by
  obtain ⟨⟨s, g, h1, h2, h3, h4⟩, i, e, sh⟩ := P
  exact ⟨⟨s, g, h1, h2, by omega, h4⟩, i, e, sh⟩
theorem PenAt.some' {H : Hp} {p l : Addr} {ns : List Int} {n : Nat} (P : PenAt H p l ns n) : H p ≠ none := by
  obtain ⟨⟨s, g, h1, _⟩, _⟩ := P
  rw [h1]; exact fun z => nomatch z
theorem PenAt.new {H : Hp} {p l q : Addr} {o : HO} {ns : List Int} {n : Nat} (P : PenAt H p l ns n) (h : H q = none) : PenAt (upd H q o) p l ns n := by
  obtain ⟨⟨s, g, h1, h2, h3, h4⟩, i, e, sh⟩ := P
  exact ⟨⟨s, g, by rw [upd_ne (ne_of_none h1 h)]; exact h1, h2, h3, h4⟩, by rw [upd_ne (ne_of_none i h)]; exact i, e, sh⟩
/-- another object is written -/
theorem PenAt.other {H : Hp} {p l q : Addr} {o : HO} {ns : List Int} {n : Nat} (P : PenAt H p l ns n) (h : q ≠ p) (h' : q ≠ l) : PenAt (upd H q o) p l ns n := by
  obtain ⟨⟨s, g, h1, h2, h3, h4⟩, i, e, sh⟩ := P
  exact ⟨⟨s, g, by rw [upd_ne (Ne.symm h)]; exact h1, h2, h3, h4⟩, by rw [upd_ne (Ne.symm h')]; exact i, e, sh⟩
def spDraw : Sp := fun vs H Q _ => ∃ (p l : Addr) (ns : List Int) (n : Nat) (many : Int), vs = [.ref p, .int many] ∧ PenAt H p l ns (n + 1) ∧ 0 < many ∧ many < 1000 ∧
  ∀ (v : Int) (H' : Hp), 0 ≤ v → v < many → PenAt H' p l ns n → Fr p H H' → Q (.int v) H'
section
variable {P : Program} {w : World} {K : PySem.W.Frag} {mg : Str → Option Value} {base : Heap}
theorem ints_at {ns : List Int} {i : Int} (h0 : 0 ≤ i) (h : i < ns.length) : ∃ z : Int, atI (ns.map V.int) i = some (.int z) := by
  obtain ⟨j, rfl⟩ : ∃ j : Nat, i = j := ⟨i.toNat, by omega⟩
  have hj : j < ns.length := by omega
  exact ⟨ns[j], atI_nat (by rw [List.getElem?_map, List.getElem?_eq_getElem hj]; rfl)⟩
def dInts (ns : List Int) : List PyData := ns.map PyData.int
theorem dp_ints {H : Hp} : ∀ ns : List Int, DpAll K H (ns.map V.int) (dInts ns)
  | [] => .nil
  | n :: ns => .cons (.int n) (dp_ints ns)
theorem lay_ints : ∀ ns : List Int, PyData.canLayAll0 (dInts ns) = true
  | [] => by simp [dInts, PyData.canLayAll0]
  | n :: ns => by
    have h := lay_ints ns
    simp only [dInts, List.map_cons, PyData.canLayAll0, PyData.canLay0, Bool.true_and]
    exact h
theorem depth_ints : ∀ ns : List Int, PyData.depthAll (dInts ns) = 0
  | [] => by simp [dInts, PyData.depthAll]
  | n :: ns => by
    have h := depth_ints ns
    simp only [dInts, List.map_cons, PyData.depthAll, PyData.depth]
    unfold dInts at h
    omega
theorem shaped_ints (ns : List Int) : SeqAt.shaped (.list (dInts ns)) = true := by
  have h2 : PyData.depth (.list (dInts ns)) ≤ 64 := by
    simp only [PyData.depth, depth_ints]
    omega
  show (PyData.canLay0 (.list (dInts ns)) && decide (PyData.depth (.list (dInts ns)) ≤ 64)) = true
  rw [Bool.and_eq_true]
  exact ⟨by simp only [PyData.canLay0]; exact lay_ints ns, decide_eq_true h2⟩
structure Blt (mg : Str → Option Value) : Prop where
  list : mg "list" = none
  int : mg "int" = none
  len : mg "len" = none
  abs : mg "abs" = none
  range : mg "range" = none
  dict : mg "dict" = none
  str : mg "str" = none
  sorted : mg "sorted" = none
  tuple : mg "tuple" = none
theorem pw2 {st spot : Int} (s0 : 0 ≤ st) (s1 : st < 2147469703) (h0 : 0 ≤ spot) (h1 : spot ≤ 1000000) : (st * (2 * spot + 129) + 60121 * spot * spot + 107).natAbs < 2 ^ 64 := by
  have a1 : st * (2 * spot + 129) ≤ 2147483647 * 2000999 := Int.mul_le_mul (by omega) (by omega) (by omega) (by omega)
  have a0 : 0 ≤ st * (2 * spot + 129) := Int.mul_nonneg s0 (by omega)
  have c1 : 60121 * spot * spot ≤ 99999000000 * 1000000 := Int.mul_le_mul (by omega) h1 h0 (by omega)
  have c0 : 0 ≤ 60121 * spot * spot := Int.mul_nonneg (by omega) h0
  omega
theorem ok_draw {f : Addr} {fd : FuncData} {k : Nat} (F : Fun K "_law_draw" "_law_draw" s_draw f fd) (T : Blt mg) : FnOk P w K mg base CX0 (k + 1) f fd ["_law_pen_here", "_law_many"] spDraw := by
  refine F.ok sc_draw (fun vs H Q E h => ?_) (fun cdv A outer s H vs Q E hr h => ?_)
  · obtain ⟨p, l, ns, n, many, rfl, _⟩ := h
    rfl
  · obtain ⟨p, l, ns, n, many, rfl, PA, m0, m1, q⟩ := h
    obtain ⟨⟨spot, great, hp, hs0, hsn, hg⟩, hl, hne, hsh⟩ := id PA
    refine ⟨_, (pss_cons (ps_if (pt_cmpR op_gt (pe_ix (ix_listK (K := K) rfl) (pv 0) pe_int (fun _ _ => rfl)) pe_int (nomark _))
        (pss_cons (ps_set (i := 2) sc_draw.nd rfl (.inl rfl) (pe_op op_mod (pe_callTy call_int1 (by rfl) T.int (by decide +kernel) (pa_cons (pe_ix (ix_listK (K := K) rfl) (pv 0) pe_int (fun _ _ => rfl)) pa_nil)) (pv 1)))
        (pss_cons (ps_asg (pe_op op_fdiv (pe_callTy call_int1 (by rfl) T.int (by decide +kernel) (pa_cons (pe_ix (ix_listK (K := K) rfl) (pv 0) pe_int (fun _ _ => rfl)) pa_nil)) (pv 1)) (pg_sub (pv 0) pe_int set_list))
        (pss_one (ps_ret (pv 2)))))
        pss_nil)
      (pss_cons (ps_set (i := 3) sc_draw.nd rfl (.inl rfl) (pe_ix (ix_listK (K := K) rfl) (pv 0) pe_int (fun _ _ => rfl)))
      (pss_cons (ps_asg (pe_op op_add (pv 3) pe_int) (pg_sub (pv 0) pe_int set_list))
      (pss_cons (ps_set (i := 4) sc_draw.nd rfl (.inl rfl) (pe_op op_add (pe_op op_mul pe_int (pv 3)) pe_int))
      (pss_cons (ps_if (pt_cmpR (op_neDK (K := K) rfl hr.units) (pe_ix (ix_listK (K := K) rfl) (pv 0) pe_int (fun _ _ => rfl)) (pe_lst pa_nil) (nomark _))
        (pss_one (ps_set (i := 4) sc_draw.nd rfl (.inl rfl) (pe_ix (ix_listK (K := K) rfl) (pe_ix (ix_listK (K := K) rfl) (pv 0) pe_int (fun _ _ => rfl)) (pe_op op_mod (pe_callTy call_int1 (by rfl) T.int (by decide +kernel) (pa_cons (pv 3) pa_nil)) (pe_callB (call_len_seqK (K := K) rfl) (by rfl) T.len (by decide +kernel) (pa_cons (pe_ix (ix_listK (K := K) rfl) (pv 0) pe_int (fun _ _ => rfl)) pa_nil))) (fun _ _ => rfl))))
        pss_nil)
      (pss_cons (ps_if (PW.pt (pw_and (pt_cmpR op_lt (pv 3) (pe_callB (call_len_seqK (K := K) rfl) (by rfl) T.len (by decide +kernel) (pa_cons (pe_ix (ix_listK (K := K) rfl) (pv 0) pe_int (fun _ _ => rfl)) pa_nil)) (nomark _)) (pw_and1 (pt_cmpR op_ge (pe_callB call_abs (by rfl) T.abs (by decide +kernel) (pa_cons (pv 4) pa_nil)) (pe_op op_pow pe_int pe_int) (nomark _)))))
        (pss_cons (ps_set (i := 5) sc_draw.nd rfl (.inl rfl) (pe_op op_add (pe_op op_mul pe_int (pe_op op_sub (pe_callB call_abs (by rfl) T.abs (by decide +kernel) (pa_cons (pv 4) pa_nil)) (pe_op op_pow pe_int pe_int))) (pe_callTy call_int1 (by rfl) T.int (by decide +kernel) (pa_cons (pe_cmpR op_lt (pv 4) pe_int (nomark _)) pa_nil))))
        (pss_cons (ps_asg (pe_op op_fdiv (pe_callTy call_int1 (by rfl) T.int (by decide +kernel) (pa_cons (pv 5) pa_nil)) (pv 1)) (pg_sub (pv 0) pe_int set_list))
        (pss_one (ps_ret (pe_op op_mod (pe_callTy call_int1 (by rfl) T.int (by decide +kernel) (pa_cons (pv 5) pa_nil)) (pv 1))))))
        pss_nil)
      (pss_cons (ps_set (i := 6) sc_draw.nd rfl (.inl rfl) (pe_op op_mod (pe_callTy call_int1 (by rfl) T.int (by decide +kernel) (pa_cons (pe_op op_pow (pe_op op_add (pe_op op_add (pe_op op_mod (pe_callTy call_int1 (by rfl) T.int (by decide +kernel) (pa_cons (pv 4) pa_nil)) pe_int) (pe_op op_mul pe_int (pv 3))) pe_int) pe_int) pa_nil)) pe_int))
      (pss_cons (ps_set (i := 6) sc_draw.nd rfl (.inl rfl) (pe_op op_mod (pe_callTy call_int1 (by rfl) T.int (by decide +kernel) (pa_cons (pe_op op_pow (pe_op op_add (pe_op op_add (pe_op op_mul (pv 6) (pe_op op_add (pe_op op_mul pe_int (pv 3)) pe_int)) (pe_op op_mul (pe_op op_mul pe_int (pv 3)) (pv 3))) pe_int) pe_int) pa_nil)) pe_int))
      (pss_one (ps_ret (pe_op op_mod (pe_callTy call_int1 (by rfl) T.int (by decide +kernel) (pa_cons (pe_op op_fdiv (pv 6) pe_int) pa_nil)) (pv 1)))))))))))), ?_⟩
    -- pen[2] > 0
    refine ⟨_, rfl, p, _, 2, _, rfl, rfl, SqL.of hp, rfl, great, 0, rfl, rfl, _, rfl, ?_⟩
    refine ite2 (fun e => ?_) (fun e => ?_)
    · refine ⟨_, rfl, p, _, 2, _, rfl, rfl, SqL.of hp, rfl, .inl ⟨_, rfl, _, rfl, _, _, rfl, rfl, m0, ?_⟩⟩
      refine ⟨_, rfl, p, _, 2, _, rfl, rfl, SqL.of hp, rfl, .inl ⟨_, rfl, _, rfl, _, _, rfl, rfl, ⟨m0, by omega⟩, _, rfl, p, _, 2, 2, rfl, rfl, hp, rfl, ?_⟩⟩
      refine ⟨_, rfl, q _ _ (Int.emod_nonneg _ (by omega)) (Int.emod_lt_of_pos _ m0) ⟨⟨spot, great / many, upd_same, hs0, by omega, Int.ediv_nonneg hg (by omega)⟩, by rw [upd_ne hne]; exact hl, hne, hsh⟩ Fr.at⟩
    -- spot = pen[1]; pen[1] = spot + 1; cell = ..
    refine ⟨_, rfl, p, _, 1, _, rfl, rfl, SqL.of hp, rfl, ?_⟩
    refine ⟨_, rfl, _, _, rfl, rfl, _, rfl, p, _, 1, 1, rfl, rfl, hp, rfl, ?_⟩
    refine ⟨_, rfl, _, _, rfl, rfl, .inl ⟨by decide, by decide⟩, _, _, rfl, rfl, ?_⟩
    have hp1 : upd H p (.lst [.ref l, .int (spot + 1), .int great]) p = some (.lst [.ref l, .int (spot + 1), .int great]) := upd_same
    have hl1 : upd H p (.lst [.ref l, .int (spot + 1), .int great]) l = some (.lst (ns.map V.int)) := by rw [upd_ne hne]; exact hl
    dsimp only [List.set_cons_succ, List.set_cons_zero]
    -- pen[0] != []
    refine ⟨_, rfl, p, _, 0, _, rfl, rfl, SqL.of hp1, rfl, Nat.zero_le _, fun o no => ?_⟩
    have hpo : p ≠ o := ne_of_none hp1 no
    have hlo : l ≠ o := ne_of_none hl1 no
    have hp2 : upd (upd H p (.lst [.ref l, .int (spot + 1), .int great])) o (.lst []) p = some (.lst [.ref l, .int (spot + 1), .int great]) := by rw [upd_ne hpo]; exact hp1
    have hl2 : upd (upd H p (.lst [.ref l, .int (spot + 1), .int great])) o (.lst []) l = some (.lst (ns.map V.int)) := by rw [upd_ne hlo]; exact hl1
    have fr2 : Fr p H (upd (upd H p (.lst [.ref l, .int (spot + 1), .int great])) o (.lst [])) := Fr.at.trans (Fr.new no)
    refine ⟨_, _, .lst (SqL.of hl2) (dp_ints ns), .lst (SqL.of upd_same) .nil, shaped_ints ns, by decide, _, rfl, ?_⟩
    generalize upd (upd H p (.lst [.ref l, .int (spot + 1), .int great])) o (.lst []) = H2 at hp2 hl2 fr2 ⊢
    refine ite2 (fun e => ?g1) (fun e => ?g2)
    case' g1 =>
      have hns : 0 < ns.length := by
        cases ns with
        | nil => simp [dInts, PyData.eqv, PyData.eqvAll] at e
        | cons a r => simp
      have hpos : (0 : Int) < ((ns.map V.int).length : Int) := by rw [List.length_map]; omega
      obtain ⟨z, hz⟩ := ints_at (ns := ns) (i := spot % ((ns.map V.int).length : Int)) (Int.emod_nonneg _ (by omega)) (by
        have := Int.emod_lt_of_pos spot hpos
        rw [List.length_map] at this ⊢
        exact this)
      refine ⟨_, rfl, p, _, 0, _, rfl, rfl, SqL.of hp2, rfl, _, rfl, .inl ⟨_, rfl, _, rfl, p, _, 0, _, rfl, rfl, SqL.of hp2, rfl, l, _, rfl, .inl (SqL.of hl2), _, _, rfl, rfl, hpos, l, _, _, _, rfl, rfl, SqL.of hl2, hz, ?_⟩⟩
      generalize z = c
      refine ⟨_, rfl, _, rfl, p, _, 0, _, rfl, rfl, SqL.of hp2, rfl, l, _, rfl, .inl (SqL.of hl2), _, _, rfl, rfl, _, rfl, ?_⟩
      refine ite2 (fun e1 => ?a3) (fun e1 => ?a4)
      case' a3 =>
        refine ⟨_, rfl, _, rfl, _, _, rfl, rfl, ⟨by decide, by decide, by decide⟩, _, _, rfl, rfl, _, rfl, ?_⟩
        refine ite2 (fun e2 => ?a5) (fun e2 => ?a6)
        case' a5 =>
          have hge := of_decide_eq_true e2
          refine ⟨_, rfl, _, rfl, _, _, rfl, rfl, ⟨by decide, by decide, by decide⟩, _, _, rfl, rfl, _, _, rfl, rfl, .inl ⟨by decide, by decide⟩, _, rfl, _, _, rfl, rfl, .inr ⟨_, rfl, _, _, rfl, rfl, ?_⟩⟩
          have hG : 0 ≤ 2 * ((if c < 0 then -c else c) - 10 ^ (18 : Int).toNat) + (if decide (c < 0) = true then 1 else 0) := by
            have h1 : (10 : Int) ^ (18 : Int).toNat ≤ (if c < 0 then -c else c) := hge
            have h2 : (0 : Int) ≤ (if decide (c < 0) = true then 1 else 0) := by split <;> decide
            omega
          refine ⟨_, rfl, .inl ⟨_, rfl, _, rfl, _, _, rfl, rfl, ⟨m0, by omega⟩, _, rfl, p, _, 2, 2, rfl, rfl, hp2, rfl, ?_⟩⟩
          refine ⟨_, rfl, .inl ⟨_, rfl, _, rfl, _, _, rfl, rfl, m0, ?_⟩⟩
          exact q _ _ (Int.emod_nonneg _ (by omega)) (Int.emod_lt_of_pos _ m0) ⟨⟨spot + 1, _, upd_same, by omega, by omega, Int.ediv_nonneg hG (by omega)⟩, by rw [upd_ne hne]; exact hl2, hne, hsh⟩ (fr2.trans Fr.at)
      case' a4 => refine iteF ?_
    case' g2 =>
      generalize 80147 * spot + 755 = c
      refine ⟨_, rfl, _, rfl, p, _, 0, _, rfl, rfl, SqL.of hp2, rfl, l, _, rfl, .inl (SqL.of hl2), _, _, rfl, rfl, _, rfl, ?_⟩
      refine ite2 (fun e1 => ?b3) (fun e1 => ?b4)
      case' b3 =>
        refine ⟨_, rfl, _, rfl, _, _, rfl, rfl, ⟨by decide, by decide, by decide⟩, _, _, rfl, rfl, _, rfl, ?_⟩
        refine ite2 (fun e2 => ?b5) (fun e2 => ?b6)
        case' b5 =>
          have hge := of_decide_eq_true e2
          refine ⟨_, rfl, _, rfl, _, _, rfl, rfl, ⟨by decide, by decide, by decide⟩, _, _, rfl, rfl, _, _, rfl, rfl, .inl ⟨by decide, by decide⟩, _, rfl, _, _, rfl, rfl, .inr ⟨_, rfl, _, _, rfl, rfl, ?_⟩⟩
          have hG : 0 ≤ 2 * ((if c < 0 then -c else c) - 10 ^ (18 : Int).toNat) + (if decide (c < 0) = true then 1 else 0) := by
            have h1 : (10 : Int) ^ (18 : Int).toNat ≤ (if c < 0 then -c else c) := hge
            have h2 : (0 : Int) ≤ (if decide (c < 0) = true then 1 else 0) := by split <;> decide
            omega
          refine ⟨_, rfl, .inl ⟨_, rfl, _, rfl, _, _, rfl, rfl, ⟨m0, by omega⟩, _, rfl, p, _, 2, 2, rfl, rfl, hp2, rfl, ?_⟩⟩
          refine ⟨_, rfl, .inl ⟨_, rfl, _, rfl, _, _, rfl, rfl, m0, ?_⟩⟩
          exact q _ _ (Int.emod_nonneg _ (by omega)) (Int.emod_lt_of_pos _ m0) ⟨⟨spot + 1, _, upd_same, by omega, by omega, Int.ediv_nonneg hG (by omega)⟩, by rw [upd_ne hne]; exact hl2, hne, hsh⟩ (fr2.trans Fr.at)
      case' b4 => refine iteF ?_
    all_goals
      have b0 := Int.emod_nonneg c (show (2147479781 : Int) ≠ 0 by decide)
      have b1 := Int.emod_lt_of_pos c (show (0 : Int) < 2147479781 by decide)
      refine ⟨_, rfl, .inl ⟨_, rfl, _, _, rfl, rfl, (show (0 : Int) < 2147479781 by decide), _, rfl, _, _, rfl, rfl, .inl ⟨by decide, by decide⟩, _, _, rfl, rfl, _, _, rfl, rfl, _, _, rfl, rfl, ⟨by decide, by decide, by omega⟩, .inl ⟨_, rfl, _, _, rfl, rfl, (show (0 : Int) < 2147469703 by decide), ?_⟩⟩⟩
      have s0 : 0 ≤ ((c % 2147479781 + 71209 * spot + 361) ^ (5 : Int).toNat) % 2147469703 := Int.emod_nonneg _ (by decide)
      have s1 : ((c % 2147479781 + 71209 * spot + 361) ^ (5 : Int).toNat) % 2147469703 < 2147469703 := Int.emod_lt_of_pos _ (by decide)
      have hsp : spot ≤ 1000000 := by omega
      refine ⟨_, rfl, _, rfl, _, _, rfl, rfl, .inl ⟨by decide, by decide⟩, _, _, rfl, rfl, _, _, rfl, rfl, .inl ⟨by omega, by omega⟩, _, rfl, _, _, rfl, rfl, .inl ⟨by decide, by decide⟩, _, rfl, _, _, rfl, rfl, .inl ⟨by omega, by omega⟩, _, _, rfl, rfl, _, _, rfl, rfl, _, _, rfl, rfl, ⟨by decide, by decide, pw2 s0 s1 hs0 hsp⟩, .inl ⟨_, rfl, _, _, rfl, rfl, (show (0 : Int) < 2147459843 by decide), ?_⟩⟩
      refine ⟨_, rfl, _, _, rfl, rfl, ⟨by decide, by decide⟩, .inl ⟨_, rfl, _, rfl, _, _, rfl, rfl, m0, ?_⟩⟩
      exact q _ _ (Int.emod_nonneg _ (by omega)) (Int.emod_lt_of_pos _ m0) ⟨⟨spot + 1, great, hp2, by omega, by omega, hg⟩, hl2, hne, hsh⟩ fr2
end
end V8
set_option Elab.async false
set_option linter.all false
set_option maxRecDepth 100000
set_option maxHeartbeats 4000000
/-! What the law draws: a pick, letters, images, tables. -/
namespace V8
open PySem PySem.Spec PyProof.Rows L2
/-- the text of one sign; of several -/
def L1 (c : Nat) : Str := ⟨#[c]⟩
def Sx (cs : List Nat) : Str := ⟨cs.toArray⟩
theorem L1_Sx (c : Nat) : L1 c = Sx [c] := rfl
theorem L1_inj {a b : Nat} (h : L1 a = L1 b) : a = b := by
  have h1 : (#[a] : Array Nat) = #[b] := congrArg Str.cps h
  simpa using h1
theorem Sx_inj {a b : List Nat} (h : Sx a = Sx b) : a = b := by
  have h1 : a.toArray = b.toArray := congrArg Str.cps h
  simpa using h1
def isLt (c : Nat) : Prop := 97 ≤ c ∧ c ≤ 122
instance (c : Nat) : Decidable (isLt c) := inferInstanceAs (Decidable (97 ≤ c ∧ c ≤ 122))
def lets (cs : List Nat) : List V := cs.map fun c => V.str (L1 c)
theorem lets_len (cs : List Nat) : (lets cs).length = cs.length := List.length_map ..
theorem lets_erase (cs : List Nat) (k : Nat) : (lets cs).eraseIdx k = lets (cs.eraseIdx k) := by
  unfold lets
  rw [List.eraseIdx_eq_take_drop_succ, List.eraseIdx_eq_take_drop_succ, List.map_append, List.map_take, List.map_drop]
theorem lets_snoc (cs : List Nat) (c : Nat) : lets (cs ++ [c]) = lets cs ++ [V.str (L1 c)] := by
  unfold lets
  rw [List.map_append]
  rfl
/-- a thing that is new, as seen from the start, is written -/
theorem Fr.put {p a : Addr} {o : HO} {H H1 : Hp} (f : Fr p H H1) (hn : H a = none) : Fr p H (upd H1 a o) := fun b u e n => by
  rw [upd_ne (ne_of_none e hn)]
  exact f b u e n
theorem lets_mem {cs : List Nat} {v : V} (h : v ∈ lets cs) : ∃ c ∈ cs, v = .str (L1 c) := by
  obtain ⟨c, hc, e⟩ := List.mem_map.mp h
  exact ⟨c, hc, e.symm⟩
/-- a to z -/
def abc : List Nat := (List.range 26).map (· + 97)
theorem abc_len : abc.length = 26 := by decide
theorem abc_nd : abc.Nodup := by decide
theorem abc_mem {c : Nat} : c ∈ abc ↔ isLt c := by
  unfold abc isLt
  rw [List.mem_map]
  constructor
  · rintro ⟨a, ha, rfl⟩
    have := List.mem_range.mp ha
    omega
  · rintro ⟨h1, h2⟩
    exact ⟨c - 97, List.mem_range.mpr (by omega), by omega⟩
def abcS : Str := "abcdefghijklmnopqrstuvwxyz"
theorem abcS_cps : abcS.cps.toList = abc := by decide +kernel
abbrev s_some_letters : Stmt := topS 71
abbrev n_some_letters : List Str := ["_law_pen_here", "_law_many", "_law_pool", "_law_k"]
theorem sc_some_letters : FnScope ["_law_pen_here", "_law_many", "_law_pool", "_law_k"] ["_law_pen_here", "_law_many"] (defScope s_some_letters) := ⟨rfl, rfl, rfl, by decide +kernel, rfl, by decide +kernel, by decide +kernel⟩
def spPick (K : PySem.W.Frag) : Sp := fun vs H Q _ => ∃ (p l a : Addr) (ns : List Int) (n : Nat) (xs : List V), vs = [.ref p, .ref a] ∧ PenAt H p l ns (n + 1) ∧ SqL K H a xs ∧ 0 < xs.length ∧ xs.length < 1000 ∧
  (∀ H', Fr p H H' → SqL K H' a xs) ∧ ∀ (v : V) (H' : Hp), v ∈ xs → PenAt H' p l ns n → Fr p H H' → Q v H'
theorem SqL.fr {K : PySem.W.Frag} {H H' : Hp} {p a : Addr} {xs : List V} (h : SqL K H a xs) (f : Fr p H H') (ne : a ≠ p) : SqL K H' a xs :=
  h.elim (fun h => .inl (h.elim (fun h => .inl (f _ _ h ne)) fun ⟨o, h⟩ => .inr ⟨o, f _ _ h ne⟩)) fun h => .inr h
def spLetters : Sp := fun vs H Q _ => ∃ (p l : Addr) (ns : List Int) (n : Nat) (many : Nat), vs = [.ref p, .int many] ∧ PenAt H p l ns (n + many) ∧ many ≤ 26 ∧
  ∀ (D : Addr) (cs : List Nat) (H' : Hp), cs.length = many → cs.Nodup → (∀ c ∈ cs, isLt c) → PenAt H' p l ns n → Fr p H H' → H D = none → H' D = some (.lst (lets cs)) → Q (.ref D) H'
section
variable {P : Program} {w : World} {K : PySem.W.Frag} {mg : Str → Option Value} {base : Heap}
theorem ok_pick {f : Addr} {fd : FuncData} (F : Fun K "_law_pick" "_law_pick" s_pick f fd) (T : Blt mg) (D_draw : Df P w K mg base 1 "_law_draw" spDraw) : FnOk P w K mg base CX0 2 f fd ["_law_pen_here", "_law_some"] (spPick K) := by
  refine F.ok sc_pick (fun vs H Q E h => ?_) (fun cdv A outer s H vs Q E hr h => ?_)
  · obtain ⟨p, l, a, ns, n, xs, rfl, _⟩ := h
    rfl
  · obtain ⟨p, l, a, ns, n, xs, rfl, PA, hS, h0, h1, st, q⟩ := h
    refine ⟨_, (pss_one (ps_ret (pe_ix (ix_listK (K := K) rfl) (pv 1) (pe_c D_draw hr (by decide) (by rfl) (pa_cons (pv 0) (pa_cons (pe_callB (call_len_seqK (K := K) rfl) (by rfl) T.len (by decide +kernel) (pa_cons (pv 1) pa_nil)) pa_nil))) (fun _ _ => rfl)))), ?_⟩
    refine ⟨.ref a, rfl, .ref p, rfl, .ref a, rfl, a, xs, rfl, .inl hS, p, l, ns, n, _, rfl, PA, by omega, by omega, fun v H' v0 v1 PA' fr => ?_⟩
    obtain ⟨j, rfl⟩ : ∃ j : Nat, v = j := ⟨v.toNat, by omega⟩
    have hj : j < xs.length := by omega
    exact ⟨a, xs, j, xs[j], rfl, rfl, st H' fr, atI_nat (List.getElem?_eq_getElem hj), q _ _ (List.getElem_mem hj) PA' fr⟩
theorem perm_erase {got rest : List Nat} {k : Nat} {y : Nat} (hp : (got ++ rest).Perm abc) (hy : rest[k]? = some y) : ((got ++ [y]) ++ rest.eraseIdx k).Perm abc := by
  refine List.Perm.trans ?_ hp
  rw [List.append_assoc]
  refine List.Perm.append_left got ?_
  show (y :: rest.eraseIdx k).Perm rest
  obtain ⟨hk, e⟩ := List.getElem?_eq_some_iff.mp hy
  rw [List.eraseIdx_eq_take_drop_succ]
  have h2 : rest = rest.take k ++ (y :: rest.drop (k + 1)) := by
    rw [← e, ← List.drop_eq_getElem_cons hk, List.take_append_drop]
  exact (List.perm_middle.symm).trans (List.Perm.of_eq h2.symm)
theorem ok_some_letters {f : Addr} {fd : FuncData} (F : Fun K "_law_some_letters" "_law_some_letters" s_some_letters f fd) (T : Blt mg) (D_draw : Df P w K mg base 1 "_law_draw" spDraw) : FnOk P w K mg base CX0 2 f fd ["_law_pen_here", "_law_many"] spLetters := by
  refine F.ok sc_some_letters (fun vs H Q E h => ?_) (fun cdv A outer s H vs Q E hr h => ?_)
  · obtain ⟨p, l, ns, n, many, rfl, _⟩ := h
    rfl
  · obtain ⟨p, l, ns, n, many, rfl, PA, hm, q⟩ := h
    refine ⟨_, (pss_cons (ps_set (i := 2) sc_some_letters.nd rfl (.inr rfl) (pe_callTy (call_listS rfl) (by rfl) T.list (by decide +kernel) (pa_cons pe_str pa_nil)))
      (pss_one (ps_ret (pe_lc (own := [("_law_k", 3)]) (g := gName 3) (by rfl) sc_some_letters.nd (pi_range1 (by rfl) T.range (pa_cons (pv 1) pa_nil)) (blkOk_by (own := [("_law_k", 3)]) (N := n_some_letters) (sc := defScope s_some_letters) (by decide +kernel)) (fun _ _ _ _ _ => (pg_name (i := 3) sc_some_letters.nd rfl (.inl rfl))) (fun _ _ _ _ _ => pts_nil) (fun _ _ _ _ _ => (pe_bmK (K := K) rfl PySem.F.plainAttrs_list PySem.F.slot_list_pop PySem.F.type_list_pop mt_popAt (pv 2) (pa_cons (pe_c D_draw hr (by decide) (by rfl) (pa_cons (pv 0) (pa_cons (pe_callB (call_len_seqK (K := K) rfl) (by rfl) T.len (by decide +kernel) (pa_cons (pv 2) pa_nil)) pa_nil))) pa_nil))))))), ?_⟩
    refine ⟨_, rfl, by decide, fun a na => ?_⟩
    have ePool : (List.map (fun c => V.str ⟨#[c]⟩) (Str.ofString "abcdefghijklmnopqrstuvwxyz").cps.toList) = lets abc := by
      show List.map (fun c => V.str (L1 c)) abcS.cps.toList = lets abc
      rw [abcS_cps]
      rfl
    rw [ePool]
    have PA1 := PA.new (o := .lst (lets abc)) na
    have hap : p ≠ a := by
      obtain ⟨⟨sp, g, h1, _⟩, _⟩ := PA
      exact ne_of_none h1 na
    have hla : l ≠ a := ne_of_none PA.nums na
    refine ⟨_, rfl, many, rfl, by omega, by omega, fun D nD => lc_range (lo := 0) (n := many) (fun i H2 => ∃ got rest : List Nat, (got ++ rest).Perm abc ∧ got.length = i ∧ H2 D = some (.lst (lets got)) ∧ H2 a = some (.lst (lets rest)) ∧ PenAt H2 p l ns (n + (many - i)) ∧ Fr p H H2) ?_ ?_ ?_⟩
    · have hDa : a ≠ D := ne_of_none upd_same nD
      refine ⟨[], abc, List.Perm.refl _, rfl, upd_same, by rw [upd_ne hDa, upd_same], (PA1.new nD).less (by omega), (Fr.new na).trans (Fr.new nD)⟩
    · rintro i H2 hi ⟨got, rest, pm, hg, hD, ha, PA2, fr⟩
      have hlen : got.length + rest.length = 26 := by
        have := pm.length_eq
        rw [List.length_append, abc_len] at this
        exact this
      have hDa : D ≠ a := by
        intro e
        subst e
        rw [upd_same] at nD
        cases nD
      have nDH : H D = none := by
        cases e : H D with
        | none => rfl
        | some o =>
          rw [upd_ne (ne_of_none e na), e] at nD
          cases nD
      have hDp : D ≠ p := by
        intro e
        subst e
        obtain ⟨⟨sp, g, h1, _⟩, _⟩ := PA1
        rw [h1] at nD
        cases nD
      have hDl : D ≠ l := by
        intro e
        subst e
        rw [PA1.nums] at nD
        cases nD
      have hr0 : 0 < (lets rest).length := by rw [lets_len]; omega
      refine ⟨rfl, ⟨_, rfl, .inl ⟨rfl, _, SqL.of ha⟩, _, rfl, _, rfl, a, _, rfl, .inl (SqL.of ha), p, l, ns, n + (many - (i + 1)), _, rfl, PA2.less (by omega), by omega, by rw [lets_len]; omega, fun v H3 v0 v1 PA3 fr3 => ?_⟩⟩
      obtain ⟨j, rfl⟩ : ∃ j : Nat, v = j := ⟨v.toNat, by omega⟩
      have hj : j < rest.length := by rw [lets_len] at v1; omega
      have hx : (lets rest)[j]? = some (.str (L1 rest[j])) := by
        unfold lets
        rw [List.getElem?_map, List.getElem?_eq_getElem hj]
        rfl
      have ha3 : H3 a = some (.lst (lets rest)) := fr3 _ _ ha (Ne.symm hap)
      have hD3 : H3 D = some (.lst (lets got)) := fr3 _ _ hD hDp
      have hk : seqIndex? (j : Int) (lets rest).length = some j := by
        unfold seqIndex?
        rw [lets_len]
        simp
        omega
      refine ⟨a, _, _, j, _, rfl, rfl, ha3, by omega, by omega, hk, hx, lets got, by rw [upd_ne hDa]; exact hD3, by rw [lets_len]; exact small1000 (by omega), got ++ [rest[j]], rest.eraseIdx j, perm_erase pm (List.getElem?_eq_getElem hj), by simp [hg], ?_, ?_, ?_, ?_⟩
      · rw [upd_same]
        unfold lets
        rw [List.map_append]
        rfl
      · rw [upd_ne (Ne.symm hDa), upd_same]
        rw [lets_erase]
      · exact (PA3.other (Ne.symm hap) (Ne.symm hla)).other hDp hDl
      · exact ((fr.trans fr3).put na).put nDH
    · rintro H2 ⟨got, rest, pm, hg, hD, ha, PA2, fr⟩
      have hnd : (got ++ rest).Nodup := pm.nodup_iff.mpr abc_nd
      have nD' : H D = none := by
        cases e : H D with
        | none => rfl
        | some o =>
          rw [upd_ne (ne_of_none e na), e] at nD
          cases nD
      refine q D got H2 hg (List.nodup_append.mp hnd).1 (fun c hc => abc_mem.mp (pm.mem_iff.mp (List.mem_append_left _ hc))) (PA2.less (by omega)) fr nD' hD
end
end V8
set_option Elab.async false
set_option linter.all false
set_option maxRecDepth 100000
set_option maxHeartbeats 4000000
/-! Tables of letters and images, as the law draws them. -/
namespace V8
open PySem PySem.Spec PyProof.Rows L2
abbrev Tab := List (Nat × List Nat)
def encT (t : Tab) : List (Key × V) := t.map fun q => (Sum.inr (L1 q.1), V.str (Sx q.2))
def lookT (t : Tab) (c : Nat) : Option (List Nat) := (t.find? fun q => decide (q.1 = c)).map (·.2)
def putT (t : Tab) (c : Nat) (s : List Nat) : Tab := if (t.any fun q => decide (q.1 = c)) = true then t.map (fun q => if q.1 = c then (q.1, s) else q) else t ++ [(c, s)]
theorem encT_len (t : Tab) : (encT t).length = t.length := List.length_map ..
theorem key_dec (a c : Nat) : decide ((Sum.inr (L1 a) : Key) = Sum.inr (L1 c)) = decide (a = c) := by
  by_cases h : a = c
  · subst h
    simp
  · rw [decide_eq_false h, decide_eq_false]
    intro e
    exact h (L1_inj (Sum.inr.inj e))
theorem key_iff (a c : Nat) : ((Sum.inr (L1 a) : Key) = Sum.inr (L1 c)) ↔ a = c := by
  have := key_dec a c
  constructor
  · intro e
    exact L1_inj (Sum.inr.inj e)
  · intro e
    rw [e]
theorem valV_enc (c : Nat) : ∀ t : Tab, valV (encT t) (Sum.inr (L1 c)) = (lookT t c).map fun s => V.str (Sx s)
  | [] => rfl
  | q :: t => by
    have ih := valV_enc c t
    by_cases h : q.1 = c
    · subst h
      show valV ((Sum.inr (L1 q.1), V.str (Sx q.2)) :: encT t) _ = _
      rw [valV_pos rfl]
      simp [lookT]
    · show valV ((Sum.inr (L1 q.1), V.str (Sx q.2)) :: encT t) _ = _
      rw [valV_neg (fun e => h ((key_iff _ _).mp e)), ih]
      simp [lookT, List.find?_cons, h]
theorem any_enc (c : Nat) : ∀ t : Tab, ((encT t).any fun kv => decide (kv.1 = (Sum.inr (L1 c) : Key))) = t.any fun q => decide (q.1 = c)
  | [] => rfl
  | q :: t => by
    show (decide ((Sum.inr (L1 q.1) : Key) = Sum.inr (L1 c)) || (encT t).any _) = _
    rw [any_enc c t, key_dec]
    rfl
theorem putK_enc (t : Tab) (c : Nat) (s : List Nat) : putK (encT t) (Sum.inr (L1 c)) (V.str (Sx s)) = encT (putT t c s) := by
  unfold putK putT
  rw [any_enc]
  split
  · unfold encT
    rw [List.map_map, List.map_map]
    refine List.map_congr_left fun q _ => ?_
    show (if (Sum.inr (L1 q.1) : Key) = Sum.inr (L1 c) then _ else _) = _
    by_cases h : q.1 = c
    · rw [if_pos ((key_iff _ _).mpr h)]
      simp [h]
    · rw [if_neg (fun e => h ((key_iff _ _).mp e))]
      simp [h]
  · unfold encT
    rw [List.map_append]
    rfl
theorem keys_put {t : Tab} {c : Nat} {s : List Nat} : ∀ x ∈ putT t c s, (x ∈ t ∨ x = (c, s)) := by
  intro x hx
  unfold putT at hx
  split at hx
  · obtain ⟨q, hq, e⟩ := List.mem_map.mp hx
    by_cases h : q.1 = c
    · rw [if_pos h] at e
      rw [← e, h]
      exact .inr rfl
    · rw [if_neg h] at e
      rw [← e]
      exact .inl hq
  · rcases List.mem_append.mp hx with h | h
    · exact .inl h
    · exact .inr (List.mem_singleton.mp h)
theorem put_nd {t : Tab} {c : Nat} {s : List Nat} (h : (t.map (·.1)).Nodup) : ((putT t c s).map (·.1)).Nodup := by
  unfold putT
  split
  · rw [List.map_map]
    have e : t.map ((·.1) ∘ fun q : Nat × List Nat => if q.1 = c then (q.1, s) else q) = t.map (·.1) := List.map_congr_left fun q _ => by
      show (if q.1 = c then (q.1, s) else q).1 = q.1
      split <;> rfl
    rw [e]
    exact h
  · rename_i hn
    rw [List.map_append]
    refine List.nodup_append.mpr ⟨h, by simp, fun x hx y hy e => ?_⟩
    have ey : y = c := by simpa using hy
    obtain ⟨q, hq, eq⟩ := List.mem_map.mp hx
    refine hn (List.any_eq_true.mpr ⟨q, hq, decide_eq_true ?_⟩)
    rw [eq, e, ey]
theorem put_len (t : Tab) (c : Nat) (s : List Nat) : (putT t c s).length ≤ t.length + 1 := by
  unfold putT
  split
  · rw [List.length_map]
    omega
  · rw [List.length_append]
    exact Nat.le_refl _
/-- an image that may be told -/
def GoodI (cs s : List Nat) : Prop := 1 ≤ s.length ∧ s.length ≤ 4 ∧ ∀ d ∈ s, d ∈ cs
structure GoodT (cs : List Nat) (t : Tab) : Prop where
  nd : (t.map (·.1)).Nodup
  key : ∀ q ∈ t, q.1 ∈ cs
  img : ∀ q ∈ t, GoodI cs q.2
theorem GoodT.nil {cs : List Nat} : GoodT cs [] := by
  refine ⟨List.nodup_nil, fun q h => ?_, fun q h => ?_⟩
  · cases h
  · cases h
theorem GoodT.put {cs : List Nat} {t : Tab} {c : Nat} {s : List Nat} (g : GoodT cs t) (hc : c ∈ cs) (hs : GoodI cs s) : GoodT cs (putT t c s) := by
  refine ⟨put_nd g.nd, fun q hq => ?_, fun q hq => ?_⟩
  · rcases keys_put q hq with h | rfl
    · exact g.key q h
    · exact hc
  · rcases keys_put q hq with h | rfl
    · exact g.img q h
    · exact hs
/-- joined signs -/
theorem join_L1 : ∀ cs : List Nat, Txt.join Str.empty (cs.map L1) = Sx cs := by
  intro cs
  rw [TL.join_eq]
  have h : TL.tl (Str.join Str.empty (cs.map L1)) = cs := by
    rw [TL.tl_join]
    have : ∀ l : List Nat, TL.joinL (TL.tl Str.empty) ((l.map L1).map TL.tl) = l := by
      intro l
      induction l with
      | nil => rfl
      | cons c r ih =>
        cases r with
        | nil => rfl
        | cons d r =>
          show TL.tl (L1 c) ++ (TL.tl Str.empty ++ TL.joinL (TL.tl Str.empty) ((((d :: r).map L1).map TL.tl))) = _
          rw [ih]
          rfl
    exact this cs
  have e2 : (Str.join Str.empty (cs.map L1)).cps.toList = cs := h
  show Str.join Str.empty (cs.map L1) = Sx cs
  unfold Sx
  cases hx : Str.join Str.empty (cs.map L1) with
  | mk a =>
    rw [hx] at e2
    have : a.toList = cs := e2
    rw [← this]
theorem sum_ones : ∀ l : List Nat, (l.map fun _ => 1).sum = l.length
  | [] => rfl
  | a :: r => by
    rw [List.map_cons, List.sum_cons, sum_ones r, List.length_cons]
    omega
theorem Sx_len (cs : List Nat) : (Sx cs).length = cs.length := by
  show cs.toArray.size = cs.length
  simp
abbrev s_any_image : Stmt := topS 73
abbrev n_any_image : List Str := ["_law_pen_here", "_law_some", "_law_many", "_law_k"]
theorem sc_any_image : FnScope ["_law_pen_here", "_law_some", "_law_many", "_law_k"] ["_law_pen_here", "_law_some"] (defScope s_any_image) := ⟨rfl, rfl, rfl, by decide +kernel, rfl, by decide +kernel, by decide +kernel⟩
abbrev s_escaped : Stmt := topS 72
theorem sc_escaped : FnScope ["_law_pen_here", "_law_some", "_law_tails", "_law_found", "_law_letter", "_law_stays"] ["_law_pen_here", "_law_some"] (defScope s_escaped) := ⟨rfl, rfl, rfl, by decide +kernel, rfl, by decide +kernel, by decide +kernel⟩
abbrev s_table : Stmt := topS 74
abbrev n_table : List Str := ["_law_pen_here", "_law_some", "_law_way", "_law_left", "_law_found", "_law_letter"]
theorem sc_table : FnScope ["_law_pen_here", "_law_some", "_law_way", "_law_left", "_law_found", "_law_letter"] ["_law_pen_here", "_law_some"] (defScope s_table) := ⟨rfl, rfl, rfl, by decide +kernel, rfl, by decide +kernel, by decide +kernel⟩
def spImage : Sp := fun vs H Q _ => ∃ (p l a : Addr) (ns : List Int) (n : Nat) (cs : List Nat), vs = [.ref p, .ref a] ∧ PenAt H p l ns (n + 5) ∧ H a = some (.lst (lets cs)) ∧ a ≠ p ∧ cs ≠ [] ∧ cs.length ≤ 26 ∧ (∀ c ∈ cs, isLt c) ∧
  ∀ (s : List Nat) (H' : Hp), GoodI cs s → PenAt H' p l ns n → Fr p H H' → Q (.str (Sx s)) H'
def spTab (cost : Nat) : Sp := fun vs H Q _ => ∃ (p l a : Addr) (ns : List Int) (n : Nat) (cs : List Nat), vs = [.ref p, .ref a] ∧ PenAt H p l ns (n + cost) ∧ H a = some (.lst (lets cs)) ∧ a ≠ p ∧ cs ≠ [] ∧ cs.Nodup ∧ cs.length ≤ 26 ∧ (∀ c ∈ cs, isLt c) ∧
  ∀ (d : Addr) (t : Tab) (H' : Hp), GoodT cs t → PenAt H' p l ns n → Fr p H H' → H d = none → H' d = some (.dK (encT t)) → Q (.ref d) H'
theorem Fr.back {p q : Addr} {H H1 : Hp} (f : Fr p H H1) (hn : H1 q = none) (hp : q ≠ p) : H q = none := by
  cases e : H q with
  | none => rfl
  | some o =>
    rw [f _ _ e hp] at hn
    cases hn
theorem PenAt.nep {H : Hp} {p l q : Addr} {ns : List Int} {n : Nat} (P : PenAt H p l ns n) (h : H q = none) : q ≠ p := by
  intro e
  subst e
  exact P.some' h
theorem PenAt.nel {H : Hp} {p l q : Addr} {ns : List Int} {n : Nat} (P : PenAt H p l ns n) (h : H q = none) : q ≠ l := by
  intro e
  subst e
  rw [P.nums] at h
  cases h
section
variable {P : Program} {w : World} {K : PySem.W.Frag} {mg : Str → Option Value} {base : Heap}
theorem ok_any_image {f : Addr} {fd : FuncData} (F : Fun K "_law_any_image" "_law_any_image" s_any_image f fd) (T : Blt mg) (D_pick : Df P w K mg base 2 "_law_pick" (spPick K)) : FnOk P w K mg base CX0 3 f fd ["_law_pen_here", "_law_some"] spImage := by
  refine F.ok sc_any_image (fun vs H Q E h => ?_) (fun cdv A outer s H vs Q E hr h => ?_)
  · obtain ⟨p, l, a, ns, n, cs, rfl, _⟩ := h
    rfl
  · obtain ⟨p, l, a, ns, n, cs, rfl, PA, ha, hap, hne, h26, hlt, q⟩ := h
    refine ⟨_, (pss_cons (ps_set (i := 2) sc_any_image.nd rfl (.inl rfl) (pe_c D_pick hr (by decide) (by rfl) (pa_cons (pv 0) (pa_cons (pe_lst (pa_cons pe_int (pa_cons pe_int (pa_cons pe_int (pa_cons pe_int (pa_cons pe_int (pa_cons pe_int pa_nil))))))) pa_nil))))
      (pss_one (ps_ret (pe_joinK (K := K) rfl pe_str (pe_lc (own := [("_law_k", 3)]) (g := gName 3) (by rfl) sc_any_image.nd (pi_range1 (by rfl) T.range (pa_cons (pv 2) pa_nil)) (blkOk_by (own := [("_law_k", 3)]) (N := n_any_image) (sc := defScope s_any_image) (by decide +kernel)) (fun _ _ _ _ _ => (pg_name (i := 3) sc_any_image.nd rfl (.inl rfl))) (fun _ _ _ _ _ => pts_nil) (fun _ _ _ _ _ => (pe_c D_pick hr (by decide) (by rfl) (pa_cons (pv 0) (pa_cons (pv 1) pa_nil))))))))), ?_⟩
    have hcs : 0 < cs.length := List.length_pos_iff.mpr hne
    -- pick(pen, [1, 1, 2, 2, 3, 4])
    refine ⟨.ref p, rfl, by decide, fun b nb => ?_⟩
    have hbp := PA.nep nb
    refine ⟨p, l, b, ns, n + 4, [.int 1, .int 1, .int 2, .int 2, .int 3, .int 4], rfl, PA.new nb, SqL.of upd_same, by decide, by decide, fun H' fr => SqL.of (fr _ _ upd_same hbp), fun v H1 hv PA1 fr1 => ?_⟩
    obtain ⟨k, rfl, k1, k4⟩ : ∃ k : Nat, v = .int k ∧ 1 ≤ k ∧ k ≤ 4 := by
      simp at hv
      rcases hv with rfl | rfl | rfl | rfl
      · exact ⟨1, rfl, by omega, by omega⟩
      · exact ⟨2, rfl, by omega, by omega⟩
      · exact ⟨3, rfl, by omega, by omega⟩
      · exact ⟨4, rfl, by omega, by omega⟩
    have fr01 : Fr p H H1 := (Fr.new nb).trans fr1
    -- ''.join([..])
    refine ⟨⟨_, rfl⟩, _, rfl, k, rfl, by omega, by omega, fun D nD => lc_range (lo := 0) (n := k) (fun i H2 => ∃ got : List Nat, got.length = i ∧ (∀ d ∈ got, d ∈ cs) ∧ H2 D = some (.lst (lets got)) ∧ PenAt H2 p l ns (n + (4 - i)) ∧ Fr p H H2) ?_ ?_ ?_⟩
    · exact ⟨[], rfl, fun d h => (by cases h), upd_same, (PA1.new nD).less (by omega), fr01.trans (Fr.new nD)⟩
    · rintro i H2 hi ⟨got, hg, hin, hD, PA2, fr2⟩
      have hDp := PA1.nep nD
      have ha2 := fr2 _ _ ha hap
      refine ⟨rfl, ⟨_, rfl, _, rfl, p, l, a, ns, n + (4 - (i + 1)), lets cs, rfl, PA2.less (by omega), SqL.of ha2, by rw [lets_len]; omega, by rw [lets_len]; omega, fun H' fr => SqL.of (fr _ _ ha2 hap), fun v H3 hv PA3 fr3 => ?_⟩⟩
      obtain ⟨c, hc, rfl⟩ := lets_mem hv
      have hD3 := fr3 _ _ hD hDp
      refine ⟨lets got, hD3, by rw [lets_len]; exact small1000 (by omega), got ++ [c], by simp [hg], ?_, by rw [upd_same, lets_snoc], PA3.other hDp (PA1.nel nD), (fr2.trans fr3).put (fr01.back nD hDp)⟩
      intro d hd
      rcases List.mem_append.mp hd with h | h
      · exact hin d h
      · rw [List.mem_singleton.mp h]
        exact hc
    · rintro H2 ⟨got, hg, hin, hD, PA2, fr2⟩
      refine ⟨Str.empty, D, got.map L1, rfl, rfl, .inl (by rw [List.map_map]; exact SqL.of hD), ?_, ?_⟩
      · have e : (got.map L1).map (·.length) = got.map fun _ => 1 := by
          rw [List.map_map]
          rfl
        rw [e, List.length_map]
        rw [sum_ones]
        show got.length + got.length * 0 ≤ _
        omega
      · rw [join_L1]
        exact q got H2 ⟨by omega, by omega, hin⟩ (PA2.less (by omega)) fr2
end
end V8
set_option Elab.async false
set_option linter.all false
set_option maxRecDepth 100000
set_option maxHeartbeats 4000000
namespace V8
open PySem PySem.Spec PyProof.Rows L2
section
variable {P : Program} {w : World} {K : PySem.W.Frag} {mg : Str → Option Value} {base : Heap}
theorem lets_get {cs : List Nat} {i : Nat} {x : V} (h : (lets cs)[i]? = some x) : ∃ hi : i < cs.length, x = .str (L1 cs[i]) := by
  unfold lets at h
  rw [List.getElem?_map] at h
  cases e : cs[i]? with
  | none =>
    rw [e] at h
    cases h
  | some c =>
    obtain ⟨hi, ec⟩ := List.getElem?_eq_some_iff.mp e
    rw [e] at h
    exact ⟨hi, by rw [ec]; exact (Option.some.inj h).symm⟩
theorem lets_at {cs : List Nat} {j : Nat} (hj : j < cs.length) : (lets cs)[j]? = some (.str (L1 cs[j])) := by
  unfold lets
  rw [List.getElem?_map, List.getElem?_eq_getElem hj]
  rfl
theorem seq_ix {j n : Nat} (h : j < n) : seqIndex? (j : Int) n = some j := by
  unfold seqIndex?
  simp
  omega
theorem erase_len {xs : List Nat} {k : Nat} (h : k < xs.length) : (xs.eraseIdx k).length = xs.length - 1 := List.length_eraseIdx_of_lt h
theorem goodI1 {cs : List Nat} {a : Nat} (h : a ∈ cs) : GoodI cs [a] := ⟨Nat.le_refl _, by show 1 ≤ 4; decide, fun x hx => by rw [List.mem_singleton.mp hx]; exact h⟩
theorem goodI2 {cs : List Nat} {a b : Nat} (h : a ∈ cs) (h' : b ∈ cs) : GoodI cs [a, b] := by
  refine ⟨by show 1 ≤ 2; decide, by show 2 ≤ 4; decide, fun x hx => ?_⟩
  rcases List.mem_cons.mp hx with e | hx
  · rw [e]
    exact h
  · rw [List.mem_singleton.mp hx]
    exact h'
theorem ok_escaped {f : Addr} {fd : FuncData} (F : Fun K "_law_escaped" "_law_escaped" s_escaped f fd) (T : Blt mg) (D_draw : Df P w K mg base 1 "_law_draw" spDraw) : FnOk P w K mg base CX0 2 f fd ["_law_pen_here", "_law_some"] (spTab 52) := by
  refine F.ok sc_escaped (fun vs H Q E h => ?_) (fun cdv A outer s H vs Q E hr h => ?_)
  · obtain ⟨p, l, a, ns, n, cs, rfl, _⟩ := h
    rfl
  · obtain ⟨p, l, a, ns, n, cs, rfl, PA, ha, hap, hne, hnd, h26, hlt, q⟩ := h
    refine ⟨_, (pss_cons (ps_par (i := 2) (j := 3) (by rfl) sc_escaped.nd rfl rfl (by decide) rfl rfl (pa_cons (pe_callTy (call_list_ofK (K := K) rfl) (by rfl) T.list (by decide +kernel) (pa_cons (pv 1) pa_nil)) (pa_cons pe_dnewK pa_nil)) (by rfl))
      (pss_cons (ps_for PassesOwn.never rfl (pi_list (pv 1)) (pg_name (i := 4) sc_escaped.nd rfl (.inl rfl))
        (pss_cons (ps_set (i := 5) sc_escaped.nd rfl (.inl rfl) (pe_and (pe_cmpR op_ne (pv 4) (pe_ix (ix_listK (K := K) rfl) (pv 1) pe_int (fun _ _ => rfl)) (nomark _)) (pe_one (pe_cmpR op_eq (pe_c D_draw hr (by decide) (by rfl) (pa_cons (pv 0) (pa_cons pe_int pa_nil))) pe_int (nomark _)))))
        (pss_one (ps_dput (hu_of hr) (pv 3) (pv 4) (pe_ifExp (pt_val (pv 5)) (pv 4) (pe_op op_add_str (pe_ix (ix_listK (K := K) rfl) (pv 1) pe_int (fun _ _ => rfl)) (pe_bmK (K := K) rfl PySem.F.plainAttrs_list PySem.F.slot_list_pop PySem.F.type_list_pop mt_popAt (pv 2) (pa_cons (pe_c D_draw hr (by decide) (by rfl) (pa_cons (pv 0) (pa_cons (pe_callB (call_len_seqK (K := K) rfl) (by rfl) T.len (by decide +kernel) (pa_cons (pv 2) pa_nil)) pa_nil))) pa_nil)))) rfl))))
      (pss_one (ps_ret (pv 3))))), ?_⟩
    have hcs : 0 < cs.length := List.length_pos_iff.mpr hne
    -- tails, found = list(some), {}
    refine ⟨.ref a, rfl, a, _, rfl, .inl (SqL.of ha), fun b nb d nd => ⟨_, _, rfl, ?_⟩⟩
    have hbp := PA.nep nb
    have hbl := PA.nel nb
    have PA1 := (PA.new (o := .lst (lets cs)) nb).new (o := .dK []) nd
    have hdp := (PA.new (o := .lst (lets cs)) nb).nep nd
    have hdl := (PA.new (o := .lst (lets cs)) nb).nel nd
    have hbd : b ≠ d := ne_of_none upd_same nd
    have hab : a ≠ b := ne_of_none ha nb
    have ndH : H d = none := (Fr.new (p := p) nb).back nd hdp
    have had : a ≠ d := ne_of_none ha ndH
    refine ⟨_, rfl, a, rfl, ⟨_, SqL.of (by rw [upd_ne had, upd_ne hab]; exact ha)⟩, for_list (K := K) (a := a) (xs := lets cs) (fun i σ H2 => ∃ (tails : List Nat) (t : Tab) (v4 v5 : Option V), σ = [some (.ref p), some (.ref a), some (.ref b), some (.ref d), v4, v5] ∧
        H2 a = some (.lst (lets cs)) ∧ H2 b = some (.lst (lets tails)) ∧ cs.length ≤ tails.length + i ∧ tails.length ≤ 26 ∧ (∀ x ∈ tails, x ∈ cs) ∧ H2 d = some (.dK (encT t)) ∧ t.length ≤ i ∧ GoodT cs t ∧ PenAt H2 p l ns (n + 2 * (26 - i)) ∧ Fr p H H2) ?_ ?_ ?_ ?_⟩
    · exact ⟨cs, [], none, none, rfl, by rw [upd_ne had, upd_ne hab]; exact ha, by rw [upd_ne hbd, upd_same], by omega, h26, fun x h => h, upd_same, Nat.le_refl _, GoodT.nil, PA1.less (by omega), (Fr.new nb).trans (Fr.new nd)⟩
    · rintro i σ H2 hi ⟨tails, t, v4, v5, rfl, ha2, _⟩
      exact SqL.of ha2
    · rintro i x σ H2 hx ⟨tails, t, v4, v5, rfl, ha2, hb2, htl, ht6, hts, hd2, htn, G, PA2, fr2⟩
      obtain ⟨hi, rfl⟩ := lets_get hx
      -- stays = letter != some[0] and draw(pen, 2) == 0
      refine ⟨_, rfl, _, rfl, a, _, 0, _, rfl, rfl, SqL.of ha2, atI_nat (j := 0) (lets_at hcs), rfl, _, rfl, ?_⟩
      refine ite2 (fun e => ?g1) (fun e => ?g2)
      case' g1 =>
        refine ⟨_, rfl, p, l, ns, n + 2 * (26 - (i + 1)) + 1, 2, rfl, PA2.less (by omega), by decide, by decide, fun v H3 v0 v1 PA3 fr3 => ?_⟩
        refine ⟨rfl, ?_⟩
        generalize decide (V.int v = V.int 0) = bb
      case' g2 =>
        have PA3 : PenAt H2 p l ns (n + 2 * (26 - (i + 1)) + 1) := PA2.less (by omega)
        have fr3 : Fr p H2 H2 := Fr.refl
        generalize false = bb
      all_goals
        have ha3 := fr3 _ _ ha2 hap
        have hb3 := fr3 _ _ hb2 hbp
        have hd3 := fr3 _ _ hd2 hdp
        refine ⟨_, rfl, _, rfl, ?_⟩
        refine ite2 (fun e5 => ?_) (fun e5 => ?_)
        · refine ⟨_, rfl, _, rfl, _, rfl, d, _, rfl, DPut.k (k := Sum.inr (L1 cs[i])) hd3 (by rw [encT_len]; exact small1000 (by omega)), ?_⟩
          have ep : putK (encT t) (Sum.inr (L1 cs[i])) (V.str (L1 cs[i])) = encT (putT t cs[i] [cs[i]]) := putK_enc t cs[i] [cs[i]]
          rw [ep]
          have hmem : cs[i] ∈ cs := List.getElem_mem hi
          refine ⟨tails, putT t cs[i] [cs[i]], _, _, rfl, by rw [upd_ne had]; exact ha3, by rw [upd_ne hbd]; exact hb3, by omega, ht6, hts, upd_same, Nat.le_trans (put_len t _ _) (by omega), G.put hmem (goodI1 hmem), (PA3.other hdp hdl).less (by omega), (fr2.trans fr3).put ndH⟩
        · have htp : 0 < tails.length := by omega
          refine ⟨_, rfl, a, _, 0, _, rfl, rfl, SqL.of ha3, atI_nat (j := 0) (lets_at hcs), ?_⟩
          refine ⟨_, rfl, .inl ⟨rfl, _, SqL.of hb3⟩, _, rfl, _, rfl, b, _, rfl, .inl (SqL.of hb3), p, l, ns, n + 2 * (26 - (i + 1)), _, rfl, PA3, by rw [lets_len]; omega, by rw [lets_len]; omega, fun v4 H4 w0 w1 PA4 fr4 => ?_⟩
          obtain ⟨j, rfl⟩ : ∃ j : Nat, v4 = j := ⟨v4.toNat, by omega⟩
          have hj : j < tails.length := by rw [lets_len] at w1; omega
          have hb4 := fr4 _ _ hb3 hbp
          have hd4 := fr4 _ _ hd3 hdp
          have ha4 := fr4 _ _ ha3 hap
          refine ⟨b, _, _, j, _, rfl, rfl, hb4, by omega, by omega, by rw [lets_len]; exact seq_ix hj, lets_at hj, _, _, rfl, rfl, by show 1 + 1 ≤ sizeLine; decide, ?_⟩
          refine ⟨_, rfl, _, rfl, d, _, rfl, DPut.k (k := Sum.inr (L1 cs[i])) (by rw [upd_ne (Ne.symm hbd)]; exact hd4) (by rw [encT_len]; exact small1000 (by omega)), ?_⟩
          have ep : putK (encT t) (Sum.inr (L1 cs[i])) (V.str (L1 cs[0] ++ L1 tails[j])) = encT (putT t cs[i] [cs[0], tails[j]]) := by
            rw [← putK_enc]
            rfl
          rw [ep]
          have hmem : cs[i] ∈ cs := List.getElem_mem hi
          have htm : tails[j] ∈ cs := hts _ (List.getElem_mem hj)
          refine ⟨tails.eraseIdx j, putT t cs[i] [cs[0], tails[j]], _, _, rfl, by rw [upd_ne had, upd_ne hab]; exact ha4, by rw [upd_ne hbd, upd_same, lets_erase], by rw [erase_len hj]; omega, by rw [erase_len hj]; omega, fun x hx => hts x (List.mem_of_mem_eraseIdx hx), upd_same,
            Nat.le_trans (put_len t _ _) (by omega), G.put hmem (goodI2 (List.getElem_mem hcs) htm), ((PA4.other hbp hbl).other hdp hdl).less (by omega), (((fr2.trans fr3).trans fr4).put nb).put ndH⟩
    · rintro σ H2 ⟨tails, t, v4, v5, rfl, ha2, hb2, htl, ht6, hts, hd2, htn, G, PA2, fr2⟩
      exact ⟨_, rfl, q d t H2 G (PA2.less (by omega)) fr2 ndH hd2⟩
end
end V8
set_option Elab.async false
set_option linter.all false
set_option maxRecDepth 100000
set_option maxHeartbeats 8000000
namespace V8
open PySem PySem.Spec PyProof.Rows L2
theorem nd_len : ∀ {a b : List Nat}, a.Nodup → (∀ x ∈ a, x ∈ b) → a.length ≤ b.length
  | [], _, _, _ => Nat.zero_le _
  | x :: a, b, h, hs => by
    have hx : x ∈ b := hs x (List.mem_cons_self ..)
    have h1 := List.nodup_cons.mp h
    have ih := nd_len (a := a) (b := b.erase x) h1.2 fun y hy => by
      have hne : y ≠ x := fun e => h1.1 (e ▸ hy)
      exact (List.mem_erase_of_ne hne).mpr (hs y (List.mem_cons_of_mem _ hy))
    rw [List.length_erase_of_mem hx] at ih
    have : 0 < b.length := List.length_pos_of_mem hx
    rw [List.length_cons]
    omega
theorem GoodT.len {cs : List Nat} {t : Tab} (g : GoodT cs t) : t.length ≤ cs.length := by
  have := nd_len g.nd fun x hx => by
    obtain ⟨q, hq, rfl⟩ := List.mem_map.mp hx
    exact g.key q hq
  rw [List.length_map] at this
  exact this
def mergeT (a b : Tab) : Tab := b.foldl (fun acc q => putT acc q.1 q.2) a
theorem mergeK_enc : ∀ (b a : Tab), mergeK (encT a) (encT b) = encT (mergeT a b)
  | [], _ => rfl
  | q :: b, a => by
    show mergeK (putK (encT a) (Sum.inr (L1 q.1)) (V.str (Sx q.2))) (encT b) = _
    rw [putK_enc, mergeK_enc b]
    rfl
theorem GoodT.merge {cs : List Nat} : ∀ {b a : Tab}, GoodT cs a → (∀ q ∈ b, q.1 ∈ cs ∧ GoodI cs q.2) → GoodT cs (mergeT a b)
  | [], _, g, _ => g
  | q :: b, a, g, h => by
    have h1 := h q (List.mem_cons_self ..)
    exact GoodT.merge (b := b) (a := putT a q.1 q.2) (g.put h1.1 h1.2) fun x hx => h x (List.mem_cons_of_mem _ hx)
/-- tuples of a letter and its image stand at ps -/
def PairsAt (H : Hp) (ps : List Addr) (t : Tab) : Prop := Paired (fun b (q : Nat × List Nat) => H b = some (.tup [V.str (L1 q.1), V.str (Sx q.2)])) ps t
theorem PairsAt.mono {H H' : Hp} {ps : List Addr} {t : Tab} (h : PairsAt H ps t) (k : ∀ b xs, H b = some (.tup xs) → H' b = some (.tup xs)) : PairsAt H' ps t := Paired.mapP h fun _ _ e => k _ _ e
theorem PairsAt.snoc {H : Hp} : ∀ {ps : List Addr} {t : Tab} {b : Addr} {q : Nat × List Nat}, PairsAt H ps t → H b = some (.tup [V.str (L1 q.1), V.str (Sx q.2)]) → PairsAt H (ps ++ [b]) (t ++ [q])
  | _, _, _, _, .nil, e => .cons e .nil
  | _, _, _, _, .cons h r, e => .cons h (PairsAt.snoc r e)
theorem PairsAt.sq {K : PySem.W.Frag} {H : Hp} : ∀ {ps : List Addr} {t : Tab}, PairsAt H ps t → Paired (fun p (kv : Key × V) => SqT K H p [kV kv.1, kv.2]) ps (encT t)
  | _, _, .nil => .nil
  | _, _, .cons h r => .cons (.inl (.inl h)) (PairsAt.sq r)
theorem PairsAt.len {H : Hp} {ps : List Addr} {t : Tab} (h : PairsAt H ps t) : ps.length = t.length := Paired.length h
theorem tup_fr {p : Addr} {xs : List V} {H H' : Hp} (f : Fr p H H') (hp : H p = some (.lst xs)) : ∀ b ys, H b = some (.tup ys) → H' b = some (.tup ys) := fun b ys e => f b _ e (ne_of e hp (fun z => nomatch z))
theorem tup_upd {D : Addr} {xs : List V} {o : HO} {H : Hp} (hp : H D = some (.lst xs)) : ∀ b ys, H b = some (.tup ys) → upd H D o b = some (.tup ys) := fun b ys e => by
  rw [upd_ne (ne_of e hp (fun z => nomatch z))]
  exact e
theorem tup_new {q : Addr} {o : HO} {H : Hp} (hp : H q = none) : ∀ b ys, H b = some (.tup ys) → upd H q o b = some (.tup ys) := fun b ys e => by
  rw [upd_ne (ne_of_none e hp)]
  exact e
theorem PenAt.pen {H : Hp} {p l : Addr} {ns : List Int} {n : Nat} (P : PenAt H p l ns n) : ∃ xs, H p = some (.lst xs) := by
  obtain ⟨⟨s, g, h1, _⟩, _⟩ := P
  exact ⟨_, h1⟩
theorem enc_at {t : Tab} {i : Nat} {k : Key} {v : V} (h : (encT t)[i]? = some (k, v)) : ∃ hi : i < t.length, k = Sum.inr (L1 t[i].1) ∧ v = V.str (Sx t[i].2) := by
  unfold encT at h
  rw [List.getElem?_map] at h
  cases e : t[i]? with
  | none =>
    rw [e] at h
    cases h
  | some c =>
    obtain ⟨hi, ec⟩ := List.getElem?_eq_some_iff.mp e
    rw [e] at h
    have h' := Option.some.inj h
    refine ⟨hi, ?_, ?_⟩
    · rw [ec]
      exact (congrArg Prod.fst h').symm
    · rw [ec]
      exact (congrArg Prod.snd h').symm
theorem look_at : ∀ {t : Tab} {i : Nat}, (t.map (·.1)).Nodup → ∀ hi : i < t.length, lookT t t[i].1 = some t[i].2
  | [], i, _, hi => absurd hi (Nat.not_lt_zero _)
  | q :: t, 0, _, _ => by
    unfold lookT
    simp
  | q :: t, i + 1, h, hi => by
    have hi' : i < t.length := by simpa using hi
    have h1 := List.nodup_cons.mp (by simpa using h : (q.1 :: t.map (·.1)).Nodup)
    have hne : ¬ q.1 = t[i].1 := fun e => h1.1 (e ▸ List.mem_map_of_mem (List.getElem_mem hi'))
    have ih := look_at (t := t) (i := i) h1.2 hi'
    show lookT (q :: t) t[i].1 = some t[i].2
    unfold lookT at ih ⊢
    rw [List.find?_cons_of_neg (by simpa using hne)]
    exact ih
section
variable {P : Program} {w : World} {K : PySem.W.Frag} {mg : Str → Option Value} {base : Heap}
theorem ok_table {f : Addr} {fd : FuncData} (F : Fun K "_law_table" "_law_table" s_table f fd) (T : Blt mg) (D_draw : Df P w K mg base 1 "_law_draw" spDraw) (D_escaped : Df P w K mg base 2 "_law_escaped" (spTab 52)) (D_any_image : Df P w K mg base 3 "_law_any_image" spImage) : FnOk P w K mg base CX0 4 f fd ["_law_pen_here", "_law_some"] (spTab 260) := by
  refine F.ok sc_table (fun vs H Q E h => ?_) (fun cdv A outer s H vs Q E hr h => ?_)
  · obtain ⟨p, l, a, ns, n, cs, rfl, _⟩ := h
    rfl
  · obtain ⟨p, l, a, ns, n, cs, rfl, PA, ha, hap, hne, hnd, h26, hlt, q⟩ := h
    refine ⟨_, (pss_cons (ps_asg (pe_tup (pa_cons (pe_c D_draw hr (by decide) (by rfl) (pa_cons (pv 0) (pa_cons pe_int pa_nil))) (pa_cons (pe_callTy (call_list_ofK (K := K) rfl) (by rfl) T.list (by decide +kernel) (pa_cons (pv 1) pa_nil)) (pa_cons pe_dnewK pa_nil)))) (pg_tup (by rfl) (pgs_cons (pg_name (i := 2) sc_table.nd rfl (.inl rfl)) (pgs_cons (pg_name (i := 3) sc_table.nd rfl (.inl rfl)) (pgs_cons (pg_name (i := 4) sc_table.nd rfl (.inr rfl)) pgs_nil)))))
      (pss_cons (ps_if (pt_cmpR op_lt (pv 2) pe_int (nomark _))
        (pss_one (ps_set (i := 4) sc_table.nd rfl (.inr rfl) (pe_c D_escaped hr (by decide) (by rfl) (pa_cons (pv 0) (pa_cons (pv 1) pa_nil)))))
        pss_nil)
      (pss_cons (ps_for PassesOwn.never rfl (pi_list (pv 1)) (pg_name (i := 5) sc_table.nd rfl (.inl rfl))
        (pss_one (ps_if (pt_cmpR op_eq (pv 2) pe_int (nomark _))
          (pss_one (ps_dput (hu_of hr) (pv 4) (pv 5) (pe_bmK (K := K) rfl PySem.F.plainAttrs_list PySem.F.slot_list_pop PySem.F.type_list_pop mt_popAt (pv 3) (pa_cons (pe_c D_draw hr (by decide) (by rfl) (pa_cons (pv 0) (pa_cons (pe_callB (call_len_seqK (K := K) rfl) (by rfl) T.len (by decide +kernel) (pa_cons (pv 3) pa_nil)) pa_nil))) pa_nil)) rfl))
          (pss_one (ps_if (pt_cmpR op_gt (pv 2) pe_int (nomark _))
            (pss_one (ps_dput (hu_of hr) (pv 4) (pv 5) (pe_ifExp (pt_cmpR op_eq (pe_c D_draw hr (by decide) (by rfl) (pa_cons (pv 0) (pa_cons pe_int pa_nil))) pe_int (nomark _)) (pv 5) (pe_c D_any_image hr (by decide) (by rfl) (pa_cons (pv 0) (pa_cons (pv 1) pa_nil)))) rfl))
            pss_nil)))))
      (pss_cons (ps_if (pt_cmpR op_gt (pe_c D_draw hr (by decide) (by rfl) (pa_cons (pv 0) (pa_cons pe_int pa_nil))) pe_int (nomark _))
        (pss_one (ps_ret (pv 4)))
        pss_nil)
      (pss_one (ps_ret (pe_callTy (call_dictP rfl) (by rfl) T.dict (by decide +kernel) (pa_cons (pe_lock (pe_lc (own := [("_law_letter", 5)]) (g := gName 5) (by rfl) sc_table.nd (pi_keys (pv 4)) (blkOk_by (own := [("_law_letter", 5)]) (N := n_table) (sc := defScope s_table) (by decide +kernel)) (fun _ _ _ _ _ => (pg_name (i := 5) sc_table.nd rfl (.inl rfl))) (fun _ _ _ _ _ => (pts_one (pt_cmpR op_gt (pe_c D_draw hr (by decide) (by rfl) (pa_cons (pv 0) (pa_cons pe_int pa_nil))) pe_int (nomark _)))) (fun _ _ _ _ _ => (pe_tup (pa_cons (pv 5) (pa_cons (pe_dget (hu_of hr) (pv 4) (pv 5) (fun _ _ => rfl)) pa_nil)))))) pa_nil)))))))), ?_⟩
    have hcs : 0 < cs.length := List.length_pos_iff.mpr hne
    -- way, left, found = draw(pen, 6), list(some), {}
    refine ⟨_, rfl, p, l, ns, n + 259, 6, rfl, PA.less (by omega), by decide, by decide, fun way H1 y0 y1 PA1 fr1 => ?_⟩
    have ha1 := fr1 _ _ ha hap
    refine ⟨.ref a, rfl, a, _, rfl, .inl (SqL.of ha1), fun b nb d nd => ⟨by show 3 ≤ sizeLine; decide, fun tp ntp => ?_⟩⟩
    refine ⟨tp, [.int way, .ref b, .ref d], rfl, .inl (.inl upd_same), rfl, _, _, rfl, _, _, rfl, _, _, rfl, rfl, ?_⟩
    have hbp := PA1.nep nb
    have hbl := PA1.nel nb
    have PAb := PA1.new (o := .lst (lets cs)) nb
    have hdp := PAb.nep nd
    have hdl := PAb.nel nd
    have PAd := PAb.new (o := .dK []) nd
    have hbd : b ≠ d := ne_of_none upd_same nd
    have hab : a ≠ b := ne_of_none ha1 nb
    have had : a ≠ d := by
      refine ne_of_none (o := .lst (lets cs)) ?_ nd
      rw [upd_ne hab]
      exact ha1
    have htd : d ≠ tp := ne_of_none upd_same ntp
    have htb : b ≠ tp := ne_of_none (o := .lst (lets cs)) (by rw [upd_ne hbd]; exact upd_same) ntp
    have hta : a ≠ tp := ne_of_none (o := .lst (lets cs)) (by rw [upd_ne had, upd_ne hab]; exact ha1) ntp
    have nbH : H b = none := fr1.back nb hbp
    have ndH : H d = none := (fr1.trans (Fr.new nb)).back nd hdp
    have PAx := (PAd.new (o := .tup [.int way, .ref b, .ref d]) ntp).less (m := n + 259) (by omega)
    have frx : Fr p H (upd (upd (upd H1 b (.lst (lets cs))) d (.dK [])) tp (.tup [.int way, .ref b, .ref d])) := ((fr1.trans (Fr.new nb)).trans (Fr.new nd)).trans (Fr.new ntp)
    have hax : upd (upd (upd H1 b (.lst (lets cs))) d (.dK [])) tp (.tup [.int way, .ref b, .ref d]) a = some (.lst (lets cs)) := by rw [upd_ne hta, upd_ne had, upd_ne hab]; exact ha1
    have hbx : upd (upd (upd H1 b (.lst (lets cs))) d (.dK [])) tp (.tup [.int way, .ref b, .ref d]) b = some (.lst (lets cs)) := by rw [upd_ne htb, upd_ne hbd, upd_same]
    have hdx : upd (upd (upd H1 b (.lst (lets cs))) d (.dK [])) tp (.tup [.int way, .ref b, .ref d]) d = some (.dK (encT [])) := by rw [upd_ne htd, upd_same]; rfl
    generalize upd (upd (upd H1 b (.lst (lets cs))) d (.dK [])) tp (.tup [.int way, .ref b, .ref d]) = Hx at PAx frx hax hbx hdx ⊢
    clear PAd PAb nd ntp nb
    -- if way < 2: found = escaped(pen, some)
    refine ⟨_, rfl, way, 2, rfl, rfl, _, rfl, ?_⟩
    refine ite2 (fun e => ?g1) (fun e => ?g2)
    case' g1 =>
      refine ⟨_, rfl, _, rfl, p, l, a, ns, n + 207, cs, rfl, PAx.less (by omega), hax, hap, hne, hnd, h26, hlt, fun d2 t2 H3 G2 PA3 fr3 nd2 hd2 => ?_⟩
      have ha3 := fr3 _ _ hax hap
      have hb3 := fr3 _ _ hbx hbp
      have hbd2 : b ≠ d2 := ne_of_none hbx nd2
      have had2 : a ≠ d2 := ne_of_none hax nd2
      have hd2p := PAx.nep nd2
      have hd2l := PAx.nel nd2
      have nd2H : H d2 = none := frx.back nd2 hd2p
      have fr03 := frx.trans fr3
    case' g2 =>
      obtain ⟨d2, rfl⟩ : ∃ d2, d2 = d := ⟨d, rfl⟩
      have G2 : GoodT cs [] := GoodT.nil
      have PA3 : PenAt Hx p l ns (n + 207) := PAx.less (by omega)
      have ha3 := hax
      have hb3 := hbx
      have hd2 := hdx
      have hbd2 := hbd
      have had2 := had
      have hd2p := hdp
      have hd2l := hdl
      have nd2H := ndH
      have fr03 := frx
    all_goals
      refine ⟨_, rfl, a, rfl, ⟨_, SqL.of ha3⟩, for_list (K := K) (a := a) (xs := lets cs) (fun i σ H2 => ∃ (left : List Nat) (t : Tab) (v5 : Option V), σ = [some (.ref p), some (.ref a), some (.int way), some (.ref b), some (.ref d2), v5] ∧
        H2 a = some (.lst (lets cs)) ∧ H2 b = some (.lst (lets left)) ∧ (way = 2 → cs.length ≤ left.length + i) ∧ left.length ≤ 26 ∧ (∀ x ∈ left, x ∈ cs) ∧ H2 d2 = some (.dK (encT t)) ∧ GoodT cs t ∧ PenAt H2 p l ns (n + 30 + 6 * (26 - i)) ∧ Fr p H H2) ?_ ?_ ?_ ?_⟩
      · exact ⟨cs, _, none, rfl, ha3, hb3, fun _ => by omega, h26, fun x h => h, hd2, G2, PA3.less (by omega), fr03⟩
      · rintro i σ H2 hi ⟨left, t, v5, rfl, ha2, _⟩
        exact SqL.of ha2
      · rintro i x σ H2 hx ⟨left, t, v5, rfl, ha2, hb2, hl2, hl6, hls, hd4, G, PA2, fr2⟩
        obtain ⟨hi, rfl⟩ := lets_get hx
        have hmem : cs[i] ∈ cs := List.getElem_mem hi
        have tl26 := G.len
        have small : (encT t).length < sizeLine := by rw [encT_len]; exact small1000 (by omega)
        refine ⟨_, rfl, rfl, _, rfl, ?_⟩
        refine ite2 (fun e2 => ?_) (fun e2 => ?_)
        · have ew : way = 2 := V.int.inj (of_decide_eq_true e2)
          have hlp := hl2 ew
          refine ⟨_, rfl, .inl ⟨rfl, _, SqL.of hb2⟩, _, rfl, _, rfl, b, _, rfl, .inl (SqL.of hb2), p, l, ns, n + 30 + 6 * (26 - (i + 1)), _, rfl, PA2.less (by omega), by rw [lets_len]; omega, by rw [lets_len]; omega, fun v4 H4 w0 w1 PA4 fr4 => ?_⟩
          obtain ⟨j, rfl⟩ : ∃ j : Nat, v4 = j := ⟨v4.toNat, by omega⟩
          have hj : j < left.length := by rw [lets_len] at w1; omega
          have hb4 := fr4 _ _ hb2 hbp
          have hd5 := fr4 _ _ hd4 hd2p
          have ha4 := fr4 _ _ ha2 hap
          refine ⟨b, _, _, j, _, rfl, rfl, hb4, by omega, by omega, by rw [lets_len]; exact seq_ix hj, lets_at hj, ?_⟩
          refine ⟨_, rfl, _, rfl, d2, _, rfl, DPut.k (k := Sum.inr (L1 cs[i])) (by rw [upd_ne (Ne.symm hbd2)]; exact hd5) small, ?_⟩
          have ep : putK (encT t) (Sum.inr (L1 cs[i])) (V.str (L1 left[j])) = encT (putT t cs[i] [left[j]]) := putK_enc t cs[i] [left[j]]
          rw [ep]
          have htm : left[j] ∈ cs := hls _ (List.getElem_mem hj)
          exact ⟨left.eraseIdx j, putT t cs[i] [left[j]], _, rfl, by rw [upd_ne had2, upd_ne hab]; exact ha4, by rw [upd_ne hbd2, upd_same, lets_erase], fun _ => by rw [erase_len hj]; omega, by rw [erase_len hj]; omega, fun x hx => hls x (List.mem_of_mem_eraseIdx hx), upd_same,
            G.put hmem (goodI1 htm), (PA4.other hbp hbl).other hd2p hd2l, ((fr2.trans fr4).put nbH).put nd2H⟩
        · have ew : way ≠ 2 := fun z => e2 (by rw [z]; decide)
          refine ⟨_, rfl, _, _, rfl, rfl, _, rfl, ?_⟩
          refine ite2 (fun e3 => ?_) (fun e3 => ?_)
          · refine ⟨_, rfl, p, l, ns, n + 35 + 6 * (26 - (i + 1)), 3, rfl, PA2.less (by omega), by decide, by decide, fun v4 H4 w0 w1 PA4 fr4 => ⟨rfl, _, rfl, ?_⟩⟩
            have hb4 := fr4 _ _ hb2 hbp
            have hd5 := fr4 _ _ hd4 hd2p
            have ha4 := fr4 _ _ ha2 hap
            refine ite2 (fun e4 => ?_) (fun e4 => ?_)
            · refine ⟨_, rfl, _, rfl, _, rfl, d2, _, rfl, DPut.k (k := Sum.inr (L1 cs[i])) hd5 small, ?_⟩
              have ep : putK (encT t) (Sum.inr (L1 cs[i])) (V.str (L1 cs[i])) = encT (putT t cs[i] [cs[i]]) := putK_enc t cs[i] [cs[i]]
              rw [ep]
              exact ⟨left, putT t cs[i] [cs[i]], _, rfl, by rw [upd_ne had2]; exact ha4, by rw [upd_ne hbd2]; exact hb4, fun z => absurd z ew, hl6, hls, upd_same, G.put hmem (goodI1 hmem), (PA4.other hd2p hd2l).less (by omega), (fr2.trans fr4).put nd2H⟩
            · refine ⟨_, rfl, _, rfl, p, l, a, ns, n + 30 + 6 * (26 - (i + 1)), cs, rfl, PA4.less (by omega), ha4, hap, hne, h26, hlt, fun s H5 gs PA5 fr5 => ?_⟩
              have hb6 := fr5 _ _ hb4 hbp
              have hd6 := fr5 _ _ hd5 hd2p
              have ha6 := fr5 _ _ ha4 hap
              refine ⟨_, rfl, _, rfl, d2, _, rfl, DPut.k (k := Sum.inr (L1 cs[i])) hd6 small, ?_⟩
              rw [putK_enc]
              exact ⟨left, putT t cs[i] s, _, rfl, by rw [upd_ne had2]; exact ha6, by rw [upd_ne hbd2]; exact hb6, fun z => absurd z ew, hl6, hls, upd_same, G.put hmem gs, (PA5.other hd2p hd2l).less (by omega), ((fr2.trans fr4).trans fr5).put nd2H⟩
          · exact ⟨left, t, _, rfl, ha2, hb2, fun z => absurd z ew, hl6, hls, hd4, G, PA2.less (by omega), fr2⟩
      · rintro σ H2 ⟨left, t, v5, rfl, ha2, hb2, hl2, hl6, hls, hd4, G, PA2, fr2⟩
        have tl26 := G.len
        refine ⟨_, rfl, p, l, ns, n + 29, 3, rfl, PA2.less (by omega), by decide, by decide, fun v4 H4 w0 w1 PA4 fr4 => ⟨_, _, rfl, rfl, _, rfl, ?_⟩⟩
        have hd5 := fr4 _ _ hd4 hd2p
        refine ite2 (fun e4 => ?_) (fun e4 => ?_)
        · exact ⟨_, rfl, q d2 t H4 G (PA4.less (by omega)) (fr2.trans fr4) nd2H hd5⟩
        · refine ⟨d2, _, hd5, True.intro, fun od => ⟨_, rfl, d2, od, rfl, .inl ⟨_, upd_same, fun D nD => lc_it walk_keys (fun i H2 => ∃ (ps : List Addr) (t2 : Tab), (∀ x ∈ t2, x.1 ∈ cs ∧ GoodI cs x.2) ∧ ps.length ≤ i ∧ H2 D = some (.lst (ps.map V.ref)) ∧ PairsAt H2 ps t2 ∧
            H2 d2 = some (.frz od (.dK (encT t))) ∧ PenAt H2 p l ns (n + (29 - i)) ∧ Fr p H H2) ?_ ?_ ?_ ?_⟩⟩⟩
          · have hDd : d2 ≠ D := ne_of_none upd_same nD
            refine ⟨[], [], fun x h => (by cases h), Nat.le_refl _, upd_same, .nil, by rw [upd_ne hDd, upd_same], ((PA4.other hd2p hd2l).new nD).less (by omega), ((fr2.trans fr4).put nd2H).trans (Fr.new nD)⟩
          · rintro i H2 hi ⟨ps, t2, _, _, _, _, h, _⟩
            exact h
          · rintro i x H2 H2' hi ⟨ps, t2, ht2, hps, hD, hpa, hfz, PA5, fr5⟩ ⟨rfl, k, v, hk, rfl⟩
            obtain ⟨hit, rfl, rfl⟩ := enc_at hk
            have hDp : D ≠ p := (PA4.other (o := .frz od (.dK (encT t))) hd2p hd2l).nep nD
            have hDl : D ≠ l := (PA4.other (o := .frz od (.dK (encT t))) hd2p hd2l).nel nD
            have nDH : H D = none := ((fr2.trans fr4).put (a := d2) nd2H).back nD hDp
            refine ⟨rfl, _, rfl, p, l, ns, n + (29 - (i + 1)), 3, rfl, PA5.less (by omega), by decide, by decide, fun v6 H6 u0 u1 PA6 fr6 => ⟨_, _, rfl, rfl, _, rfl, ?_⟩⟩
            obtain ⟨pl, hpl⟩ := PA5.pen
            have hpa6 := hpa.mono (tup_fr fr6 hpl)
            have hD6 := fr6 _ _ hD hDp
            have hfz6 := fr6 _ _ hfz hd2p
            refine ite2 (fun e6 => ?_) (fun e6 => ?_)
            · refine ⟨_, rfl, _, rfl, _, rfl, d2, V.str (Sx t[i].2), rfl, .inl ⟨_, Sum.inr (L1 t[i].1), .inr ⟨od, hfz6⟩, rfl, ?_⟩, by show 2 ≤ sizeLine; decide, fun tq ntq => ?_⟩
              · rw [valV_enc, look_at G.nd hit]
                rfl
              · have htD : D ≠ tq := ne_of_none hD6 ntq
                refine ⟨ps.map V.ref, by rw [upd_ne htD]; exact hD6, by rw [List.length_map]; exact small1000 (by omega), ps ++ [tq], t2 ++ [t[i]], ?_, by rw [List.length_append]; exact Nat.succ_le_succ hps, ?_, ?_, ?_, ?_, ?_⟩
                · intro x hx
                  rcases List.mem_append.mp hx with h | h
                  · exact ht2 x h
                  · rw [List.mem_singleton.mp h]
                    exact ⟨G.key _ (List.getElem_mem hit), G.img _ (List.getElem_mem hit)⟩
                · rw [upd_same, List.map_append]
                  rfl
                · refine PairsAt.snoc ((hpa6.mono (tup_new ntq)).mono (tup_upd (by rw [upd_ne htD]; exact hD6))) ?_
                  exact (upd_ne (Ne.symm htD)).trans upd_same
                · rw [upd_ne (ne_of hfz6 hD6 (fun z => nomatch z)), upd_ne (ne_of_none hfz6 ntq)]
                  exact hfz6
                · exact ((PA6.new ntq).other hDp hDl)
                · exact ((fr5.trans fr6).trans (Fr.new ntq)).put nDH
            · exact ⟨ps, t2, ht2, by omega, hD6, hpa6, hfz6, PA6, fr5.trans fr6⟩
          · rintro H2 ⟨ps, t2, ht2, hps, hD, hpa, hfz, PA5, fr5⟩
            have hDd : D ≠ d2 := ne_of hD hfz (fun z => nomatch z)
            refine ⟨hfz, D, ps, encT t2, rfl, SqL.of (by rw [upd_ne hDd]; exact hD), (PairsAt.sq (hpa.mono fun b ys e => by rw [upd_ne (ne_of e hfz (fun z => nomatch z))]; exact e)), fun r nr => ?_⟩
            have em : mergeK [] (encT t2) = encT (mergeT [] t2) := mergeK_enc t2 []
            rw [em]
            have PA7 := (PA5.other (o := .dK (encT t)) hd2p hd2l)
            have fr7 := fr5.put (a := d2) (o := .dK (encT t)) nd2H
            exact q r (mergeT [] t2) _ (GoodT.merge GoodT.nil ht2) ((PA7.new nr).less (by omega)) (fr7.trans (Fr.new nr)) (fr7.back nr (PA7.nep nr)) upd_same
end
end V8
set_option Elab.async false
set_option linter.all false
set_option maxRecDepth 100000
set_option maxHeartbeats 8000000
/-! Letters, texts, images: the program's own tests. -/
namespace V8
open PySem PySem.Spec PyProof.Rows L2
abbrev s_is_letter : Stmt := topS 20
theorem sc_is_letter : FnScope ["value"] ["value"] (defScope s_is_letter) := ⟨rfl, rfl, rfl, by decide +kernel, rfl, by decide +kernel, by decide +kernel⟩
abbrev s_is_text : Stmt := topS 21
theorem sc_is_text : FnScope ["value"] ["value"] (defScope s_is_text) := ⟨rfl, rfl, rfl, by decide +kernel, rfl, by decide +kernel, by decide +kernel⟩
abbrev s_all_letters : Stmt := topS 22
theorem sc_all_letters : FnScope ["string"] ["string"] (defScope s_all_letters) := ⟨rfl, rfl, rfl, by decide +kernel, rfl, by decide +kernel, by decide +kernel⟩
abbrev s_is_image : Stmt := topS 33
theorem sc_is_image : FnScope ["value"] ["value"] (defScope s_is_image) := ⟨rfl, rfl, rfl, by decide +kernel, rfl, by decide +kernel, by decide +kernel⟩
abbrev s_told_images : Stmt := topS 35
abbrev n_told_images : List Str := ["images", "keeps", "key", "letter", "kept"]
theorem sc_told_images : FnScope ["images", "keeps", "key", "letter", "kept"] ["images", "keeps"] (defScope s_told_images) := ⟨rfl, rfl, rfl, by decide +kernel, rfl, by decide +kernel, by decide +kernel⟩
/-- what the top has left, of the names and of the two classes -/
structure Tx (K : PySem.W.Frag) (mg : Str → Option Value) (CM CJ : Addr) : Prop extends Blt mg where
  isinstance : mg "isinstance" = none
  iter : mg "iter" = none
  gLETTERS : GV mg "LETTERS" (.str abcS)
  gLONGEST : GV mg "LONGEST" (.int 2000)
  gLONGEST_TOLD : GV mg "LONGEST_TOLD" (.int 4)
  gMOST_LETTERS : GV mg "MOST_LETTERS" (.int 12)
  gMisreading : GV mg "Misreading" (.ref CM)
  gJoined : GV mg "Joined" (.ref CJ)
  dJ : PySem.W.kitOne K (.type "dict") (.ref CJ) = some false
  dM : PySem.W.kitOne K (.type "dict") (.ref CM) = some false
  sM : PySem.W.kitOne K (.type "str") (.ref CM) = some false
  iM : PySem.W.kitOne K (.type "int") (.ref CM) = some false
  cl : Cls K CM
  nL : NoAttr K CM "_letters"
  nI : NoAttr K CM "_images"
  nC : NoAttr K CM "changed"
  tA : PySem.W.findIn K (.ref CM) "__class__" = some (some (.builtin "object.__class__"))
  tB : PySem.W.specialIn K (.builtin "object.__class__") "__get__" = some (some (.builtin "getset_descriptor.__get__"))
  tC : PySem.W.takesIn K (.builtin "object.__class__") = some true
  tD : PySem.W.mroIn K CM (.type "object") = some true
  ne : PySem.W.findIn K (.ref CM) "__ne__" = some (some (.builtin "object.__ne__"))
  fd : PySem.W.notFirst K CM (.type "dict") = true
  fs : PySem.W.notFirst K CM (.type "str") = true
  fi : PySem.W.notFirst K CM (.type "int") = true
def spIsLetter (K : PySem.W.Frag) : Sp := fun vs H Q _ => ∃ x, vs = [x] ∧ ((∃ c, x = .str (L1 c) ∧ Q (.bl (decide (c ∈ abc))) H) ∨ (∃ z, x = .str z ∧ z.length ≤ sizeLine ∧ z.length ≠ 1 ∧ Q (.bl false) H) ∨ (∃ t, TyX K H x t ∧ PySem.W.kitOne K t (.type "str") = some false ∧ Q (.bl false) H))
def spAllLetters : Sp := fun vs H Q _ => ∃ cs : List Nat, vs = [.str (Sx cs)] ∧ (∀ c ∈ cs, isLt c) ∧ cs.length ≤ 2000 ∧ Q (.bl true) H
def spIsText : Sp := spAllLetters
def spIsImage : Sp := fun vs H Q _ => ∃ s : List Nat, vs = [.str (Sx s)] ∧ (1 ≤ s.length ∧ s.length ≤ 4 ∧ ∀ d ∈ s, isLt d) ∧ Q (.bl true) H
theorem tw_all {p : Nat → Bool} : ∀ {l : List Nat}, (∀ c ∈ l, p c = true) → l.takeWhile p = l
  | [], _ => rfl
  | a :: r, h => by
    rw [List.takeWhile_cons, if_pos (h a (List.mem_cons_self ..)), tw_all fun c hc => h c (List.mem_cons_of_mem _ hc)]
theorem strip_all {cs : List Nat} (h : ∀ c ∈ cs, isLt c) : (Txt.stripChars (Sx cs) abcS).length = 0 := by
  have ha : ∀ c ∈ cs, abcS.cps.contains c = true := fun c hc => by
    have h1 : c ∈ abcS.cps.toList := by
      rw [abcS_cps]
      exact abc_mem.mpr (h c hc)
    exact Array.contains_iff_mem.mpr (Array.mem_toList_iff.mp h1)
  have hl : stripLo abcS.cps.contains true (Sx cs) = cs.length := by
    unfold stripLo
    rw [if_pos rfl]
    show (List.takeWhile abcS.cps.contains cs).length = cs.length
    rw [tw_all ha]
  unfold Txt.stripChars
  rw [stripBy_eq, hl]
  have e := TL.tl_strSub (Sx cs) cs.length (stripHi abcS.cps.contains true (Sx cs) cs.length)
  have e2 : TL.tl (Sx cs) = cs := rfl
  rw [e2, List.drop_length, List.take_nil] at e
  have e3 := congrArg List.length e
  exact e3
theorem dec_t {p : Prop} [Decidable p] (h : p) : V.bl (decide p) = V.bl true := by rw [decide_eq_true h]
theorem ty_str {K : PySem.W.Frag} {H : Hp} (z : Str) : TyX K H (.str z) (.type "str") := .base (.str z)
section
variable {P : Program} {w : World} {K : PySem.W.Frag} {mg : Str → Option Value} {base : Heap} {CM CJ : Addr}
theorem ok_is_letter {f : Addr} {fd : FuncData} (F : Fun K "is_letter" "is_letter" s_is_letter f fd) (T : Tx K mg CM CJ) : FnOk P w K mg base CX0 1 f fd ["value"] (spIsLetter K) := by
  refine F.ok sc_is_letter (fun vs H Q E h => ?_) (fun cdv A outer s H vs Q E hr h => ?_)
  · obtain ⟨x, rfl, _⟩ := h
    rfl
  · obtain ⟨x, rfl, h⟩ := h
    refine ⟨_, (pss_one (ps_ret (pe_and (pe_callB call_isi (by rfl) T.isinstance (by decide +kernel) (pa_cons (pv 0) (pa_cons (pe_bltn (v := .ty "str") (by rfl) T.str (by decide +kernel) rfl) pa_nil))) (pe_and (pe_cmpR op_eq (pe_callB call_len_str (by rfl) T.len (by decide +kernel) (pa_cons (pv 0) pa_nil)) pe_int (nomark _)) (pe_one (pe_cmpR op_in_sign (pv 0) (pe_gv T.gLETTERS (by rfl)) rfl)))))), ?_⟩
    rcases h with ⟨c, rfl, q⟩ | ⟨z, rfl, hz, h1, q⟩ | ⟨t, ty, e, q⟩
    · refine ⟨_, rfl, _, .ty "str", .type "str", .type "str", true, rfl, .ty _, ty_str _, kit_ty (by decide +kernel), true, rfl, ?_⟩
      refine ⟨_, rfl, _, rfl, by show 1 ≤ sizeLine; decide, rfl, true, rfl, ?_⟩
      refine ⟨_, rfl, c, abcS, rfl, rfl, ?_⟩
      rw [abcS_cps]
      exact q
    · refine ⟨_, rfl, _, .ty "str", .type "str", .type "str", true, rfl, .ty _, ty_str _, kit_ty (by decide +kernel), true, rfl, ?_⟩
      refine ⟨_, rfl, _, rfl, hz, rfl, false, ?_, ?_⟩
      · rw [decide_eq_false]
        intro e
        have e' := V.int.inj e
        omega
      · exact q
    · exact ⟨_, rfl, _, .ty "str", t, .type "str", false, rfl, .ty _, ty, e, false, rfl, q⟩
theorem ok_all_letters {f : Addr} {fd : FuncData} (F : Fun K "all_letters" "all_letters" s_all_letters f fd) (T : Tx K mg CM CJ) : FnOk P w K mg base CX0 1 f fd ["string"] spAllLetters := by
  refine F.ok sc_all_letters (fun vs H Q E h => ?_) (fun cdv A outer s H vs Q E hr h => ?_)
  · obtain ⟨cs, rfl, _⟩ := h
    rfl
  · obtain ⟨cs, rfl, hl, hn, q⟩ := h
    refine ⟨_, (pss_one (ps_ret (pe_notTK (K := K) rfl (pe_bmK (K := K) rfl PySem.F.plainAttrs_str PySem.F.slot_str_strip PySem.F.type_str_strip mt_stripChars (pv 0) (pa_cons (pe_gv T.gLETTERS (by rfl)) pa_nil))))), ?_⟩
    have hz : (Sx cs).length ≤ sizeLine := by rw [Sx_len, sizeLine_eq]; omega
    refine ⟨_, rfl, rfl, _, abcS, rfl, rfl, hz, false, ⟨?_, ?_⟩, q⟩
    · exact Nat.le_trans (len_stripChars _ _) hz
    · rw [strip_all hl]
      rfl
theorem ok_is_text {f : Addr} {fd : FuncData} (F : Fun K "is_text" "is_text" s_is_text f fd) (T : Tx K mg CM CJ) (D_all_letters : Df P w K mg base 1 "all_letters" spAllLetters) : FnOk P w K mg base CX0 2 f fd ["value"] spIsText := by
  refine F.ok sc_is_text (fun vs H Q E h => ?_) (fun cdv A outer s H vs Q E hr h => ?_)
  · obtain ⟨cs, rfl, _⟩ := h
    rfl
  · obtain ⟨cs, rfl, hl, hn, q⟩ := h
    refine ⟨_, (pss_one (ps_ret (pe_and (pe_callB call_isi (by rfl) T.isinstance (by decide +kernel) (pa_cons (pv 0) (pa_cons (pe_bltn (v := .ty "str") (by rfl) T.str (by decide +kernel) rfl) pa_nil))) (pe_and (pe_cmpR op_le (pe_callB call_len_str (by rfl) T.len (by decide +kernel) (pa_cons (pv 0) pa_nil)) (pe_gv T.gLONGEST (by rfl)) (nomark _)) (pe_one (pe_c D_all_letters hr (by decide) (by rfl) (pa_cons (pv 0) pa_nil))))))), ?_⟩
    have hz : (Sx cs).length ≤ sizeLine := by rw [Sx_len, sizeLine_eq]; omega
    refine ⟨_, rfl, _, .ty "str", .type "str", .type "str", true, rfl, .ty _, ty_str _, kit_ty (by decide +kernel), true, rfl, ?_⟩
    refine ⟨_, rfl, _, rfl, hz, _, _, rfl, rfl, true, ?_, ?_⟩
    · rw [Sx_len]
      exact dec_t (show (cs.length : Int) ≤ 2000 by omega)
    · exact ⟨_, rfl, cs, rfl, hl, hn, q⟩
theorem ok_is_image {f : Addr} {fd : FuncData} (F : Fun K "is_image" "is_image" s_is_image f fd) (T : Tx K mg CM CJ) (D_is_text : Df P w K mg base 2 "is_text" spIsText) : FnOk P w K mg base CX0 3 f fd ["value"] spIsImage := by
  refine F.ok sc_is_image (fun vs H Q E h => ?_) (fun cdv A outer s H vs Q E hr h => ?_)
  · obtain ⟨cs, rfl, _⟩ := h
    rfl
  · obtain ⟨cs, rfl, ⟨g1, g4, gl⟩, q⟩ := h
    refine ⟨_, (pss_one (ps_ret (pe_and (pe_c D_is_text hr (by decide) (by rfl) (pa_cons (pv 0) pa_nil)) (pe_one (pe_chain op_le op_le pe_int (pe_callB call_len_str (by rfl) T.len (by decide +kernel) (pa_cons (pv 0) pa_nil)) (pe_gv T.gLONGEST_TOLD (by rfl))))))), ?_⟩
    have hz : (Sx cs).length ≤ sizeLine := by rw [Sx_len, sizeLine_eq]; omega
    refine ⟨_, rfl, cs, rfl, gl, by omega, true, rfl, ?_⟩
    refine ⟨_, rfl, _, rfl, hz, _, _, rfl, rfl, true, ?_, ?_⟩
    · rw [Sx_len]
      exact dec_t (show (1 : Int) ≤ (cs.length : Int) by omega)
    · refine ⟨_, _, rfl, rfl, ?_⟩
      rw [Sx_len]
      have e := dec_t (show (cs.length : Int) ≤ 4 by omega)
      show Q (V.bl (decide ((cs.length : Int) ≤ 4))) H
      rw [e]
      exact q
/-- the letters that stay, as a table -/
def keepT (st : List Nat) : Tab := mergeT [] (st.map fun c => (c, [c]))
theorem keepT_good {cs st : List Nat} (hs : ∀ c ∈ st, c ∈ cs) (hl : ∀ c ∈ cs, isLt c) : GoodT cs (keepT st) := GoodT.merge GoodT.nil fun q hq => by
  obtain ⟨c, hc, rfl⟩ := List.mem_map.mp hq
  exact ⟨hs c hc, goodI1 (hs c hc)⟩
def toldT (st : List Nat) (t : Tab) : Tab := mergeT (mergeT [] (keepT st)) t
theorem toldT_good {cs st : List Nat} {t : Tab} (hs : ∀ c ∈ st, c ∈ cs) (hl : ∀ c ∈ cs, isLt c) (g : GoodT cs t) : GoodT cs (toldT st t) := by
  have g1 := keepT_good hs hl
  exact GoodT.merge (GoodT.merge GoodT.nil fun q hq => ⟨g1.key q hq, g1.img q hq⟩) fun q hq => ⟨g.key q hq, g.img q hq⟩
def spTold : Sp := fun vs H Q _ => ∃ (d : Addr) (cs st : List Nat) (t : Tab), vs = [.ref d, .str (Sx st)] ∧ H d = some (.dK (encT t)) ∧ GoodT cs t ∧ cs.length ≤ 26 ∧ (∀ c ∈ cs, isLt c) ∧ (∀ c ∈ st, c ∈ cs) ∧ st.length ≤ 500 ∧
  ∀ (r : Addr) (H' : Hp), Same H H' → H r = none → H' r = some (.dK (encT (toldT st t))) → Q (.ref r) H'
theorem Same.upd_back {H : Hp} {d : Addr} {o u : HO} (h : H d = some u) : upd (upd H d o) d u = H := by
  rw [upd_upd]
  funext b
  by_cases hb : b = d
  · rw [hb, upd_same, h]
  · rw [upd_ne hb]
theorem sx_at {st : List Nat} {i : Nat} {c : Nat} (h : (Sx st).cps[i]? = some c) : st[i]? = some c := by
  have : (Sx st).cps = st.toArray := rfl
  rw [this] at h
  simpa using h
theorem sx_size (st : List Nat) : (Sx st).cps.size = st.length := by
  show st.toArray.size = _
  simp
theorem look_in : ∀ {t : Tab} {c : Nat} {s : List Nat}, lookT t c = some s → (c, s) ∈ t := by
  intro t c s h
  unfold lookT at h
  cases e : t.find? (fun q => decide (q.1 = c)) with
  | none =>
    rw [e] at h
    cases h
  | some q =>
    rw [e] at h
    have h1 := List.find?_some e
    have h2 := List.mem_of_find?_eq_some e
    have h3 : q.1 = c := by simpa using h1
    have h4 : q.2 = s := by simpa using h
    rw [← h3, ← h4]
    exact h2
theorem keep_take {cs st : List Nat} (hs : ∀ c ∈ st, c ∈ cs) (hl : ∀ c ∈ cs, isLt c) (i : Nat) : GoodT cs (mergeT [] ((st.take i).map fun c => (c, [c]))) := keepT_good (st := st.take i) (fun c hc => hs c (List.mem_of_mem_take hc)) hl
theorem keep_succ {st : List Nat} {i c : Nat} (h : st[i]? = some c) : mergeT [] ((st.take (i + 1)).map fun c => (c, [c])) = putT (mergeT [] ((st.take i).map fun c => (c, [c]))) c [c] := by
  rw [List.take_add_one, h, List.map_append]
  unfold mergeT
  rw [List.foldl_append]
  rfl
theorem ok_told_images {f : Addr} {fd : FuncData} (F : Fun K "told_images" "told_images" s_told_images f fd) (T : Tx K mg CM CJ) (D_is_letter : Df P w K mg base 1 "is_letter" (spIsLetter K)) (D_is_text : Df P w K mg base 2 "is_text" spIsText)
    (D_is_image : Df P w K mg base 3 "is_image" spIsImage) : FnOk P w K mg base CX0 4 f fd ["images", "keeps"] spTold := by
  refine F.ok sc_told_images (fun vs H Q E h => ?_) (fun cdv A outer s H vs Q E hr h => ?_)
  · obtain ⟨d, cs, st, t, rfl, _⟩ := h
    rfl
  · obtain ⟨d, cs, st, t, rfl, hd, G, h26, hlt, hst, hs5, q⟩ := h
    refine ⟨_, (pss_cons (ps_if (pt_not (pt_val (pe_callB call_isi (by rfl) T.isinstance (by decide +kernel) (pa_cons (pv 0) (pa_cons (pe_bltn (v := .ty "dict") (by rfl) T.dict (by decide +kernel) rfl) pa_nil)))))
        (pss_one ps_never)
        pss_nil)
      (pss_cons (ps_lock (ps_for PassesOwn.never rfl (pi_keys (pv 0)) (pg_name (i := 2) sc_told_images.nd rfl (.inl rfl))
        (pss_one (ps_if (pt_not (pt_val (pe_c D_is_letter hr (by decide) (by rfl) (pa_cons (pv 2) pa_nil))))
          (pss_one ps_never)
          pss_nil))))
      (pss_cons (ps_for PassesOwn.never rfl (pi_str (pe_gv T.gLETTERS (by rfl))) (pg_name (i := 3) sc_told_images.nd rfl (.inl rfl))
        (pss_one (ps_if (PW.pt (pw_and (pt_cmp (pc_din (hu_of hr) (pv 3) (pv 0))) (pw_and1 (pt_not (pt_val (pe_c D_is_image hr (by decide) (by rfl) (pa_cons (pe_dget (hu_of hr) (pv 0) (pv 3) (fun _ _ => rfl)) pa_nil)))))))
          (pss_one ps_never)
          pss_nil)))
      (pss_cons (ps_if (pt_not (pt_val (pe_c D_is_text hr (by decide) (by rfl) (pa_cons (pv 1) pa_nil))))
        (pss_one ps_never)
        pss_nil)
      (pss_cons (ps_setDc (j := 4) (own := [("letter", 3)]) (g := gName 3) (by rfl) sc_told_images.nd rfl rfl (sw_trueD rfl rfl rfl (by decide +kernel)) (pi_str (pv 1)) (blkOk_by (own := [("letter", 3)]) (N := n_told_images) (sc := defScope s_told_images) (by decide +kernel)) (fun _ _ _ _ _ => (pg_name (i := 3) sc_told_images.nd rfl (.inl rfl))) (fun _ _ _ _ _ => pts_nil) (fun _ _ _ _ _ => (pv 3)) (fun _ _ _ _ _ => (pv 3)))
      (pss_one (ps_ret (pe_merge2 (pv 4) (pv 0))))))))), ?_⟩
    have tl := G.len
    -- isinstance(images, dict)
    refine ⟨_, rfl, _, .ty "dict", .type "dict", .type "dict", true, rfl, .ty _, .base (.dK hd), kit_ty (by decide +kernel), true, rfl, ?_⟩
    refine iteF ?_
    -- for key in images
    refine ⟨d, _, hd, True.intro, fun od => ⟨_, rfl, d, od, rfl, .inl ⟨_, upd_same, for_it walk_keys (fun i σ H2 => ∃ v2, σ = [some (.ref d), some (.str (Sx st)), v2, none, none] ∧ H2 = upd H d (.frz od (.dK (encT t)))) ⟨none, rfl, rfl⟩ ?_ ?_ ?_⟩⟩⟩
    · rintro i σ H2 hi ⟨v2, rfl, rfl⟩
      exact upd_same
    · rintro i x σ H2 H2' hi ⟨v2, rfl, rfl⟩ ⟨rfl, k, v, hk, rfl⟩
      obtain ⟨hit, rfl, rfl⟩ := enc_at hk
      have hc : t[i].1 ∈ abc := abc_mem.mpr (hlt _ (G.key _ (List.getElem_mem hit)))
      refine ⟨_, rfl, _, rfl, .inl ⟨t[i].1, rfl, ?_⟩⟩
      rw [decide_eq_true hc]
      exact ⟨true, rfl, iteF ⟨_, rfl, rfl⟩⟩
    · rintro σ H2 ⟨v2, rfl, rfl⟩
      refine ⟨upd_same, ?_⟩
      rw [Same.upd_back hd]
      -- for letter in LETTERS
      refine ⟨abcS, rfl, for_it walk_str (fun i σ H2 => ∃ v3, σ = [some (.ref d), some (.str (Sx st)), v2, v3, none] ∧ H = H2) ⟨none, rfl, rfl⟩ ?_ ?_ ?_⟩
      · rintro i σ H2 hi _
        trivial
      · rintro i x σ H2 H2' hi ⟨v3, rfl, rfl⟩ ⟨rfl, c, hc, rfl⟩
        refine ⟨_, rfl, _, rfl, d, _, rfl, DGet.k (k := Sum.inr (L1 c)) hd, _, rfl, ?_⟩
        rw [valV_enc]
        cases e : lookT t c with
        | none =>
          refine iteF ?_
          exact ⟨_, rfl, rfl⟩
        | some s =>
          refine iteT ?_
          refine ⟨_, rfl, _, rfl, d, V.str (Sx s), rfl, .inl ⟨_, Sum.inr (L1 c), .inl hd, rfl, by rw [valV_enc, e]; rfl⟩, s, rfl, ⟨(G.img _ (look_in e)).1, (G.img _ (look_in e)).2.1, fun z hz => hlt z ((G.img _ (look_in e)).2.2 z hz)⟩, true, rfl, ?_⟩
          exact ⟨_, rfl, rfl⟩
      · rintro σ H2 ⟨v3, rfl, rfl⟩
        -- is_text(keeps)
        refine ⟨_, rfl, st, rfl, fun c hc => hlt c (hst c hc), by omega, true, rfl, iteF ?_⟩
        -- kept
        refine ⟨_, rfl, Sx st, rfl, fun D nD => dc_it walk_str (fun i H3 => H3 = upd H D (.dK (encT (mergeT [] ((st.take i).map fun c => (c, [c])))))) ?_ ?_ ?_ ?_⟩
        · rfl
        · rintro i H3 hi _
          trivial
        · rintro i x H3 H3' hi rfl ⟨rfl, c, hc, rfl⟩
          have hc' := sx_at hc
          rw [sx_size] at hi
          have gk := keep_take (cs := cs) hst hlt i
          refine ⟨rfl, _, rfl, _, rfl, _, Sum.inr (L1 c), rfl, upd_same, by rw [encT_len]; have := gk.len; exact small1000 (by omega), ?_⟩
          rw [upd_upd]
          have ep : putK (encT (mergeT [] ((st.take i).map fun c => (c, [c])))) (Sum.inr (L1 c)) (V.str ⟨#[c]⟩) = encT (mergeT [] ((st.take (i + 1)).map fun c => (c, [c]))) := by
            rw [keep_succ hc']
            exact putK_enc _ c [c]
          rw [ep]
        · rintro H3 rfl
          rw [sx_size, List.take_length]
          have gk := keepT_good hst hlt
          have lk := gk.len
          have hdD : d ≠ D := ne_of_none hd nD
          -- {**kept, **images}
          have em : mergeK [] (encT (keepT st)) = encT (mergeT [] (keepT st)) := mergeK_enc (keepT st) []
          have gm : GoodT cs (mergeT [] (keepT st)) := GoodT.merge GoodT.nil fun x hx => ⟨gk.key x hx, gk.img x hx⟩
          have lm := gm.len
          refine fun r nr => ?_
          have hDr : D ≠ r := ne_of_none (H := upd H D (.dK (encT (keepT st)))) upd_same nr
          have hdr : d ≠ r := by
            refine ne_of_none (H := upd H D (.dK (encT (keepT st)))) (o := .dK (encT t)) ?_ nr
            rw [upd_ne hdD]
            exact hd
          refine ⟨_, rfl, D, encT (keepT st), rfl, hDr, upd_same, .inl ?_, by rw [encT_len]; omega, ?_⟩
          · rw [upd_ne hDr, upd_same]
            rfl
          · rw [em]
            refine ⟨_, rfl, d, encT (mergeT [] (keepT st)), encT t, rfl, hdr, upd_same, by rw [encT_len]; omega, .inl ?_, by rw [encT_len]; omega, ?_⟩
            · rw [upd_ne hdr, upd_ne hdr, upd_ne hdD]
              exact hd
            · rw [mergeK_enc]
              have s1 : Same H (upd H D (.dK (encT (keepT st)))) := fun b o e => by
                rw [upd_ne (ne_of_none e nD)]
                exact e
              have nrH : H r = none := s1.free nr
              refine q r _ (fun b o e => ?_) nrH upd_same
              have hb := ne_of_none e nrH
              rw [upd_ne hb, upd_ne hb, upd_ne hb]
              exact s1 b o e
end
end V8
set_option Elab.async false
set_option linter.all false
set_option maxRecDepth 100000
set_option maxHeartbeats 8000000
/-! The class Misreading, as far as the law asks it. -/
namespace V8
open PySem PySem.Spec PyProof.Rows L2
abbrev s_Misreading_init : Stmt := inClass (topS 32) 0
abbrev n_Misreading_init : List Str := ["self", "images", "keeps", "told", "letter"]
theorem sc_Misreading_init : FnScope ["self", "images", "keeps", "told", "letter"] ["self", "images", "keeps"] (defScope s_Misreading_init) := ⟨rfl, rfl, rfl, by decide +kernel, rfl, by decide +kernel, by decide +kernel⟩
abbrev s_Misreading_iter : Stmt := inClass (topS 32) 3
theorem sc_Misreading_iter : FnScope ["self"] ["self"] (defScope s_Misreading_iter) := ⟨rfl, rfl, rfl, by decide +kernel, rfl, by decide +kernel, by decide +kernel⟩
abbrev s_Misreading_getitem : Stmt := inClass (topS 32) 4
theorem sc_Misreading_getitem : FnScope ["self", "at"] ["self", "at"] (defScope s_Misreading_getitem) := ⟨rfl, rfl, rfl, by decide +kernel, rfl, by decide +kernel, by decide +kernel⟩
abbrev s_Misreading_str : Stmt := inClass (topS 32) 16
abbrev n_Misreading_str : List Str := ["self", "letter"]
theorem sc_Misreading_str : FnScope ["self", "letter"] ["self"] (defScope s_Misreading_str) := ⟨rfl, rfl, rfl, by decide +kernel, rfl, by decide +kernel, by decide +kernel⟩
def keysOf (u : Tab) : List Nat := abc.filter fun c => (lookT u c).isSome
def ims (u : Tab) : Tab := (keysOf u).map fun c => (c, (lookT u c).getD [])
def chg (u : Tab) : List Nat := (keysOf u).filter fun c => decide (lookT u c ≠ some [c])
theorem kLI : ¬ (("_letters" : Str) = "_images") := by decide +kernel
theorem kLC : ¬ (("_letters" : Str) = "changed") := by decide +kernel
theorem kIC : ¬ (("_images" : Str) = "changed") := by decide +kernel
def f1 (a : Addr) : List (Str × V) := putF "_letters" (.ref a) []
def f2 (a b : Addr) : List (Str × V) := putF "_images" (.ref b) (f1 a)
def f3 (a b c : Addr) : List (Str × V) := putF "changed" (.ref c) (f2 a b)
theorem f1_L (a : Addr) : (f1 a).lookup ("_letters" : Str) = some (.ref a) := by
  unfold f1
  rw [lookup_putF, if_pos rfl]
theorem f2_L (a b : Addr) : (f2 a b).lookup ("_letters" : Str) = some (.ref a) := by
  unfold f2
  rw [lookup_putF, if_neg kLI]
  exact f1_L a
theorem f3_L (a b c : Addr) : (f3 a b c).lookup ("_letters" : Str) = some (.ref a) := by
  unfold f3
  rw [lookup_putF, if_neg kLC]
  exact f2_L a b
theorem f3_I (a b c : Addr) : (f3 a b c).lookup ("_images" : Str) = some (.ref b) := by
  unfold f3 f2
  rw [lookup_putF, if_neg kIC, lookup_putF, if_pos rfl]
theorem f1_len (a : Addr) : (f1 a).length < 1000 := by
  show 1 < 1000
  decide
theorem f2_len (a b : Addr) : (f2 a b).length < 1000 := by
  have e : f2 a b = [(("_letters" : Str), V.ref a), ("_images", V.ref b)] := by
    show (if ("_letters" : Str) = "_images" then [(("_letters" : Str), V.ref b)] else (("_letters" : Str), V.ref a) :: [(("_images" : Str), V.ref b)]) = _
    rw [if_neg kLI]
  rw [e]
  show 2 < 1000
  decide
/-- a Misreading stands at x: its images are those of the table u, letters ascending -/
structure MisAt (C : Addr) (H : Hp) (x : Addr) (u : Tab) : Prop where
  at_ : ∃ dx a b c, H x = some (.ins C dx (f3 a b c)) ∧ H a = some (.tup (lets (keysOf u))) ∧ H b = some (.dK (encT (ims u))) ∧ H c = some (.tup (lets (chg u)))
theorem MisAt.mono {C : Addr} {H H' : Hp} {x : Addr} {u : Tab} (m : MisAt C H x u) (k : ∀ b o, H b = some o → (∀ xs, o ≠ .lst xs) → H' b = some o) : MisAt C H' x u := by
  obtain ⟨dx, a, b, c, h1, h2, h3, h4⟩ := m.at_
  exact ⟨dx, a, b, c, k _ _ h1 (fun _ z => nomatch z), k _ _ h2 (fun _ z => nomatch z), k _ _ h3 (fun _ z => nomatch z), k _ _ h4 (fun _ z => nomatch z)⟩
/-- .. made of what is new behind H0 -/
structure MisN (C : Addr) (H0 H : Hp) (x : Addr) (u : Tab) : Prop where
  at_ : ∃ dx a b c, H x = some (.ins C dx (f3 a b c)) ∧ H a = some (.tup (lets (keysOf u))) ∧ H b = some (.dK (encT (ims u))) ∧ H c = some (.tup (lets (chg u))) ∧ H0 a = none ∧ H0 b = none ∧ H0 c = none
theorem MisN.mis {C : Addr} {H0 H : Hp} {x : Addr} {u : Tab} (m : MisN C H0 H x u) : MisAt C H x u := by
  obtain ⟨dx, a, b, c, h1, h2, h3, h4, _⟩ := m.at_
  exact ⟨dx, a, b, c, h1, h2, h3, h4⟩
theorem keysOf_sub (u : Tab) : ∀ c ∈ keysOf u, isLt c := fun c h => abc_mem.mp (List.mem_filter.mp h).1
theorem keysOf_len (u : Tab) : (keysOf u).length ≤ 26 := by
  have := List.length_filter_le (fun c => (lookT u c).isSome) abc
  rw [abc_len] at this
  exact this
theorem keysOf_nd (u : Tab) : (keysOf u).Nodup := abc_nd.filter _
def spInit (CM : Addr) : Sp := fun vs H Q _ => ∃ (x dx d : Addr) (cs st : List Nat) (t : Tab), vs = [.ref x, .ref d, .str (Sx st)] ∧ H x = some (.ins CM dx []) ∧ H d = some (.dK (encT t)) ∧ GoodT cs t ∧ ((toldT st t).length ≤ 12 ∧ cs.length ≤ 26) ∧ (∀ c ∈ cs, isLt c) ∧ (∀ c ∈ st, c ∈ cs) ∧ st.length ≤ 500 ∧
  ∀ H', MisN CM H H' x (toldT st t) → (∀ b o, H b = some o → b ≠ x → H' b = some o) → Q .non H'
section
variable {P : Program} {w : World} {K : PySem.W.Frag} {mg : Str → Option Value} {base : Heap} {CM CJ : Addr}
theorem some_put (u : Tab) (i : Nat) (c : Nat) (h : abc[i]? = some c) : (abc.take (i + 1)).filter (fun c => (lookT u c).isSome) = (abc.take i).filter (fun c => (lookT u c).isSome) ++ (if (lookT u c).isSome = true then [c] else []) := by
  rw [List.take_add_one, h, List.filter_append]
  congr 1
  show List.filter _ [c] = _
  by_cases e : (lookT u c).isSome = true
  · rw [if_pos e]
    exact List.filter_eq_self.mpr (fun x hx => by rw [List.mem_singleton.mp hx]; exact e)
  · rw [if_neg e]
    simp [e]
theorem ims_succ {ks : List Nat} {u : Tab} {i : Nat} {s : List Nat} (nd : ks.Nodup) (hi : i < ks.length) (e : (lookT u ks[i]).getD [] = s) : putT ((ks.take i).map fun c => (c, (lookT u c).getD [])) ks[i] s = (ks.take (i + 1)).map fun c => (c, (lookT u c).getD []) := by
  have hn : ¬ (((ks.take i).map fun c => (c, (lookT u c).getD [])).any fun q => decide (q.1 = ks[i])) = true := by
    intro h
    obtain ⟨q, hq, e1⟩ := List.any_eq_true.mp h
    obtain ⟨c, hc, rfl⟩ := List.mem_map.mp hq
    have e2 : c = ks[i] := by simpa using e1
    obtain ⟨j, hj, ej⟩ := List.getElem_of_mem hc
    rw [List.length_take] at hj
    rw [List.getElem_take] at ej
    have : j = i := (List.getElem_inj nd).mp (ej.trans e2)
    omega
  unfold putT
  rw [if_neg hn, List.take_add_one, List.getElem?_eq_getElem hi, List.map_append]
  show _ = _ ++ [(ks[i], (lookT u ks[i]).getD [])]
  rw [e]
theorem chg_succ {u : Tab} {i : Nat} {ks : List Nat} (hi : i < ks.length) : (ks.take (i + 1)).filter (fun c => decide (lookT u c ≠ some [c])) = (ks.take i).filter (fun c => decide (lookT u c ≠ some [c])) ++ (if decide (lookT u ks[i] ≠ some [ks[i]]) = true then [ks[i]] else []) := by
  rw [List.take_add_one, List.getElem?_eq_getElem hi, List.filter_append]
  congr 1
  show List.filter _ [ks[i]] = _
  rw [List.filter_cons]
  rfl
theorem ok_init {f : Addr} {fd : FuncData} {dvs : List V} (F : FunD K "__init__" "Misreading.__init__" (defArgs s_Misreading_init) (defBody s_Misreading_init) (defScope s_Misreading_init) dvs [] f fd) (T : Tx K mg CM CJ) (D_told_images : Df P w K mg base 4 "told_images" spTold) : FnOk P w K mg base CX0 5 f fd ["self", "images", "keeps"] (spInit CM) := by
  refine F.ok sc_Misreading_init (fun vs H Q E h => ?_) (fun cdv A outer s H vs Q E hr h => ?_)
  · obtain ⟨x, dx, d, cs, st, t, rfl, _⟩ := h
    rfl
  · obtain ⟨x, dx, d, cs, st, t, rfl, hx, hd, G, ⟨h12, h26⟩, hlt, hst, hs5, q⟩ := h
    refine ⟨_, (pss_cons (ps_set (i := 3) sc_Misreading_init.nd rfl (.inr rfl) (pe_ifExp (pt_val (pe_callB call_isi (by rfl) T.isinstance (by decide +kernel) (pa_cons (pv 1) (pa_cons (pe_gv T.gJoined (by rfl)) pa_nil)))) (pe_fldK (K := K) rfl (pv 1) rfl) (pe_c D_told_images hr (by decide) (by rfl) (pa_cons (pv 1) (pa_cons (pv 2) pa_nil)))))
      (pss_cons (ps_if (pt_cmpR op_gt (pe_callB call_lenD (by rfl) T.len (by decide +kernel) (pa_cons (pv 3) pa_nil)) (pe_gv T.gMOST_LETTERS (by rfl)) (nomark _))
        (pss_one ps_never)
        pss_nil)
      (pss_cons (ps_fld (pv 0) (pe_callTy (call_tuple_ofK (K := K) rfl) (by rfl) T.tuple (by decide +kernel) (pa_cons (pe_lc (own := [("letter", 4)]) (g := gName 4) (by rfl) sc_Misreading_init.nd (pi_str (pe_gv T.gLETTERS (by rfl))) (blkOk_by (own := [("letter", 4)]) (N := n_Misreading_init) (sc := defScope s_Misreading_init) (by decide +kernel)) (fun _ _ _ _ _ => (pg_name (i := 4) sc_Misreading_init.nd rfl (.inl rfl))) (fun _ _ _ _ _ => (pts_one (pt_cmp (pc_din (hu_of hr) (pv 4) (pv 3))))) (fun _ _ _ _ _ => (pv 4))) pa_nil)) rfl)
      (pss_cons (ps_fld (pv 0) (pe_dc (own := [("letter", 4)]) (g := gName 4) (by rfl) sc_Misreading_init.nd (pi_tup (pe_fldK (K := K) rfl (pv 0) rfl)) (blkOk_by (own := [("letter", 4)]) (N := n_Misreading_init) (sc := defScope s_Misreading_init) (by decide +kernel)) (fun _ _ _ _ _ => (pg_name (i := 4) sc_Misreading_init.nd rfl (.inl rfl))) (fun _ _ _ _ _ => pts_nil) (fun _ _ _ _ _ => (pv 4)) (fun _ _ _ _ _ => (pe_dget (hu_of hr) (pv 3) (pv 4) (fun _ _ => rfl)))) rfl)
      (pss_one (ps_fld (pv 0) (pe_callTy (call_tuple_ofK (K := K) rfl) (by rfl) T.tuple (by decide +kernel) (pa_cons (pe_lc (own := [("letter", 4)]) (g := gName 4) (by rfl) sc_Misreading_init.nd (pi_tup (pe_fldK (K := K) rfl (pv 0) rfl)) (blkOk_by (own := [("letter", 4)]) (N := n_Misreading_init) (sc := defScope s_Misreading_init) (by decide +kernel)) (fun _ _ _ _ _ => (pg_name (i := 4) sc_Misreading_init.nd rfl (.inl rfl))) (fun _ _ _ _ _ => (pts_one (pt_cmpR op_ne (pe_dget (hu_of hr) (pv 3) (pv 4) (fun _ _ => rfl)) (pv 4) (nomark _)))) (fun _ _ _ _ _ => (pv 4))) pa_nil)) rfl)))))), ?_⟩
    have gu := toldT_good hst hlt G
    have lu := h12
    -- told
    refine ⟨_, rfl, _, .ref CJ, .type "dict", .ref CJ, false, rfl, .own _, .base (.dK hd), T.dJ, false, rfl, ?_⟩
    refine iteF ?_
    refine ⟨_, rfl, _, rfl, d, cs, st, t, rfl, hd, G, by omega, hlt, hst, hs5, fun r H1 sm nr hr1 => ?_⟩
    generalize toldT st t = u at gu lu q hr1 ⊢
    have hx1 := sm _ _ hx
    -- len(told) > 12
    refine ⟨_, rfl, r, _, rfl, hr1, _, _, rfl, rfl, _, rfl, ?_⟩
    rw [encT_len, decide_eq_false (by show ¬ ((12 : Int) < (u.length : Int)); omega)]
    refine iteF ?_
    have hx0 : ∀ b o, H b = some o → b ≠ x → H1 b = some o := fun b o e _ => sm b o e
    -- self._letters
    refine ⟨abcS, rfl, fun D nD => lc_it walk_str (fun i H2 => H2 = upd H1 D (.lst (lets ((abc.take i).filter fun c => (lookT u c).isSome)))) rfl (fun _ _ _ _ => trivial) ?_ ?_⟩
    · rintro i z H2 H2' hi rfl ⟨rfl, c, hc, rfl⟩
      have hc' : abc[i]? = some c := by
        rw [← abcS_cps]
        simpa using hc
      have hrD : r ≠ D := ne_of_none hr1 nD
      refine ⟨rfl, _, rfl, _, rfl, r, _, rfl, DGet.k (k := Sum.inr (L1 c)) (by rw [upd_ne hrD]; exact hr1), _, rfl, ?_⟩
      rw [valV_enc]
      have hs := some_put u i c hc'
      by_cases e : (lookT u c).isSome = true
      · have e2 : (Option.map (fun s => V.str (Sx s)) (lookT u c)).isSome = true := by rw [Option.isSome_map]; exact e
        rw [e2]
        refine iteT ?_
        rw [if_pos e] at hs
        refine ⟨_, rfl, lets ((abc.take i).filter fun c => (lookT u c).isSome), upd_same, ?_, ?_⟩
        · rw [lets_len]
          have h1 := List.length_filter_le (fun c => (lookT u c).isSome) (abc.take i)
          have h2 : (abc.take i).length ≤ 26 := by rw [List.length_take, abc_len]; omega
          exact small1000 (by omega)
        · rw [upd_upd, hs, lets_snoc]
          rfl
      · have e2 : (Option.map (fun s => V.str (Sx s)) (lookT u c)).isSome = false := by
          rw [Option.isSome_map]
          exact Bool.eq_false_iff.mpr e
        rw [e2]
        refine iteF ?_
        rw [if_neg e, List.append_nil] at hs
        rw [hs]
    · rintro H2 rfl
      have hsz : abcS.cps.size = 26 := by decide +kernel
      rw [hsz]
      have ek : (abc.take 26).filter (fun c => (lookT u c).isSome) = keysOf u := by
        rw [List.take_of_length_le (by rw [abc_len]; exact Nat.le_refl _)]
        rfl
      rw [ek]
      refine ⟨D, _, rfl, .inl ⟨SqL.of upd_same, fun a na => ?_⟩⟩
      have hxD : x ≠ D := ne_of_none hx1 nD
      have hxa : x ≠ a := ne_of_none (H := upd H1 D (.lst (lets (keysOf u)))) (o := .ins CM dx []) (by rw [upd_ne hxD]; exact hx1) na
      have hrD : r ≠ D := ne_of_none hr1 nD
      have hra : r ≠ a := ne_of_none (H := upd H1 D (.lst (lets (keysOf u)))) (o := .dK (encT u)) (by rw [upd_ne hrD]; exact hr1) na
      have hrx : r ≠ x := ne_of hr1 hx1 (fun z => nomatch z)
      refine ⟨_, rfl, x, CM, dx, [], rfl, by rw [upd_ne hxa, upd_ne hxD]; exact hx1, T.cl, T.nL, by show 0 < 1000; decide, ?_⟩
      have fr3 : ∀ b o, H b = some o → b ≠ x → upd (upd (upd H1 D (.lst (lets (keysOf u)))) a (.tup (lets (keysOf u)))) x (.ins CM dx (f1 a)) b = some o := fun b o e hb => by
        have e1 := sm b o e
        have hbD := ne_of_none e1 nD
        rw [upd_ne hb, upd_ne (ne_of_none (H := upd H1 D (.lst (lets (keysOf u)))) (o := o) (by rw [upd_ne hbD]; exact e1) na), upd_ne hbD]
        exact e1
      have hx3 : upd (upd (upd H1 D (.lst (lets (keysOf u)))) a (.tup (lets (keysOf u)))) x (.ins CM dx (f1 a)) x = some (.ins CM dx (f1 a)) := upd_same
      have ha3 : upd (upd (upd H1 D (.lst (lets (keysOf u)))) a (.tup (lets (keysOf u)))) x (.ins CM dx (f1 a)) a = some (.tup (lets (keysOf u))) := by rw [upd_ne (Ne.symm hxa), upd_same]
      have hr3 : upd (upd (upd H1 D (.lst (lets (keysOf u)))) a (.tup (lets (keysOf u)))) x (.ins CM dx (f1 a)) r = some (.dK (encT u)) := by rw [upd_ne hrx, upd_ne hra, upd_ne hrD]; exact hr1
      show tSeq _ _ _ _ (upd (upd (upd H1 D (.lst (lets (keysOf u)))) a (.tup (lets (keysOf u)))) x (.ins CM dx (f1 a)))
      generalize upd (upd (upd H1 D (.lst (lets (keysOf u)))) a (.tup (lets (keysOf u)))) x (.ins CM dx (f1 a)) = H3 at fr3 hx3 ha3 hr3 ⊢
      have naH : H a = none := by
        cases e : H a with
        | none => rfl
        | some o =>
          have e1 := sm _ _ e
          have e2 : upd H1 D (.lst (lets (keysOf u))) a = some o := by rw [upd_ne (ne_of_none e1 nD)]; exact e1
          rw [e2] at na
          cases na
      clear na nD hxD hxa hrD hra
      -- self._images
      refine ⟨_, rfl, x, CM, dx, _, _, rfl, hx3, T.cl, T.nL, f1_L a, a, rfl, ⟨_, .inl (.inl ha3)⟩, fun D2 nD2 => dc_it (walk_tup (K := K) (a := a) (xs := lets (keysOf u))) (fun i H4 => H4 = upd H3 D2 (.dK (encT (((keysOf u).take i).map fun c => (c, (lookT u c).getD []))))) rfl ?_ ?_ ?_⟩
      · rintro i H4 hi rfl
        exact .inl (.inl (by rw [upd_ne (ne_of_none ha3 nD2)]; exact ha3))
      · rintro i z H4 H4' hi rfl ⟨rfl, hz⟩
        obtain ⟨hik, rfl⟩ := lets_get hz
        obtain ⟨s, es⟩ := Option.isSome_iff_exists.mp (List.mem_filter.mp (List.getElem_mem hik)).2
        refine ⟨rfl, _, rfl, _, rfl, _, rfl, r, V.str (Sx s), rfl, .inl ⟨_, Sum.inr (L1 (keysOf u)[i]), .inl (by rw [upd_ne (ne_of_none hr3 nD2)]; exact hr3), rfl, by rw [valV_enc, es]; rfl⟩, _, Sum.inr (L1 (keysOf u)[i]), rfl, upd_same, ?_, ?_⟩
        · rw [encT_len, List.length_map, List.length_take]
          have := keysOf_len u
          exact small1000 (by omega)
        · rw [upd_upd, putK_enc]
          congr 3
          exact ims_succ (keysOf_nd u) hik (by rw [es]; rfl)
      · rintro H4 rfl
        rw [lets_len, List.take_length]
        have hxD2 : x ≠ D2 := ne_of_none hx3 nD2
        have haD2 : a ≠ D2 := ne_of_none ha3 nD2
        have hrD2 : r ≠ D2 := ne_of_none hr3 nD2
        refine ⟨_, rfl, x, CM, dx, f1 a, rfl, by rw [upd_ne hxD2]; exact hx3, T.cl, T.nI, f1_len a, ?_⟩
        have hax : a ≠ x := ne_of ha3 hx3 (fun z => nomatch z)
        have nbH : H D2 = none := by
          cases e : H D2 with
          | none => rfl
          | some o =>
            have e1 := fr3 _ _ e (Ne.symm hxD2)
            rw [e1] at nD2
            cases nD2
        have fr5 : ∀ b o, H b = some o → b ≠ x → upd (upd H3 D2 (.dK (encT (ims u)))) x (.ins CM dx (f2 a D2)) b = some o := fun b o e hb => by
          have e1 := fr3 b o e hb
          rw [upd_ne hb, upd_ne (ne_of_none e1 nD2)]
          exact e1
        have hx5 : upd (upd H3 D2 (.dK (encT (ims u)))) x (.ins CM dx (f2 a D2)) x = some (.ins CM dx (f2 a D2)) := upd_same
        have ha5 : upd (upd H3 D2 (.dK (encT (ims u)))) x (.ins CM dx (f2 a D2)) a = some (.tup (lets (keysOf u))) := by rw [upd_ne hax, upd_ne haD2]; exact ha3
        have hr5 : upd (upd H3 D2 (.dK (encT (ims u)))) x (.ins CM dx (f2 a D2)) r = some (.dK (encT u)) := by rw [upd_ne hrx, upd_ne hrD2]; exact hr3
        have hd5 : upd (upd H3 D2 (.dK (encT (ims u)))) x (.ins CM dx (f2 a D2)) D2 = some (.dK (encT (ims u))) := by rw [upd_ne (Ne.symm hxD2), upd_same]
        show Ends.nx _ _ (upd (upd H3 D2 (.dK (encT (ims u)))) x (.ins CM dx (f2 a D2)))
        generalize upd (upd H3 D2 (.dK (encT (ims u)))) x (.ins CM dx (f2 a D2)) = H5 at fr5 hx5 ha5 hr5 hd5 ⊢
        -- self.changed
        refine ⟨_, rfl, x, CM, dx, _, _, rfl, hx5, T.cl, T.nL, f2_L a D2, a, rfl, ⟨_, .inl (.inl ha5)⟩, fun D3 nD3 => lc_it (walk_tup (K := K) (a := a) (xs := lets (keysOf u))) (fun i H6 => H6 = upd H5 D3 (.lst (lets (((keysOf u).take i).filter fun c => decide (lookT u c ≠ some [c]))))) rfl ?_ ?_ ?_⟩
        · rintro i H6 hi rfl
          exact .inl (.inl (by rw [upd_ne (ne_of_none ha5 nD3)]; exact ha5))
        · rintro i z H6 H6' hi rfl ⟨rfl, hz⟩
          obtain ⟨hik, rfl⟩ := lets_get hz
          obtain ⟨s, es⟩ := Option.isSome_iff_exists.mp (List.mem_filter.mp (List.getElem_mem hik)).2
          refine ⟨rfl, _, rfl, _, rfl, r, V.str (Sx s), rfl, .inl ⟨_, Sum.inr (L1 (keysOf u)[i]), .inl (by rw [upd_ne (ne_of_none hr5 nD3)]; exact hr5), rfl, by rw [valV_enc, es]; rfl⟩, _, rfl, rfl, _, rfl, ?_⟩
          have hs := chg_succ (u := u) hik
          by_cases e : s = [(keysOf u)[i]]
          · have e1 : lookT u (keysOf u)[i] = some [(keysOf u)[i]] := by rw [es, e]
            rw [if_neg (by simp [e1]), List.append_nil] at hs
            rw [decide_eq_true (show V.str (Sx s) = V.str (L1 (keysOf u)[i]) by rw [e]; rfl)]
            refine iteF ?_
            rw [hs]
          · have e1 : ¬ lookT u (keysOf u)[i] = some [(keysOf u)[i]] := by
              rw [es]
              exact fun z => e (Option.some.inj z)
            rw [if_pos (by simpa using e1)] at hs
            rw [decide_eq_false (show ¬ V.str (Sx s) = V.str (L1 (keysOf u)[i]) from fun z => e (Sx_inj (V.str.inj z)))]
            refine iteT ?_
            refine ⟨_, rfl, _, upd_same, ?_, ?_⟩
            · rw [lets_len]
              have h1 := List.length_filter_le (fun c => decide (lookT u c ≠ some [c])) ((keysOf u).take i)
              have h2 := keysOf_len u
              have h3 : ((keysOf u).take i).length ≤ (keysOf u).length := by rw [List.length_take]; omega
              exact small1000 (by omega)
            · rw [upd_upd, hs, lets_snoc]
        · rintro H6 rfl
          rw [lets_len, List.take_length]
          refine ⟨D3, _, rfl, .inl ⟨SqL.of upd_same, fun c nc => ?_⟩⟩
          have hxD3 : x ≠ D3 := ne_of_none hx5 nD3
          have up : ∀ b o, H5 b = some o → upd (upd H5 D3 (.lst (lets (chg u)))) c (.tup (lets (chg u))) b = some o := fun b o e => by
            have hb := ne_of_none e nD3
            rw [upd_ne (ne_of_none (H := upd H5 D3 (.lst (lets (chg u)))) (o := o) (by rw [upd_ne hb]; exact e) nc), upd_ne hb]
            exact e
          have hxc : x ≠ c := ne_of_none (H := upd H5 D3 (.lst (lets (chg u)))) (o := .ins CM dx (f2 a D2)) (by rw [upd_ne hxD3]; exact hx5) nc
          refine ⟨_, rfl, x, CM, dx, f2 a D2, rfl, up _ _ hx5, T.cl, T.nC, f2_len a D2, ?_⟩
          have ncH : H c = none := by
            have nc' : upd H5 D3 (.lst (lets (chg u))) c = none := nc
            cases e : H c with
            | none => rfl
            | some o =>
              have e3 := fr5 _ _ e (Ne.symm hxc)
              have e2 : upd H5 D3 (.lst (lets (chg u))) c = some o := by
                rw [upd_ne (ne_of_none e3 nD3)]
                exact e3
              rw [e2] at nc'
              cases nc'
          have hD2x : D2 ≠ x := ne_of hd5 hx5 (fun z => nomatch z)
          refine q _ ⟨dx, a, D2, c, upd_same, ?_, ?_, ?_, naH, nbH, ncH⟩ fun b o e hb => ?_
          · rw [upd_ne hax]
            exact up _ _ ha5
          · rw [upd_ne hD2x]
            exact up _ _ hd5
          · rw [upd_ne (Ne.symm hxc)]
            exact upd_same
          · rw [upd_ne hb]
            exact up _ _ (fr5 b o e hb)
end
end V8
set_option Elab.async false
set_option linter.all false
set_option maxRecDepth 100000
set_option maxHeartbeats 8000000
/-! Misreading: in, len, iteration, [ ]. -/
namespace V8
open PySem PySem.Spec PyProof.Rows L2
theorem lookT_map (f : Nat → List Nat) (c : Nat) : ∀ ks : List Nat, lookT (ks.map fun c => (c, f c)) c = if c ∈ ks then some (f c) else none
  | [] => by rw [if_neg List.not_mem_nil]; rfl
  | k :: ks => by
    have ih := lookT_map f c ks
    unfold lookT at ih ⊢
    rw [List.map_cons, List.find?_cons]
    by_cases h : k = c
    · subst h
      simp
    · simp only [h, decide_false]
      have e : (c ∈ k :: ks) ↔ c ∈ ks := by
        simp [Ne.symm h]
      rw [ih]
      by_cases h2 : c ∈ ks
      · rw [if_pos h2, if_pos (e.mpr h2)]
      · rw [if_neg h2, if_neg (fun z => h2 (e.mp z))]
theorem look_ims (u : Tab) (c : Nat) : lookT (ims u) c = if c ∈ keysOf u then some ((lookT u c).getD []) else none := lookT_map _ c _
theorem keysOf_mem {u : Tab} {c : Nat} : c ∈ keysOf u ↔ c ∈ abc ∧ (lookT u c).isSome = true := List.mem_filter
theorem look_ims_some {u : Tab} {c : Nat} (h : c ∈ keysOf u) : lookT (ims u) c = lookT u c := by
  rw [look_ims, if_pos h]
  obtain ⟨s, e⟩ := Option.isSome_iff_exists.mp (keysOf_mem.mp h).2
  rw [e]
  rfl
structure Ty (K : PySem.W.Frag) (mg : Str → Option Value) (CM CJ : Addr) : Prop extends Tx K mg CM CJ where
  mM : PySem.W.kitOne K (.ref CM) (.ref CM) = some true
  MJ : PySem.W.kitOne K (.ref CM) (.ref CJ) = some false
  Ms : PySem.W.kitOne K (.ref CM) (.type "str") = some false
  ls : PySem.W.kitOne K (.type "list") (.type "str") = some false
def spGet (CM : Addr) : Sp := fun vs H Q _ => ∃ (x : Addr) (u : Tab) (c : Nat) (s : List Nat), vs = [.ref x, .str (L1 c)] ∧ MisAt CM H x u ∧ c ∈ keysOf u ∧ lookT u c = some s ∧ Q (.str (Sx s)) H
def snIter (CM : Addr) : Nat → Sp := fun n vs H Q _ => ∃ (x : Addr) (u : Tab), vs = [.ref x] ∧ MisAt CM H x u ∧ ∀ it a, H it = none → n ≤ it → H a = some (.tup (lets (keysOf u))) → Q (.ref it) (upd H it (ItT a it))
section
variable {P : Program} {w : World} {K : PySem.W.Frag} {mg : Str → Option Value} {base : Heap} {CM CJ : Addr}
theorem ok_get {f : Addr} {fd : FuncData} (F : Fun K "__getitem__" "Misreading.__getitem__" s_Misreading_getitem f fd) (T : Tx K mg CM CJ) (D_is_letter : Df P w K mg base 1 "is_letter" (spIsLetter K)) : FnOk P w K mg base CX0 2 f fd ["self", "at"] (spGet CM) := by
  refine F.ok sc_Misreading_getitem (fun vs H Q E h => ?_) (fun cdv A outer s H vs Q E hr h => ?_)
  · obtain ⟨x, u, c, z, rfl, _⟩ := h
    rfl
  · obtain ⟨x, u, c, z, rfl, ⟨dx, a, b, c', hx, ha, hb, hc⟩, hm, hl, q⟩ := h
    refine ⟨_, (pss_cons (ps_if (pt_not (pt_val (pe_c D_is_letter hr (by decide) (by rfl) (pa_cons (pv 1) pa_nil))))
        (pss_one ps_never)
        pss_nil)
      (pss_cons (ps_if (pt_cmp (pc_dnotin (hu_of hr) (pv 1) (pe_fldK (K := K) rfl (pv 0) rfl)))
        (pss_one ps_never)
        pss_nil)
      (pss_one (ps_ret (pe_dget (hu_of hr) (pe_fldK (K := K) rfl (pv 0) rfl) (pv 1) (fun _ _ => rfl)))))), ?_⟩
    refine ⟨_, rfl, _, rfl, .inl ⟨c, rfl, ?_⟩⟩
    rw [decide_eq_true (keysOf_mem.mp hm).1]
    refine ⟨true, rfl, iteF ?_⟩
    refine ⟨_, rfl, _, rfl, x, CM, dx, _, _, rfl, hx, T.cl, T.nI, f3_I a b c', b, _, rfl, DGet.k (k := Sum.inr (L1 c)) hb, _, rfl, ?_⟩
    rw [valV_enc, Option.isSome_map, look_ims_some hm, hl]
    refine iteF ?_
    refine ⟨_, rfl, x, CM, dx, _, _, rfl, hx, T.cl, T.nI, f3_I a b c', _, rfl, b, V.str (Sx z), rfl, .inl ⟨_, Sum.inr (L1 c), .inl hb, rfl, by rw [valV_enc, look_ims_some hm, hl]; rfl⟩, ?_⟩
    exact q
end
end V8
set_option Elab.async false
set_option linter.all false
set_option maxRecDepth 100000
set_option maxHeartbeats 8000000
/-! Misreading: iteration, ==, str. -/
namespace V8
open PySem PySem.Spec PyProof.Rows L2
/-- the same images -/
def eqM (u v : Tab) : Prop := ∀ c ∈ abc, lookT u c = lookT v c
instance (u v : Tab) : Decidable (eqM u v) := inferInstanceAs (Decidable (∀ c ∈ abc, lookT u c = lookT v c))
section
variable {P : Program} {w : World} {K : PySem.W.Frag} {mg : Str → Option Value} {base : Heap} {CM CJ : Addr}
theorem ok_iter {f : Addr} {fd : FuncData} (F : Fun K "__iter__" "Misreading.__iter__" s_Misreading_iter f fd) (T : Tx K mg CM CJ) : FnN P w K mg base CX0 1 f fd ["self"] (snIter CM) := by
  refine fnN_mk F sc_Misreading_iter (fun n vs H Q E h => ?_) (fun cdv A outer s H vs Q E hr h => ?_)
  · obtain ⟨x, u, rfl, _⟩ := h
    rfl
  · obtain ⟨x, u, rfl, ⟨dx, a, b, c, hx, ha, hb, hc⟩, q⟩ := h
    refine ⟨_, (pss_one (ps_ret (pe_callB call_iterT (by rfl) T.iter (by decide +kernel) (pa_cons (pe_fldK (K := K) rfl (pv 0) rfl) pa_nil)))), ?_⟩
    refine ⟨_, rfl, x, CM, dx, _, _, rfl, hx, T.cl, T.nL, f3_L a b c, a, _, rfl, .inl (.inl ha), fun it ni hi => ?_⟩
    exact q it a ni hi ha
end
end V8
set_option Elab.async false
set_option linter.all false
set_option maxRecDepth 100000
set_option maxHeartbeats 8000000
/-! The pen made; what is due. -/
namespace V8
open PySem PySem.Spec PyProof.Rows L2
def spPen (K : PySem.W.Frag) : Sp := fun vs H Q _ => ∃ (a : Addr) (ns : List Int), vs = [.ref a] ∧ SqL K H a (ns.map V.int) ∧ ns.length ≤ 63 ∧ ∀ (p l : Addr) (H' : Hp), H p = none → Same H H' → PenAt H' p l ns 1000000 → Q (.ref p) H'
section
variable {P : Program} {w : World} {K : PySem.W.Frag} {mg : Str → Option Value} {base : Heap} {CM CJ : Addr}
theorem ok_pen {f : Addr} {fd : FuncData} (F : Fun K "_law_pen" "_law_pen" s_pen f fd) (T : Blt mg) : FnOk P w K mg base CX0 1 f fd ["_law_script"] (spPen K) := by
  refine F.ok sc_pen (fun vs H Q E h => ?_) (fun cdv A outer s H vs Q E hr h => ?_)
  · obtain ⟨a, ns, rfl, _⟩ := h
    rfl
  · obtain ⟨a, ns, rfl, hS, hn, q⟩ := h
    refine ⟨_, (pss_one (ps_ret (pe_lst (pa_cons (pe_callTy (call_list_ofK (K := K) rfl) (by rfl) T.list (by decide +kernel) (pa_cons (pe_slice (sl_listK (K := K) rfl) (pv 0) po_none (po_some pe_int)) pa_nil)) (pa_cons pe_int (pa_cons pe_int pa_nil)))))), ?_⟩
    refine ⟨_, rfl, 63, rfl, a, ns.map V.int, rfl, hS, fun l1 n1 => ?_⟩
    have hc : cutV (ns.map V.int) none (some 63) = ns.map V.int := by
      have e : HT.sIx (ns.map V.int).length (ns.map V.int).length (some 63) = (ns.map V.int).length := by
        show HT.sIx _ _ (some ((63 : Nat) : Int)) = _
        rw [HT.sIx_nat, List.length_map]
        omega
      unfold cutV
      rw [HT.sIx_none, List.drop_zero, e]
      exact List.take_of_length_le (Nat.le_refl _)
    rw [hc]
    refine ⟨l1, ns.map V.int, rfl, .inl (SqL.of upd_same), fun l n2 => ⟨by show 3 ≤ sizeLine; decide, fun p n3 => ?_⟩⟩
    have h1 : l1 ≠ l := ne_of_none upd_same n2
    have hl : l ≠ p := ne_of_none upd_same n3
    have n2H : upd H l1 (.lst (ns.map V.int)) l = none := n2
    have sm : Same H (upd (upd (upd H l1 (.lst (ns.map V.int))) l (.lst (ns.map V.int))) p (.lst [.ref l, .int 0, .int 0])) := fun b o e => by
      have b1 := ne_of_none e n1
      have e1 : upd H l1 (.lst (ns.map V.int)) b = some o := by rw [upd_ne b1]; exact e
      have b2 := ne_of_none e1 n2
      have e2 : upd (upd H l1 (.lst (ns.map V.int))) l (.lst (ns.map V.int)) b = some o := by rw [upd_ne b2]; exact e1
      rw [upd_ne (ne_of_none e2 n3)]
      exact e2
    refine q p l _ ?_ sm ⟨⟨0, 0, upd_same, by omega, by omega, by omega⟩, by rw [upd_ne hl]; exact upd_same, hl, hn⟩
    cases e : H p with
    | none => rfl
    | some o =>
      have b1 := ne_of_none e n1
      have e1 : upd H l1 (.lst (ns.map V.int)) p = some o := by rw [upd_ne b1]; exact e
      have b2 := ne_of_none e1 n2
      rw [upd_ne b2, e1] at n3
      cases n3
end
end V8
set_option Elab.async false
set_option linter.all false
set_option maxRecDepth 100000
set_option maxHeartbeats 8000000
/-! Misreadings made by the class's name; same. -/
namespace V8
open PySem PySem.Spec PyProof.Rows L2
def mkR (CM : Addr) : List V → Hp → VK → Prop := fun vs H Q => ∃ (d : Addr) (cs st : List Nat) (t : Tab), vs = [.ref d, .str (Sx st)] ∧ H d = some (.dK (encT t)) ∧ GoodT cs t ∧ ((toldT st t).length ≤ 12 ∧ cs.length ≤ 26) ∧ (∀ c ∈ cs, isLt c) ∧ (∀ c ∈ st, c ∈ cs) ∧ st.length ≤ 500 ∧
  ∀ x H', H x = none → MisN CM H H' x (toldT st t) → Same H H' → Q (.ref x) H'
theorem misn_of {C : Addr} {H H' : Hp} {x dx : Addr} {u : Tab} {o o' : HO} (m : MisN C (upd (upd H dx o) x o') H' x u) (hx : H x = none) (hdx : H dx = none) : MisN C H H' x u := by
  obtain ⟨ex, a, b, c, h1, h2, h3, h4, n1, n2, n3⟩ := m.at_
  have back : ∀ b, upd (upd H dx o) x o' b = none → H b = none := fun b n => by
    cases e : H b with
    | none => rfl
    | some z =>
      rw [upd_ne (ne_of_none e hx), upd_ne (ne_of_none e hdx), e] at n
      cases n
  exact ⟨ex, a, b, c, h1, h2, h3, h4, back _ n1, back _ n2, back _ n3⟩
theorem mk_of {CM : Addr} {vs : List V} {H : Hp} {Q : VK} {E : XK} (h : mkR CM vs H Q) : ∀ x dx, H x = none → H dx = none → dx ≠ x → spInit CM (.ref x :: vs) (upd (upd H dx (.own x)) x (.ins CM dx [])) (fun v H2 => v = .non ∧ Q (.ref x) H2) E := by
  obtain ⟨d, cs, st, t, rfl, hd, G, h12, hlt, hst, hs5, q⟩ := h
  intro x dx hx hdx ne
  have hd2 : upd (upd H dx (.own x)) x (.ins CM dx []) d = some (.dK (encT t)) := by
    rw [upd_ne (ne_of_none hd hx), upd_ne (ne_of_none hd hdx)]
    exact hd
  refine ⟨x, dx, d, cs, st, t, rfl, upd_same, hd2, G, h12, hlt, hst, hs5, fun H' m fr => ⟨rfl, q x H' hx (misn_of m hx hdx) fun b o e => ?_⟩⟩
  have bx := ne_of_none e hx
  refine fr b o ?_ bx
  rw [upd_ne bx, upd_ne (ne_of_none e hdx)]
  exact e
def pI : List Str := ["self", "images", "keeps"]
/-- the class by its name -/
structure Mkr (P : Program) (w : World) (K : PySem.W.Frag) (mg : Str → Option Value) (base : Heap) (CM : Addr) : Prop where
  ex : ∃ (f : Addr) (fd : FuncData), Mk K CM f ∧ FnOk P w K mg base CX0 5 f fd pI (spInit CM) ∧ mg "Misreading" = some (.ref CM) ∧ Binds K fd pI [] ∧ (∃ ds, Vals [.str (Sx [])] ds ∧ Binds K fd pI ds) ∧
    KBn K fd pI 1 ["keeps", "images"] (fun us ws => us ++ ws.reverse) (fun vs zs => vs ++ zs.reverse) ∧ (∃ its : List Value, KBn K fd pI 1 ["images"] (fun us ws => us ++ ws ++ its) (fun vs zs => vs ++ zs ++ [.str (Sx [])])) ∧
    KBn K fd pI 2 ["keeps"] (fun us ws => us ++ ws) (fun vs zs => vs ++ zs)
def tMk1 (CM : Addr) (t : TA) : TE := fun σ H Q => t σ H fun vs H1 => mkR CM (vs ++ [.str (Sx [])]) H1 Q
section
variable {X : Cx} {j : Nat} {CM : Addr} {p pos : Pos} {e : Expr} {es : List Expr} {kws : List Keyword} {t tk : TA}
theorem pe_mk1 (M : Mkr X.prog X.w X.K X.mg X.base CM) (hr : Room j X.A) (hj : 6 ≤ j) (hg : Gl X "Misreading") (ha : PA X (e :: es) t) (he : starEach (e :: es) X.env = (false, eval e X.env) :: starEach es X.env := by rfl) (hpl : (backTo pos (starEach es X.env)).any (·.1) = false := by rfl) :
    PE X (.Call (.Name "Misreading" p) (e :: es) [] pos) (tMk1 CM t) := by
  obtain ⟨f, fd, M, F, hm, b0, ⟨ds, hd, b1⟩, k2, k1, k11⟩ := M.ex
  refine ⟨fun pins s σ H Q I h => ?_⟩
  refine wpAny_Call_Name_kw (ld_glob I hg hm ?_ (by decide))
  refine PySem.W.callWith_K (h₀ := X.base) I.ok.mod.kin M.kp (thn (ha.run pos pins s σ H _ I h) fun us s1 ⟨vs, H1, I1, r, q⟩ => ⟨I1.kIn, ?_⟩) he hpl
  exact run_make M F (hr.mono hj) b1 hd pass0 I1 r (mk_of q)
end
theorem vals_rev : ∀ {xs : List V} {us : List Value}, Vals xs us → Vals xs.reverse us.reverse
  | _, _, .nil => .nil
  | _, _, .cons h r => by
    rw [List.reverse_cons, List.reverse_cons]
    exact (vals_rev r).append (.cons h .nil)
/-- what K holds of the def, as the rules above want it -/
theorem mkr_of {P : Program} {w : World} {K : PySem.W.Frag} {mg : Str → Option Value} {base : Heap} {CM CJ f : Addr} {fd : FuncData} (F : FunD K "__init__" "Misreading.__init__" (defArgs s_Misreading_init) (defBody s_Misreading_init) (defScope s_Misreading_init) [.str (Sx [])] [] f fd) (T : Tx K mg CM CJ)
    (D_told_images : Df P w K mg base 4 "told_images" spTold) (M : Mk K CM f) (hm : mg "Misreading" = some (.ref CM)) : Mkr P w K mg base CM := by
  refine ⟨f, fd, M, ok_init F T D_told_images, hm, ?_, ?_, ?_, ?_, ?_⟩
  · obtain ⟨ds, h1, h2⟩ := F.binds1 (ps := pI) 3 1 (fun z => nomatch z) rfl (fun T kV doc pm an cdv ct us its h1 h2 => match us, its, h1, h2 with | [_, _, _], [_], _, _ => ⟨_, rfl, rfl⟩)
    cases h1
    exact h2
  · obtain ⟨ds, h1, h2⟩ := F.binds1 (ps := pI) 2 0 (fun z => nomatch z) rfl (fun T kV doc pm an cdv ct us its h1 h2 => match us, its, h1, h2 with | [_, _], [_], _, _ => ⟨_, rfl, rfl⟩)
    exact ⟨ds, h1, h2⟩
  · obtain ⟨its, h⟩ := F.kbindsD (ps := pI) 1 ["keeps", "images"] (fun us _ ws => us ++ ws.reverse) (fun z => nomatch z) (fun r1 _ r3 => r1.append (vals_rev r3)) (fun T kV doc pm an cdv ct us its ws h1 h2 h3 => match us, its, ws, h1, h2, h3 with | [_], [_], [_, _], _, _, _ => ⟨_, rfl, rfl⟩)
    exact h
  · obtain ⟨its, h⟩ := F.kbindsD (ps := pI) 1 ["images"] (fun us ds ws => us ++ ws ++ ds) (fun z => nomatch z) (fun r1 r2 r3 => (r1.append r3).append r2) (fun T kV doc pm an cdv ct us its ws h1 h2 h3 => match us, its, ws, h1, h2, h3 with | [_], [_], [_], _, _, _ => ⟨_, rfl, rfl⟩)
    exact ⟨its, h⟩
  · obtain ⟨its, h⟩ := F.kbindsD (ps := pI) 2 ["keeps"] (fun us _ ws => us ++ ws) (fun z => nomatch z) (fun r1 _ r3 => r1.append r3) (fun T kV doc pm an cdv ct us its ws h1 h2 h3 => match us, its, ws, h1, h2, h3 with | [_, _], [_], [_], _, _, _ => ⟨_, rfl, rfl⟩)
    exact h
end V8
set_option Elab.async false
set_option linter.all false
set_option maxRecDepth 100000
set_option maxHeartbeats 16000000
/-! Helps: lists compared, lists gathered, an own class iterated. -/
namespace V8
open PySem PySem.Spec PyProof.Rows L2
section
variable {K : PySem.W.Frag} {H : Hp} {a b : Addr} {Q : VK} {CM : Addr} {u : Tab}
theorem same_put {H H' : Hp} {D : Addr} {o : HO} (s : Same H H') (n : H' D = none) : Same H (upd H' D o) := fun b u e => by
  rw [upd_ne (ne_of_none (s b u e) n)]
  exact s b u e
theorem same_over {H H' : Hp} {D : Addr} {o : HO} (s : Same H H') (n : H D = none) : Same H (upd H' D o) := fun b u e => by
  rw [upd_ne (ne_of_none e n)]
  exact s b u e
theorem same_none {H H' : Hp} {D : Addr} (s : Same H H') (n : H' D = none) : H D = none := by
  cases e : H D with
  | none => rfl
  | some o =>
    rw [s _ _ e] at n
    cases n
theorem MisAt.same {C : Addr} {H H' : Hp} {x : Addr} {u : Tab} (m : MisAt C H x u) (s : Same H H') : MisAt C H' x u := m.mono fun b o e _ => s b o e
theorem dropH_upd {H : Hp} {it : Addr} {o : HO} (n : H it = none) : ItX.dropH (upd H it o) it = H := by
  funext b
  unfold ItX.dropH
  by_cases h : b = it
  · rw [if_pos h, h, n]
  · rw [if_neg h, upd_ne h]
end
end V8
set_option Elab.async false
set_option linter.all false
set_option maxRecDepth 100000
set_option maxHeartbeats 8000000
/-! Misreading: str. -/
namespace V8
open PySem PySem.Spec PyProof.Rows L2
theorem sx_add (a b : List Nat) : Sx a ++ Sx b = Sx (a ++ b) := by
  show (Str.mk (a.toArray ++ b.toArray)) = Str.mk _
  rw [List.append_toArray]
theorem colon : (":" : Str) = Sx [58] := by decide +kernel
theorem emp : Str.empty = Sx [] := rfl
def wordM (c : Nat) (s : List Nat) : Str := Sx (c :: 58 :: s)
def wordsM (u : Tab) (ks : List Nat) : List Str := ks.map fun c => wordM c ((lookT u c).getD [])
def strM (u : Tab) : Str := if keysOf u = [] then "-" else Txt.join " " (wordsM u (keysOf u))
def SmallT (u : Tab) : Prop := ∀ c s, lookT u c = some s → s.length ≤ 64
def spStr (CM : Addr) : Sp := fun vs H Q _ => ∃ (x : Addr) (u : Tab), vs = [.ref x] ∧ MisAt CM H x u ∧ SmallT u ∧ ∀ H', Same H H' → Q (.str (strM u)) H'
theorem sum_le (f : Str → Nat) (k : Nat) : ∀ l : List Str, (∀ x ∈ l, f x ≤ k) → (l.map f).sum ≤ k * l.length
  | [], _ => Nat.le_refl _
  | a :: r, h => by
    rw [List.map_cons, List.sum_cons, List.length_cons]
    have h1 := h a (List.mem_cons_self ..)
    have h2 := sum_le f k r fun x hx => h x (List.mem_cons_of_mem _ hx)
    rw [Nat.mul_succ]
    omega
theorem lets_isEmpty (cs : List Nat) : (lets cs).isEmpty = cs.isEmpty := by cases cs <;> rfl
section
variable {P : Program} {w : World} {K : PySem.W.Frag} {mg : Str → Option Value} {base : Heap} {CM CJ : Addr}
theorem ok_str {f : Addr} {fd : FuncData} (F : Fun K "__str__" "Misreading.__str__" s_Misreading_str f fd) (T : Ty K mg CM CJ) : FnOk P w K mg base CX0 1 f fd ["self"] (spStr CM) := by
  refine F.ok sc_Misreading_str (fun vs H Q E h => ?_) (fun cdv A outer s H vs Q E hr h => ?_)
  · obtain ⟨x, u, rfl, _⟩ := h
    rfl
  · obtain ⟨x, u, rfl, ⟨dx, a, b, c', hx, ha, hb, hc⟩, sm, q⟩ := h
    refine ⟨_, (pss_cons (ps_if (pt_not (pt_truth (pe_fldK (K := K) rfl (pv 0) rfl) (by intro _; rfl)))
        (pss_one (ps_ret pe_str))
        pss_nil)
      (pss_one (ps_ret (pe_joinK (K := K) rfl pe_str (pe_lc (own := [("letter", 1)]) (g := gName 1) (by rfl) sc_Misreading_str.nd (pi_tup (pe_fldK (K := K) rfl (pv 0) rfl)) (blkOk_by (own := [("letter", 1)]) (N := n_Misreading_str) (sc := defScope s_Misreading_str) (by decide +kernel)) (fun _ _ _ _ _ => (pg_name (i := 1) sc_Misreading_str.nd rfl (.inl rfl))) (fun _ _ _ _ _ => pts_nil) (fun _ _ _ _ _ => (pe_joinedT (pj_cons (pe_fmt (pv 1)) (pj_cons pe_str (pj_cons (pe_fmt (pe_dget (hu_of hr) (pe_fldK (K := K) rfl (pv 0) rfl) (pv 1) (fun _ _ => rfl))) pj_nil)))))))))), ?_⟩
    refine ⟨_, rfl, x, CM, dx, _, _, rfl, hx, T.cl, T.nL, f3_L a b c', _, .inr (.inl ⟨_, .inl (.inl ha), rfl⟩), ?_⟩
    rw [lets_isEmpty]
    by_cases e : keysOf u = []
    · have es : strM u = "-" := if_pos e
      rw [e]
      refine iteT ?_
      show Q (V.str "-") H
      rw [← es]
      exact q H (Same.refl H)
    · have es : strM u = Txt.join " " (wordsM u (keysOf u)) := if_neg e
      have ee : (keysOf u).isEmpty = false := by
        cases h : keysOf u with
        | nil => exact absurd h e
        | cons a r => rfl
      rw [ee]
      refine iteF ?_
      refine ⟨⟨_, rfl⟩, _, rfl, x, CM, dx, _, _, rfl, hx, T.cl, T.nL, f3_L a b c', a, rfl, ⟨_, .inl (.inl ha)⟩, fun D nD => lc_it (walk_tup (K := K) (a := a) (xs := lets (keysOf u))) (fun i H2 => H2 = upd H D (.lst ((wordsM u ((keysOf u).take i)).map V.str))) rfl ?_ ?_ ?_⟩
      · rintro i H2 hi rfl
        exact .inl (.inl (by rw [upd_ne (ne_of_none ha nD)]; exact ha))
      · rintro i z H2 H2' hi rfl ⟨rfl, hz⟩
        obtain ⟨hik, rfl⟩ := lets_get hz
        obtain ⟨s2, e2⟩ := Option.isSome_iff_exists.mp (List.mem_filter.mp (List.getElem_mem hik)).2
        have hx2 : upd H D (.lst ((wordsM u ((keysOf u).take i)).map V.str)) x = some (.ins CM dx (f3 a b c')) := by rw [upd_ne (ne_of_none hx nD)]; exact hx
        have hb2 : upd H D (.lst ((wordsM u ((keysOf u).take i)).map V.str)) b = some (.dK (encT (ims u))) := by rw [upd_ne (ne_of_none hb nD)]; exact hb
        have s64 := sm _ _ e2
        have l1 : (Str.empty ++ L1 (keysOf u)[i]) = Sx [(keysOf u)[i]] := by rw [emp, L1_Sx, sx_add]; rfl
        have l2 : ((Str.empty ++ L1 (keysOf u)[i]) ++ (":" : Str)) = Sx [(keysOf u)[i], 58] := by rw [l1, colon, sx_add]; rfl
        have l3 : (((Str.empty ++ L1 (keysOf u)[i]) ++ (":" : Str)) ++ Sx s2) = wordM (keysOf u)[i] s2 := by rw [l2, sx_add]; rfl
        refine ⟨rfl, _, rfl, .inl ⟨L1 (keysOf u)[i], rfl, by show 1 ≤ sizeLine; decide, L1 (keysOf u)[i], rfl, ?_, _, rfl, ?_, ?_⟩⟩
        · rw [l1]
          show 1 ≤ sizeLine
          decide
        · rw [l2]
          show 2 ≤ sizeLine
          decide
        · refine ⟨_, rfl, x, CM, dx, _, _, rfl, hx2, T.cl, T.nI, f3_I a b c', _, rfl, b, V.str (Sx s2), rfl, .inl ⟨_, Sum.inr (L1 (keysOf u)[i]), .inl hb2, rfl, by rw [valV_enc, look_ims_some (List.getElem_mem hik), e2]; rfl⟩, .inl ⟨Sx s2, rfl, ?_, Sx s2, rfl, ?_, _, upd_same, ?_, ?_⟩⟩
          · rw [Sx_len]
            exact Nat.le_of_lt (small1000 (by omega))
          · rw [l3]
            show (Sx _).length ≤ _
            rw [Sx_len, List.length_cons, List.length_cons]
            exact Nat.le_of_lt (small1000 (by omega))
          · rw [List.length_map]
            unfold wordsM
            rw [List.length_map, List.length_take]
            have := keysOf_len u
            exact small1000 (by omega)
          · rw [upd_upd, l3]
            congr 2
            unfold wordsM
            rw [List.take_add_one, List.getElem?_eq_getElem hik, List.map_append, List.map_append]
            show _ ++ [V.str (wordM (keysOf u)[i] s2)] = _ ++ [V.str (wordM (keysOf u)[i] ((lookT u (keysOf u)[i]).getD []))]
            rw [e2]
            rfl
      · rintro H2 rfl
        rw [lets_len, List.take_length]
        refine ⟨_, D, wordsM u (keysOf u), rfl, rfl, .inl (SqL.of upd_same), ?_, ?_⟩
        · have hk := keysOf_len u
          have h1 : ((wordsM u (keysOf u)).map fun x => x.length).sum ≤ _ := sum_le (fun x => x.length) 66 (wordsM u (keysOf u)) fun x hx => by
            obtain ⟨c, hc, rfl⟩ := List.mem_map.mp hx
            obtain ⟨s2, e2⟩ := Option.isSome_iff_exists.mp (keysOf_mem.mp hc).2
            rw [e2]
            show (Sx _).length ≤ _
            rw [Sx_len, List.length_cons, List.length_cons]
            have := sm _ _ e2
            show s2.length + 1 + 1 ≤ _
            omega
          have h2 : (wordsM u (keysOf u)).length = (keysOf u).length := List.length_map ..
          rw [h2] at h1 ⊢
          show _ + _ * 1 ≤ _
          have h3 : 66 * (keysOf u).length ≤ 66 * 26 := Nat.mul_le_mul_left _ hk
          omega
        · rw [← es]
          exact q _ fun b o e => by
            rw [upd_ne (ne_of_none e nD)]
            exact e
end
end V8
set_option Elab.async false
set_option linter.all false
set_option maxRecDepth 100000
set_option maxHeartbeats 16000000
/-! Whether a misreading is right. -/
namespace V8
open PySem PySem.Spec PyProof.Rows L2
theorem ok_sx {cs : List Nat} (h : ∀ c ∈ cs, isLt c) : PyData.strOk (Sx cs) = true := by
  have e : (Sx cs).cps = cs.toArray := rfl
  unfold PyData.strOk
  rw [e, List.all_toArray, List.all_eq_true]
  intro c hc
  have := (h c hc).2
  exact decide_eq_true (show c < 0x110000 by omega)
theorem join_Sx : ∀ ss : List (List Nat), Txt.join Str.empty (ss.map Sx) = Sx ss.flatten := by
  intro ss
  rw [TL.join_eq]
  have h : TL.tl (Str.join Str.empty (ss.map Sx)) = ss.flatten := by
    rw [TL.tl_join]
    have : ∀ l : List (List Nat), TL.joinL (TL.tl Str.empty) ((l.map Sx).map TL.tl) = l.flatten := by
      intro l
      induction l with
      | nil => rfl
      | cons c r ih =>
        cases r with
        | nil =>
          show TL.tl (Sx c) = [c].flatten
          simp
          rfl
        | cons d r =>
          show TL.tl (Sx c) ++ (TL.tl Str.empty ++ TL.joinL (TL.tl Str.empty) ((((d :: r).map Sx).map TL.tl))) = _
          rw [ih]
          rfl
    exact this ss
  have e2 : (Str.join Str.empty (ss.map Sx)).cps.toList = ss.flatten := h
  show Str.join Str.empty (ss.map Sx) = Sx _
  unfold Sx at e2 ⊢
  cases hx : Str.join Str.empty (ss.map fun cs => (⟨cs.toArray⟩ : Str)) with
  | mk a =>
    rw [hx] at e2
    have e3 : a.toList = ss.flatten := e2
    rw [← e3]
/-- iteration of the class's own -/
structure ItM (P : Program) (w : World) (K : PySem.W.Frag) (mg : Str → Option Value) (base : Heap) (k : Nat) (C : Addr) (sn : Nat → Sp) : Prop where
  ex : ∃ (f : Addr) (fd : FuncData) (ps : List Str), FnN P w K mg base CX0 k f fd ps sn ∧ Own K C "__iter__" f ∧ Binds K fd ps []
theorem pi_ownI {X : Cx} {k j : Nat} {C : Addr} {sn : Nat → Sp} {tg l : Expr} {tl : TE} (c : ItM X.prog X.w X.K X.mg X.base k C sn) (hr : Room j X.A) (hk : k ≤ j) (hl : PE X l tl) : PI X tg l (iOwn X.K C X.s_0.heap.objs.size sn E0 tl) := by
  obtain ⟨f, fd, ps, F, o, b⟩ := c.ex
  exact pi_own F b pass0 o (hr.mono hk) hl
end V8
set_option Elab.async false
set_option linter.all false
set_option maxRecDepth 100000
set_option maxHeartbeats 16000000
/-! same; whether a misreading is equal to what has the same images, and to nothing else. -/
namespace V8
open PySem PySem.Spec PyProof.Rows L2
/-! ### tables -/
theorem putT_new {t : Tab} {c : Nat} {s : List Nat} (h : c ∉ t.map (·.1)) : putT t c s = t ++ [(c, s)] := by
  unfold putT
  rw [if_neg]
  intro z
  obtain ⟨q, hq, e⟩ := List.any_eq_true.mp z
  have e' : q.1 = c := by simpa using e
  exact h (List.mem_map.mpr ⟨q, hq, e'⟩)
theorem mergeT_app : ∀ {t a : Tab}, ((a ++ t).map (·.1)).Nodup → mergeT a t = a ++ t
  | [], a, _ => by rw [List.append_nil]; rfl
  | q :: t, a, h => by
    have hq : q.1 ∉ a.map (·.1) := by
      rw [List.map_append, List.nodup_append] at h
      intro z
      exact h.2.2 _ z q.1 (by simp) rfl
    show mergeT (putT a q.1 q.2) t = _
    rw [putT_new hq, mergeT_app (t := t) (a := a ++ [(q.1, q.2)])]
    · rw [List.append_assoc]
      rfl
    · rw [List.append_assoc]
      exact h
theorem mergeT_nil {t : Tab} (h : (t.map (·.1)).Nodup) : mergeT [] t = t := mergeT_app (a := []) h
theorem toldT_nil {t : Tab} (h : (t.map (·.1)).Nodup) : toldT [] t = t := mergeT_nil h
def dropT (t : Tab) (c : Nat) : Tab := t.filter fun q => decide (q.1 ≠ c)
theorem GoodT.drop {cs : List Nat} {t : Tab} (g : GoodT cs t) (c : Nat) : GoodT cs (dropT t c) := ⟨(List.filter_sublist.map _).nodup g.nd, fun q h => g.key q (List.mem_filter.mp h).1, fun q h => g.img q (List.mem_filter.mp h).1⟩
theorem enc_inj {a b : Option (List Nat)} (h : a.map (fun s => V.str (Sx s)) = b.map fun s => V.str (Sx s)) : a = b := by
  cases a with
  | none =>
    cases b with
    | none => rfl
    | some y => cases h
  | some x =>
    cases b with
    | none => cases h
    | some y => rw [Sx_inj (V.str.inj (Option.some.inj h))]
theorem look_put (t : Tab) (c : Nat) (s : List Nat) (c' : Nat) : lookT (putT t c s) c' = if c' = c then some s else lookT t c' := by
  have e := valV_put (encT t) (Sum.inr (L1 c)) (Sum.inr (L1 c')) (V.str (Sx s))
  rw [putK_enc, valV_enc, valV_enc] at e
  refine enc_inj ?_
  rw [e]
  by_cases h : c' = c
  · rw [if_pos h, if_pos ((key_iff _ _).mpr h)]
    rfl
  · rw [if_neg h, if_neg fun z => h ((key_iff _ _).mp z)]
theorem pen_same {H H' : Hp} {p l : Addr} {ns : List Int} {n : Nat} (P : PenAt H p l ns n) (s : Same H H') : PenAt H' p l ns n := by
  obtain ⟨⟨a, g, h1, h2, h3, h4⟩, i, e, sh⟩ := P
  exact ⟨⟨a, g, s _ _ h1, h2, h3, h4⟩, s _ _ i, e, sh⟩
theorem mis_fr {C : Addr} {H H' : Hp} {x p l : Addr} {u : Tab} {ns : List Int} {n : Nat} (m : MisAt C H x u) (P : PenAt H p l ns n) (f : Fr p H H') : MisAt C H' x u := m.mono fun b o e hl => f b o e fun z => by
  obtain ⟨xs, hp⟩ := P.pen
  rw [z] at e
  rw [hp] at e
  exact hl xs (Option.some.inj e).symm
section
variable {P : Program} {w : World} {K : PySem.W.Frag} {mg : Str → Option Value} {base : Heap} {CM CJ : Addr}
theorem MisAt.ins {C : Addr} {H : Hp} {x : Addr} {u : Tab} (m : MisAt C H x u) : ∃ dx fs, H x = some (.ins C dx fs) := by
  obtain ⟨dx, a, b, c, h, _⟩ := m.at_
  exact ⟨dx, _, h⟩
end
end V8
set_option Elab.async false
set_option linter.all false
set_option maxRecDepth 100000
set_option maxHeartbeats 8000000
/-! Misreadings as functions from letters to images. -/
namespace V8
open PySem PySem.Spec PyProof.Rows L2
/-! functions from letters to images -/
abbrev Fu := Nat → Option (List Nat)
def imF (f : Fu) : List Nat → Option (List Nat)
  | [] => some []
  | c :: cs => (f c).bind fun a => (imF f cs).map (a ++ ·)
def cF (f g : Fu) : Fu := fun c => (f c).bind (imF g)
/-- over letters cs alone, in images too -/
structure Ovr (cs : List Nat) (f : Fu) : Prop where
  key : ∀ c s, f c = some s → c ∈ cs
  img : ∀ c s, f c = some s → ∀ d ∈ s, d ∈ cs
theorem imF_over {cs : List Nat} {f : Fu} (o : Ovr cs f) : ∀ {w s : List Nat}, imF f w = some s → ∀ d ∈ s, d ∈ cs
  | [], s, h, d, hd => by
    cases Option.some.inj h
    cases hd
  | c :: w, s, h, d, hd => by
    have h' : (f c).bind (fun a => (imF f w).map (a ++ ·)) = some s := h
    cases e : f c with
    | none =>
      rw [e] at h'
      cases h'
    | some z =>
      cases e2 : imF f w with
      | none =>
        rw [e, e2] at h'
        cases h'
      | some x =>
        rw [e, e2] at h'
        have h3 : z ++ x = s := Option.some.inj h'
        rw [← h3] at hd
        rcases List.mem_append.mp hd with q | q
        · exact o.img c z e d q
        · exact imF_over o e2 d q
/-- images of at most n letters -/
def Bnd (n : Nat) (f : Fu) : Prop := ∀ c s, f c = some s → s.length ≤ n
theorem imF_len {n : Nat} {f : Fu} (b : Bnd n f) : ∀ {w s : List Nat}, imF f w = some s → s.length ≤ n * w.length
  | [], s, h => by
    cases Option.some.inj h
    exact Nat.zero_le _
  | c :: w, s, h => by
    have h' : (f c).bind (fun a => (imF f w).map (a ++ ·)) = some s := h
    cases e : f c with
    | none =>
      rw [e] at h'
      cases h'
    | some z =>
      cases e2 : imF f w with
      | none =>
        rw [e, e2] at h'
        cases h'
      | some x =>
        rw [e, e2] at h'
        have h3 : z ++ x = s := Option.some.inj h'
        have h1 := b c z e
        have h2 := imF_len b e2
        rw [← h3, List.length_append, List.length_cons, Nat.mul_succ]
        omega
theorem Bnd.comp {a b : Nat} {f g : Fu} (hf : Bnd a f) (hg : Bnd b g) : Bnd (b * a) (cF f g) := fun c s h => by
  have h' : (f c).bind (imF g) = some s := h
  cases e : f c with
  | none =>
    rw [e] at h'
    cases h'
  | some z =>
    rw [e] at h'
    exact Nat.le_trans (imF_len hg h') (Nat.mul_le_mul_left _ (hf c z e))
theorem Bnd.le {a b : Nat} {f : Fu} (h : Bnd a f) (l : a ≤ b) : Bnd b f := fun c s e => Nat.le_trans (h c s e) l
theorem imF_none {f : Fu} : ∀ {w : List Nat}, imF f w = none ↔ ∃ c ∈ w, f c = none
  | [] => by
    constructor
    · intro h
      cases h
    · rintro ⟨c, h, _⟩
      cases h
  | c :: w => by
    have ih := imF_none (f := f) (w := w)
    show (f c).bind (fun a => (imF f w).map (a ++ ·)) = none ↔ _
    cases e : f c with
    | none => exact ⟨fun _ => ⟨c, List.mem_cons_self .., e⟩, fun _ => rfl⟩
    | some z =>
      constructor
      · intro h
        cases e2 : imF f w with
        | some x =>
          rw [e2] at h
          cases h
        | none =>
          obtain ⟨d, h1, h2⟩ := ih.mp e2
          exact ⟨d, List.mem_cons_of_mem _ h1, h2⟩
      · rintro ⟨d, h1, h2⟩
        rcases List.mem_cons.mp h1 with q | q
        · rw [q, e] at h2
          cases h2
        · rw [ih.mpr ⟨d, q, h2⟩]
          rfl
theorem imF_some {f : Fu} : ∀ {w : List Nat}, (∀ c ∈ w, (f c).isSome = true) → imF f w = some ((w.map fun c => (f c).getD []).flatten)
  | [], _ => rfl
  | c :: w, h => by
    show (f c).bind (fun a => (imF f w).map (a ++ ·)) = _
    rw [imF_some fun x hx => h x (List.mem_cons_of_mem _ hx)]
    have h1 := h c (List.mem_cons_self ..)
    cases e : f c with
    | none =>
      rw [e] at h1
      cases h1
    | some z =>
      show some (z ++ _) = _
      rw [List.map_cons, List.flatten_cons, e]
      rfl
/-! what a Misreading's table tells -/
def lk (u : Tab) : Fu := fun c => if c ∈ abc then lookT u c else none
theorem lk_mem {u : Tab} {c : Nat} : c ∈ keysOf u ↔ (lk u c).isSome = true := by
  rw [keysOf_mem]
  show _ ↔ (if c ∈ abc then lookT u c else none).isSome = true
  by_cases h : c ∈ abc
  · rw [if_pos h]
    exact ⟨fun z => z.2, fun z => ⟨h, z⟩⟩
  · rw [if_neg h]
    exact ⟨fun z => absurd z.1 h, fun z => by cases z⟩
theorem lk_look {u : Tab} {c : Nat} (h : c ∈ keysOf u) : lookT u c = lk u c := by
  show _ = (if c ∈ abc then lookT u c else none)
  rw [if_pos (keysOf_mem.mp h).1]
theorem lk_some {u : Tab} {c : Nat} {s : List Nat} (h : lk u c = some s) : c ∈ keysOf u ∧ lookT u c = some s := by
  have m : c ∈ keysOf u := lk_mem.mpr (by rw [h]; rfl)
  exact ⟨m, (lk_look m).trans h⟩
theorem lk_not {u : Tab} {c : Nat} (h : c ∉ keysOf u) : lk u c = none := by
  cases e : lk u c with
  | none => rfl
  | some s => exact absurd (lk_some e).1 h
theorem keys_abc {u : Tab} {c : Nat} (h : c ∈ keysOf u) : c ∈ abc := (keysOf_mem.mp h).1
/-- a table told over letters cs -/
theorem good_over {cs : List Nat} {t : Tab} (g : GoodT cs t) : Ovr cs (lk t) := ⟨fun c s h => g.key _ (look_in (lk_some h).2), fun c s h => (g.img _ (look_in (lk_some h).2)).2.2⟩
theorem good_bnd {cs : List Nat} {t : Tab} (g : GoodT cs t) : Bnd 4 (lk t) := fun c s h => (g.img _ (look_in (lk_some h).2)).2.1
theorem imF_look {u : Tab} {cs : List Nat} (h : ∀ c ∈ cs, c ∈ keysOf u) : imF (lk u) cs = some ((cs.map fun c => (lookT u c).getD []).flatten) := by
  rw [imF_some fun c hc => lk_mem.mp (h c hc)]
  have e : (cs.map fun c => (lk u c).getD []) = cs.map fun c => (lookT u c).getD [] := List.map_congr_left fun c hc => by rw [lk_look (h c hc)]
  rw [e]
theorem imF_keys {u : Tab} {cs r : List Nat} (h : imF (lk u) cs = some r) : ∀ c ∈ cs, c ∈ keysOf u := fun c hc => by
  by_cases m : c ∈ keysOf u
  · exact m
  · have e := imF_none.mpr ⟨c, hc, lk_not m⟩
    rw [h] at e
    cases e
/-- tables put together letter by letter -/
theorem look_app {t : Tab} {c : Nat} {s : List Nat} (h : c ∉ t.map (·.1)) (c' : Nat) : lookT (t ++ [(c, s)]) c' = if c' = c then some s else lookT t c' := by
  rw [← putT_new h, look_put]
/-- the table that f makes of the letters ks -/
def mkT (f : Fu) (ks : List Nat) : Tab := ks.filterMap fun c => (f c).map fun s => (c, s)
theorem mkT_keys (f : Fu) (ks : List Nat) : ∀ c ∈ (mkT f ks).map (·.1), c ∈ ks := fun c h => by
  obtain ⟨q, hq, rfl⟩ := List.mem_map.mp h
  obtain ⟨d, hd, e⟩ := List.mem_filterMap.mp hq
  cases z : f d with
  | none =>
    rw [z] at e
    cases e
  | some s =>
    rw [z] at e
    have e' : (d, s) = q := Option.some.inj e
    rw [← e']
    exact hd
theorem mkT_len (f : Fu) (ks : List Nat) : (mkT f ks).length ≤ ks.length := List.length_filterMap_le _ _
theorem mkT_snoc (f : Fu) (ks : List Nat) (c : Nat) : mkT f (ks ++ [c]) = mkT f ks ++ (match f c with | some s => [(c, s)] | none => []) := by
  unfold mkT
  rw [List.filterMap_append]
  congr 1
  cases e : f c with
  | none => simp [e]
  | some s => simp [e]
theorem look_cons (k : Nat) (s : List Nat) (t : Tab) (c : Nat) : lookT ((k, s) :: t) c = if k = c then some s else lookT t c := by
  unfold lookT
  rw [List.find?_cons]
  by_cases h : k = c
  · rw [if_pos h]
    simp [h]
  · rw [if_neg h]
    simp [h]
theorem mkT_cons (f : Fu) (k : Nat) (ks : List Nat) : mkT f (k :: ks) = (match f k with | some s => [(k, s)] | none => []) ++ mkT f ks := by
  unfold mkT
  rw [List.filterMap_cons]
  cases e : f k with
  | none => rfl
  | some s => rfl
theorem mkT_look (f : Fu) : ∀ {ks : List Nat}, ks.Nodup → ∀ c, lookT (mkT f ks) c = if c ∈ ks then f c else none
  | [], _, c => by rw [if_neg List.not_mem_nil]; rfl
  | k :: ks, nd, c => by
    have nd1 := List.nodup_cons.mp nd
    have ih' := mkT_look f nd1.2 c
    rw [mkT_cons]
    cases e : f k with
    | none =>
      show lookT (mkT f ks) c = _
      rw [ih']
      by_cases h2 : c = k
      · rw [h2, if_neg nd1.1, if_pos (List.mem_cons_self ..), e]
      · by_cases h : c ∈ ks
        · rw [if_pos h, if_pos (List.mem_cons_of_mem _ h)]
        · rw [if_neg h, if_neg (fun z => (List.mem_cons.mp z).elim h2 h)]
    | some s =>
      show lookT ((k, s) :: mkT f ks) c = _
      rw [look_cons, ih']
      by_cases h2 : k = c
      · rw [if_pos h2, ← h2, if_pos (List.mem_cons_self ..), e]
      · rw [if_neg h2]
        by_cases h : c ∈ ks
        · rw [if_pos h, if_pos (List.mem_cons_of_mem _ h)]
        · rw [if_neg h, if_neg (fun z => (List.mem_cons.mp z).elim (fun y => h2 y.symm) h)]
theorem mkT_lk {f : Fu} {ks : List Nat} (nd : ks.Nodup) (h : ∀ c s, f c = some s → c ∈ ks ∧ c ∈ abc) : lk (mkT f ks) = f := by
  funext c
  show (if c ∈ abc then lookT (mkT f ks) c else none) = f c
  rw [mkT_look f nd]
  cases e : f c with
  | none => by_cases a : c ∈ abc <;> by_cases b : c ∈ ks <;> simp [a, b, e]
  | some s =>
    obtain ⟨a, b⟩ := h c s e
    rw [if_pos b, if_pos a]
end V8
set_option Elab.async false
set_option linter.all false
set_option maxRecDepth 100000
set_option maxHeartbeats 8000000
/-! The program's small tests; a Misreading of what other ones have joined. -/
namespace V8
open PySem PySem.Spec PyProof.Rows L2
abbrev s_check_other : Stmt := topS 36
theorem sc_check_other : FnScope ["other"] ["other"] (defScope s_check_other) := ⟨rfl, rfl, rfl, by decide +kernel, rfl, by decide +kernel, by decide +kernel⟩
abbrev s_Joined_init : Stmt := inClass (topS 31) 0
theorem sc_Joined_init : FnScope ["self", "images"] ["self", "images"] (defScope s_Joined_init) := ⟨rfl, rfl, rfl, by decide +kernel, rfl, by decide +kernel, by decide +kernel⟩
abbrev s_Misreading_first_barred : Stmt := inClass (topS 32) 7
theorem sc_Misreading_first_barred : FnScope ["self", "text", "at", "letter"] ["self", "text"] (defScope s_Misreading_first_barred) := ⟨rfl, rfl, rfl, by decide +kernel, rfl, by decide +kernel, by decide +kernel⟩
abbrev s_Misreading_image : Stmt := inClass (topS 32) 8
abbrev n_Misreading_image : List Str := ["self", "text", "letter"]
theorem sc_Misreading_image : FnScope ["self", "text", "letter"] ["self", "text"] (defScope s_Misreading_image) := ⟨rfl, rfl, rfl, by decide +kernel, rfl, by decide +kernel, by decide +kernel⟩
structure Tz (K : PySem.W.Frag) (mg : Str → Option Value) (CM CJ : Addr) : Prop extends Ty K mg CM CJ where
  enumerate : mg "enumerate" = none
  all : mg "all" = none
  bool : mg "bool" = none
  gLONGEST_JOINED : GV mg "LONGEST_JOINED" (.int 64)
  clJ : Cls K CJ
  nJ : NoAttr K CJ "images"
  jA : PySem.W.findIn K (.ref CJ) "__class__" = some (some (.builtin "object.__class__"))
  jD : PySem.W.mroIn K CJ (.type "object") = some true
  ip : IntP K CM
  JJ : PySem.W.kitOne K (.ref CJ) (.ref CJ) = some true
def spChkO (CM : Addr) : Sp := fun vs H Q _ => ∃ z u, vs = [.ref z] ∧ MisAt CM H z u ∧ Q .non H
def fJ (d : Addr) : List (Str × V) := putF "images" (.ref d) []
theorem fJ_i (d : Addr) : (fJ d).lookup ("images" : Str) = some (.ref d) := by
  unfold fJ
  rw [lookup_putF, if_pos rfl]
def spJ (CJ : Addr) : Sp := fun vs H Q _ => ∃ (j dj d : Addr), vs = [.ref j, .ref d] ∧ H j = some (.ins CJ dj []) ∧ Q .non (upd H j (.ins CJ dj (fJ d)))
def spInitJ (CM CJ : Addr) : Sp := fun vs H Q _ => ∃ (x dx j dj d : Addr) (t : Tab), vs = [.ref x, .ref j, .str (Sx [])] ∧ H x = some (.ins CM dx []) ∧ H j = some (.ins CJ dj (fJ d)) ∧ H d = some (.dK (encT t)) ∧ t.length ≤ 12 ∧
  ∀ H', MisN CM H H' x t → (∀ b o, H b = some o → b ≠ x → H' b = some o) → Q .non H'
def spFB (CM : Addr) : Sp := fun vs H Q _ => ∃ (x : Addr) (u : Tab) (cs : List Nat), vs = [.ref x, .str (Sx cs)] ∧ MisAt CM H x u ∧ cs.length ≤ 4000 ∧ (∀ r H', imF (lk u) cs = some r → Same H H' → Q .non H') ∧ (∀ (i : Nat) H', i < cs.length → imF (lk u) cs = none → Same H H' → Q (.int i) H')
def spImg (CM : Addr) : Sp := fun vs H Q _ => ∃ (x : Addr) (u : Tab) (cs r : List Nat), vs = [.ref x, .str (Sx cs)] ∧ MisAt CM H x u ∧ Bnd 64 (lk u) ∧ imF (lk u) cs = some r ∧ cs.length ≤ 2000 ∧ ∀ H', Same H H' → Q (.str (Sx r)) H'
section
variable {P : Program} {w : World} {K : PySem.W.Frag} {mg : Str → Option Value} {base : Heap} {CM CJ : Addr}
theorem ok_check_other {f : Addr} {fd : FuncData} (F : Fun K "check_other" "check_other" s_check_other f fd) (T : Ty K mg CM CJ) : FnOk P w K mg base CX0 1 f fd ["other"] (spChkO CM) := by
  refine F.ok sc_check_other (fun vs H Q E h => ?_) (fun cdv A outer s H vs Q E hr h => ?_)
  · obtain ⟨z, u, rfl, _⟩ := h
    rfl
  · obtain ⟨z, u, rfl, M, q⟩ := h
    refine ⟨_, (pss_one (ps_if (pt_not (pt_val (pe_callB call_isi (by rfl) T.isinstance (by decide +kernel) (pa_cons (pv 0) (pa_cons (pe_gv T.gMisreading (by rfl)) pa_nil)))))
        (pss_one ps_never)
        pss_nil)), ?_⟩
    obtain ⟨dx, fs, hx⟩ := M.ins
    exact ⟨_, rfl, _, .ref CM, .ref CM, .ref CM, true, rfl, .own _, .base (.ins hx T.cl T.tA T.tB T.tC T.tD), T.mM, true, rfl, iteF q⟩
theorem ok_Joined {f : Addr} {fd : FuncData} (F : Fun K "__init__" "Joined.__init__" s_Joined_init f fd) (T : Tz K mg CM CJ) : FnOk P w K mg base CX0 1 f fd ["self", "images"] (spJ CJ) := by
  refine F.ok sc_Joined_init (fun vs H Q E h => ?_) (fun cdv A outer s H vs Q E hr h => ?_)
  · obtain ⟨j, dj, d, rfl, _⟩ := h
    rfl
  · obtain ⟨j, dj, d, rfl, hj, q⟩ := h
    refine ⟨_, (pss_one (ps_fld (pv 0) (pv 1) rfl)), ?_⟩
    exact ⟨_, rfl, _, rfl, j, CJ, dj, [], rfl, hj, T.clJ, T.nJ, by decide, q⟩
theorem ok_initJ {f : Addr} {fd : FuncData} {dvs : List V} (F : FunD K "__init__" "Misreading.__init__" (defArgs s_Misreading_init) (defBody s_Misreading_init) (defScope s_Misreading_init) dvs [] f fd) (T : Tz K mg CM CJ) (D_told_images : Df P w K mg base 4 "told_images" spTold) : FnOk P w K mg base CX0 5 f fd ["self", "images", "keeps"] (spInitJ CM CJ) := by
  refine F.ok sc_Misreading_init (fun vs H Q E h => ?_) (fun cdv A outer s H vs Q E hr h => ?_)
  · obtain ⟨x, dx, j, dj, d, t, rfl, _⟩ := h
    rfl
  · obtain ⟨x, dx, j, dj, r, u, rfl, hx, hj, hr1, lu, q⟩ := h
    refine ⟨_, (pss_cons (ps_set (i := 3) sc_Misreading_init.nd rfl (.inr rfl) (pe_ifExp (pt_val (pe_callB call_isi (by rfl) T.isinstance (by decide +kernel) (pa_cons (pv 1) (pa_cons (pe_gv T.gJoined (by rfl)) pa_nil)))) (pe_fldK (K := K) rfl (pv 1) rfl) (pe_c D_told_images hr (by decide) (by rfl) (pa_cons (pv 1) (pa_cons (pv 2) pa_nil)))))
      (pss_cons (ps_if (pt_cmpR op_gt (pe_callB call_lenD (by rfl) T.len (by decide +kernel) (pa_cons (pv 3) pa_nil)) (pe_gv T.gMOST_LETTERS (by rfl)) (nomark _))
        (pss_one ps_never)
        pss_nil)
      (pss_cons (ps_fld (pv 0) (pe_callTy (call_tuple_ofK (K := K) rfl) (by rfl) T.tuple (by decide +kernel) (pa_cons (pe_lc (own := [("letter", 4)]) (g := gName 4) (by rfl) sc_Misreading_init.nd (pi_str (pe_gv T.gLETTERS (by rfl))) (blkOk_by (own := [("letter", 4)]) (N := n_Misreading_init) (sc := defScope s_Misreading_init) (by decide +kernel)) (fun _ _ _ _ _ => (pg_name (i := 4) sc_Misreading_init.nd rfl (.inl rfl))) (fun _ _ _ _ _ => (pts_one (pt_cmp (pc_din (hu_of hr) (pv 4) (pv 3))))) (fun _ _ _ _ _ => (pv 4))) pa_nil)) rfl)
      (pss_cons (ps_fld (pv 0) (pe_dc (own := [("letter", 4)]) (g := gName 4) (by rfl) sc_Misreading_init.nd (pi_tup (pe_fldK (K := K) rfl (pv 0) rfl)) (blkOk_by (own := [("letter", 4)]) (N := n_Misreading_init) (sc := defScope s_Misreading_init) (by decide +kernel)) (fun _ _ _ _ _ => (pg_name (i := 4) sc_Misreading_init.nd rfl (.inl rfl))) (fun _ _ _ _ _ => pts_nil) (fun _ _ _ _ _ => (pv 4)) (fun _ _ _ _ _ => (pe_dget (hu_of hr) (pv 3) (pv 4) (fun _ _ => rfl)))) rfl)
      (pss_one (ps_fld (pv 0) (pe_callTy (call_tuple_ofK (K := K) rfl) (by rfl) T.tuple (by decide +kernel) (pa_cons (pe_lc (own := [("letter", 4)]) (g := gName 4) (by rfl) sc_Misreading_init.nd (pi_tup (pe_fldK (K := K) rfl (pv 0) rfl)) (blkOk_by (own := [("letter", 4)]) (N := n_Misreading_init) (sc := defScope s_Misreading_init) (by decide +kernel)) (fun _ _ _ _ _ => (pg_name (i := 4) sc_Misreading_init.nd rfl (.inl rfl))) (fun _ _ _ _ _ => (pts_one (pt_cmpR op_ne (pe_dget (hu_of hr) (pv 3) (pv 4) (fun _ _ => rfl)) (pv 4) (nomark _)))) (fun _ _ _ _ _ => (pv 4))) pa_nil)) rfl)))))), ?_⟩
    refine ⟨_, rfl, _, .ref CJ, .ref CJ, .ref CJ, true, rfl, .own _, .base (.ins hj T.clJ T.jA T.tB T.tC T.jD), T.JJ, true, rfl, ?_⟩
    refine iteT ?_
    refine ⟨_, rfl, j, CJ, dj, _, _, rfl, hj, T.clJ, T.nJ, fJ_i r, ?_⟩
    obtain ⟨H1, e1⟩ : ∃ H1, H1 = H := ⟨H, rfl⟩
    have sm : Same H H1 := by
      rw [e1]
      exact Same.refl H
    have hx1 := sm _ _ hx
    replace hr1 := sm _ _ hr1
    have h12 : (12 : Nat) ≤ 12 := Nat.le_refl _
    show tSeq _ _ _ _ H
    rw [show tSeq _ _ _ _ H = tSeq _ _ _ _ H1 from by rw [e1]]
    clear e1
    -- len(told) > 12
    refine ⟨_, rfl, r, _, rfl, hr1, _, _, rfl, rfl, _, rfl, ?_⟩
    rw [encT_len, decide_eq_false (by show ¬ ((12 : Int) < (u.length : Int)); omega)]
    refine iteF ?_
    have hx0 : ∀ b o, H b = some o → b ≠ x → H1 b = some o := fun b o e _ => sm b o e
    -- self._letters
    refine ⟨abcS, rfl, fun D nD => lc_it walk_str (fun i H2 => H2 = upd H1 D (.lst (lets ((abc.take i).filter fun c => (lookT u c).isSome)))) rfl (fun _ _ _ _ => trivial) ?_ ?_⟩
    · rintro i z H2 H2' hi rfl ⟨rfl, c, hc, rfl⟩
      have hc' : abc[i]? = some c := by
        rw [← abcS_cps]
        simpa using hc
      have hrD : r ≠ D := ne_of_none hr1 nD
      refine ⟨rfl, _, rfl, _, rfl, r, _, rfl, DGet.k (k := Sum.inr (L1 c)) (by rw [upd_ne hrD]; exact hr1), _, rfl, ?_⟩
      rw [valV_enc]
      have hs := some_put u i c hc'
      by_cases e : (lookT u c).isSome = true
      · have e2 : (Option.map (fun s => V.str (Sx s)) (lookT u c)).isSome = true := by rw [Option.isSome_map]; exact e
        rw [e2]
        refine iteT ?_
        rw [if_pos e] at hs
        refine ⟨_, rfl, lets ((abc.take i).filter fun c => (lookT u c).isSome), upd_same, ?_, ?_⟩
        · rw [lets_len]
          have h1 := List.length_filter_le (fun c => (lookT u c).isSome) (abc.take i)
          have h2 : (abc.take i).length ≤ 26 := by rw [List.length_take, abc_len]; omega
          exact small1000 (by omega)
        · rw [upd_upd, hs, lets_snoc]
          rfl
      · have e2 : (Option.map (fun s => V.str (Sx s)) (lookT u c)).isSome = false := by
          rw [Option.isSome_map]
          exact Bool.eq_false_iff.mpr e
        rw [e2]
        refine iteF ?_
        rw [if_neg e, List.append_nil] at hs
        rw [hs]
    · rintro H2 rfl
      have hsz : abcS.cps.size = 26 := by decide +kernel
      rw [hsz]
      have ek : (abc.take 26).filter (fun c => (lookT u c).isSome) = keysOf u := by
        rw [List.take_of_length_le (by rw [abc_len]; exact Nat.le_refl _)]
        rfl
      rw [ek]
      refine ⟨D, _, rfl, .inl ⟨SqL.of upd_same, fun a na => ?_⟩⟩
      have hxD : x ≠ D := ne_of_none hx1 nD
      have hxa : x ≠ a := ne_of_none (H := upd H1 D (.lst (lets (keysOf u)))) (o := .ins CM dx []) (by rw [upd_ne hxD]; exact hx1) na
      have hrD : r ≠ D := ne_of_none hr1 nD
      have hra : r ≠ a := ne_of_none (H := upd H1 D (.lst (lets (keysOf u)))) (o := .dK (encT u)) (by rw [upd_ne hrD]; exact hr1) na
      have hrx : r ≠ x := ne_of hr1 hx1 (fun z => nomatch z)
      refine ⟨_, rfl, x, CM, dx, [], rfl, by rw [upd_ne hxa, upd_ne hxD]; exact hx1, T.cl, T.nL, by show 0 < 1000; decide, ?_⟩
      have fr3 : ∀ b o, H b = some o → b ≠ x → upd (upd (upd H1 D (.lst (lets (keysOf u)))) a (.tup (lets (keysOf u)))) x (.ins CM dx (f1 a)) b = some o := fun b o e hb => by
        have e1 := sm b o e
        have hbD := ne_of_none e1 nD
        rw [upd_ne hb, upd_ne (ne_of_none (H := upd H1 D (.lst (lets (keysOf u)))) (o := o) (by rw [upd_ne hbD]; exact e1) na), upd_ne hbD]
        exact e1
      have hx3 : upd (upd (upd H1 D (.lst (lets (keysOf u)))) a (.tup (lets (keysOf u)))) x (.ins CM dx (f1 a)) x = some (.ins CM dx (f1 a)) := upd_same
      have ha3 : upd (upd (upd H1 D (.lst (lets (keysOf u)))) a (.tup (lets (keysOf u)))) x (.ins CM dx (f1 a)) a = some (.tup (lets (keysOf u))) := by rw [upd_ne (Ne.symm hxa), upd_same]
      have hr3 : upd (upd (upd H1 D (.lst (lets (keysOf u)))) a (.tup (lets (keysOf u)))) x (.ins CM dx (f1 a)) r = some (.dK (encT u)) := by rw [upd_ne hrx, upd_ne hra, upd_ne hrD]; exact hr1
      show tSeq _ _ _ _ (upd (upd (upd H1 D (.lst (lets (keysOf u)))) a (.tup (lets (keysOf u)))) x (.ins CM dx (f1 a)))
      generalize upd (upd (upd H1 D (.lst (lets (keysOf u)))) a (.tup (lets (keysOf u)))) x (.ins CM dx (f1 a)) = H3 at fr3 hx3 ha3 hr3 ⊢
      have naH : H a = none := by
        cases e : H a with
        | none => rfl
        | some o =>
          have e1 := sm _ _ e
          have e2 : upd H1 D (.lst (lets (keysOf u))) a = some o := by rw [upd_ne (ne_of_none e1 nD)]; exact e1
          rw [e2] at na
          cases na
      clear na nD hxD hxa hrD hra
      -- self._images
      refine ⟨_, rfl, x, CM, dx, _, _, rfl, hx3, T.cl, T.nL, f1_L a, a, rfl, ⟨_, .inl (.inl ha3)⟩, fun D2 nD2 => dc_it (walk_tup (K := K) (a := a) (xs := lets (keysOf u))) (fun i H4 => H4 = upd H3 D2 (.dK (encT (((keysOf u).take i).map fun c => (c, (lookT u c).getD []))))) rfl ?_ ?_ ?_⟩
      · rintro i H4 hi rfl
        exact .inl (.inl (by rw [upd_ne (ne_of_none ha3 nD2)]; exact ha3))
      · rintro i z H4 H4' hi rfl ⟨rfl, hz⟩
        obtain ⟨hik, rfl⟩ := lets_get hz
        obtain ⟨s, es⟩ := Option.isSome_iff_exists.mp (List.mem_filter.mp (List.getElem_mem hik)).2
        refine ⟨rfl, _, rfl, _, rfl, _, rfl, r, V.str (Sx s), rfl, .inl ⟨_, Sum.inr (L1 (keysOf u)[i]), .inl (by rw [upd_ne (ne_of_none hr3 nD2)]; exact hr3), rfl, by rw [valV_enc, es]; rfl⟩, _, Sum.inr (L1 (keysOf u)[i]), rfl, upd_same, ?_, ?_⟩
        · rw [encT_len, List.length_map, List.length_take]
          have := keysOf_len u
          exact small1000 (by omega)
        · rw [upd_upd, putK_enc]
          congr 3
          exact ims_succ (keysOf_nd u) hik (by rw [es]; rfl)
      · rintro H4 rfl
        rw [lets_len, List.take_length]
        have hxD2 : x ≠ D2 := ne_of_none hx3 nD2
        have haD2 : a ≠ D2 := ne_of_none ha3 nD2
        have hrD2 : r ≠ D2 := ne_of_none hr3 nD2
        refine ⟨_, rfl, x, CM, dx, f1 a, rfl, by rw [upd_ne hxD2]; exact hx3, T.cl, T.nI, f1_len a, ?_⟩
        have hax : a ≠ x := ne_of ha3 hx3 (fun z => nomatch z)
        have nbH : H D2 = none := by
          cases e : H D2 with
          | none => rfl
          | some o =>
            have e1 := fr3 _ _ e (Ne.symm hxD2)
            rw [e1] at nD2
            cases nD2
        have fr5 : ∀ b o, H b = some o → b ≠ x → upd (upd H3 D2 (.dK (encT (ims u)))) x (.ins CM dx (f2 a D2)) b = some o := fun b o e hb => by
          have e1 := fr3 b o e hb
          rw [upd_ne hb, upd_ne (ne_of_none e1 nD2)]
          exact e1
        have hx5 : upd (upd H3 D2 (.dK (encT (ims u)))) x (.ins CM dx (f2 a D2)) x = some (.ins CM dx (f2 a D2)) := upd_same
        have ha5 : upd (upd H3 D2 (.dK (encT (ims u)))) x (.ins CM dx (f2 a D2)) a = some (.tup (lets (keysOf u))) := by rw [upd_ne hax, upd_ne haD2]; exact ha3
        have hr5 : upd (upd H3 D2 (.dK (encT (ims u)))) x (.ins CM dx (f2 a D2)) r = some (.dK (encT u)) := by rw [upd_ne hrx, upd_ne hrD2]; exact hr3
        have hd5 : upd (upd H3 D2 (.dK (encT (ims u)))) x (.ins CM dx (f2 a D2)) D2 = some (.dK (encT (ims u))) := by rw [upd_ne (Ne.symm hxD2), upd_same]
        show Ends.nx _ _ (upd (upd H3 D2 (.dK (encT (ims u)))) x (.ins CM dx (f2 a D2)))
        generalize upd (upd H3 D2 (.dK (encT (ims u)))) x (.ins CM dx (f2 a D2)) = H5 at fr5 hx5 ha5 hr5 hd5 ⊢
        -- self.changed
        refine ⟨_, rfl, x, CM, dx, _, _, rfl, hx5, T.cl, T.nL, f2_L a D2, a, rfl, ⟨_, .inl (.inl ha5)⟩, fun D3 nD3 => lc_it (walk_tup (K := K) (a := a) (xs := lets (keysOf u))) (fun i H6 => H6 = upd H5 D3 (.lst (lets (((keysOf u).take i).filter fun c => decide (lookT u c ≠ some [c]))))) rfl ?_ ?_ ?_⟩
        · rintro i H6 hi rfl
          exact .inl (.inl (by rw [upd_ne (ne_of_none ha5 nD3)]; exact ha5))
        · rintro i z H6 H6' hi rfl ⟨rfl, hz⟩
          obtain ⟨hik, rfl⟩ := lets_get hz
          obtain ⟨s, es⟩ := Option.isSome_iff_exists.mp (List.mem_filter.mp (List.getElem_mem hik)).2
          refine ⟨rfl, _, rfl, _, rfl, r, V.str (Sx s), rfl, .inl ⟨_, Sum.inr (L1 (keysOf u)[i]), .inl (by rw [upd_ne (ne_of_none hr5 nD3)]; exact hr5), rfl, by rw [valV_enc, es]; rfl⟩, _, rfl, rfl, _, rfl, ?_⟩
          have hs := chg_succ (u := u) hik
          by_cases e : s = [(keysOf u)[i]]
          · have e1 : lookT u (keysOf u)[i] = some [(keysOf u)[i]] := by rw [es, e]
            rw [if_neg (by simp [e1]), List.append_nil] at hs
            rw [decide_eq_true (show V.str (Sx s) = V.str (L1 (keysOf u)[i]) by rw [e]; rfl)]
            refine iteF ?_
            rw [hs]
          · have e1 : ¬ lookT u (keysOf u)[i] = some [(keysOf u)[i]] := by
              rw [es]
              exact fun z => e (Option.some.inj z)
            rw [if_pos (by simpa using e1)] at hs
            rw [decide_eq_false (show ¬ V.str (Sx s) = V.str (L1 (keysOf u)[i]) from fun z => e (Sx_inj (V.str.inj z)))]
            refine iteT ?_
            refine ⟨_, rfl, _, upd_same, ?_, ?_⟩
            · rw [lets_len]
              have h1 := List.length_filter_le (fun c => decide (lookT u c ≠ some [c])) ((keysOf u).take i)
              have h2 := keysOf_len u
              have h3 : ((keysOf u).take i).length ≤ (keysOf u).length := by rw [List.length_take]; omega
              exact small1000 (by omega)
            · rw [upd_upd, hs, lets_snoc]
        · rintro H6 rfl
          rw [lets_len, List.take_length]
          refine ⟨D3, _, rfl, .inl ⟨SqL.of upd_same, fun c nc => ?_⟩⟩
          have hxD3 : x ≠ D3 := ne_of_none hx5 nD3
          have up : ∀ b o, H5 b = some o → upd (upd H5 D3 (.lst (lets (chg u)))) c (.tup (lets (chg u))) b = some o := fun b o e => by
            have hb := ne_of_none e nD3
            rw [upd_ne (ne_of_none (H := upd H5 D3 (.lst (lets (chg u)))) (o := o) (by rw [upd_ne hb]; exact e) nc), upd_ne hb]
            exact e
          have hxc : x ≠ c := ne_of_none (H := upd H5 D3 (.lst (lets (chg u)))) (o := .ins CM dx (f2 a D2)) (by rw [upd_ne hxD3]; exact hx5) nc
          refine ⟨_, rfl, x, CM, dx, f2 a D2, rfl, up _ _ hx5, T.cl, T.nC, f2_len a D2, ?_⟩
          have ncH : H c = none := by
            have nc' : upd H5 D3 (.lst (lets (chg u))) c = none := nc
            cases e : H c with
            | none => rfl
            | some o =>
              have e3 := fr5 _ _ e (Ne.symm hxc)
              have e2 : upd H5 D3 (.lst (lets (chg u))) c = some o := by
                rw [upd_ne (ne_of_none e3 nD3)]
                exact e3
              rw [e2] at nc'
              cases nc'
          have hD2x : D2 ≠ x := ne_of hd5 hx5 (fun z => nomatch z)
          refine q _ ⟨dx, a, D2, c, upd_same, ?_, ?_, ?_, naH, nbH, ncH⟩ fun b o e hb => ?_
          · rw [upd_ne hax]
            exact up _ _ ha5
          · rw [upd_ne hD2x]
            exact up _ _ hd5
          · rw [upd_ne (Ne.symm hxc)]
            exact upd_same
          · rw [upd_ne hb]
            exact up _ _ (fr5 b o e hb)
end
end V8
set_option Elab.async false
set_option linter.all false
set_option maxRecDepth 100000
set_option maxHeartbeats 8000000
/-! first_barred, image. -/
namespace V8
open PySem PySem.Spec PyProof.Rows L2
section
variable {P : Program} {w : World} {K : PySem.W.Frag} {mg : Str → Option Value} {base : Heap} {CM CJ : Addr}
theorem ok_first_barred {f : Addr} {fd : FuncData} (F : Fun K "first_barred" "Misreading.first_barred" s_Misreading_first_barred f fd) (T : Tz K mg CM CJ) : FnOk P w K mg base CX0 1 f fd ["self", "text"] (spFB CM) := by
  refine F.ok sc_Misreading_first_barred (fun vs H Q E h => ?_) (fun cdv A outer s H vs Q E hr h => ?_)
  · obtain ⟨x, u, cs, rfl, _⟩ := h
    rfl
  · obtain ⟨x, u, cs, rfl, ⟨dx, a, b, c', hx, ha, hb, hc⟩, h4, q1, q2⟩ := h
    refine ⟨_, (pss_cons (ps_for PassesOwn.never rfl (pi_enumS (by rfl) T.enumerate (pa_cons (pv 1) pa_nil)) (pg_tup (by rfl) (pgs_cons (pg_name (i := 2) sc_Misreading_first_barred.nd rfl (.inl rfl)) (pgs_cons (pg_name (i := 3) sc_Misreading_first_barred.nd rfl (.inl rfl)) pgs_nil)))
        (pss_one (ps_if (pt_cmp (pc_dnotin (hu_of hr) (pv 3) (pe_fldK (K := K) rfl (pv 0) rfl)))
          (pss_one (ps_ret (pv 2)))
          pss_nil)))
      (pss_one (ps_ret pe_non))), ?_⟩
    refine ⟨_, rfl, Sx cs, rfl, for_it walk_enumS (fun i σ H2 => (∃ v2 v3 : Option V, σ = [some (.ref x), some (.str (Sx cs)), v2, v3]) ∧ Same H H2 ∧ ∀ c ∈ cs.take i, c ∈ keysOf u) ⟨⟨none, none, rfl⟩, Same.refl H, fun c h => by simp at h⟩ (fun _ _ _ _ _ => trivial) ?_ ?_⟩
    · rintro i z σ H2 H2' hi ⟨⟨v2, v3, rfl⟩, s2, hk⟩ ⟨tq, c, rfl, ntq, rfl, hc0⟩
      have hc1 := sx_at hc0
      obtain ⟨hi', ec⟩ := List.getElem?_eq_some_iff.mp hc1
      refine ⟨tq, _, rfl, .inl (.inl upd_same), rfl, _, _, rfl, _, _, rfl, rfl, ?_⟩
      have s3 := same_put (s := s2) (o := .tup [.int (i : Nat), .str ⟨#[c]⟩]) ntq
      refine ⟨_, rfl, _, rfl, x, CM, dx, _, _, rfl, s3 _ _ hx, T.cl, T.nI, f3_I a b c', b, _, rfl, DGet.k (k := Sum.inr (L1 c)) (s3 _ _ hb), _, rfl, ?_⟩
      rw [valV_enc, Option.isSome_map, look_ims]
      by_cases m : c ∈ keysOf u
      · rw [if_pos m]
        refine iteF ⟨⟨_, _, rfl⟩, s3, fun d hd => ?_⟩
        rw [List.take_add_one, hc1] at hd
        rcases List.mem_append.mp hd with h | h
        · exact hk d h
        · rw [List.mem_singleton.mp h]
          exact m
      · rw [if_neg m]
        refine iteT ⟨_, rfl, q2 i _ hi' ?_ s3⟩
        exact imF_none.mpr ⟨c, ec ▸ List.getElem_mem hi', lk_not m⟩
    · rintro σ H2 ⟨⟨v2, v3, rfl⟩, s2, hk⟩
      rw [sx_size, List.take_length] at hk
      exact q1 _ H2 (imF_look hk) s2
theorem ok_image {f : Addr} {fd : FuncData} (F : Fun K "image" "Misreading.image" s_Misreading_image f fd) (T : Tz K mg CM CJ) : FnOk P w K mg base CX0 1 f fd ["self", "text"] (spImg CM) := by
  refine F.ok sc_Misreading_image (fun vs H Q E h => ?_) (fun cdv A outer s H vs Q E hr h => ?_)
  · obtain ⟨x, u, cs, r, rfl, _⟩ := h
    rfl
  · obtain ⟨x, u, cs, r, rfl, ⟨dx, a, b, c', hx, ha, hb, hc⟩, sm, er, h2, q⟩ := h
    refine ⟨_, (pss_one (ps_ret (pe_joinK (K := K) rfl pe_str (pe_lc (own := [("letter", 2)]) (g := gName 2) (by rfl) sc_Misreading_image.nd (pi_str (pv 1)) (blkOk_by (own := [("letter", 2)]) (N := n_Misreading_image) (sc := defScope s_Misreading_image) (by decide +kernel)) (fun _ _ _ _ _ => (pg_name (i := 2) sc_Misreading_image.nd rfl (.inl rfl))) (fun _ _ _ _ _ => pts_nil) (fun _ _ _ _ _ => (pe_dget (hu_of hr) (pe_fldK (K := K) rfl (pv 0) rfl) (pv 2) (fun _ _ => rfl))))))), ?_⟩
    have hin := imF_keys er
    have e0 := imF_look hin
    rw [e0] at er
    have e1 := Option.some.inj er
    obtain ⟨ss, ess⟩ : ∃ ss, ss = cs.map fun c => (lookT u c).getD [] := ⟨_, rfl⟩
    rw [← ess] at e1
    have hz : ∀ (i : Nat) (hi : i < cs.length), ((ss.map Sx).map V.str)[i]? = some (V.str (Sx ((lookT u cs[i]).getD []))) := fun i hi => by
      rw [ess, List.getElem?_map, List.getElem?_map, List.getElem?_map, List.getElem?_eq_getElem hi]
      rfl
    have hl : ((ss.map Sx).map V.str).length = cs.length := by
      rw [ess, List.length_map, List.length_map, List.length_map]
    refine ⟨⟨_, rfl⟩, _, rfl, Sx cs, rfl, fun D nD => lc_it walk_str (fun i H2 => H2 = upd H D (.lst (((ss.map Sx).map V.str).take i))) rfl (fun _ _ _ _ => trivial) ?_ ?_⟩
    · rintro i z H2 H2' hi rfl ⟨rfl, c, hc0, rfl⟩
      have hc1 := sx_at hc0
      obtain ⟨hi', ec⟩ := List.getElem?_eq_some_iff.mp hc1
      have hm : c ∈ keysOf u := hin c (ec ▸ List.getElem_mem hi')
      obtain ⟨s2, e2⟩ := Option.isSome_iff_exists.mp (keysOf_mem.mp hm).2
      have s1 : Same H (upd H D (.lst (((ss.map Sx).map V.str).take i))) := same_put (s := fun _ _ e => e) nD
      have hz2 := hz i hi'
      rw [ec, e2] at hz2
      refine ⟨rfl, _, rfl, x, CM, dx, _, _, rfl, s1 _ _ hx, T.cl, T.nI, f3_I a b c', _, rfl, b, V.str (Sx s2), rfl, .inl ⟨_, Sum.inr (L1 c), .inl (s1 _ _ hb), rfl, by rw [valV_enc, look_ims_some hm, e2]; rfl⟩, ?_⟩
      refine ⟨_, upd_same, ?_, ?_⟩
      · rw [List.length_take, sizeLine_eq]
        omega
      · rw [upd_upd, List.take_add_one, hz2]
        rfl
    · rintro H2 rfl
      rw [sx_size, List.take_of_length_le (by rw [hl]; exact Nat.le_refl _)]
      refine ⟨Str.empty, D, ss.map Sx, rfl, rfl, .inl (SqL.of upd_same), ?_, ?_⟩
      · have h1 : ((ss.map Sx).map fun x => x.length).sum ≤ _ := sum_le (fun x => x.length) 64 _ fun y hy => by
          obtain ⟨s3, hs3, rfl⟩ := List.mem_map.mp hy
          rw [ess] at hs3
          obtain ⟨c, hc, rfl⟩ := List.mem_map.mp hs3
          obtain ⟨s2, e2⟩ := Option.isSome_iff_exists.mp (keysOf_mem.mp (hin c hc)).2
          rw [Sx_len, e2]
          exact sm c _ (by rw [← lk_look (hin c hc)]; exact e2)
        have h3 : (ss.map Sx).length = cs.length := by
          rw [ess, List.length_map, List.length_map]
        rw [h3] at h1 ⊢
        show _ + _ * 0 ≤ _
        have h4 : 64 * cs.length ≤ 64 * 2000 := Nat.mul_le_mul_left _ h2
        omega
      · rw [join_Sx, e1]
        exact q _ (same_put (s := fun _ _ e => e) nD)
end
end V8
set_option Elab.async false
set_option linter.all false
set_option maxRecDepth 100000
set_option maxHeartbeats 8000000
/-! Joined and Misreadings of it made. -/
namespace V8
open PySem PySem.Spec PyProof.Rows L2
structure MkrJ (P : Program) (w : World) (K : PySem.W.Frag) (mg : Str → Option Value) (base : Heap) (CJ : Addr) : Prop where
  ex : ∃ (f : Addr) (fd : FuncData), Mk K CJ f ∧ FnOk P w K mg base CX0 1 f fd ["self", "images"] (spJ CJ) ∧ mg "Joined" = some (.ref CJ) ∧ Binds K fd ["self", "images"] []
structure MkrM (P : Program) (w : World) (K : PySem.W.Frag) (mg : Str → Option Value) (base : Heap) (CM CJ : Addr) : Prop where
  ex : ∃ (f : Addr) (fd : FuncData), Mk K CM f ∧ FnOk P w K mg base CX0 5 f fd pI (spInitJ CM CJ) ∧ mg "Misreading" = some (.ref CM) ∧ ∃ ds, Vals [.str (Sx [])] ds ∧ Binds K fd pI ds
def tMkJ (CJ : Addr) (t : TA) : TE := fun σ H Q => t σ H fun vs H1 => ∃ d, vs = [.ref d] ∧ ∀ j dj H', H1 j = none → H' j = some (.ins CJ dj (fJ d)) → Same H1 H' → Q (.ref j) H'
def tMkMJ (CM CJ : Addr) (t : TA) : TE := fun σ H Q => t σ H fun vs H1 => ∃ j dj d tb, vs = [.ref j] ∧ H1 j = some (.ins CJ dj (fJ d)) ∧ H1 d = some (.dK (encT tb)) ∧ tb.length ≤ 12 ∧ ∀ x H', H1 x = none → MisAt CM H' x tb → Same H1 H' → Q (.ref x) H'
section
variable {X : Cx} {j : Nat} {CM CJ : Addr} {p pos : Pos} {e : Expr} {es : List Expr} {t : TA}
theorem pe_mkJ (M : MkrJ X.prog X.w X.K X.mg X.base CJ) (hr : Room j X.A) (hj : 2 ≤ j) (hg : Gl X "Joined") (ha : PA X (e :: es) t) (he : starEach (e :: es) X.env = (false, eval e X.env) :: starEach es X.env := by rfl) (hpl : (backTo pos (starEach es X.env)).any (·.1) = false := by rfl) :
    PE X (.Call (.Name "Joined" p) (e :: es) [] pos) (tMkJ CJ t) := by
  obtain ⟨f, fd, M, F, hm, b0⟩ := M.ex
  refine ⟨fun pins s σ H Q I h => ?_⟩
  refine wpAny_Call_Name_kw (ld_glob I hg hm ?_ (by decide))
  refine PySem.W.callWith_K (h₀ := X.base) I.ok.mod.kin M.kp (thn (ha.run pos pins s σ H _ I h) fun us s1 ⟨vs, H1, I1, r, q⟩ => ⟨I1.kIn, ?_⟩) he hpl
  obtain ⟨d, rfl, q⟩ := q
  refine run_make (dvs := []) (ds := []) M F (hr.mono hj) b0 .nil pass0 I1 r fun x dx hx hdx ne => ?_
  rw [List.append_nil]
  refine ⟨x, dx, d, rfl, upd_same, rfl, q x dx _ hx upd_same fun b o eo => ?_⟩
  have b1 := ne_of_none eo hx
  rw [upd_ne b1, upd_ne b1, upd_ne (ne_of_none eo hdx)]
  exact eo
theorem pe_mkMJ (M : MkrM X.prog X.w X.K X.mg X.base CM CJ) (hr : Room j X.A) (hj : 6 ≤ j) (hg : Gl X "Misreading") (ha : PA X (e :: es) t) (he : starEach (e :: es) X.env = (false, eval e X.env) :: starEach es X.env := by rfl) (hpl : (backTo pos (starEach es X.env)).any (·.1) = false := by rfl) :
    PE X (.Call (.Name "Misreading" p) (e :: es) [] pos) (tMkMJ CM CJ t) := by
  obtain ⟨f, fd, M, F, hm, ds, hd, b1⟩ := M.ex
  refine ⟨fun pins s σ H Q I h => ?_⟩
  refine wpAny_Call_Name_kw (ld_glob I hg hm ?_ (by decide))
  refine PySem.W.callWith_K (h₀ := X.base) I.ok.mod.kin M.kp (thn (ha.run pos pins s σ H _ I h) fun us s1 ⟨vs, H1, I1, r, q⟩ => ⟨I1.kIn, ?_⟩) he hpl
  obtain ⟨j, dj, d, tb, rfl, hj1, hd1, l12, q⟩ := q
  refine run_make M F (hr.mono hj) b1 hd pass0 I1 r fun x dx hx hdx ne => ?_
  have up : ∀ b o, H1 b = some o → upd (upd H1 dx (.own x)) x (.ins CM dx []) b = some o := fun b o eo => by
    rw [upd_ne (ne_of_none eo hx), upd_ne (ne_of_none eo hdx)]
    exact eo
  refine ⟨x, dx, j, dj, d, tb, rfl, upd_same, up _ _ hj1, up _ _ hd1, l12, fun H' m fr => ⟨rfl, q x H' hx m.mis fun b o eo => fr b o (up _ _ eo) (ne_of_none eo hx)⟩⟩
end
/-- what K holds of the def, as the rule above wants it -/
theorem mkrM_of {P : Program} {w : World} {K : PySem.W.Frag} {mg : Str → Option Value} {base : Heap} {CM CJ f : Addr} {fd : FuncData} (F : FunD K "__init__" "Misreading.__init__" (defArgs s_Misreading_init) (defBody s_Misreading_init) (defScope s_Misreading_init) [.str (Sx [])] [] f fd) (T : Tz K mg CM CJ)
    (D_told_images : Df P w K mg base 4 "told_images" spTold) (M : Mk K CM f) (hm : mg "Misreading" = some (.ref CM)) : MkrM P w K mg base CM CJ := by
  refine ⟨f, fd, M, ok_initJ F T D_told_images, hm, ?_⟩
  obtain ⟨ds, h1, h2⟩ := F.binds1 (ps := pI) 2 0 (fun z => nomatch z) rfl (fun T kV doc pm an cdv ct us its h1 h2 => match us, its, h1, h2 with | [_, _], [_], _, _ => ⟨_, rfl, rfl⟩)
  exact ⟨ds, h1, h2⟩
end V8
set_option Elab.async false
set_option linter.all false
set_option maxRecDepth 100000
set_option maxHeartbeats 8000000
/-! one >> other. -/
namespace V8
open PySem PySem.Spec PyProof.Rows L2
abbrev s_Misreading_rshift : Stmt := inClass (topS 32) 9
theorem sc_Misreading_rshift : FnScope ["self", "other", "images", "letter", "middle"] ["self", "other"] (defScope s_Misreading_rshift) := ⟨rfl, rfl, rfl, by decide +kernel, rfl, by decide +kernel, by decide +kernel⟩
theorem f3_no {a b c : Addr} {m : Str} (h1 : ¬ m = "_letters") (h2 : ¬ m = "_images") (h3 : ¬ m = "changed") : (f3 a b c).lookup m = none := by
  unfold f3 f2 f1
  rw [lookup_putF, if_neg h3, lookup_putF, if_neg h2, lookup_putF, if_neg h1]
  rfl
theorem keys_le {u : Tab} {cs : List Nat} (o : Ovr cs (lk u)) : (keysOf u).length ≤ cs.length := nd_len (keysOf_nd u) fun c hc => by
  obtain ⟨s, e⟩ := Option.isSome_iff_exists.mp (lk_mem.mp hc)
  exact o.key c s e
/-- a Misreading made anew of f -/
def Makes (CM : Addr) (H : Hp) (f : Fu) (Q : VK) : Prop := ∀ z H' t, H z = none → MisAt CM H' z t → lk t = f → Same H H' → Q (.ref z) H'
def spRsh (CM : Addr) : Sp := fun vs H Q _ => ∃ (x y : Addr) (u v : Tab) (cs : List Nat), vs = [.ref x, .ref y] ∧ MisAt CM H x u ∧ MisAt CM H y v ∧ Bnd 64 (lk u) ∧ Bnd 64 (lk v) ∧ Bnd 64 (cF (lk u) (lk v)) ∧ Ovr cs (lk u) ∧ cs.length ≤ 12 ∧ Makes CM H (cF (lk u) (lk v)) Q
section
variable {P : Program} {w : World} {K : PySem.W.Frag} {mg : Str → Option Value} {base : Heap} {CM CJ : Addr}
theorem ok_rshift {f : Addr} {fd : FuncData} (F : Fun K "__rshift__" "Misreading.__rshift__" s_Misreading_rshift f fd) (T : Tz K mg CM CJ) (D_check_other : Df P w K mg base 1 "check_other" (spChkO CM)) (D_first_barred : Mf P w K mg base 1 CM "first_barred" (spFB CM)) (D_image : Mf P w K mg base 1 CM "image" (spImg CM))
    (D_mkJ : MkrJ P w K mg base CJ) (D_mkMJ : MkrM P w K mg base CM CJ) : FnOk P w K mg base CX0 7 f fd ["self", "other"] (spRsh CM) := by
  refine F.ok sc_Misreading_rshift (fun vs H Q E h => ?_) (fun cdv A outer s H vs Q E hr h => ?_)
  · obtain ⟨x, y, u, v, cs, rfl, _⟩ := h
    rfl
  · obtain ⟨x, y, u, v, cs, rfl, mx, my, bu, bv, bc, ov, h12, q⟩ := h
    refine ⟨_, (pss_cons (ps_expr (pe_c D_check_other hr (by decide) (by rfl) (pa_cons (pv 1) pa_nil)))
      (pss_cons (ps_set (i := 2) sc_Misreading_rshift.nd rfl (.inl rfl) pe_dnewK)
      (pss_cons (ps_for PassesOwn.never rfl (pi_tup (pe_fldK (K := K) rfl (pv 0) rfl)) (pg_name (i := 3) sc_Misreading_rshift.nd rfl (.inl rfl))
        (pss_cons (ps_set (i := 4) sc_Misreading_rshift.nd rfl (.inl rfl) (pe_dget (hu_of hr) (pe_fldK (K := K) rfl (pv 0) rfl) (pv 3) (fun _ _ => rfl)))
        (pss_one (ps_if (pt_cmpR op_isN (pe_mt T.cl D_first_barred hr (by decide) (pv 1) (pa_cons (pv 4) pa_nil)) pe_non (nomark _))
          (pss_cons (ps_dput (hu_of hr) (pv 2) (pv 3) (pe_mt T.cl D_image hr (by decide) (pv 1) (pa_cons (pv 4) pa_nil)) rfl)
          (pss_one (ps_if (pt_cmpR op_gt (pe_callB call_len_str (by rfl) T.len (by decide +kernel) (pa_cons (pe_dget (hu_of hr) (pv 2) (pv 3) (fun _ _ => rfl)) pa_nil)) (pe_gv T.gLONGEST_JOINED (by rfl)) (nomark _))
            (pss_one ps_never)
            pss_nil)))
          pss_nil))))
      (pss_one (ps_ret (pe_mkMJ D_mkMJ hr (by decide) (by rfl) (pa_cons (pe_mkJ D_mkJ hr (by decide) (by rfl) (pa_cons (pv 2) pa_nil)) pa_nil))))))), ?_⟩
    have kl := keys_le ov
    obtain ⟨dx, a, b, c', hx, ha, hb, hc⟩ := id mx.at_
    refine ⟨_, rfl, y, v, rfl, my, fun D nD => ?_⟩
    have s0 := same_put (s := Same.refl H) (o := .dK (encT [])) nD
    refine ⟨_, rfl, x, CM, dx, _, _, rfl, s0 _ _ hx, T.cl, T.nL, f3_L a b c', a, rfl, ⟨_, .inl (.inl (s0 _ _ ha))⟩, for_it (walk_tup (K := K) (a := a) (xs := lets (keysOf u))) (fun i σ H2 => (∃ v3 v4 : Option V, σ = [some (.ref x), some (.ref y), some (.ref D), v3, v4]) ∧ Same H H2 ∧ H2 D = some (.dK (encT (mkT (cF (lk u) (lk v)) ((keysOf u).take i))))) ⟨⟨none, none, rfl⟩, s0, upd_same⟩ ?_ ?_ ?_⟩
    · rintro i σ H2 hi ⟨_, s2, _⟩
      exact .inl (.inl (s2 _ _ ha))
    · rintro i z σ H2 H2' hi ⟨⟨v3, v4, rfl⟩, s2, hD⟩ ⟨rfl, hz⟩
      obtain ⟨hik, rfl⟩ := lets_get hz
      have hm := List.getElem_mem hik
      obtain ⟨s, e2⟩ := Option.isSome_iff_exists.mp (keysOf_mem.mp hm).2
      have e3 : lk u (keysOf u)[i] = some s := by rw [← lk_look hm]; exact e2
      have s64 := bu _ _ e3
      refine ⟨_, rfl, x, CM, dx, _, _, rfl, s2 _ _ hx, T.cl, T.nI, f3_I a b c', _, rfl, b, V.str (Sx s), rfl, .inl ⟨_, Sum.inr (L1 (keysOf u)[i]), .inl (s2 _ _ hb), rfl, by rw [valV_enc, look_ims_some hm, e2]; rfl⟩, ?_⟩
      obtain ⟨dy, a2, b2, c2, hy, ha2, hb2, hc2⟩ := id my.at_
      refine ⟨_, rfl, y, dy, _, rfl, s2 _ _ hy, f3_no (by decide +kernel) (by decide +kernel) (by decide +kernel), _, rfl, y, v, s, rfl, my.same s2, by omega, fun r H3 er s3 => ?_, fun k H3 hk en s3 => ?_⟩
      · -- the image is let
        have hn2 := mkT_snoc (cF (lk u) (lk v)) ((keysOf u).take i) (keysOf u)[i]
        have hcf : cF (lk u) (lk v) (keysOf u)[i] = some r := by
          show (lk u (keysOf u)[i]).bind (imF (lk v)) = some r
          rw [e3]
          exact er
        have r64 := bc _ _ hcf
        rw [hcf] at hn2
        refine ⟨rfl, true, rfl, iteT ?_⟩
        refine ⟨_, rfl, y, dy, _, rfl, s3 _ _ (s2 _ _ hy), f3_no (by decide +kernel) (by decide +kernel) (by decide +kernel), _, rfl, y, v, s, r, rfl, (my.same s2).same s3, bv, er, by omega, fun H4 s4 => ?_⟩
        have hD4 := s4 _ _ (s3 _ _ hD)
        have tl := mkT_len (cF (lk u) (lk v)) ((keysOf u).take i)
        rw [List.length_take] at tl
        refine ⟨_, rfl, _, rfl, D, _, rfl, DPut.k (k := Sum.inr (L1 (keysOf u)[i])) hD4 (by rw [encT_len]; exact small1000 (by omega)), ?_⟩
        have eT : (keysOf u).take (i + 1) = (keysOf u).take i ++ [(keysOf u)[i]] := by
          rw [List.take_add_one, List.getElem?_eq_getElem hik]
          rfl
        have nk : (keysOf u)[i] ∉ (mkT (cF (lk u) (lk v)) ((keysOf u).take i)).map (·.1) := fun z => by
          have h1 := mkT_keys _ _ _ z
          have nd := keysOf_nd u
          rw [← List.take_append_drop (i + 1) (keysOf u), eT] at nd
          exact (List.nodup_append.mp (List.nodup_append.mp nd).1).2.2 _ h1 _ (by simp) rfl
        have ep : putK (encT (mkT (cF (lk u) (lk v)) ((keysOf u).take i))) (Sum.inr (L1 (keysOf u)[i])) (V.str (Sx r)) = encT (mkT (cF (lk u) (lk v)) ((keysOf u).take (i + 1))) := by
          rw [putK_enc, putT_new nk, eT, hn2]
        rw [ep]
        have s5 : Same H (upd H4 D (.dK (encT (mkT (cF (lk u) (lk v)) ((keysOf u).take (i + 1)))))) := same_over (s := fun b o e => s4 _ _ (s3 _ _ (s2 _ _ e))) nD
        have hD5 : upd H4 D (.dK (encT (mkT (cF (lk u) (lk v)) ((keysOf u).take (i + 1))))) D = some (.dK (encT (mkT (cF (lk u) (lk v)) ((keysOf u).take (i + 1))))) := upd_same
        have lkn : lookT (mkT (cF (lk u) (lk v)) ((keysOf u).take (i + 1))) (keysOf u)[i] = some r := by
          rw [eT, hn2, look_app nk, if_pos rfl]
        refine ⟨_, rfl, _, rfl, D, V.str (Sx r), rfl, .inl ⟨_, Sum.inr (L1 (keysOf u)[i]), .inl hD5, rfl, by rw [valV_enc, lkn]; rfl⟩, _, rfl, by rw [Sx_len, sizeLine_eq]; omega, _, _, rfl, rfl, _, rfl, ?_⟩
        rw [Sx_len, decide_eq_false (by show ¬ ((64 : Int) < (r.length : Int)); omega)]
        exact iteF ⟨⟨_, _, rfl⟩, s5, hD5⟩
      · -- it is barred
        refine ⟨rfl, false, rfl, iteF ⟨⟨_, _, rfl⟩, fun b o e => s3 _ _ (s2 _ _ e), ?_⟩⟩
        have hcf : cF (lk u) (lk v) (keysOf u)[i] = none := by
          show (lk u (keysOf u)[i]).bind (imF (lk v)) = none
          rw [e3]
          exact en
        rw [List.take_add_one, List.getElem?_eq_getElem hik]
        show H3 D = some (.dK (encT (mkT _ ((keysOf u).take i ++ [(keysOf u)[i]]))))
        rw [mkT_snoc, hcf]
        show H3 D = some (.dK (encT (mkT _ ((keysOf u).take i) ++ [])))
        rw [List.append_nil]
        exact s3 _ _ hD
    · rintro σ H2 ⟨⟨v3, v4, rfl⟩, s2, hD⟩
      rw [lets_len, List.take_length] at hD
      have tl := mkT_len (cF (lk u) (lk v)) (keysOf u)
      refine ⟨_, rfl, D, rfl, fun j dj H3 nj hj s3 => ?_⟩
      refine ⟨j, dj, D, _, rfl, hj, s3 _ _ hD, by omega, fun z H4 nz mz s4 => ?_⟩
      refine q z H4 _ (same_none (s := fun b o e => s3 _ _ (s2 _ _ e)) nz) mz (mkT_lk (keysOf_nd u) fun c s h => ?_) fun b o e => s4 _ _ (s3 _ _ (s2 _ _ e))
      have hm : c ∈ keysOf u := lk_mem.mpr (by
        have h' : (lk u c).bind (imF (lk v)) = some s := h
        cases e : lk u c with
        | none =>
          rw [e] at h'
          cases h'
        | some z => rfl)
      exact ⟨hm, keys_abc hm⟩
end
end V8
set_option Elab.async false
set_option linter.all false
set_option maxRecDepth 100000
set_option maxHeartbeats 8000000
/-! Values of any kind copied. -/
namespace V8
open PySem PySem.Spec PyProof.Rows L2
abbrev s_copied : Stmt := topS 2
abbrev n_copied : List Str := ["value", "part", "key"]
theorem sc_copied : FnScope ["value", "part", "key"] ["value"] (defScope s_copied) := ⟨rfl, rfl, rfl, by decide +kernel, rfl, by decide +kernel, by decide +kernel⟩
theorem valV_at : ∀ {kvs : List (Key × V)} {i : Nat} {k : Key} {v : V}, (kvs.map (·.1)).Nodup → kvs[i]? = some (k, v) → valV kvs k = some v
  | [], i, k, v, _, h => by simp at h
  | p :: r, 0, k, v, _, h => by
    obtain rfl : p = (k, v) := by simpa using h
    simp [valV]
  | p :: r, i + 1, k, v, nd, h => by
    have h2 : r[i]? = some (k, v) := by simpa using h
    have nd2 := List.nodup_cons.mp (by simpa using nd : (p.1 :: r.map (·.1)).Nodup)
    have ne : ¬ p.1 = k := fun z => nd2.1 (z ▸ List.mem_map.mpr ⟨(k, v), List.mem_of_getElem? h2, rfl⟩)
    have ih := valV_at nd2.2 h2
    unfold valV at ih ⊢
    rw [List.find?_cons_of_neg (by simpa using ne)]
    exact ih
theorem not_take {kvs : List (Key × V)} {i : Nat} {k : Key} {v : V} (nd : (kvs.map (·.1)).Nodup) (h : kvs[i]? = some (k, v)) : k ∉ (kvs.take i).map (·.1) := by
  obtain ⟨hi, e⟩ := List.getElem?_eq_some_iff.mp h
  intro z
  rw [← List.take_append_drop i kvs, List.map_append, List.drop_eq_getElem_cons hi, e, List.map_cons] at nd
  exact (List.nodup_append.mp nd).2.2 _ z _ List.mem_cons_self rfl
/-- names that the text does not take -/
structure Tq (mg : Str → Option Value) : Prop extends Blt mg where
  isinstance : mg "isinstance" = none
  repr : mg "repr" = none
  enumerate : mg "enumerate" = none
/-- no list, tuple, dict, object -/
def Flat (x : V) : Prop := (∃ z, x = .str z) ∨ (∃ i, x = .int i) ∨ x = .non ∨ ∃ b, x = .bl b
theorem Flat.ty {K : PySem.W.Frag} {x : V} (f : Flat x) : ∃ t, (∀ H : Hp, TyX K H x t) ∧ PySem.W.kitOne K t (.type "list") = some false ∧ PySem.W.kitOne K t (.type "tuple") = some false ∧ PySem.W.kitOne K t (.type "dict") = some false := by
  rcases f with ⟨z, rfl⟩ | ⟨i, rfl⟩ | rfl | ⟨b, rfl⟩
  · exact ⟨_, fun _ => ty_str _, kit_ty (by decide +kernel), kit_ty (by decide +kernel), kit_ty (by decide +kernel)⟩
  · exact ⟨_, fun _ => .base (.int i), kit_ty (by decide +kernel), kit_ty (by decide +kernel), kit_ty (by decide +kernel)⟩
  · exact ⟨_, fun _ => .base .non, kit_ty (by decide +kernel), kit_ty (by decide +kernel), kit_ty (by decide +kernel)⟩
  · exact ⟨_, fun _ => .base (.bl b), kit_ty (by decide +kernel), kit_ty (by decide +kernel), kit_ty (by decide +kernel)⟩
theorem Flat.pyw {H H2 : Hp} {x : V} {d : PyData} (f : Flat x) (p : PyW H x d) : PyW H2 x d := by
  rcases f with ⟨z, rfl⟩ | ⟨i, rfl⟩ | rfl | ⟨b, rfl⟩ <;> cases p <;> constructor
theorem flats_pyw {H H2 : Hp} : ∀ {xs : List V} {ds : List PyData}, (∀ y ∈ xs, Flat y) → PyWs H xs ds → PyWs H2 xs ds
  | _, _, _, .nil => .nil
  | _, _, f, .cons h r => .cons ((f _ (List.mem_cons_self ..)).pyw h) (flats_pyw (fun y hy => f y (List.mem_cons_of_mem _ hy)) r)
/-- a flat value is handed back as it is -/
def spCopied (K : PySem.W.Frag) : Sp := fun vs H Q _ => ∃ (x : V) (t : Value), vs = [x] ∧ TyX K H x t ∧ PySem.W.kitOne K t (.type "list") = some false ∧ PySem.W.kitOne K t (.type "tuple") = some false ∧ PySem.W.kitOne K t (.type "dict") = some false ∧ Q x H
/-- flat, or a tuple, list or dict of such -/
def Told2 (H : Hp) (x : V) : Prop := Flat x ∨ (∃ a xs, x = .ref a ∧ (H a = some (.tup xs) ∨ H a = some (.lst xs)) ∧ xs.length ≤ 100 ∧ ∀ y ∈ xs, Flat y) ∨ ∃ a kvs, x = .ref a ∧ H a = some (.dK kvs) ∧ kvs.length ≤ 15 ∧ (kvs.map (·.1)).Nodup ∧ ∀ y ∈ kvs.map (·.2), Flat y
theorem Told2.same {H H2 : Hp} {x : V} (t : Told2 H x) (s : Same H H2) : Told2 H2 x := by
  rcases t with f | ⟨a, xs, e, h, l, g⟩ | ⟨a, kvs, e, h, l, n, g⟩
  · exact .inl f
  · exact .inr (.inl ⟨a, xs, e, h.imp (s _ _) (s _ _), l, g⟩)
  · exact .inr (.inr ⟨a, kvs, e, s _ _ h, l, n, g⟩)
theorem putK_new {kvs : List (Key × V)} {k : Key} {v : V} (h : k ∉ kvs.map (·.1)) : putK kvs k v = kvs ++ [(k, v)] := by
  unfold putK
  rw [if_neg]
  intro z
  obtain ⟨p, hp, e⟩ := List.any_eq_true.mp z
  have e2 : p.1 = k := by simpa using e
  exact h (e2 ▸ List.mem_map.mpr ⟨p, hp, rfl⟩)
def spCopyW : Sp := fun vs H Q _ => ∃ (x : V) (d : PyData), vs = [x] ∧ Told2 H x ∧ PyW H x d ∧ ∀ y H', Same H H' → PyW H' y d → Q y H'
section
variable {P : Program} {w : World} {K : PySem.W.Frag} {mg : Str → Option Value} {base : Heap}
theorem ok_copied {f : Addr} {fd : FuncData} (F : Fun K "copied" "copied" s_copied f fd) (T : Tq mg) (D_copied : Df P w K mg base 0 "copied" fun _ _ _ _ => False) : FnOk P w K mg base CX0 1 f fd ["value"] (spCopied K) := by
  refine F.ok sc_copied (fun vs H Q E h => ?_) (fun cdv A outer s H vs Q E hr h => ?_)
  · obtain ⟨x, t, rfl, _⟩ := h
    rfl
  · obtain ⟨x, t, rfl, ty, e1, e2, e3, q⟩ := h
    refine ⟨_, (pss_cons (ps_if (pt_val (pe_callB call_isi (by rfl) T.isinstance (by decide +kernel) (pa_cons (pv 0) (pa_cons (pe_bltn (v := .ty "list") (by rfl) T.list (by decide +kernel) rfl) pa_nil))))
        (pss_one (ps_ret (pe_lc (own := [("part", 1)]) (g := gName 1) (by rfl) sc_copied.nd (pi_list (pv 0)) (blkOk_by (own := [("part", 1)]) (N := n_copied) (sc := defScope s_copied) (by decide +kernel)) (fun _ _ _ _ _ => (pg_name (i := 1) sc_copied.nd rfl (.inl rfl))) (fun _ _ _ _ _ => pts_nil) (fun _ _ _ _ _ => (pe_c D_copied hr (by decide) (by rfl) (pa_cons (pv 1) pa_nil))))))
        pss_nil)
      (pss_cons (ps_if (pt_val (pe_callB call_isi (by rfl) T.isinstance (by decide +kernel) (pa_cons (pv 0) (pa_cons (pe_bltn (v := .ty "tuple") (by rfl) T.tuple (by decide +kernel) rfl) pa_nil))))
        (pss_one (ps_ret (pe_callTy (call_tuple_ofK (K := K) rfl) (by rfl) T.tuple (by decide +kernel) (pa_cons (pe_lc (own := [("part", 1)]) (g := gName 1) (by rfl) sc_copied.nd (pi_tup (pv 0)) (blkOk_by (own := [("part", 1)]) (N := n_copied) (sc := defScope s_copied) (by decide +kernel)) (fun _ _ _ _ _ => (pg_name (i := 1) sc_copied.nd rfl (.inl rfl))) (fun _ _ _ _ _ => pts_nil) (fun _ _ _ _ _ => (pe_c D_copied hr (by decide) (by rfl) (pa_cons (pv 1) pa_nil)))) pa_nil))))
        pss_nil)
      (pss_cons (ps_if (pt_val (pe_callB call_isi (by rfl) T.isinstance (by decide +kernel) (pa_cons (pv 0) (pa_cons (pe_bltn (v := .ty "dict") (by rfl) T.dict (by decide +kernel) rfl) pa_nil))))
        (pss_one (ps_ret (pe_lock (pe_dc (own := [("key", 2)]) (g := gName 2) (by rfl) sc_copied.nd (pi_keys (pv 0)) (blkOk_by (own := [("key", 2)]) (N := n_copied) (sc := defScope s_copied) (by decide +kernel)) (fun _ _ _ _ _ => (pg_name (i := 2) sc_copied.nd rfl (.inl rfl))) (fun _ _ _ _ _ => pts_nil) (fun _ _ _ _ _ => (pv 2)) (fun _ _ _ _ _ => (pe_c D_copied hr (by decide) (by rfl) (pa_cons (pe_dget (hu_of hr) (pv 0) (pv 2) (fun _ _ => rfl)) pa_nil)))))))
        pss_nil)
      (pss_one (ps_ret (pv 0)))))), ?_⟩
    refine ⟨_, rfl, _, .ty "list", t, .type "list", false, rfl, .ty _, ty, e1, false, rfl, iteF ?_⟩
    refine ⟨_, rfl, _, .ty "tuple", t, .type "tuple", false, rfl, .ty _, ty, e2, false, rfl, iteF ?_⟩
    refine ⟨_, rfl, _, .ty "dict", t, .type "dict", false, rfl, .ty _, ty, e3, false, rfl, iteF ?_⟩
    exact ⟨_, rfl, q⟩
theorem ok_copyW {f : Addr} {fd : FuncData} (F : Fun K "copied" "copied" s_copied f fd) (T : Tq mg) (D_copied : Df P w K mg base 1 "copied" (spCopied K)) : FnOk P w K mg base CX0 2 f fd ["value"] spCopyW := by
  refine F.ok sc_copied (fun vs H Q E h => ?_) (fun cdv A outer s H vs Q E hr h => ?_)
  · obtain ⟨x, d, rfl, _⟩ := h
    rfl
  · obtain ⟨x, d, rfl, tl, pv0, q⟩ := h
    refine ⟨_, (pss_cons (ps_if (pt_val (pe_callB call_isi (by rfl) T.isinstance (by decide +kernel) (pa_cons (pv 0) (pa_cons (pe_bltn (v := .ty "list") (by rfl) T.list (by decide +kernel) rfl) pa_nil))))
        (pss_one (ps_ret (pe_lc (own := [("part", 1)]) (g := gName 1) (by rfl) sc_copied.nd (pi_list (pv 0)) (blkOk_by (own := [("part", 1)]) (N := n_copied) (sc := defScope s_copied) (by decide +kernel)) (fun _ _ _ _ _ => (pg_name (i := 1) sc_copied.nd rfl (.inl rfl))) (fun _ _ _ _ _ => pts_nil) (fun _ _ _ _ _ => (pe_c D_copied hr (by decide) (by rfl) (pa_cons (pv 1) pa_nil))))))
        pss_nil)
      (pss_cons (ps_if (pt_val (pe_callB call_isi (by rfl) T.isinstance (by decide +kernel) (pa_cons (pv 0) (pa_cons (pe_bltn (v := .ty "tuple") (by rfl) T.tuple (by decide +kernel) rfl) pa_nil))))
        (pss_one (ps_ret (pe_callTy (call_tuple_ofK (K := K) rfl) (by rfl) T.tuple (by decide +kernel) (pa_cons (pe_lc (own := [("part", 1)]) (g := gName 1) (by rfl) sc_copied.nd (pi_tup (pv 0)) (blkOk_by (own := [("part", 1)]) (N := n_copied) (sc := defScope s_copied) (by decide +kernel)) (fun _ _ _ _ _ => (pg_name (i := 1) sc_copied.nd rfl (.inl rfl))) (fun _ _ _ _ _ => pts_nil) (fun _ _ _ _ _ => (pe_c D_copied hr (by decide) (by rfl) (pa_cons (pv 1) pa_nil)))) pa_nil))))
        pss_nil)
      (pss_cons (ps_if (pt_val (pe_callB call_isi (by rfl) T.isinstance (by decide +kernel) (pa_cons (pv 0) (pa_cons (pe_bltn (v := .ty "dict") (by rfl) T.dict (by decide +kernel) rfl) pa_nil))))
        (pss_one (ps_ret (pe_lock (pe_dc (own := [("key", 2)]) (g := gName 2) (by rfl) sc_copied.nd (pi_keys (pv 0)) (blkOk_by (own := [("key", 2)]) (N := n_copied) (sc := defScope s_copied) (by decide +kernel)) (fun _ _ _ _ _ => (pg_name (i := 2) sc_copied.nd rfl (.inl rfl))) (fun _ _ _ _ _ => pts_nil) (fun _ _ _ _ _ => (pv 2)) (fun _ _ _ _ _ => (pe_c D_copied hr (by decide) (by rfl) (pa_cons (pe_dget (hu_of hr) (pv 0) (pv 2) (fun _ _ => rfl)) pa_nil)))))))
        pss_nil)
      (pss_one (ps_ret (pv 0)))))), ?_⟩
    rcases tl with f | ⟨a, xs, rfl, ha | ha, l, fl⟩ | ⟨a, kvs, rfl, ha, l, nd, fl⟩
    · obtain ⟨t, ty, e1, e2, e3⟩ := f.ty (K := K)
      refine ⟨_, rfl, _, .ty "list", t, .type "list", false, rfl, .ty _, ty _, e1, false, rfl, iteF ?_⟩
      refine ⟨_, rfl, _, .ty "tuple", t, .type "tuple", false, rfl, .ty _, ty _, e2, false, rfl, iteF ?_⟩
      refine ⟨_, rfl, _, .ty "dict", t, .type "dict", false, rfl, .ty _, ty _, e3, false, rfl, iteF ?_⟩
      exact ⟨_, rfl, q _ _ (Same.refl H) pv0⟩
    · refine ⟨_, rfl, _, .ty "list", .type "tuple", .type "list", false, rfl, .ty _, .base (.tup ha), kit_ty (by decide +kernel), false, rfl, iteF ?_⟩
      refine ⟨_, rfl, _, .ty "tuple", .type "tuple", .type "tuple", true, rfl, .ty _, .base (.tup ha), kit_ty (by decide +kernel), true, rfl, iteT ?_⟩
      refine ⟨_, rfl, a, rfl, ⟨_, .inl (.inl ha)⟩, fun D nD => lc_it (walk_tup (K := K) (a := a) (xs := xs)) (fun i H2 => H2 = upd H D (.lst (xs.take i))) rfl ?_ ?_ ?_⟩
      · rintro i H2 hi rfl
        exact .inl (.inl (by rw [upd_ne (ne_of_none ha nD)]; exact ha))
      · rintro i y H2 H3 hi rfl ⟨rfl, hy⟩
        obtain ⟨hi', ey⟩ := List.getElem?_eq_some_iff.mp hy
        obtain ⟨t, ty, e1, e2, e3⟩ := (fl y (ey ▸ List.getElem_mem hi')).ty (K := K)
        refine ⟨rfl, _, rfl, y, t, rfl, ty _, e1, e2, e3, _, upd_same, ?_, ?_⟩
        · rw [List.length_take, sizeLine_eq]
          omega
        · rw [upd_upd, List.take_add_one, hy]
          rfl
      · rintro H2 rfl
        rw [List.take_length]
        refine ⟨D, xs, rfl, .inl ⟨SqL.of upd_same, fun b nb => ?_⟩⟩
        cases pv0 with
        | tup h r =>
          rw [ha] at h
          cases h
          exact q _ _ (same_put (s := same_put (s := Same.refl H) nD) nb) (.tup upd_same (flats_pyw fl r))
        | lst h r =>
          rw [ha] at h
          cases h
        | dic h r =>
          rw [ha] at h
          cases h
    · refine ⟨_, rfl, _, .ty "list", .type "list", .type "list", true, rfl, .ty _, .base (.lst ha), kit_ty (by decide +kernel), true, rfl, iteT ?_⟩
      refine ⟨_, rfl, a, rfl, ⟨_, SqL.of ha⟩, fun D nD => lc_it (walk_list (K := K) (a := a) (xs := xs)) (fun i H2 => H2 = upd H D (.lst (xs.take i))) rfl ?_ ?_ ?_⟩
      · rintro i H2 hi rfl
        exact SqL.of (by rw [upd_ne (ne_of_none ha nD)]; exact ha)
      · rintro i y H2 H3 hi rfl ⟨rfl, hy⟩
        obtain ⟨hi', ey⟩ := List.getElem?_eq_some_iff.mp hy
        obtain ⟨t, ty, e1, e2, e3⟩ := (fl y (ey ▸ List.getElem_mem hi')).ty (K := K)
        refine ⟨rfl, _, rfl, y, t, rfl, ty _, e1, e2, e3, _, upd_same, ?_, ?_⟩
        · rw [List.length_take, sizeLine_eq]
          omega
        · rw [upd_upd, List.take_add_one, hy]
          rfl
      · rintro H2 rfl
        rw [List.take_length]
        cases pv0 with
        | tup h r =>
          rw [ha] at h
          cases h
        | lst h r =>
          rw [ha] at h
          cases h
          exact q _ _ (same_put (s := Same.refl H) nD) (.lst upd_same (flats_pyw fl r))
        | dic h r =>
          rw [ha] at h
          cases h
    · refine ⟨_, rfl, _, .ty "list", .type "dict", .type "list", false, rfl, .ty _, .base (.dK ha), kit_ty (by decide +kernel), false, rfl, iteF ?_⟩
      refine ⟨_, rfl, _, .ty "tuple", .type "dict", .type "tuple", false, rfl, .ty _, .base (.dK ha), kit_ty (by decide +kernel), false, rfl, iteF ?_⟩
      refine ⟨_, rfl, _, .ty "dict", .type "dict", .type "dict", true, rfl, .ty _, .base (.dK ha), kit_ty (by decide +kernel), true, rfl, iteT ?_⟩
      refine ⟨a, _, ha, True.intro, fun od => ⟨_, rfl, a, od, rfl, .inl ⟨_, upd_same, fun D nD => dc_it (walk_keys (d := a) (o := od) (kvs := kvs)) (fun i H2 => H2 = upd (upd H a (.frz od (.dK kvs))) D (.dK (kvs.take i))) rfl ?_ ?_ ?_⟩⟩⟩
      · rintro i H2 hi rfl
        rw [upd_ne (ne_of_none upd_same nD)]
        exact upd_same
      · rintro i x H2 H3 hi rfl ⟨rfl, k, v, hk, rfl⟩
        obtain ⟨hi', ek⟩ := List.getElem?_eq_some_iff.mp hk
        obtain ⟨t, ty, e1, e2, e3⟩ := (fl v (List.mem_map.mpr ⟨(k, v), ek ▸ List.getElem_mem hi', rfl⟩)).ty (K := K)
        have ad : a ≠ D := ne_of_none (show upd H a (.frz od (.dK kvs)) a = _ from upd_same) nD
        refine ⟨rfl, _, rfl, _, rfl, _, rfl, a, v, rfl, .inl ⟨kvs, k, .inr ⟨od, by rw [upd_ne ad]; exact upd_same⟩, rfl, (valV_at nd hk).symm⟩, v, t, rfl, ty _, e1, e2, e3, kvs.take i, k, rfl, upd_same, ?_, ?_⟩
        · rw [List.length_take, sizeLine_eq]
          omega
        · rw [upd_upd, putK_new (not_take nd hk), List.take_add_one, hk]
          rfl
      · rintro H2 rfl
        rw [List.take_length]
        have ad : a ≠ D := ne_of_none (show upd H a (.frz od (.dK kvs)) a = _ from upd_same) nD
        have nD2 : H D = none := by
          rw [upd_ne (Ne.symm ad)] at nD
          exact nD
        have eH : upd (upd (upd H a (.frz od (.dK kvs))) D (.dK kvs)) a (.dK kvs) = upd H D (.dK kvs) := by
          funext b
          by_cases h1 : b = a
          · rw [h1, upd_same, upd_ne ad, ha]
          · by_cases h2 : b = D
            · rw [h2, upd_ne (Ne.symm ad), upd_same, upd_same]
            · rw [upd_ne h1, upd_ne h2, upd_ne h1, upd_ne h2]
        refine ⟨by rw [upd_ne ad]; exact upd_same, ?_⟩
        rw [eH]
        cases pv0 with
        | tup h r =>
          rw [ha] at h
          cases h
        | lst h r =>
          rw [ha] at h
          cases h
        | dic h r =>
          rw [ha] at h
          cases h
          exact q _ _ (same_put (s := Same.refl H) nD2) (.dic upd_same (flats_pyw fl r))
end
end V8
set_option Elab.async false
set_option linter.all false
/-! Meetings of two lists of words with labels, and words told apart: no program yet. -/
namespace MZ
abbrev Wd := List Nat
/-- a word and its label -/
abbrev Pr := Wd × Nat
def cat (xs : List Pr) : Wd := (xs.map (·.1)).flatten
/-- where a row comes to, or the start, or the end -/
inductive Pl where
  | start
  | fin
  | rest (one : Bool) (w : Wd)
  deriving DecidableEq
/-- where the row that is not ahead comes to with a word -/
def behind (a : Bool) (r w : Wd) : Option Pl :=
  if w = r then some .fin
  else if w.isPrefixOf r then some (.rest a (r.drop w.length))
  else if r.isPrefixOf w then some (.rest (!a) (w.drop r.length))
  else none
/-- a step: who takes, its label, where to -/
abbrev Mo := Bool × Nat × Pl
def moves (P S : List Pr) : Pl → List Mo
  | .fin => []
  | .start => P.map fun q => (true, q.2, .rest true q.1)
  | .rest a r => (if a = true then S else P).filterMap fun q => (behind a r q.1).map fun t => (!a, q.2, t)
/-- the labels of both rows with one more -/
def put (t : Bool) (l : Nat) (w : List Nat × List Nat) : List Nat × List Nat := if t = true then (w.1 ++ [l], w.2) else (w.1, w.2 ++ [l])
/-- a way from a place to another one, with its labels behind some -/
inductive Way (P S : List Pr) (o : Pl) : Pl → List Nat × List Nat → Prop where
  | nil : Way P S o o ([], [])
  | step {p : Pl} {w : List Nat × List Nat} {t : Bool} {l : Nat} {q : Pl} : Way P S o p w → (t, l, q) ∈ moves P S p → Way P S o q (put t l w)
theorem behind_cases {a : Bool} {r w : Wd} {t : Pl} (h : behind a r w = some t) : (w = r ∧ t = .fin) ∨ (∃ z, z ≠ [] ∧ r = w ++ z ∧ t = .rest a z) ∨ ∃ z, z ≠ [] ∧ w = r ++ z ∧ t = .rest (!a) z := by
  unfold behind at h
  split at h
  · exact .inl ⟨by assumption, (Option.some.inj h).symm⟩
  · rename_i ne
    split at h
    · rename_i p
      obtain ⟨z, rfl⟩ := List.isPrefixOf_iff_prefix.mp p
      refine .inr (.inl ⟨z, fun e => ?_, rfl, ?_⟩)
      · subst e
        exact ne (List.append_nil _).symm
      · rw [← Option.some.inj h, List.drop_left]
    · split at h
      · rename_i p
        obtain ⟨z, rfl⟩ := List.isPrefixOf_iff_prefix.mp p
        refine .inr (.inr ⟨z, fun e => ?_, rfl, ?_⟩)
        · subst e
          exact ne (List.append_nil _)
        · rw [← Option.some.inj h, List.drop_left]
      · cases h
theorem Way.trans {P S : List Pr} {o p q : Pl} {w v : List Nat × List Nat} (h : Way P S o p w) (k : Way P S p q v) : Way P S o q (w.1 ++ v.1, w.2 ++ v.2) := by
  induction k with
  | nil =>
    rw [List.append_nil, List.append_nil]
    exact h
  | @step r v t l q k m ih =>
    have z := ih.step m
    cases t with
    | true =>
      have e : put true l (w.1 ++ v.1, w.2 ++ v.2) = (w.1 ++ (put true l v).1, w.2 ++ (put true l v).2) := by
        show ((w.1 ++ v.1) ++ [l], _) = (w.1 ++ (v.1 ++ [l]), _)
        rw [List.append_assoc]
        rfl
      exact e ▸ z
    | false =>
      have e : put false l (w.1 ++ v.1, w.2 ++ v.2) = (w.1 ++ (put false l v).1, w.2 ++ (put false l v).2) := by
        show (_, (w.2 ++ v.2) ++ [l]) = (_, w.2 ++ (v.2 ++ [l]))
        rw [List.append_assoc]
        rfl
      exact e ▸ z
/-- all meetings are alike -/
def Alike (P S : List Pr) : Prop := ∀ w, Way P S .start .fin w → w.1 = w.2
/-! ### leads -/
def lead (w : List Nat × List Nat) : Option (Bool × List Nat) :=
  if w.2.isPrefixOf w.1 then some (true, w.1.drop w.2.length) else if w.1.isPrefixOf w.2 then some (false, w.2.drop w.1.length) else none
theorem lead_one (b d : List Nat) : lead (b ++ d, b) = some (true, d) := by
  unfold lead
  rw [if_pos (List.isPrefixOf_iff_prefix.mpr ⟨d, rfl⟩), List.drop_left]
theorem lead_two (a : List Nat) {d : List Nat} (h : d ≠ []) : lead (a, a ++ d) = some (false, d) := by
  unfold lead
  rw [if_neg, if_pos (List.isPrefixOf_iff_prefix.mpr ⟨d, rfl⟩), List.drop_left]
  intro p
  obtain ⟨y, e⟩ := List.isPrefixOf_iff_prefix.mp p
  have e : a ++ d ++ y = a := e
  rw [List.append_assoc] at e
  exact h (List.append_eq_nil_iff.mp (List.append_cancel_left (e.trans (List.append_nil a).symm))).1
theorem lead_some {w : List Nat × List Nat} {k : Bool × List Nat} (h : lead w = some k) : (k.1 = true ∧ w.1 = w.2 ++ k.2) ∨ (k.1 = false ∧ k.2 ≠ [] ∧ w.2 = w.1 ++ k.2) := by
  obtain ⟨a, b⟩ := w
  unfold lead at h
  split at h
  · rename_i p
    obtain ⟨y, e⟩ := List.isPrefixOf_iff_prefix.mp p
    have e : b ++ y = a := e
    subst e
    rw [← Option.some.inj h]
    exact .inl ⟨rfl, by show b ++ y = b ++ (b ++ y).drop b.length; rw [List.drop_left]⟩
  · rename_i np
    split at h
    · rename_i p
      obtain ⟨y, e⟩ := List.isPrefixOf_iff_prefix.mp p
      have e : a ++ y = b := e
      subst e
      rw [← Option.some.inj h]
      refine .inr ⟨rfl, ?_, by show a ++ y = a ++ (a ++ y).drop a.length; rw [List.drop_left]⟩
      show (a ++ y).drop a.length ≠ []
      rw [List.drop_left]
      intro e
      subst e
      exact np (List.isPrefixOf_iff_prefix.mpr ⟨[], by show a ++ [] ++ [] = a; simp⟩)
    · cases h
theorem lead_cancel (c a b : List Nat) : lead (c ++ a, c ++ b) = lead (a, b) := by
  unfold lead
  have e : ∀ x y : List Nat, (c ++ x).isPrefixOf (c ++ y) = x.isPrefixOf y := fun x y => by
    rw [Bool.eq_iff_iff, List.isPrefixOf_iff_prefix, List.isPrefixOf_iff_prefix, List.prefix_append_right_inj]
  have e2 : ∀ x y : List Nat, (c ++ x).drop (c ++ y).length = x.drop y.length := fun x y => by
    rw [List.length_append, ← List.drop_drop, List.drop_left]
  show (if (c ++ b).isPrefixOf (c ++ a) = true then some (true, (c ++ a).drop (c ++ b).length) else if (c ++ a).isPrefixOf (c ++ b) = true then some (false, (c ++ b).drop (c ++ a).length) else none) = _
  rw [e, e, e2, e2]
/-- with one more, a lead tells the next -/
def nextL (t : Bool) (l : Nat) (k : Bool × List Nat) : Option (Bool × List Nat) := lead (put t l (if k.1 = true then (k.2, []) else ([], k.2)))
theorem lead_put {w : List Nat × List Nat} {k : Bool × List Nat} (h : lead w = some k) (t : Bool) (l : Nat) : lead (put t l w) = nextL t l k := by
  obtain ⟨a, b⟩ := w
  obtain ⟨k1, d⟩ := k
  rcases lead_some h with ⟨e1, e2⟩ | ⟨e1, _, e2⟩
  · obtain rfl : k1 = true := e1
    obtain rfl : a = b ++ d := e2
    cases t with
    | true =>
      show lead ((b ++ d) ++ [l], b) = lead (d ++ [l], [])
      rw [List.append_assoc]
      have := lead_cancel b (d ++ [l]) []
      rw [List.append_nil] at this
      exact this
    | false => exact lead_cancel b d [l]
  · obtain rfl : k1 = false := e1
    obtain rfl : b = a ++ d := e2
    cases t with
    | true => exact lead_cancel a [l] d
    | false =>
      show lead (a, (a ++ d) ++ [l]) = lead ([], d ++ [l])
      rw [List.append_assoc]
      have := lead_cancel a [] (d ++ [l])
      rw [List.append_nil] at this
      exact this
theorem lead_even {w : List Nat × List Nat} (h : lead w = some (true, [])) : w.1 = w.2 := by
  rcases lead_some h with ⟨_, e⟩ | ⟨e, _⟩
  · rw [e]
    exact List.append_nil _
  · cases e
theorem even_lead {w : List Nat × List Nat} (h : w.1 = w.2) : lead w = some (true, []) := by
  obtain ⟨a, b⟩ := w
  have h : a = b := h
  subst h
  have := lead_one a []
  rw [List.append_nil] at this
  exact this
/-- what is known of a place by the way that is kept to it -/
def known (W : Pl → List Nat × List Nat) : Pl → Option (Bool × List Nat)
  | .fin => some (true, [])
  | p => lead (W p)
/-- where every step into a living place has the lead that is known, all meetings are alike -/
theorem alike_of {P S : List Pr} {W : Pl → List Nat × List Nat} {L : Pl → Prop} (h0 : W .start = ([], [])) (hL : ∀ p v, Way P S p .fin v → L p)
    (hc : ∀ p w, Way P S .start p w → ∀ t l q, (t, l, q) ∈ moves P S p → L q → ∃ k, lead (put t l (W p)) = some k ∧ known W q = some k) : Alike P S := by
  have key : ∀ p w, Way P S .start p w → ∀ v, Way P S p .fin v → ∃ k, lead w = some k ∧ known W p = some k := by
    intro p w h
    induction h with
    | nil =>
      intro v _
      exact ⟨(true, []), even_lead rfl, by show lead (W .start) = _; rw [h0]; exact even_lead rfl⟩
    | @step p w t l q h m ih =>
      intro v k
      have hp : Way P S p .fin _ := (Way.step (P := P) (S := S) (.nil (o := p)) m).trans k
      obtain ⟨k0, e1, e2⟩ := ih _ hp
      have pf : known W p = lead (W p) := by
        cases p with
        | fin => cases m
        | start => rfl
        | rest a r => rfl
      rw [pf] at e2
      obtain ⟨k1, e3, e4⟩ := hc p w h t l q m (hL q v k)
      exact ⟨k1, by rw [lead_put e1, ← lead_put e2, e3], e4⟩
  intro w h
  obtain ⟨k, e1, e2⟩ := key .fin w h _ .nil
  have e2 : some (true, []) = some k := e2
  rw [← Option.some.inj e2] at e1
  exact lead_even e1
/-- labels that end alike behind the same rest have the same lead -/
theorem lead_back {a b v : List Nat × List Nat} (h1 : a.1 ++ v.1 = a.2 ++ v.2) (h2 : b.1 ++ v.1 = b.2 ++ v.2) : ∃ k, lead a = some k ∧ lead b = some k := by
  obtain ⟨a1, a2⟩ := a
  obtain ⟨b1, b2⟩ := b
  obtain ⟨v1, v2⟩ := v
  have h1 : a1 ++ v1 = a2 ++ v2 := h1
  have h2 : b1 ++ v1 = b2 ++ v2 := h2
  rcases List.append_eq_append_iff.mp h1 with ⟨z, e1, e2⟩ | ⟨z, e1, e2⟩
  · -- a2 = a1 ++ z, v1 = z ++ v2
    subst e1 e2
    rw [← List.append_assoc] at h2
    have e3 : b2 = b1 ++ z := (List.append_cancel_right h2).symm
    subst e3
    by_cases hz : z = []
    · subst hz
      exact ⟨(true, []), even_lead (by show a1 = a1 ++ []; rw [List.append_nil]), even_lead (by show b1 = b1 ++ []; rw [List.append_nil])⟩
    · exact ⟨_, lead_two a1 hz, lead_two b1 hz⟩
  · -- a1 = a2 ++ z, v2 = z ++ v1
    subst e1 e2
    rw [← List.append_assoc] at h2
    have e3 : b1 = b2 ++ z := List.append_cancel_right h2
    subst e3
    exact ⟨_, lead_one a2 z, lead_one b2 z⟩
/-! ### what is left where words begin with one another -/
end MZ
set_option Elab.async false
set_option linter.all false
/-! Places gone through one by one, as the program goes through them. -/
namespace MZ
/-- the places met, with those of some steps behind them -/
def addTo (Q : List Pl) (f : List Mo) : List Pl := f.foldl (fun Q m => if m.2.2 ∈ Q then Q else Q ++ [m.2.2]) Q
theorem addTo_cons (Q : List Pl) (m : Mo) (f : List Mo) : addTo Q (m :: f) = addTo (if m.2.2 ∈ Q then Q else Q ++ [m.2.2]) f := rfl
theorem addTo_has : ∀ (f : List Mo) (Q : List Pl) (p : Pl), p ∈ addTo Q f ↔ p ∈ Q ∨ ∃ m ∈ f, m.2.2 = p
  | [], Q, p => by
    show p ∈ Q ↔ _
    simp
  | m :: f, Q, p => by
    rw [addTo_cons, addTo_has f]
    by_cases h : m.2.2 ∈ Q
    · rw [if_pos h]
      constructor
      · rintro (a | ⟨x, hx, e⟩)
        · exact .inl a
        · exact .inr ⟨x, List.mem_cons_of_mem _ hx, e⟩
      · rintro (a | ⟨x, hx, e⟩)
        · exact .inl a
        · rcases List.mem_cons.mp hx with rfl | hx
          · exact .inl (e ▸ h)
          · exact .inr ⟨x, hx, e⟩
    · rw [if_neg h]
      constructor
      · rintro (a | ⟨x, hx, e⟩)
        · rcases List.mem_append.mp a with a | a
          · exact .inl a
          · exact .inr ⟨m, List.mem_cons_self, (List.mem_singleton.mp a).symm⟩
        · exact .inr ⟨x, List.mem_cons_of_mem _ hx, e⟩
      · rintro (a | ⟨x, hx, e⟩)
        · exact .inl (List.mem_append_left _ a)
        · rcases List.mem_cons.mp hx with rfl | hx
          · exact .inl (List.mem_append_right _ (by rw [e]; exact List.mem_singleton_self _))
          · exact .inr ⟨x, hx, e⟩
theorem addTo_nd : ∀ (f : List Mo) (Q : List Pl), Q.Nodup → (addTo Q f).Nodup
  | [], Q, h => h
  | m :: f, Q, h => by
    rw [addTo_cons]
    refine addTo_nd f _ ?_
    by_cases z : m.2.2 ∈ Q
    · rw [if_pos z]
      exact h
    · rw [if_neg z]
      refine List.nodup_append.mpr ⟨h, by simp, fun x hx y hy e => ?_⟩
      rw [List.mem_singleton.mp hy] at e
      exact z (e ▸ hx)
theorem addTo_pre : ∀ (f : List Mo) (Q : List Pl), ∃ R, addTo Q f = Q ++ R
  | [], Q => ⟨[], (List.append_nil Q).symm⟩
  | m :: f, Q => by
    rw [addTo_cons]
    by_cases z : m.2.2 ∈ Q
    · rw [if_pos z]
      exact addTo_pre f Q
    · rw [if_neg z]
      obtain ⟨R, e⟩ := addTo_pre f (Q ++ [m.2.2])
      exact ⟨m.2.2 :: R, by rw [e, List.append_assoc]; rfl⟩
/-- the first n places of Q are gone through -/
structure Bfs (P S : List Pr) (o : Pl) (Q : List Pl) (n : Nat) : Prop where
  nd : Q.Nodup
  head : Q[0]? = some o
  le : n ≤ Q.length
  reach : ∀ p ∈ Q, ∃ w, Way P S o p w
  closed : ∀ i, i < n → ∀ p, Q[i]? = some p → ∀ m ∈ moves P S p, m.2.2 ∈ Q
theorem Bfs.start (P S : List Pr) (o : Pl) : Bfs P S o [o] 0 := ⟨by simp, rfl, Nat.zero_le _, fun p h => by rw [List.mem_singleton.mp h]; exact ⟨_, .nil⟩, fun i h => absurd h (Nat.not_lt_zero _)⟩
theorem Bfs.step {P S : List Pr} {o p : Pl} {Q : List Pl} {n : Nat} (b : Bfs P S o Q n) (h : Q[n]? = some p) : Bfs P S o (addTo Q (moves P S p)) (n + 1) := by
  obtain ⟨hn, ep⟩ := List.getElem?_eq_some_iff.mp h
  obtain ⟨R, eR⟩ := addTo_pre (moves P S p) Q
  have hp : p ∈ Q := ep ▸ List.getElem_mem hn
  have low : ∀ i, i < Q.length → (addTo Q (moves P S p))[i]? = Q[i]? := fun i hi => by rw [eR, List.getElem?_append_left hi]
  refine ⟨addTo_nd _ _ b.nd, ?_, ?_, fun q hq => ?_, fun i hi q e m hm => ?_⟩
  · rw [low 0 (by omega)]
    exact b.head
  · rw [eR, List.length_append]
    omega
  · rcases (addTo_has _ _ _).mp hq with a | ⟨m, hm, rfl⟩
    · exact b.reach q a
    · obtain ⟨w, k⟩ := b.reach p hp
      exact ⟨_, k.step (t := m.1) (l := m.2.1) (q := m.2.2) hm⟩
  · rw [low i (by omega)] at e
    by_cases hi2 : i < n
    · exact (addTo_has _ _ _).mpr (.inl (b.closed i hi2 q e m hm))
    · have : i = n := by omega
      subst this
      rw [h] at e
      cases e
      exact (addTo_has _ _ _).mpr (.inr ⟨m, hm, rfl⟩)
theorem Bfs.all {P S : List Pr} {o : Pl} {Q : List Pl} (b : Bfs P S o Q Q.length) (p : Pl) : p ∈ Q ↔ ∃ w, Way P S o p w := by
  constructor
  · exact b.reach p
  · rintro ⟨w, h⟩
    induction h with
    | nil => exact (List.getElem?_eq_some_iff.mp b.head).2 ▸ List.getElem_mem _
    | @step p w t l q _ m ih =>
      obtain ⟨i, hi, e⟩ := List.getElem_of_mem ih
      exact b.closed i hi p (by rw [List.getElem?_eq_getElem hi, e]) _ m
/-! ### how many places there are -/
def tails : Wd → List Wd
  | [] => []
  | c :: r => (c :: r) :: tails r
theorem tails_len : ∀ w : Wd, (tails w).length = w.length
  | [] => rfl
  | c :: r => by
    show (tails r).length + 1 = r.length + 1
    rw [tails_len r]
theorem tails_has : ∀ (w a z : Wd), w = a ++ z → z ≠ [] → z ∈ tails w
  | [], a, z, e, hz => absurd (List.append_eq_nil_iff.mp e.symm).2 hz
  | c :: r, [], z, e, hz => by
    have e : c :: r = z := e
    rw [← e]
    exact List.mem_cons_self
  | c :: r, d :: a, z, e, hz => List.mem_cons_of_mem _ (tails_has r a z (List.cons.inj e).2 hz)
/-- all places there may be -/
def uni (P S : List Pr) : List Pl := .start :: .fin :: ((P.flatMap fun q => (tails q.1).map (.rest true)) ++ S.flatMap fun q => (tails q.1).map (.rest false))
def sumL (P : List Pr) : Nat := (P.map fun q => q.1.length).sum
theorem flat_len (P : List Pr) (a : Bool) : (P.flatMap fun q => (tails q.1).map (Pl.rest a)).length = sumL P := by
  rw [List.length_flatMap]
  unfold sumL
  congr 1
  exact List.map_congr_left fun q _ => by rw [List.length_map, tails_len]
theorem uni_len (P S : List Pr) : (uni P S).length = 2 + sumL P + sumL S := by
  show (_ ++ _ : List Pl).length + 1 + 1 = _
  rw [List.length_append, flat_len, flat_len]
  omega
theorem reach_uni {P S : List Pr} (hP : ∀ q ∈ P, q.1 ≠ []) {p : Pl} {w : List Nat × List Nat} (h : Way P S .start p w) : p ∈ uni P S ∧ match p with
    | .rest true r => r ≠ [] ∧ ∃ q ∈ P, ∃ a, q.1 = a ++ r
    | .rest false r => r ≠ [] ∧ ∃ q ∈ S, ∃ a, q.1 = a ++ r
    | _ => True := by
  have key : (match p with
    | .rest true r => r ≠ [] ∧ ∃ q ∈ P, ∃ a, q.1 = a ++ r
    | .rest false r => r ≠ [] ∧ ∃ q ∈ S, ∃ a, q.1 = a ++ r
    | _ => True) := by
    induction h with
    | nil => trivial
    | @step p w t l q _ m ih =>
      cases p with
      | fin => cases m
      | start =>
        obtain ⟨x, hx, e⟩ := List.mem_map.mp m
        cases e
        exact ⟨hP x hx, x, hx, [], rfl⟩
      | rest a r =>
        obtain ⟨z, hz, e⟩ := List.mem_filterMap.mp m
        obtain ⟨q', eb, e2⟩ := Option.map_eq_some_iff.mp e
        cases e2
        cases a with
        | true =>
          have hz : z ∈ S := hz
          obtain ⟨_, q0, hq0, a0, e0⟩ := ih
          rcases behind_cases eb with ⟨e3, rfl⟩ | ⟨v, nv, e3, rfl⟩ | ⟨v, nv, e3, rfl⟩
          · trivial
          · exact ⟨nv, q0, hq0, a0 ++ z.1, by rw [e0, e3, List.append_assoc]⟩
          · exact ⟨nv, z, hz, r, e3⟩
        | false =>
          have hz : z ∈ P := hz
          obtain ⟨_, q0, hq0, a0, e0⟩ := ih
          rcases behind_cases eb with ⟨e3, rfl⟩ | ⟨v, nv, e3, rfl⟩ | ⟨v, nv, e3, rfl⟩
          · trivial
          · exact ⟨nv, q0, hq0, a0 ++ z.1, by rw [e0, e3, List.append_assoc]⟩
          · exact ⟨nv, z, hz, r, e3⟩
  refine ⟨?_, key⟩
  cases p with
  | start => exact List.mem_cons_self
  | fin => exact List.mem_cons_of_mem _ List.mem_cons_self
  | rest a r =>
    refine List.mem_cons_of_mem _ (List.mem_cons_of_mem _ ?_)
    cases a with
    | true =>
      obtain ⟨nr, q, hq, a, e⟩ := key
      exact List.mem_append_left _ (List.mem_flatMap.mpr ⟨q, hq, List.mem_map.mpr ⟨r, tails_has _ a r e nr, rfl⟩⟩)
    | false =>
      obtain ⟨nr, q, hq, a, e⟩ := key
      exact List.mem_append_right _ (List.mem_flatMap.mpr ⟨q, hq, List.mem_map.mpr ⟨r, tails_has _ a r e nr, rfl⟩⟩)
theorem nd_le {α : Type} [DecidableEq α] : ∀ {a b : List α}, a.Nodup → (∀ x ∈ a, x ∈ b) → a.length ≤ b.length
  | [], _, _, _ => Nat.zero_le _
  | x :: a, b, nd, h => by
    have hx := h x List.mem_cons_self
    have z := nd_le (a := a) (b := b.erase x) (List.nodup_cons.mp nd).2 fun y hy => (List.mem_erase_of_ne (fun e => (List.nodup_cons.mp nd).1 (by rw [← e]; exact hy))).mpr (h y (List.mem_cons_of_mem _ hy))
    rw [List.length_erase_of_mem hx] at z
    have := List.length_pos_of_mem hx
    rw [List.length_cons]
    omega
theorem Bfs.few {P S : List Pr} {Q : List Pl} {n : Nat} (hP : ∀ q ∈ P, q.1 ≠ []) (b : Bfs P S .start Q n) : Q.length ≤ 2 + sumL P + sumL S := by
  rw [← uni_len]
  exact nd_le b.nd fun p hp => by
    obtain ⟨w, h⟩ := b.reach p hp
    exact (reach_uni hP h).1
/-! ### what lives -/
theorem way_first {P S : List Pr} {o q : Pl} {w : List Nat × List Nat} (h : Way P S o q w) : o = q ∨ ∃ m ∈ moves P S o, ∃ v, Way P S m.2.2 q v := by
  induction h with
  | nil => exact .inl rfl
  | @step p w t l q _ m ih =>
    rcases ih with rfl | ⟨m0, h0, v, k⟩
    · exact .inr ⟨_, m, _, .nil⟩
    · exact .inr ⟨m0, h0, _, k.step m⟩
/-- some places that live; the end among them -/
structure Liv (P S : List Pr) (L : List Pl) : Prop where
  fin : Pl.fin ∈ L
  live : ∀ p ∈ L, ∃ v, Way P S p .fin v
theorem Liv.start (P S : List Pr) : Liv P S [.fin] := ⟨List.mem_singleton_self _, fun p h => by rw [List.mem_singleton.mp h]; exact ⟨_, .nil⟩⟩
theorem Liv.add {P S : List Pr} {L : List Pl} {p : Pl} {m : Mo} (h : Liv P S L) (hm : m ∈ moves P S p) (hl : m.2.2 ∈ L) : Liv P S (L ++ [p]) := by
  refine ⟨List.mem_append_left _ h.fin, fun q hq => ?_⟩
  rcases List.mem_append.mp hq with a | a
  · exact h.live q a
  · rw [List.mem_singleton.mp a]
    obtain ⟨v, k⟩ := h.live _ hl
    exact ⟨_, (Way.step (P := P) (S := S) (.nil (o := p)) (t := m.1) (l := m.2.1) (q := m.2.2) hm).trans k⟩
/-- where nothing is left to add, all that lives is there -/
theorem Liv.all {P S : List Pr} {Q L : List Pl} (b : Bfs P S .start Q Q.length) (h : Liv P S L) (c : ∀ p ∈ Q, p ∉ L → ∀ m ∈ moves P S p, m.2.2 ∉ L) {p : Pl} (hp : p ∈ Q) {v : List Nat × List Nat} (k : Way P S p .fin v) : p ∈ L := by
  have key : ∀ {q : Pl} {v : List Nat × List Nat}, Way P S p q v → q ∈ L → p ∈ L := by
    intro q v k
    induction k with
    | nil => exact id
    | @step r w t l q k2 m ih =>
      intro hq
      refine ih (Classical.byContradiction fun np => c r ?_ np _ m hq)
      obtain ⟨w0, k0⟩ := (b.all p).mp hp
      exact (b.all r).mpr ⟨_, k0.trans k2⟩
  exact key k h.fin
/-! ### ways kept -/
/-- the places of a search in their order, each with a way to it -/
structure Wys (P S : List Pr) (o : Pl) (Q : List Pl) (W : List (Pl × (List Nat × List Nat))) : Prop where
  keys : W.map (·.1) = Q
  way : ∀ q ∈ W, Way P S o q.1 q.2
/-- with the steps of a place that is reached by a way -/
def addW (w : List Nat × List Nat) (W : List (Pl × (List Nat × List Nat))) (f : List Mo) : List (Pl × (List Nat × List Nat)) :=
  f.foldl (fun W m => if m.2.2 ∈ W.map (·.1) then W else W ++ [(m.2.2, put m.1 m.2.1 w)]) W
theorem addW_cons (w : List Nat × List Nat) (W : List (Pl × (List Nat × List Nat))) (m : Mo) (f : List Mo) : addW w W (m :: f) = addW w (if m.2.2 ∈ W.map (·.1) then W else W ++ [(m.2.2, put m.1 m.2.1 w)]) f := rfl
theorem addW_keys (w : List Nat × List Nat) : ∀ (f : List Mo) (W : List (Pl × (List Nat × List Nat))), (addW w W f).map (·.1) = addTo (W.map (·.1)) f
  | [], W => rfl
  | m :: f, W => by
    rw [addW_cons, addTo_cons, addW_keys w f]
    by_cases h : m.2.2 ∈ W.map (·.1)
    · rw [if_pos h, if_pos h]
    · rw [if_neg h, if_neg h, List.map_append]
      rfl
theorem addW_way {P S : List Pr} {o p : Pl} {w : List Nat × List Nat} (h : Way P S o p w) : ∀ (f : List Mo) (W : List (Pl × (List Nat × List Nat))), (∀ m ∈ f, m ∈ moves P S p) → (∀ q ∈ W, Way P S o q.1 q.2) → ∀ q ∈ addW w W f, Way P S o q.1 q.2
  | [], W, _, hW => hW
  | m :: f, W, hf, hW => by
    rw [addW_cons]
    refine addW_way h f _ (fun x hx => hf x (List.mem_cons_of_mem _ hx)) ?_
    by_cases z : m.2.2 ∈ W.map (·.1)
    · rw [if_pos z]
      exact hW
    · rw [if_neg z]
      intro q hq
      rcases List.mem_append.mp hq with a | a
      · exact hW q a
      · rw [List.mem_singleton.mp a]
        exact h.step (hf m List.mem_cons_self)
theorem Wys.start (P S : List Pr) (o : Pl) : Wys P S o [o] [(o, ([], []))] := ⟨rfl, fun q h => by rw [List.mem_singleton.mp h]; exact .nil⟩
theorem Wys.step {P S : List Pr} {o p : Pl} {Q : List Pl} {W : List (Pl × (List Nat × List Nat))} {w : List Nat × List Nat} (h : Wys P S o Q W) (hw : (p, w) ∈ W) : Wys P S o (addTo Q (moves P S p)) (addW w W (moves P S p)) :=
  ⟨by rw [addW_keys, h.keys], addW_way (h.way _ hw) _ _ (fun _ z => z) h.way⟩
/-- the way that is kept to a place -/
def wayTo (W : List (Pl × (List Nat × List Nat))) (p : Pl) : List Nat × List Nat := ((W.find? fun q => decide (q.1 = p)).map (·.2)).getD ([], [])
theorem wayTo_has {P S : List Pr} {o p : Pl} {Q : List Pl} {W : List (Pl × (List Nat × List Nat))} (h : Wys P S o Q W) (hp : p ∈ Q) : (p, wayTo W p) ∈ W ∧ Way P S o p (wayTo W p) := by
  have m : (p, wayTo W p) ∈ W := by
    rw [← h.keys] at hp
    obtain ⟨q, hq, rfl⟩ := List.mem_map.mp hp
    unfold wayTo
    cases e : W.find? fun z => decide (z.1 = q.1) with
    | none =>
      have := List.find?_eq_none.mp e q hq
      simp at this
    | some z =>
      have h1 : z.1 = q.1 := by simpa using List.find?_some e
      have h2 := List.mem_of_find?_eq_some e
      show (q.1, z.2) ∈ W
      rw [← h1]
      exact h2
  exact ⟨m, h.way _ m⟩
/-! ### a meeting that is not alike -/
/-- a step into a living place whose lead is not known there -/
def oddM (W : List (Pl × (List Nat × List Nat))) (p : Pl) (m : Mo) : Bool :=
  match lead (put m.1 m.2.1 (wayTo W p)) with
  | none => true
  | some k => decide (known (wayTo W) m.2.2 ≠ some k)
/-- none at all: all meetings are alike -/
theorem alike_no {P S : List Pr} {Q L : List Pl} {W : List (Pl × (List Nat × List Nat))} (b : Bfs P S .start Q Q.length) (h : Wys P S .start Q W) (h0 : wayTo W .start = ([], [])) (hL : ∀ p ∈ Q, ∀ v, Way P S p .fin v → p ∈ L)
    (c : ∀ p ∈ Q, ∀ m ∈ moves P S p, m.2.2 ∈ L → oddM W p m = false) : Alike P S := by
  refine alike_of (W := wayTo W) (L := fun p => p ∈ Q → p ∈ L) h0 (fun p v k hq => hL p hq v k) fun p w k t l q m hl => ?_
  have hp : p ∈ Q := (b.all p).mpr ⟨w, k⟩
  have hq : q ∈ Q := (b.all q).mpr ⟨_, k.step m⟩
  have z := c p hp (t, l, q) m (hl hq)
  unfold oddM at z
  cases e : lead (put t l (wayTo W p)) with
  | none =>
    have z : (match lead (put t l (wayTo W p)) with | none => true | some k => decide (known (wayTo W) q ≠ some k)) = false := z
    rw [e] at z
    cases z
  | some k =>
    have z : (match lead (put t l (wayTo W p)) with | none => true | some k => decide (known (wayTo W) q ≠ some k)) = false := z
    rw [e] at z
    refine ⟨k, rfl, ?_⟩
    have z : decide (known (wayTo W) q ≠ some k) = false := z
    simpa using z
/-- one of them: the meeting that is made of it, or of the way that is kept, is not alike -/
theorem odd_meets {P S : List Pr} {Q : List Pl} {W : List (Pl × (List Nat × List Nat))} {p : Pl} {m : Mo} {v : List Nat × List Nat} (b : Bfs P S .start Q Q.length) (h : Wys P S .start Q W) (hp : p ∈ Q) (hm : m ∈ moves P S p) (k : Way P S m.2.2 .fin v) (z : oddM W p m = true) :
    Way P S .start .fin ((put m.1 m.2.1 (wayTo W p)).1 ++ v.1, (put m.1 m.2.1 (wayTo W p)).2 ++ v.2) ∧ Way P S .start .fin ((wayTo W m.2.2).1 ++ v.1, (wayTo W m.2.2).2 ++ v.2) ∧
    ((put m.1 m.2.1 (wayTo W p)).1 ++ v.1 = (put m.1 m.2.1 (wayTo W p)).2 ++ v.2 → (wayTo W m.2.2).1 ++ v.1 ≠ (wayTo W m.2.2).2 ++ v.2) := by
  obtain ⟨_, kp⟩ := wayTo_has h hp
  have ks : Way P S .start m.2.2 (put m.1 m.2.1 (wayTo W p)) := kp.step (t := m.1) (l := m.2.1) (q := m.2.2) hm
  obtain ⟨_, kq⟩ := wayTo_has h ((b.all m.2.2).mpr ⟨_, ks⟩)
  refine ⟨ks.trans k, kq.trans k, fun e1 e2 => ?_⟩
  obtain ⟨d, l1, l2⟩ := lead_back (v := v) e1 e2
  unfold oddM at z
  rw [l1] at z
  have z : decide (known (wayTo W) m.2.2 ≠ some d) = true := z
  have z := of_decide_eq_true z
  by_cases ef : m.2.2 = .fin
  · rw [ef] at k
    have ev : v = ([], []) := by
      rcases way_first k with _ | ⟨x, hx, _⟩
      · cases k with
        | nil => rfl
        | @step r w t l _ k2 mm =>
          exfalso
          have : ∀ {o r : Pl} {w : List Nat × List Nat}, Way P S o r w → o = .fin → r = .fin := by
            intro o r w kk
            induction kk with
            | nil => exact id
            | @step r w t l q _ mm ih =>
              intro eo
              rw [ih eo] at mm
              cases mm
          rw [this k2 rfl] at mm
          cases mm
      · cases hx
    rw [ev] at e1
    have e1 : (put m.1 m.2.1 (wayTo W p)).1 ++ [] = (put m.1 m.2.1 (wayTo W p)).2 ++ [] := e1
    rw [List.append_nil, List.append_nil] at e1
    rw [even_lead e1] at l1
    cases l1
    rw [ef] at z
    exact z rfl
  · refine z ?_
    cases e : m.2.2 with
    | fin => exact absurd e ef
    | start =>
      rw [e] at l2
      exact l2
    | rest a r =>
      rw [e] at l2
      exact l2
end MZ
set_option Elab.async false
set_option linter.all false
set_option maxRecDepth 100000
set_option maxHeartbeats 4000000
/-! {k: v} with one pair, k a tuple. -/
namespace L2
open PySem PySem.Spec PyProof.Rows
end L2
set_option Elab.async false
set_option linter.all false
set_option maxRecDepth 100000
set_option maxHeartbeats 4000000
/-! A key looked for among entries of any kinds, tuples beside flat ones. -/
namespace MX
open PySem PySem.Spec PySem.SeqAt PyProof.Rows
section
variable {prog : Program} {w : World} {A : Around} {E : Value → Shared → Prop} {s : Shared} {d : Addr} {o : Obj} {es : Array DictEntry} {ep : Nat} {v : Value} {hh : Int} {m : DictEntry → Bool}
/-- what the search of v, whose hash is hh, meets: m says which entry is equal to v -/
structure Look (prog : Program) (w : World) (A : Around) (s : Shared) (es : Array DictEntry) (v : Value) (hh : Int) (m : DictEntry → Bool) : Prop where
  eqv : ∀ e ∈ es, EqAt A s e.key v (m e)
  hash : ∀ e ∈ es, m e = true → e.hash = hh
  same : ∀ e ∈ es, e.key = v → e.hash = hh
  quiet : QuietAt prog w 8 s v
  quiets : ∀ e ∈ es, QuietAt prog w 8 s e.key
  txts : ∀ x t, v = .str x t → ∀ e ∈ es, isExactStrKey e.key = true → e.key.isStr x = m e
  one : ∀ i j (hi : i < es.size) (hj : j < es.size), m es[i] = true → m es[j] = true → i = j
theorem Look.find (M : Look prog w A s es v hh m) {i : Nat} (hi : i < es.size) (h : m es[i] = true) : es.findIdx? m = some i :=
  Array.findIdx?_eq_some_iff_getElem.mpr ⟨hi, h, fun j hj => by
    intro z
    have := M.one j i (by omega) hi z h
    omega⟩
/-- the places of one hash -/
theorem in_places {i : Nat} (hi : i < es.size) (h : es[i].hash = hh) : i ∈ placesWithHash es.size (fun i => es[i]?.map (·.hash)) hh := by
  unfold placesWithHash
  rw [List.mem_filter]
  refine ⟨List.mem_range.mpr hi, ?_⟩
  show (es[i]?.map (·.hash) == some hh) = true
  rw [Array.getElem?_eq_getElem hi, Option.map_some, h]
  exact beq_self_eq_true _
theorem of_places {i : Nat} (h : i ∈ placesWithHash es.size (fun i => es[i]?.map (·.hash)) hh) : ∃ hi : i < es.size, es[i].hash = hh := by
  unfold placesWithHash at h
  rw [List.mem_filter] at h
  have hi := List.mem_range.mp h.1
  refine ⟨hi, ?_⟩
  have z : (es[i]?.map (·.hash) == some hh) = true := h.2
  rw [Array.getElem?_eq_getElem hi, Option.map_some] at z
  exact Option.some.inj (beq_iff_eq.mp z)
theorem places_nodup : (placesWithHash es.size (fun i => es[i]?.map (·.hash)) hh).Nodup := by
  unfold placesWithHash
  exact List.Nodup.sublist List.filter_sublist List.nodup_range
theorem Look.none (M : Look prog w A s es v hh m) (h : ∀ i ∈ placesWithHash es.size (fun i => es[i]?.map (·.hash)) hh, ∀ hi : i < es.size, m es[i] = false) : es.findIdx? m = none :=
  Array.findIdx?_eq_none_iff.mpr fun e he => by
    obtain ⟨i, hi, rfl⟩ := Array.mem_iff_getElem.mp he
    cases z : m es[i] with
    | false => rfl
    | true =>
      have := h i (in_places hi (M.hash _ (Array.getElem_mem hi) z)) hi
      rw [z] at this
      cases this
theorem plain_any {Q : Option Nat → Shared → Prop} (ho : s.heap.get? d = some o) (hd : o.data = .dict es ep) (M : Look prog w A s es v hh m) (h : Q (es.findIdx? m) s) :
    wpAny (model prog w) A (dictWalkPlain d v hh es (placesWithHash es.size (fun i => es[i]?.map (·.hash)) hh)) Q E s := by
  unfold dictWalkPlain
  refine wpAny_bind ?_
  refine wpAny_forIn_list _ (fun rest b s' => s' = s ∧ b = (none, ()) ∧ ∃ done, placesWithHash es.size (fun i => es[i]?.map (·.hash)) hh = done ++ rest ∧ ∀ i ∈ done, ∀ hi : i < es.size, m es[i] = false) _ ?_ ?_ _ _ ⟨rfl, rfl, [], rfl, fun i z => nomatch z⟩
  · rintro x rest b s' ⟨rfl, rfl, done, hp, hno⟩
    obtain ⟨hx, hxh⟩ := of_places (es := es) (hh := hh) (i := x) (by rw [hp]; simp)
    simp only [Array.getElem?_eq_getElem hx]
    rw [if_pos (by rw [hxh]; exact beq_self_eq_true _)]
    refine wpAny_bind (wpAny_dictEpoch ho hd (wpAny_bind (M.eqv _ (Array.getElem_mem hx) _ _ _ _ (wpAny_bind (wpAny_dictEpoch ho hd ?_)))))
    show wpAny _ _ (if (ep != ep) = true then _ else _) _ E _
    rw [if_neg (by simp)]
    cases hm : m es[x] with
    | true =>
      rw [M.find hx hm] at h
      exact wpAny_bind (wpAny_rule (wpAny_pure (wpAny_pure h)))
    | false =>
      refine wpAny_bind (wpAny_rule (wpAny_pure ⟨rfl, rfl, done ++ [x], by rw [hp, List.append_assoc]; rfl, fun i hi hl => ?_⟩))
      rcases List.mem_append.mp hi with z | z
      · exact hno i z hl
      · obtain rfl := List.mem_singleton.mp z
        exact hm
  · rintro b s' ⟨rfl, rfl, done, hp, hno⟩
    rw [List.append_nil] at hp
    rw [M.none (by rw [hp]; exact hno)] at h
    exact wpAny_pure h
theorem may_quiet {stored : List Value} {Q : Bool → Shared → Prop} (qv : QuietAt prog w 8 s v) (qs : ∀ u ∈ stored, QuietAt prog w 8 s u) (h : Q false s) : wpAny (model prog w) A (tableMayTell v stored) Q E s := by
  unfold tableMayTell
  split
  · exact wpAny_pure h
  · refine wpAny_bind (qv _ _ _ ?_)
    simp only [Bool.not_true, Bool.false_eq_true, if_false]
    refine wpAny_bind ?_
    refine wpAny_forIn_list _ (fun rest r s' => s' = s ∧ r = (none, ()) ∧ ∀ u ∈ rest, QuietAt prog w 8 s u) _ ?_ ?_ _ _ ⟨rfl, rfl, qs⟩
    · rintro x rest r s' ⟨rfl, rfl, hr⟩
      refine wpAny_bind (hr x List.mem_cons_self _ _ _ ?_)
      simp only [Bool.not_true, Bool.false_eq_true, if_false]
      exact wpAny_pure ⟨rfl, rfl, fun u hu => hr u (List.mem_cons_of_mem _ hu)⟩
    · rintro r s' ⟨rfl, rfl, _⟩
      exact wpAny_pure h
theorem findIdx_eq {f g : DictEntry → Bool} (h : ∀ e ∈ es, f e = g e) : es.findIdx? f = es.findIdx? g := by
  cases z : es.findIdx? g with
  | none =>
    rw [Array.findIdx?_eq_none_iff] at z ⊢
    intro e he
    rw [h e he]
    exact z e he
  | some i =>
    obtain ⟨hi, h1, h2⟩ := Array.findIdx?_eq_some_iff_getElem.mp z
    exact Array.findIdx?_eq_some_iff_getElem.mpr ⟨hi, by rw [h _ (Array.getElem_mem hi)]; exact h1, fun j hj => by rw [h _ (Array.getElem_mem _)]; exact h2 j hj⟩
theorem not_any (M : Look prog w A s es v hh m) : ¬ (es.any fun e => e.key == v && e.hash != hh) = true := by
  rw [← Array.any_toList, List.any_eq_true]
  rintro ⟨e, hin, hc⟩
  rw [Bool.and_eq_true, beq_iff_eq, bne_iff_ne] at hc
  exact hc.2 (M.same e (Array.mem_toList_iff.mp hin) hc.1)
theorem stored_quiet (M : Look prog w A s es v hh m) : ∀ u ∈ (placesWithHash es.size (fun i => es[i]?.map (·.hash)) hh).filterMap (fun i => es[i]?.map (·.key)), QuietAt prog w 8 s u := by
  intro u hu
  obtain ⟨i, hi, z⟩ := List.mem_filterMap.mp hu
  obtain ⟨hl, _⟩ := of_places hi
  rw [Array.getElem?_eq_getElem hl, Option.map_some] at z
  rw [← Option.some.inj z]
  exact M.quiets _ (Array.getElem_mem hl)
theorem find_any {Q : Option Nat → Shared → Prop} (ho : s.heap.get? d = some o) (hd : o.data = .dict es ep) (M : Look prog w A s es v hh m) (h : Q (es.findIdx? m) s) : wpAny (model prog w) A (dictFind d v hh) Q E s := by
  have hany := not_any M
  have hst := stored_quiet M
  unfold dictFind
  try with_reducible refine wpAny_holding ?_
  refine wpAny_bind (wpAny_dictEntries ho hd ?_)
  have strOne : ∀ x t, v = .str x t → (es.all fun e => isExactStrKey e.key) = true → wpAny (model prog w) A (foundByValue d v es x) Q E s := by
    intro x t ev hs
    have hf : es.findIdx? (fun e => e.key.isStr x) = es.findIdx? m := by
      have all : ∀ e ∈ es, e.key.isStr x = m e := fun e he => M.txts x t ev e he (by
        rw [← Array.all_toList, List.all_eq_true] at hs
        exact hs e (Array.mem_toList_iff.mpr he))
      exact findIdx_eq all
    unfold foundByValue
    rw [hf]
    cases hc : es.findIdx? m with
    | none =>
      rw [hc] at h
      exact wpAny_pure h
    | some i =>
      rw [hc] at h
      obtain ⟨hlt, hi, _⟩ := Array.findIdx?_eq_some_iff_getElem.mp hc
      simp only [Array.getElem?_eq_getElem hlt]
      refine wpAny_bind (wpAny_dictEpoch ho hd (wpAny_bind (M.eqv _ (Array.getElem_mem hlt) _ _ _ _ (wpAny_bind (wpAny_dictEpoch ho hd ?_)))))
      show wpAny _ _ (if (ep != ep) = true then _ else _) _ E _
      rw [if_neg (by simp), hi]
      exact wpAny_bind (wpAny_rule (wpAny_pure h))
  dsimp only
  by_cases hall : ((v :: (placesWithHash es.size (fun i => es[i]?.map (·.hash)) hh).filterMap (fun i => es[i]?.map (·.key))).all carriedByValue) = true
  · rw [if_pos hall]
    split
    · split
      · rename_i hs
        exact strOne _ _ rfl hs
      · exact plain_any ho hd M h
    · exact plain_any ho hd M h
  · rw [if_neg hall]
    rw [if_neg hany]
    have nd := places_nodup (es := es) (hh := hh)
    by_cases hone : ((placesWithHash es.size (fun i => es[i]?.map (·.hash)) hh).filterMap (fun i => es[i]?.map (·.key)) == [v]) = true
    all_goals
      first | rw [if_pos hone] | rw [if_neg hone]
      cases v
      all_goals
        dsimp only
        try (split; (rename_i hs; exact strOne _ _ rfl hs))
        first
          | refine wpAny_bind (wpAny_pure ?_)
          | refine wpAny_bind (may_quiet M.quiet hst ?_)
        rw [if_neg (by simp)]
        refine wpAny_bind ?_
        refine wpAny_forIn_list _ (fun rest b s' => s' = s ∧ ∃ done hit, placesWithHash es.size (fun i => es[i]?.map (·.hash)) hh = done ++ rest ∧ b = (none, hit) ∧ ((hit = none ∧ ∀ i ∈ done, ∀ hi : i < es.size, m es[i] = false) ∨ ∃ i, ∃ hi : i < es.size, hit = some i ∧ i ∈ done ∧ m es[i] = true)) _ ?_ ?_ _ _
          ⟨rfl, [], none, rfl, rfl, .inl ⟨rfl, fun i z => nomatch z⟩⟩
        · rintro x rest b s' ⟨rfl, done, hit, hp, rfl, hH⟩
          obtain ⟨hx, hxh⟩ := of_places (es := es) (hh := hh) (i := x) (by rw [hp]; simp)
          simp only [Array.getElem?_eq_getElem hx]
          rw [if_pos (by rw [hxh]; exact beq_self_eq_true _)]
          refine wpAny_bind (wpAny_dictEpoch ho hd (wpAny_bind (M.eqv _ (Array.getElem_mem hx) _ _ _ _ (wpAny_bind (wpAny_dictEpoch ho hd ?_)))))
          show wpAny _ _ (if (ep != ep) = true then _ else _) _ E _
          rw [if_neg (by simp)]
          cases hm : m es[x] with
          | true =>
            rcases hH with ⟨rfl, hno⟩ | ⟨i, hi, rfl, hd1, hm1⟩
            · simp only [Option.isSome_none, Bool.false_eq_true, if_false, if_true]
              refine wpAny_bind (wpAny_rule ?_)
              split
              · rw [M.find hx hm] at h
                exact wpAny_pure (wpAny_pure h)
              · exact wpAny_pure ⟨rfl, done ++ [x], some x, by rw [hp, List.append_assoc]; rfl, rfl, .inr ⟨x, hx, rfl, by simp, hm⟩⟩
            · have e := M.one i x hi hx hm1 hm
              subst e
              rw [hp] at nd
              exact absurd rfl ((List.nodup_append.mp nd).2.2 i hd1 i (by simp))
          | false =>
            simp only [Bool.false_eq_true, if_false]
            refine wpAny_bind (wpAny_rule ?_)
            try rw [if_neg (by simp)]
            refine wpAny_pure ⟨rfl, done ++ [x], hit, by rw [hp, List.append_assoc]; rfl, rfl, ?_⟩
            rcases hH with ⟨h0, hno⟩ | ⟨i, hi, h1, hd1, hm1⟩
            · refine .inl ⟨h0, fun i hi hl => ?_⟩
              rcases List.mem_append.mp hi with z | z
              · exact hno i z hl
              · obtain rfl := List.mem_singleton.mp z
                exact hm
            · exact .inr ⟨i, hi, h1, List.mem_append.mpr (.inl hd1), hm1⟩
        · rintro b s' ⟨rfl, done, hit, hp, rfl, hH⟩
          rw [List.append_nil] at hp
          rcases hH with ⟨rfl, hno⟩ | ⟨i, hi, rfl, hd1, hm1⟩
          · rw [M.none (by rw [hp]; exact hno)] at h
            exact wpAny_pure h
          · rw [M.find hi hm1] at h
            exact wpAny_pure h
end
end MX
set_option Elab.async false
set_option linter.all false
set_option maxRecDepth 100000
set_option maxHeartbeats 4000000
/-! The same, told by keys: flat ones and tuples of such. -/
namespace MX
open PySem PySem.Spec PySem.SeqAt PyProof.Rows
section
variable {prog : Program} {w : World} {A : Around} {E : Value → Shared → Prop} {s : Shared} {d : Addr} {o : Obj} {es : Array DictEntry} {ep : Nat} {v : Value}
/-- an entry -/
def entN (w : World) (x : NestedKey × Value × Value) : DictEntry := ⟨x.1.hash w, x.2.1, x.2.2⟩
/-- the keys stand there -/
def KeysN (h : Heap) (xs : List (NestedKey × Value × Value)) : Prop := ∀ x ∈ xs, NestedIs h x.1 x.2.1 ∧ x.1.depth ≤ 8
noncomputable def isN (h : Heap) (k : NestedKey) (e : DictEntry) : Bool := @decide (NestedIs h k e.key) (Classical.propDecidable _)
theorem isN_iff {h : Heap} {k : NestedKey} {e : DictEntry} : isN h k e = true ↔ NestedIs h k e.key := by
  unfold isN
  exact @decide_eq_true_iff _ (Classical.propDecidable _)
theorem isN_ent {h : Heap} {k : NestedKey} {x : NestedKey × Value × Value} (hx : NestedIs h x.1 x.2.1) : isN h k (entN w x) = decide (x.1 = k) := by
  cases z : isN h k (entN w x) with
  | true => exact (decide_eq_true (NestedIs.inj _ _ _ hx (isN_iff.mp z))).symm
  | false =>
    refine (decide_eq_false fun e => ?_).symm
    subst e
    have := isN_iff (k := x.1) (e := entN w x) |>.mpr hx
    rw [z] at this
    cases this
theorem ent_of {xs : List (NestedKey × Value × Value)} (he : es.toList = xs.map (entN w)) {e : DictEntry} (h : e ∈ es) : ∃ x ∈ xs, e = entN w x := by
  have z : e ∈ xs.map (entN w) := he ▸ Array.mem_toList_iff.mpr h
  obtain ⟨x, hx, rfl⟩ := List.mem_map.mp z
  exact ⟨x, hx, rfl⟩
theorem ent_size {xs : List (NestedKey × Value × Value)} (he : es.toList = xs.map (entN w)) : es.size = xs.length := by
  rw [← Array.length_toList, he, List.length_map]
theorem ent_at {xs : List (NestedKey × Value × Value)} (he : es.toList = xs.map (entN w)) {i : Nat} (hi : i < es.size) : es[i] = entN w (xs[i]'(by rw [← ent_size he]; exact hi)) := by
  have z : es.toList[i]'(by rw [Array.length_toList]; exact hi) = (xs.map (entN w))[i]'(by rw [List.length_map, ← ent_size he]; exact hi) := by simp only [he]
  rw [List.getElem_map] at z
  rw [← z]
  exact (Array.getElem_toList hi).symm
theorem look_nest {xs : List (NestedKey × Value × Value)} {k : NestedKey} (he : es.toList = xs.map (entN w)) (his : KeysN s.heap xs) (nd : (xs.map (·.1)).Nodup) (hk : NestedIs s.heap k v) (kd : k.depth ≤ 8) (hu : A.units + 8 < cLine) :
    Look prog w A s es v (k.hash w) (isN s.heap k) where
  eqv := fun e h => by
    obtain ⟨x, hx, rfl⟩ := ent_of he h
    have z := eqAt_key x.1 k A s x.2.1 v (his x hx).1 hk (by have := (his x hx).2; omega)
    rw [isN_ent (his x hx).1, NestedKey.decide_eq]
    exact z
  hash := fun e h z => by
    obtain ⟨x, hx, rfl⟩ := ent_of he h
    rw [isN_ent (his x hx).1, decide_eq_true_iff] at z
    show x.1.hash w = _
    rw [z]
  same := fun e h z => by
    obtain ⟨x, hx, rfl⟩ := ent_of he h
    have q := (his x hx).1
    have z2 : x.2.1 = v := z
    rw [z2] at q
    show x.1.hash w = _
    rw [NestedIs.inj _ _ _ q hk]
  quiet := quiet_key k v 8 s hk kd
  quiets := fun e h => by
    obtain ⟨x, hx, rfl⟩ := ent_of he h
    exact quiet_key x.1 _ 8 s (his x hx).1 (his x hx).2
  txts := fun x t ev e h z => by
    subst ev
    cases hk
    cases hek : e.key with
    | str y u =>
      rw [Bool.eq_iff_iff, isN_iff, hek]
      constructor
      · intro q
        have : y = x := by simpa [Value.isStr] using q
        rw [this]
        exact .text _ _
      · intro q
        cases q
        simp [Value.isStr]
    | _ =>
      rw [hek] at z
      cases z
  one := fun i j hi hj h1 h2 => by
    rw [ent_at he hi, isN_ent (his _ (List.getElem_mem _)).1, decide_eq_true_iff] at h1
    rw [ent_at he hj, isN_ent (his _ (List.getElem_mem _)).1, decide_eq_true_iff] at h2
    have pw := List.pairwise_iff_getElem.mp nd
    have li : i < (xs.map (·.1)).length := by rw [List.length_map, ← ent_size he]; exact hi
    have lj : j < (xs.map (·.1)).length := by rw [List.length_map, ← ent_size he]; exact hj
    rcases Nat.lt_trichotomy i j with z | z | z
    · exact absurd (by rw [List.getElem_map, List.getElem_map, h1, h2]) (pw i j li lj z)
    · exact z
    · exact absurd (by rw [List.getElem_map, List.getElem_map, h1, h2]) (pw j i lj li z)
end
end MX
set_option Elab.async false
set_option linter.all false
set_option maxRecDepth 100000
set_option maxHeartbeats 4000000
/-! A dict of flat keys and tuples: what stands under a key, a key stored. -/
namespace MX
open PySem PySem.Spec PySem.SeqAt PyProof.Rows
/-- the dict at d: its keys as keys and as values, and what stands under them, in their order -/
def DictN (w : World) (h : Heap) (d : Addr) (xs : List (NestedKey × Value × Value)) : Prop :=
  ∃ o es ep, h.get? d = some o ∧ o.ExactDict ∧ o.data = .dict es ep ∧ es.toList = xs.map (entN w) ∧ KeysN h xs ∧ (xs.map (·.1)).Nodup
def putN (k : NestedKey) (u : Value) (x : NestedKey × Value × Value) : NestedKey × Value × Value := if x.1 = k then (x.1, x.2.1, u) else x
/-- u stored under k, the key v -/
def storeN (xs : List (NestedKey × Value × Value)) (k : NestedKey) (v u : Value) : List (NestedKey × Value × Value) := if k ∈ xs.map (·.1) then xs.map (putN k u) else xs ++ [(k, v, u)]
def atN (xs : List (NestedKey × Value × Value)) (k : NestedKey) : Option Value := (xs.find? fun x => decide (x.1 = k)).map (·.2.2)
theorem putN_key {k : NestedKey} {u : Value} (xs : List (NestedKey × Value × Value)) : (xs.map (putN k u)).map (·.1) = xs.map (·.1) := by
  rw [List.map_map]
  refine List.map_congr_left fun x _ => ?_
  show (putN k u x).1 = x.1
  unfold putN
  split <;> rfl
theorem atN_none {xs : List (NestedKey × Value × Value)} {k : NestedKey} (h : k ∉ xs.map (·.1)) : atN xs k = none := by
  unfold atN
  rw [List.find?_eq_none.mpr fun x hx => by
    rw [decide_eq_true_iff]
    intro e
    exact h (List.mem_map.mpr ⟨x, hx, e⟩)]
  rfl
theorem atN_some {xs : List (NestedKey × Value × Value)} {k : NestedKey} {x : NestedKey × Value × Value} (nd : (xs.map (·.1)).Nodup) (hx : x ∈ xs) (e : x.1 = k) : atN xs k = some x.2.2 := by
  unfold atN
  induction xs with
  | nil => cases hx
  | cons y ys ih =>
    rw [List.find?_cons]
    rw [List.map_cons, List.nodup_cons] at nd
    rcases List.mem_cons.mp hx with rfl | z
    · rw [decide_eq_true e]
      rfl
    · have ne : y.1 ≠ k := fun q => nd.1 (List.mem_map.mpr ⟨x, z, e.trans q.symm⟩)
      rw [decide_eq_false ne]
      exact ih nd.2 z
section
variable {prog : Program} {w : World} {A : Around} {E : Value → Shared → Prop} {s : Shared} {d : Addr} {o : Obj} {es : Array DictEntry} {ep : Nat} {v u : Value} {k : NestedKey} {xs : List (NestedKey × Value × Value)}
theorem KeysN.keeps {h h' : Heap} (ks : KeysN h xs) (ho : h.get? d = some o) (hd : o.data = .dict es ep) (hs : Heap.SameBut d h h') : KeysN h' xs := fun x hx =>
  ⟨NestedIs.at (fun b ob vs n hb hc => (hs.2 b fun e => by
    subst e
    rw [ho] at hb
    cases hb
    rw [hd] at hc
    cases hc).trans hb) x.1 _ (ks x hx).1, (ks x hx).2⟩
/-- where k stands -/
theorem find_pos (he : es.toList = xs.map (entN w)) {h : Heap} (his : KeysN h xs) : (k ∉ xs.map (·.1) ∧ es.findIdx? (isN h k) = none) ∨ ∃ i, ∃ hi : i < xs.length, xs[i].1 = k ∧ es.findIdx? (isN h k) = some i := by
  cases z : es.findIdx? (isN h k) with
  | none =>
    refine .inl ⟨fun hm => ?_, rfl⟩
    obtain ⟨x, hx, e⟩ := List.mem_map.mp hm
    have q : entN w x ∈ es := Array.mem_toList_iff.mp (he ▸ List.mem_map.mpr ⟨x, hx, rfl⟩)
    have r := Array.findIdx?_eq_none_iff.mp z _ q
    rw [isN_ent (his x hx).1, decide_eq_true e] at r
    cases r
  | some i =>
    obtain ⟨hi, h1, _⟩ := Array.findIdx?_eq_some_iff_getElem.mp z
    have hl : i < xs.length := by rw [← ent_size he]; exact hi
    rw [ent_at he hi, isN_ent (his _ (List.getElem_mem _)).1, decide_eq_true_iff] at h1
    exact .inr ⟨i, hl, h1, rfl⟩
theorem get_nest {Q : Option Value → Shared → Prop} (hm : DictN w s.heap d xs) (hk : NestedIs s.heap k v) (kd : k.depth ≤ 8) (hu : A.units + 8 < cLine) (h : Q (atN xs k) { s with toks := s.toks + k.draws }) : wpAny (model prog w) A (dictGet d v) Q E s := by
  obtain ⟨o, es, ep, ho, hc, hd, he, his, nd⟩ := hm
  unfold dictGet
  try with_reducible refine wpAny_holding ?_
  refine wpAny_bind (pyHash_key k v A s _ hk (by omega) ?_)
  refine wpAny_bind (find_any (s := { s with toks := s.toks + k.draws }) ho hd (look_nest (s := { s with toks := s.toks + k.draws }) he his nd hk kd hu) ?_)
  rcases find_pos (k := k) he his with ⟨hno, e⟩ | ⟨i, hi, hx, e⟩
  · show (fun r s' => wpAny _ _ _ Q E s') (es.findIdx? (isN s.heap k)) _
    rw [e]
    rw [atN_none hno] at h
    exact wpAny_pure h
  · show (fun r s' => wpAny _ _ _ Q E s') (es.findIdx? (isN s.heap k)) _
    rw [e]
    rw [atN_some nd (List.getElem_mem hi) hx] at h
    refine wpAny_bind (wpAny_dictEntries (s := { s with toks := s.toks + k.draws }) ho hd ?_)
    have hi2 : i < es.size := by rw [ent_size he]; exact hi
    rw [Array.getElem?_eq_getElem hi2, ent_at he hi2]
    exact wpAny_pure h
theorem modify_put {i : Nat} (nd : (xs.map (·.1)).Nodup) (hi : i < xs.length) (hx : xs[i].1 = k) : (xs.map (entN w)).modify i (fun e => { e with val := u }) = (xs.map (putN k u)).map (entN w) := by
  refine List.ext_getElem (by simp) fun j h1 h2 => ?_
  have hj : j < xs.length := by simpa using h2
  rw [List.getElem_modify, List.getElem_map, List.getElem_map, List.getElem_map]
  by_cases e : i = j
  · subst e
    rw [if_pos rfl]
    unfold putN
    rw [if_pos hx]
    rfl
  · rw [if_neg e]
    unfold putN
    rw [if_neg fun z => ?_]
    have pw := List.pairwise_iff_getElem.mp nd
    rcases Nat.lt_or_gt_of_ne e with lt | lt
    · exact pw i j (by simpa using hi) (by simpa using hj) lt (by rw [List.getElem_map, List.getElem_map, hx, z])
    · exact pw j i (by simpa using hj) (by simpa using hi) lt (by rw [List.getElem_map, List.getElem_map, hx, z])
theorem set_nest {Q : Unit → Shared → Prop} (hm : DictN w s.heap d xs) (hk : NestedIs s.heap k v) (kd : k.depth ≤ 8) (hu : A.units + 8 < cLine) (few : xs.length ≤ sizeLine)
    (hQ : ∀ h', DictN w h' d (storeN xs k v u) → Heap.SameBut d s.heap h' → Q () { s with heap := h', toks := s.toks + k.draws }) : wpAny (model prog w) A (dictSet d v u) Q E s := by
  obtain ⟨o, es, ep, ho, hc, hd, he, his, nd⟩ := hm
  unfold dictSet
  try with_reducible refine wpAny_holding ?_
  refine wpAny_bind (pyHash_key k v A s _ hk (by omega) ?_)
  unfold dictSetHashed
  try with_reducible refine wpAny_holding ?_
  refine wpAny_bind (find_any (s := { s with toks := s.toks + k.draws }) ho hd (look_nest (s := { s with toks := s.toks + k.draws }) he his nd hk kd hu) ?_)
  rcases find_pos (k := k) he his with ⟨hno, e⟩ | ⟨i, hi, hx, e⟩
  · show (fun r s' => wpAny _ _ _ Q E s') (es.findIdx? (isN s.heap k)) _
    rw [e]
    refine wpAny_bind (wpAny_rule (wpAny_updateDictKeys (hz := by have e := ent_size he; omega) (s := { s with toks := s.toks + k.draws }) ho hd (hQ _ ⟨_, _, ep + 1, Heap.get?_update_self _ ho (Obj.isFreed_of_dict (Obj.data_mapDictKeys hd _)),
      hc.mapDictKeys _, Obj.data_mapDictKeys hd _, ?_, ?_, ?_⟩ (Heap.SameBut.update ..))))
    · unfold storeN
      rw [if_neg hno]
      simp [he, entN]
    · unfold storeN
      rw [if_neg hno]
      have all : KeysN s.heap (xs ++ [(k, v, u)]) := fun x hx => by
        rcases List.mem_append.mp hx with z | z
        · exact his x z
        · obtain rfl := List.mem_singleton.mp z
          exact ⟨hk, kd⟩
      exact KeysN.keeps all ho hd (Heap.SameBut.update ..)
    · unfold storeN
      rw [if_neg hno, List.map_append, List.nodup_append]
      refine ⟨nd, by simp, ?_⟩
      intro x hx y hy
      simp only [List.map_cons, List.map_nil, List.mem_singleton] at hy
      subst hy
      exact fun e => hno (e ▸ hx)
  · show (fun r s' => wpAny _ _ _ Q E s') (es.findIdx? (isN s.heap k)) _
    rw [e]
    have hin : k ∈ xs.map (·.1) := List.mem_map.mpr ⟨xs[i], List.getElem_mem hi, hx⟩
    refine wpAny_bind (wpAny_rule (wpAny_bind (wpAny_updateDict (s := { s with toks := s.toks + k.draws }) ho hd (wpAny_point (hQ _ ⟨_, _, ep, Heap.get?_update_self _ ho (Obj.isFreed_of_dict (Obj.data_mapDict hd _)),
      hc.mapDict _, Obj.data_mapDict hd _, ?_, ?_, ?_⟩ (Heap.SameBut.update ..))))))
    · unfold storeN
      rw [if_pos hin, Array.toList_modify, he]
      exact modify_put nd hi hx
    · unfold storeN
      rw [if_pos hin]
      have all : KeysN s.heap (xs.map (putN k u)) := fun x hx => by
        obtain ⟨y, hy, rfl⟩ := List.mem_map.mp hx
        unfold putN
        split <;> exact his y hy
      exact KeysN.keeps all ho hd (Heap.SameBut.update ..)
    · unfold storeN
      rw [if_pos hin, putN_key]
      exact nd
end
end MX
set_option Elab.async false
set_option linter.all false
set_option maxRecDepth 100000
set_option maxHeartbeats 4000000
/-! k in d, d[k], d[k] = u for such a dict. -/
namespace MX
open PySem PySem.Spec PySem.SeqAt PyProof.Rows
section
variable {prog : Program} {w : World} {A : Around} {E : Value → Shared → Prop} {s : Shared} {d : Addr} {v u : Value} {k : NestedKey} {xs : List (NestedKey × Value × Value)}
theorem DictN.typeIs (hm : DictN w s.heap d xs) : s.TypeIs (.ref d) "dict" := let ⟨o, _, _, ho, hc, _⟩ := hm; ⟨o, ho, hc.1⟩
theorem contains_nest {Q : Bool → Shared → Prop} (hm : DictN w s.heap d xs) (hd : (d == sysModules) = false) (hk : NestedIs s.heap k v) (kd : k.depth ≤ 8) (hu : A.in1.units + 8 < cLine)
    (h : Q (atN xs k).isSome { s with toks := s.toks + k.draws }) : wpAny (model prog w) A (contains (.ref d) v) Q E s := by
  unfold contains
  try with_reducible refine wpAny_holding ?_
  refine wpAny_bind (wpAny_specialOf (hm.typeIs) slot_dict_contains.lookup ?_)
  show wpAny _ _ (if (some (Value.builtin "dict.__contains__") == some Value.none) = true then _ else _) _ E s
  rw [if_neg (by rw [beq_builtin_none]; exact Bool.false_ne_true)]
  refine wpAny_bind (wpAny_callSpecialUnlessNone?_slot (name := Str.ofString "__contains__") (hm.typeIs) slot_dict_contains
    (wpAny_call_entry slot_dict_contains (hm.typeIs) entry_dict_contains ?_ (args_dict_contains _ _)))
  show wpAny _ _ (dictGet d v >>= _) _ _ s
  refine wpAny_bind (get_nest hm hk kd hu ?_)
  cases hf : atN xs k with
  | some p =>
    rw [hf] at h
    show wpAny _ _ (ret (.bool true)) _ _ _
    exact wpAny_pure ⟨_, rfl, wpAny_truthy_bool h⟩
  | none =>
    rw [hf] at h
    show wpAny _ _ (Builtin.Dict.pendingKey? d v >>= _) _ _ _
    exact wpAny_bind (wpAny_pendingKey_other hd (wpAny_pure ⟨_, rfl, wpAny_truthy_bool h⟩))
theorem getItem_nest {p : Value} {Q : Value → Shared → Prop} (hm : DictN w s.heap d xs) (hk : NestedIs s.heap k v) (kd : k.depth ≤ 8) (hu : A.in1.units + 8 < cLine) (hp : atN xs k = some p)
    (h : Q p { s with toks := s.toks + k.draws }) : wpAny (model prog w) A (getItem (.ref d) v) Q E s := by
  unfold getItem
  try with_reducible refine wpAny_holding ?_
  refine wpAny_bind (wpAny_sequenceKey (hm.typeIs) (by decide) ?_)
  refine wpAny_bind (wpAny_callSpecial?_slot (name := Str.ofString "__getitem__") (hm.typeIs) slot_dict_getitem
    (wpAny_call_entry slot_dict_getitem (hm.typeIs) entry_dict_getitem ?_ (args_dict_getitem _ _)))
  show wpAny _ _ (dictGet d v >>= _) _ _ s
  refine wpAny_bind (get_nest hm hk kd hu ?_)
  rw [hp]
  exact wpAny_pure ⟨p, rfl, wpAny_pure h⟩
theorem setItem_nest {Q : Unit → Shared → Prop} (hm : DictN w s.heap d xs) (hk : NestedIs s.heap k v) (kd : k.depth ≤ 8) (hu : A.in1.units + 8 < cLine) (few : xs.length ≤ sizeLine)
    (hQ : ∀ h', DictN w h' d (storeN xs k v u) → Heap.SameBut d s.heap h' → Q () { s with heap := h', toks := s.toks + k.draws }) : wpAny (model prog w) A (setItem (.ref d) v u) Q E s := by
  unfold setItem
  try with_reducible refine wpAny_holding ?_
  refine wpAny_bind (wpAny_sequenceKey (hm.typeIs) (by decide) ?_)
  refine wpAny_bind (wpAny_callSpecial?_slot (name := Str.ofString "__setitem__") (hm.typeIs) slot_dict_setitem
    (wpAny_call_entry slot_dict_setitem (hm.typeIs) entry_dict_setitem ?_ (args_dict_setitem _ _ _)))
  show wpAny _ _ (Builtin.Dict.notOrdered "__setitem__" ⟨[.ref d, v, u], []⟩ >>= _) _ _ s
  refine wpAny_bind (wpAny_notOrdered_dict (hm.typeIs) ?_)
  show wpAny _ _ (dictSet d v u >>= _) _ _ s
  exact wpAny_bind (set_nest hm hk kd hu few fun h' hm' hs' => wpAny_pure ⟨.none, rfl, wpAny_pure (hQ h' hm' hs')⟩)
end
end MX
set_option Elab.async false
set_option linter.all false
set_option maxRecDepth 100000
set_option maxHeartbeats 4000000
/-! ~ by an own __invert__. -/
namespace L2
open PySem PySem.Spec PyProof.Rows
end L2
set_option Elab.async false
set_option linter.all false
set_option maxRecDepth 100000
set_option maxHeartbeats 4000000
/-! Own errors made and kept as values. -/
namespace L2
open PySem PySem.Spec PyProof.Rows
end L2
set_option Elab.async false
set_option linter.all false
set_option maxRecDepth 100000
set_option maxHeartbeats 4000000
/-! Dicts of flat keys and tuples, tracked. -/
namespace L2
open PySem PySem.Spec PyProof.Rows MX
/-- the dict at a: each key, what it is as a value, what stands under it -/
def MixO (w : World) (a : Addr) (kvs : List (NestedKey × V × V)) : HO := .ext fun h => kvs.length ≤ sizeLine ∧ (a == sysModules) = false ∧ ∃ xs : List (NestedKey × Value × Value),
  Paired (fun p q => p.1 = q.1 ∧ RelV p.2.1 q.2.1 ∧ RelV p.2.2 q.2.2) kvs xs ∧ ∃ o es ep, h.get? a = some o ∧ o.ExactDict ∧ o.data = .dict es ep ∧ es.toList = xs.map (entN w) ∧ (xs.map (·.1)).Nodup
/-- the key k is the value x: a flat one -/
inductive KeyF : NestedKey → V → Prop
  | none : KeyF .none .non
  | int (i : Int) : KeyF (.num i) (.int i)
  | text (z : Str) : KeyF (.text z) (.str z)
  | bool (b : Bool) : KeyF (.num (if b = true then 1 else 0)) (.bl b)
inductive KeyFs : List NestedKey → List V → Prop
  | nil : KeyFs [] []
  | cons {k : NestedKey} {x : V} {ks : List NestedKey} {xs : List V} : KeyF k x → KeyFs ks xs → KeyFs (k :: ks) (x :: xs)
/-- .. or a tuple of such -/
inductive KeyV (H : Hp) : NestedKey → V → Prop
  | flat {k : NestedKey} {x : V} : KeyF k x → KeyV H k x
  | tup {t : Addr} {ks : List NestedKey} {xs : List V} : H t = some (.tup xs) → KeyFs ks xs → KeyV H (.tup ks) (.ref t)
theorem KeyF.is {h : Heap} {k : NestedKey} {x : V} {u : Value} (f : KeyF k x) (r : RelV x u) : NestedIs h k u ∧ k.depth = 0 := by
  cases f with
  | none => cases r; exact ⟨.none, rfl⟩
  | int i => obtain ⟨t, rfl⟩ := r; exact ⟨.int _ _, rfl⟩
  | text z => obtain ⟨t, rfl⟩ := r; exact ⟨.text _ _, rfl⟩
  | bool b => cases r; exact ⟨.bool rfl, rfl⟩
theorem KeyFs.all {h : Heap} {ks : List NestedKey} {xs : List V} {us : List Value} (f : KeyFs ks xs) (r : Vals xs us) : NestedAll h ks us ∧ NestedKey.depthAll ks = 0 := by
  induction f generalizing us with
  | nil => cases r; exact ⟨.nil, rfl⟩
  | cons g _ ih =>
    cases r with
    | cons r1 r2 =>
      have a := ih r2
      have b := g.is (h := h) r1
      refine ⟨.cons b.1 a.1, ?_⟩
      simp only [NestedKey.depthAll]
      omega
section
variable {X : Cx} {pins : List (Addr × Obj)} {σ : St} {H : Hp} {s : Shared} {k : NestedKey} {x : V} {u : Value}
theorem KeyV.is (I : Inv X pins σ H s) (f : KeyV H k x) (r : RelV x u) : NestedIs s.heap k u ∧ k.depth ≤ 8 := by
  cases f with
  | flat g =>
    have z := g.is (h := s.heap) r
    exact ⟨z.1, by omega⟩
  | tup ht g =>
    obtain rfl : u = Value.ref _ := r
    obtain ⟨_, its, rv, ob⟩ := I.hok _ _ ht
    have z := g.all (h := s.heap) rv
    obtain ⟨o, e1, e2, n, e3⟩ := ob
    exact ⟨.tup e1 e2 e3 (show NestedAll _ _ its.toArray.toList from z.1), by show NestedKey.depthAll _ + 1 ≤ 8; omega⟩
end
/-- one key stored -/
def putM (kvs : List (NestedKey × V × V)) (k : NestedKey) (x v : V) : List (NestedKey × V × V) := if k ∈ kvs.map (·.1) then kvs.map (fun p => if p.1 = k then (p.1, p.2.1, v) else p) else kvs ++ [(k, x, v)]
/-- what stands under a key -/
def atM (kvs : List (NestedKey × V × V)) (k : NestedKey) : Option V := (kvs.find? fun p => decide (p.1 = k)).map (·.2.2)
abbrev PairM (kvs : List (NestedKey × V × V)) (xs : List (NestedKey × Value × Value)) : Prop := Paired (fun p q => p.1 = q.1 ∧ RelV p.2.1 q.2.1 ∧ RelV p.2.2 q.2.2) kvs xs
theorem PairM.keys {kvs : List (NestedKey × V × V)} {xs : List (NestedKey × Value × Value)} (h : PairM kvs xs) : kvs.map (·.1) = xs.map (·.1) := by
  induction h with
  | nil => rfl
  | cons e _ ih => rw [List.map_cons, List.map_cons, e.1, ih]
theorem PairM.len {kvs : List (NestedKey × V × V)} {xs : List (NestedKey × Value × Value)} (h : PairM kvs xs) : kvs.length = xs.length := by
  induction h with
  | nil => rfl
  | cons e _ ih => rw [List.length_cons, List.length_cons, ih]
theorem PairM.at {kvs : List (NestedKey × V × V)} {xs : List (NestedKey × Value × Value)} (h : PairM kvs xs) (k : NestedKey) : RelO (atM kvs k) (atN xs k) := by
  unfold atM atN
  induction h with
  | nil => first | exact True.intro | exact .none | exact ⟨⟩
  | @cons a b l1 l2 e _ ih =>
    rw [List.find?_cons, List.find?_cons, e.1]
    cases decide (b.1 = k) with
    | true => exact e.2.2
    | false => exact ih
theorem PairM.put {kvs : List (NestedKey × V × V)} {xs : List (NestedKey × Value × Value)} (h : PairM kvs xs) {k : NestedKey} {x v : V} {u r : Value} (rx : RelV x u) (rv : RelV v r) : PairM (putM kvs k x v) (storeN xs k u r) := by
  unfold putM storeN
  rw [h.keys]
  split
  · rename_i hin
    clear rx hin
    induction h with
    | nil => exact .nil
    | @cons a b l1 l2 e _ ih =>
      rw [List.map_cons, List.map_cons]
      refine .cons ?_ ih
      unfold putN
      rw [e.1]
      split
      · exact ⟨rfl, e.2.1, rv⟩
      · exact e
  · exact h.snoc ⟨rfl, rx, rv⟩
theorem putM_len (kvs : List (NestedKey × V × V)) (k : NestedKey) (x v : V) : (putM kvs k x v).length ≤ kvs.length + 1 := by
  unfold putM
  split
  · rw [List.length_map]
    exact Nat.le_succ _
  · rw [List.length_append]
    exact Nat.le_refl _
/-- it is there, and so are its keys -/
structure MixD (w : World) (H : Hp) (a : Addr) (kvs : List (NestedKey × V × V)) : Prop where
  at_ : H a = some (MixO w a kvs)
  keys : ∀ p ∈ kvs, KeyV H p.1 p.2.1
theorem mix_ok {P : Program} {w : World} {H : Hp} {h : Heap} {a : Addr} {kvs : List (NestedKey × V × V)} {xs : List (NestedKey × Value × Value)} (few : kvs.length ≤ sizeLine) (hd : (a == sysModules) = false) (r : PairM kvs xs)
    (x : ∃ o es ep, h.get? a = some o ∧ o.ExactDict ∧ o.data = .dict es ep ∧ es.toList = xs.map (entN w) ∧ (xs.map (·.1)).Nodup) : ObjOk P w H h a (MixO w a kvs) := by
  refine ⟨⟨few, hd, xs, r, x⟩, ?_, fun h1 h2 z k => ?_⟩
  · obtain ⟨o, es, ep, e, _⟩ := x
    exact ⟨o, e⟩
  · obtain ⟨few2, hd2, xs2, r2, o, es, ep, e, q⟩ := z
    exact ⟨few2, hd2, xs2, r2, o, es, ep, k _ e, q⟩
section
variable {X : Cx} {pins : List (Addr × Obj)} {σ : St} {H : Hp} {s : Shared} {a : Addr} {kvs : List (NestedKey × V × V)} {k : NestedKey} {x v : V} {u r : Value} {A : Around} {E : Value → Shared → Prop}
theorem PairM.keysN {xs : List (NestedKey × Value × Value)} (p : PairM kvs xs) (I : Inv X pins σ H s) (hk : ∀ p ∈ kvs, KeyV H p.1 p.2.1) : KeysN s.heap xs := by
  induction p with
  | nil => exact fun y hy => nomatch hy
  | @cons c d l1 l2 e _ ih =>
    intro y hy
    rcases List.mem_cons.mp hy with rfl | z
    · have q := (hk c List.mem_cons_self).is I e.2.1
      rw [e.1] at q
      exact q
    · exact ih (fun p hp => hk p (List.mem_cons_of_mem _ hp)) y z
theorem MixD.dict (I : Inv X pins σ H s) (m : MixD X.w H a kvs) : kvs.length ≤ sizeLine ∧ (a == sysModules) = false ∧ ∃ xs, PairM kvs xs ∧ DictN X.w s.heap a xs := by
  obtain ⟨⟨few, hd, xs, p, o, es, ep, h1, h2, h3, h4, h5⟩, _, _⟩ := I.hok a _ m.at_
  refine ⟨few, hd, xs, p, o, es, ep, h1, h2, h3, h4, PairM.keysN p I m.keys, h5⟩
/-- d[y] = v -/
theorem m_setItem {Q : Unit → Shared → Prop} (hu : A.in1.units + 8 < cLine) (I : Inv X pins σ H s) (m : MixD X.w H a kvs) (hl : kvs.length < sizeLine) (hk : KeyV H k x) (rx : RelV x u) (rv : RelV v r)
    (h : ∀ s', Inv X pins σ (upd H a (MixO X.w a (putM kvs k x v))) s' → Q () s') : wpAny (model X.prog X.w) A (setItem (.ref a) u r) Q E s := by
  obtain ⟨few, hd, xs, p, D⟩ := m.dict I
  have z := hk.is I rx
  refine setItem_nest D z.1 z.2 hu (by rw [← PairM.len p]; exact few) fun h' D' hs => h _ ?_
  obtain ⟨o, es, ep, e1, e2, e3, e4, _, e5⟩ := D'
  exact d_write I (by rw [m.at_]; exact True.intro) hs ⟨o, e1⟩ (mix_ok (by have := putM_len kvs k x v; omega) hd (PairM.put p rx rv) ⟨o, es, ep, e1, e2, e3, e4, e5⟩)
end
end L2
set_option Elab.async false
set_option linter.all false
set_option maxRecDepth 100000
set_option maxHeartbeats 4000000
/-! d[k] = v, d[k], k in d in terms, for dicts of flat keys and tuples. -/
namespace L2
open PySem PySem.Spec PyProof.Rows MX
section
variable {X : Cx}
def rSetM (w : World) : TSet := fun o i v H Q => ∃ (a : Addr) (kvs : List (NestedKey × V × V)) (k : NestedKey), o = .ref a ∧ MixD w H a kvs ∧ kvs.length < sizeLine ∧ KeyV H k i ∧ Q (upd H a (MixO w a (putM kvs k i v)))
theorem set_mix (hu : X.A.units + 9 < cLine) : PSet X (rSetM X.w) := by
  intro pins s σ H o i v ov iv u Q I ro ri rv h
  obtain ⟨a, kvs, k, rfl, m, hl, hk, q⟩ := h
  obtain rfl : ov = Value.ref a := ro
  exact m_setItem (by show X.A.units + 1 + 8 < cLine; omega) I m hl hk ri rv fun s' I' => ⟨_, I', q⟩
end
/-- the keys stay where the heap only grows -/
theorem KeyV.same {H H2 : Hp} {k : NestedKey} {x : V} (f : KeyV H k x) (s : Same H H2) : KeyV H2 k x := by
  cases f with
  | flat g => exact .flat g
  | tup h g => exact .tup (s _ _ h) g
theorem MixD.same {w : World} {H H2 : Hp} {a : Addr} {kvs : List (NestedKey × V × V)} (m : MixD w H a kvs) (s : Same H H2) : MixD w H2 a kvs := ⟨s _ _ m.at_, fun p hp => (m.keys p hp).same s⟩
/-- stored -/
theorem MixD.put {w : World} {H : Hp} {a : Addr} {kvs : List (NestedKey × V × V)} {k : NestedKey} {x v : V} (m : MixD w H a kvs) (hk : KeyV H k x) : MixD w (upd H a (MixO w a (putM kvs k x v))) a (putM kvs k x v) := by
  have up : ∀ {j : NestedKey} {y : V}, KeyV H j y → KeyV (upd H a (MixO w a (putM kvs k x v))) j y := fun f => by
    cases f with
    | flat g => exact .flat g
    | tup h g =>
      refine .tup ?_ g
      rw [upd_ne fun z => ?_]
      · exact h
      · rw [z, m.at_] at h
        cases h
  refine ⟨upd_same, fun p hp => ?_⟩
  unfold putM at hp
  split at hp
  · obtain ⟨q, hq, rfl⟩ := List.mem_map.mp hp
    have z := up (m.keys q hq)
    split
    · exact z
    · exact z
  · rcases List.mem_append.mp hp with z | z
    · exact up (m.keys p z)
    · obtain rfl := List.mem_singleton.mp z
      exact up hk
theorem MixD.new {w : World} {H : Hp} {a : Addr} : MixD w (upd H a (MixO w a [])) a [] := ⟨upd_same, fun p hp => nomatch hp⟩
end L2
set_option Elab.async false
set_option linter.all false
set_option maxRecDepth 100000
set_option maxHeartbeats 4000000
/-! for k in d, d a dict of flat keys and tuples. -/
namespace L2
open PySem PySem.Spec PyProof.Rows MX
/-- the keys of the locked dict at d, in their order -/
def Itm (w : World) (d : Addr) (o : Obj) (kvs : List (NestedKey × V × V)) : It :=
  ⟨fun i H => H d = some (.frz o (MixO w d kvs)) ∧ i < kvs.length, fun i H x H' => H' = H ∧ ∃ k v, kvs[i]? = some (k, x, v), fun i H => H d = some (.frz o (MixO w d kvs)) ∧ kvs.length ≤ i⟩
theorem PairM.get {kvs : List (NestedKey × V × V)} {xs : List (NestedKey × Value × Value)} (h : PairM kvs xs) {i : Nat} {p : NestedKey × V × V} (e : kvs[i]? = some p) : ∃ q, xs[i]? = some q ∧ RelV p.2.1 q.2.1 ∧ RelV p.2.2 q.2.2 := by
  induction h generalizing i with
  | nil => simp at e
  | @cons a b l1 l2 r _ ih =>
    cases i with
    | zero =>
      rw [List.getElem?_cons_zero] at e
      cases e
      exact ⟨b, rfl, r.2⟩
    | succ j =>
      rw [List.getElem?_cons_succ] at e ⊢
      exact ih e
section
variable {X : Cx} {pins : List (Addr × Obj)} {σ : St} {H : Hp} {s : Shared} {d : Addr} {o : Obj} {kvs : List (NestedKey × V × V)}
theorem Inv.frzM (I : Inv X pins σ H s) (h : H d = some (.frz o (MixO X.w d kvs))) : (d == sysModules) = false ∧ s.heap.get? d = some o ∧ o.ExactDict ∧ ∃ (es : Array DictEntry) (ep : Nat), o.data = .dict es ep ∧ es.size = kvs.length ∧
    ∀ (i : Nat) (k : NestedKey) (x v : V), kvs[i]? = some (k, x, v) → ∃ en : DictEntry, es[i]? = some en ∧ RelV x en.key := by
  obtain ⟨ho, ⟨few, hs, xs, p, o', es, ep, ho', hx, hdt, he, _⟩, _, _⟩ := I.hok d _ h
  rw [ho] at ho'
  cases ho'
  refine ⟨hs, ho, hx, es, ep, hdt, by rw [ent_size he, PairM.len p], fun i k x v e => ?_⟩
  obtain ⟨q, hq, r, _⟩ := PairM.get p e
  have hi : i < xs.length := (List.getElem?_eq_some_iff.mp hq).1
  have hi2 : i < es.size := by rw [ent_size he]; exact hi
  refine ⟨entN X.w q, ?_, r⟩
  rw [Array.getElem?_eq_getElem hi2, ent_at he hi2]
  rw [List.getElem?_eq_getElem hi] at hq
  rw [Option.some.inj hq]
end
section
variable {P : Program} {w : World} {K : PySem.W.Frag} {tg : Expr} {d : Addr} {o : Obj} {es : Array DictEntry} {ep : Nat}
theorem turn_keysM {kvs : List (NestedKey × V × V)} (it : Addr) (hod : o.data = .dict es ep) : Turn P w K tg (Itm w d o kvs) [it] it (fun i h => h.IsKeyIter it d i kvs.length ep) where
  mem := by simp
  obj := fun i h st b hb => by
    obtain rfl : b = it := by simpa using hb
    obtain ⟨oi, e, c, dd⟩ := st
    exact ⟨oi, e, fun v z => by rw [dd] at z; cases z⟩
  keep := fun i h h' st k => st.at fun oi e => k it (by simp) oi e
  item := by
    intro X hP hw hK hc i pins s σ H E I hf st hg
    subst hP hw hK
    obtain ⟨hd, hi⟩ := hg
    obtain ⟨f0, f1, f2, f3, f4, f5⟩ := hf it (by simp)
    obtain ⟨hs, hgd, hx, es', ep', hdt, hsz, ent⟩ := I.frzM hd
    obtain ⟨rfl, rfl⟩ := dict_ep hod hdt
    obtain ⟨⟨k, x, v⟩, hkv⟩ : ∃ p, kvs[i]? = some p := ⟨kvs[i], List.getElem?_eq_getElem hi⟩
    obtain ⟨en, hen, hr⟩ := ent i k x v hkv
    refine next_key_item st hgd hdt hsz hen fun h' st' sb => ?_
    have I1 : Inv X pins σ H { s with heap := h' } := I.turned (t' := s.toks) (fun b ob hb e => (sb.2 b hb).trans e) f0 f1 f3 f4 f5
    obtain ⟨oi, e, c, dd⟩ := id st'
    exact ⟨en.key, rfl, go_of (s := { s with heap := h' }) e c dd (by decide) ⟨x, H, I1, hr, ⟨rfl, k, v, hkv⟩, st', fun b hb => (hf b hb).1⟩⟩
  done := by
    intro X hP hw hK hc i pins s σ H E I hf st hg
    subst hP hw hK
    obtain ⟨hd, hi⟩ := hg
    obtain ⟨f0, f1, f2, f3, f4, f5⟩ := hf it (by simp)
    obtain ⟨hs, hgd, hx, es', ep', hdt, hsz, ent⟩ := I.frzM hd
    obtain ⟨rfl, rfl⟩ := dict_ep hod hdt
    exact next_key_end (I.ok.hd hc) st hgd hdt hsz hi fun h' eb => ⟨rfl, I.turned (t' := s.toks) (fun b ob hb e => eb b ob hb e) f0 f1 f3 f4 f5⟩
  self := fun A i s Q E st h => wpAny_pyIter_keyiter st h
def iKeysX (w : World) (td : TE) : TI := fun σ H R => td σ H fun x H1 => ∃ d o kvs, x = .ref d ∧ H1 d = some (.frz o (MixO w d kvs)) ∧ R (Itm w d o kvs) H1
end
section
variable {X : Cx} {tg e : Expr} {td : TE}
/-- for k in d, d locked -/
theorem pi_keysX (he : PE X e td) : PI X tg e (iKeysX X.w td) := by
  refine ⟨fun pins s σ H R I h => ?_⟩
  refine thn (he.run pins s σ H _ I h) fun u s1 ⟨x, H1, I1, rx, d, o, kvs, ex, hd, q⟩ => ?_
  subst ex
  obtain rfl : u = Value.ref d := rx
  obtain ⟨hs, hgd, hx, es, ep, hdt, hsz, ent⟩ := I1.frzM hd
  refine iter_keys hs hgd hx hdt (pi_one (tk := s1.toks) I1 _ (turn_keysM _ hdt) ⟨_, Heap.get?_push_size _ rfl, rfl, ?_⟩ q)
  rw [hsz] <;> rfl
end
end L2
set_option Elab.async false
set_option linter.all false
set_option maxRecDepth 100000
set_option maxHeartbeats 4000000
/-! Dicts whose keys are tuples that may be objects of the module too. -/
namespace L2
open PySem PySem.Spec PyProof.Rows
theorem ent_prog (P P' : Program) (w : World) : (entryOfKey (tupleKind (mixKind P w)) : List Key × Addr × Value → DictEntry) = entryOfKey (tupleKind (mixKind P' w)) := rfl
abbrev P2 (as : List Addr) (kvs : List (List Key × V)) (xs : List (List Key × Addr × Value)) : Prop := as = xs.map (·.2.1) ∧ Paired (fun (p : List Key × V) (q : List Key × Addr × Value) => p.1 = q.1 ∧ RelV p.2 q.2.2) kvs xs
/-- the dict at d: its keys' addresses, its keys and what stands under them -/
def DX (w : World) (d : Addr) (as : List Addr) (kvs : List (List Key × V)) : HO := .ext fun h => kvs.length ≤ sizeLine ∧ (d == sysModules) = false ∧ ∃ (P : Program) (xs : List (List Key × Addr × Value)), P2 as kvs xs ∧
  ∃ o es ep, h.get? d = some o ∧ o.ExactDict ∧ o.data = .dict es ep ∧ es.toList = xs.map (entryOfKey (tupleKind (mixKind P w))) ∧ (xs.map (·.1)).Nodup
/-- the keys stand there -/
abbrev KyA (K : PySem.W.Frag) (H : Hp) (as : List Addr) (kvs : List (List Key × V)) : Prop := Paired (fun a kv => SqT K H a (kv.1.map kV)) as kvs
theorem dx_ok {P : Program} {w : World} {H : Hp} {h : Heap} {d : Addr} {as : List Addr} {kvs : List (List Key × V)} {xs : List (List Key × Addr × Value)} (few : kvs.length ≤ sizeLine) (hd : (d == sysModules) = false) (r : P2 as kvs xs)
    (x : ∃ o es ep, h.get? d = some o ∧ o.ExactDict ∧ o.data = .dict es ep ∧ es.toList = xs.map (entryOfKey (tupleKind (mixKind P w))) ∧ (xs.map (·.1)).Nodup) : ObjOk P w H h d (DX w d as kvs) := by
  refine ⟨⟨few, hd, P, xs, r, x⟩, ?_, fun h1 h2 z k => ?_⟩
  · obtain ⟨o, es, ep, e, _⟩ := x
    exact ⟨o, e⟩
  · obtain ⟨few2, hd2, P2, xs2, r2, o, es, ep, e, q⟩ := z
    exact ⟨few2, hd2, P2, xs2, r2, o, es, ep, k _ e, q⟩
theorem p2_val {as : List Addr} {kvs : List (List Key × V)} {xs : List (List Key × Addr × Value)} (r : P2 as kvs xs) (k : List Key) : RelO (valV kvs k) ((atKey xs k).map (·.2)) := by
  replace r := r.2
  induction r with
  | nil => exact True.intro
  | @cons p q ps qs h t ih =>
    obtain ⟨h1, h2⟩ := h
    by_cases e : p.1 = k
    · have e' : q.1 = k := h1.symm.trans e
      have b : atKey (q :: qs) k = some q.2 := by simp [atKey, List.find?_cons, e']
      rw [valV_pos e, b]; exact h2
    · have e' : ¬ q.1 = k := fun z => e (h1.trans z)
      have b : atKey (q :: qs) k = atKey qs k := by simp [atKey, List.find?_cons, e']
      rw [valV_neg e, b]; exact ih
theorem p2_len {as : List Addr} {kvs : List (List Key × V)} {xs : List (List Key × Addr × Value)} (r : P2 as kvs xs) : kvs.length = xs.length := Paired.length r.2
theorem p2_put {as : List Addr} {kvs : List (List Key × V)} {xs : List (List Key × Addr × Value)} (r : P2 as kvs xs) {k : List Key} {b : Addr} {v : V} {u : Value} (n : valV kvs k = none) (rv : RelV v u) : P2 (as ++ [b]) (kvs ++ [(k, v)]) (storedH xs k b u) := by
  have e := (p2_val r k).isSome_eq
  rw [n, Option.isSome_map] at e
  unfold storedH
  rw [if_neg (by rw [← e]; decide)]
  refine ⟨by rw [r.1, List.map_append]; rfl, Paired.snoc r.2 ⟨rfl, rv⟩⟩
section
variable {X : Cx} {pins : List (Addr × Obj)} {σ : St} {H : Hp} {s : Shared} {d b : Addr} {as : List Addr} {kvs : List (List Key × V)} {k : List Key} {v : V} {u r : Value} {A : Around} {E : Value → Shared → Prop}
theorem Inv.keyT (I : Inv X pins σ H s) (h : SqT X.K H b (k.map kV)) : (tupleKind (mixKind X.prog X.w)).is s.heap k b := by
  obtain ⟨its, r, ⟨o, h1, h2, n, h3⟩, _⟩ := I.tuple h
  exact ⟨o, its.toArray, n, h1, h2, h3, by simpa using items_are r⟩
theorem Inv.keysT (I : Inv X pins σ H s) {xs : List (List Key × Addr × Value)} (ky : KyA X.K H as kvs) (r : P2 as kvs xs) : ∀ x ∈ xs, (tupleKind (mixKind X.prog X.w)).is s.heap x.1 x.2.1 := by
  obtain ⟨e, r⟩ := r
  subst e
  induction r with
  | nil => exact fun x hx => nomatch hx
  | cons h _ ih =>
    rw [List.map_cons] at ky
    cases ky with
    | cons a t =>
      intro x hx
      rcases List.mem_cons.mp hx with rfl | hx
      · rw [h.1] at a
        exact I.keyT a
      · exact ih t x hx
theorem dx_dict (I : Inv X pins σ H s) (e : Rd H d (DX X.w d as kvs)) (ky : KyA X.K H as kvs) : kvs.length ≤ sizeLine ∧ (d == sysModules) = false ∧ ∃ xs, P2 as kvs xs ∧ s.heap.DictOfH (tupleKind (mixKind X.prog X.w)) d xs := by
  obtain ⟨⟨few, hd, P, xs, p, o, es, ep, h1, h2, h3, h4, h5⟩, _, _⟩ := (show ObjOk X.prog X.w H s.heap d (DX X.w d as kvs) from e.ok I.hok)
  refine ⟨few, hd, xs, p, o, es, ep, h1, h2, h3, ?_, I.keysT ky p, h5⟩
  rw [h4, ent_prog P X.prog X.w]
end
/-- what the dict at a holds at the key y -/
def DGetY (w : World) (K : PySem.W.Frag) (H : Hp) (a : Addr) (y : V) (r : Option V) : Prop :=
  ∃ as kvs k b, Rd H a (DX w a as kvs) ∧ KyA K H as kvs ∧ y = .ref b ∧ SqT K H b (k.map kV) ∧ r = valV kvs k
/-- the heap behind a[y] = v, y new -/
def DPutY (w : World) (K : PySem.W.Frag) (H : Hp) (a : Addr) (y v : V) (H' : Hp) : Prop :=
  ∃ as kvs k b, H a = some (DX w a as kvs) ∧ KyA K H as kvs ∧ y = .ref b ∧ SqT K H b (k.map kV) ∧ valV kvs k = none ∧ kvs.length < sizeLine ∧ H' = upd H a (DX w a (as ++ [b]) (kvs ++ [(k, v)]))
def tDGetY (w : World) (K : PySem.W.Frag) (td ty : TE) : TE := fun σ H Q => td σ H fun x H1 => ty σ H1 fun y H2 => ∃ a v, x = .ref a ∧ DGetY w K H2 a y (some v) ∧ Q v H2
def tDInY (w : World) (K : PySem.W.Frag) (ty td : TE) : TE := fun σ H Q => ty σ H fun y H1 => td σ H1 fun x H2 => ∃ a o, x = .ref a ∧ DGetY w K H2 a y o ∧ Q (.bl o.isSome) H2
def tDNotInY (w : World) (K : PySem.W.Frag) (ty td : TE) : TE := fun σ H Q => ty σ H fun y H1 => td σ H1 fun x H2 => ∃ a o, x = .ref a ∧ DGetY w K H2 a y o ∧ Q (.bl (!o.isSome)) H2
def sDPutY (w : World) (K : PySem.W.Frag) (td ty tv : TE) : TS := fun D σ H => tv σ H fun v H1 => td σ H1 fun x H2 => ty σ H2 fun y H3 => ∃ a H4, x = .ref a ∧ DPutY w K H3 a y v H4 ∧ D.nx σ H4
section
variable {X : Cx} {o i value : Expr} {pos pos' : Pos} {td ty tv : TE}
theorem pe_dgetY {w : World} {K : PySem.W.Frag} (hw : X.w = w) (hk : X.K = K) (hu : X.A.units + 1 < cLine) (ho : PE X o td) (hi : PE X i ty) (hs : NoSl i) : PE X (.Subscript o i pos) (tDGetY w K td ty) := by
  subst hw hk
  refine ⟨fun pins s σ H Q I h => ?_⟩
  refine subD_of PySem.F.slot_dict_getitem.lookup hs (thn (ho.run pins s σ H _ I h) fun u s1 ⟨x, H1, I1, rx, q1⟩ => thn (hi.run pins s1 σ H1 _ I1 q1) fun iv s2 ⟨y, H2, I2, ry, a, v, ex, g, q2⟩ => ?_)
  subst ex
  obtain rfl : u = Value.ref a := rx
  obtain ⟨as, kvs, k, b, e, ky, rfl, eb, l⟩ := g
  obtain rfl : iv = Value.ref b := ry
  obtain ⟨z, hd, xs, rel, dd⟩ := dx_dict I2 e ky
  obtain ⟨w', hw, rw'⟩ := RelO.some_of (v := v) (o := (atKey xs k).map (·.2)) (by rw [l]; exact p2_val rel k)
  obtain ⟨p, hp, hp2⟩ := Option.map_eq_some_iff.mp hw
  refine ⟨dd.typeIs, wpAny_getItem_heap (tupleKind_room_in1 hu) (I2.keyT eb) dd hp ?_⟩
  rw [hp2]
  exact ⟨v, H2, I2.tok _, rw', q2⟩
theorem pc_dinY {w : World} {K : PySem.W.Frag} (hw : X.w = w) (hk : X.K = K) (hu : X.A.units + 1 < cLine) (hi : PE X i ty) (ho : PE X o td) : PC X .In i o (tDInY w K ty td) := by
  subst hw hk
  refine ⟨fun pins s σ H Q I h => ?_⟩
  refine thn (hi.run pins s σ H _ I h) fun iv s1 ⟨y, H1, I1, ry, q1⟩ => thn (ho.run pins s1 σ H1 _ I1 q1) fun u s2 ⟨x, H2, I2, rx, a, ov, ex, g, q2⟩ => ?_
  subst ex
  obtain rfl : u = Value.ref a := rx
  obtain ⟨as, kvs, k, b, e, ky, rfl, eb, l⟩ := g
  obtain rfl : iv = Value.ref b := ry
  obtain ⟨z, hd, xs, rel, dd⟩ := dx_dict I2 e ky
  refine wpAny_in_heap (tupleKind_room_in1 hu) (I2.keyT eb) hd dd ?_
  have q := (p2_val rel k).isSome_eq
  rw [Option.isSome_map] at q
  rw [← q, ← l]
  exact ⟨.bl ov.isSome, H2, I2.tok _, rfl, q2⟩
theorem pc_dnotinY {w : World} {K : PySem.W.Frag} (hw : X.w = w) (hk : X.K = K) (hu : X.A.units + 1 < cLine) (hi : PE X i ty) (ho : PE X o td) : PC X .NotIn i o (tDNotInY w K ty td) := by
  subst hw hk
  refine ⟨fun pins s σ H Q I h => ?_⟩
  refine thn (hi.run pins s σ H _ I h) fun iv s1 ⟨y, H1, I1, ry, q1⟩ => thn (ho.run pins s1 σ H1 _ I1 q1) fun u s2 ⟨x, H2, I2, rx, a, ov, ex, g, q2⟩ => ?_
  subst ex
  obtain rfl : u = Value.ref a := rx
  obtain ⟨as, kvs, k, b, e, ky, rfl, eb, l⟩ := g
  obtain rfl : iv = Value.ref b := ry
  obtain ⟨z, hd, xs, rel, dd⟩ := dx_dict I2 e ky
  refine wpAny_notIn_heap (tupleKind_room_in1 hu) (I2.keyT eb) hd dd ?_
  have q := (p2_val rel k).isSome_eq
  rw [Option.isSome_map] at q
  rw [← q, ← l]
  exact ⟨.bl (!ov.isSome), H2, I2.tok _, rfl, q2⟩
theorem ps_dputY {w : World} {K : PySem.W.Frag} (hw : X.w = w) (hk : X.K = K) (hu : X.A.units + 1 < cLine) (ho : PE X o td) (hi : PE X i ty) (hv : PE X value tv) (hs : swapsWith value (some (.Subscript o i pos')) pos.line X.env = pure false) :
    PS X (.Assign [.Subscript o i pos'] value pos) (sDPutY w K td ty tv) := by
  subst hw hk
  refine ⟨fun pins s σ H D I h => ?_⟩
  refine wpAny_Assign_Subscript (thn (hv.run pins s σ H _ I h) fun r s1 ⟨v, H1, I1, rv, q1⟩ => thn (ho.run pins s1 σ H1 _ I1 q1) fun u s2 ⟨x, H2, I2, rx, q2⟩ => thn (hi.run pins s2 σ H2 _ I2 q2) fun iv s3 ⟨y, H3, I3, ry, a, H4, ex, g, q3⟩ => ?_) hs
  subst ex
  obtain rfl : u = Value.ref a := rx
  obtain ⟨as, kvs, k, b, e, ky, rfl, eb, n, l, rfl⟩ := g
  obtain rfl : iv = Value.ref b := ry
  obtain ⟨z, hd, xs, rel, dd⟩ := dx_dict I3 (.inl e) ky
  have hz : xs.length ≤ sizeLine := by rw [← p2_len rel]; exact z
  refine wpAny_setItem_heap (hsz := hz) (tupleKind_room_in1 hu) (I3.keyT eb) dd fun h' dd' hs => ⟨σ, _, ?_, q3⟩
  obtain ⟨q, es, ep, hq, h2, h3, h4, _, h5⟩ := dd'
  exact d_write I3 (by rw [e]; exact True.intro) hs ⟨q, hq⟩ (dx_ok (by rw [List.length_append, List.length_singleton]; omega) hd (p2_put rel n rv) ⟨q, es, ep, hq, h2, h3, h4, h5⟩)
def tDNewY (w : World) : TE := fun _ H Q => ∀ p, H p = none → Q (.ref p) (upd H p (DX w p [] []))
theorem dx_new {X : Cx} {pins : List (Addr × Obj)} {σ : St} {H : Hp} {s : Shared} (I : Inv X pins σ H s) : Inv X pins σ (upd H s.heap.objs.size (DX X.w s.heap.objs.size [] [])) { s with heap := s.heap.push { cls := .type "dict", data := .dict #[] } } :=
  I.laid (a := s.heap.objs.size) (t' := s.toks) (fun _ _ q => Heap.get?_push_of_some _ q) (Nat.le_refl _)
    (dx_ok (P := X.prog) (xs := []) (Nat.zero_le _) (beq_eq_false_iff_ne.mpr (Ne.symm (Nat.ne_of_lt I.big))) ⟨rfl, .nil⟩ ⟨_, #[], 0, Heap.get?_push_size _ rfl, ⟨rfl, rfl, rfl⟩, rfl, rfl, List.nodup_nil⟩)
theorem pe_dnewY {w : World} {pos : Pos} (hw : X.w = w) : PE X (.Dict [] [] pos) (tDNewY w) := by
  subst hw
  exact ⟨fun pins s σ H Q I h =>
  wpAny_Dict_empty ⟨.ref s.heap.objs.size, _, dx_new I, rfl, h _ (I.hok.fresh (Nat.le_refl _))⟩⟩
def tDispY (w : World) (K : PySem.W.Frag) (tk tv : TE) : TE := fun σ H Q => ∀ p, H p = none → tPairs [(tk, tv)] σ (upd H p (DX w p [] [])) fun ps H2 => H2 p = some (DX w p [] []) ∧ ∃ (k : List Key) (b : Addr) (y : V), ps = [(.ref b, y)] ∧ SqT K H2 b (k.map kV) ∧ Q (.ref p) (upd H2 p (DX w p [b] [(k, y)]))
theorem pe_dispY {pos : Pos} {k v : Expr} {tk tv : TE} {w : World} {K : PySem.W.Frag} (hw : X.w = w) (hk : X.K = K) (hu : X.A.units + 1 < cLine) (h : PPs X pos [some k] [v] [(tk, tv)]) : PE X (.Dict [some k] [v] pos) (tDispY w K tk tv) := by
  subst hw hk
  refine ⟨fun pins s σ H Q I q => ?_⟩
  have hn := I.hok.fresh (Nat.le_refl s.heap.objs.size)
  have I1 := dx_new I
  rw [arm_eval_Dict, zip_pairTrees [some k] [v] X.env pos rfl rfl, dictDisplay_pairs _ (by intro z; cases z) (by show 1 < 17; decide)]
  refine wpAny_bind (wpAny_standAt (wpAny_bind ?_))
  unfold subDict
  refine wpAny_bind (wpAny_alloc ?_)
  refine wpAny_bind (wpAny_holding ?_)
  rw [if_pos (show (pairTrees [some k] [v] X.env pos).length ≤ 15 from by show 1 ≤ 15; decide)]
  refine wpAny_bind (thn (h.run pins _ σ _ _ I1 (q _ hn)) fun vs s2 ⟨ps, H2, I2, rel, e, kk, b, y, ep, eb, q2⟩ => ?_)
  subst ep
  obtain ⟨⟨u1, u2⟩, rfl, r1, r2⟩ : ∃ w : Value × Value, vs = [w] ∧ RelV (.ref b) w.1 ∧ RelV y w.2 := by
    cases rel with
    | cons r t =>
      cases t
      exact ⟨_, rfl, r.1, r.2⟩
  cases (show u1 = Value.ref b from r1)
  refine wpAny_holding ?_
  obtain ⟨z, hd, xs, rl, dd⟩ := dx_dict I2 (.inl e) .nil
  obtain rfl : xs = [] := by
    have := p2_len rl
    exact List.length_eq_zero_iff.mp this.symm
  rw [List.forIn_cons]
  refine wpAny_bind (wpAny_bind ?_)
  show wpAny _ _ (do dictSet s.heap.objs.size (.ref b) u2; pure (ForInStep.yield PUnit.unit)) _ _ _
  refine wpAny_bind (wpAny_dictSet_heap (hsz := Nat.zero_le _) (knd := tupleKind (mixKind X.prog X.w)) (show X.A.units < cLine by omega) (I2.keyT eb) dd fun h' dd' hs => ?_)
  refine wpAny_pure ?_
  dsimp only
  rw [List.forIn_nil]
  refine wpAny_pure ?_
  refine wpAny_pure ?_
  refine wpAny_pure ?_
  refine wpAny_pure ⟨.ref s.heap.objs.size, _, ?_, rfl, q2⟩
  obtain ⟨q, es, ep, hq, h2, h3, h4, _, h5⟩ := dd'
  exact d_write I2 (by rw [e]; exact True.intro) hs ⟨q, hq⟩ (dx_ok (by show 1 ≤ sizeLine; decide) hd (p2_put (b := b) rl rfl r2) ⟨q, es, ep, hq, h2, h3, h4, h5⟩)
def rLenX (w : World) (K : PySem.W.Frag) : List V → Hp → VK → Prop := fun xs H Q => ∃ (p : Addr) (as : List Addr) (kvs : List (List Key × V)), xs = [.ref p] ∧ H p = some (DX w p as kvs) ∧ KyA K H as kvs ∧ Q (.int ((kvs.length : Nat) : Int)) H
theorem call_len_dX {w : World} {K : PySem.W.Frag} (hw : X.w = w) (hk : X.K = K) : CallR X (.builtin "len") (rLenX w K) := by
  subst hw hk
  intro pins s σ H xs us Q I r h
  obtain ⟨p, as, kvs, rfl, hp, ky, q⟩ := h
  obtain ⟨u, rfl, rx⟩ := vals1 r
  obtain rfl : u = .ref p := rx
  obtain ⟨z, hd, ys, rel, dd⟩ := dx_dict I (.inl hp) ky
  have hl : kvs.length = ys.length := p2_len rel
  refine call_len_dictH hd dd (by rw [← hl]; rw [sizeLine_eq] at z; omega) ?_
  rw [← hl]
  exact ⟨.int ((kvs.length : Nat) : Int), H, I.tok _, ⟨_, rfl⟩, q⟩
end
/-- the keys of the locked dict at d, in their order -/
def Itx (w : World) (d : Addr) (o : Obj) (as : List Addr) (kvs : List (List Key × V)) : It :=
  ⟨fun i H => H d = some (.frz o (DX w d as kvs)) ∧ i < as.length, fun i H x H' => H' = H ∧ ∃ b, as[i]? = some b ∧ x = .ref b, fun i H => H d = some (.frz o (DX w d as kvs)) ∧ as.length ≤ i⟩
section
variable {X : Cx} {pins : List (Addr × Obj)} {σ : St} {H : Hp} {s : Shared} {d : Addr} {o : Obj} {as : List Addr} {kvs : List (List Key × V)}
theorem Inv.frzX (I : Inv X pins σ H s) (h : H d = some (.frz o (DX X.w d as kvs))) : (d == sysModules) = false ∧ s.heap.get? d = some o ∧ o.ExactDict ∧ ∃ (es : Array DictEntry) (ep : Nat), o.data = .dict es ep ∧ es.size = as.length ∧
    ∀ (i : Nat) (b : Addr), as[i]? = some b → ∃ en : DictEntry, es[i]? = some en ∧ en.key = .ref b := by
  obtain ⟨ho, ⟨few, hs, P, xs, p, o', es, ep, ho', hx, hdt, he, _⟩, _, _⟩ := I.hok d _ h
  rw [ho] at ho'
  cases ho'
  have l1 : es.size = xs.length := by rw [← Array.length_toList, he, List.length_map]
  obtain ⟨rfl, _⟩ := p
  refine ⟨hs, ho, hx, es, ep, hdt, by rw [List.length_map, l1], fun i b e => ?_⟩
  rw [List.getElem?_map] at e
  obtain ⟨q, hq, rfl⟩ := Option.map_eq_some_iff.mp e
  refine ⟨entryOfKey (tupleKind (mixKind P X.w)) q, ?_, rfl⟩
  rw [← Array.getElem?_toList, he, List.getElem?_map, hq]
  rfl
end
section
variable {P : Program} {w : World} {K : PySem.W.Frag} {tg : Expr} {d : Addr} {o : Obj} {es : Array DictEntry} {ep : Nat}
theorem turn_keysX {as : List Addr} {kvs : List (List Key × V)} (it : Addr) (hod : o.data = .dict es ep) : Turn P w K tg (Itx w d o as kvs) [it] it (fun i h => h.IsKeyIter it d i as.length ep) where
  mem := by simp
  obj := fun i h st b hb => by
    obtain rfl : b = it := by simpa using hb
    obtain ⟨oi, e, c, dd⟩ := st
    exact ⟨oi, e, fun v z => by rw [dd] at z; cases z⟩
  keep := fun i h h' st k => st.at fun oi e => k it (by simp) oi e
  item := by
    intro X hP hw hK hc i pins s σ H E I hf st hg
    subst hP hw hK
    obtain ⟨hd, hi⟩ := hg
    obtain ⟨f0, f1, f2, f3, f4, f5⟩ := hf it (by simp)
    obtain ⟨hs, hgd, hx, es', ep', hdt, hsz, ent⟩ := I.frzX hd
    obtain ⟨rfl, rfl⟩ := dict_ep hod hdt
    obtain ⟨b, hb⟩ : ∃ b, as[i]? = some b := ⟨as[i], List.getElem?_eq_getElem hi⟩
    obtain ⟨en, hen, hr⟩ := ent i b hb
    refine next_key_item st hgd hdt hsz hen fun h' st' sb => ?_
    have I1 : Inv X pins σ H { s with heap := h' } := I.turned (t' := s.toks) (fun b ob hb e => (sb.2 b hb).trans e) f0 f1 f3 f4 f5
    obtain ⟨oi, e, c, dd⟩ := id st'
    exact ⟨en.key, rfl, go_of (s := { s with heap := h' }) e c dd (by decide) ⟨.ref b, H, I1, hr, ⟨rfl, b, hb, rfl⟩, st', fun b hb => (hf b hb).1⟩⟩
  done := by
    intro X hP hw hK hc i pins s σ H E I hf st hg
    subst hP hw hK
    obtain ⟨hd, hi⟩ := hg
    obtain ⟨f0, f1, f2, f3, f4, f5⟩ := hf it (by simp)
    obtain ⟨hs, hgd, hx, es', ep', hdt, hsz, ent⟩ := I.frzX hd
    obtain ⟨rfl, rfl⟩ := dict_ep hod hdt
    exact next_key_end (I.ok.hd hc) st hgd hdt hsz hi fun h' eb => ⟨rfl, I.turned (t' := s.toks) (fun b ob hb e => eb b ob hb e) f0 f1 f3 f4 f5⟩
  self := fun A i s Q E st h => wpAny_pyIter_keyiter st h
theorem walk_keysX {as : List Addr} {kvs : List (List Key × V)} : Walk (Itx w d o as kvs) as.length (fun H => H d = some (.frz o (DX w d as kvs))) (fun i H x H' => H' = H ∧ ∃ b, as[i]? = some b ∧ x = .ref b) :=
  ⟨fun _ _ hi q => ⟨q, hi⟩, fun _ q => ⟨q, Nat.le_refl _⟩, fun _ _ _ _ _ _ y => y⟩
def iKeysXt (w : World) (td : TE) : TI := fun σ H R => td σ H fun x H1 => ∃ d o as kvs, x = .ref d ∧ H1 d = some (.frz o (DX w d as kvs)) ∧ R (Itx w d o as kvs) H1
end
section
variable {X : Cx} {tg e : Expr} {td : TE}
/-- for k in d, d locked -/
theorem pi_keysXt {w : World} (hw : X.w = w) (he : PE X e td) : PI X tg e (iKeysXt w td) := by
  subst hw
  refine ⟨fun pins s σ H R I h => ?_⟩
  refine thn (he.run pins s σ H _ I h) fun u s1 ⟨x, H1, I1, rx, d, o, as, kvs, ex, hd, q⟩ => ?_
  subst ex
  obtain rfl : u = Value.ref d := rx
  obtain ⟨hs, hgd, hx, es, ep, hdt, hsz, ent⟩ := I1.frzX hd
  refine iter_keys hs hgd hx hdt (pi_one (tk := s1.toks) I1 _ (turn_keysX _ hdt) ⟨_, Heap.get?_push_size _ rfl, rfl, ?_⟩ q)
  rw [hsz] <;> rfl
end
end L2
set_option Elab.async false
set_option linter.all false
set_option maxRecDepth 100000
set_option maxHeartbeats 8000000
set_option pp.maxSteps 900
/-! Places as tuples of two texts; the small functions of meetings. -/
namespace V8
open PySem PySem.Spec PyProof.Rows L2 MZ
variable {K : PySem.W.Frag} {ω : World}
abbrev s_other_side : Stmt := topS 45
theorem sc_other_side : FnScope ["side"] ["side"] (defScope s_other_side) := ⟨rfl, rfl, rfl, by decide +kernel, rfl, by decide +kernel, by decide +kernel⟩
abbrev s_place_behind : Stmt := topS 46
theorem sc_place_behind : FnScope ["ahead", "rest", "word"] ["ahead", "rest", "word"] (defScope s_place_behind) := ⟨rfl, rfl, rfl, by decide +kernel, rfl, by decide +kernel, by decide +kernel⟩
abbrev s_moves_from : Stmt := topS 47
abbrev n_moves_from : List Str := ["first", "second", "place", "ahead", "rest", "taker", "pairs", "tried", "word", "label", "move"]
theorem sc_moves_from : FnScope ["first", "second", "place", "ahead", "rest", "taker", "pairs", "tried", "word", "label", "move"] ["first", "second", "place"] (defScope s_moves_from) := ⟨rfl, rfl, rfl, by decide +kernel, rfl, by decide +kernel, by decide +kernel⟩
abbrev s_with_label : Stmt := topS 51
theorem sc_with_label : FnScope ["way", "taker", "label", "one", "other"] ["way", "taker", "label"] (defScope s_with_label) := ⟨rfl, rfl, rfl, by decide +kernel, rfl, by decide +kernel, by decide +kernel⟩
abbrev s_lead_of : Stmt := topS 53
theorem sc_lead_of : FnScope ["way", "one", "other"] ["way"] (defScope s_lead_of) := ⟨rfl, rfl, rfl, by decide +kernel, rfl, by decide +kernel, by decide +kernel⟩
/-! ### texts -/
theorem starts_Sx (a b : List Nat) : Txt.startswith (Sx a) (Sx b) = b.isPrefixOf a := by
  unfold Txt.startswith
  rw [PySem.StrLaws.subAt_eq, Sx_len, Sx_len]
  have e : ∀ x : List Nat, (Sx x).cps.toList = x := fun x => by show x.toArray.toList = x; simp
  rw [e, e, List.drop_zero, Bool.eq_iff_iff, Bool.and_eq_true, decide_eq_true_iff, beq_iff_eq, List.isPrefixOf_iff_prefix]
  constructor
  · rintro ⟨_, h⟩
    rw [← h]
    exact List.take_prefix _ _
  · rintro ⟨z, rfl⟩
    exact ⟨by rw [List.length_append]; omega, List.take_left⟩
theorem cut_Sx (a : List Nat) (k : Nat) (h : k ≤ a.length) : cutS (Sx a) (some ((k : Nat) : Int)) none = Sx (a.drop k) := by
  unfold cutS
  rw [HT.sIx_none, HT.sIx_nat, Sx_len, Nat.min_eq_left h]
  have e : (Sx a).cps.toList = a := by show a.toArray.toList = a; simp
  rw [e]
  show Str.mk _ = Str.mk _
  congr 2
  rw [List.take_of_length_le]
  rw [List.length_drop]
  omega
theorem Sx_app (a b : List Nat) : Sx a ++ Sx b = Sx (a ++ b) := by
  show Str.mk (a.toArray ++ b.toArray) = Str.mk (a ++ b).toArray
  simp
theorem Sx_eq (a b : List Nat) : decide (V.str (Sx a) = V.str (Sx b)) = decide (a = b) := decide_eq_decide.mpr ⟨fun e => Sx_inj (V.str.inj e), fun e => by rw [e]⟩
/-! ### places -/
def sideS (b : Bool) : Str := if b = true then "one" else "two"
def plS : Pl → Str × Str
  | .start => ("start", "")
  | .fin => ("end", "")
  | .rest a r => (sideS a, Sx r)
def plV (p : Pl) : List V := [.str (plS p).1, .str (plS p).2]
def plK (p : Pl) : List Key := [Sum.inr (plS p).1, Sum.inr (plS p).2]
theorem side_inj {a b : Bool} (h : sideS a = sideS b) : a = b := by
  cases a <;> cases b
  · rfl
  · exact absurd h (by decide +kernel)
  · exact absurd h (by decide +kernel)
  · rfl
theorem plS_inj {p q : Pl} (h : plS p = plS q) : p = q := by
  have h1 := congrArg Prod.fst h
  have h2 := congrArg Prod.snd h
  have ns : ∀ a : Bool, sideS a ≠ "start" ∧ sideS a ≠ "end" := fun a => by cases a <;> exact ⟨by decide +kernel, by decide +kernel⟩
  cases p with
  | start =>
    cases q with
    | start => rfl
    | fin => exact absurd (show ("start" : Str) = "end" from h1) (by decide +kernel)
    | rest a r => exact absurd (show ("start" : Str) = sideS a from h1).symm (ns a).1
  | fin =>
    cases q with
    | start => exact absurd (show ("end" : Str) = "start" from h1) (by decide +kernel)
    | fin => rfl
    | rest a r => exact absurd (show ("end" : Str) = sideS a from h1).symm (ns a).2
  | rest a r =>
    cases q with
    | start => exact absurd (show sideS a = "start" from h1) (ns a).1
    | fin => exact absurd (show sideS a = "end" from h1) (ns a).2
    | rest b s =>
      rw [side_inj (show sideS a = sideS b from h1), Sx_inj (show Sx r = Sx s from h2)]
theorem plK_inj {p q : Pl} (h : plK p = plK q) : p = q := by
  unfold plK at h
  injection h with h1 h2
  injection h2 with h2 _
  exact plS_inj (Prod.ext (Sum.inr.inj h1) (Sum.inr.inj h2))
/-- what keeps a tuple -/
theorem sq_mono {K : PySem.W.Frag} {H H' : Hp} {b : Addr} {xs : List V} (h : SqT K H b xs) (k : ∀ o, H b = some o → (o = .tup xs ∨ ∃ od, o = .frz od (.tup xs)) → H' b = some o) : SqT K H' b xs := by
  rcases h with (h | ⟨od, h⟩) | h
  · exact .inl (.inl (k _ h (.inl rfl)))
  · exact .inl (.inr ⟨od, k _ h (.inr ⟨od, rfl⟩)⟩)
  · exact .inr h
theorem sq_same {K : PySem.W.Frag} {H H' : Hp} {b : Addr} {xs : List V} (h : SqT K H b xs) (s : Same H H') : SqT K H' b xs := sq_mono h fun o e _ => s _ _ e
theorem sq_ne {K : PySem.W.Frag} {H : Hp} {b D : Addr} {xs : List V} {o u : HO} (h : SqT K H b xs) (hD : H D = some u) (n : u ≠ .tup xs) (n2 : ∀ od, u ≠ .frz od (.tup xs)) : SqT K (upd H D o) b xs := sq_mono h fun v e z => by
  rw [upd_ne fun q => ?_]
  · exact e
  · rw [q, hD] at e
    cases e
    rcases z with z | ⟨od, z⟩
    · exact n z
    · exact n2 od z
theorem sq_lst {K : PySem.W.Frag} {H : Hp} {b D : Addr} {xs ys : List V} {o : HO} (h : SqT K H b xs) (hD : H D = some (.lst ys)) : SqT K (upd H D o) b xs := sq_ne h hD (fun z => nomatch z) (fun _ z => nomatch z)
theorem sq_dx {K : PySem.W.Frag} {ω : World} {H : Hp} {b D : Addr} {xs : List V} {as : List Addr} {kvs : List (List Key × V)} {o : HO} (h : SqT K H b xs) (hD : H D = some (DX ω D as kvs)) : SqT K (upd H D o) b xs := sq_ne h hD (fun z => nomatch z) (fun _ z => nomatch z)
/-- the tuples that the text itself keeps -/
structure CnH (K : PySem.W.Frag) (aS aE aV : Addr) (H : Hp) : Prop where
  st : SqT K H aS (plV .start)
  en : SqT K H aE (plV .fin)
  ev : SqT K H aV [.str (sideS true), .str (Sx [])]
theorem CnH.same {aS aE aV : Addr} {H H' : Hp} (c : CnH K aS aE aV H) (s : Same H H') : CnH K aS aE aV H' := ⟨sq_same c.st s, sq_same c.en s, sq_same c.ev s⟩
structure Tm (mg : Str → Option Value) (aS aE aV : Addr) : Prop extends Blt mg where
  gSTART : GV mg "START" (.ref aS)
  gEND : GV mg "END" (.ref aE)
  gEVEN : GV mg "EVEN" (.ref aV)
  any : mg "any" = none
def spOther : Sp := fun vs H Q _ => ∃ a : Bool, vs = [.str (sideS a)] ∧ Q (.str (sideS (!a))) H
/-- where a word leads, as a value -/
def PlO (K : PySem.W.Frag) (H : Hp) (v : V) : Option Pl → Prop
  | none => v = .non
  | some p => ∃ b, v = .ref b ∧ SqT K H b (plV p)
def spBehind (K : PySem.W.Frag) (aS aE aV : Addr) : Sp := fun vs H Q _ => ∃ (a : Bool) (r w : Wd), vs = [.str (sideS a), .str (Sx r), .str (Sx w)] ∧ CnH K aS aE aV H ∧ r.length ≤ 9 ∧ w.length ≤ 9 ∧ ∀ v H', Same H H' → PlO K H' v (behind a r w) → Q v H'
/-- the labels of both rows, as a tuple -/
def WyT (H : Hp) (b : Addr) (w : List Nat × List Nat) : Prop := H b = some (.tup [.str (Sx w.1), .str (Sx w.2)])
def spLabel : Sp := fun vs H Q _ => ∃ (b : Addr) (w : List Nat × List Nat) (t : Bool) (l : Nat), vs = [.ref b, .str (sideS t), .str (L1 l)] ∧ WyT H b w ∧ w.1.length ≤ 2000 ∧ w.2.length ≤ 2000 ∧ ∀ c H', Same H H' → WyT H' c (put t l w) → Q (.ref c) H'
def LdO (K : PySem.W.Frag) (H : Hp) (v : V) : Option (Bool × List Nat) → Prop
  | none => v = .non
  | some k => ∃ b, v = .ref b ∧ SqT K H b [.str (sideS k.1), .str (Sx k.2)]
def spLead (K : PySem.W.Frag) : Sp := fun vs H Q _ => ∃ (b : Addr) (w : List Nat × List Nat), vs = [.ref b] ∧ WyT H b w ∧ w.1.length ≤ 2000 ∧ w.2.length ≤ 2000 ∧ ∀ v H', Same H H' → LdO K H' v (lead w) → Q v H'
section
variable {P : Program} {w : World} {K : PySem.W.Frag} {mg : Str → Option Value} {base : Heap} {aS aE aV : Addr}
theorem ok_other {f : Addr} {fd : FuncData} (F : Fun K "other_side" "other_side" s_other_side f fd) (T : Tm mg aS aE aV) : FnOk P w K mg base CX0 1 f fd ["side"] spOther := by
  refine F.ok sc_other_side (fun vs H Q E h => ?_) (fun cdv A outer s H vs Q E hr h => ?_)
  · obtain ⟨a, rfl, _⟩ := h
    rfl
  · obtain ⟨a, rfl, q⟩ := h
    refine ⟨_, (pss_one (ps_ret (pe_ifExp (pt_cmpR op_eq (pv 0) pe_str (nomark _)) pe_str pe_str))), ?_⟩
    cases a with
    | true =>
      refine ⟨_, rfl, rfl, _, rfl, ?_⟩
      rw [decide_eq_true (show V.str (sideS true) = V.str "one" from rfl)]
      exact iteT q
    | false =>
      refine ⟨_, rfl, rfl, _, rfl, ?_⟩
      rw [decide_eq_false (show ¬ V.str (sideS false) = V.str "one" from fun e => nomatch side_inj (V.str.inj e : sideS false = sideS true))]
      exact iteF q
theorem ok_behind {f : Addr} {fd : FuncData} (F : Fun K "place_behind" "place_behind" s_place_behind f fd) (T : Tm mg aS aE aV) (D_other_side : Df P w K mg base 1 "other_side" spOther) : FnOk P w K mg base CX0 2 f fd ["ahead", "rest", "word"] (spBehind K aS aE aV) := by
  refine F.ok sc_place_behind (fun vs H Q E h => ?_) (fun cdv A outer s H vs Q E hr h => ?_)
  · obtain ⟨a, r, w, rfl, _⟩ := h
    rfl
  · obtain ⟨a, r, w, rfl, cn, hr9, hw9, q⟩ := h
    refine ⟨_, (pss_cons (ps_if (pt_cmpR op_eq (pv 2) (pv 1) (nomark _))
        (pss_one (ps_ret (pe_gv T.gEND (by rfl))))
        pss_nil)
      (pss_cons (ps_if (pt_truth (pe_bmK (K := K) rfl PySem.F.plainAttrs_str PySem.F.slot_str_startswith PySem.F.type_str_startswith mt_startswith (pv 1) (pa_cons (pv 2) pa_nil)) (by intro _; rfl))
        (pss_one (ps_ret (pe_tup (pa_cons (pv 0) (pa_cons (pe_slice sl_str (pv 1) (po_some (pe_callB call_len_str (by rfl) T.len (by decide +kernel) (pa_cons (pv 2) pa_nil))) po_none) pa_nil)))))
        pss_nil)
      (pss_cons (ps_if (pt_truth (pe_bmK (K := K) rfl PySem.F.plainAttrs_str PySem.F.slot_str_startswith PySem.F.type_str_startswith mt_startswith (pv 2) (pa_cons (pv 1) pa_nil)) (by intro _; rfl))
        (pss_one (ps_ret (pe_tup (pa_cons (pe_c D_other_side hr (by decide) (by rfl) (pa_cons (pv 0) pa_nil)) (pa_cons (pe_slice sl_str (pv 2) (po_some (pe_callB call_len_str (by rfl) T.len (by decide +kernel) (pa_cons (pv 1) pa_nil))) po_none) pa_nil)))))
        pss_nil)
      (pss_one (ps_ret pe_non))))), ?_⟩
    unfold behind at q
    refine ⟨_, rfl, _, rfl, rfl, _, rfl, ?_⟩
    rw [Sx_eq]
    by_cases e : w = r
    · rw [if_pos e] at q
      rw [decide_eq_true e]
      exact iteT (q _ H (Same.refl H) ⟨aE, rfl, cn.en⟩)
    rw [if_neg e] at q
    rw [decide_eq_false e]
    refine iteF ?_
    refine ⟨_, rfl, rfl, _, rfl, _, _, rfl, rfl, _, rfl, ?_⟩
    rw [starts_Sx]
    cases e1 : w.isPrefixOf r with
    | true =>
      rw [if_pos e1] at q
      have lw : w.length ≤ r.length := (List.isPrefixOf_iff_prefix.mp e1).length_le
      refine iteT ⟨_, rfl, _, rfl, _, rfl, Sx w, rfl, by rw [Sx_len, sizeLine_eq]; omega, _, rfl, _, rfl, by rw [Sx_len, sizeLine_eq]; omega, by show 2 ≤ sizeLine; decide, fun b nb => ?_⟩
      rw [Sx_len, cut_Sx r w.length lw]
      exact q _ _ (same_put (s := Same.refl H) nb) ⟨b, rfl, SqT.of upd_same⟩
    | false =>
      rw [if_neg (by rw [e1]; decide)] at q
      refine iteF ?_
      refine ⟨_, rfl, rfl, _, rfl, _, _, rfl, rfl, _, rfl, ?_⟩
      rw [starts_Sx]
      cases e2 : r.isPrefixOf w with
      | true =>
        rw [if_pos e2] at q
        have lw : r.length ≤ w.length := (List.isPrefixOf_iff_prefix.mp e2).length_le
        refine iteT ⟨_, rfl, a, rfl, _, rfl, _, rfl, Sx r, rfl, by rw [Sx_len, sizeLine_eq]; omega, _, rfl, _, rfl, by rw [Sx_len, sizeLine_eq]; omega, by show 2 ≤ sizeLine; decide, fun b nb => ?_⟩
        rw [Sx_len, cut_Sx w r.length lw]
        exact q _ _ (same_put (s := Same.refl H) nb) ⟨b, rfl, SqT.of upd_same⟩
      | false =>
        rw [if_neg (by rw [e2]; decide)] at q
        exact iteF (q _ H (Same.refl H) rfl)
theorem ok_with_label {f : Addr} {fd : FuncData} (F : Fun K "with_label" "with_label" s_with_label f fd) (T : Tm mg aS aE aV) : FnOk P w K mg base CX0 1 f fd ["way", "taker", "label"] spLabel := by
  refine F.ok sc_with_label (fun vs H Q E h => ?_) (fun cdv A outer s H vs Q E hr h => ?_)
  · obtain ⟨b, y, t, l, rfl, _⟩ := h
    rfl
  · obtain ⟨b, y, t, l, rfl, hb, l1, l2, q⟩ := h
    refine ⟨_, (pss_cons (ps_asg (pv 0) (pg_tup (by rfl) (pgs_cons (pg_name (i := 3) sc_with_label.nd rfl (.inl rfl)) (pgs_cons (pg_name (i := 4) sc_with_label.nd rfl (.inl rfl)) pgs_nil))))
      (pss_one (ps_ret (pe_ifExp (pt_cmpR op_eq (pv 1) pe_str (nomark _)) (pe_tup (pa_cons (pe_op op_add_str (pv 3) (pv 2)) (pa_cons (pv 4) pa_nil))) (pe_tup (pa_cons (pv 3) (pa_cons (pe_op op_add_str (pv 4) (pv 2)) pa_nil))))))), ?_⟩
    refine ⟨_, rfl, b, _, rfl, .inl (.inl hb), rfl, _, _, rfl, _, _, rfl, rfl, ?_⟩
    refine ⟨_, rfl, rfl, _, rfl, ?_⟩
    have e1 : (L1 l) = Sx [l] := rfl
    cases t with
    | true =>
      rw [decide_eq_true (show V.str (sideS true) = V.str "one" from rfl)]
      refine iteT ⟨_, rfl, _, rfl, _, _, rfl, rfl, by rw [Sx_len, sizeLine_eq]; show _ + 1 ≤ _; omega, _, rfl, by show 2 ≤ sizeLine; decide, fun c nc => ?_⟩
      rw [e1, Sx_app]
      exact q _ _ (same_put (s := Same.refl H) nc) upd_same
    | false =>
      rw [decide_eq_false (show ¬ V.str (sideS false) = V.str "one" from fun e => nomatch side_inj (V.str.inj e : sideS false = sideS true))]
      refine iteF ⟨_, rfl, _, rfl, _, rfl, _, _, rfl, rfl, by rw [Sx_len, sizeLine_eq]; show _ + 1 ≤ _; omega, by show 2 ≤ sizeLine; decide, fun c nc => ?_⟩
      rw [e1, Sx_app]
      exact q _ _ (same_put (s := Same.refl H) nc) upd_same
theorem ok_lead_of {f : Addr} {fd : FuncData} (F : Fun K "lead_of" "lead_of" s_lead_of f fd) (T : Tm mg aS aE aV) : FnOk P w K mg base CX0 1 f fd ["way"] (spLead K) := by
  refine F.ok sc_lead_of (fun vs H Q E h => ?_) (fun cdv A outer s H vs Q E hr h => ?_)
  · obtain ⟨b, y, rfl, _⟩ := h
    rfl
  · obtain ⟨b, y, rfl, hb, l1, l2, q⟩ := h
    refine ⟨_, (pss_cons (ps_asg (pv 0) (pg_tup (by rfl) (pgs_cons (pg_name (i := 1) sc_lead_of.nd rfl (.inl rfl)) (pgs_cons (pg_name (i := 2) sc_lead_of.nd rfl (.inl rfl)) pgs_nil))))
      (pss_cons (ps_if (pt_truth (pe_bmK (K := K) rfl PySem.F.plainAttrs_str PySem.F.slot_str_startswith PySem.F.type_str_startswith mt_startswith (pv 1) (pa_cons (pv 2) pa_nil)) (by intro _; rfl))
        (pss_one (ps_ret (pe_tup (pa_cons pe_str (pa_cons (pe_slice sl_str (pv 1) (po_some (pe_callB call_len_str (by rfl) T.len (by decide +kernel) (pa_cons (pv 2) pa_nil))) po_none) pa_nil)))))
        pss_nil)
      (pss_cons (ps_if (pt_truth (pe_bmK (K := K) rfl PySem.F.plainAttrs_str PySem.F.slot_str_startswith PySem.F.type_str_startswith mt_startswith (pv 2) (pa_cons (pv 1) pa_nil)) (by intro _; rfl))
        (pss_one (ps_ret (pe_tup (pa_cons pe_str (pa_cons (pe_slice sl_str (pv 2) (po_some (pe_callB call_len_str (by rfl) T.len (by decide +kernel) (pa_cons (pv 1) pa_nil))) po_none) pa_nil)))))
        pss_nil)
      (pss_one (ps_ret pe_non))))), ?_⟩
    unfold lead at q
    refine ⟨_, rfl, b, _, rfl, .inl (.inl hb), rfl, _, _, rfl, _, _, rfl, rfl, ?_⟩
    refine ⟨_, rfl, rfl, _, rfl, _, _, rfl, rfl, _, rfl, ?_⟩
    rw [starts_Sx]
    cases e1 : y.2.isPrefixOf y.1 with
    | true =>
      rw [if_pos e1] at q
      have lw : y.2.length ≤ y.1.length := (List.isPrefixOf_iff_prefix.mp e1).length_le
      refine iteT ⟨_, rfl, _, rfl, Sx y.2, rfl, by rw [Sx_len, sizeLine_eq]; omega, _, rfl, _, rfl, by rw [Sx_len, sizeLine_eq]; omega, by show 2 ≤ sizeLine; decide, fun c nc => ?_⟩
      rw [Sx_len, cut_Sx _ _ lw]
      exact q _ _ (same_put (s := Same.refl H) nc) ⟨c, rfl, SqT.of upd_same⟩
    | false =>
      rw [if_neg (by rw [e1]; decide)] at q
      refine iteF ?_
      refine ⟨_, rfl, rfl, _, rfl, _, _, rfl, rfl, _, rfl, ?_⟩
      rw [starts_Sx]
      cases e2 : y.1.isPrefixOf y.2 with
      | true =>
        rw [if_pos e2] at q
        have lw : y.1.length ≤ y.2.length := (List.isPrefixOf_iff_prefix.mp e2).length_le
        refine iteT ⟨_, rfl, _, rfl, Sx y.1, rfl, by rw [Sx_len, sizeLine_eq]; omega, _, rfl, _, rfl, by rw [Sx_len, sizeLine_eq]; omega, by show 2 ≤ sizeLine; decide, fun c nc => ?_⟩
        rw [Sx_len, cut_Sx _ _ lw]
        exact q _ _ (same_put (s := Same.refl H) nc) ⟨c, rfl, SqT.of upd_same⟩
      | false =>
        rw [if_neg (by rw [e2]; decide)] at q
        exact iteF (q _ H (Same.refl H) rfl)
end
end V8
set_option Elab.async false
set_option linter.all false
set_option maxRecDepth 100000
set_option maxHeartbeats 8000000
set_option pp.maxSteps 900
/-! The steps from a place. -/
namespace V8
open PySem PySem.Spec PyProof.Rows L2 MZ
variable {K : PySem.W.Frag} {ω : World}
theorem via {t : TE} {σ : L2.St} {H : Hp} {R : VK} (A : V → Hp → Prop) (h1 : ∀ R' : VK, (∀ v H', A v H' → R' v H') → t σ H R') (h2 : ∀ v H', A v H' → R v H') : t σ H R := h1 R h2
def PlOk : Pl → Prop
  | .rest _ r => r.length ≤ 9 ∧ ∀ c ∈ r, isLt c
  | _ => True
def PrOk (P : List Pr) : Prop := P.length ≤ 30 ∧ ∀ q ∈ P, q.1.length ≤ 9 ∧ ∀ c ∈ q.1, isLt c
def MoT (K : PySem.W.Frag) (H : Hp) (v : V) (m : Mo) : Prop := ∃ c b, v = .ref c ∧ H c = some (.tup [.str (sideS m.1), .str (L1 m.2.1), .ref b]) ∧ SqT K H b (plV m.2.2)
def MoL (K : PySem.W.Frag) (H : Hp) (v : V) (ms : List Mo) : Prop := ∃ d xs, v = .ref d ∧ H d = some (.lst xs) ∧ Paired (MoT K H) xs ms
def PrT (H : Hp) (v : V) (q : Pr) : Prop := ∃ c, v = .ref c ∧ H c = some (.tup [.str (Sx q.1), .str (L1 q.2)])
def PrL (H : Hp) (a : Addr) (P : List Pr) : Prop := ∃ xs, H a = some (.lst xs) ∧ Paired (PrT H) xs P
theorem MoT.same {H H' : Hp} {v : V} {m : Mo} (h : MoT K H v m) (s : Same H H') : MoT K H' v m := by
  obtain ⟨c, b, e, h1, h2⟩ := h
  exact ⟨c, b, e, s _ _ h1, sq_same h2 s⟩
theorem PrT.same {H H' : Hp} {v : V} {q : Pr} (h : PrT H v q) (s : Same H H') : PrT H' v q := by
  obtain ⟨c, e, h1⟩ := h
  exact ⟨c, e, s _ _ h1⟩
theorem prd_imp {α β : Type} {R S : α → β → Prop} {xs : List α} {ys : List β} (h : Paired R xs ys) (i : ∀ x y, R x y → S x y) : Paired S xs ys := by
  induction h with
  | nil => exact .nil
  | cons r _ ih => exact .cons (i _ _ r) ih
theorem prd_at {α β : Type} {R : α → β → Prop} {xs : List α} {ys : List β} (h : Paired R xs ys) {i : Nat} {x : α} (e : xs[i]? = some x) : ∃ y, ys[i]? = some y ∧ R x y := by
  induction h generalizing i with
  | nil => simp at e
  | @cons a b l m r _ ih =>
    cases i with
    | zero =>
      rw [List.getElem?_cons_zero] at e ⊢
      exact ⟨b, rfl, Option.some.inj e ▸ r⟩
    | succ j =>
      rw [List.getElem?_cons_succ] at e ⊢
      exact ih e
theorem prd_len {α β : Type} {R : α → β → Prop} {xs : List α} {ys : List β} (h : Paired R xs ys) : xs.length = ys.length := Paired.length h
theorem PrL.same {H H' : Hp} {a : Addr} {P : List Pr} (h : PrL H a P) (s : Same H H') : PrL H' a P := by
  obtain ⟨xs, h1, h2⟩ := h
  exact ⟨xs, s _ _ h1, prd_imp h2 fun _ _ r => r.same s⟩
theorem shaped_of {d : PyData} (h : d.canLay0 = true) (h2 : d.depth ≤ 64) : SeqAt.shaped d = true := by
  show (d.canLay0 && decide (d.depth ≤ 64)) = true
  rw [h, decide_eq_true h2]
  rfl
theorem MoT.put {H : Hp} {v : V} {m : Mo} {D : Addr} {ys : List V} {o : HO} (h : MoT K H v m) (hD : H D = some (.lst ys)) : MoT K (upd H D o) v m := by
  obtain ⟨c, b, e, h1, h2⟩ := h
  exact ⟨c, b, e, by rw [upd_ne (ne_of h1 hD (fun z => nomatch z))]; exact h1, sq_lst h2 hD⟩
/-- tried: who takes, the label, and where to, or None -/
def TrT (K : PySem.W.Frag) (a : Bool) (r : Wd) (H : Hp) (v : V) (q : Pr) : Prop := ∃ c z, v = .ref c ∧ H c = some (.tup [.str (sideS (!a)), .str (L1 q.2), z]) ∧ PlO K H z (behind a r q.1)
theorem PlO.same {H H' : Hp} {v : V} {o : Option Pl} (h : PlO K H v o) (s : Same H H') : PlO K H' v o := by
  cases o with
  | none => exact h
  | some p =>
    obtain ⟨b, e, h1⟩ := h
    exact ⟨b, e, sq_same h1 s⟩
theorem PlO.put {H : Hp} {v : V} {q : Option Pl} {D : Addr} {ys : List V} {o : HO} (h : PlO K H v q) (hD : H D = some (.lst ys)) : PlO K (upd H D o) v q := by
  cases q with
  | none => exact h
  | some p =>
    obtain ⟨b, e, h1⟩ := h
    exact ⟨b, e, sq_lst h1 hD⟩
theorem TrT.same {a : Bool} {r : Wd} {H H' : Hp} {v : V} {q : Pr} (h : TrT K a r H v q) (s : Same H H') : TrT K a r H' v q := by
  obtain ⟨c, z, e, h1, h2⟩ := h
  exact ⟨c, z, e, s _ _ h1, h2.same s⟩
theorem TrT.put {a : Bool} {r : Wd} {H : Hp} {v : V} {q : Pr} {D : Addr} {ys : List V} {o : HO} (h : TrT K a r H v q) (hD : H D = some (.lst ys)) : TrT K a r (upd H D o) v q := by
  obtain ⟨c, z, e, h1, h2⟩ := h
  exact ⟨c, z, e, by rw [upd_ne (ne_of h1 hD (fun z => nomatch z))]; exact h1, h2.put hD⟩
def plD (p : Pl) : PyData := .tuple [.str (plS p).1, .str (plS p).2]
theorem pl_shaped {p : Pl} (h : PlOk p) : SeqAt.shaped (plD p) = true := by
  have ok : PyData.strOk (plS p).1 = true ∧ PyData.strOk (plS p).2 = true := by
    cases p with
    | start => exact ⟨by decide +kernel, by decide +kernel⟩
    | fin => exact ⟨by decide +kernel, by decide +kernel⟩
    | rest a r =>
      refine ⟨?_, ok_sx h.2⟩
      cases a with
      | true => exact (show PyData.strOk (sideS true) = true by decide +kernel)
      | false => exact (show PyData.strOk (sideS false) = true by decide +kernel)
  refine shaped_of (by simp only [plD, PyData.canLay0, PyData.canLayAll0, ok.1, ok.2]; rfl) ?_
  simp [plD, PyData.depth, PyData.depthAll]
theorem pl_eqv (p q : Pl) : PyData.eqv (plD p) (plD q) = decide (p = q) := by
  show (PyData.eqv (.str (plS p).1) (.str (plS q).1) && (PyData.eqv (.str (plS p).2) (.str (plS q).2) && true)) = _
  show (decide ((plS p).1 = (plS q).1) && (decide ((plS p).2 = (plS q).2) && true)) = _
  rw [Bool.and_true, Bool.eq_iff_iff, Bool.and_eq_true, decide_eq_true_iff, decide_eq_true_iff, decide_eq_true_iff]
  exact ⟨fun h => plS_inj (Prod.ext h.1 h.2), fun h => by rw [h]; exact ⟨rfl, rfl⟩⟩
theorem pl_dp {K : PySem.W.Frag} {H : Hp} {b : Addr} {p : Pl} (h : SqT K H b (plV p)) : Dp K H (.ref b) (plD p) := .tup h (.cons (.str _) (.cons (.str _) .nil))
def spMoves (K : PySem.W.Frag) (aS aE aV : Addr) : Sp := fun vs H Q _ => ∃ (f1 f2 b : Addr) (P S : List Pr) (p : Pl), vs = [.ref f1, .ref f2, .ref b] ∧ PrL H f1 P ∧ PrL H f2 S ∧ SqT K H b (plV p) ∧ CnH K aS aE aV H ∧ PlOk p ∧ PrOk P ∧ PrOk S ∧
  ∀ v H', Same H H' → MoL K H' v (moves P S p) → (∃ d, v = .ref d ∧ H d = none) → Q v H'
section
variable {P : Program} {w : World} {K : PySem.W.Frag} {mg : Str → Option Value} {base : Heap} {aS aE aV : Addr}
theorem ok_moves {f : Addr} {fd : FuncData} (F : Fun K "moves_from" "moves_from" s_moves_from f fd) (T : Tm mg aS aE aV) (D_other_side : Df P w K mg base 1 "other_side" spOther) (D_place_behind : Df P w K mg base 2 "place_behind" (spBehind K aS aE aV)) : FnOk P w K mg base CX0 3 f fd ["first", "second", "place"] (spMoves K aS aE aV) := by
  refine F.ok sc_moves_from (fun vs H Q E h => ?_) (fun cdv A outer s H vs Q E hr h => ?_)
  · obtain ⟨f1, f2, b, P, S, p, rfl, _⟩ := h
    rfl
  · obtain ⟨f1, f2, b, P1, S1, p, rfl, hP, hS, hb, cn, po, okP, okS, q⟩ := h
    refine ⟨_, (pss_cons (ps_if (pt_cmpR (op_eqDK (K := K) rfl hr.units) (pv 2) (pe_gv T.gEND (by rfl)) (nomark _))
        (pss_one (ps_ret (pe_lst pa_nil)))
        pss_nil)
      (pss_cons (ps_if (pt_cmpR (op_eqDK (K := K) rfl hr.units) (pv 2) (pe_gv T.gSTART (by rfl)) (nomark _))
        (pss_one (ps_ret (pe_lc (own := [("word", 8), ("label", 9)]) (g := gTup K 2 (gCons (gName 8) (gCons (gName 9) gNil))) (by rfl) sc_moves_from.nd (pi_list (pv 0)) (blkOk_by (own := [("word", 8), ("label", 9)]) (N := n_moves_from) (sc := defScope s_moves_from) (by decide +kernel)) (fun _ _ _ _ _ => (pg_tup (by rfl) (pgs_cons (pg_name (i := 8) sc_moves_from.nd rfl (.inl rfl)) (pgs_cons (pg_name (i := 9) sc_moves_from.nd rfl (.inl rfl)) pgs_nil)))) (fun _ _ _ _ _ => pts_nil) (fun _ _ _ _ _ => (pe_tup (pa_cons pe_str (pa_cons (pv 9) (pa_cons (pe_tup (pa_cons pe_str (pa_cons (pv 8) pa_nil))) pa_nil))))))))
        pss_nil)
      (pss_cons (ps_asg (pv 2) (pg_tup (by rfl) (pgs_cons (pg_name (i := 3) sc_moves_from.nd rfl (.inr rfl)) (pgs_cons (pg_name (i := 4) sc_moves_from.nd rfl (.inr rfl)) pgs_nil))))
      (pss_cons (ps_set (i := 5) sc_moves_from.nd rfl (.inr rfl) (pe_c D_other_side hr (by decide) (by rfl) (pa_cons (pv 3) pa_nil)))
      (pss_cons (ps_set (i := 6) sc_moves_from.nd rfl (.inl rfl) (pe_ifExp (pt_cmpR op_eq (pv 5) pe_str (nomark _)) (pv 0) (pv 1)))
      (pss_cons (ps_setLc (i := 7) (own := [("word", 8), ("label", 9)]) (g := gTup K 2 (gCons (gName 8) (gCons (gName 9) gNil))) (by rfl) sc_moves_from.nd rfl rfl (sw_true rfl rfl rfl (by decide +kernel)) (pi_list (pv 6)) (blkOk_by (own := [("word", 8), ("label", 9)]) (N := n_moves_from) (sc := defScope s_moves_from) (by decide +kernel)) (fun _ _ _ _ _ => (pg_tup (by rfl) (pgs_cons (pg_name (i := 8) sc_moves_from.nd rfl (.inl rfl)) (pgs_cons (pg_name (i := 9) sc_moves_from.nd rfl (.inl rfl)) pgs_nil)))) (fun _ _ _ _ _ => pts_nil) (fun _ _ _ _ _ => (pe_tup (pa_cons (pv 5) (pa_cons (pv 9) (pa_cons (pe_c D_place_behind hr (by decide) (by rfl) (pa_cons (pv 3) (pa_cons (pv 4) (pa_cons (pv 8) pa_nil)))) pa_nil))))))
      (pss_one (ps_ret (pe_lc (own := [("move", 10)]) (g := gName 10) (by rfl) sc_moves_from.nd (pi_list (pv 7)) (blkOk_by (own := [("move", 10)]) (N := n_moves_from) (sc := defScope s_moves_from) (by decide +kernel)) (fun _ _ _ _ _ => (pg_name (i := 10) sc_moves_from.nd rfl (.inl rfl))) (fun _ _ _ _ _ => (pts_one (pt_cmpR op_notN (pe_ix (ix_tupK (K := K) rfl) (pv 10) pe_int (fun _ _ => rfl)) pe_non (nomark _)))) (fun _ _ _ _ _ => (pv 10))))))))))), ?_⟩
    refine ⟨_, rfl, plD p, plD .fin, pl_dp hb, pl_dp cn.en, pl_shaped po, pl_shaped True.intro, _, rfl, ?_⟩
    rw [pl_eqv]
    by_cases e : p = .fin
    · subst e
      rw [decide_eq_true rfl]
      refine iteT ⟨Nat.zero_le _, fun d nd => ?_⟩
      exact q _ _ (same_put (s := Same.refl H) nd) ⟨d, [], rfl, upd_same, .nil⟩ ⟨d, rfl, nd⟩
    rw [decide_eq_false e]
    refine iteF ?_
    refine ⟨_, rfl, plD p, plD .start, pl_dp hb, pl_dp cn.st, pl_shaped po, pl_shaped True.intro, _, rfl, ?_⟩
    rw [pl_eqv]
    by_cases e2 : p = .start
    · subst e2
      rw [decide_eq_true rfl]
      obtain ⟨xs, hxs, prs⟩ := hP
      have lx := prd_len prs
      have l30 := okP.1
      refine iteT ⟨_, rfl, f1, rfl, ⟨_, SqL.of hxs⟩, fun D nD => lc_it (walk_list (K := K) (a := f1) (xs := xs)) (fun i H2 => ∃ ys, Paired (MoT K H2) ys ((moves P1 S1 .start).take i) ∧ H2 D = some (.lst ys) ∧ Same H H2) ?_ ?_ ?_ ?_⟩
      · exact ⟨[], .nil, upd_same, same_put (s := Same.refl H) nD⟩
      · rintro i H2 hi ⟨ys, _, _, s2⟩
        exact SqL.of (s2 _ _ hxs)
      · rintro i y H20 H2 hi ⟨ys, pr, hD, s2⟩ ⟨rfl, hy⟩
        obtain ⟨q0, hq0, c, rfl, hc⟩ := prd_at prs hy
        have ly := prd_len pr
        rw [List.length_take] at ly
        refine ⟨c, _, rfl, .inl (.inl (s2 _ _ hc)), rfl, _, _, rfl, _, _, rfl, rfl, ?_⟩
        refine ⟨rfl, _, rfl, _, rfl, by show 2 ≤ sizeLine; decide, fun b2 nb2 => ⟨by show 3 ≤ sizeLine; decide, fun c2 nc2 => ?_⟩⟩
        have sa := same_put (s := Same.refl H2) (o := .tup [.str "one", .str (Sx q0.1)]) nb2
        have hb2 : upd H2 b2 (.tup [.str "one", .str (Sx q0.1)]) b2 = some (.tup (plV (.rest true q0.1))) := upd_same
        have sb := same_put (s := Same.refl _) (o := .tup [.str "one", .str (L1 q0.2), .ref b2]) nc2
        have hb3 := sb _ _ hb2
        have hc2 : upd (upd H2 b2 (.tup [.str "one", .str (Sx q0.1)])) c2 (.tup [.str "one", .str (L1 q0.2), .ref b2]) c2 = some (.tup [.str (sideS true), .str (L1 q0.2), .ref b2]) := upd_same
        have hD2 := sb _ _ (sa _ _ hD)
        have mt : MoT K (upd (upd H2 b2 (.tup [.str "one", .str (Sx q0.1)])) c2 (.tup [.str "one", .str (L1 q0.2), .ref b2])) (.ref c2) (true, q0.2, .rest true q0.1) := ⟨c2, b2, rfl, hc2, SqT.of hb3⟩
        have s3 : Same H2 (upd (upd H2 b2 (.tup [.str "one", .str (Sx q0.1)])) c2 (.tup [.str "one", .str (L1 q0.2), .ref b2])) := fun b o e => sb _ _ (sa _ _ e)
        generalize upd (upd H2 b2 (.tup [.str "one", .str (Sx q0.1)])) c2 (.tup [.str "one", .str (L1 q0.2), .ref b2]) = H3 at hD2 mt s3 ⊢
        refine ⟨_, hD2, by rw [sizeLine_eq]; omega, ys ++ [.ref c2], ?_, upd_same, ?_⟩
        · have et : (moves P1 S1 .start).take (i + 1) = (moves P1 S1 .start).take i ++ [(true, q0.2, .rest true q0.1)] := by
            rw [List.take_add_one]
            show _ ++ ((P1.map _)[i]?).toList = _
            rw [List.getElem?_map, hq0]
            rfl
          rw [et]
          exact (prd_imp pr fun _ _ z => (z.same s3).put hD2).snoc (mt.put hD2)
        · intro b o e
          rw [upd_ne (ne_of_none e nD)]
          exact s3 _ _ (s2 _ _ e)
      rintro H2 ⟨ys, pr, hD, s2⟩
      rw [List.take_of_length_le (by show (P1.map _).length ≤ _; rw [List.length_map, lx]; exact Nat.le_refl _)] at pr
      exact q _ _ s2 ⟨D, ys, rfl, hD, pr⟩ ⟨D, rfl, nD⟩
    rw [decide_eq_false e2]
    refine iteF ?_
    obtain ⟨a, r, rfl⟩ : ∃ a r, p = .rest a r := by
      cases p with
      | start => exact absurd rfl e2
      | fin => exact absurd rfl e
      | rest a r => exact ⟨a, r, rfl⟩
    obtain ⟨r9, _⟩ := po
    refine ⟨_, rfl, b, _, rfl, hb, rfl, _, _, rfl, _, _, rfl, rfl, ?_⟩
    refine ⟨_, rfl, a, rfl, ?_⟩
    -- whose pairs
    refine via (t := tIf (tTest (tOp rEq (tVar 5) (tC (V.str "one")))) (tVar 0) (tVar 1)) (fun v H2 => ∃ f xs, v = .ref f ∧ H = H2 ∧ H f = some (.lst xs) ∧ Paired (PrT H) xs (if a = true then S1 else P1)) (fun R hR => ?_) (fun v H2 z => ?_)
    · refine ⟨_, rfl, rfl, _, rfl, ?_⟩
      cases a with
      | true =>
        rw [decide_eq_false (show ¬ V.str (sideS (!true)) = V.str "one" from fun e => nomatch side_inj (V.str.inj e : sideS false = sideS true))]
        obtain ⟨xs, h1, h2⟩ := hS
        exact iteF ⟨_, rfl, hR _ _ ⟨f2, xs, rfl, rfl, h1, h2⟩⟩
      | false =>
        rw [decide_eq_true (show V.str (sideS (!false)) = V.str "one" from rfl)]
        obtain ⟨xs, h1, h2⟩ := hP
        exact iteT ⟨_, rfl, hR _ _ ⟨f1, xs, rfl, rfl, h1, h2⟩⟩
    obtain ⟨f0, xs, rfl, rfl, hxs, prs⟩ := z
    have okQ : PrOk (if a = true then S1 else P1) := by
      cases a with
      | true => exact okS
      | false => exact okP
    have em : moves P1 S1 (.rest a r) = (if a = true then S1 else P1).filterMap fun q => (behind a r q.1).map fun t => (!a, q.2, t) := rfl
    rw [em] at q
    generalize (if a = true then S1 else P1) = Q1 at prs okQ q
    have lx := prd_len prs
    have l30 := okQ.1
    refine ⟨_, rfl, f0, rfl, ⟨_, SqL.of hxs⟩, fun D nD => lc_it (walk_list (K := K) (a := f0) (xs := xs)) (fun i H2 => ∃ ys, Paired (TrT K a r H2) ys (Q1.take i) ∧ H2 D = some (.lst ys) ∧ Same H H2) ?_ ?_ ?_ ?_⟩
    · exact ⟨[], .nil, upd_same, same_put (s := Same.refl H) nD⟩
    · rintro i H2 hi ⟨ys, _, _, s2⟩
      exact SqL.of (s2 _ _ hxs)
    · rintro i y H20 H2 hi ⟨ys, pr, hD, s2⟩ ⟨rfl, hy⟩
      obtain ⟨q0, hq0, c, rfl, hc⟩ := prd_at prs hy
      have ly := prd_len pr
      rw [List.length_take] at ly
      have hq1 : q0 ∈ Q1 := List.mem_of_getElem? hq0
      refine ⟨c, _, rfl, .inl (.inl (s2 _ _ hc)), rfl, _, _, rfl, _, _, rfl, rfl, ?_⟩
      refine ⟨rfl, _, rfl, _, rfl, _, rfl, _, rfl, _, rfl, a, r, q0.1, rfl, cn.same s2, r9, (okQ.2 q0 hq1).1, fun z H3 s3 hz => ⟨by show 3 ≤ sizeLine; decide, fun c2 nc2 => ?_⟩⟩
      have sb := same_put (s := Same.refl H3) (o := .tup [.str (sideS (!a)), .str (L1 q0.2), z]) nc2
      have hc2 : upd H3 c2 (.tup [.str (sideS (!a)), .str (L1 q0.2), z]) c2 = some (.tup [.str (sideS (!a)), .str (L1 q0.2), z]) := upd_same
      have s4 : Same H2 (upd H3 c2 (.tup [.str (sideS (!a)), .str (L1 q0.2), z])) := fun b o e => sb _ _ (s3 _ _ e)
      have hD2 := s4 _ _ hD
      have mt : TrT K a r (upd H3 c2 (.tup [.str (sideS (!a)), .str (L1 q0.2), z])) (.ref c2) q0 := ⟨c2, z, rfl, hc2, hz.same sb⟩
      generalize upd H3 c2 (.tup [.str (sideS (!a)), .str (L1 q0.2), z]) = H4 at hD2 mt s4 ⊢
      refine ⟨_, hD2, by rw [sizeLine_eq]; omega, ys ++ [.ref c2], ?_, upd_same, ?_⟩
      · rw [List.take_add_one, hq0]
        exact (prd_imp pr fun _ _ z => (z.same s4).put hD2).snoc (mt.put hD2)
      · intro b o e
        rw [upd_ne (ne_of_none e nD)]
        exact s4 _ _ (s2 _ _ e)
    rintro H2 ⟨ys, pr, hD, s2⟩
    rw [List.take_of_length_le (by rw [lx]; exact Nat.le_refl _)] at pr
    have ly := prd_len pr
    -- those that are none left out
    refine ⟨_, rfl, D, rfl, ⟨_, SqL.of hD⟩, fun D3 nD3 => lc_it (walk_list (K := K) (a := D) (xs := ys)) (fun i H3 => ∃ zs, Paired (MoT K H3) zs ((Q1.take i).filterMap fun q => (behind a r q.1).map fun t => (!a, q.2, t)) ∧ H3 D3 = some (.lst zs) ∧ Same H2 H3) ?_ ?_ ?_ ?_⟩
    · exact ⟨[], .nil, upd_same, same_put (s := Same.refl H2) nD3⟩
    · rintro i H3 hi ⟨zs, _, _, s3⟩
      exact SqL.of (s3 _ _ hD)
    · rintro i y H30 H3 hi ⟨zs, prz, hD3, s3⟩ ⟨rfl, hy⟩
      obtain ⟨q0, hq0, c, z, rfl, hc, hz⟩ := prd_at pr hy
      have lz := prd_len prz
      have lz2 : ((Q1.take i).filterMap fun q => (behind a r q.1).map fun t => ((!a, q.2, t) : Mo)).length ≤ 30 := Nat.le_trans (List.length_filterMap_le _ _) (by rw [List.length_take]; omega)
      have ef : (Q1.take (i + 1)).filterMap (fun q => (behind a r q.1).map fun t => ((!a, q.2, t) : Mo)) = ((Q1.take i).filterMap fun q => (behind a r q.1).map fun t => (!a, q.2, t)) ++ ((behind a r q0.1).map fun t => (!a, q0.2, t)).toList := by
        rw [List.take_add_one, hq0, List.filterMap_append]
        congr 1
      refine ⟨rfl, _, rfl, c, _, _, _, rfl, rfl, .inl (.inl (s3 _ _ hc)), atI_nat (j := 2) rfl, ?_⟩
      have hz3 := hz.same s3
      rw [ef]
      cases eb : behind a r q0.1 with
      | none =>
        rw [eb] at hz
        have hz : z = .non := hz
        subst hz
        refine ⟨rfl, false, rfl, iteF ?_⟩
        show ∃ zs, Paired (MoT K H3) zs (_ ++ []) ∧ _
        rw [List.append_nil]
        exact ⟨zs, prz, hD3, s3⟩
      | some t =>
        rw [eb] at hz3
        obtain ⟨b3, rfl, hb3⟩ := hz3
        refine ⟨rfl, true, rfl, iteT ⟨_, rfl, _, hD3, by rw [sizeLine_eq]; omega, zs ++ [.ref c], ?_, upd_same, ?_⟩⟩
        · exact (prd_imp prz fun _ _ z => z.put hD3).snoc (MoT.put ⟨c, b3, rfl, s3 _ _ hc, hb3⟩ hD3)
        · intro b o e
          rw [upd_ne (ne_of_none e nD3)]
          exact s3 _ _ e
    rintro H3 ⟨zs, prz, hD3, s3⟩
    rw [List.take_of_length_le (by omega)] at prz
    exact q _ _ (fun b o e => s3 _ _ (s2 _ _ e)) ⟨D3, zs, rfl, hD3, prz⟩ ⟨D3, rfl, same_none s2 nD3⟩
end
end V8
set_option Elab.async false
set_option linter.all false
set_option maxRecDepth 100000
set_option maxHeartbeats 8000000
set_option pp.maxSteps 900
/-! All places that can be reached, with the steps from each. -/
namespace V8
open PySem PySem.Spec PyProof.Rows L2 MZ
variable {K : PySem.W.Frag} {ω : World}
abbrev s_all_moves : Stmt := topS 48
theorem sc_all_moves : FnScope ["first", "second", "moves", "met", "queue", "place", "found", "_", "target"] ["first", "second"] (defScope s_all_moves) := ⟨rfl, rfl, rfl, by decide +kernel, rfl, by decide +kernel, by decide +kernel⟩
def PlT (K : PySem.W.Frag) (H : Hp) (b : Addr) (p : Pl) : Prop := SqT K H b (plV p)
/-- a dict with places as keys -/
def keysP (kvs : List (List Key × V)) (Q : List Pl) : Prop := kvs.map (·.1) = Q.map plK
/-- the steps of places, as values of a dict -/
def MvD (K : PySem.W.Frag) (P S : List Pr) (H : Hp) (kv : List Key × V) (p : Pl) : Prop := kv.1 = plK p ∧ MoL K H kv.2 (moves P S p)
/-- a dict of all places with their steps -/
def AllM (K : PySem.W.Frag) (ω : World) (P S : List Pr) (Q : List Pl) (H : Hp) (d : Addr) : Prop := ∃ as kvs, H d = some (DX ω d as kvs) ∧ KyA K H as kvs ∧ Paired (MvD K P S H) kvs Q
theorem MoL.same {H H' : Hp} {v : V} {ms : List Mo} (h : MoL K H v ms) (s : Same H H') : MoL K H' v ms := by
  obtain ⟨d, xs, e, h1, h2⟩ := h
  exact ⟨d, xs, e, s _ _ h1, prd_imp h2 fun _ _ r => r.same s⟩
theorem keysP_is {kvs : List (List Key × V)} {Q : List Pl} (h : keysP kvs Q) (p : Pl) : (valV kvs (plK p)).isSome = decide (p ∈ Q) := by
  rw [← valV_any, Bool.eq_iff_iff, List.any_eq_true, decide_eq_true_iff]
  constructor
  · rintro ⟨kv, hkv, e⟩
    have e := of_decide_eq_true e
    have m : plK p ∈ Q.map plK := by
      rw [← h, ← e]
      exact List.mem_map_of_mem hkv
    obtain ⟨q, hq, e2⟩ := List.mem_map.mp m
    exact plK_inj e2 ▸ hq
  · intro hp
    have m : plK p ∈ kvs.map (·.1) := by
      rw [h]
      exact List.mem_map_of_mem hp
    obtain ⟨kv, hkv, e⟩ := List.mem_map.mp m
    exact ⟨kv, hkv, decide_eq_true e⟩
theorem keysP_none {kvs : List (List Key × V)} {Q : List Pl} {p : Pl} (h : keysP kvs Q) (n : p ∉ Q) : valV kvs (plK p) = none := by
  have := keysP_is h p
  rw [decide_eq_false n] at this
  cases e : valV kvs (plK p) with
  | none => rfl
  | some v =>
    rw [e] at this
    cases this
theorem DGetY.t {H : Hp} {a b : Addr} {as : List Addr} {kvs : List (List Key × V)} {k : List Key} (e : H a = some (DX ω a as kvs)) (ky : KyA K H as kvs) (eb : SqT K H b (k.map kV)) : DGetY ω K H a (.ref b) (valV kvs k) := ⟨as, kvs, k, b, .inl e, ky, rfl, eb, rfl⟩
theorem DPutY.t {H : Hp} {a b : Addr} {as : List Addr} {kvs : List (List Key × V)} {k : List Key} {v : V} (e : H a = some (DX ω a as kvs)) (ky : KyA K H as kvs) (eb : SqT K H b (k.map kV)) (n : valV kvs k = none) (hl : kvs.length < sizeLine) :
    DPutY ω K H a (.ref b) v (upd H a (DX ω a (as ++ [b]) (kvs ++ [(k, v)]))) := ⟨as, kvs, k, b, e, ky, rfl, eb, n, hl, rfl⟩
theorem ky_same {H H' : Hp} {as : List Addr} {kvs : List (List Key × V)} (h : KyA K H as kvs) (s : Same H H') : KyA K H' as kvs := prd_imp h fun _ _ z => sq_same z s
theorem keysP_snoc {kvs : List (List Key × V)} {Q : List Pl} {p : Pl} {v : V} (h : keysP kvs Q) : keysP (kvs ++ [(plK p, v)]) (Q ++ [p]) := by
  unfold keysP at h ⊢
  rw [List.map_append, List.map_append, h]
  rfl
theorem keysP_len {kvs : List (List Key × V)} {Q : List Pl} (h : keysP kvs Q) : kvs.length = Q.length := by
  have := congrArg List.length h
  rw [List.length_map, List.length_map] at this
  exact this
/-- places that are reached are short -/
theorem reach_ok {P S : List Pr} (hP : ∀ q ∈ P, q.1 ≠ []) (oP : PrOk P) (oS : PrOk S) {p : Pl} {w : List Nat × List Nat} (h : Way P S .start p w) : PlOk p := by
  have z := (reach_uni hP h).2
  have tail : ∀ {R : List Pr} {r : Wd}, PrOk R → (∃ q ∈ R, ∃ a, q.1 = a ++ r) → r.length ≤ 9 ∧ ∀ c ∈ r, isLt c := fun {R r} o ⟨q, hq, a, e⟩ => by
    obtain ⟨h1, h2⟩ := o.2 q hq
    rw [e, List.length_append] at h1
    exact ⟨by omega, fun c hc => h2 c (by rw [e]; exact List.mem_append_right _ hc)⟩
  cases p with
  | start => trivial
  | fin => trivial
  | rest a r =>
    cases a with
    | true => exact tail oP z.2
    | false => exact tail oS z.2
theorem sum_ok {P : List Pr} (o : PrOk P) : sumL P ≤ 270 := by
  have : ∀ R : List Pr, (∀ q ∈ R, q.1.length ≤ 9) → sumL R ≤ 9 * R.length := by
    intro R
    induction R with
    | nil => intro _; exact Nat.le_refl _
    | cons q R ih =>
      intro h
      have h1 := h q List.mem_cons_self
      have h2 := ih fun x hx => h x (List.mem_cons_of_mem _ hx)
      show q.1.length + sumL R ≤ 9 * (R.length + 1)
      omega
  have h := this P fun q hq => (o.2 q hq).1
  have := o.1
  omega
theorem addTo_snoc (Q : List Pl) (f : List Mo) (m : Mo) : addTo Q (f ++ [m]) = if m.2.2 ∈ addTo Q f then addTo Q f else addTo Q f ++ [m.2.2] := by
  unfold addTo
  rw [List.foldl_append]
  rfl
/-- the search for places, step by step -/
def stepQ (P S : List Pr) (Q : List Pl) (n : Nat) : List Pl := match Q[n]? with
  | none => Q
  | some p => addTo Q (moves P S p)
def runQ (P S : List Pr) : Nat → List Pl
  | 0 => [.start]
  | n + 1 => stepQ P S (runQ P S n) n
theorem runQ_stay {P S : List Pr} {n : Nat} (h : n = (runQ P S n).length) : ∀ k, runQ P S (n + k) = runQ P S n
  | 0 => rfl
  | k + 1 => by
    show stepQ P S (runQ P S (n + k)) (n + k) = _
    rw [runQ_stay h k]
    unfold stepQ
    rw [List.getElem?_eq_none (by omega)]
/-- all places, in the order in which they are met -/
def placesQ (P S : List Pr) : List Pl := runQ P S 600
/-- what the search keeps: the places met, those gone through with their steps -/
structure Srch (K : PySem.W.Frag) (ω : World) (P S : List Pr) (mv mt qu : Addr) (H0 : Hp) (Q : List Pl) (n : Nat) (H : Hp) : Prop where
  b : Bfs P S .start Q n
  run : runQ P S n = Q
  mv_ : ∃ vs ks, H mv = some (DX ω mv vs ks) ∧ KyA K H vs ks ∧ Paired (fun kv p => MvD K P S H kv p ∧ kv.2 ≠ .ref qu) ks (Q.take n)
  mt_ : ∃ ts ms, H mt = some (DX ω mt ts ms) ∧ KyA K H ts ms ∧ keysP ms Q
  qu_ : ∃ as, H qu = some (.lst (as.map V.ref)) ∧ Paired (PlT K H) as Q
  sm : Same H0 H
theorem MvD.up {P S : List Pr} {H H' : Hp} {kv : List Key × V} {p : Pl} (h : MvD K P S H kv p) (s : Same H H') : MvD K P S H' kv p := ⟨h.1, h.2.same s⟩
/-- all but two things stays -/
def But2 (a b : Addr) (H H' : Hp) : Prop := ∀ c u, H c = some u → c ≠ a → c ≠ b → H' c = some u
theorem But2.sq {a b c : Addr} {H H' : Hp} {xs ms : List V} {ts : List Addr} {ks : List (List Key × V)} (h : But2 a b H H') (e : SqT K H c xs) (ha : H a = some (DX ω a ts ks)) (hb : H b = some (.lst ms)) : SqT K H' c xs := sq_mono e fun o eo z => by
  refine h c o eo (fun q => ?_) (fun q => ?_)
  · rw [q, ha] at eo
    cases eo
    rcases z with z | ⟨_, z⟩ <;> cases z
  · rw [q, hb] at eo
    cases eo
    rcases z with z | ⟨_, z⟩ <;> cases z
theorem But2.tup {a b c : Addr} {H H' : Hp} {xs ms : List V} {ts : List Addr} {ks : List (List Key × V)} (h : But2 a b H H') (e : H c = some (.tup xs)) (ha : H a = some (DX ω a ts ks)) (hb : H b = some (.lst ms)) : H' c = some (.tup xs) :=
  h c _ e (ne_of e ha (fun z => nomatch z)) (ne_of e hb (fun z => nomatch z))
theorem MoT.but {a b : Addr} {H H' : Hp} {v : V} {m : Mo} {ms : List V} {ts : List Addr} {ks : List (List Key × V)} (t : MoT K H v m) (h : But2 a b H H') (ha : H a = some (DX ω a ts ks)) (hb : H b = some (.lst ms)) : MoT K H' v m := by
  obtain ⟨c, d, e, h1, h2⟩ := t
  exact ⟨c, d, e, h.tup h1 ha hb, h.sq h2 ha hb⟩
theorem MoL.but {a b : Addr} {H H' : Hp} {v : V} {l : List Mo} {ms : List V} {ts : List Addr} {ks : List (List Key × V)} (t : MoL K H v l) (n : v ≠ .ref b) (h : But2 a b H H') (ha : H a = some (DX ω a ts ks)) (hb : H b = some (.lst ms)) : MoL K H' v l := by
  obtain ⟨d, xs, rfl, h1, h2⟩ := t
  exact ⟨d, xs, rfl, h d _ h1 (ne_of h1 ha (fun z => nomatch z)) (fun z => n (by rw [z])), prd_imp h2 fun _ _ r => r.but h ha hb⟩
def spAll (K : PySem.W.Frag) (ω : World) (aS aE aV : Addr) : Sp := fun vs H Q _ => ∃ (f1 f2 : Addr) (P S : List Pr), vs = [.ref f1, .ref f2] ∧ PrL H f1 P ∧ PrL H f2 S ∧ CnH K aS aE aV H ∧ PrOk P ∧ PrOk S ∧ (∀ q ∈ P, q.1 ≠ []) ∧
  ∀ (d : Addr) (Qs : List Pl) (H' : Hp), Same H H' → H d = none → Bfs P S .start Qs Qs.length → Qs = placesQ P S → AllM K ω P S Qs H' d → Q (.ref d) H'
section
variable {P : Program} {w : World} {K : PySem.W.Frag} {mg : Str → Option Value} {base : Heap} {aS aE aV : Addr}
theorem ok_all_moves {f : Addr} {fd : FuncData} (F : Fun K "all_moves" "all_moves" s_all_moves f fd) (T : Tm mg aS aE aV) (D_moves_from : Df P w K mg base 3 "moves_from" (spMoves K aS aE aV)) : FnOk P w K mg base CX0 4 f fd ["first", "second"] (spAll K w aS aE aV) := by
  refine F.ok sc_all_moves (fun vs H Q E h => ?_) (fun cdv A outer s H vs Q E hr h => ?_)
  · obtain ⟨f1, f2, P, S, rfl, _⟩ := h
    rfl
  · obtain ⟨f1, f2, P1, S1, rfl, hP, hS, cn, okP, okS, nP, q⟩ := h
    refine ⟨_, (pss_cons (ps_set (i := 2) sc_all_moves.nd rfl (.inl rfl) (pe_dnewY (w := w) rfl))
      (pss_cons (ps_set (i := 3) sc_all_moves.nd rfl (.inl rfl) (pe_dispY (w := w) (K := K) rfl rfl (hu_of hr) (pps_cons (pe_gv T.gSTART (by rfl)) pe_bl pps_nil)))
      (pss_cons (ps_set (i := 4) sc_all_moves.nd rfl (.inl rfl) (pe_lst (pa_cons (pe_gv T.gSTART (by rfl)) pa_nil)))
      (pss_cons (ps_while PassesOwn.never (pt_cmpR op_lt (pe_callB (call_len_dX (w := w) (K := K) rfl rfl) (by rfl) T.len (by decide +kernel) (pa_cons (pv 2) pa_nil)) (pe_callB (call_len_seqK (K := K) rfl) (by rfl) T.len (by decide +kernel) (pa_cons (pv 4) pa_nil)) (nomark _))
        (pss_cons (ps_set (i := 5) sc_all_moves.nd rfl (.inl rfl) (pe_ix (ix_listK (K := K) rfl) (pv 4) (pe_callB (call_len_dX (w := w) (K := K) rfl rfl) (by rfl) T.len (by decide +kernel) (pa_cons (pv 2) pa_nil)) (fun _ _ => rfl)))
        (pss_cons (ps_set (i := 6) sc_all_moves.nd rfl (.inl rfl) (pe_c D_moves_from hr (by decide) (by rfl) (pa_cons (pv 0) (pa_cons (pv 1) (pa_cons (pv 5) pa_nil)))))
        (pss_cons (ps_for PassesOwn.never rfl (pi_list (pv 6)) (pg_tup (by rfl) (pgs_cons (pg_name (i := 7) sc_all_moves.nd rfl (.inl rfl)) (pgs_cons (pg_name (i := 7) sc_all_moves.nd rfl (.inl rfl)) (pgs_cons (pg_name (i := 8) sc_all_moves.nd rfl (.inl rfl)) pgs_nil))))
          (pss_one (ps_if (pt_cmp (pc_dnotinY (w := w) (K := K) rfl rfl (hu_of hr) (pv 8) (pv 3)))
            (pss_cons (ps_dputY (w := w) (K := K) rfl rfl (hu_of hr) (pv 3) (pv 8) pe_bl rfl)
            (pss_one (ps_expr (pe_bmK (K := K) rfl PySem.F.plainAttrs_list PySem.F.slot_list_append PySem.F.type_list_append mt_append (pv 4) (pa_cons (pv 8) pa_nil)))))
            pss_nil)))
        (pss_one (ps_dputY (w := w) (K := K) rfl rfl (hu_of hr) (pv 2) (pv 5) (pv 6) rfl))))))
      (pss_one (ps_ret (pv 2))))))), ?_⟩
    refine fun mv nmv => ?_
    have s1 := same_put (s := Same.refl H) (o := DX w mv [] []) nmv
    refine fun mt nmt => ⟨?_, plK .start, aS, .bl true, rfl, ?_, ?_⟩
    · exact upd_same
    · have s2 := same_put (s := s1) (o := DX w mt [] []) nmt
      exact sq_same cn.st s2
    refine ⟨by show 1 ≤ sizeLine; decide, fun qu nqu => ?_⟩
    have mne : mv ≠ mt := ne_of_none (show upd H mv (DX w mv [] []) mv = some (DX w mv [] []) from upd_same) nmt
    rw [upd_upd] at nqu ⊢
    have s2 := same_put (s := s1) (o := DX w mt [aS] [(plK .start, V.bl true)]) nmt
    have s3 := same_put (s := s2) (o := .lst [V.ref aS]) nqu
    have s3' := same_put (s := Same.refl _) (o := .lst [V.ref aS]) nqu
    have hmv := s3' _ _ (show upd (upd H mv (DX w mv [] [])) mt (DX w mt [aS] [(plK .start, V.bl true)]) mv = some (DX w mv [] []) by rw [upd_ne mne]; exact upd_same)
    have hmt := s3' _ _ (show upd (upd H mv (DX w mv [] [])) mt (DX w mt [aS] [(plK .start, V.bl true)]) mt = some (DX w mt [aS] [(plK .start, V.bl true)]) from upd_same)
    have hqu : upd (upd (upd H mv (DX w mv [] [])) mt (DX w mt [aS] [(plK .start, V.bl true)])) qu (.lst [V.ref aS]) qu = some (.lst [V.ref aS]) := upd_same
    show Ends.nx _ _ (upd (upd (upd H mv (DX w mv [] [])) mt (DX w mt [aS] [(plK .start, V.bl true)])) qu (.lst [V.ref aS]))
    have nmtH : H mt = none := same_none s1 nmt
    have nquH : H qu = none := same_none s2 nqu
    generalize upd (upd (upd H mv (DX w mv [] [])) mt (DX w mt [aS] [(plK .start, V.bl true)])) qu (.lst [V.ref aS]) = H1 at s3 hmv hmt hqu ⊢
    clear s3' s2 s1 nqu nmt
    have R0 : Srch K w P1 S1 mv mt qu H [.start] 0 H1 := ⟨Bfs.start P1 S1 .start, rfl, ⟨[], [], hmv, .nil, .nil⟩, ⟨_, _, hmt, .cons (sq_same cn.st s3) .nil, rfl⟩, ⟨[aS], hqu, .cons (sq_same cn.st s3) .nil⟩, s3⟩
    clear hmv hmt hqu s3
    refine ⟨fun m σ H2 => ∃ (Q : List Pl) (n : Nat), m = 600 - n ∧ (∃ v5 v6 v7 v8 : Option V, σ = [some (.ref f1), some (.ref f2), some (.ref mv), some (.ref mt), some (.ref qu), v5, v6, v7, v8]) ∧ Srch K w P1 S1 mv mt qu H Q n H2, ⟨_, [.start], 0, rfl, ⟨_, _, _, _, rfl⟩, R0⟩, ?_⟩
    rintro m σ H2 ⟨Qs, n, rfl, ⟨v5, v6, v7, v8, rfl⟩, R⟩
    obtain ⟨bf, rq, ⟨vs, ks, hmv, kyv, pk⟩, ⟨ts, ms, hmt, kyt, km⟩, ⟨as, hqu, pa⟩, sm⟩ := id R
    have lk := prd_len pk
    rw [List.length_take, Nat.min_eq_left bf.le] at lk
    have la := prd_len pa
    have few := bf.few nP
    have sP := sum_ok okP
    have sS := sum_ok okS
    refine ⟨_, rfl, mv, vs, ks, rfl, hmv, kyv, _, rfl, qu, _, rfl, .inl (SqL.of hqu), _, _, rfl, rfl, _, rfl, ?_⟩
    rw [lk, List.length_map, la]
    by_cases hn : n < Qs.length
    · rw [decide_eq_true (show ((n : Nat) : Int) < ((Qs.length : Nat) : Int) by omega)]
      refine iteT ⟨fun σ' H' => ∃ m', m' < 600 - n ∧ ∃ (Q : List Pl) (n : Nat), m' = 600 - n ∧ (∃ v5 v6 v7 v8 : Option V, σ' = [some (.ref f1), some (.ref f2), some (.ref mv), some (.ref mt), some (.ref qu), v5, v6, v7, v8]) ∧ Srch K w P1 S1 mv mt qu H Q n H', fun _ _ z => z, ?_⟩
      obtain ⟨p, hp⟩ : ∃ p, Qs[n]? = some p := ⟨Qs[n], List.getElem?_eq_getElem hn⟩
      obtain ⟨b, hb, ebp⟩ : ∃ b, as[n]? = some b ∧ PlT K H2 b p := by
        have h1 : n < as.length := by omega
        obtain ⟨y, e1, e2⟩ := prd_at pa (List.getElem?_eq_getElem h1)
        rw [hp] at e1
        cases e1
        exact ⟨_, List.getElem?_eq_getElem h1, e2⟩
      have hpm : p ∈ Qs := List.mem_of_getElem? hp
      obtain ⟨w0, kw⟩ := bf.reach p hpm
      have po := reach_ok nP okP okS kw
      have hbx : (as.map V.ref)[n]? = some (.ref b) := by rw [List.getElem?_map, hb]; rfl
      refine ⟨_, rfl, _, rfl, mv, vs, ks, rfl, hmv, kyv, qu, _, _, _, rfl, rfl, SqL.of hqu, by rw [lk]; exact atI_nat (j := n) hbx, ?_⟩
      refine ⟨_, rfl, _, rfl, _, rfl, f1, f2, b, P1, S1, p, rfl, hP.same sm, hS.same sm, ebp, cn.same sm, po, okP, okS, fun v H3 s3 ml fr => ?_⟩
      have mvqu : mv ≠ qu := ne_of hmv hqu (fun z => nomatch z)
      have mtqu : mt ≠ qu := ne_of hmt hqu (fun z => nomatch z)
      obtain ⟨d0, xs, rfl, hxs, prx⟩ := ml
      have lxs := prd_len prx
      have ml30 : (moves P1 S1 p).length ≤ 30 := by
        cases p with
        | fin => exact Nat.zero_le _
        | start =>
          show (P1.map _).length ≤ 30
          rw [List.length_map]
          exact okP.1
        | rest a r =>
          refine Nat.le_trans (List.length_filterMap_le _ _) ?_
          cases a with
          | true => exact okS.1
          | false => exact okP.1
      have d0qu : d0 ≠ qu := by
        obtain ⟨d, e, n0⟩ := fr
        cases e
        exact fun z => by
          rw [z, hqu] at n0
          cases n0
      refine ⟨_, rfl, d0, rfl, ⟨_, SqL.of hxs⟩, for_it (walk_list (K := K) (a := d0) (xs := xs)) (fun i σ H4 => ∃ (as' ts' : List Addr) (ms' : List (List Key × V)), (∃ v7 v8 : Option V, σ = [some (.ref f1), some (.ref f2), some (.ref mv), some (.ref mt), some (.ref qu), some (.ref b), some (.ref d0), v7, v8]) ∧
        H4 mt = some (DX w mt ts' ms') ∧ KyA K H4 ts' ms' ∧ keysP ms' (addTo Qs ((moves P1 S1 p).take i)) ∧ H4 qu = some (.lst (as'.map V.ref)) ∧ Paired (PlT K H4) as' (addTo Qs ((moves P1 S1 p).take i)) ∧ But2 mt qu H3 H4) ?_ ?_ ?_ ?_⟩
      · exact ⟨as, ts, ms, ⟨_, _, rfl⟩, s3 _ _ hmt, ky_same kyt s3, km, s3 _ _ hqu, prd_imp pa fun _ _ z => sq_same z s3, fun _ _ e _ _ => e⟩
      · rintro i σ H4 hi ⟨as', ts', ms', _, _, _, _, _, _, u⟩
        exact SqL.of (u _ _ hxs (ne_of hxs (s3 _ _ hmt) (fun z => nomatch z)) d0qu)
      · rintro i y σ H40 H4 hi ⟨as', ts', ms', ⟨v7, v8, rfl⟩, hmt4, kyt4, km4, hqu4, pa4, u⟩ ⟨rfl, hy⟩
        obtain ⟨m, hm, mo⟩ := prd_at prx hy
        have mo4 := mo.but u (s3 _ _ hmt) (s3 _ _ hqu)
        obtain ⟨c, b4, rfl, hc4, hb4⟩ := mo4
        have lm := keysP_len km4
        have la4 := prd_len pa4
        have et : (moves P1 S1 p).take (i + 1) = (moves P1 S1 p).take i ++ [m] := by rw [List.take_add_one, hm]; rfl
        have bf1 := (bf.step hp).few nP
        have lq : (addTo Qs ((moves P1 S1 p).take i)).length ≤ 542 := by
          obtain ⟨R1, e1⟩ := addTo_pre ((moves P1 S1 p).drop i) (addTo Qs ((moves P1 S1 p).take i))
          have e2 : addTo Qs (moves P1 S1 p) = addTo (addTo Qs ((moves P1 S1 p).take i)) ((moves P1 S1 p).drop i) := by
            show List.foldl _ _ _ = List.foldl _ (List.foldl _ _ _) _
            rw [← List.foldl_append, List.take_append_drop]
          rw [e2, e1, List.length_append] at bf1
          omega
        refine ⟨c, _, rfl, .inl (.inl hc4), rfl, _, _, rfl, _, _, rfl, _, _, rfl, rfl, ?_⟩
        refine ⟨_, rfl, _, rfl, mt, _, rfl, DGetY.t (k := plK m.2.2) hmt4 kyt4 hb4, _, rfl, ?_⟩
        rw [keysP_is km4, et, addTo_snoc]
        by_cases hin : m.2.2 ∈ addTo Qs ((moves P1 S1 p).take i)
        · rw [decide_eq_true hin, if_pos hin]
          exact iteF ⟨as', ts', ms', ⟨_, _, rfl⟩, hmt4, kyt4, km4, hqu4, pa4, u⟩
        · rw [decide_eq_false hin, if_neg hin]
          refine iteT ⟨_, rfl, _, rfl, mt, _, rfl, DPutY.t (k := plK m.2.2) hmt4 kyt4 hb4 (keysP_none km4 hin) (by rw [lm, sizeLine_eq]; omega), ?_⟩
          have hqu5 : upd H4 mt (DX w mt (ts' ++ [b4]) (ms' ++ [(plK m.2.2, V.bl true)])) qu = some (.lst (as'.map V.ref)) := by rw [upd_ne (Ne.symm mtqu)]; exact hqu4
          refine ⟨_, rfl, .inl ⟨rfl, _, SqL.of hqu5⟩, _, rfl, qu, _, _, rfl, rfl, hqu5, by rw [List.length_map, sizeLine_eq]; omega, ?_⟩
          have up : ∀ {x : Addr} {xs : List V}, SqT K H4 x xs → SqT K (upd (upd H4 mt (DX w mt (ts' ++ [b4]) (ms' ++ [(plK m.2.2, V.bl true)]))) qu (.lst (as'.map V.ref ++ [.ref b4]))) x xs := fun {x xs} h => sq_lst (sq_dx h hmt4) hqu5
          refine ⟨as' ++ [b4], ts' ++ [b4], ms' ++ [(plK m.2.2, V.bl true)], ⟨_, _, rfl⟩, ?_, (prd_imp kyt4 fun _ _ z => up z).snoc (up hb4), keysP_snoc km4, ?_, ?_, ?_⟩
          · rw [upd_ne mtqu]
            exact upd_same
          · rw [upd_same, List.map_append]
            rfl
          · exact (prd_imp pa4 fun _ _ z => up z).snoc (up hb4)
          · intro x o e n1 n2
            rw [upd_ne n2, upd_ne n1]
            exact u _ _ e n1 n2
      rintro σ H4 ⟨as', ts', ms', ⟨v7, v8, rfl⟩, hmt4, kyt4, km4, hqu4, pa4, u⟩
      rw [List.take_of_length_le (by omega)] at km4 pa4
      have hmv4 := u _ _ (s3 _ _ hmv) mne mvqu
      have eb4 : PlT K H4 b p := u.sq (sq_same ebp s3) (s3 _ _ hmt) (s3 _ _ hqu)
      have kyv4 : KyA K H4 vs ks := prd_imp kyv fun _ _ z => u.sq (sq_same z s3) (s3 _ _ hmt) (s3 _ _ hqu)
      have kk : keysP ks (Qs.take n) := by
        unfold keysP
        have : ∀ {l : List (List Key × V)} {q : List Pl}, Paired (fun kv p => MvD K P1 S1 H2 kv p ∧ kv.2 ≠ .ref qu) l q → l.map (·.1) = q.map plK := by
          intro l q h
          induction h with
          | nil => rfl
          | cons r _ ih => rw [List.map_cons, List.map_cons, ih, r.1.1]
        exact this pk
      have np : p ∉ Qs.take n := by
        have nd := bf.nd
        have e : Qs.take (n + 1) = Qs.take n ++ [p] := by rw [List.take_add_one, hp]; rfl
        rw [← List.take_append_drop (n + 1) Qs, e] at nd
        exact fun z => (List.nodup_append.mp (List.nodup_append.mp nd).1).2.2 _ z p (by simp) rfl
      refine ⟨_, rfl, _, rfl, _, rfl, mv, _, rfl, DPutY.t (k := plK p) hmv4 kyv4 eb4 (keysP_none kk np) (by rw [lk, sizeLine_eq]; omega), ?_⟩
      have up : ∀ {x : Addr} {xs : List V}, H4 x = some (.tup xs) → upd H4 mv (DX w mv (vs ++ [b]) (ks ++ [(plK p, V.ref d0)])) x = some (.tup xs) := fun {x xs} h => by
        rw [upd_ne (ne_of h hmv4 (fun z => nomatch z))]
        exact h
      have upS : ∀ {x : Addr} {xs : List V}, SqT K H4 x xs → SqT K (upd H4 mv (DX w mv (vs ++ [b]) (ks ++ [(plK p, V.ref d0)]))) x xs := fun {x xs} h => sq_dx h hmv4
      have upl : ∀ {x : Addr} {xs : List V}, H4 x = some (.lst xs) → upd H4 mv (DX w mv (vs ++ [b]) (ks ++ [(plK p, V.ref d0)])) x = some (.lst xs) := fun {x xs} h => by
        rw [upd_ne (ne_of h hmv4 (fun z => nomatch z))]
        exact h
      have upM : ∀ {v : V} {l : List Mo}, MoL K H4 v l → MoL K (upd H4 mv (DX w mv (vs ++ [b]) (ks ++ [(plK p, V.ref d0)]))) v l := fun {v l} ⟨d, xs, e, h1, h2⟩ => ⟨d, xs, e, upl h1, prd_imp h2 fun _ _ ⟨c, b, e, h3, h4⟩ => ⟨c, b, e, up h3, upS h4⟩⟩
      have ml3 : MoL K H3 (.ref d0) (moves P1 S1 p) := ⟨d0, xs, rfl, hxs, prx⟩
      have nd0 : V.ref d0 ≠ .ref qu := fun z => d0qu (V.ref.inj z)
      have n6 : n < 542 := by omega
      refine ⟨600 - (n + 1), by omega, addTo Qs (moves P1 S1 p), n + 1, rfl, ⟨_, _, _, _, rfl⟩, bf.step hp, (by show stepQ P1 S1 (runQ P1 S1 n) n = _; rw [rq]; unfold stepQ; rw [hp]), ⟨_, _, upd_same, (prd_imp kyv4 fun _ _ z => upS z).snoc (upS eb4), ?_⟩, ⟨ts', ms', ?_, (prd_imp kyt4 fun _ _ z => upS z), km4⟩, ⟨as', upl hqu4, prd_imp pa4 fun _ _ z => upS z⟩, ?_⟩
      · obtain ⟨R1, e1⟩ := addTo_pre (moves P1 S1 p) Qs
        have e2 : (addTo Qs (moves P1 S1 p)).take (n + 1) = Qs.take n ++ [p] := by
          rw [e1, List.take_append_of_le_length (by omega), List.take_add_one, hp]
          rfl
        rw [e2]
        exact (prd_imp pk fun _ _ z => ⟨⟨z.1.1, upM ((z.1.2.same s3).but z.2 u (s3 _ _ hmt) (s3 _ _ hqu))⟩, z.2⟩).snoc ⟨⟨rfl, upM (ml3.but nd0 u (s3 _ _ hmt) (s3 _ _ hqu))⟩, nd0⟩
      · rw [upd_ne (Ne.symm mne)]
        exact hmt4
      · intro x o e
        have e2 := s3 _ _ (sm _ _ e)
        rw [upd_ne (ne_of_none e nmv)]
        exact u _ _ e2 (ne_of_none e nmtH) (ne_of_none e nquH)
    · rw [decide_eq_false (show ¬ ((n : Nat) : Int) < ((Qs.length : Nat) : Int) by omega)]
      have en : n = Qs.length := by
        have := bf.le
        omega
      subst en
      rw [List.take_of_length_le (Nat.le_refl _)] at pk
      refine iteF ⟨_, rfl, q mv Qs H2 sm nmv bf ?_ ⟨vs, ks, hmv, kyv, prd_imp pk fun _ _ z => z.1⟩⟩
      have e1 : Qs.length = (runQ P1 S1 Qs.length).length := by rw [rq]
      have e2 := runQ_stay e1 (600 - Qs.length)
      rw [show Qs.length + (600 - Qs.length) = 600 by omega, rq] at e2
      unfold placesQ
      rw [e2]
end
end V8
set_option Elab.async false
set_option linter.all false
set_option maxRecDepth 100000
set_option maxHeartbeats 8000000
set_option pp.maxSteps 900
/-! The places from which the end can be reached. -/
namespace V8
open PySem PySem.Spec PyProof.Rows L2 MZ
variable {K : PySem.W.Frag} {ω : World}
abbrev s_all_living : Stmt := topS 49
abbrev n_all_living : List Str := ["moves", "living", "again", "place", "taker", "label", "target"]
theorem sc_all_living : FnScope ["moves", "living", "again", "place", "taker", "label", "target"] ["moves"] (defScope s_all_living) := ⟨rfl, rfl, rfl, by decide +kernel, rfl, by decide +kernel, by decide +kernel⟩
/-- a dict with the places that live -/
structure LivD (K : PySem.W.Frag) (ω : World) (P S : List Pr) (Qs L : List Pl) (H : Hp) (d : Addr) : Prop where
  at_ : ∃ as ks, H d = some (DX ω d as ks) ∧ KyA K H as ks ∧ keysP ks L
  liv : Liv P S L
  all : ∀ p ∈ Qs, ∀ v, Way P S p .fin v → p ∈ L
def spLiving (K : PySem.W.Frag) (ω : World) (aS aE aV : Addr) : Sp := fun vs H Q _ => ∃ (d : Addr) (P S : List Pr) (Qs : List Pl), vs = [.ref d] ∧ AllM K ω P S Qs H d ∧ Bfs P S .start Qs Qs.length ∧ CnH K aS aE aV H ∧ Qs.length ≤ 542 ∧ PrOk P ∧ PrOk S ∧
  ∀ (ld : Addr) (L : List Pl) (H' : Hp), Same H H' → H ld = none → LivD K ω P S Qs L H' ld → Q (.ref ld) H'
theorem moves_len {P S : List Pr} (oP : PrOk P) (oS : PrOk S) (p : Pl) : (moves P S p).length ≤ 30 := by
  cases p with
  | fin => exact Nat.zero_le _
  | start =>
    show (P.map _).length ≤ 30
    rw [List.length_map]
    exact oP.1
  | rest a r =>
    refine Nat.le_trans (List.length_filterMap_le _ _) ?_
    cases a with
    | true => exact oS.1
    | false => exact oP.1
theorem val_at : ∀ {kvs : List (List Key × V)} {i : Nat} {k : List Key} {v : V}, (kvs.map (·.1)).Nodup → kvs[i]? = some (k, v) → valV kvs k = some v
  | [], i, k, v, _, e => by simp at e
  | p :: r, 0, k, v, _, e => by
    rw [List.getElem?_cons_zero] at e
    cases e
    exact valV_pos rfl
  | p :: r, i + 1, k, v, nd, e => by
    rw [List.getElem?_cons_succ] at e
    rw [List.map_cons, List.nodup_cons] at nd
    rw [valV_neg fun z => nd.1 (List.mem_map.mpr ⟨_, List.mem_of_getElem? e, z.symm⟩)]
    exact val_at nd.2 e
theorem map_nd : ∀ {Q : List Pl}, Q.Nodup → (Q.map plK).Nodup
  | [], _ => List.nodup_nil
  | p :: r, nd => by
    rw [List.nodup_cons] at nd
    rw [List.map_cons, List.nodup_cons]
    refine ⟨fun z => ?_, map_nd nd.2⟩
    obtain ⟨q, hq, e⟩ := List.mem_map.mp z
    exact nd.1 (plK_inj e ▸ hq)
theorem keysM {P S : List Pr} {H : Hp} {kvs : List (List Key × V)} {Q : List Pl} (h : Paired (MvD K P S H) kvs Q) : keysP kvs Q := by
  unfold keysP
  induction h with
  | nil => rfl
  | cons r _ ih => rw [List.map_cons, List.map_cons, ih, r.1]
/-- what the search for what lives keeps -/
structure LvS (K : PySem.W.Frag) (ω : World) (P S : List Pr) (Qs : List Pl) (ld : Addr) (H0 : Hp) (L : List Pl) (H : Hp) : Prop where
  at_ : ∃ as ks, H ld = some (DX ω ld as ks) ∧ KyA K H as ks ∧ keysP ks L
  liv : Liv P S L
  nd : L.Nodup
  sub : ∀ p ∈ L, p ∈ Pl.fin :: Qs
  sm : Same H0 H
theorem LvS.few {P S : List Pr} {Qs : List Pl} {ld : Addr} {H0 : Hp} {L : List Pl} {H : Hp} (h : LvS K ω P S Qs ld H0 L H) : L.length ≤ Qs.length + 1 := nd_le h.nd h.sub
section
variable {P : Program} {w : World} {K : PySem.W.Frag} {mg : Str → Option Value} {base : Heap} {aS aE aV : Addr}
theorem ok_all_living {f : Addr} {fd : FuncData} (F : Fun K "all_living" "all_living" s_all_living f fd) (T : Tm mg aS aE aV) : FnOk P w K mg base CX0 1 f fd ["moves"] (spLiving K w aS aE aV) := by
  refine F.ok sc_all_living (fun vs H Q E h => ?_) (fun cdv A outer s H vs Q E hr h => ?_)
  · obtain ⟨d, P, S, Qs, rfl, _⟩ := h
    rfl
  · obtain ⟨d, P1, S1, Qs, rfl, ⟨vs, kvs, hd, kyv, pk⟩, bf, cn, few, okP, okS, q⟩ := h
    refine ⟨_, (pss_cons (ps_set (i := 1) sc_all_living.nd rfl (.inr rfl) (pe_dispY (w := w) (K := K) rfl rfl (hu_of hr) (pps_cons (pe_gv T.gEND (by rfl)) pe_bl pps_nil)))
      (pss_cons (ps_set (i := 2) sc_all_living.nd rfl (.inl rfl) pe_bl)
      (pss_cons (ps_while PassesOwn.never (pt_truth (pv 2) (by intro _; rfl))
        (pss_cons (ps_set (i := 2) sc_all_living.nd rfl (.inl rfl) pe_bl)
        (pss_one (ps_lock (ps_for PassesOwn.never rfl (pi_keysXt (w := w) rfl (pv 0)) (pg_name (i := 3) sc_all_living.nd rfl (.inl rfl))
          (pss_one (ps_if (PW.pt (pw_and (pt_cmp (pc_dnotinY (w := w) (K := K) rfl rfl (hu_of hr) (pv 3) (pv 1))) (pw_and1 (pt_val (pe_callB (cr_any rfl) (by rfl) T.any (by decide +kernel) (pa_cons (pe_lc (own := [("taker", 4), ("label", 5), ("target", 6)]) (g := gTup K 3 (gCons (gName 4) (gCons (gName 5) (gCons (gName 6) gNil)))) (by rfl) sc_all_living.nd (pi_list (pe_dgetY (w := w) (K := K) rfl rfl (hu_of hr) (pv 0) (pv 3) (fun _ _ => rfl))) (blkOk_by (own := [("taker", 4), ("label", 5), ("target", 6)]) (N := n_all_living) (sc := defScope s_all_living) (by decide +kernel)) (fun _ _ _ _ _ => (pg_tup (by rfl) (pgs_cons (pg_name (i := 4) sc_all_living.nd rfl (.inl rfl)) (pgs_cons (pg_name (i := 5) sc_all_living.nd rfl (.inl rfl)) (pgs_cons (pg_name (i := 6) sc_all_living.nd rfl (.inl rfl)) pgs_nil))))) (fun _ _ _ _ _ => pts_nil) (fun _ _ _ _ _ => (pe_cmp (pc_dinY (w := w) (K := K) rfl rfl (hu_of hr) (pv 6) (pv 1)) rfl))) pa_nil))))))
            (pss_cons (ps_dputY (w := w) (K := K) rfl rfl (hu_of hr) (pv 1) (pv 3) pe_bl rfl)
            (pss_one (ps_set (i := 2) sc_all_living.nd rfl (.inl rfl) pe_bl)))
            pss_nil)))))))
      (pss_one (ps_ret (pv 1)))))), ?_⟩
    have lkv := prd_len pk
    refine fun ld nld => ⟨?_, plK .fin, aE, .bl true, rfl, ?_, ?_⟩
    · exact upd_same
    · exact sq_same cn.en (same_put (s := Same.refl H) nld)
    rw [upd_upd]
    have s1 := same_put (s := Same.refl H) (o := DX w ld [aE] [(plK .fin, V.bl true)]) nld
    have hld : upd H ld (DX w ld [aE] [(plK .fin, V.bl true)]) ld = some (DX w ld [aE] [(plK .fin, V.bl true)]) := upd_same
    show Ends.nx _ _ (upd H ld (DX w ld [aE] [(plK .fin, V.bl true)]))
    generalize upd H ld (DX w ld [aE] [(plK .fin, V.bl true)]) = H1 at s1 hld ⊢
    have dld : d ≠ ld := ne_of_none hd nld
    have R0 : LvS K w P1 S1 Qs ld H [.fin] H1 := ⟨⟨_, _, hld, .cons (sq_same cn.en s1) .nil, rfl⟩, Liv.start P1 S1, by simp, fun p h => by rw [List.mem_singleton.mp h]; exact List.mem_cons_self, s1⟩
    refine ⟨fun m σ H2 => ∃ (L : List Pl) (g : Bool), m = 2 * (600 - L.length) + (if g = true then 1 else 0) ∧ (∃ v3 v4 v5 v6 : Option V, σ = [some (.ref d), some (.ref ld), some (.bl g), v3, v4, v5, v6]) ∧ LvS K w P1 S1 Qs ld H L H2 ∧
      (g = false → ∀ p ∈ Qs, p ∉ L → ∀ m ∈ moves P1 S1 p, m.2.2 ∉ L), ⟨_, [.fin], true, rfl, ⟨_, _, _, _, rfl⟩, R0, fun z => nomatch z⟩, ?_⟩
    rintro m σ H2 ⟨L, g, rfl, ⟨v3, v4, v5, v6, rfl⟩, R, cl⟩
    have Rf := R.few
    cases g with
    | false =>
      refine ⟨_, rfl, false, rfl, iteF ⟨_, rfl, q ld L H2 R.sm nld ⟨R.at_, R.liv, fun p hp v k => R.liv.all bf (cl rfl) hp k⟩⟩⟩
    | true =>
      refine ⟨_, rfl, true, rfl, iteT ⟨fun σ' H' => ∃ m', m' < 2 * (600 - L.length) + 1 ∧ ∃ (L : List Pl) (g : Bool), m' = 2 * (600 - L.length) + (if g = true then 1 else 0) ∧ (∃ v3 v4 v5 v6 : Option V, σ' = [some (.ref d), some (.ref ld), some (.bl g), v3, v4, v5, v6]) ∧ LvS K w P1 S1 Qs ld H L H' ∧
        (g = false → ∀ p ∈ Qs, p ∉ L → ∀ m ∈ moves P1 S1 p, m.2.2 ∉ L), fun _ _ z => z, ?_⟩⟩
      have hd2 := R.sm _ _ hd
      refine ⟨d, _, hd2, True.intro, fun od => ⟨_, rfl, d, od, vs, kvs, rfl, upd_same, ?_⟩⟩
      have kK := keysM pk
      have ndK : (kvs.map (·.1)).Nodup := by
        rw [kK]
        exact map_nd bf.nd
      obtain ⟨ts, ks, hld2, kyl, kL⟩ := R.at_
      have lvs := prd_len kyv
      have sf : ∀ c u, H2 c = some u → c ≠ d → upd H2 d (.frz od (DX w d vs kvs)) c = some u := fun c u e n => by
        rw [upd_ne n]
        exact e
      refine for_it (walk_keysX (w := w) (d := d) (o := od) (as := vs) (kvs := kvs)) (fun i σ H4 => ∃ (L' : List Pl) (g : Bool) (ts' : List Addr) (ks' : List (List Key × V)), (∃ v3 v4 v5 v6 : Option V, σ = [some (.ref d), some (.ref ld), some (.bl g), v3, v4, v5, v6]) ∧ H4 ld = some (DX w ld ts' ks') ∧ KyA K H4 ts' ks' ∧ keysP ks' L' ∧ Liv P1 S1 L' ∧ L'.Nodup ∧ (∀ p ∈ L', p ∈ Pl.fin :: Qs) ∧
        L.length ≤ L'.length ∧ (g = true → L.length < L'.length) ∧ (g = false → L' = L ∧ ∀ j p, j < i → Qs[j]? = some p → p ∉ L → ∀ m ∈ moves P1 S1 p, m.2.2 ∉ L) ∧ (∀ c u, upd H2 d (.frz od (DX w d vs kvs)) c = some u → c ≠ ld → H4 c = some u)) ?_ ?_ ?_ ?_
      · exact ⟨L, false, ts, ks, ⟨_, _, _, _, rfl⟩, sf _ _ hld2 (Ne.symm dld), prd_imp kyl fun _ _ z => sq_dx z hd2, kL, R.liv, R.nd, R.sub, Nat.le_refl _, (fun z => nomatch z), (fun _ => ⟨rfl, fun j p hj => absurd hj (Nat.not_lt_zero _)⟩), fun _ _ e _ => e⟩
      · rintro i σ H4 hi ⟨L', g, ts', ks', _, _, _, _, _, _, _, _, _, _, u⟩
        exact u _ _ upd_same dld
      · rintro i y σ H40 H4 hi ⟨L', g, ts', ks', ⟨w3, w4, w5, w6, rfl⟩, hld4, kyl4, kL4, lv, nd, sub, le, lt, cl4, u⟩ ⟨rfl, qk, hbk, rfl⟩
        obtain ⟨⟨k, v⟩, hkv, hqk0⟩ := prd_at kyv hbk
        obtain ⟨p, hp, ek, ml⟩ := prd_at pk hkv
        have ek : k = plK p := ek
        subst ek
        have upS : ∀ {x : Addr} {xs : List V}, SqT K H x xs → SqT K H4 x xs := fun {x xs} e => sq_mono (sq_dx (sq_same e R.sm) hd2) fun o eo z => u _ _ eo fun q => by
          rw [q, upd_ne (Ne.symm dld), hld2] at eo
          cases eo
          rcases z with z | ⟨_, z⟩ <;> cases z
        have hqk : SqT K H4 qk (plV p) := upS hqk0
        have kyv4 : KyA K H4 vs kvs := prd_imp kyv fun _ _ z => upS z
        have l4 := nd_le nd sub
        rw [List.length_cons] at l4
        have hd4 := u _ _ upd_same dld
        refine ⟨_, rfl, _, rfl, ld, _, rfl, DGetY.t (k := plK p) hld4 kyl4 hqk, _, rfl, ?_⟩
        rw [keysP_is kL4]
        by_cases hin : p ∈ L'
        · rw [decide_eq_true hin]
          refine iteF ⟨L', g, ts', ks', ⟨_, _, _, _, rfl⟩, hld4, kyl4, kL4, lv, nd, sub, le, lt, fun z => ⟨(cl4 z).1, fun j p' hj e n => ?_⟩, u⟩
          by_cases hj2 : j < i
          · exact (cl4 z).2 j p' hj2 e n
          · have : j = i := by omega
            subst this
            rw [hp] at e
            cases e
            rw [(cl4 z).1] at hin
            exact absurd hin n
        rw [decide_eq_false hin]
        refine iteT ?_
        -- its steps
        have upT : ∀ {x : Addr} {xs : List V}, H x = some (.tup xs) → H4 x = some (.tup xs) := fun {x xs} e => u _ _ (sf _ _ (R.sm _ _ e) (ne_of e hd (fun z => nomatch z))) (ne_of_none e nld)
        obtain ⟨d0, xs, ev, hxs, prx⟩ := ml
        have ev : v = .ref d0 := ev
        subst ev
        have hxs4 : H4 d0 = some (.lst xs) := u _ _ (sf _ _ (R.sm _ _ hxs) (ne_of hxs hd (fun z => nomatch z))) (ne_of_none hxs nld)
        have prx4 : Paired (MoT K H4) xs (moves P1 S1 p) := prd_imp prx fun _ _ ⟨c, b, e, h1, h2⟩ => ⟨c, b, e, upT h1, upS h2⟩
        have lx := prd_len prx4
        have l30 := moves_len okP okS p
        refine ⟨_, rfl, _, rfl, d, _, rfl, ⟨vs, kvs, plK p, qk, .inr ⟨od, hd4⟩, kyv4, rfl, hqk, (val_at ndK hkv).symm⟩, d0, rfl, ⟨_, SqL.of hxs4⟩, fun D nD => lc_it (walk_list (K := K) (a := d0) (xs := xs)) (fun j H5 => H5 = upd H4 D (.lst (((moves P1 S1 p).take j).map fun m => V.bl (decide (m.2.2 ∈ L'))))) rfl ?_ ?_ ?_⟩
        · rintro j H5 hj rfl
          exact SqL.of (by rw [upd_ne (ne_of_none hxs4 nD)]; exact hxs4)
        · rintro j y H5 H6 hj rfl ⟨eH, hy⟩
          rw [eH]
          obtain ⟨m, hm, c, b, rfl, hc, hb⟩ := prd_at prx4 hy
          have s5 := same_put (s := Same.refl H4) (o := .lst (((moves P1 S1 p).take j).map fun m => V.bl (decide (m.2.2 ∈ L')))) nD
          refine ⟨c, _, rfl, .inl (.inl (s5 _ _ hc)), rfl, _, _, rfl, _, _, rfl, _, _, rfl, rfl, ?_⟩
          refine ⟨rfl, _, rfl, _, rfl, ld, _, rfl, DGetY.t (k := plK m.2.2) (s5 _ _ hld4) (ky_same kyl4 s5) (sq_same hb s5), _, upd_same, ?_, ?_⟩
          · rw [List.length_map, List.length_take, sizeLine_eq]
            omega
          · rw [upd_upd, List.take_add_one, hm, keysP_is kL4, List.map_append]
            rfl
        rintro H5 rfl
        rw [List.take_of_length_le (by omega)]
        have s5 := same_put (s := Same.refl H4) (o := .lst ((moves P1 S1 p).map fun m => V.bl (decide (m.2.2 ∈ L')))) nD
        have hD5 : upd H4 D (.lst ((moves P1 S1 p).map fun m => V.bl (decide (m.2.2 ∈ L')))) D = some (.lst ((moves P1 S1 p).map fun m => V.bl (decide (m.2.2 ∈ L')))) := upd_same
        generalize upd H4 D (.lst ((moves P1 S1 p).map fun m => V.bl (decide (m.2.2 ∈ L')))) = H5 at s5 hD5 ⊢
        refine ⟨D, (moves P1 S1 p).map fun m => decide (m.2.2 ∈ L'), rfl, SqL.of (by rw [hD5, List.map_map]; rfl), _, rfl, ?_⟩
        have u5 : ∀ c u', upd H2 d (.frz od (DX w d vs kvs)) c = some u' → c ≠ ld → H5 c = some u' := fun c u' e n => s5 _ _ (u c u' e n)
        cases ea : ((moves P1 S1 p).map fun m => decide (m.2.2 ∈ L')).any id with
        | false =>
          refine iteF ⟨L', g, ts', ks', ⟨_, _, _, _, rfl⟩, s5 _ _ hld4, ky_same kyl4 s5, kL4, lv, nd, sub, le, lt, fun z => ⟨(cl4 z).1, fun j p' hj e n => ?_⟩, u5⟩
          by_cases hj2 : j < i
          · exact (cl4 z).2 j p' hj2 e n
          · have : j = i := by omega
            subst this
            rw [hp] at e
            cases e
            intro m hm hl
            have : ((moves P1 S1 p).map fun m => decide (m.2.2 ∈ L')).any id = true := List.any_eq_true.mpr ⟨decide (m.2.2 ∈ L'), List.mem_map_of_mem hm, by rw [(cl4 z).1]; exact decide_eq_true hl⟩
            rw [ea] at this
            cases this
        | true =>
          obtain ⟨x, hx, ex⟩ := List.any_eq_true.mp ea
          obtain ⟨m, hm, rfl⟩ := List.mem_map.mp hx
          have hml : m.2.2 ∈ L' := of_decide_eq_true ex
          have lks := keysP_len kL4
          refine iteT ⟨_, rfl, _, rfl, ld, _, rfl, DPutY.t (k := plK p) (s5 _ _ hld4) (ky_same kyl4 s5) (sq_same hqk s5) (keysP_none kL4 hin) (by rw [lks, sizeLine_eq]; omega), ?_⟩
          have hpQ : p ∈ Qs := List.mem_of_getElem? hp
          refine ⟨L' ++ [p], true, ts' ++ [qk], ks' ++ [(plK p, V.bl true)], ⟨_, _, _, _, rfl⟩, upd_same, (prd_imp kyl4 fun _ _ z => sq_dx (sq_same z s5) (s5 _ _ hld4)).snoc (sq_dx (sq_same hqk s5) (s5 _ _ hld4)), keysP_snoc kL4, lv.add hm hml, ?_, ?_, ?_, fun _ => ?_, fun z => (nomatch z), ?_⟩
          · exact List.nodup_append.mpr ⟨nd, by simp, fun a ha b hb e => by
              rw [List.mem_singleton.mp hb] at e
              exact hin (e ▸ ha)⟩
          · intro a ha
            rcases List.mem_append.mp ha with h | h
            · exact sub a h
            · rw [List.mem_singleton.mp h]
              exact List.mem_cons_of_mem _ hpQ
          · rw [List.length_append]
            omega
          · rw [List.length_append]
            show L.length < L'.length + 1
            omega
          · intro c u' e n
            rw [upd_ne n]
            exact u5 c u' e n
      rintro σ H4 ⟨L', g, ts', ks', ⟨w3, w4, w5, w6, rfl⟩, hld4, kyl4, kL4, lv, nd, sub, le, lt, cl4, u⟩
      have l4 := nd_le nd sub
      rw [List.length_cons] at l4
      refine ⟨u _ _ upd_same dld, 2 * (600 - L'.length) + (if g = true then 1 else 0), ?_, L', g, rfl, ⟨_, _, _, _, rfl⟩, ⟨⟨ts', ks', by rw [upd_ne (Ne.symm dld)]; exact hld4, prd_imp kyl4 fun _ _ z => sq_ne z (u _ _ upd_same dld) (fun z => nomatch z) (fun _ z => nomatch z), kL4⟩, lv, nd, sub, fun c o e => ?_⟩, fun z p hp n => ?_⟩
      · cases g with
        | true =>
          have := lt rfl
          show _ + 1 < _
          omega
        | false =>
          rw [(cl4 rfl).1]
          show _ + 0 < _
          omega
      · by_cases hc : c = d
        · rw [hc, upd_same]
          rw [hc, hd] at e
          exact e
        · rw [upd_ne hc]
          exact u _ _ (sf _ _ (R.sm _ _ e) hc) (ne_of_none e nld)
      · obtain ⟨e1, c2⟩ := cl4 z
        rw [e1] at n ⊢
        obtain ⟨j, hj, ej⟩ := List.getElem_of_mem hp
        exact c2 j p (by rw [lvs, lkv]; exact hj) (by rw [List.getElem?_eq_getElem hj, ej]) n
end
end V8
set_option Elab.async false
set_option linter.all false
set_option maxRecDepth 100000
set_option maxHeartbeats 8000000
set_option pp.maxSteps 900
/-! A way to each place that can be reached from one. -/
namespace V8
open PySem PySem.Spec PyProof.Rows L2 MZ
variable {K : PySem.W.Frag} {ω : World}
abbrev s_ways_from : Stmt := topS 50
theorem sc_ways_from : FnScope ["moves", "place", "ways", "queue", "done", "reached", "taker", "label", "target"] ["moves", "place"] (defScope s_ways_from) := ⟨rfl, rfl, rfl, by decide +kernel, rfl, by decide +kernel, by decide +kernel⟩
abbrev WyL := List (Pl × (List Nat × List Nat))
def KW (H : Hp) (kv : List Key × V) (q : Pl × (List Nat × List Nat)) : Prop := kv.1 = plK q.1 ∧ ∃ c, kv.2 = .ref c ∧ WyT H c q.2
theorem keysW {H : Hp} {ks : List (List Key × V)} {W : WyL} (h : Paired (KW H) ks W) : keysP ks (W.map (·.1)) := by
  unfold keysP
  induction h with
  | nil => rfl
  | cons r _ ih => rw [List.map_cons, List.map_cons, List.map_cons, ih, r.1]
theorem addW_pre (w : List Nat × List Nat) : ∀ (f : List Mo) (W : WyL), ∃ R, addW w W f = W ++ R
  | [], W => ⟨[], (List.append_nil W).symm⟩
  | m :: f, W => by
    rw [addW_cons]
    by_cases z : m.2.2 ∈ W.map (·.1)
    · rw [if_pos z]
      exact addW_pre w f W
    · rw [if_neg z]
      obtain ⟨R, e⟩ := addW_pre w f (W ++ [(m.2.2, put m.1 m.2.1 w)])
      exact ⟨(m.2.2, put m.1 m.2.1 w) :: R, by rw [e, List.append_assoc]; rfl⟩
theorem addW_snoc (w : List Nat × List Nat) (W : WyL) (f : List Mo) (m : Mo) : addW w W (f ++ [m]) = if m.2.2 ∈ (addW w W f).map (·.1) then addW w W f else addW w W f ++ [(m.2.2, put m.1 m.2.1 w)] := by
  unfold addW
  rw [List.foldl_append]
  rfl
def wlen (w : List Nat × List Nat) : Nat := w.1.length + w.2.length
theorem wput_len (t : Bool) (l : Nat) (w : List Nat × List Nat) : wlen (put t l w) = wlen w + 1 := by
  cases t <;> simp [wlen, put] <;> omega
theorem addW_short {w : List Nat × List Nat} {n : Nat} (hw : wlen w ≤ n) : ∀ (f : List Mo) (W : WyL), (∀ q ∈ W, wlen q.2 ≤ n + 1) → ∀ q ∈ addW w W f, wlen q.2 ≤ n + 1
  | [], W, h => h
  | m :: f, W, h => by
    rw [addW_cons]
    refine addW_short hw f _ fun q hq => ?_
    by_cases z : m.2.2 ∈ W.map (·.1)
    · rw [if_pos z] at hq
      exact h q hq
    · rw [if_neg z] at hq
      rcases List.mem_append.mp hq with a | a
      · exact h q a
      · rw [List.mem_singleton.mp a]
        show wlen (put _ _ _) ≤ _
        rw [wput_len]
        omega
theorem way_one {W : WyL} (nd : (W.map (·.1)).Nodup) {p : Pl} {w v : List Nat × List Nat} (h1 : (p, w) ∈ W) (h2 : (p, v) ∈ W) : w = v := by
  induction W with
  | nil => exact absurd h1 List.not_mem_nil
  | cons q r ih =>
    rw [List.map_cons, List.nodup_cons] at nd
    rcases List.mem_cons.mp h1 with e1 | h1
    · rcases List.mem_cons.mp h2 with e2 | h2
      · rw [← e1] at e2
        exact (congrArg Prod.snd e2).symm
      · exact absurd (List.mem_map.mpr ⟨_, h2, by rw [← e1]⟩) nd.1
    · rcases List.mem_cons.mp h2 with e2 | h2
      · exact absurd (List.mem_map.mpr ⟨_, h1, by rw [← e2]⟩) nd.1
      · exact ih nd.2 h1 h2
/-- the search for ways, step by step -/
def stepW (P S : List Pr) (s : List Pl × WyL) (n : Nat) : List Pl × WyL := match s.1[n]? with
  | none => s
  | some p => (addTo s.1 (moves P S p), addW (wayTo s.2 p) s.2 (moves P S p))
def runW (P S : List Pr) (o : Pl) : Nat → List Pl × WyL
  | 0 => ([o], [(o, ([], []))])
  | n + 1 => stepW P S (runW P S o n) n
theorem run_stay {P S : List Pr} {o : Pl} {n : Nat} (h : n = (runW P S o n).1.length) : ∀ k, runW P S o (n + k) = runW P S o n
  | 0 => rfl
  | k + 1 => by
    show stepW P S (runW P S o (n + k)) (n + k) = _
    rw [run_stay h k]
    unfold stepW
    rw [List.getElem?_eq_none (by omega)]
/-- the ways that the search keeps at last -/
def waysW (P S : List Pr) (o : Pl) : WyL := (runW P S o 600).2
/-- a dict with a way to each place -/
def WysD (K : PySem.W.Frag) (ω : World) (P S : List Pr) (o : Pl) (R : List Pl) (W : WyL) (H : Hp) (d : Addr) : Prop := (∃ as ks, H d = some (DX ω d as ks) ∧ KyA K H as ks ∧ Paired (KW H) ks W) ∧ Wys P S o R W ∧ (∀ q ∈ W, wlen q.2 ≤ 600) ∧ W = waysW P S o
/-- .. read, locked or not -/
def AllR (K : PySem.W.Frag) (ω : World) (P S : List Pr) (Q : List Pl) (H : Hp) (d : Addr) : Prop := ∃ as kvs, Rd H d (DX ω d as kvs) ∧ KyA K H as kvs ∧ Paired (MvD K P S H) kvs Q
theorem AllM.rd {P S : List Pr} {Q : List Pl} {H : Hp} {d : Addr} (h : AllM K ω P S Q H d) : AllR K ω P S Q H d := by
  obtain ⟨as, ks, h1, h2⟩ := h
  exact ⟨as, ks, .inl h1, h2⟩
theorem rd_same {H H' : Hp} {d : Addr} {o : HO} (h : Rd H d o) (s : Same H H') : Rd H' d o := by
  rcases h with h | ⟨od, h⟩
  · exact .inl (s _ _ h)
  · exact .inr ⟨od, s _ _ h⟩
def spWays (K : PySem.W.Frag) (ω : World) : Sp := fun vs H Q _ => ∃ (d b : Addr) (P S : List Pr) (Qs : List Pl) (o : Pl), vs = [.ref d, .ref b] ∧ AllR K ω P S Qs H d ∧ Bfs P S .start Qs Qs.length ∧ PlT K H b o ∧ o ∈ Qs ∧ Qs.length ≤ 542 ∧ PrOk P ∧ PrOk S ∧
  ∀ (wd : Addr) (R : List Pl) (W : WyL) (H' : Hp), Same H H' → H wd = none → Bfs P S o R R.length → WysD K ω P S o R W H' wd → Q (.ref wd) H'
/-- what the search for ways keeps -/
structure WyS (K : PySem.W.Frag) (ω : World) (P S : List Pr) (o : Pl) (wd qu : Addr) (H0 : Hp) (R : List Pl) (W : WyL) (n : Nat) (H : Hp) : Prop where
  b : Bfs P S o R n
  wy : Wys P S o R W
  wd_ : ∃ ts ks, H wd = some (DX ω wd ts ks) ∧ KyA K H ts ks ∧ Paired (KW H) ks W
  qu_ : ∃ as, H qu = some (.lst (as.map V.ref)) ∧ Paired (PlT K H) as R
  sh : ∀ q ∈ W, wlen q.2 ≤ n
  run : runW P S o n = (R, W)
  sm : Same H0 H
section
variable {P : Program} {w : World} {K : PySem.W.Frag} {mg : Str → Option Value} {base : Heap} {aS aE aV : Addr}
theorem ok_ways_from {f : Addr} {fd : FuncData} (F : Fun K "ways_from" "ways_from" s_ways_from f fd) (T : Tm mg aS aE aV) (D_with_label : Df P w K mg base 1 "with_label" spLabel) : FnOk P w K mg base CX0 2 f fd ["moves", "place"] (spWays K w) := by
  refine F.ok sc_ways_from (fun vs H Q E h => ?_) (fun cdv A outer s H vs Q E hr h => ?_)
  · obtain ⟨d, b, P, S, Qs, o, rfl, _⟩ := h
    rfl
  · obtain ⟨d, b0, P1, S1, Qs, o, rfl, ⟨vs, kvs, hd, kyv, pk⟩, bf0, hb0, ho, few, okP, okS, q⟩ := h
    refine ⟨_, (pss_cons (ps_set (i := 2) sc_ways_from.nd rfl (.inl rfl) (pe_dispY (w := w) (K := K) rfl rfl (hu_of hr) (pps_cons (pv 1) (pe_tup (pa_cons pe_str (pa_cons pe_str pa_nil))) pps_nil)))
      (pss_cons (ps_set (i := 3) sc_ways_from.nd rfl (.inl rfl) (pe_lst (pa_cons (pv 1) pa_nil)))
      (pss_cons (ps_set (i := 4) sc_ways_from.nd rfl (.inl rfl) pe_int)
      (pss_cons (ps_while PassesOwn.never (pt_cmpR op_lt (pv 4) (pe_callB (call_len_seqK (K := K) rfl) (by rfl) T.len (by decide +kernel) (pa_cons (pv 3) pa_nil)) (nomark _))
        (pss_cons (ps_set (i := 5) sc_ways_from.nd rfl (.inl rfl) (pe_ix (ix_listK (K := K) rfl) (pv 3) (pv 4) (fun _ _ => rfl)))
        (pss_cons (ps_for PassesOwn.never rfl (pi_list (pe_dgetY (w := w) (K := K) rfl rfl (hu_of hr) (pv 0) (pv 5) (fun _ _ => rfl))) (pg_tup (by rfl) (pgs_cons (pg_name (i := 6) sc_ways_from.nd rfl (.inl rfl)) (pgs_cons (pg_name (i := 7) sc_ways_from.nd rfl (.inl rfl)) (pgs_cons (pg_name (i := 8) sc_ways_from.nd rfl (.inl rfl)) pgs_nil))))
          (pss_one (ps_if (pt_cmp (pc_dnotinY (w := w) (K := K) rfl rfl (hu_of hr) (pv 8) (pv 2)))
            (pss_cons (ps_dputY (w := w) (K := K) rfl rfl (hu_of hr) (pv 2) (pv 8) (pe_c D_with_label hr (by decide) (by rfl) (pa_cons (pe_dgetY (w := w) (K := K) rfl rfl (hu_of hr) (pv 2) (pv 5) (fun _ _ => rfl)) (pa_cons (pv 6) (pa_cons (pv 7) pa_nil)))) rfl)
            (pss_one (ps_expr (pe_bmK (K := K) rfl PySem.F.plainAttrs_list PySem.F.slot_list_append PySem.F.type_list_append mt_append (pv 3) (pa_cons (pv 8) pa_nil)))))
            pss_nil)))
        (pss_one (ps_aug (i := 4) sc_ways_from.nd rfl (.inl rfl) pe_int ip_add)))))
      (pss_one (ps_ret (pv 2))))))), ?_⟩
    have kK := keysM pk
    have ndK : (kvs.map (·.1)).Nodup := by
      rw [kK]
      exact map_nd bf0.nd
    refine fun wd nwd => ⟨_, rfl, by show 2 ≤ sizeLine; decide, fun c nc => ⟨?_, plK o, b0, .ref c, rfl, ?_, ?_⟩⟩
    · rw [upd_ne (ne_of_none (show upd H wd (DX w wd [] []) wd = _ from upd_same) nc)]
      exact upd_same
    · exact sq_same hb0 (same_put (s := same_put (s := Same.refl H) nwd) nc)
    have wdc : wd ≠ c := ne_of_none (show upd H wd (DX w wd [] []) wd = some (DX w wd [] []) from upd_same) nc
    have ncH : H c = none := same_none (same_put (s := Same.refl H) (o := DX w wd [] []) nwd) nc
    have sA : Same H (upd (upd (upd H wd (DX w wd [] [])) c (.tup [.str "", .str ""])) wd (DX w wd [b0] [(plK o, V.ref c)])) := fun x u e => by
      rw [upd_ne (ne_of_none e nwd), upd_ne (ne_of_none e ncH), upd_ne (ne_of_none e nwd)]
      exact e
    have hwd : upd (upd (upd H wd (DX w wd [] [])) c (.tup [.str "", .str ""])) wd (DX w wd [b0] [(plK o, V.ref c)]) wd = some (DX w wd [b0] [(plK o, V.ref c)]) := upd_same
    have hc : WyT (upd (upd (upd H wd (DX w wd [] [])) c (.tup [.str "", .str ""])) wd (DX w wd [b0] [(plK o, V.ref c)])) c ([], []) := by
      show upd _ _ _ c = _
      rw [upd_ne (Ne.symm wdc)]
      exact upd_same
    show Ends.nx _ _ (upd (upd (upd H wd (DX w wd [] [])) c (.tup [.str "", .str ""])) wd (DX w wd [b0] [(plK o, V.ref c)]))
    generalize upd (upd (upd H wd (DX w wd [] [])) c (.tup [.str "", .str ""])) wd (DX w wd [b0] [(plK o, V.ref c)]) = H1 at sA hwd hc ⊢
    refine ⟨_, rfl, by show 1 ≤ sizeLine; decide, fun qu nqu => ?_⟩
    have sq := same_put (s := sA) (o := .lst [V.ref b0]) nqu
    have sq1 := same_put (s := Same.refl H1) (o := .lst [V.ref b0]) nqu
    have nquH : H qu = none := same_none sA nqu
    have wdqu : wd ≠ qu := ne_of_none hwd nqu
    have R0 : WyS K w P1 S1 o wd qu H [o] [(o, ([], []))] 0 (upd H1 qu (.lst [V.ref b0])) := ⟨Bfs.start P1 S1 o, Wys.start P1 S1 o, ⟨_, _, sq1 _ _ hwd, .cons (sq_same hb0 sq) .nil, .cons ⟨rfl, c, rfl, sq1 _ _ hc⟩ .nil⟩, ⟨[b0], upd_same, .cons (sq_same hb0 sq) .nil⟩, fun q h => by rw [List.mem_singleton.mp h]; exact Nat.le_refl _, rfl, sq⟩
    show Ends.nx _ _ (upd H1 qu (.lst [V.ref b0]))
    generalize upd H1 qu (.lst [V.ref b0]) = H2 at R0 ⊢
    clear sq sq1 nqu hc hwd sA ncH wdc nc
    have kept : ∀ {H' : Hp}, Same H H' → Rd H' d (DX w d vs kvs) := fun s => rd_same hd s
    refine ⟨fun m σ H3 => ∃ (R : List Pl) (W : WyL) (n : Nat), m = 600 - n ∧ (∃ v5 v6 v7 v8 : Option V, σ = [some (.ref d), some (.ref b0), some (.ref wd), some (.ref qu), some (.int ((n : Nat) : Int)), v5, v6, v7, v8]) ∧ WyS K w P1 S1 o wd qu H R W n H3, ⟨_, [o], _, 0, rfl, ⟨_, _, _, _, rfl⟩, R0⟩, ?_⟩
    rintro m σ H3 ⟨R, W, n, rfl, ⟨v5, v6, v7, v8, rfl⟩, S⟩
    obtain ⟨bf, wy, ⟨ts, ks, hwd, kyw, pw⟩, ⟨as, hqu, pa⟩, sh, run, sm⟩ := id S
    have la := prd_len pa
    have RQ : ∀ p ∈ R, p ∈ Qs := fun p hp => by
      obtain ⟨v, k⟩ := bf.reach p hp
      obtain ⟨v0, k0⟩ := bf0.reach o ho
      exact (bf0.all p).mpr ⟨_, k0.trans k⟩
    have lR : R.length ≤ 542 := Nat.le_trans (nd_le bf.nd RQ) few
    refine ⟨_, rfl, _, rfl, qu, _, rfl, .inl (SqL.of hqu), _, _, rfl, rfl, _, rfl, ?_⟩
    rw [List.length_map, la]
    by_cases hn : n < R.length
    · rw [decide_eq_true (show ((n : Nat) : Int) < ((R.length : Nat) : Int) by omega)]
      refine iteT ⟨fun σ' H' => ∃ m', m' < 600 - n ∧ ∃ (R : List Pl) (W : WyL) (n : Nat), m' = 600 - n ∧ (∃ v5 v6 v7 v8 : Option V, σ' = [some (.ref d), some (.ref b0), some (.ref wd), some (.ref qu), some (.int ((n : Nat) : Int)), v5, v6, v7, v8]) ∧ WyS K w P1 S1 o wd qu H R W n H', fun _ _ z => z, ?_⟩
      obtain ⟨p, hp⟩ : ∃ p, R[n]? = some p := ⟨R[n], List.getElem?_eq_getElem hn⟩
      obtain ⟨b, hb, ebp⟩ : ∃ b, as[n]? = some b ∧ PlT K H3 b p := by
        have h1 : n < as.length := by omega
        obtain ⟨y, e1, e2⟩ := prd_at pa (List.getElem?_eq_getElem h1)
        rw [hp] at e1
        cases e1
        exact ⟨_, List.getElem?_eq_getElem h1, e2⟩
      have hpm : p ∈ R := List.mem_of_getElem? hp
      obtain ⟨j, hj, ej⟩ := List.getElem_of_mem (RQ p hpm)
      have hjk : j < kvs.length := by rw [prd_len pk]; exact hj
      obtain ⟨p2, e2, ek, ml⟩ := prd_at pk (List.getElem?_eq_getElem hjk)
      rw [List.getElem?_eq_getElem hj, ej] at e2
      cases e2
      have hval : valV kvs (plK p) = some kvs[j].2 := by
        rw [← ek]
        exact val_at ndK (List.getElem?_eq_getElem hjk)
      have hbx : (as.map V.ref)[n]? = some (.ref b) := by rw [List.getElem?_map, hb]; rfl
      -- its way
      obtain ⟨wn, hwn, ewn⟩ : ∃ wn, W[n]? = some (p, wn) ∧ (p, wn) ∈ W := by
        have e := wy.keys
        have e2 := hp
        rw [← e, List.getElem?_map] at e2
        cases hW : W[n]? with
        | none =>
          rw [hW] at e2
          cases e2
        | some z =>
          rw [hW] at e2
          have e3 : z.1 = p := Option.some.inj e2
          refine ⟨z.2, by rw [← e3], ?_⟩
          rw [← e3]
          exact List.mem_of_getElem? hW
      have shn := sh _ ewn
      refine ⟨_, rfl, _, rfl, qu, _, _, _, rfl, rfl, SqL.of hqu, atI_nat (j := n) hbx, ?_⟩
      obtain ⟨d0, xs, ev, hxs, prx⟩ := ml
      have hxs3 := sm _ _ hxs
      have prx3 : Paired (MoT K H3) xs (moves P1 S1 p) := prd_imp prx fun _ _ r => r.same sm
      have lx := prd_len prx3
      have l30 := moves_len okP okS p
      have d0qu : d0 ≠ qu := ne_of_none hxs nquH
      refine ⟨_, rfl, _, rfl, d, _, rfl, ⟨vs, kvs, plK p, b, kept sm, ky_same kyv sm, rfl, ebp, hval.symm⟩, d0, ev, ⟨_, SqL.of hxs3⟩, ?_⟩
      have bfs := bf.step hp
      have fewW : ∀ i, (addW wn W ((moves P1 S1 p).take i)).length ≤ 542 := fun i => by
        have e2 : addW wn W (moves P1 S1 p) = addW wn (addW wn W ((moves P1 S1 p).take i)) ((moves P1 S1 p).drop i) := by
          show List.foldl _ _ _ = List.foldl _ (List.foldl _ _ _) _
          rw [← List.foldl_append, List.take_append_drop]
        obtain ⟨R1, e1⟩ := addW_pre wn ((moves P1 S1 p).drop i) (addW wn W ((moves P1 S1 p).take i))
        have e3 := addW_keys wn (moves P1 S1 p) W
        rw [wy.keys] at e3
        have l1 : (addTo R (moves P1 S1 p)).length ≤ 542 := Nat.le_trans (nd_le bfs.nd fun x hx => by
          obtain ⟨v, k⟩ := bfs.reach x hx
          obtain ⟨v0, k0⟩ := bf0.reach o ho
          exact (bf0.all x).mpr ⟨_, k0.trans k⟩) few
        have l2 := congrArg List.length e3
        rw [List.length_map, e2, e1, List.length_append] at l2
        omega
      refine for_it (walk_list (K := K) (a := d0) (xs := xs)) (fun i σ H4 => ∃ (as' ts' : List Addr) (ks' : List (List Key × V)), (∃ v6 v7 v8 : Option V, σ = [some (.ref d), some (.ref b0), some (.ref wd), some (.ref qu), some (.int ((n : Nat) : Int)), some (.ref b), v6, v7, v8]) ∧
        H4 wd = some (DX w wd ts' ks') ∧ KyA K H4 ts' ks' ∧ Paired (KW H4) ks' (addW wn W ((moves P1 S1 p).take i)) ∧ H4 qu = some (.lst (as'.map V.ref)) ∧ Paired (PlT K H4) as' ((addW wn W ((moves P1 S1 p).take i)).map (·.1)) ∧ But2 wd qu H3 H4) ?_ ?_ ?_ ?_
      · exact ⟨as, ts, ks, ⟨_, _, _, rfl⟩, hwd, kyw, pw, hqu, (by show Paired (PlT K H3) as (W.map (·.1)); rw [wy.keys]; exact pa), fun _ _ e _ _ => e⟩
      · rintro i σ H4 hi ⟨as', ts', ks', _, _, _, _, _, _, u⟩
        exact SqL.of (u _ _ hxs3 (ne_of_none hxs nwd) d0qu)
      · rintro i y σ H40 H4 hi ⟨as', ts', ks', ⟨v6, v7, v8, rfl⟩, hwd4, kyw4, pw4, hqu4, pa4, u⟩ ⟨rfl, hy⟩
        obtain ⟨m, hm, mo⟩ := prd_at prx3 hy
        obtain ⟨c, b4, rfl, hc4, hb4⟩ := mo.but u hwd hqu
        have hb4p : PlT K H4 b p := u.sq ebp hwd hqu
        have kW := keysW pw4
        have lks := prd_len pw4
        have fW := fewW i
        have et : (moves P1 S1 p).take (i + 1) = (moves P1 S1 p).take i ++ [m] := by rw [List.take_add_one, hm]; rfl
        refine ⟨c, _, rfl, .inl (.inl hc4), rfl, _, _, rfl, _, _, rfl, _, _, rfl, rfl, ?_⟩
        refine ⟨_, rfl, _, rfl, wd, _, rfl, DGetY.t (k := plK m.2.2) hwd4 kyw4 hb4, _, rfl, ?_⟩
        rw [keysP_is kW, et, addW_snoc]
        have hWn : (addW wn W ((moves P1 S1 p).take i))[n]? = some (p, wn) := by
          obtain ⟨R1, e1⟩ := addW_pre wn ((moves P1 S1 p).take i) W
          rw [e1, List.getElem?_append_left (List.getElem?_eq_some_iff.mp hwn).1]
          exact hwn
        have ndW : ((addW wn W ((moves P1 S1 p).take i)).map (·.1)).Nodup := by
          rw [addW_keys, wy.keys]
          exact addTo_nd _ _ bf.nd
        generalize addW wn W ((moves P1 S1 p).take i) = W' at pw4 pa4 kW lks fW hWn ndW ⊢
        have la4 := prd_len pa4
        rw [List.length_map] at la4
        by_cases hin : m.2.2 ∈ W'.map (·.1)
        · rw [decide_eq_true hin, if_pos hin]
          exact iteF ⟨as', ts', ks', ⟨_, _, _, rfl⟩, hwd4, kyw4, pw4, hqu4, pa4, u⟩
        · rw [decide_eq_false hin, if_neg hin]
          have hn4 : n < ks'.length := by
            rw [lks]
            exact (List.getElem?_eq_some_iff.mp hWn).1
          obtain ⟨y, e1, e2, cw, e3, hcw⟩ := prd_at pw4 (List.getElem?_eq_getElem hn4)
          rw [hWn] at e1
          cases e1
          have hv4 : valV ks' (plK p) = some (.ref cw) := by
            have := val_at (kvs := ks') (i := n) (k := plK p) (v := .ref cw) (by rw [kW]; exact map_nd ndW) (by rw [List.getElem?_eq_getElem hn4]; exact congrArg some (Prod.ext e2 e3))
            exact this
          have lw1 : wn.1.length ≤ 2000 := by
            have : wn.1.length + wn.2.length ≤ n := shn
            omega
          have lw2 : wn.2.length ≤ 2000 := by
            have : wn.1.length + wn.2.length ≤ n := shn
            omega
          refine iteT ⟨_, rfl, _, rfl, wd, _, rfl, (by rw [← hv4]; exact DGetY.t (k := plK p) hwd4 kyw4 hb4p), _, rfl, _, rfl, cw, wn, m.1, m.2.1, rfl, hcw, lw1, lw2, fun c5 H5 s5 hc5 => ?_⟩
          have hwd5 := s5 _ _ hwd4
          have hqu5 := s5 _ _ hqu4
          refine ⟨_, rfl, _, rfl, wd, _, rfl, DPutY.t (k := plK m.2.2) hwd5 (ky_same kyw4 s5) (sq_same hb4 s5) (keysP_none kW hin) (by rw [lks, sizeLine_eq]; omega), ?_⟩
          have hqu6 : upd H5 wd (DX w wd (ts' ++ [b4]) (ks' ++ [(plK m.2.2, V.ref c5)])) qu = some (.lst (as'.map V.ref)) := by rw [upd_ne (Ne.symm wdqu)]; exact hqu5
          refine ⟨_, rfl, .inl ⟨rfl, _, SqL.of hqu6⟩, _, rfl, qu, _, _, rfl, rfl, hqu6, by rw [List.length_map, sizeLine_eq]; omega, ?_⟩
          have up : ∀ {x : Addr} {xs : List V}, H5 x = some (.tup xs) → upd (upd H5 wd (DX w wd (ts' ++ [b4]) (ks' ++ [(plK m.2.2, V.ref c5)]))) qu (.lst (as'.map V.ref ++ [.ref b4])) x = some (.tup xs) := fun {x xs} h => by
            rw [upd_ne (ne_of h hqu5 (fun z => nomatch z)), upd_ne (ne_of h hwd5 (fun z => nomatch z))]
            exact h
          have upS : ∀ {x : Addr} {xs : List V}, SqT K H4 x xs → SqT K (upd (upd H5 wd (DX w wd (ts' ++ [b4]) (ks' ++ [(plK m.2.2, V.ref c5)]))) qu (.lst (as'.map V.ref ++ [.ref b4]))) x xs := fun {x xs} h => sq_lst (sq_dx (sq_same h s5) hwd5) hqu6
          refine ⟨as' ++ [b4], ts' ++ [b4], ks' ++ [(plK m.2.2, V.ref c5)], ⟨_, _, _, rfl⟩, ?_, (prd_imp kyw4 fun _ _ z => upS z).snoc (upS hb4), ?_, ?_, ?_, ?_⟩
          · rw [upd_ne wdqu]
            exact upd_same
          · exact (prd_imp pw4 fun _ _ ⟨h1, c, h2, h3⟩ => ⟨h1, c, h2, up (s5 _ _ h3)⟩).snoc ⟨rfl, c5, rfl, up hc5⟩
          · rw [upd_same, List.map_append]
            rfl
          · rw [List.map_append]
            exact (prd_imp pa4 fun _ _ h => upS h).snoc (upS hb4)
          · intro x u' e n1 n2
            rw [upd_ne n2, upd_ne n1]
            exact s5 _ _ (u _ _ e n1 n2)
      rintro σ H4 ⟨as', ts', ks', ⟨v6, v7, v8, rfl⟩, hwd4, kyw4, pw4, hqu4, pa4, u⟩
      rw [List.take_of_length_le (by omega)] at pw4 pa4
      have hpu : ((n : Nat) : Int) + 1 = ((n + 1 : Nat) : Int) := by omega
      refine ⟨_, rfl, _, _, rfl, rfl, ?_⟩
      refine ⟨600 - (n + 1), by omega, addTo R (moves P1 S1 p), addW wn W (moves P1 S1 p), n + 1, rfl, ⟨_, _, _, _, by rw [← hpu]; rfl⟩, bfs, wy.step ewn, ⟨ts', ks', hwd4, kyw4, pw4⟩, ⟨as', hqu4, by rw [addW_keys, wy.keys] at pa4; exact pa4⟩, ?_, ?_, ?_⟩
      · exact addW_short shn _ _ fun z hz => by have := sh z hz; omega
      · have ew : wayTo W p = wn := way_one (by rw [wy.keys]; exact bf.nd) (wayTo_has wy hpm).1 ewn
        show stepW P1 S1 (runW P1 S1 o n) n = _
        rw [run]
        unfold stepW
        show (match R[n]? with | none => (R, W) | some p => (addTo R (moves P1 S1 p), addW (wayTo W p) W (moves P1 S1 p))) = _
        rw [hp, ← ew]
      · intro x u' e
        exact u _ _ (sm _ _ e) (ne_of_none e nwd) (ne_of_none e nquH)
    · rw [decide_eq_false (show ¬ ((n : Nat) : Int) < ((R.length : Nat) : Int) by omega)]
      have en : n = R.length := by
        have := bf.le
        omega
      subst en
      refine iteF ⟨_, rfl, q wd R W H3 sm nwd bf ⟨⟨ts, ks, hwd, kyw, pw⟩, wy, fun z hz => by have := sh z hz; omega, ?_⟩⟩
      have e1 : R.length = (runW P1 S1 o R.length).1.length := by rw [run]
      have e2 := run_stay e1 (600 - R.length)
      rw [show R.length + (600 - R.length) = 600 by omega, run] at e2
      unfold waysW
      rw [e2]
end
end V8
set_option Elab.async false
set_option linter.all false
set_option maxRecDepth 100000
set_option maxHeartbeats 8000000
set_option pp.maxSteps 900
/-! Meetings made; a meeting ended; one that is not alike. -/
namespace V8
open PySem PySem.Spec PyProof.Rows L2 MZ
variable {K : PySem.W.Frag} {ω : World}
abbrev s_Meetings_init : Stmt := inClass (topS 44) 0
theorem sc_Meetings_init : FnScope ["self", "first", "second"] ["self", "first", "second"] (defScope s_Meetings_init) := ⟨rfl, rfl, rfl, by decide +kernel, rfl, by decide +kernel, by decide +kernel⟩
abbrev s_ended : Stmt := topS 52
theorem sc_ended : FnScope ["meetings", "way", "place", "one", "other"] ["meetings", "way", "place"] (defScope s_ended) := ⟨rfl, rfl, rfl, by decide +kernel, rfl, by decide +kernel, by decide +kernel⟩
abbrev s_unlike_meeting : Stmt := topS 54
theorem sc_unlike_meeting : FnScope ["meetings", "place", "taker", "label", "target", "way", "lead", "known", "found"] ["meetings"] (defScope s_unlike_meeting) := ⟨rfl, rfl, rfl, by decide +kernel, rfl, by decide +kernel, by decide +kernel⟩
/-- all but instances stays -/
def NI (H H' : Hp) : Prop := ∀ b o, H b = some o → (∀ C dx fs, o ≠ .ins C dx fs) → H' b = some o
theorem NI.ofSame {H H' : Hp} (s : Same H H') : NI H H' := fun b o e _ => s b o e
theorem NI.trans {H H1 H2 : Hp} (a : NI H H1) (b : NI H1 H2) : NI H H2 := fun c o e n => b c o (a c o e n) n
theorem NI.put {H : Hp} {x C dx : Addr} {fs : List (Str × V)} {o : HO} (h : H x = some (.ins C dx fs)) : NI H (upd H x o) := fun b u e n => by
  rw [upd_ne fun z => ?_]
  · exact e
  · rw [z, h] at e
    exact n _ _ _ (Option.some.inj e).symm
theorem sq_ni {H H' : Hp} {b : Addr} {xs : List V} (h : SqT K H b xs) (s : NI H H') : SqT K H' b xs := sq_mono h fun o eo z => s _ _ eo fun C dx fs e => by
  rw [e] at z
  rcases z with z | ⟨_, z⟩ <;> cases z
theorem MoT.ni {H H' : Hp} {v : V} {m : Mo} (h : MoT K H v m) (s : NI H H') : MoT K H' v m := by
  obtain ⟨c, b, e, h1, h2⟩ := h
  exact ⟨c, b, e, s _ _ h1 (fun _ _ _ z => nomatch z), sq_ni h2 s⟩
theorem MoL.ni {H H' : Hp} {v : V} {l : List Mo} (h : MoL K H v l) (s : NI H H') : MoL K H' v l := by
  obtain ⟨d, xs, e, h1, h2⟩ := h
  exact ⟨d, xs, e, s _ _ h1 (fun _ _ _ z => nomatch z), prd_imp h2 fun _ _ r => r.ni s⟩
theorem AllM.ni {P S : List Pr} {Q : List Pl} {H H' : Hp} {d : Addr} (h : AllM K ω P S Q H d) (s : NI H H') : AllM K ω P S Q H' d := by
  obtain ⟨as, ks, h1, ky, h2⟩ := h
  exact ⟨as, ks, s _ _ h1 (fun _ _ _ z => nomatch z), prd_imp ky fun _ _ z => sq_ni z s, prd_imp h2 fun _ _ r => ⟨r.1, r.2.ni s⟩⟩
theorem LivD.ni {P S : List Pr} {Q L : List Pl} {H H' : Hp} {d : Addr} (h : LivD K ω P S Q L H d) (s : NI H H') : LivD K ω P S Q L H' d := by
  obtain ⟨⟨as, ks, h1, ky, h2⟩, b, c⟩ := h
  exact ⟨⟨as, ks, s _ _ h1 (fun _ _ _ z => nomatch z), prd_imp ky fun _ _ z => sq_ni z s, h2⟩, b, c⟩
theorem WysD.ni {P S : List Pr} {o : Pl} {R : List Pl} {W : WyL} {H H' : Hp} {d : Addr} (h : WysD K ω P S o R W H d) (s : NI H H') : WysD K ω P S o R W H' d := by
  obtain ⟨⟨as, ks, h1, ky, h2⟩, b, c⟩ := h
  exact ⟨⟨as, ks, s _ _ h1 (fun _ _ _ z => nomatch z), prd_imp ky fun _ _ z => sq_ni z s, prd_imp h2 fun _ _ ⟨e, c, e2, h3⟩ => ⟨e, c, e2, s _ _ h3 (fun _ _ _ z => nomatch z)⟩⟩, b, c⟩
theorem PrL.ni {H H' : Hp} {a : Addr} {P : List Pr} (h : PrL H a P) (s : NI H H') : PrL H' a P := by
  obtain ⟨xs, h1, h2⟩ := h
  exact ⟨xs, s _ _ h1 (fun _ _ _ z => nomatch z), prd_imp h2 fun _ _ ⟨c, e, h3⟩ => ⟨c, e, s _ _ h3 (fun _ _ _ z => nomatch z)⟩⟩
theorem CnH.ni {aS aE aV : Addr} {H H' : Hp} (c : CnH K aS aE aV H) (s : NI H H') : CnH K aS aE aV H' := ⟨sq_ni c.st s, sq_ni c.en s, sq_ni c.ev s⟩
def fM (mv ld wd : Addr) : List (Str × V) := putF "ways" (.ref wd) (putF "living" (.ref ld) (putF "moves" (.ref mv) []))
theorem fM_m (mv ld wd : Addr) : (fM mv ld wd).lookup ("moves" : Str) = some (.ref mv) := by rfl
theorem fM_l (mv ld wd : Addr) : (fM mv ld wd).lookup ("living" : Str) = some (.ref ld) := by rfl
theorem fM_w (mv ld wd : Addr) : (fM mv ld wd).lookup ("ways" : Str) = some (.ref wd) := by rfl
/-- meetings, as an instance -/
structure MeeA (K : PySem.W.Frag) (ω : World) (CM : Addr) (P S : List Pr) (Qs L R : List Pl) (W : WyL) (H : Hp) (x : Addr) : Prop where
  at_ : ∃ dx mv ld wd, H x = some (.ins CM dx (fM mv ld wd)) ∧ AllM K ω P S Qs H mv ∧ LivD K ω P S Qs L H ld ∧ WysD K ω P S .start R W H wd ∧ mv ≠ ld ∧ mv ≠ wd
  b : Bfs P S .start Qs Qs.length
  r : Bfs P S .start R R.length
  few : Qs.length ≤ 542
  eqQ : Qs = placesQ P S
structure Tn (K : PySem.W.Frag) (mg : Str → Option Value) (aS aE aV CM : Addr) : Prop extends Tm mg aS aE aV where
  cl : Cls K CM
  n1 : NoAttr K CM "moves"
  n2 : NoAttr K CM "living"
  n3 : NoAttr K CM "ways"
def spMee (K : PySem.W.Frag) (ω : World) (aS aE aV CM : Addr) : Sp := fun vs H Q _ => ∃ (x dx f1 f2 : Addr) (P S : List Pr), vs = [.ref x, .ref f1, .ref f2] ∧ H x = some (.ins CM dx []) ∧ PrL H f1 P ∧ PrL H f2 S ∧ CnH K aS aE aV H ∧ PrOk P ∧ PrOk S ∧ (∀ q ∈ P, q.1 ≠ []) ∧
  ∀ (Qs L R : List Pl) (W : WyL) (H' : Hp), (∀ b o, H b = some o → b ≠ x → H' b = some o) → MeeA K ω CM P S Qs L R W H' x → Q .non H'
section
variable {P : Program} {w : World} {K : PySem.W.Frag} {mg : Str → Option Value} {base : Heap} {aS aE aV CM : Addr}
theorem ok_meet {f : Addr} {fd : FuncData} (F : Fun K "__init__" "Meetings.__init__" s_Meetings_init f fd) (T : Tn K mg aS aE aV CM) (D_all_moves : Df P w K mg base 4 "all_moves" (spAll K w aS aE aV)) (D_all_living : Df P w K mg base 1 "all_living" (spLiving K w aS aE aV)) (D_ways_from : Df P w K mg base 2 "ways_from" (spWays K w)) :
    FnOk P w K mg base CX0 5 f fd ["self", "first", "second"] (spMee K w aS aE aV CM) := by
  refine F.ok sc_Meetings_init (fun vs H Q E h => ?_) (fun cdv A outer s H vs Q E hr h => ?_)
  · obtain ⟨x, dx, f1, f2, P, S, rfl, _⟩ := h
    rfl
  · obtain ⟨x, dx, f1, f2, P1, S1, rfl, hx, hP, hS, cn, okP, okS, nP, q⟩ := h
    refine ⟨_, (pss_cons (ps_fld (pv 0) (pe_c D_all_moves hr (by decide) (by rfl) (pa_cons (pv 1) (pa_cons (pv 2) pa_nil))) rfl)
      (pss_cons (ps_fld (pv 0) (pe_c D_all_living hr (by decide) (by rfl) (pa_cons (pe_fldK (K := K) rfl (pv 0) rfl) pa_nil)) rfl)
      (pss_one (ps_fld (pv 0) (pe_c D_ways_from hr (by decide) (by rfl) (pa_cons (pe_fldK (K := K) rfl (pv 0) rfl) (pa_cons (pe_gv T.gSTART (by rfl)) pa_nil))) rfl)))), ?_⟩
    refine ⟨_, rfl, _, rfl, f1, f2, P1, S1, rfl, hP, hS, cn, okP, okS, nP, fun mv Qs H1 s1 nmv bf eqQ am => ?_⟩
    have hx1 := s1 _ _ hx
    refine ⟨_, rfl, x, CM, dx, _, rfl, hx1, T.cl, T.n1, by show 0 < 1000; decide, ?_⟩
    have i2 : NI H1 (upd H1 x (.ins CM dx (putF "moves" (.ref mv) []))) := NI.put hx1
    have hx2 : upd H1 x (.ins CM dx (putF "moves" (.ref mv) [])) x = some (.ins CM dx (putF "moves" (.ref mv) [])) := upd_same
    have k2 : ∀ b o, H b = some o → b ≠ x → upd H1 x (.ins CM dx (putF "moves" (.ref mv) [])) b = some o := fun b o e n => by
      rw [upd_ne n]
      exact s1 _ _ e
    have am2 := am.ni i2
    have cn2 := (cn.same s1).ni i2
    show Ends.nx _ _ (upd H1 x (.ins CM dx (putF "moves" (.ref mv) [])))
    generalize upd H1 x (.ins CM dx (putF "moves" (.ref mv) [])) = H2 at hx2 k2 am2 cn2 ⊢
    have few : Qs.length ≤ 542 := by
      have := bf.few nP
      have := sum_ok okP
      have := sum_ok okS
      omega
    refine ⟨_, rfl, x, CM, dx, _, V.ref mv, rfl, hx2, T.cl, T.n1, rfl, mv, P1, S1, Qs, rfl, am2, bf, cn2, few, okP, okS, fun ld L H3 s3 nld lv => ?_⟩
    have hx3 := s3 _ _ hx2
    refine ⟨_, rfl, x, CM, dx, _, rfl, hx3, T.cl, T.n2, by show 1 < 1000; decide, ?_⟩
    have i4 : NI H3 (upd H3 x (.ins CM dx (putF "living" (.ref ld) (putF "moves" (.ref mv) [])))) := NI.put hx3
    have hx4 : upd H3 x (.ins CM dx (putF "living" (.ref ld) (putF "moves" (.ref mv) []))) x = some (.ins CM dx (putF "living" (.ref ld) (putF "moves" (.ref mv) []))) := upd_same
    have k4 : ∀ b o, H b = some o → b ≠ x → upd H3 x (.ins CM dx (putF "living" (.ref ld) (putF "moves" (.ref mv) []))) b = some o := fun b o e n => by
      rw [upd_ne n]
      exact s3 _ _ (k2 _ _ e n)
    have am4 := (am2.ni (NI.ofSame s3)).ni i4
    have cn4 := (cn2.same s3).ni i4
    have lv4 := lv.ni i4
    show Ends.nx _ _ (upd H3 x (.ins CM dx (putF "living" (.ref ld) (putF "moves" (.ref mv) []))))
    generalize upd H3 x (.ins CM dx (putF "living" (.ref ld) (putF "moves" (.ref mv) []))) = H4 at hx4 k4 am4 cn4 lv4 ⊢
    refine ⟨_, rfl, x, CM, dx, _, V.ref mv, rfl, hx4, T.cl, T.n1, rfl, mv, aS, P1, S1, Qs, .start, rfl, am4.rd, bf, cn4.st, (bf.all .start).mpr ⟨_, .nil⟩, few, okP, okS, fun wd R W H5 s5 nwd bR wy => ?_⟩
    have hx5 := s5 _ _ hx4
    refine ⟨_, rfl, x, CM, dx, _, rfl, hx5, T.cl, T.n3, by show 2 < 1000; decide, ?_⟩
    have i6 : NI H5 (upd H5 x (.ins CM dx (fM mv ld wd))) := NI.put hx5
    refine q Qs L R W _ (fun b o e n => ?_) ⟨⟨dx, mv, ld, wd, upd_same, (am4.ni (NI.ofSame s5)).ni i6, (lv4.ni (NI.ofSame s5)).ni i6, wy.ni i6, ne_of_none am2.choose_spec.choose_spec.1 nld, ne_of_none am4.choose_spec.choose_spec.1 nwd⟩, bf, bR, few, eqQ⟩
    show upd H5 x _ b = _
    rw [upd_ne n]
    exact s5 _ _ (k4 _ _ e n)
end
end V8
set_option Elab.async false
set_option linter.all false
set_option maxRecDepth 100000
set_option maxHeartbeats 8000000
set_option pp.maxSteps 900
/-! A meeting ended. -/
namespace V8
open PySem PySem.Spec PyProof.Rows L2 MZ
variable {K : PySem.W.Frag} {ω : World}
/-- meetings read: the dict of steps locked or not -/
structure MeeR (K : PySem.W.Frag) (ω : World) (CM : Addr) (P S : List Pr) (Qs L R : List Pl) (W : WyL) (H : Hp) (x : Addr) : Prop where
  at_ : ∃ dx mv ld wd, H x = some (.ins CM dx (fM mv ld wd)) ∧ AllR K ω P S Qs H mv ∧ LivD K ω P S Qs L H ld ∧ WysD K ω P S .start R W H wd
  b : Bfs P S .start Qs Qs.length
  r : Bfs P S .start R R.length
  few : Qs.length ≤ 542
theorem AllR.same {P S : List Pr} {Q : List Pl} {H H' : Hp} {d : Addr} (h : AllR K ω P S Q H d) (s : Same H H') : AllR K ω P S Q H' d := by
  obtain ⟨as, ks, h1, ky, h2⟩ := h
  exact ⟨as, ks, rd_same h1 s, ky_same ky s, prd_imp h2 fun _ _ r => r.up s⟩
theorem MeeR.same {CM : Addr} {P S : List Pr} {Qs L R : List Pl} {W : WyL} {H H' : Hp} {x : Addr} (h : MeeR K ω CM P S Qs L R W H x) (s : Same H H') : MeeR K ω CM P S Qs L R W H' x := by
  obtain ⟨⟨dx, mv, ld, wd, h1, h2, h3, h4⟩, b, c, d⟩ := h
  exact ⟨⟨dx, mv, ld, wd, s _ _ h1, h2.same s, h3.ni (NI.ofSame s), h4.ni (NI.ofSame s)⟩, b, c, d⟩
/-- a way and its end -/
def spEnded (K : PySem.W.Frag) (ω : World) (aS aE aV CM : Addr) : Sp := fun vs H Q _ => ∃ (x c b : Addr) (P S : List Pr) (Qs L R : List Pl) (W : WyL) (w : List Nat × List Nat) (p : Pl), vs = [.ref x, .ref c, .ref b] ∧ MeeR K ω CM P S Qs L R W H x ∧ CnH K aS aE aV H ∧ WyT H c w ∧ wlen w ≤ 700 ∧ PlT K H b p ∧ p ∈ Qs ∧ (∃ v, Way P S p .fin v) ∧ PrOk P ∧ PrOk S ∧
  ∀ (e : Addr) (v : List Nat × List Nat) (H' : Hp), Same H H' → Way P S p .fin v → WyT H' e (w.1 ++ v.1, w.2 ++ v.2) → wlen v ≤ 600 → v = wayTo (waysW P S p) .fin → Q (.ref e) H'
theorem wys_at {P S : List Pr} {o : Pl} {R : List Pl} {W : WyL} {H : Hp} {d : Addr} (h : WysD K ω P S o R W H d) (nd : R.Nodup) {p : Pl} (hp : p ∈ R) : ∃ as ks c, H d = some (DX ω d as ks) ∧ KyA K H as ks ∧ valV ks (plK p) = some (.ref c) ∧ WyT H c (wayTo W p) ∧ Way P S o p (wayTo W p) ∧ wlen (wayTo W p) ≤ 600 := by
  obtain ⟨⟨as, ks, h1, ky, h2⟩, wy, sh, _⟩ := h
  obtain ⟨m, k⟩ := wayTo_has wy hp
  obtain ⟨j, hj, e⟩ := List.getElem_of_mem m
  have hjk : j < ks.length := by rw [prd_len h2]; exact hj
  obtain ⟨y, e1, e2, c, e3, hc⟩ := prd_at h2 (List.getElem?_eq_getElem hjk)
  rw [List.getElem?_eq_getElem hj, e] at e1
  cases e1
  have nk : (ks.map (·.1)).Nodup := by
    rw [keysW h2, wy.keys]
    exact map_nd nd
  exact ⟨as, ks, c, h1, ky, val_at nk (by rw [List.getElem?_eq_getElem hjk]; exact congrArg some (Prod.ext e2 e3)), hc, k, sh _ m⟩
section
variable {P : Program} {w : World} {K : PySem.W.Frag} {mg : Str → Option Value} {base : Heap} {aS aE aV CM : Addr}
theorem ok_ended {f : Addr} {fd : FuncData} (F : Fun K "ended" "ended" s_ended f fd) (T : Tn K mg aS aE aV CM) (D_ways_from : Df P w K mg base 2 "ways_from" (spWays K w)) : FnOk P w K mg base CX0 3 f fd ["meetings", "way", "place"] (spEnded K w aS aE aV CM) := by
  refine F.ok sc_ended (fun vs H Q E h => ?_) (fun cdv A outer s H vs Q E hr h => ?_)
  · obtain ⟨x, c, b, P, S, Qs, L, R, W, y, p, rfl, _⟩ := h
    rfl
  · obtain ⟨x, c, b, P1, S1, Qs, L, R, W, y, p, rfl, me, cn, hc, ly, hb, hp, ⟨v0, k0⟩, okP, okS, q⟩ := h
    refine ⟨_, (pss_cons (ps_asg (pe_dgetY (w := w) (K := K) rfl rfl (hu_of hr) (pe_c D_ways_from hr (by decide) (by rfl) (pa_cons (pe_fldK (K := K) rfl (pv 0) rfl) (pa_cons (pv 2) pa_nil))) (pe_gv T.gEND (by rfl)) (fun _ _ => rfl)) (pg_tup (by rfl) (pgs_cons (pg_name (i := 3) sc_ended.nd rfl (.inl rfl)) (pgs_cons (pg_name (i := 4) sc_ended.nd rfl (.inl rfl)) pgs_nil))))
      (pss_one (ps_ret (pe_tup (pa_cons (pe_op op_add_str (pe_ix (ix_tupK (K := K) rfl) (pv 1) pe_int (fun _ _ => rfl)) (pv 3)) (pa_cons (pe_op op_add_str (pe_ix (ix_tupK (K := K) rfl) (pv 1) pe_int (fun _ _ => rfl)) (pv 4)) pa_nil)))))), ?_⟩
    obtain ⟨⟨dx, mv, ld, wd, hx, am, lv, wy⟩, bf, br, few⟩ := id me
    refine ⟨_, rfl, x, CM, dx, _, V.ref mv, rfl, hx, T.cl, T.n1, fM_m mv ld wd, _, rfl, mv, b, P1, S1, Qs, p, rfl, am, bf, hb, hp, few, okP, okS, fun wd2 R2 W2 H2 s2 _ b2 wy2 => ?_⟩
    have hfin : Pl.fin ∈ R2 := (b2.all .fin).mpr ⟨_, k0⟩
    obtain ⟨as, ks, e, h1, ky, h2, h3, k, l3⟩ := wys_at wy2 b2.nd hfin
    have cn2 := cn.same s2
    have hc2 := s2 _ _ hc
    refine ⟨wd2, _, rfl, by rw [← h2]; exact DGetY.t (k := plK .fin) h1 ky cn2.en, e, _, rfl, .inl (.inl h3), rfl, _, _, rfl, _, _, rfl, rfl, ?_⟩
    have l1 : y.1.length + y.2.length ≤ 700 := ly
    have l2 : (wayTo W2 .fin).1.length + (wayTo W2 .fin).2.length ≤ 600 := l3
    refine ⟨_, rfl, c, _, _, _, rfl, rfl, .inl (.inl hc2), atI_nat (j := 0) rfl, _, rfl, _, _, rfl, rfl, by rw [Sx_len, Sx_len, sizeLine_eq]; omega, ?_⟩
    refine ⟨_, rfl, c, _, _, _, rfl, rfl, .inl (.inl hc2), atI_nat (j := 1) rfl, _, rfl, _, _, rfl, rfl, by rw [Sx_len, Sx_len, sizeLine_eq]; omega, by show 2 ≤ sizeLine; decide, fun d nd => ?_⟩
    rw [Sx_app, Sx_app]
    exact q d _ _ (same_put (s := s2) nd) k upd_same l3 (by rw [wy2.2.2.2])
end
end V8
set_option Elab.async false
set_option linter.all false
set_option maxRecDepth 100000
set_option maxHeartbeats 8000000
set_option pp.maxSteps 900
/-! A meeting that is not alike. -/
namespace V8
open PySem PySem.Spec PyProof.Rows L2 MZ
variable {K : PySem.W.Frag} {ω : World}
def LbOk (P : List Pr) : Prop := ∀ q ∈ P, isLt q.2
def LtW (w : List Nat × List Nat) : Prop := (∀ c ∈ w.1, isLt c) ∧ ∀ c ∈ w.2, isLt c
theorem mo_lt {P S : List Pr} (lP : LbOk P) (lS : LbOk S) {p : Pl} {m : Mo} (h : m ∈ moves P S p) : isLt m.2.1 := by
  cases p with
  | fin => cases h
  | start =>
    obtain ⟨q, hq, rfl⟩ := List.mem_map.mp h
    exact lP q hq
  | rest a r =>
    obtain ⟨q, hq, e⟩ := List.mem_filterMap.mp h
    obtain ⟨t, _, rfl⟩ := Option.map_eq_some_iff.mp e
    cases a with
    | true => exact lS q hq
    | false => exact lP q hq
theorem put_lt {w : List Nat × List Nat} (h : LtW w) (t : Bool) {l : Nat} (hl : isLt l) : LtW (put t l w) := by
  cases t with
  | true =>
    refine ⟨fun c hc => ?_, h.2⟩
    rcases List.mem_append.mp hc with a | a
    · exact h.1 c a
    · rw [List.mem_singleton.mp a]
      exact hl
  | false =>
    refine ⟨h.1, fun c hc => ?_⟩
    rcases List.mem_append.mp hc with a | a
    · exact h.2 c a
    · rw [List.mem_singleton.mp a]
      exact hl
theorem way_lt {P S : List Pr} (lP : LbOk P) (lS : LbOk S) {o p : Pl} {w : List Nat × List Nat} (h : Way P S o p w) : LtW w := by
  induction h with
  | nil => exact ⟨fun c h => (List.not_mem_nil h).elim, fun c h => (List.not_mem_nil h).elim⟩
  | step _ m ih => exact put_lt ih _ (mo_lt lP lS m)
theorem way_start {P S : List Pr} {o : Pl} {w : List Nat × List Nat} (h : Way P S o .start w) : w = ([], []) := by
  cases h with
  | nil => rfl
  | @step p w t l q _ m =>
    exfalso
    cases p with
    | fin => cases m
    | start =>
      obtain ⟨q, hq, e⟩ := List.mem_map.mp m
      cases e
    | rest a r =>
      obtain ⟨q, hq, e⟩ := List.mem_filterMap.mp m
      obtain ⟨t, et, e2⟩ := Option.map_eq_some_iff.mp e
      cases e2
      rcases behind_cases et with ⟨_, z⟩ | ⟨_, _, _, z⟩ | ⟨_, _, _, z⟩ <;> cases z
def ldD : Option (Bool × List Nat) → PyData
  | none => .none
  | some k => .tuple [.str (sideS k.1), .str (Sx k.2)]
theorem ld_dp {K : PySem.W.Frag} {H : Hp} {v : V} {o : Option (Bool × List Nat)} (h : LdO K H v o) : Dp K H v (ldD o) := by
  cases o with
  | none =>
    have h : v = .non := h
    subst h
    exact .non
  | some k =>
    obtain ⟨b, rfl, h1⟩ := h
    exact .tup h1 (.cons (.str _) (.cons (.str _) .nil))
theorem lead_lt {w : List Nat × List Nat} (h : LtW w) {k : Bool × List Nat} (e : lead w = some k) : ∀ c ∈ k.2, isLt c := fun c hc => by
  rcases lead_some e with ⟨_, e2⟩ | ⟨_, _, e2⟩
  · exact h.1 c (by rw [e2]; exact List.mem_append_right _ hc)
  · exact h.2 c (by rw [e2]; exact List.mem_append_right _ hc)
theorem ld_shaped {o : Option (Bool × List Nat)} (h : ∀ k, o = some k → ∀ c ∈ k.2, isLt c) : SeqAt.shaped (ldD o) = true := by
  cases o with
  | none => rfl
  | some k =>
    have ok1 : PyData.strOk (sideS k.1) = true := by
      cases k.1 with
      | true => exact (show PyData.strOk (sideS true) = true by decide +kernel)
      | false => exact (show PyData.strOk (sideS false) = true by decide +kernel)
    have ok2 : PyData.strOk (Sx k.2) = true := ok_sx (h k rfl)
    refine shaped_of (by simp only [ldD, PyData.canLay0, PyData.canLayAll0, ok1, ok2]; rfl) ?_
    simp [ldD, PyData.depth, PyData.depthAll]
theorem ld_eqv (k : Bool × List Nat) (o : Option (Bool × List Nat)) : PyData.eqv (ldD (some k)) (ldD o) = decide (o = some k) := by
  cases o with
  | none => rfl
  | some j =>
    show (decide (sideS k.1 = sideS j.1) && (decide (Sx k.2 = Sx j.2) && true)) = _
    rw [Bool.and_true, Bool.eq_iff_iff, Bool.and_eq_true, decide_eq_true_iff, decide_eq_true_iff, decide_eq_true_iff]
    exact ⟨fun h => by rw [Prod.ext (side_inj h.1) (Sx_inj h.2)], fun h => by rw [Option.some.inj h]; exact ⟨rfl, rfl⟩⟩
theorem all_at {P S : List Pr} {Q : List Pl} {H : Hp} {d : Addr} (h : AllR K ω P S Q H d) (nd : Q.Nodup) {p : Pl} (hp : p ∈ Q) : ∃ as kvs v, Rd H d (DX ω d as kvs) ∧ KyA K H as kvs ∧ valV kvs (plK p) = some v ∧ MoL K H v (moves P S p) := by
  obtain ⟨as, ks, h1, ky, h2⟩ := h
  obtain ⟨j, hj, e⟩ := List.getElem_of_mem hp
  have hjk : j < ks.length := by rw [prd_len h2]; exact hj
  obtain ⟨y, e1, e2, ml⟩ := prd_at h2 (List.getElem?_eq_getElem hjk)
  rw [List.getElem?_eq_getElem hj, e] at e1
  cases e1
  have nk : (ks.map (·.1)).Nodup := by
    rw [keysM h2]
    exact map_nd nd
  exact ⟨as, ks, ks[j].2, h1, ky, val_at nk (by rw [List.getElem?_eq_getElem hjk]; exact congrArg some (Prod.ext e2 rfl)), ml⟩
theorem wlen_app (a v : List Nat × List Nat) : wlen (a.1 ++ v.1, a.2 ++ v.2) = wlen a + wlen v := by
  show (a.1 ++ v.1).length + (a.2 ++ v.2).length = (a.1.length + a.2.length) + (v.1.length + v.2.length)
  rw [List.length_append, List.length_append]
  omega
open Classical in
/-- whether the end can be reached -/
noncomputable def livesB (P S : List Pr) (p : Pl) : Bool := decide (∃ v, Way P S p .fin v)
open Classical in
theorem livesB_iff {P S : List Pr} {p : Pl} : livesB P S p = true ↔ ∃ v, Way P S p .fin v := by
  unfold livesB
  exact decide_eq_true_iff
/-- the meeting that is made of an odd step -/
def foundW (P S : List Pr) (p : Pl) (m : Mo) : List Nat × List Nat :=
  if (put m.1 m.2.1 (wayTo (waysW P S .start) p)).1 ++ (wayTo (waysW P S m.2.2) .fin).1 = (put m.1 m.2.1 (wayTo (waysW P S .start) p)).2 ++ (wayTo (waysW P S m.2.2) .fin).2
  then ((wayTo (waysW P S .start) m.2.2).1 ++ (wayTo (waysW P S m.2.2) .fin).1, (wayTo (waysW P S .start) m.2.2).2 ++ (wayTo (waysW P S m.2.2) .fin).2)
  else ((put m.1 m.2.1 (wayTo (waysW P S .start) p)).1 ++ (wayTo (waysW P S m.2.2) .fin).1, (put m.1 m.2.1 (wayTo (waysW P S .start) p)).2 ++ (wayTo (waysW P S m.2.2) .fin).2)
noncomputable def oddB (P S : List Pr) (p : Pl) (m : Mo) : Bool := livesB P S m.2.2 && oddM (waysW P S .start) p m
noncomputable def oddsW (P S : List Pr) : List (Pl × Mo) := (placesQ P S).flatMap fun p => ((moves P S p).filter (oddB P S p)).map fun m => (p, m)
/-- the meeting that is told, as the program finds it -/
noncomputable def unlikeW (P S : List Pr) : Option (List Nat × List Nat) := (oddsW P S).head?.map fun z => foundW P S z.1 z.2
theorem filter_first {α : Type} {f : α → Bool} {l : List α} {i : Nat} {x : α} (e : l[i]? = some x) (h : f x = true) (no : ∀ j y, j < i → l[j]? = some y → f y = false) : ∃ r, l.filter f = x :: r := by
  obtain ⟨hi, ex⟩ := List.getElem?_eq_some_iff.mp e
  refine ⟨(l.drop (i + 1)).filter f, ?_⟩
  have e0 : (l.take i).filter f = [] := List.filter_eq_nil_iff.mpr fun y hy => by
    obtain ⟨j, hj, ey⟩ := List.getElem_of_mem hy
    have hji : j < i := by rw [List.length_take] at hj; omega
    have e1 : l[j]? = some y := by
      rw [List.getElem_take] at ey
      rw [List.getElem?_eq_getElem (by omega), ey]
    rw [no j y hji e1]
    decide
  conv => lhs; rw [← List.take_append_drop i l, List.filter_append, e0, List.drop_eq_getElem_cons hi, List.filter_cons, ex, if_pos h]
  rfl
theorem odds_first {P S : List Pr} {i k : Nat} {p : Pl} {m : Mo} (hp : (placesQ P S)[i]? = some p) (hm : (moves P S p)[k]? = some m) (h : oddB P S p m = true)
    (no : ∀ j p', j < i → (placesQ P S)[j]? = some p' → ∀ m' ∈ moves P S p', oddB P S p' m' = false) (no2 : ∀ j m', j < k → (moves P S p)[j]? = some m' → oddB P S p m' = false) : unlikeW P S = some (foundW P S p m) := by
  obtain ⟨r, er⟩ := filter_first hm h no2
  obtain ⟨hi, ep⟩ := List.getElem?_eq_some_iff.mp hp
  have e0 : ((placesQ P S).take i).flatMap (fun p => ((moves P S p).filter (oddB P S p)).map fun m => (p, m)) = [] := List.flatMap_eq_nil_iff.mpr fun y hy => by
    obtain ⟨j, hj, ey⟩ := List.getElem_of_mem hy
    have hji : j < i := by rw [List.length_take] at hj; omega
    have e1 : (placesQ P S)[j]? = some y := by
      rw [List.getElem_take] at ey
      rw [List.getElem?_eq_getElem (by omega), ey]
    rw [List.filter_eq_nil_iff.mpr fun m' hm' => by rw [no j y hji e1 m' hm']; decide]
    rfl
  have e1 : oddsW P S = (p, m) :: (r.map (fun m => (p, m)) ++ ((placesQ P S).drop (i + 1)).flatMap (fun p => ((moves P S p).filter (oddB P S p)).map fun m => (p, m))) := by
    unfold oddsW
    conv => lhs; rw [← List.take_append_drop i (placesQ P S), List.flatMap_append, e0, List.drop_eq_getElem_cons hi, List.flatMap_cons, ep, er]
    rfl
  unfold unlikeW
  rw [e1]
  rfl
def spUnlike (K : PySem.W.Frag) (ω : World) (aS aE aV CM : Addr) : Sp := fun vs H Q _ => ∃ (x : Addr) (P S : List Pr) (Qs L R : List Pl) (W : WyL), vs = [.ref x] ∧ MeeA K ω CM P S Qs L R W H x ∧ CnH K aS aE aV H ∧ PrOk P ∧ PrOk S ∧ LbOk P ∧ LbOk S ∧ (∀ q ∈ P, q.1 ≠ []) ∧
  (Alike P S → ∀ H', Same H H' → Q .non H') ∧ ∀ (e : Addr) (w : List Nat × List Nat) (H' : Hp), Same H H' → WyT H' e w → Way P S .start .fin w → w.1 ≠ w.2 → wlen w ≤ 1300 → unlikeW P S = some w → Q (.ref e) H'
section
variable {P : Program} {w : World} {K : PySem.W.Frag} {mg : Str → Option Value} {base : Heap} {aS aE aV CM : Addr}
theorem ok_unlike {f : Addr} {fd : FuncData} (F : Fun K "unlike_meeting" "unlike_meeting" s_unlike_meeting f fd) (T : Tn K mg aS aE aV CM) (D_with_label : Df P w K mg base 1 "with_label" spLabel) (D_lead_of : Df P w K mg base 1 "lead_of" (spLead K)) (D_ended : Df P w K mg base 3 "ended" (spEnded K w aS aE aV CM)) : FnOk P w K mg base CX0 4 f fd ["meetings"] (spUnlike K w aS aE aV CM) := by
  refine F.ok sc_unlike_meeting (fun vs H Q E h => ?_) (fun cdv A outer s H vs Q E hr h => ?_)
  · obtain ⟨x, P, S, Qs, L, R, W, rfl, _⟩ := h
    rfl
  · obtain ⟨x, P1, S1, Qs, L, R, W, rfl, ⟨⟨dx, mv, ld, wd, hx, ⟨vs, kvs, hd, kyv, pk⟩, lv, wy, nml, nmw⟩, bf, br, few, eqQ⟩, cn, okP, okS, lP, lS, nP, qn, qf⟩ := h
    refine ⟨_, (pss_cons (ps_lock (ps_for PassesOwn.never rfl (pi_keysXt (w := w) rfl (pe_fldK (K := K) rfl (pv 0) rfl)) (pg_name (i := 1) sc_unlike_meeting.nd rfl (.inl rfl))
        (pss_one (ps_for PassesOwn.never rfl (pi_list (pe_dgetY (w := w) (K := K) rfl rfl (hu_of hr) (pe_fldK (K := K) rfl (pv 0) rfl) (pv 1) (fun _ _ => rfl))) (pg_tup (by rfl) (pgs_cons (pg_name (i := 2) sc_unlike_meeting.nd rfl (.inl rfl)) (pgs_cons (pg_name (i := 3) sc_unlike_meeting.nd rfl (.inl rfl)) (pgs_cons (pg_name (i := 4) sc_unlike_meeting.nd rfl (.inl rfl)) pgs_nil))))
          (pss_one (ps_if (pt_cmp (pc_dinY (w := w) (K := K) rfl rfl (hu_of hr) (pv 4) (pe_fldK (K := K) rfl (pv 0) rfl)))
            (pss_cons (ps_set (i := 5) sc_unlike_meeting.nd rfl (.inl rfl) (pe_c D_with_label hr (by decide) (by rfl) (pa_cons (pe_dgetY (w := w) (K := K) rfl rfl (hu_of hr) (pe_fldK (K := K) rfl (pv 0) rfl) (pv 1) (fun _ _ => rfl)) (pa_cons (pv 2) (pa_cons (pv 3) pa_nil)))))
            (pss_cons (ps_set (i := 6) sc_unlike_meeting.nd rfl (.inl rfl) (pe_c D_lead_of hr (by decide) (by rfl) (pa_cons (pv 5) pa_nil)))
            (pss_cons (ps_set (i := 7) sc_unlike_meeting.nd rfl (.inl rfl) (pe_ifExp (pt_cmpR (op_eqDK (K := K) rfl hr.units) (pv 4) (pe_gv T.gEND (by rfl)) (nomark _)) (pe_gv T.gEVEN (by rfl)) (pe_c D_lead_of hr (by decide) (by rfl) (pa_cons (pe_dgetY (w := w) (K := K) rfl rfl (hu_of hr) (pe_fldK (K := K) rfl (pv 0) rfl) (pv 4) (fun _ _ => rfl)) pa_nil))))
            (pss_one (ps_if (PW.pt (pw_or (pt_cmpR op_isN (pv 6) pe_non (nomark _)) (pw_or1 (pt_cmpR (op_neDK (K := K) rfl hr.units) (pv 6) (pv 7) (nomark _)))))
              (pss_cons (ps_set (i := 8) sc_unlike_meeting.nd rfl (.inl rfl) (pe_c D_ended hr (by decide) (by rfl) (pa_cons (pv 0) (pa_cons (pv 5) (pa_cons (pv 4) pa_nil)))))
              (pss_one (ps_ret (pe_ifExp (pt_cmpR op_eq (pe_ix (ix_tupK (K := K) rfl) (pv 8) pe_int (fun _ _ => rfl)) (pe_ix (ix_tupK (K := K) rfl) (pv 8) pe_int (fun _ _ => rfl)) (nomark _)) (pe_c D_ended hr (by decide) (by rfl) (pa_cons (pv 0) (pa_cons (pe_dgetY (w := w) (K := K) rfl rfl (hu_of hr) (pe_fldK (K := K) rfl (pv 0) rfl) (pv 4) (fun _ _ => rfl)) (pa_cons (pv 4) pa_nil)))) (pv 8)))))
              pss_nil)))))
            pss_nil))))))
      (pss_one (ps_ret pe_non))), ?_⟩
    have lkv := prd_len pk
    have lvs := prd_len kyv
    have lv0 : Liv P1 S1 L ∧ ∀ p ∈ Qs, ∀ v, Way P1 S1 p .fin v → p ∈ L := ⟨lv.liv, lv.all⟩
    refine ⟨mv, _, hd, True.intro, fun od => ⟨_, rfl, x, CM, dx, _, V.ref mv, rfl, ?_, T.cl, T.n1, fM_m mv ld wd, mv, od, vs, kvs, rfl, upd_same, ?_⟩⟩
    · rw [upd_ne (ne_of hx hd (fun z => nomatch z))]
      exact hx
    have sf : ∀ c u, H c = some u → c ≠ mv → upd H mv (.frz od (DX w mv vs kvs)) c = some u := fun c u e n => by
      rw [upd_ne n]
      exact e
    have back : ∀ {H' : Hp}, Same (upd H mv (.frz od (DX w mv vs kvs))) H' → Same H (upd H' mv (DX w mv vs kvs)) := fun {H'} s b o e => by
      by_cases hb : b = mv
      · rw [hb, upd_same]
        rw [hb, hd] at e
        exact e
      · rw [upd_ne hb]
        exact s _ _ (sf _ _ e hb)
    have ndK : (kvs.map (·.1)).Nodup := by
      rw [keysM pk]
      exact map_nd bf.nd
    have upS : ∀ {y : Addr} {xs : List V}, SqT K H y xs → SqT K (upd H mv (.frz od (DX w mv vs kvs))) y xs := fun e => sq_dx e hd
    have upT : ∀ {y : Addr} {xs : List V}, H y = some (.tup xs) → upd H mv (.frz od (DX w mv vs kvs)) y = some (.tup xs) := fun e => sf _ _ e (ne_of e hd (fun z => nomatch z))
    have upL : ∀ {y : Addr} {xs : List V}, H y = some (.lst xs) → upd H mv (.frz od (DX w mv vs kvs)) y = some (.lst xs) := fun e => sf _ _ e (ne_of e hd (fun z => nomatch z))
    have pk1 : Paired (MvD K P1 S1 (upd H mv (.frz od (DX w mv vs kvs)))) kvs Qs := prd_imp pk fun _ _ ⟨e, d, xs, e2, h1, h2⟩ => ⟨e, d, xs, e2, upL h1, prd_imp h2 fun _ _ ⟨c, b, e3, h3, h4⟩ => ⟨c, b, e3, upT h3, upS h4⟩⟩
    have kyv1 : KyA K (upd H mv (.frz od (DX w mv vs kvs))) vs kvs := prd_imp kyv fun _ _ z => upS z
    have me1 : MeeR K w CM P1 S1 Qs L R W (upd H mv (.frz od (DX w mv vs kvs))) x := by
      obtain ⟨⟨as, ks, h1, ky1, h2⟩, h3, h4⟩ := lv
      obtain ⟨⟨a2, k2, h5, ky2, h6⟩, h7, h8, h9⟩ := wy
      exact ⟨⟨dx, mv, ld, wd, sf _ _ hx (ne_of hx hd (fun z => nomatch z)), ⟨vs, kvs, .inr ⟨od, upd_same⟩, kyv1, pk1⟩, ⟨⟨as, ks, sf _ _ h1 (Ne.symm nml), prd_imp ky1 fun _ _ z => upS z, h2⟩, h3, h4⟩, ⟨⟨a2, k2, sf _ _ h5 (Ne.symm nmw), prd_imp ky2 fun _ _ z => upS z, prd_imp h6 fun _ _ ⟨e, c, e2, h⟩ => ⟨e, c, e2, upT h⟩⟩, h7, h8, h9⟩⟩, bf, br, few⟩
    have cn1 : CnH K aS aE aV (upd H mv (.frz od (DX w mv vs kvs))) := ⟨upS cn.st, upS cn.en, upS cn.ev⟩
    have hmv1 : upd H mv (.frz od (DX w mv vs kvs)) mv = some (.frz od (DX w mv vs kvs)) := upd_same
    clear upT upS upL pk cn hx sf lv kyv
    generalize upd H mv (.frz od (DX w mv vs kvs)) = H1 at back pk1 me1 cn1 hmv1 kyv1 ⊢
    have wyW := wy.2.1
    have eWW := wy.2.2.2
    have tell : ∀ {i i2 : Nat} {p : Pl} {m : Mo}, Qs[i]? = some p → (moves P1 S1 p)[i2]? = some m → m.2.2 ∈ L → oddM W p m = true → (∀ j p', j < i → Qs[j]? = some p' → ∀ m ∈ moves P1 S1 p', m.2.2 ∈ L → oddM W p' m = false) → (∀ k m', k < i2 → (moves P1 S1 p)[k]? = some m' → m'.2.2 ∈ L → oddM W p m' = false) → unlikeW P1 S1 = some (foundW P1 S1 p m) := fun {i i2 p m} hp hm hl ho n1 n2 => by
      have toL : ∀ {p' : Pl} {m' : Mo}, p' ∈ Qs → m' ∈ moves P1 S1 p' → livesB P1 S1 m'.2.2 = true → m'.2.2 ∈ L := fun {p' m'} hp' hm' hl' => by
        obtain ⟨v, k⟩ := livesB_iff.mp hl'
        obtain ⟨w0, k0⟩ := bf.reach p' hp'
        exact lv0.2 _ ((bf.all _).mpr ⟨_, k0.step (t := m'.1) (l := m'.2.1) (q := m'.2.2) hm'⟩) v k
      have no : ∀ {p' : Pl} {m' : Mo}, p' ∈ Qs → m' ∈ moves P1 S1 p' → (m'.2.2 ∈ L → oddM W p' m' = false) → oddB P1 S1 p' m' = false := fun {p' m'} hp' hm' z => by
        unfold oddB
        cases el : livesB P1 S1 m'.2.2 with
        | false => rfl
        | true => rw [Bool.true_and, ← eWW, z (toL hp' hm' el)]
      rw [eqQ] at hp
      refine odds_first hp hm ?_ (fun j p' hj e m' hm' => ?_) fun j m' hj e => ?_
      · unfold oddB
        rw [livesB_iff.mpr (lv0.1.live _ hl), ← eWW, ho]
        rfl
      · rw [← eqQ] at e
        exact no (List.mem_of_getElem? e) hm' (n1 j p' hj e m' hm')
      · rw [← eqQ] at hp
        exact no (List.mem_of_getElem? hp) (List.mem_of_getElem? e) (n2 j m' hj e)
    have QR : ∀ p, p ∈ Qs → p ∈ R := fun p hp => (br.all p).mpr ((bf.all p).mp hp)
    have h0 : wayTo W .start = ([], []) := way_start (wayTo_has wyW ((br.all .start).mpr ⟨_, .nil⟩)).2
    refine for_it (walk_keysX (w := w) (d := mv) (o := od) (as := vs) (kvs := kvs)) (fun i σ H4 => (∃ v1 v2 v3 v4 v5 v6 v7 v8 : Option V, σ = [some (.ref x), v1, v2, v3, v4, v5, v6, v7, v8]) ∧ Same H1 H4 ∧ ∀ j p, j < i → Qs[j]? = some p → ∀ m ∈ moves P1 S1 p, m.2.2 ∈ L → oddM W p m = false) ?_ ?_ ?_ ?_
    · exact ⟨⟨_, _, _, _, _, _, _, _, rfl⟩, Same.refl _, fun j p hj => absurd hj (Nat.not_lt_zero _)⟩
    · rintro i σ H4 hi ⟨_, s4, _⟩
      exact s4 _ _ hmv1
    · rintro i y σ H40 H4 hi ⟨⟨v1, v2, v3, v4, v5, v6, v7, v8, rfl⟩, s4, no⟩ ⟨rfl, qk, hbk, rfl⟩
      obtain ⟨⟨k, v⟩, hkv, hqk0⟩ := prd_at kyv1 hbk
      obtain ⟨p, hp, ek, ml⟩ := prd_at pk1 hkv
      have ek : k = plK p := ek
      subst ek
      have hqk : PlT K H4 qk p := sq_same hqk0 s4
      have hpQ : p ∈ Qs := List.mem_of_getElem? hp
      have me4 := me1.same s4
      obtain ⟨⟨dx1, mv1, ld1, wd1, hx1, am1, lv1, wy1⟩, _, _, _⟩ := id me4
      obtain ⟨vs1, kv1, v1', hr1, hky1, hv1, d0, xs, ev, hxs, prx⟩ := all_at am1 bf.nd hpQ
      subst ev
      have lx := prd_len prx
      refine ⟨_, rfl, x, CM, dx1, _, V.ref mv1, rfl, hx1, T.cl, T.n1, fM_m mv1 ld1 wd1, _, rfl, mv1, _, rfl, ⟨vs1, kv1, plK p, qk, hr1, hky1, rfl, hqk, hv1.symm⟩, d0, rfl, ⟨_, SqL.of hxs⟩, ?_⟩
      refine for_it (walk_list (K := K) (a := d0) (xs := xs)) (fun i2 σ H5 => (∃ v2 v3 v4 v5 v6 v7 v8 : Option V, σ = [some (.ref x), some (.ref qk), v2, v3, v4, v5, v6, v7, v8]) ∧ Same H4 H5 ∧ ∀ k m, k < i2 → (moves P1 S1 p)[k]? = some m → m.2.2 ∈ L → oddM W p m = false) ?_ ?_ ?_ ?_
      · exact ⟨⟨_, _, _, _, _, _, _, rfl⟩, Same.refl _, fun k m hk => absurd hk (Nat.not_lt_zero _)⟩
      · rintro i2 σ H5 hi2 ⟨_, s5, _⟩
        exact SqL.of (s5 _ _ hxs)
      · rintro i2 y σ H50 H5 hi2 ⟨⟨v2, v3, v4, v5, v6, v7, v8, rfl⟩, s5, no5⟩ ⟨rfl, hy⟩
        obtain ⟨m, hm, mo⟩ := prd_at prx hy
        obtain ⟨c, b4, rfl, hc5, hb5⟩ := mo.same s5
        have hmm : m ∈ moves P1 S1 p := List.mem_of_getElem? hm
        have me5 := me4.same s5
        have cn5 := (cn1.same s4).same s5
        obtain ⟨⟨dx2, mv2, ld2, wd2, hx2, am2, lv2, wy2⟩, _, _, _⟩ := id me5
        obtain ⟨al, kl, hl2, hkl, kL⟩ := lv2.at_
        have next : oddM W p m = false ∨ m.2.2 ∉ L → ∀ k m', k < i2 + 1 → (moves P1 S1 p)[k]? = some m' → m'.2.2 ∈ L → oddM W p m' = false := fun z k m' hk e hL => by
          by_cases hk2 : k < i2
          · exact no5 k m' hk2 e hL
          · have : k = i2 := by omega
            subst this
            rw [hm] at e
            cases e
            rcases z with z | z
            · exact z
            · exact absurd hL z
        refine ⟨c, _, rfl, .inl (.inl hc5), rfl, _, _, rfl, _, _, rfl, _, _, rfl, rfl, ?_⟩
        refine ⟨_, rfl, _, rfl, x, CM, dx2, _, V.ref ld2, rfl, hx2, T.cl, T.n2, fM_l mv2 ld2 wd2, ld2, _, rfl, DGetY.t (k := plK m.2.2) hl2 hkl hb5, _, rfl, ?_⟩
        rw [keysP_is kL]
        by_cases hin : m.2.2 ∈ L
        · rw [decide_eq_true hin]
          refine iteT ?_
          have hqk5 := sq_same hqk s5
          obtain ⟨aw, kw, cw, hw1, hwk, hw2, hw3, kw4, lw5⟩ := wys_at wy2 br.nd (QR p hpQ)
          have lw : (wayTo W p).1.length + (wayTo W p).2.length ≤ 600 := lw5
          refine ⟨_, rfl, x, CM, dx2, _, V.ref wd2, rfl, hx2, T.cl, T.n3, fM_w mv2 ld2 wd2, _, rfl, wd2, _, rfl, (by rw [← hw2]; exact DGetY.t (k := plK p) hw1 hwk hqk5), _, rfl, _, rfl, cw, wayTo W p, m.1, m.2.1, rfl, hw3, by omega, by omega, fun ca H6 s6 hca => ?_⟩
          have kst : Way P1 S1 .start m.2.2 (put m.1 m.2.1 (wayTo W p)) := kw4.step (t := m.1) (l := m.2.1) (q := m.2.2) hmm
          have ltw := way_lt lP lS kst
          have l6 : (put m.1 m.2.1 (wayTo W p)).1.length + (put m.1 m.2.1 (wayTo W p)).2.length ≤ 601 := by
            have := wput_len m.1 m.2.1 (wayTo W p)
            unfold wlen at this
            omega
          have l6w : wlen (put m.1 m.2.1 (wayTo W p)) ≤ 601 := l6
          refine ⟨_, rfl, ca, _, rfl, hca, by omega, by omega, fun lv_ H7 s7 hl7 => ?_⟩
          have hqR : m.2.2 ∈ R := (br.all _).mpr ⟨_, kst⟩
          have s57 : Same H5 H7 := fun b o e => s7 _ _ (s6 _ _ e)
          have me7 := me5.same s57
          have cn7 := cn5.same s57
          have hb7 := sq_same hb5 s57
          obtain ⟨⟨dx7, mv7, ld7, wd7, hx7, am7, lvv7, wy7⟩, _, _, _⟩ := id me7
          obtain ⟨aq0, kq0, cq0, hq10, hqk0, hq20, hq30, kq40, lq50⟩ := wys_at wy7 br.nd hqR
          have lq0 : (wayTo W m.2.2).1.length + (wayTo W m.2.2).2.length ≤ 600 := lq50
          have pok := reach_ok nP okP okS kst
          refine via (t := tIf (tTest (tOp (rEqD K) (tVar 4) (tC (V.ref aE)))) (tC (V.ref aV)) (tCall (spLead K) [] E0 (tCons (tDGetY w K (tFld K (tVar 0) "ways") (tVar 4)) tNil))) (fun kv H8 => Same H7 H8 ∧ LdO K H8 kv (known (wayTo W) m.2.2)) (fun R' hR => ?_) (fun kv H8 z => ?_)
          · refine ⟨_, rfl, plD m.2.2, plD .fin, pl_dp hb7, pl_dp cn7.en, pl_shaped pok, pl_shaped True.intro, _, rfl, ?_⟩
            rw [pl_eqv]
            by_cases ef : m.2.2 = .fin
            · rw [decide_eq_true ef]
              refine iteT (hR _ _ ⟨Same.refl _, ?_⟩)
              rw [ef]
              exact ⟨aV, rfl, cn7.ev⟩
            · rw [decide_eq_false ef]
              refine iteF ⟨_, rfl, x, CM, dx7, _, V.ref wd7, rfl, hx7, T.cl, T.n3, fM_w mv7 ld7 wd7, _, rfl, wd7, _, rfl, (by rw [← hq20]; exact DGetY.t (k := plK m.2.2) hq10 hqk0 hb7), cq0, _, rfl, hq30, by omega, by omega, fun kv H8 s8 h8 => hR _ _ ⟨s8, ?_⟩⟩
              have e : known (wayTo W) m.2.2 = lead (wayTo W m.2.2) := by
                cases eq : m.2.2 with
                | fin => exact absurd eq ef
                | start => rfl
                | rest a r => rfl
              rw [e]
              exact h8
          obtain ⟨s8, hk8⟩ := z
          have s58 : Same H5 H8 := fun b o e => s8 _ _ (s57 _ _ e)
          have hca8 := s8 _ _ (s7 _ _ hca)
          have hb8 := sq_same hb5 s58
          have hl8 : LdO K H8 lv_ (lead (put m.1 m.2.1 (wayTo W p))) := by
            cases e : lead (put m.1 m.2.1 (wayTo W p)) with
            | none =>
              rw [e] at hl7
              exact hl7
            | some k =>
              rw [e] at hl7
              obtain ⟨b, e2, h⟩ := hl7
              exact ⟨b, e2, sq_same h s8⟩
          cases el : lead (put m.1 m.2.1 (wayTo W p)) with
          | none =>
            rw [el] at hl8
            have hl8 : lv_ = .non := hl8
            subst hl8
            have hodd : oddM W p m = true := by
              unfold oddM
              rw [el]
            refine ⟨_, rfl, rfl, true, rfl, iteT ?_⟩
            obtain ⟨v0, k0⟩ := lv0.1.live _ hin
            have hqQ : m.2.2 ∈ Qs := (bf.all _).mpr ⟨_, kst⟩
            refine ⟨_, rfl, _, rfl, _, rfl, x, ca, b4, P1, S1, Qs, L, R, W, put m.1 m.2.1 (wayTo W p), m.2.2, rfl, me5.same s58, cn5.same s58, hca8, by omega, hb8, hqQ, ⟨v0, k0⟩, okP, okS, fun e1 v1 H9 s9 kv1 he1 lv1 ev1 => ?_⟩
            obtain ⟨o1, o2, o3⟩ := odd_meets br wyW (QR p hpQ) hmm kv1 hodd
            have l9 : v1.1.length + v1.2.length ≤ 600 := lv1
            have s59 : Same H5 H9 := fun b o e => s9 _ _ (s58 _ _ e)
            have me9 := me5.same s59
            obtain ⟨⟨dx9, mv9, ld9, wd9, hx9, am9, lvv9, wy9⟩, _, _, _⟩ := id me9
            refine ⟨_, rfl, e1, _, _, _, rfl, rfl, .inl (.inl he1), atI_nat (j := 0) rfl, _, rfl, e1, _, _, _, rfl, rfl, .inl (.inl he1), atI_nat (j := 1) rfl, rfl, _, rfl, ?_⟩
            rw [Sx_eq]
            by_cases eq1 : (put m.1 m.2.1 (wayTo W p)).1 ++ v1.1 = (put m.1 m.2.1 (wayTo W p)).2 ++ v1.2
            · rw [decide_eq_true eq1]
              obtain ⟨aq, kq, cq, hq1, hqky, hq2, hq3, kq4, lq5⟩ := wys_at wy9 br.nd (QR _ hqQ)
              refine iteT ⟨_, rfl, _, rfl, x, CM, dx9, _, V.ref wd9, rfl, hx9, T.cl, T.n3, fM_w mv9 ld9 wd9, _, rfl, wd9, _, rfl, (by rw [← hq2]; exact DGetY.t (k := plK m.2.2) hq1 hqky (sq_same hb5 s59)), _, rfl, x, cq, b4, P1, S1, Qs, L, R, W, wayTo W m.2.2, m.2.2, rfl, me9, cn5.same s59, hq3, by omega, sq_same hb5 s59, hqQ, ⟨v0, k0⟩, okP, okS, fun e2 v2 H10 s10 kv2 he2 lv2 ev2 => ?_⟩
              have ev : v2 = v1 := ev2.trans ev1.symm
              rw [ev] at kv2 he2 lv2
              have sA : Same H1 H10 := fun b o e => s10 _ _ (s59 _ _ (s5 _ _ (s4 _ _ e)))
              have lq : (wayTo W m.2.2).1.length + (wayTo W m.2.2).2.length ≤ 600 := lq5
              exact ⟨sA _ _ hmv1, qf e2 _ _ (back sA) (by show upd _ _ _ _ = _; rw [upd_ne (ne_of he2 (sA _ _ hmv1) (fun z => nomatch z))]; exact he2) o2 (o3 eq1) (by rw [wlen_app]; unfold wlen; omega) (by
                rw [tell hp hm hin hodd no no5]
                unfold foundW
                rw [← eWW, ← ev1, if_pos eq1])⟩
            · rw [decide_eq_false eq1]
              have sA : Same H1 H9 := fun b o e => s59 _ _ (s5 _ _ (s4 _ _ e))
              exact iteF ⟨_, rfl, sA _ _ hmv1, qf e1 _ _ (back sA) (by show upd _ _ _ _ = _; rw [upd_ne (ne_of he1 (sA _ _ hmv1) (fun z => nomatch z))]; exact he1) o1 eq1 (by rw [wlen_app]; unfold wlen; omega) (by
                rw [tell hp hm hin hodd no no5]
                unfold foundW
                rw [← eWW, ← ev1, if_neg eq1])⟩
          | some k =>
            rw [el] at hl8
            have hl9 := hl8
            obtain ⟨bk, rfl, hbk⟩ := hl8
            have hkn : ∀ j, known (wayTo W) m.2.2 = some j → ∀ c ∈ j.2, isLt c := fun j e => by
              cases eq : m.2.2 with
              | fin =>
                rw [eq] at e
                cases e
                exact fun c hc => absurd hc List.not_mem_nil
              | start =>
                rw [eq] at e
                rw [h0] at *
                exact lead_lt (w := wayTo W .start) (way_lt lP lS (wayTo_has wyW ((br.all .start).mpr ⟨_, .nil⟩)).2) e
              | rest a r =>
                rw [eq] at e kq40
                exact lead_lt (way_lt lP lS kq40) e
            refine ⟨_, rfl, rfl, false, rfl, iteF ⟨_, rfl, _, rfl, ldD (some k), ldD (known (wayTo W) m.2.2), ld_dp hl9, ld_dp hk8, ld_shaped (fun j e => by cases e; exact lead_lt ltw el), ld_shaped hkn, _, rfl, ?_⟩⟩
            rw [ld_eqv]
            by_cases ek2 : known (wayTo W) m.2.2 = some k
            · rw [decide_eq_true ek2]
              refine iteF ⟨⟨_, _, _, _, _, _, _, rfl⟩, fun b o e => s58 _ _ (s5 _ _ e), next (.inl ?_)⟩
              unfold oddM
              rw [el]
              exact decide_eq_false fun z => z ek2
            · rw [decide_eq_false ek2]
              have hodd : oddM W p m = true := by
                unfold oddM
                rw [el]
                exact decide_eq_true ek2
              refine iteT ?_
              obtain ⟨v0, k0⟩ := lv0.1.live _ hin
              have hqQ : m.2.2 ∈ Qs := (bf.all _).mpr ⟨_, kst⟩
              refine ⟨_, rfl, _, rfl, _, rfl, x, ca, b4, P1, S1, Qs, L, R, W, put m.1 m.2.1 (wayTo W p), m.2.2, rfl, me5.same s58, cn5.same s58, hca8, by omega, hb8, hqQ, ⟨v0, k0⟩, okP, okS, fun e1 v1 H9 s9 kv1 he1 lv1 ev1 => ?_⟩
              obtain ⟨o1, o2, o3⟩ := odd_meets br wyW (QR p hpQ) hmm kv1 hodd
              have l9 : v1.1.length + v1.2.length ≤ 600 := lv1
              have s59 : Same H5 H9 := fun b o e => s9 _ _ (s58 _ _ e)
              have me9 := me5.same s59
              obtain ⟨⟨dx9, mv9, ld9, wd9, hx9, am9, lvv9, wy9⟩, _, _, _⟩ := id me9
              refine ⟨_, rfl, e1, _, _, _, rfl, rfl, .inl (.inl he1), atI_nat (j := 0) rfl, _, rfl, e1, _, _, _, rfl, rfl, .inl (.inl he1), atI_nat (j := 1) rfl, rfl, _, rfl, ?_⟩
              rw [Sx_eq]
              by_cases eq1 : (put m.1 m.2.1 (wayTo W p)).1 ++ v1.1 = (put m.1 m.2.1 (wayTo W p)).2 ++ v1.2
              · rw [decide_eq_true eq1]
                obtain ⟨aq, kq, cq, hq1, hqky, hq2, hq3, kq4, lq5⟩ := wys_at wy9 br.nd (QR _ hqQ)
                refine iteT ⟨_, rfl, _, rfl, x, CM, dx9, _, V.ref wd9, rfl, hx9, T.cl, T.n3, fM_w mv9 ld9 wd9, _, rfl, wd9, _, rfl, (by rw [← hq2]; exact DGetY.t (k := plK m.2.2) hq1 hqky (sq_same hb5 s59)), _, rfl, x, cq, b4, P1, S1, Qs, L, R, W, wayTo W m.2.2, m.2.2, rfl, me9, cn5.same s59, hq3, by omega, sq_same hb5 s59, hqQ, ⟨v0, k0⟩, okP, okS, fun e2 v2 H10 s10 kv2 he2 lv2 ev2 => ?_⟩
                have ev : v2 = v1 := ev2.trans ev1.symm
                rw [ev] at kv2 he2 lv2
                have sA : Same H1 H10 := fun b o e => s10 _ _ (s59 _ _ (s5 _ _ (s4 _ _ e)))
                have lq : (wayTo W m.2.2).1.length + (wayTo W m.2.2).2.length ≤ 600 := lq5
                exact ⟨sA _ _ hmv1, qf e2 _ _ (back sA) (by show upd _ _ _ _ = _; rw [upd_ne (ne_of he2 (sA _ _ hmv1) (fun z => nomatch z))]; exact he2) o2 (o3 eq1) (by rw [wlen_app]; unfold wlen; omega) (by
                rw [tell hp hm hin hodd no no5]
                unfold foundW
                rw [← eWW, ← ev1, if_pos eq1])⟩
              · rw [decide_eq_false eq1]
                have sA : Same H1 H9 := fun b o e => s59 _ _ (s5 _ _ (s4 _ _ e))
                exact iteF ⟨_, rfl, sA _ _ hmv1, qf e1 _ _ (back sA) (by show upd _ _ _ _ = _; rw [upd_ne (ne_of he1 (sA _ _ hmv1) (fun z => nomatch z))]; exact he1) o1 eq1 (by rw [wlen_app]; unfold wlen; omega) (by
                rw [tell hp hm hin hodd no no5]
                unfold foundW
                rw [← eWW, ← ev1, if_neg eq1])⟩
        · rw [decide_eq_false hin]
          exact iteF ⟨⟨_, _, _, _, _, _, _, rfl⟩, s5, next (.inr hin)⟩
      · rintro σ H5 ⟨⟨v2, v3, v4, v5, v6, v7, v8, rfl⟩, s5, no5⟩
        refine ⟨⟨_, _, _, _, _, _, _, _, rfl⟩, fun b o e => s5 _ _ (s4 _ _ e), fun j p' hj e m hm hl => ?_⟩
        by_cases hj2 : j < i
        · exact no j p' hj2 e m hm hl
        · have : j = i := by omega
          subst this
          rw [hp] at e
          cases e
          obtain ⟨k, hk, ek⟩ := List.getElem_of_mem hm
          exact no5 k m (by rw [lx]; exact hk) (by rw [List.getElem?_eq_getElem hk, ek]) hl
    · rintro σ H4 ⟨⟨v1, v2, v3, v4, v5, v6, v7, v8, rfl⟩, s4, no⟩
      refine ⟨s4 _ _ hmv1, qn ?_ _ (back s4)⟩
      refine alike_no (L := L) br wyW h0 (fun p hp v k => lv0.2 p ((bf.all p).mpr ((br.all p).mp hp)) v k) fun p hp m hm hl => ?_
      obtain ⟨j, hj, ej⟩ := List.getElem_of_mem ((bf.all p).mpr ((br.all p).mp hp))
      exact no j p (by rw [lvs, lkv]; exact hj) (by rw [List.getElem?_eq_getElem hj, ej]) m hm hl
end
end V8
set_option Elab.async false
set_option linter.all false
/-! Lists of texts that are sorted: one order only. -/
namespace MZ
open PySem PySem.Spec PyProof.Rows
theorem pw_perm_eq {α : Type} {r : α → α → Prop} (anti : ∀ a b, r a b → r b a → a = b) : ∀ {l m : List α}, l.Pairwise r → m.Pairwise r → l.Perm m → l = m
  | [], m, _, _, h => (List.Perm.nil_eq h)
  | a :: l, [], _, _, h => absurd (List.Perm.length_eq h) (by simp)
  | a :: l, b :: m, hl, hm, h => by
    have hab : a = b := by
      rcases List.mem_cons.mp (h.mem_iff.mp (List.mem_cons_self (a := a) (l := l))) with e | e
      · exact e
      · rcases List.mem_cons.mp (h.mem_iff.mpr (List.mem_cons_self (a := b) (l := m))) with e2 | e2
        · exact e2.symm
        · exact anti a b (List.rel_of_pairwise_cons hl e2) (List.rel_of_pairwise_cons hm e)
    subst hab
    rw [pw_perm_eq anti (List.Pairwise.of_cons hl) (List.Pairwise.of_cons hm) (List.Perm.cons_inv h)]
def leS (a b : Str) : Prop := ¬ b.cps.toList < a.cps.toList
theorem leS_trans {a b c : Str} (h : leS a b) (k : leS b c) : leS a c := List.not_lt.mpr (List.le_trans (List.not_lt.mp h) (List.not_lt.mp k))
theorem leS_anti (a b : Str) (h : leS a b) (k : leS b a) : a = b := by
  have e := List.le_antisymm (List.not_lt.mp h) (List.not_lt.mp k)
  cases a with
  | mk x =>
    cases b with
    | mk y =>
      have e : x.toList = y.toList := e
      rw [Array.toList_inj.mp e]
theorem rise_pwS : ∀ (l : List Str) (p : Str), risingS p l = true → (p :: l).Pairwise leS
  | [], p, _ => by simp
  | x :: r, p, h => by
    unfold risingS at h
    rw [Bool.and_eq_true] at h
    obtain ⟨h1, h2⟩ := h
    have ih := rise_pwS r x h2
    have hx : leS p x := fun z => by
      rw [ltCps_eq, decide_eq_true z] at h1
      cases h1
    refine List.Pairwise.cons (fun y hy => ?_) ih
    rcases List.mem_cons.mp hy with rfl | hy
    · exact hx
    · exact leS_trans hx (List.rel_of_pairwise_cons ih hy)
theorem sorted_pwS : ∀ {l : List Str}, sortedS l = true → l.Pairwise leS
  | [], _ => List.Pairwise.nil
  | x :: r, h => rise_pwS r x h
theorem sorted_one {l m : List Str} (h : sortedS l = true) (k : sortedS m = true) (p : l.Perm m) : l = m := pw_perm_eq leS_anti (sorted_pwS h) (sorted_pwS k) p
end MZ
set_option Elab.async false
set_option linter.all false
set_option maxRecDepth 100000
set_option maxHeartbeats 8000000
set_option pp.maxSteps 900
/-! The rests. -/
namespace V8
open PySem PySem.Spec PyProof.Rows L2 MZ
variable {K : PySem.W.Frag} {ω : World}
abbrev s_rests_of : Stmt := topS 55
abbrev n_rests_of : List Str := ["meetings", "living", "places", "found", "side", "place", "word", "ahead", "rest"]
theorem sc_rests_of : FnScope ["meetings", "living", "places", "found", "side", "place", "word", "ahead", "rest"] ["meetings", "living"] (defScope s_rests_of) := ⟨rfl, rfl, rfl, by decide +kernel, rfl, by decide +kernel, by decide +kernel⟩
theorem pi_tupK {X : Cx} {K : PySem.W.Frag} {tg l : Expr} {tl : TE} (hK : X.K = K) (hl : PE X l tl) : PI X tg l (iTup K tl) := by
  subst hK
  exact pi_tup hl
def RsV (H : Hp) (v : V) (q : Bool × Wd) : Prop := ∃ c, v = .ref c ∧ H c = some (.tup [.str (sideS q.1), .str (Sx q.2)])
def RsT (H : Hp) (e : Addr) (rs : List (Bool × Wd)) : Prop := ∃ vs, H e = some (.tup vs) ∧ Paired (RsV H) vs rs
theorem prd_app {α β : Type} {R : α → β → Prop} {xs xs' : List α} {ys ys' : List β} (h : Paired R xs ys) (k : Paired R xs' ys') : Paired R (xs ++ xs') (ys ++ ys') := by
  induction h with
  | nil => exact k
  | cons r _ ih => exact .cons r ih
def onSide (s : Bool) : Pl → Bool
  | .rest a _ => decide (a = s)
  | _ => false
def restOf : Pl → Wd
  | .rest _ r => r
  | _ => []
/-- the rests of one side that live, or do not -/
noncomputable def sideQ (P S : List Pr) (g s : Bool) : List Wd := (((placesQ P S).filter fun p => decide (livesB P S p = g)).filter (onSide s)).map restOf
/-- few rests on each side -/
def FewR (P S : List Pr) : Prop := ∀ s, ((placesQ P S).filter (onSide s)).length ≤ 63
/-- the rests that live, or do not, in their order -/
def RsIs (P S : List Pr) (g : Bool) (rs : List (Bool × Wd)) : Prop := ∃ a b : List Wd, rs = a.map (fun r => (true, r)) ++ b.map (fun r => (false, r)) ∧ a.Perm (sideQ P S g true) ∧ b.Perm (sideQ P S g false) ∧ sortedS (a.map Sx) = true ∧ sortedS (b.map Sx) = true
theorem sx_map_inj {a b : List Wd} (h : a.map Sx = b.map Sx) : a = b := by
  induction a generalizing b with
  | nil =>
    cases b with
    | nil => rfl
    | cons _ _ => cases h
  | cons x r ih =>
    cases b with
    | nil => cases h
    | cons y s =>
      rw [List.map_cons, List.map_cons] at h
      injection h with h1 h2
      rw [Sx_inj h1, ih h2]
theorem RsIs.inj {P S : List Pr} {g : Bool} {rs rs' : List (Bool × Wd)} (h : RsIs P S g rs) (k : RsIs P S g rs') : rs = rs' := by
  obtain ⟨a, b, rfl, p1, p2, s1, s2⟩ := h
  obtain ⟨c, d, rfl, q1, q2, t1, t2⟩ := k
  rw [sx_map_inj (sorted_one s1 t1 ((p1.trans q1.symm).map Sx)), sx_map_inj (sorted_one s2 t2 ((p2.trans q2.symm).map Sx))]
theorem filter_swap {α : Type} (f g : α → Bool) (l : List α) : (l.filter f).filter g = (l.filter g).filter f := by
  rw [List.filter_filter, List.filter_filter]
  exact List.filter_congr fun x _ => Bool.and_comm _ _
theorem side_few {P S : List Pr} (h : FewR P S) (g s : Bool) : (sideQ P S g s).length ≤ 63 := by
  unfold sideQ
  rw [List.length_map, filter_swap]
  exact Nat.le_trans (List.length_filter_le _ _) (h s)
theorem RsIs.mem {P S : List Pr} {g : Bool} {rs : List (Bool × Wd)} (h : RsIs P S g rs) {q : Bool × Wd} (hq : q ∈ rs) : Pl.rest q.1 q.2 ∈ placesQ P S ∧ livesB P S (.rest q.1 q.2) = g := by
  have side : ∀ {s : Bool} {r : Wd}, r ∈ sideQ P S g s → Pl.rest s r ∈ placesQ P S ∧ livesB P S (.rest s r) = g := fun {s r} hr => by
    obtain ⟨p, hp, e⟩ := List.mem_map.mp hr
    obtain ⟨hp1, hp2⟩ := List.mem_filter.mp hp
    obtain ⟨hp3, hp4⟩ := List.mem_filter.mp hp1
    cases p with
    | start => cases hp2
    | fin => cases hp2
    | rest a r' =>
      have ea : a = s := of_decide_eq_true hp2
      have er : r' = r := e
      rw [ea, er] at hp3 hp4
      exact ⟨hp3, of_decide_eq_true hp4⟩
  obtain ⟨a, b, rfl, p1, p2, _⟩ := h
  rcases List.mem_append.mp hq with m | m
  · obtain ⟨r, hr, rfl⟩ := List.mem_map.mp m
    exact side (p1.mem_iff.mp hr)
  · obtain ⟨r, hr, rfl⟩ := List.mem_map.mp m
    exact side (p2.mem_iff.mp hr)
theorem RsIs.len {P S : List Pr} {g : Bool} {rs : List (Bool × Wd)} (h : RsIs P S g rs) (f : FewR P S) : rs.length ≤ 126 := by
  obtain ⟨a, b, rfl, p1, p2, _⟩ := h
  have := side_few f g true
  have := side_few f g false
  rw [List.length_append, List.length_map, List.length_map, p1.length_eq, p2.length_eq]
  omega
theorem side_dec (s : Bool) (p : Pl) : decide (V.str (plS p).1 = V.str (sideS s)) = onSide s p := by
  cases p with
  | start => cases s <;> exact decide_eq_false (show ¬ V.str "start" = V.str _ by decide +kernel)
  | fin => cases s <;> exact decide_eq_false (show ¬ V.str "end" = V.str _ by decide +kernel)
  | rest a r =>
    refine decide_eq_decide.mpr ⟨fun e => side_inj (V.str.inj e), fun e => ?_⟩
    show V.str (sideS a) = _
    rw [e]
theorem plS_rest (p : Pl) : (plS p).2 = Sx (restOf p) := by
  cases p <;> rfl
theorem RsV.same {H H' : Hp} {v : V} {q : Bool × Wd} (h : RsV H v q) (s : Same H H') : RsV H' v q := by
  obtain ⟨c, e, h1⟩ := h
  exact ⟨c, e, s _ _ h1⟩
theorem RsV.put {H : Hp} {v : V} {q : Bool × Wd} {D : Addr} {ys : List V} {o : HO} (h : RsV H v q) (hD : H D = some (.lst ys)) : RsV (upd H D o) v q := by
  obtain ⟨c, e, h1⟩ := h
  exact ⟨c, e, by rw [upd_ne (ne_of h1 hD (fun z => nomatch z))]; exact h1⟩
def spRests (K : PySem.W.Frag) (ω : World) (aD CM : Addr) : Sp := fun vs H Q _ => ∃ (x : Addr) (g : Bool) (P S : List Pr) (Qs L R : List Pl) (W : WyL), vs = [.ref x, .bl g] ∧ MeeA K ω CM P S Qs L R W H x ∧ SqT K H aD [.str (sideS true), .str (sideS false)] ∧ PrOk P ∧ PrOk S ∧ FewR P S ∧
  ∀ (e : Addr) (rs : List (Bool × Wd)) (H' : Hp), Same H H' → RsT H' e rs → RsIs P S g rs → Q (.ref e) H'
/-- what is found when so many sides are gone through -/
def PartR (P S : List Pr) (g : Bool) (i : Nat) (rs : List (Bool × Wd)) : Prop := ∃ a b : List Wd, rs = a.map (fun r => (true, r)) ++ b.map (fun r => (false, r)) ∧ (i = 0 → a = []) ∧ (i ≤ 1 → b = []) ∧ (0 < i → a.Perm (sideQ P S g true) ∧ sortedS (a.map Sx) = true) ∧ (1 < i → b.Perm (sideQ P S g false) ∧ sortedS (b.map Sx) = true)
theorem un_mapS {ys : List Str} {xs : List Wd} (h : ys.Perm (xs.map Sx)) : ∃ zs : List Wd, ys = zs.map Sx ∧ zs.Perm xs := by
  have hs : ∀ y ∈ ys, ∃ z : Wd, y = Sx z := fun y hy => by
    obtain ⟨z, _, e⟩ := List.mem_map.mp (h.mem_iff.mp hy)
    exact ⟨z, e.symm⟩
  have ex : ∀ l : List Str, (∀ y ∈ l, ∃ z : Wd, y = Sx z) → ∃ zs : List Wd, l = zs.map Sx := by
    intro l
    induction l with
    | nil => exact fun _ => ⟨[], rfl⟩
    | cons y r ih =>
      intro hl
      obtain ⟨z, rfl⟩ := hl y List.mem_cons_self
      obtain ⟨zs, rfl⟩ := ih fun y hy => hl y (List.mem_cons_of_mem _ hy)
      exact ⟨z :: zs, rfl⟩
  obtain ⟨zs, rfl⟩ := ex ys hs
  refine ⟨zs, rfl, ?_⟩
  have h2 := h.map (fun s : Str => s.cps.toList)
  rw [List.map_map, List.map_map] at h2
  have e : ∀ l : List Wd, l.map ((fun s : Str => s.cps.toList) ∘ Sx) = l := fun l => by
    conv => rhs; rw [← List.map_id l]
    exact List.map_congr_left fun w _ => by show w.toArray.toList = w; simp
  rw [e, e] at h2
  exact h2
section
variable {P : Program} {w : World} {K : PySem.W.Frag} {mg : Str → Option Value} {base : Heap} {aS aE aV aD CM : Addr}
theorem ok_rests {f : Addr} {fd : FuncData} (F : Fun K "rests_of" "rests_of" s_rests_of f fd) (T : Tn K mg aS aE aV CM) (hSD : GV mg "SIDES" (.ref aD)) : FnOk P w K mg base CX0 1 f fd ["meetings", "living"] (spRests K w aD CM) := by
  refine F.ok sc_rests_of (fun vs H Q E h => ?_) (fun cdv A outer s H vs Q E hr h => ?_)
  · obtain ⟨x, g, P, S, Qs, L, R, W, rfl, _⟩ := h
    rfl
  · obtain ⟨x, g, P1, S1, Qs, L, R, W, rfl, ⟨⟨dx, mv, ld, wd, hx, ⟨vs0, kvs, hd, kyv, pk⟩, lv, wy, nml, nmw⟩, bf, br, few, eqQ⟩, hD, okP, okS, fewR, q⟩ := h
    refine ⟨_, (pss_cons (ps_lock (ps_setLc (i := 2) (own := [("place", 5)]) (g := gName 5) (by rfl) sc_rests_of.nd rfl rfl (sw_true rfl rfl rfl (by decide +kernel)) (pi_keysXt (w := w) rfl (pe_fldK (K := K) rfl (pv 0) rfl)) (blkOk_by (own := [("place", 5)]) (N := n_rests_of) (sc := defScope s_rests_of) (by decide +kernel)) (fun _ _ _ _ _ => (pg_name (i := 5) sc_rests_of.nd rfl (.inl rfl))) (fun _ _ _ _ _ => (pts_one (pt_cmpR op_eq (pe_cmp (pc_dinY (w := w) (K := K) rfl rfl (hu_of hr) (pv 5) (pe_fldK (K := K) rfl (pv 0) rfl)) rfl) (pv 1) (nomark _)))) (fun _ _ _ _ _ => (pv 5))))
      (pss_cons (ps_set (i := 3) sc_rests_of.nd rfl (.inl rfl) (pe_lst pa_nil))
      (pss_cons (ps_for PassesOwn.never rfl (pi_tupK (K := K) rfl (pe_gv hSD (by rfl))) (pg_name (i := 4) sc_rests_of.nd rfl (.inr rfl))
        (pss_one (ps_expr (pe_bmK (K := K) rfl PySem.F.plainAttrs_list PySem.F.slot_list_extend PySem.F.type_list_extend mt_extend (pv 3) (pa_cons (pe_lc (own := [("word", 6)]) (g := gName 6) (by rfl) sc_rests_of.nd (pi_list (pe_callB cr_sortedS (by rfl) T.sorted (by decide +kernel) (pa_cons (pe_lc (own := [("ahead", 7), ("rest", 8)]) (g := gTup K 2 (gCons (gName 7) (gCons (gName 8) gNil))) (by rfl) sc_rests_of.nd (pi_list (pv 2)) (blkOk_by (own := [("ahead", 7), ("rest", 8)]) (N := n_rests_of) (sc := defScope s_rests_of) (by decide +kernel)) (fun _ _ _ _ _ => (pg_tup (by rfl) (pgs_cons (pg_name (i := 7) sc_rests_of.nd rfl (.inl rfl)) (pgs_cons (pg_name (i := 8) sc_rests_of.nd rfl (.inl rfl)) pgs_nil)))) (fun _ _ _ _ _ => (pts_one (pt_cmpR op_eq (pv 7) (pv 4) (nomark _)))) (fun _ _ _ _ _ => (pe_callTy call_strS (by rfl) T.str (by decide +kernel) (pa_cons (pv 8) pa_nil)))) pa_nil))) (blkOk_by (own := [("word", 6)]) (N := n_rests_of) (sc := defScope s_rests_of) (by decide +kernel)) (fun _ _ _ _ _ => (pg_name (i := 6) sc_rests_of.nd rfl (.inl rfl))) (fun _ _ _ _ _ => pts_nil) (fun _ _ _ _ _ => (pe_tup (pa_cons (pv 4) (pa_cons (pv 6) pa_nil))))) pa_nil)))))
      (pss_one (ps_ret (pe_callTy (call_tuple_ofK (K := K) rfl) (by rfl) T.tuple (by decide +kernel) (pa_cons (pv 3) pa_nil))))))), ?_⟩
    have lkv := prd_len pk
    have lv0 := prd_len kyv
    refine ⟨mv, _, hd, True.intro, fun od => ⟨_, rfl, x, CM, dx, _, V.ref mv, rfl, ?_, T.cl, T.n1, fM_m mv ld wd, mv, od, vs0, kvs, rfl, upd_same, ?_⟩⟩
    · rw [upd_ne (ne_of hx hd (fun z => nomatch z))]
      exact hx
    obtain ⟨al, kl, hl0, hkl, kL⟩ := lv.at_
    have upS : ∀ {y : Addr} {xs : List V}, SqT K H y xs → SqT K (upd H mv (.frz od (DX w mv vs0 kvs))) y xs := fun e => sq_dx e hd
    have hkl1 : KyA K (upd H mv (.frz od (DX w mv vs0 kvs))) al kl := prd_imp hkl fun _ _ z => upS z
    have kyv1 : KyA K (upd H mv (.frz od (DX w mv vs0 kvs))) vs0 kvs := prd_imp kyv fun _ _ z => upS z
    have sf : ∀ c u, H c = some u → c ≠ mv → upd H mv (.frz od (DX w mv vs0 kvs)) c = some u := fun c u e n => by
      rw [upd_ne n]
      exact e
    have back : ∀ {H' : Hp}, Same (upd H mv (.frz od (DX w mv vs0 kvs))) H' → Same H (upd H' mv (DX w mv vs0 kvs)) := fun {H'} s b o e => by
      by_cases hb : b = mv
      · rw [hb, upd_same]
        rw [hb, hd] at e
        exact e
      · rw [upd_ne hb]
        exact s _ _ (sf _ _ e hb)
    clear upS
    have hx1 := sf _ _ hx (ne_of hx hd (fun z => nomatch z))
    have hl1 := sf _ _ hl0 (Ne.symm nml)
    have hmv1 : upd H mv (.frz od (DX w mv vs0 kvs)) mv = some (.frz od (DX w mv vs0 kvs)) := upd_same
    generalize upd H mv (.frz od (DX w mv vs0 kvs)) = H1 at back hx1 hl1 hmv1 hkl1 kyv1 ⊢
    refine fun D nD => lc_it (walk_keysX (w := w) (d := mv) (o := od) (as := vs0) (kvs := kvs)) (fun i H3 => ∃ qs : List Addr, Paired (PlT K H3) qs ((Qs.take i).filter fun p => decide (decide (p ∈ L) = g)) ∧ H3 D = some (.lst (qs.map V.ref)) ∧ Same H1 H3) ?_ ?_ ?_ ?_
    · exact ⟨[], .nil, upd_same, same_put (s := Same.refl H1) nD⟩
    · rintro i H3 hi ⟨qs, _, _, s3⟩
      exact s3 _ _ hmv1
    · rintro i y H30 H3 hi ⟨qs, pq, hD3, s3⟩ ⟨rfl, qk, hbk, rfl⟩
      obtain ⟨⟨k, v⟩, hkv, hqk0⟩ := prd_at kyv1 hbk
      obtain ⟨p, hp, ek, _⟩ := prd_at pk hkv
      have ek : k = plK p := ek
      subst ek
      have hqk : PlT K H3 qk p := sq_same hqk0 s3
      have lq := prd_len pq
      have lf : ((Qs.take i).filter fun p => decide (decide (p ∈ L) = g)).length ≤ 542 := Nat.le_trans (List.length_filter_le _ _) (by rw [List.length_take]; omega)
      have ef : (Qs.take (i + 1)).filter (fun p => decide (decide (p ∈ L) = g)) = ((Qs.take i).filter fun p => decide (decide (p ∈ L) = g)) ++ if decide (decide (p ∈ L) = g) = true then [p] else [] := by
        rw [List.take_add_one, hp, List.filter_append]
        congr 1
        show List.filter _ [p] = _
        rw [List.filter_cons]
        rfl
      refine ⟨rfl, _, rfl, _, rfl, x, CM, dx, _, V.ref ld, rfl, s3 _ _ hx1, T.cl, T.n2, fM_l mv ld wd, ld, _, rfl, DGetY.t (k := plK p) (s3 _ _ hl1) (ky_same hkl1 s3) hqk, _, rfl, rfl, _, rfl, ?_⟩
      rw [keysP_is kL, ef]
      have eb : decide (V.bl (decide (p ∈ L)) = V.bl g) = decide (decide (p ∈ L) = g) := decide_eq_decide.mpr ⟨fun e => V.bl.inj e, fun e => by rw [e]⟩
      rw [eb]
      by_cases hg : decide (p ∈ L) = g
      · rw [decide_eq_true hg]
        refine iteT ⟨_, rfl, _, hD3, by rw [List.length_map, sizeLine_eq]; omega, qs ++ [qk], ?_, ?_, ?_⟩
        · exact (prd_imp pq fun _ _ h => sq_lst h hD3).snoc (sq_lst hqk hD3)
        · rw [upd_same, List.map_append]
          rfl
        · intro b o e
          rw [upd_ne (ne_of_none e nD)]
          exact s3 _ _ e
      · rw [decide_eq_false hg]
        refine iteF ⟨qs, ?_, hD3, s3⟩
        show Paired _ qs (_ ++ [])
        rw [List.append_nil]
        exact pq
    rintro H3 ⟨qs, pq, hD3, s3⟩
    rw [List.take_of_length_le (by omega)] at pq
    refine ⟨s3 _ _ hmv1, ?_⟩
    have eF : (Qs.filter fun p => decide (decide (p ∈ L) = g)) = (placesQ P1 S1).filter fun p => decide (livesB P1 S1 p = g) := by
      rw [eqQ]
      refine List.filter_congr fun p hp => ?_
      rw [← eqQ] at hp
      have e1 : decide (p ∈ L) = livesB P1 S1 p := by
        rw [Bool.eq_iff_iff, decide_eq_true_iff, livesB_iff]
        exact ⟨lv.liv.live p, fun ⟨v, k⟩ => lv.all p hp v k⟩
      rw [e1]
    rw [eF] at pq
    have fl : ∀ s, ((((placesQ P1 S1).filter fun p => decide (livesB P1 S1 p = g)).filter (onSide s)).map restOf).length ≤ 63 := fun s => side_few fewR g s
    have eS : ∀ s, sideQ P1 S1 g s = (((placesQ P1 S1).filter fun p => decide (livesB P1 S1 p = g)).filter (onSide s)).map restOf := fun s => rfl
    have lq := prd_len pq
    have okF : ∀ p ∈ (placesQ P1 S1).filter fun p => decide (livesB P1 S1 p = g), p ∈ Qs := fun p hp => by
      rw [eqQ]
      exact (List.mem_filter.mp hp).1
    have sB := back s3
    have pqB : Paired (PlT K (upd H3 mv (DX w mv vs0 kvs))) qs ((placesQ P1 S1).filter fun p => decide (livesB P1 S1 p = g)) := prd_imp pq fun _ _ h => sq_ne h (s3 _ _ hmv1) (fun z => nomatch z) (fun _ z => nomatch z)
    have hDB : upd H3 mv (DX w mv vs0 kvs) D = some (.lst (qs.map V.ref)) := by
      rw [upd_ne (ne_of hD3 (s3 _ _ hmv1) (fun z => nomatch z))]
      exact hD3
    have lF : ((placesQ P1 S1).filter fun p => decide (livesB P1 S1 p = g)).length ≤ 542 := by
      refine Nat.le_trans (List.length_filter_le _ _) ?_
      rw [← eqQ]
      exact few
    generalize (placesQ P1 S1).filter (fun p => decide (livesB P1 S1 p = g)) = F at pqB lq fl eS okF lF
    show Ends.nx _ _ (upd H3 mv (DX w mv vs0 kvs))
    generalize upd H3 mv (DX w mv vs0 kvs) = H4 at sB pqB hDB ⊢
    have hD4 := sq_same hD sB
    refine ⟨Nat.zero_le _, fun fd nfd => ?_⟩
    have hfd0 : upd H4 fd (.lst []) fd = some (.lst []) := upd_same
    have s40 := same_put (s := Same.refl H4) (o := .lst []) nfd
    show tSeq _ _ _ _ (upd H4 fd (.lst []))
    generalize upd H4 fd (.lst []) = H5 at hfd0 s40 ⊢
    refine ⟨aD, rfl, ⟨_, sq_same hD4 s40⟩, for_it (walk_tup (K := K) (a := aD) (xs := [.str (sideS true), .str (sideS false)])) (fun i σ H6 => ∃ (rs : List (Bool × Wd)) (vs : List V) (v4 v5 v6 v7 v8 : Option V), σ = [some (.ref x), some (.bl g), some (.ref D), some (.ref fd), v4, v5, v6, v7, v8] ∧
      H6 fd = some (.lst vs) ∧ Paired (RsV H6) vs rs ∧ PartR P1 S1 g i rs ∧ rs.length ≤ 63 * i ∧ Same H4 H6) ?_ ?_ ?_ ?_⟩
    · exact ⟨[], [], none, none, none, none, none, rfl, hfd0, .nil, ⟨[], [], rfl, fun _ => rfl, fun _ => rfl, fun z => absurd z (by decide), fun z => absurd z (by decide)⟩, Nat.le_refl _, s40⟩
    · rintro i σ H6 hi ⟨rs, vs, v4, v5, v6, v7, v8, _, _, _, _, _, s6⟩
      exact sq_same hD4 s6
    · rintro i y σ H60 H6 hi ⟨rs, vs, v4, v5, v6, v7, v8, rfl, hfd6, pr6, part, lrs, s6⟩ ⟨rfl, hy⟩
      have hi2 : i < 2 := hi
      obtain ⟨s, hs, hsi⟩ : ∃ s : Bool, y = .str (sideS s) ∧ s = decide (i = 0) := by
        match i, hi2 with
        | 0, _ => exact ⟨true, (Option.some.inj hy).symm, rfl⟩
        | 1, _ => exact ⟨false, (Option.some.inj hy).symm, rfl⟩
      subst hs
      have lvs := prd_len pr6
      have pq6 : Paired (PlT K H6) qs F := prd_imp pqB fun _ _ h => sq_same h s6
      have hD6 := s6 _ _ hDB
      refine ⟨_, rfl, .inl ⟨rfl, _, SqL.of hfd6⟩, ?_⟩
      -- the rests of this side
      refine ⟨_, rfl, D, rfl, ⟨_, SqL.of hD6⟩, fun D2 nD2 => lc_it (walk_list (K := K) (a := D) (xs := qs.map V.ref)) (fun j H7 => H7 = upd H6 D2 (.lst (((((F.take j).filter (onSide s)).map restOf).map Sx).map V.str))) rfl ?_ ?_ ?_⟩
      · rintro j H7 hj rfl
        exact SqL.of (by rw [upd_ne (ne_of_none hD6 nD2)]; exact hD6)
      · rintro j y H70 H7 hj rfl ⟨eH, hy2⟩
        rw [eH]
        obtain ⟨b, hb, rfl⟩ : ∃ b, qs[j]? = some b ∧ y = .ref b := by
          rw [List.getElem?_map] at hy2
          obtain ⟨b, hb, e⟩ := Option.map_eq_some_iff.mp hy2
          exact ⟨b, hb, e.symm⟩
        obtain ⟨p, hp, hpl⟩ := prd_at pq6 hb
        have hpl : SqT K H6 b (plV p) := hpl
        have s7 := same_put (s := Same.refl H6) (o := .lst (((((F.take j).filter (onSide s)).map restOf).map Sx).map V.str)) nD2
        have et : (F.take (j + 1)).filter (onSide s) = (F.take j).filter (onSide s) ++ if onSide s p = true then [p] else [] := by
          rw [List.take_add_one, hp, List.filter_append]
          congr 1
          show List.filter _ [p] = _
          rw [List.filter_cons]
          rfl
        have lj : ((((F.take j).filter (onSide s)).map restOf).map Sx).length ≤ 600 := by
          rw [List.length_map, List.length_map]
          refine Nat.le_trans (List.length_filter_le _ _) ?_
          rw [List.length_take]
          have lqq := congrArg List.length (rfl : qs = qs)
          have h1 : j < qs.length := by
            have := (List.getElem?_eq_some_iff.mp hb).1
            exact this
          have h2 := lF
          omega
        refine ⟨b, _, rfl, sq_same hpl s7, rfl, _, _, rfl, _, _, rfl, rfl, ?_⟩
        refine ⟨rfl, _, rfl, _, rfl, rfl, _, rfl, ?_⟩
        rw [side_dec, et]
        cases eo : onSide s p with
        | false =>
          refine iteF ?_
          rw [if_neg (by decide), List.append_nil]
        | true =>
          refine iteT ⟨_, rfl, _, rfl, _, upd_same, by rw [List.length_map, sizeLine_eq]; omega, ?_⟩
          rw [if_pos rfl, upd_upd, plS_rest, List.map_append, List.map_append, List.map_append]
          rfl
      rintro H7 rfl
      rw [List.take_of_length_le (by rw [List.length_map, lq]; exact Nat.le_refl _)]
      have fls := fl s
      rw [← eS] at fls ⊢
      have s7 := same_put (s := Same.refl H6) (o := .lst (((sideQ P1 S1 g s).map Sx).map V.str)) nD2
      have hD27 : upd H6 D2 (.lst (((sideQ P1 S1 g s).map Sx).map V.str)) D2 = some (.lst (((sideQ P1 S1 g s).map Sx).map V.str)) := upd_same
      generalize upd H6 D2 (.lst (((sideQ P1 S1 g s).map Sx).map V.str)) = H7 at s7 hD27 ⊢
      refine ⟨D2, (sideQ P1 S1 g s).map Sx, rfl, SqL.of hD27, by rw [List.length_map]; omega, fun ys p2 pm so np2 => ?_⟩
      obtain ⟨zs, rfl, pz⟩ := un_mapS pm
      have lz := pz.length_eq
      have s8 := same_put (s := s7) (o := .lst ((zs.map Sx).map V.str)) np2
      have hp28 : upd H7 p2 (.lst ((zs.map Sx).map V.str)) p2 = some (.lst ((zs.map Sx).map V.str)) := upd_same
      refine ⟨p2, rfl, ⟨_, SqL.of upd_same⟩, fun D3 nD3 => ?_⟩
      generalize upd H7 p2 (.lst ((zs.map Sx).map V.str)) = H8 at s8 hp28 nD3 ⊢
      refine lc_it (walk_list (K := K) (a := p2) (xs := (zs.map Sx).map V.str)) (fun j H9 => ∃ ws, Paired (RsV H9) ws ((zs.take j).map fun r => (s, r)) ∧ H9 D3 = some (.lst ws) ∧ Same H8 H9) ?_ ?_ ?_ ?_
      · exact ⟨[], .nil, upd_same, same_put (s := Same.refl H8) nD3⟩
      · rintro j H9 hj ⟨ws, _, _, s9⟩
        exact SqL.of (s9 _ _ hp28)
      · rintro j y H90 H9 hj ⟨ws, pw, hD39, s9⟩ ⟨rfl, hy2⟩
        obtain ⟨r, hr, rfl⟩ : ∃ r, zs[j]? = some r ∧ y = .str (Sx r) := by
          rw [List.getElem?_map, List.getElem?_map] at hy2
          obtain ⟨b, hb, e⟩ := Option.map_eq_some_iff.mp hy2
          obtain ⟨r, hr, e2⟩ := Option.map_eq_some_iff.mp hb
          exact ⟨r, hr, by rw [← e, ← e2]⟩
        have lw := prd_len pw
        rw [List.length_map, List.length_take] at lw
        refine ⟨rfl, _, rfl, _, rfl, by show 2 ≤ sizeLine; decide, fun c nc => ?_⟩
        have sc := same_put (s := Same.refl H9) (o := .tup [.str (sideS s), .str (Sx r)]) nc
        have hc : upd H9 c (.tup [.str (sideS s), .str (Sx r)]) c = some (.tup [.str (sideS s), .str (Sx r)]) := upd_same
        have hD3c := sc _ _ hD39
        generalize upd H9 c (.tup [.str (sideS s), .str (Sx r)]) = H10 at sc hc hD3c ⊢
        refine ⟨_, hD3c, by rw [sizeLine_eq]; omega, ws ++ [.ref c], ?_, upd_same, ?_⟩
        · rw [List.take_add_one, hr, List.map_append]
          exact (prd_imp pw fun _ _ z => (z.same sc).put hD3c).snoc (RsV.put ⟨c, rfl, hc⟩ hD3c)
        · intro b o e
          rw [upd_ne (ne_of_none e nD3)]
          exact sc _ _ (s9 _ _ e)
      rintro H9 ⟨ws, pw, hD39, s9⟩
      rw [List.take_of_length_le (by rw [List.length_map, List.length_map]; exact Nat.le_refl _)] at pw
      have s69 : Same H6 H9 := fun b o e => s9 _ _ (s8 _ _ e)
      have hfd9 := s69 _ _ hfd6
      have lw := prd_len pw
      rw [List.length_map] at lw
      refine ⟨fd, D3, vs, ws, rfl, rfl, hfd9, hD39, by rw [sizeLine_eq]; omega, ?_⟩
      have nfd4 : ∀ {b o}, H4 b = some o → b ≠ fd := fun {b o} e z => by
        rw [z] at e
        rw [nfd] at e
        cases e
      refine ⟨rs ++ zs.map (fun r => (s, r)), vs ++ ws, _, _, _, _, _, rfl, upd_same, ?_, ?_, ?_, ?_⟩
      · exact prd_app (prd_imp pr6 fun _ _ z => (z.same s69).put hfd9) (prd_imp pw fun _ _ z => z.put hfd9)
      · obtain ⟨a, b, er, p1, p2', p3, p4⟩ := part
        match i, hi2 with
        | 0, _ =>
          have hsi : s = true := hsi
          subst hsi
          have ea := p1 rfl
          have eb := p2' (by decide)
          subst ea eb
          refine ⟨zs, [], by rw [er]; simp, fun z => absurd z (by decide), fun _ => rfl, fun _ => ⟨pz, so⟩, fun z => absurd z (by decide)⟩
        | 1, _ =>
          have hsi : s = false := hsi
          subst hsi
          have eb := p2' (by decide)
          subst eb
          refine ⟨a, zs, by rw [er, List.map_nil, List.append_nil], fun z => absurd z (by decide), fun z => absurd z (by decide), fun _ => p3 (by decide), fun _ => ⟨pz, so⟩⟩
      · rw [List.length_append, List.length_map]
        omega
      · intro b o e
        rw [upd_ne (nfd4 e)]
        exact s69 _ _ (s6 _ _ e)
    · rintro σ H6 ⟨rs, vs, v4, v5, v6, v7, v8, rfl, hfd6, pr6, ⟨a, b, er, _, _, p3, p4⟩, lrs, s6⟩
      obtain ⟨pa, sa⟩ := p3 (by show 0 < 2; decide)
      obtain ⟨pb, sb⟩ := p4 (by show 1 < 2; decide)
      refine ⟨_, rfl, fd, vs, rfl, .inl ⟨SqL.of hfd6, fun e ne => ?_⟩⟩
      refine q e rs _ (fun b o h => same_put (s := Same.refl H6) ne _ _ (s6 _ _ (sB _ _ h))) ⟨vs, upd_same, prd_imp pr6 fun _ _ z => z.same (same_put (s := Same.refl H6) ne)⟩ ⟨a, b, er, pa, pb, sa, sb⟩
end
end V8
set_option Elab.async false
set_option linter.all false
set_option maxRecDepth 100000
set_option maxHeartbeats 8000000
set_option pp.maxSteps 900
/-! The leads. -/
namespace V8
open PySem PySem.Spec PyProof.Rows L2 MZ
variable {K : PySem.W.Frag} {ω : World}
abbrev s_leads_of : Stmt := topS 56
abbrev n_leads_of : List Str := ["meetings", "rest"]
theorem sc_leads_of : FnScope ["meetings", "rest"] ["meetings"] (defScope s_leads_of) := ⟨rfl, rfl, rfl, by decide +kernel, rfl, by decide +kernel, by decide +kernel⟩
theorem op_catTK {X : Cx} {K : PySem.W.Frag} (hK : X.K = K) : OpR X (binaryOp .Add) (rCatT K) := by
  subst hK
  exact op_catT
/-- the lead of a rest -/
def leadQ (P S : List Pr) (q : Bool × Wd) : Bool × List Nat := (lead (wayTo (waysW P S .start) (.rest q.1 q.2))).getD (true, [])
def LsV (P S : List Pr) (H : Hp) (v : V) (q : Bool × Wd) : Prop := ∃ c, v = .ref c ∧ H c = some (.tup [.str (sideS q.1), .str (Sx q.2), .str (sideS (leadQ P S q).1), .str (Sx (leadQ P S q).2)])
def LsT (P S : List Pr) (H : Hp) (e : Addr) (rs : List (Bool × Wd)) : Prop := ∃ vs, H e = some (.tup vs) ∧ Paired (LsV P S H) vs rs
theorem LsV.same {P S : List Pr} {H H' : Hp} {v : V} {q : Bool × Wd} (h : LsV P S H v q) (s : Same H H') : LsV P S H' v q := by
  obtain ⟨c, e, h1⟩ := h
  exact ⟨c, e, s _ _ h1⟩
theorem LsV.put {P S : List Pr} {H : Hp} {v : V} {q : Bool × Wd} {D : Addr} {ys : List V} {o : HO} (h : LsV P S H v q) (hD : H D = some (.lst ys)) : LsV P S (upd H D o) v q := by
  obtain ⟨c, e, h1⟩ := h
  exact ⟨c, e, by rw [upd_ne (ne_of h1 hD (fun z => nomatch z))]; exact h1⟩
theorem MeeA.same {CM : Addr} {P S : List Pr} {Qs L R : List Pl} {W : WyL} {H H' : Hp} {x : Addr} (h : MeeA K ω CM P S Qs L R W H x) (s : Same H H') : MeeA K ω CM P S Qs L R W H' x := by
  obtain ⟨⟨dx, mv, ld, wd, h1, h2, h3, h4, n1, n2⟩, b, c, d, e⟩ := h
  exact ⟨⟨dx, mv, ld, wd, s _ _ h1, h2.ni (NI.ofSame s), h3.ni (NI.ofSame s), h4.ni (NI.ofSame s), n1, n2⟩, b, c, d, e⟩
def spLeads (K : PySem.W.Frag) (ω : World) (aD CM : Addr) : Sp := fun vs H Q _ => ∃ (x : Addr) (P S : List Pr) (Qs L R : List Pl) (W : WyL), vs = [.ref x] ∧ MeeA K ω CM P S Qs L R W H x ∧ SqT K H aD [.str (sideS true), .str (sideS false)] ∧ PrOk P ∧ PrOk S ∧ FewR P S ∧ Alike P S ∧
  ∀ (e : Addr) (rs : List (Bool × Wd)) (H' : Hp), Same H H' → LsT P S H' e rs → RsIs P S true rs → Q (.ref e) H'
section
variable {P : Program} {w : World} {K : PySem.W.Frag} {mg : Str → Option Value} {base : Heap} {aS aE aV aD CM : Addr}
theorem ok_leads {f : Addr} {fd : FuncData} (F : Fun K "leads_of" "leads_of" s_leads_of f fd) (T : Tn K mg aS aE aV CM) (D_rests_of : Df P w K mg base 1 "rests_of" (spRests K w aD CM)) (D_lead_of : Df P w K mg base 1 "lead_of" (spLead K)) : FnOk P w K mg base CX0 2 f fd ["meetings"] (spLeads K w aD CM) := by
  refine F.ok sc_leads_of (fun vs H Q E h => ?_) (fun cdv A outer s H vs Q E hr h => ?_)
  · obtain ⟨x, P, S, Qs, L, R, W, rfl, _⟩ := h
    rfl
  · obtain ⟨x, P1, S1, Qs, L, R, W, rfl, me, hD, okP, okS, fewR, ak, q⟩ := h
    refine ⟨_, (pss_one (ps_ret (pe_callTy (call_tuple_ofK (K := K) rfl) (by rfl) T.tuple (by decide +kernel) (pa_cons (pe_lc (own := [("rest", 1)]) (g := gName 1) (by rfl) sc_leads_of.nd (pi_tupK (K := K) rfl (pe_c D_rests_of hr (by decide) (by rfl) (pa_cons (pv 0) (pa_cons pe_bl pa_nil)))) (blkOk_by (own := [("rest", 1)]) (N := n_leads_of) (sc := defScope s_leads_of) (by decide +kernel)) (fun _ _ _ _ _ => (pg_name (i := 1) sc_leads_of.nd rfl (.inl rfl))) (fun _ _ _ _ _ => pts_nil) (fun _ _ _ _ _ => (pe_op (op_catTK (K := K) rfl) (pv 1) (pe_c D_lead_of hr (by decide) (by rfl) (pa_cons (pe_dgetY (w := w) (K := K) rfl rfl (hu_of hr) (pe_fldK (K := K) rfl (pv 0) rfl) (pv 1) (fun _ _ => rfl)) pa_nil))))) pa_nil)))), ?_⟩
    refine ⟨_, rfl, x, true, P1, S1, Qs, L, R, W, rfl, me, hD, okP, okS, fewR, fun e rs H1 s1 hrs isr => ?_⟩
    obtain ⟨vs, hvs, prs⟩ := hrs
    have lvs := prd_len prs
    have lrs := isr.len fewR
    have me1 := me.same s1
    refine ⟨e, rfl, ⟨_, .inl (.inl hvs)⟩, fun D nD => lc_it (walk_tup (K := K) (a := e) (xs := vs)) (fun i H2 => ∃ ws, Paired (LsV P1 S1 H2) ws (rs.take i) ∧ H2 D = some (.lst ws) ∧ Same H1 H2) ?_ ?_ ?_ ?_⟩
    · exact ⟨[], .nil, upd_same, same_put (s := Same.refl H1) nD⟩
    · rintro i H2 hi ⟨ws, _, _, s2⟩
      exact .inl (.inl (s2 _ _ hvs))
    · rintro i y H20 H2 hi ⟨ws, pw, hD2, s2⟩ ⟨rfl, hy⟩
      obtain ⟨r, hr0, c, rfl, hc⟩ := prd_at prs hy
      have lw := prd_len pw
      rw [List.length_take] at lw
      obtain ⟨hrQ, hrl⟩ := isr.mem (List.mem_of_getElem? hr0)
      obtain ⟨⟨dx, mv, ld, wd, hx, am, lv, wy, n1, n2⟩, bf, br, few, eqQ⟩ := me1.same s2
      rw [← eqQ] at hrQ
      have hrR : Pl.rest r.1 r.2 ∈ R := (br.all _).mpr ((bf.all _).mp hrQ)
      obtain ⟨aw, kw, cw, hw1, hwk, hw2, hw3, kw4, lw5⟩ := wys_at wy br.nd hrR
      have lw6 : (wayTo W (.rest r.1 r.2)).1.length + (wayTo W (.rest r.1 r.2)).2.length ≤ 600 := lw5
      have hc2 := s2 _ _ hc
      have el : lead (wayTo W (.rest r.1 r.2)) = some (leadQ P1 S1 r) := by
        obtain ⟨v, kv⟩ := livesB_iff.mp hrl
        have e1 := ak _ (kw4.trans kv)
        obtain ⟨k, e2, _⟩ := lead_back e1 e1
        unfold leadQ
        rw [← wy.2.2.2, e2]
        rfl
      refine ⟨rfl, _, rfl, _, rfl, x, CM, dx, _, V.ref wd, rfl, hx, T.cl, T.n3, fM_w mv ld wd, _, rfl, wd, _, rfl, (by rw [← hw2]; exact DGetY.t (k := plK (.rest r.1 r.2)) hw1 hwk (SqT.of hc2)), cw, _, rfl, hw3, by omega, by omega, fun lv_ H3 s3 hl3 => ?_⟩
      rw [el] at hl3
      obtain ⟨b, rfl, hb⟩ := hl3
      refine ⟨c, b, _, _, rfl, rfl, SqT.of (s3 _ _ hc2), hb, (by intro z; cases z), by show 4 ≤ sizeLine; decide, (fun z => by cases z), fun _ p np => ?_⟩
      have s4 := same_put (s := s3) (o := .tup ([V.str (sideS r.1), V.str (Sx r.2)] ++ [V.str (sideS (leadQ P1 S1 r).1), V.str (Sx (leadQ P1 S1 r).2)])) np
      have hp : upd H3 p (.tup ([V.str (sideS r.1), V.str (Sx r.2)] ++ [V.str (sideS (leadQ P1 S1 r).1), V.str (Sx (leadQ P1 S1 r).2)])) p = some (.tup [V.str (sideS r.1), V.str (Sx r.2), V.str (sideS (leadQ P1 S1 r).1), V.str (Sx (leadQ P1 S1 r).2)]) := upd_same
      have hD4 := s4 _ _ hD2
      generalize upd H3 p (.tup ([V.str (sideS r.1), V.str (Sx r.2)] ++ [V.str (sideS (leadQ P1 S1 r).1), V.str (Sx (leadQ P1 S1 r).2)])) = H4 at s4 hp hD4 ⊢
      refine ⟨_, hD4, by rw [sizeLine_eq]; omega, ws ++ [.ref p], ?_, upd_same, ?_⟩
      · rw [List.take_add_one, hr0]
        exact (prd_imp pw fun _ _ z => (z.same s4).put hD4).snoc (LsV.put ⟨p, rfl, hp⟩ hD4)
      · intro b o e
        rw [upd_ne (ne_of_none e nD)]
        exact s4 _ _ (s2 _ _ e)
    · rintro H2 ⟨ws, pw, hD2, s2⟩
      rw [List.take_of_length_le (by omega)] at pw
      refine ⟨D, ws, rfl, .inl ⟨SqL.of hD2, fun e2 ne => ?_⟩⟩
      have s3 := same_put (s := Same.refl H2) (o := .tup ws) ne
      exact q e2 rs _ (fun b o h => s3 _ _ (s2 _ _ (s1 _ _ h))) ⟨ws, upd_same, prd_imp pw fun _ _ z => z.same s3⟩ isr
end
end V8
set_option Elab.async false
set_option linter.all false
set_option maxRecDepth 100000
set_option maxHeartbeats 8000000
set_option pp.maxSteps 900
/-! Values of tuples, texts and None: copied and compared. -/
namespace V8
open PySem PySem.Spec PyProof.Rows L2 MZ
variable {K : PySem.W.Frag} {ω : World}
abbrev s_equal : Stmt := topS 3
theorem sc_equal : FnScope ["one", "other"] ["one", "other"] (defScope s_equal) := ⟨rfl, rfl, rfl, by decide +kernel, rfl, by decide +kernel, by decide +kernel⟩
abbrev s_equal_rows : Stmt := topS 4
abbrev n_equal_rows : List Str := ["one", "other", "left", "right"]
theorem sc_equal_rows : FnScope ["one", "other", "left", "right"] ["one", "other"] (defScope s_equal_rows) := ⟨rfl, rfl, rfl, by decide +kernel, rfl, by decide +kernel, by decide +kernel⟩
mutual
/-- a value of tuples, texts and None -/
inductive TV (H : Hp) : V → PyData → Prop
  | non : TV H .non .none
  | str (z : Str) : TV H (.str z) (.str z)
  | int (i : Int) : TV H (.int i) (.int i)
  | tup {a : Addr} {xs : List V} {ds : List PyData} : H a = some (.tup xs) → TVs H xs ds → TV H (.ref a) (.tuple ds)
inductive TVs (H : Hp) : List V → List PyData → Prop
  | nil : TVs H [] []
  | cons {x : V} {d : PyData} {xs : List V} {ds : List PyData} : TV H x d → TVs H xs ds → TVs H (x :: xs) (d :: ds)
end
mutual
theorem TV.keep {H H2 : Hp} (s : ∀ b xs, H b = some (.tup xs) → H2 b = some (.tup xs)) : ∀ {x : V} {d : PyData}, TV H x d → TV H2 x d
  | _, _, .non => .non
  | _, _, .str z => .str z
  | _, _, .int i => .int i
  | _, _, .tup h r => .tup (s _ _ h) (TVs.keep s r)
theorem TVs.keep {H H2 : Hp} (s : ∀ b xs, H b = some (.tup xs) → H2 b = some (.tup xs)) : ∀ {xs : List V} {ds : List PyData}, TVs H xs ds → TVs H2 xs ds
  | _, _, .nil => .nil
  | _, _, .cons h r => .cons (TV.keep s h) (TVs.keep s r)
end
theorem TV.same {H H2 : Hp} {x : V} {d : PyData} (h : TV H x d) (s : Same H H2) : TV H2 x d := h.keep fun b xs e => s b _ e
theorem TVs.same {H H2 : Hp} {xs : List V} {ds : List PyData} (h : TVs H xs ds) (s : Same H H2) : TVs H2 xs ds := h.keep fun b xs e => s b _ e
theorem TVs.put {H : Hp} {xs : List V} {ds : List PyData} {D : Addr} {ys : List V} {o : HO} (h : TVs H xs ds) (hD : H D = some (.lst ys)) : TVs (upd H D o) xs ds := h.keep fun b zs e => by
  rw [upd_ne (ne_of e hD (fun z => nomatch z))]
  exact e
theorem TV.put {H : Hp} {x : V} {d : PyData} {D : Addr} {ys : List V} {o : HO} (h : TV H x d) (hD : H D = some (.lst ys)) : TV (upd H D o) x d := h.keep fun b zs e => by
  rw [upd_ne (ne_of e hD (fun z => nomatch z))]
  exact e
theorem TVs.len {H : Hp} : ∀ {xs : List V} {ds : List PyData}, TVs H xs ds → xs.length = ds.length
  | _, _, .nil => rfl
  | _, _, .cons _ r => congrArg Nat.succ (TVs.len r)
theorem TVs.at {H : Hp} : ∀ {xs : List V} {ds : List PyData} {i : Nat} {x : V}, TVs H xs ds → xs[i]? = some x → ∃ d, ds[i]? = some d ∧ TV H x d
  | _, _, i, x, .nil, e => by simp at e
  | _, _, 0, x, .cons h _, e => by
    rw [List.getElem?_cons_zero] at e
    cases e
    exact ⟨_, rfl, h⟩
  | _, _, i + 1, x, .cons _ r, e => by
    rw [List.getElem?_cons_succ] at e ⊢
    exact TVs.at r e
theorem TVs.snoc {H : Hp} : ∀ {xs : List V} {ds : List PyData} {x : V} {d : PyData}, TVs H xs ds → TV H x d → TVs H (xs ++ [x]) (ds ++ [d])
  | _, _, _, _, .nil, h => .cons h .nil
  | _, _, _, _, .cons h r, k => .cons h (TVs.snoc r k)
mutual
theorem TV.dp {K : PySem.W.Frag} {H : Hp} : ∀ {x : V} {d : PyData}, TV H x d → Dp K H x d
  | _, _, .non => .non
  | _, _, .str z => .str z
  | _, _, .int i => .int i
  | _, _, .tup h r => .tup (.inl (.inl h)) (TVs.dp r)
theorem TVs.dp {K : PySem.W.Frag} {H : Hp} : ∀ {xs : List V} {ds : List PyData}, TVs H xs ds → DpAll K H xs ds
  | _, _, .nil => .nil
  | _, _, .cons h r => .cons (TV.dp h) (TVs.dp r)
end
def FlT (d : PyData) : Prop := d = .none ∨ (∃ z, d = .str z ∧ PyData.strOk z = true) ∨ ∃ i, d = .int i
/-- at most so deep -/
def TD : Nat → PyData → Prop
  | 0, d => FlT d
  | n + 1, d => FlT d ∨ ∃ ds, d = .tuple ds ∧ ds.length ≤ 200 ∧ ∀ e ∈ ds, TD n e
theorem TD.flat {d : PyData} (h : FlT d) : ∀ n, TD n d
  | 0 => h
  | _ + 1 => .inl h
theorem TD.up : ∀ {n : Nat} {d : PyData}, TD n d → TD (n + 1) d
  | 0, _, h => .inl h
  | n + 1, _, .inl h => .inl h
  | n + 1, _, .inr ⟨ds, e, l, k⟩ => .inr ⟨ds, e, l, fun x hx => TD.up (k x hx)⟩
theorem td_cases {n : Nat} {d : PyData} (h : TD n d) : FlT d ∨ ∃ m ds, n = m + 1 ∧ d = .tuple ds ∧ ds.length ≤ 200 ∧ ∀ e ∈ ds, TD m e := by
  cases n with
  | zero => exact .inl h
  | succ m =>
    rcases h with h | ⟨ds, e, l, k⟩
    · exact .inl h
    · exact .inr ⟨m, ds, rfl, e, l, k⟩
mutual
theorem td_lay : ∀ (n : Nat) (d : PyData), TD n d → d.canLay0 = true ∧ d.depth ≤ n
  | 0, d, h => by
    rcases h with rfl | ⟨z, rfl, hz⟩ | ⟨i, rfl⟩
    · exact ⟨rfl, Nat.le_refl _⟩
    · exact ⟨hz, Nat.le_refl _⟩
    · exact ⟨rfl, Nat.le_refl _⟩
  | n + 1, d, h => by
    rcases h with (rfl | ⟨z, rfl, hz⟩ | ⟨i, rfl⟩) | ⟨ds, rfl, _, k⟩
    · exact ⟨rfl, Nat.zero_le _⟩
    · exact ⟨hz, Nat.zero_le _⟩
    · exact ⟨rfl, Nat.zero_le _⟩
    · obtain ⟨h1, h2⟩ := tds_lay n ds k
      refine ⟨by simpa [PyData.canLay0] using h1, ?_⟩
      simp only [PyData.depth]
      omega
theorem tds_lay : ∀ (n : Nat) (ds : List PyData), (∀ e ∈ ds, TD n e) → PyData.canLayAll0 ds = true ∧ PyData.depthAll ds ≤ n
  | n, [], _ => ⟨rfl, Nat.zero_le _⟩
  | n, d :: ds, h => by
    obtain ⟨a1, a2⟩ := td_lay n d (h d List.mem_cons_self)
    obtain ⟨b1, b2⟩ := tds_lay n ds fun e he => h e (List.mem_cons_of_mem _ he)
    refine ⟨by simp [PyData.canLayAll0, a1, b1], ?_⟩
    simp only [PyData.depthAll]
    omega
end
theorem td_shaped {n : Nat} {d : PyData} (h : TD n d) (hn : n ≤ 64) : SeqAt.shaped d = true := by
  obtain ⟨h1, h2⟩ := td_lay n d h
  exact shaped_of h1 (by omega)
theorem flt_ty {H : Hp} {x : V} {d : PyData} (h : TV H x d) (f : FlT d) : Flat x := by
  rcases f with rfl | ⟨z, rfl, _⟩ | ⟨i, rfl⟩
  · cases h
    exact .inr (.inr (.inl rfl))
  · cases h
    exact .inl ⟨z, rfl⟩
  · cases h
    exact .inr (.inl ⟨i, rfl⟩)
def isTup : PyData → Bool
  | .tuple _ => true
  | _ => false
theorem tv_ty {K : PySem.W.Frag} {H : Hp} {x : V} {d : PyData} (h : TV H x d) : ∃ t, (∀ H2, Same H H2 → TyX K H2 x t) ∧ PySem.W.kitOne K t (.type "dict") = some false ∧ PySem.W.kitOne K t (.type "list") = some false ∧ PySem.W.kitOne K t (.type "bool") = some false ∧ PySem.W.kitOne K t (.type "tuple") = some (isTup d) := by
  cases h with
  | non => exact ⟨_, fun _ _ => .base .non, kit_ty (by decide +kernel), kit_ty (by decide +kernel), kit_ty (by decide +kernel), kit_ty (by decide +kernel)⟩
  | str z => exact ⟨_, fun _ _ => ty_str z, kit_ty (by decide +kernel), kit_ty (by decide +kernel), kit_ty (by decide +kernel), (kit_ty (by decide +kernel) : PySem.W.kitOne K (.type "str") (.type "tuple") = some false)⟩
  | int i => exact ⟨_, fun _ _ => .base (.int i), kit_ty (by decide +kernel), kit_ty (by decide +kernel), kit_ty (by decide +kernel), (kit_ty (by decide +kernel) : PySem.W.kitOne K (.type "int") (.type "tuple") = some false)⟩
  | tup ha _ => exact ⟨_, fun _ s => .base (.tup (s _ _ ha)), kit_ty (by decide +kernel), kit_ty (by decide +kernel), kit_ty (by decide +kernel), (kit_ty (by decide +kernel) : PySem.W.kitOne K (.type "tuple") (.type "tuple") = some true)⟩
structure Te (mg : Str → Option Value) : Prop extends Tq mg where
  bool : mg "bool" = none
  all : mg "all" = none
  zip : mg "zip" = none
def spCopT (n : Nat) : Sp := fun vs H Q _ => ∃ (x : V) (d : PyData), vs = [x] ∧ TV H x d ∧ TD n d ∧ ∀ y H', Same H H' → TV H' y d → Q y H'
def spRowsT : Nat → Sp
  | 0 => fun _ _ _ _ => False
  | n + 1 => fun vs H Q _ => ∃ (a b : Addr) (xs ys : List V) (ds es : List PyData), vs = [.ref a, .ref b] ∧ H a = some (.tup xs) ∧ H b = some (.tup ys) ∧ TVs H xs ds ∧ TVs H ys es ∧ ds.length ≤ 200 ∧ es.length ≤ 200 ∧ (∀ d ∈ ds, TD n d) ∧ (∀ d ∈ es, TD n d) ∧ ∀ H', Same H H' → Q (.bl (PyData.eqvAll ds es)) H'
def spEqT (n : Nat) : Sp := fun vs H Q _ => ∃ (x y : V) (d e : PyData), vs = [x, y] ∧ TV H x d ∧ TV H y e ∧ TD n d ∧ TD n e ∧ ∀ H', Same H H' → Q (.bl (PyData.eqv d e)) H'
theorem eqvAll_len : ∀ {ds es : List PyData}, ds.length ≠ es.length → PyData.eqvAll ds es = false
  | [], [], h => absurd rfl h
  | [], _ :: _, _ => by simp [PyData.eqvAll]
  | _ :: _, [], _ => by simp [PyData.eqvAll]
  | d :: ds, e :: es, h => by
    rw [PyData.eqvAll, eqvAll_len (fun z => h (congrArg Nat.succ z)), Bool.and_false]
theorem eqvAll_zip : ∀ {ds es : List PyData}, ds.length = es.length → ((ds.zip es).map fun q => PyData.eqv q.1 q.2).all id = PyData.eqvAll ds es
  | [], [], _ => by simp [PyData.eqvAll]
  | [], _ :: _, h => by cases h
  | _ :: _, [], h => by cases h
  | d :: ds, e :: es, h => by
    rw [PyData.eqvAll, List.zip_cons_cons, List.map_cons, List.all_cons, eqvAll_zip (Nat.succ.inj h)]
    rfl
theorem walk_zipT {K : PySem.W.Frag} {a b : Addr} {xs ys : List V} {n : Nat} (hn : n = min xs.length ys.length) : Walk (RZ.ItzT K a b) n (fun H => SqT K H a xs ∧ SqT K H b ys) (YPair (fun i => xs[i]?) (fun i => ys[i]?)) := by
  subst hn
  refine ⟨fun i _ hi q => ?_, fun _ q => ⟨xs, ys, q.1, q.2, by omega⟩, fun i H v H' _ q y => ?_⟩
  · have h1 : i < xs.length := by omega
    have h2 : i < ys.length := by omega
    exact ⟨xs, ys, xs[i], ys[i], q.1, q.2, by simp [h1], by simp [h2]⟩
  · obtain ⟨T, x, z, h1, h2, h3, h4, h5⟩ := y
    exact ⟨T, x, z, h1, h2, h3, h4 xs q.1, h5 ys q.2⟩
section
variable {P : Program} {w : World} {K : PySem.W.Frag} {mg : Str → Option Value} {base : Heap}
theorem ok_copT {f : Addr} {fd : FuncData} {n k : Nat} (F : Fun K "copied" "copied" s_copied f fd) (T : Te mg) (D_copied : Df P w K mg base k "copied" (if n = 0 then fun _ _ _ _ => False else spCopT (n - 1))) : FnOk P w K mg base CX0 (k + 1) f fd ["value"] (spCopT n) := by
  refine F.ok sc_copied (fun vs H Q E h => ?_) (fun cdv A outer s H vs Q E hr h => ?_)
  · obtain ⟨x, d, rfl, _⟩ := h
    rfl
  · obtain ⟨x, d, rfl, tv, td, q⟩ := h
    refine ⟨_, (pss_cons (ps_if (pt_val (pe_callB call_isi (by rfl) T.isinstance (by decide +kernel) (pa_cons (pv 0) (pa_cons (pe_bltn (v := .ty "list") (by rfl) T.list (by decide +kernel) rfl) pa_nil))))
        (pss_one (ps_ret (pe_lc (own := [("part", 1)]) (g := gName 1) (by rfl) sc_copied.nd (pi_list (pv 0)) (blkOk_by (own := [("part", 1)]) (N := n_copied) (sc := defScope s_copied) (by decide +kernel)) (fun _ _ _ _ _ => (pg_name (i := 1) sc_copied.nd rfl (.inl rfl))) (fun _ _ _ _ _ => pts_nil) (fun _ _ _ _ _ => (pe_c D_copied hr (Nat.le_refl _) (by rfl) (pa_cons (pv 1) pa_nil))))))
        pss_nil)
      (pss_cons (ps_if (pt_val (pe_callB call_isi (by rfl) T.isinstance (by decide +kernel) (pa_cons (pv 0) (pa_cons (pe_bltn (v := .ty "tuple") (by rfl) T.tuple (by decide +kernel) rfl) pa_nil))))
        (pss_one (ps_ret (pe_callTy (call_tuple_ofK (K := K) rfl) (by rfl) T.tuple (by decide +kernel) (pa_cons (pe_lc (own := [("part", 1)]) (g := gName 1) (by rfl) sc_copied.nd (pi_tup (pv 0)) (blkOk_by (own := [("part", 1)]) (N := n_copied) (sc := defScope s_copied) (by decide +kernel)) (fun _ _ _ _ _ => (pg_name (i := 1) sc_copied.nd rfl (.inl rfl))) (fun _ _ _ _ _ => pts_nil) (fun _ _ _ _ _ => (pe_c D_copied hr (Nat.le_refl _) (by rfl) (pa_cons (pv 1) pa_nil)))) pa_nil))))
        pss_nil)
      (pss_cons (ps_if (pt_val (pe_callB call_isi (by rfl) T.isinstance (by decide +kernel) (pa_cons (pv 0) (pa_cons (pe_bltn (v := .ty "dict") (by rfl) T.dict (by decide +kernel) rfl) pa_nil))))
        (pss_one (ps_ret (pe_lock (pe_dc (own := [("key", 2)]) (g := gName 2) (by rfl) sc_copied.nd (pi_keys (pv 0)) (blkOk_by (own := [("key", 2)]) (N := n_copied) (sc := defScope s_copied) (by decide +kernel)) (fun _ _ _ _ _ => (pg_name (i := 2) sc_copied.nd rfl (.inl rfl))) (fun _ _ _ _ _ => pts_nil) (fun _ _ _ _ _ => (pv 2)) (fun _ _ _ _ _ => (pe_c D_copied hr (Nat.le_refl _) (by rfl) (pa_cons (pe_dget (hu_of hr) (pv 0) (pv 2) (fun _ _ => rfl)) pa_nil)))))))
        pss_nil)
      (pss_one (ps_ret (pv 0)))))), ?_⟩
    rcases td_cases td with fl | ⟨m, ds, rfl, rfl, l200, hd⟩
    · obtain ⟨t, ty, e1, e2, e3⟩ := (flt_ty tv fl).ty (K := K)
      refine ⟨_, rfl, _, .ty "list", t, .type "list", false, rfl, .ty _, ty _, e1, false, rfl, iteF ?_⟩
      refine ⟨_, rfl, _, .ty "tuple", t, .type "tuple", false, rfl, .ty _, ty _, e2, false, rfl, iteF ?_⟩
      refine ⟨_, rfl, _, .ty "dict", t, .type "dict", false, rfl, .ty _, ty _, e3, false, rfl, iteF ?_⟩
      exact ⟨_, rfl, q _ _ (Same.refl H) tv⟩
    · cases tv with
      | @tup a xs ds ha tvs =>
        have lx := tvs.len
        refine ⟨_, rfl, _, .ty "list", .type "tuple", .type "list", false, rfl, .ty _, .base (.tup ha), kit_ty (by decide +kernel), false, rfl, iteF ?_⟩
        refine ⟨_, rfl, _, .ty "tuple", .type "tuple", .type "tuple", true, rfl, .ty _, .base (.tup ha), kit_ty (by decide +kernel), true, rfl, iteT ?_⟩
        refine ⟨_, rfl, a, rfl, ⟨_, .inl (.inl ha)⟩, fun D nD => lc_it (walk_tup (K := K) (a := a) (xs := xs)) (fun i H2 => ∃ ys, TVs H2 ys (ds.take i) ∧ H2 D = some (.lst ys) ∧ Same H H2) ?_ ?_ ?_ ?_⟩
        · exact ⟨[], .nil, upd_same, same_put (s := Same.refl H) nD⟩
        · rintro i H2 hi ⟨ys, _, _, s2⟩
          exact .inl (.inl (s2 _ _ ha))
        · rintro i y H2 H3 hi ⟨ys, ty, hD, s2⟩ ⟨rfl, hy⟩
          obtain ⟨d, hdi, tv⟩ := tvs.at hy
          have ly := ty.len
          rw [List.length_take] at ly
          refine ⟨rfl, _, rfl, y, d, rfl, tv.same s2, hd d (List.mem_of_getElem? hdi), fun z H4 s4 tz => ?_⟩
          have hD4 := s4 _ _ hD
          refine ⟨_, hD4, by rw [sizeLine_eq]; omega, ys ++ [z], ?_, upd_same, ?_⟩
          · rw [List.take_add_one, hdi]
            exact ((ty.same s4).put hD4).snoc (tz.put hD4)
          · intro b o e
            rw [upd_ne (ne_of_none e nD)]
            exact s4 _ _ (s2 _ _ e)
        · rintro H2 ⟨ys, ty, hD, s2⟩
          rw [List.take_of_length_le (by omega)] at ty
          refine ⟨D, ys, rfl, .inl ⟨SqL.of hD, fun b nb => ?_⟩⟩
          exact q _ _ (same_put (s := s2) nb) (.tup upd_same (ty.same (same_put (s := Same.refl H2) nb)))
theorem ok_rowsT {f : Addr} {fd : FuncData} {n k : Nat} (F : Fun K "equal_rows" "equal_rows" s_equal_rows f fd) (T : Te mg) (D_equal : Df P w K mg base k "equal" (spEqT n)) : FnOk P w K mg base CX0 (k + 1) f fd ["one", "other"] (spRowsT (n + 1)) := by
  refine F.ok sc_equal_rows (fun vs H Q E h => ?_) (fun cdv A outer s H vs Q E hr h => ?_)
  · obtain ⟨a, b, xs, ys, ds, es, rfl, _⟩ := h
    rfl
  · obtain ⟨a, b, xs, ys, ds, es, rfl, ha, hb, tx, ty, l1, l2, t1, t2, q⟩ := h
    refine ⟨_, (pss_one (ps_ret (pe_and (pe_cmpR op_eq (pe_callB (call_len_seqK (K := K) rfl) (by rfl) T.len (by decide +kernel) (pa_cons (pv 0) pa_nil)) (pe_callB (call_len_seqK (K := K) rfl) (by rfl) T.len (by decide +kernel) (pa_cons (pv 1) pa_nil)) (nomark _)) (pe_one (pe_callB (cr_all rfl) (by rfl) T.all (by decide +kernel) (pa_cons (pe_lc (own := [("left", 2), ("right", 3)]) (g := gTup K 2 (gCons (gName 2) (gCons (gName 3) gNil))) (by rfl) sc_equal_rows.nd (RZ.pi_zipA (by rfl) T.zip (pa_cons (pv 0) (pa_cons (pv 1) pa_nil))) (blkOk_by (own := [("left", 2), ("right", 3)]) (N := n_equal_rows) (sc := defScope s_equal_rows) (by decide +kernel)) (fun _ _ _ _ _ => (pg_tup (by rfl) (pgs_cons (pg_name (i := 2) sc_equal_rows.nd rfl (.inl rfl)) (pgs_cons (pg_name (i := 3) sc_equal_rows.nd rfl (.inl rfl)) pgs_nil)))) (fun _ _ _ _ _ => pts_nil) (fun _ _ _ _ _ => (pe_c D_equal hr (Nat.le_refl _) (by rfl) (pa_cons (pv 2) (pa_cons (pv 3) pa_nil))))) pa_nil)))))), ?_⟩
    have lx := tx.len
    have ly := ty.len
    refine ⟨_, rfl, a, xs, rfl, .inr (.inl (.inl ha)), _, rfl, b, ys, rfl, .inr (.inl (.inl hb)), rfl, _, rfl, ?_⟩
    by_cases el : ds.length = es.length
    · rw [decide_eq_true (show V.int ((xs.length : Nat) : Int) = V.int ((ys.length : Nat) : Int) by rw [lx, ly, el])]
      refine iteT ?_
      refine ⟨_, rfl, _, rfl, a, b, xs, ys, rfl, .inr ⟨.inl (.inl ha), .inl (.inl hb), fun D nD => lc_it (walk_zipT (K := K) (a := a) (b := b) (xs := xs) (ys := ys) (n := ds.length) (by omega)) (fun i H2 => H2 D = some (.lst ((((ds.zip es).take i).map fun q => PyData.eqv q.1 q.2).map V.bl)) ∧ Same H H2) ?_ ?_ ?_ ?_⟩⟩
      · exact ⟨upd_same, same_put (s := Same.refl H) nD⟩
      · rintro i H2 hi ⟨_, s2⟩
        exact ⟨.inl (.inl (s2 _ _ ha)), .inl (.inl (s2 _ _ hb))⟩
      · rintro i v H2 H3 hi ⟨hD, s2⟩ ⟨Tq_, x, y, rfl, nT, rfl, hx, hy⟩
        obtain ⟨d, hd, tvx⟩ := tx.at hx
        obtain ⟨e, he, tvy⟩ := ty.at hy
        have s3 := same_put (s := s2) (o := .tup [x, y]) nT
        have hD3 := same_put (s := Same.refl H2) (o := .tup [x, y]) nT _ _ hD
        refine ⟨Tq_, _, rfl, .inl (.inl upd_same), rfl, _, _, rfl, _, _, rfl, rfl, ?_⟩
        generalize upd H2 Tq_ (.tup [x, y]) = H4 at s3 hD3 ⊢
        refine ⟨rfl, _, rfl, _, rfl, x, y, d, e, rfl, tvx.same s3, tvy.same s3, t1 d (List.mem_of_getElem? hd), t2 e (List.mem_of_getElem? he), fun H5 s5 => ?_⟩
        have hD5 := s5 _ _ hD3
        have ez : (ds.zip es)[i]? = some (d, e) := by
          rw [List.getElem?_zip_eq_some]
          exact ⟨hd, he⟩
        refine ⟨_, hD5, ?_, ?_, ?_⟩
        · rw [List.length_map, List.length_map, List.length_take, sizeLine_eq]
          omega
        · rw [upd_same, List.take_add_one, ez, List.map_append, List.map_append]
          rfl
        · intro b2 o e2
          rw [upd_ne (ne_of_none e2 nD)]
          exact s5 _ _ (s3 _ _ e2)
      · rintro H2 ⟨hD, s2⟩
        rw [List.take_of_length_le (by rw [List.length_zip]; omega)] at hD
        refine ⟨D, _, rfl, SqL.of hD, ?_⟩
        rw [eqvAll_zip el]
        exact q H2 s2
    · rw [decide_eq_false (show ¬ V.int ((xs.length : Nat) : Int) = V.int ((ys.length : Nat) : Int) from fun z => el (by have := V.int.inj z; omega))]
      refine iteF ?_
      have := q H (Same.refl H)
      rw [eqvAll_len el] at this
      exact this
theorem ok_eqT {f : Addr} {fd : FuncData} {n k : Nat} (hn : n ≤ 60) (F : Fun K "equal" "equal" s_equal f fd) (T : Te mg) (D_equal_rows : Df P w K mg base k "equal_rows" (spRowsT n)) : FnOk P w K mg base CX0 (k + 1) f fd ["one", "other"] (spEqT n) := by
  refine F.ok sc_equal (fun vs H Q E h => ?_) (fun cdv A outer s H vs Q E hr h => ?_)
  · obtain ⟨x, y, d, e, rfl, _⟩ := h
    rfl
  · obtain ⟨x, y, d, e, rfl, tx, ty, t1, t2, q⟩ := h
    refine ⟨_, (pss_cons (ps_if (pt_val (pe_callB call_isi (by rfl) T.isinstance (by decide +kernel) (pa_cons (pv 0) (pa_cons (pe_bltn (v := .ty "dict") (by rfl) T.dict (by decide +kernel) rfl) pa_nil))))
        (pss_one ps_never)
        pss_nil)
      (pss_cons (ps_if (pt_val (pe_callB call_isi (by rfl) T.isinstance (by decide +kernel) (pa_cons (pv 0) (pa_cons (pe_bltn (v := .ty "list") (by rfl) T.list (by decide +kernel) rfl) pa_nil))))
        (pss_one ps_never)
        pss_nil)
      (pss_cons (ps_if (pt_val (pe_callB call_isi (by rfl) T.isinstance (by decide +kernel) (pa_cons (pv 0) (pa_cons (pe_bltn (v := .ty "tuple") (by rfl) T.tuple (by decide +kernel) rfl) pa_nil))))
        (pss_one (ps_ret (pe_and (pe_callB call_isi (by rfl) T.isinstance (by decide +kernel) (pa_cons (pv 1) (pa_cons (pe_bltn (v := .ty "tuple") (by rfl) T.tuple (by decide +kernel) rfl) pa_nil))) (pe_one (pe_c D_equal_rows hr (Nat.le_refl _) (by rfl) (pa_cons (pv 0) (pa_cons (pv 1) pa_nil)))))))
        pss_nil)
      (pss_one (ps_ret (pe_and (pe_cmpR op_eq (pe_callB call_isi (by rfl) T.isinstance (by decide +kernel) (pa_cons (pv 0) (pa_cons (pe_bltn (v := .ty "bool") (by rfl) T.bool (by decide +kernel) rfl) pa_nil))) (pe_callB call_isi (by rfl) T.isinstance (by decide +kernel) (pa_cons (pv 1) (pa_cons (pe_bltn (v := .ty "bool") (by rfl) T.bool (by decide +kernel) rfl) pa_nil))) (nomark _)) (pe_one (pe_cmpR (op_eqDK (K := K) rfl hr.units) (pv 0) (pv 1) (nomark _))))))))), ?_⟩
    obtain ⟨t, y1, a1, a2, a3, a4⟩ := tv_ty (K := K) tx
    obtain ⟨u, y2, b1, b2, b3, b4⟩ := tv_ty (K := K) ty
    have y1 := y1 H (Same.refl H)
    have y2 := y2 H (Same.refl H)
    refine ⟨_, rfl, _, .ty "dict", t, .type "dict", false, rfl, .ty _, y1, a1, false, rfl, iteF ?_⟩
    refine ⟨_, rfl, _, .ty "list", t, .type "list", false, rfl, .ty _, y1, a2, false, rfl, iteF ?_⟩
    rcases td_cases t1 with fl | ⟨m, ds, rfl, rfl, l200, hd⟩
    · have nt : isTup d = false := by
        rcases fl with rfl | ⟨z, rfl, _⟩ | ⟨i, rfl⟩ <;> rfl
      rw [nt] at a4
      refine ⟨_, rfl, _, .ty "tuple", t, .type "tuple", false, rfl, .ty _, y1, a4, false, rfl, iteF ?_⟩
      refine ⟨_, rfl, _, .ty "bool", t, .type "bool", false, rfl, .ty _, y1, a3, _, rfl, _, .ty "bool", u, .type "bool", false, rfl, .ty _, y2, b3, rfl, _, rfl, ?_⟩
      exact iteT ⟨_, rfl, _, rfl, d, e, tx.dp, ty.dp, td_shaped t1 (by omega), td_shaped t2 (by omega), q H (Same.refl H)⟩
    · refine ⟨_, rfl, _, .ty "tuple", t, .type "tuple", true, rfl, .ty _, y1, a4, true, rfl, iteT ?_⟩
      rcases td_cases t2 with fl | ⟨m2, es, em, rfl, l2, he⟩
      · have nt : isTup e = false ∧ PyData.eqv (.tuple ds) e = false := by
          rcases fl with rfl | ⟨z, rfl, _⟩ | ⟨i, rfl⟩ <;> exact ⟨rfl, by simp [PyData.eqv]⟩
        rw [nt.1] at b4
        have q := q H (Same.refl H)
        rw [nt.2] at q
        exact ⟨_, rfl, _, .ty "tuple", u, .type "tuple", false, rfl, .ty _, y2, b4, _, rfl, iteF q⟩
      · obtain rfl : m = m2 := by omega
        refine ⟨_, rfl, _, .ty "tuple", u, .type "tuple", true, rfl, .ty _, y2, b4, _, rfl, iteT ?_⟩
        cases tx with
        | @tup a xs _ ha tvx =>
          cases ty with
          | @tup b ys _ hb tvy =>
            exact ⟨_, rfl, _, rfl, a, b, xs, ys, ds, es, rfl, ha, hb, tvx, tvy, l200, l2, hd, he, fun H' s => by
              have := q H' s
              rw [PyData.eqv] at this
              exact this⟩
end
end V8
set_option Elab.async false
set_option linter.all false
/-! The places as a function of the words; how many stand on one side. -/
namespace MZ
theorem all8 {P : List Pr} (h8 : ∀ q ∈ P, q.1.length = 8) {p : Pl} {w : List Nat × List Nat} (h : Way P P .start p w) : ∀ a r, p = .rest a r → r.length = 8 ∧ r ∈ P.map (·.1) := by
  induction h with
  | nil => exact fun a r e => nomatch e
  | @step p w t l q k m ih =>
    intro a r e
    subst e
    cases p with
    | fin => cases m
    | start =>
      obtain ⟨x, hx, e⟩ := List.mem_map.mp m
      cases e
      exact ⟨h8 x hx, List.mem_map_of_mem hx⟩
    | rest b s =>
      obtain ⟨l8, _⟩ := ih b s rfl
      obtain ⟨z, hz, e⟩ := List.mem_filterMap.mp m
      obtain ⟨q', eb, e2⟩ := Option.map_eq_some_iff.mp e
      cases e2
      have hz8 : z.1.length = 8 := by
        cases b with
        | true => exact h8 z hz
        | false => exact h8 z hz
      exfalso
      rcases behind_cases eb with ⟨_, e3⟩ | ⟨v, nv, e3, _⟩ | ⟨v, nv, e3, _⟩
      · cases e3
      · have e4 := congrArg List.length e3
        rw [List.length_append] at e4
        exact nv (List.eq_nil_of_length_eq_zero (by omega))
      · have e4 := congrArg List.length e3
        rw [List.length_append] at e4
        exact nv (List.eq_nil_of_length_eq_zero (by omega))
theorem sumL_le : ∀ {P : List Pr}, (∀ q ∈ P, q.1.length ≤ 8) → sumL P ≤ 8 * P.length
  | [], _ => Nat.le_refl _
  | q :: P, h => by
    have h1 := h q List.mem_cons_self
    have h2 := sumL_le (P := P) fun x hx => h x (List.mem_cons_of_mem _ hx)
    show q.1.length + sumL P ≤ 8 * (P.length + 1)
    omega
theorem sumL_lt : ∀ {P : List Pr}, (∀ q ∈ P, q.1.length ≤ 8) → (∃ q ∈ P, q.1.length ≤ 7) → sumL P + 1 ≤ 8 * P.length
  | [], _, ⟨_, h, _⟩ => absurd h List.not_mem_nil
  | q :: P, h, ⟨x, hx, l⟩ => by
    have h1 := h q List.mem_cons_self
    have hP := fun x hx => h x (List.mem_cons_of_mem q (a := x) hx)
    have h2 := sumL_le (P := P) hP
    show q.1.length + sumL P + 1 ≤ 8 * (P.length + 1)
    rcases List.mem_cons.mp hx with rfl | hx
    · omega
    · have h3 := sumL_lt hP ⟨x, hx, l⟩
      omega
theorem rests_few {P : List Pr} (hP : P.length ≤ 8) (h8 : ∀ q ∈ P, q.1.length ≤ 8) (ne : ∀ q ∈ P, q.1 ≠ []) {rs : List Wd} {s : Bool} (nd : rs.Nodup) (hr : ∀ r ∈ rs, ∃ w, Way P P .start (.rest s r) w) : rs.length ≤ 63 := by
  by_cases h7 : ∃ q ∈ P, q.1.length ≤ 7
  · have hs := sumL_lt h8 h7
    have : rs.length ≤ (P.flatMap fun q => tails q.1).length := nd_le nd fun r hr2 => by
      obtain ⟨w, k⟩ := hr r hr2
      have z := (reach_uni ne k).2
      have z2 : r ≠ [] ∧ ∃ q ∈ P, ∃ a, q.1 = a ++ r := by
        cases s with
        | true => exact z
        | false => exact z
      obtain ⟨nr, q, hq, a, e⟩ := z2
      exact List.mem_flatMap.mpr ⟨q, hq, tails_has _ a r e nr⟩
    have e : (P.flatMap fun q => tails q.1).length = sumL P := by
      rw [List.length_flatMap]
      unfold sumL
      congr 1
      exact List.map_congr_left fun q _ => tails_len _
    omega
  · have e8 : ∀ q ∈ P, q.1.length = 8 := fun q hq => by
      have := h8 q hq
      have : ¬ q.1.length ≤ 7 := fun z => h7 ⟨q, hq, z⟩
      omega
    have : rs.length ≤ (P.map (·.1)).length := nd_le nd fun r hr2 => by
      obtain ⟨w, k⟩ := hr r hr2
      exact (all8 e8 k s r rfl).2
    rw [List.length_map] at this
    omega
end MZ
set_option Elab.async false
set_option linter.all false
set_option maxRecDepth 100000
set_option maxHeartbeats 4000000
/-! Own classes by their names; a def by one keyword; bool(o) by an own __bool__. -/
namespace BoO
open PySem PySem.Spec PyProof.Rows
end BoO
namespace L2
open PySem PySem.Spec PyProof.Rows BoO
/-- a class of the text by its name: its __init__ has no defaults -/
structure MkC (P : Program) (w : World) (K : PySem.W.Frag) (mg : Str → Option Value) (base : Heap) (k : Nat) (C : Addr) (x : Str) (sp : Sp) : Prop where
  ex : ∃ (f : Addr) (fd : FuncData) (ps : List Str), Mk K C f ∧ FnOk P w K mg base CX0 k f fd ps sp ∧ mg x = some (.ref C) ∧ Binds K fd ps []
section
variable {X : Cx} {n k j : Nat} {C : Addr} {x : Str} {ks : List Str} {gV : List V → List V → List V} {sp : Sp} {p pos : Pos} {e : Expr} {es : List Expr} {kws : List Keyword} {t tk : TA}
theorem pe_mkC (M : MkC X.prog X.w X.K X.mg X.base k C x sp) (hr : Room j X.A) (hj : k + 1 ≤ j) (hg : Gl X x) (ha : PA X (e :: es) t) (hdb : (x == ("__debug__" : Str)) = false := by decide)
    (he : starEach (e :: es) X.env = (false, eval e X.env) :: starEach es X.env := by rfl) (hpl : (backTo pos (starEach es X.env)).any (·.1) = false := by rfl) : PE X (.Call (.Name x p) (e :: es) [] pos) (tMake C sp [] E0 t) := by
  obtain ⟨f, fd, ps, M, F, hm, b⟩ := M.ex
  exact pe_make M F (hr.mono hj) hg hm b .nil pass0 ha hdb he hpl
end
end L2
set_option Elab.async false
set_option linter.all false
set_option maxRecDepth 100000
set_option maxHeartbeats 8000000
set_option pp.maxSteps 900
/-! A misreading's images as pairs; its checks. -/
namespace V8
open PySem PySem.Spec PyProof.Rows L2 MZ
variable {K : PySem.W.Frag} {ω : World}
abbrev s_check_misreading : Stmt := topS 38
theorem sc_check_misreading : FnScope ["value"] ["value"] (defScope s_check_misreading) := ⟨rfl, rfl, rfl, by decide +kernel, rfl, by decide +kernel, by decide +kernel⟩
abbrev s_check_length : Stmt := topS 66
abbrev n_check_length : List Str := ["misreading", "letter"]
theorem sc_check_length : FnScope ["misreading", "letter"] ["misreading"] (defScope s_check_length) := ⟨rfl, rfl, rfl, by decide +kernel, rfl, by decide +kernel, by decide +kernel⟩
abbrev s_check_images : Stmt := topS 65
theorem sc_check_images : FnScope ["misreading"] ["misreading"] (defScope s_check_images) := ⟨rfl, rfl, rfl, by decide +kernel, rfl, by decide +kernel, by decide +kernel⟩
abbrev s_image_pairs : Stmt := topS 64
abbrev n_image_pairs : List Str := ["misreading", "letter"]
theorem sc_image_pairs : FnScope ["misreading", "letter"] ["misreading"] (defScope s_image_pairs) := ⟨rfl, rfl, rfl, by decide +kernel, rfl, by decide +kernel, by decide +kernel⟩
/-- the images with their letters as labels -/
def pairsT (u : Tab) : List Pr := (keysOf u).map fun c => ((lookT u c).getD [], c)
structure OkU (u : Tab) : Prop where
  few : (keysOf u).length ≤ 8
  img : ∀ c ∈ keysOf u, ∃ s, lookT u c = some s ∧ s ≠ [] ∧ s.length ≤ 8 ∧ ∀ d ∈ s, isLt d
theorem OkU.pr {u : Tab} (o : OkU u) : ∀ q ∈ pairsT u, q.1 ≠ [] ∧ q.1.length ≤ 8 ∧ (∀ d ∈ q.1, isLt d) ∧ isLt q.2 := fun q hq => by
  obtain ⟨c, hc, rfl⟩ := List.mem_map.mp hq
  obtain ⟨s, e, h1, h2, h3⟩ := o.img c hc
  show (lookT u c).getD [] ≠ [] ∧ _
  rw [e]
  exact ⟨h1, h2, h3, keysOf_sub u c hc⟩
theorem OkU.len {u : Tab} (o : OkU u) : (pairsT u).length ≤ 8 := by
  unfold pairsT
  rw [List.length_map]
  exact o.few
theorem OkU.prOk {u : Tab} (o : OkU u) : PrOk (pairsT u) := ⟨Nat.le_trans o.len (by decide), fun q hq => ⟨Nat.le_trans (o.pr q hq).2.1 (by decide), (o.pr q hq).2.2.1⟩⟩
theorem OkU.lb {u : Tab} (o : OkU u) : LbOk (pairsT u) := fun q hq => (o.pr q hq).2.2.2
theorem OkU.ne {u : Tab} (o : OkU u) : ∀ q ∈ pairsT u, q.1 ≠ [] := fun q hq => (o.pr q hq).1
theorem runQ_reach {P S : List Pr} : ∀ n, (runQ P S n).Nodup ∧ ∀ p ∈ runQ P S n, ∃ w, Way P S .start p w
  | 0 => ⟨List.nodup_cons.mpr ⟨List.not_mem_nil, List.nodup_nil⟩, fun p hp => by
    rw [List.mem_singleton.mp hp]
    exact ⟨_, .nil⟩⟩
  | n + 1 => by
    obtain ⟨nd, h⟩ := runQ_reach (P := P) (S := S) n
    show (stepQ P S (runQ P S n) n).Nodup ∧ ∀ p ∈ stepQ P S (runQ P S n) n, _
    unfold stepQ
    cases e : (runQ P S n)[n]? with
    | none => exact ⟨nd, h⟩
    | some p =>
      refine ⟨addTo_nd _ _ nd, fun q hq => ?_⟩
      rcases (addTo_has _ _ _).mp hq with a | ⟨m, hm, rfl⟩
      · exact h q a
      · obtain ⟨w, k⟩ := h p (List.mem_of_getElem? e)
        exact ⟨_, k.step (t := m.1) (l := m.2.1) (q := m.2.2) hm⟩
theorem OkU.fewR {u : Tab} (o : OkU u) : FewR (pairsT u) (pairsT u) := fun s => by
  obtain ⟨nd, hr⟩ := runQ_reach (P := pairsT u) (S := pairsT u) 600
  have nd2 : ((placesQ (pairsT u) (pairsT u)).filter (onSide s)).Nodup := nd.filter _
  have side : ∀ {p : Pl}, onSide s p = true → p = .rest s (restOf p) := fun {p} h => by
    cases p with
    | start => cases h
    | fin => cases h
    | rest a r =>
      rw [of_decide_eq_true (show decide (a = s) = true from h)]
      rfl
  have inj : ∀ {l : List Pl}, l.Nodup → (∀ p ∈ l, onSide s p = true) → (l.map restOf).Nodup := by
    intro l
    induction l with
    | nil => exact fun _ _ => List.nodup_nil
    | cons p r ih =>
      intro nd h
      rw [List.nodup_cons] at nd
      rw [List.map_cons, List.nodup_cons]
      refine ⟨fun z => ?_, ih nd.2 fun q hq => h q (List.mem_cons_of_mem _ hq)⟩
      obtain ⟨q, hq, e⟩ := List.mem_map.mp z
      refine nd.1 ?_
      rw [side (h p List.mem_cons_self), ← e, ← side (h q (List.mem_cons_of_mem _ hq))]
      exact hq
  have nd3 : (((placesQ (pairsT u) (pairsT u)).filter (onSide s)).map restOf).Nodup := by
    exact inj nd2 fun p hp => (List.mem_filter.mp hp).2
  have z := rests_few (s := s) o.len (fun q hq => (o.pr q hq).2.1) o.ne nd3 fun r h => by
    obtain ⟨p, hp, rfl⟩ := List.mem_map.mp h
    obtain ⟨h1, h2⟩ := List.mem_filter.mp hp
    obtain ⟨w, k⟩ := hr p h1
    rw [side h2] at k
    exact ⟨w, k⟩
  rw [List.length_map] at z
  exact z
theorem MisAt.same2 {C : Addr} {H H' : Hp} {x : Addr} {u : Tab} (m : MisAt C H x u) (s : Same H H') : MisAt C H' x u := m.mono fun b o e _ => s b o e
def spChkM (CM : Addr) : Sp := fun vs H Q _ => ∃ (x : Addr) (u : Tab), vs = [.ref x] ∧ MisAt CM H x u ∧ Q .non H
def spChkL (CM : Addr) : Sp := fun vs H Q _ => ∃ (x : Addr) (u : Tab), vs = [.ref x] ∧ MisAt CM H x u ∧ OkU u ∧ ∀ H', Same H H' → Q .non H'
def spPairs (CM : Addr) : Sp := fun vs H Q _ => ∃ (x : Addr) (u : Tab), vs = [.ref x] ∧ MisAt CM H x u ∧ OkU u ∧ ∀ a H', Same H H' → PrL H' a (pairsT u) → Q (.ref a) H'
structure Tp (K : PySem.W.Frag) (mg : Str → Option Value) (CM CJ : Addr) : Prop extends Tz K mg CM CJ where
  any : mg "any" = none
  gLONGEST_IMAGE : GV mg "LONGEST_IMAGE" (.int 8)
section
variable {P : Program} {w : World} {K : PySem.W.Frag} {mg : Str → Option Value} {base : Heap} {CM CJ : Addr}
theorem ok_check_misreading {f : Addr} {fd : FuncData} (F : Fun K "check_misreading" "check_misreading" s_check_misreading f fd) (T : Tp K mg CM CJ) : FnOk P w K mg base CX0 1 f fd ["value"] (spChkM CM) := by
  refine F.ok sc_check_misreading (fun vs H Q E h => ?_) (fun cdv A outer s H vs Q E hr h => ?_)
  · obtain ⟨x, u, rfl, _⟩ := h
    rfl
  · obtain ⟨x, u, rfl, m, q⟩ := h
    refine ⟨_, (pss_one (ps_if (pt_not (pt_val (pe_callB call_isi (by rfl) T.isinstance (by decide +kernel) (pa_cons (pv 0) (pa_cons (pe_gv T.gMisreading (by rfl)) pa_nil)))))
        (pss_one ps_never)
        pss_nil)), ?_⟩
    obtain ⟨dx, fs, hx⟩ := m.ins
    exact ⟨_, rfl, _, .ref CM, .ref CM, .ref CM, true, rfl, .own _, .base (.ins hx T.cl T.tA T.tB T.tC T.tD), T.mM, true, rfl, iteF q⟩
theorem ok_check_length {f : Addr} {fd : FuncData} (F : Fun K "check_length" "check_length" s_check_length f fd) (T : Tp K mg CM CJ) (D_iter : ItM P w K mg base 1 CM (snIter CM)) (D_get : Mf P w K mg base 2 CM "__getitem__" (spGet CM)) : FnOk P w K mg base CX0 4 f fd ["misreading"] (spChkL CM) := by
  refine F.ok sc_check_length (fun vs H Q E h => ?_) (fun cdv A outer s H vs Q E hr h => ?_)
  · obtain ⟨x, u, rfl, _⟩ := h
    rfl
  · obtain ⟨x, u, rfl, m, ok, q⟩ := h
    refine ⟨_, (pss_one (ps_if (pt_val (pe_callB (cr_any rfl) (by rfl) T.any (by decide +kernel) (pa_cons (pe_lc (own := [("letter", 1)]) (g := gName 1) (by rfl) sc_check_length.nd (pi_ownI D_iter hr (by decide) (pv 0)) (blkOk_by (own := [("letter", 1)]) (N := n_check_length) (sc := defScope s_check_length) (by decide +kernel)) (fun _ _ _ _ _ => (pg_name (i := 1) sc_check_length.nd rfl (.inl rfl))) (fun _ _ _ _ _ => pts_nil) (fun _ _ _ _ _ => (pe_cmpR op_gt (pe_callB call_len_str (by rfl) T.len (by decide +kernel) (pa_cons (pe_ixO D_get hr (by decide) (pv 0) (pv 1)) pa_nil)) (pe_gv T.gLONGEST_IMAGE (by rfl)) (nomark _)))) pa_nil)))
        (pss_one ps_never)
        pss_nil)), ?_⟩
    have few := ok.few
    have lk := lets_len (keysOf u)
    obtain ⟨dx0, fs0, hx0⟩ := m.ins
    refine ⟨_, rfl, x, dx0, _, rfl, hx0, fun k0 hk0 => ⟨x, u, rfl, m, fun it a ni hi ha => ⟨it, a, rfl, hi, upd_same, ?_⟩⟩⟩
    rw [dropH_upd ni]
    refine fun D nD => lc_it (walk_tup (K := K) (a := a) (xs := lets (keysOf u))) (fun i H2 => H2 D = some (.lst ((List.replicate i false).map V.bl)) ∧ Same H H2) ?_ ?_ ?_ ?_
    · exact ⟨upd_same, same_put (s := Same.refl H) nD⟩
    · rintro i H2 hi ⟨_, s2⟩
      exact .inl (.inl (s2 _ _ ha))
    · rintro i y H20 H2 hi ⟨hD, s2⟩ ⟨rfl, hy⟩
      obtain ⟨hi', rfl⟩ := lets_get hy
      have hc := List.getElem_mem hi'
      obtain ⟨s', es, n0, l8, _⟩ := ok.img _ hc
      have m2 := m.same2 s2
      obtain ⟨dx, a1, b1, c1, h1, _⟩ := m2.at_
      refine ⟨rfl, _, rfl, _, rfl, x, dx, _, rfl, h1, x, u, _, s', rfl, m2, hc, es, ?_⟩
      refine ⟨_, rfl, by rw [Sx_len, sizeLine_eq]; omega, _, _, rfl, rfl, ?_⟩
      have e0 : decide ((8 : Int) < ((Sx s').length : Int)) = false := decide_eq_false (by rw [Sx_len]; omega)
      refine ⟨_, hD, by rw [List.length_map, List.length_replicate, sizeLine_eq]; omega, ?_, fun b o e => ?_⟩
      · show upd _ _ (.lst (_ ++ [V.bl (decide ((8 : Int) < ((Sx s').length : Int)))])) D = _
        rw [upd_same, e0, List.replicate_succ', List.map_append]
        rfl
      · show upd H2 D _ b = _
        rw [upd_ne (ne_of_none e nD)]
        exact s2 _ _ e
    · rintro H2 ⟨hD, s2⟩
      refine ⟨D, _, rfl, SqL.of hD, false, ?_, iteF (q H2 s2)⟩
      have e0 : ∀ n : Nat, (List.replicate n false).any id = false := fun n => by
        induction n with
        | zero => rfl
        | succ n ih => rw [List.replicate_succ, List.any_cons, ih]; rfl
      rw [e0]
theorem ok_check_images {f : Addr} {fd : FuncData} (F : Fun K "check_images" "check_images" s_check_images f fd) (T : Tp K mg CM CJ) (D_check_misreading : Df P w K mg base 1 "check_misreading" (spChkM CM)) (D_check_length : Df P w K mg base 4 "check_length" (spChkL CM)) : FnOk P w K mg base CX0 5 f fd ["misreading"] (spChkL CM) := by
  refine F.ok sc_check_images (fun vs H Q E h => ?_) (fun cdv A outer s H vs Q E hr h => ?_)
  · obtain ⟨x, u, rfl, _⟩ := h
    rfl
  · obtain ⟨x, u, rfl, m, ok, q⟩ := h
    refine ⟨_, (pss_cons (ps_expr (pe_c D_check_misreading hr (by decide) (by rfl) (pa_cons (pv 0) pa_nil)))
      (pss_one (ps_expr (pe_c D_check_length hr (by decide) (by rfl) (pa_cons (pv 0) pa_nil))))), ?_⟩
    refine ⟨_, rfl, x, u, rfl, m, ?_⟩
    exact ⟨_, rfl, x, u, rfl, m, ok, fun H' s => q H' s⟩
theorem ok_image_pairs {f : Addr} {fd : FuncData} (F : Fun K "image_pairs" "image_pairs" s_image_pairs f fd) (T : Tp K mg CM CJ) (D_iter : ItM P w K mg base 1 CM (snIter CM)) (D_get : Mf P w K mg base 2 CM "__getitem__" (spGet CM)) : FnOk P w K mg base CX0 4 f fd ["misreading"] (spPairs CM) := by
  refine F.ok sc_image_pairs (fun vs H Q E h => ?_) (fun cdv A outer s H vs Q E hr h => ?_)
  · obtain ⟨x, u, rfl, _⟩ := h
    rfl
  · obtain ⟨x, u, rfl, m, ok, q⟩ := h
    refine ⟨_, (pss_one (ps_ret (pe_lc (own := [("letter", 1)]) (g := gName 1) (by rfl) sc_image_pairs.nd (pi_ownI D_iter hr (by decide) (pv 0)) (blkOk_by (own := [("letter", 1)]) (N := n_image_pairs) (sc := defScope s_image_pairs) (by decide +kernel)) (fun _ _ _ _ _ => (pg_name (i := 1) sc_image_pairs.nd rfl (.inl rfl))) (fun _ _ _ _ _ => pts_nil) (fun _ _ _ _ _ => (pe_tup (pa_cons (pe_ixO D_get hr (by decide) (pv 0) (pv 1)) (pa_cons (pv 1) pa_nil))))))), ?_⟩
    have few := ok.few
    have lk := lets_len (keysOf u)
    obtain ⟨dx0, fs0, hx0⟩ := m.ins
    refine ⟨_, rfl, x, dx0, _, rfl, hx0, fun k0 hk0 => ⟨x, u, rfl, m, fun it a ni hi ha => ⟨it, a, rfl, hi, upd_same, ?_⟩⟩⟩
    rw [dropH_upd ni]
    refine fun D nD => lc_it (walk_tup (K := K) (a := a) (xs := lets (keysOf u))) (fun i H2 => ∃ ys, Paired (PrT H2) ys ((pairsT u).take i) ∧ H2 D = some (.lst ys) ∧ Same H H2) ?_ ?_ ?_ ?_
    · exact ⟨[], .nil, upd_same, same_put (s := Same.refl H) nD⟩
    · rintro i H2 hi ⟨ys, _, _, s2⟩
      exact .inl (.inl (s2 _ _ ha))
    · rintro i y H20 H2 hi ⟨ys, pr, hD, s2⟩ ⟨rfl, hy⟩
      obtain ⟨hi', rfl⟩ := lets_get hy
      have hc := List.getElem_mem hi'
      obtain ⟨s', es, n0, l8, _⟩ := ok.img _ hc
      have m2 := m.same2 s2
      obtain ⟨dx, a1, b1, c1, h1, _⟩ := m2.at_
      have ly := prd_len pr
      rw [List.length_take] at ly
      have ep : (pairsT u)[i]? = some (s', (keysOf u)[i]) := by
        unfold pairsT
        rw [List.getElem?_map, List.getElem?_eq_getElem hi']
        show some ((lookT u _).getD [], _) = _
        rw [es]
        rfl
      refine ⟨rfl, _, rfl, _, rfl, x, dx, _, rfl, h1, x, u, _, s', rfl, m2, hc, es, _, rfl, by show 2 ≤ sizeLine; decide, fun p np => ?_⟩
      have s3 := same_put (s := Same.refl H2) (o := .tup [.str (Sx s'), .str (L1 (keysOf u)[i])]) np
      have hp : upd H2 p (.tup [.str (Sx s'), .str (L1 (keysOf u)[i])]) p = some (.tup [.str (Sx s'), .str (L1 (keysOf u)[i])]) := upd_same
      have hD3 := s3 _ _ hD
      generalize upd H2 p (.tup [.str (Sx s'), .str (L1 (keysOf u)[i])]) = H3 at s3 hp hD3 ⊢
      refine ⟨_, hD3, by rw [sizeLine_eq]; omega, ys ++ [.ref p], ?_, upd_same, ?_⟩
      · rw [List.take_add_one, ep]
        have up : ∀ {v : V} {q0 : Pr}, PrT H3 v q0 → PrT (upd H3 D (.lst (ys ++ [.ref p]))) v q0 := fun {v q0} ⟨c, e, h⟩ => ⟨c, e, by rw [upd_ne (ne_of h hD3 (fun z => nomatch z))]; exact h⟩
        exact (prd_imp pr fun _ _ z => up (z.same s3)).snoc (up ⟨p, rfl, hp⟩)
      · intro b o e
        rw [upd_ne (ne_of_none e nD)]
        exact s3 _ _ (s2 _ _ e)
    · rintro H2 ⟨ys, pr, hD, s2⟩
      rw [List.take_of_length_le (by rw [lk]; unfold pairsT; rw [List.length_map]; exact Nat.le_refl _)] at pr
      exact q D H2 s2 ⟨ys, hD, pr⟩
end
end V8
set_option Elab.async false
set_option linter.all false
set_option maxRecDepth 100000
set_option maxHeartbeats 8000000
set_option pp.maxSteps 900
/-! The papers of merging: made, compared, True or False. -/
namespace V8
open PySem PySem.Spec PyProof.Rows L2 MZ
variable {K : PySem.W.Frag} {ω : World}
abbrev s_OneToOne_init : Stmt := inClass (topS 61) 0
theorem sc_OneToOne_init : FnScope ["self", "leads", "dead"] ["self", "leads", "dead"] (defScope s_OneToOne_init) := ⟨rfl, rfl, rfl, by decide +kernel, rfl, by decide +kernel, by decide +kernel⟩
abbrev s_OneToOne_eq : Stmt := inClass (topS 61) 1
theorem sc_OneToOne_eq : FnScope ["self", "other"] ["self", "other"] (defScope s_OneToOne_eq) := ⟨rfl, rfl, rfl, by decide +kernel, rfl, by decide +kernel, by decide +kernel⟩
abbrev s_OneToOne_bool : Stmt := inClass (topS 61) 2
theorem sc_OneToOne_bool : FnScope ["self"] ["self"] (defScope s_OneToOne_bool) := ⟨rfl, rfl, rfl, by decide +kernel, rfl, by decide +kernel, by decide +kernel⟩
abbrev s_Merged_init : Stmt := inClass (topS 62) 0
theorem sc_Merged_init : FnScope ["self", "one", "other"] ["self", "one", "other"] (defScope s_Merged_init) := ⟨rfl, rfl, rfl, by decide +kernel, rfl, by decide +kernel, by decide +kernel⟩
abbrev s_Merged_bool : Stmt := inClass (topS 62) 2
theorem sc_Merged_bool : FnScope ["self"] ["self"] (defScope s_Merged_bool) := ⟨rfl, rfl, rfl, by decide +kernel, rfl, by decide +kernel, by decide +kernel⟩
def fO (a b : V) : List (Str × V) := putF "dead" b (putF "leads" a [])
theorem fO_l (a b : V) : (fO a b).lookup ("leads" : Str) = some a := by rfl
theorem fO_d (a b : V) : (fO a b).lookup ("dead" : Str) = some b := by rfl
def fR (a b : V) : List (Str × V) := putF "other" b (putF "one" a [])
structure Tv (K : PySem.W.Frag) (mg : Str → Option Value) (CO CR : Addr) : Prop extends Te mg where
  clO : Cls K CO
  clR : Cls K CR
  nO1 : NoAttr K CO "leads"
  nO2 : NoAttr K CO "dead"
  nR1 : NoAttr K CR "one"
  nR2 : NoAttr K CR "other"
  gOneToOne : GV mg "OneToOne" (.ref CO)
  gMerged : GV mg "Merged" (.ref CR)
  /-- what an instance's type is, for the tests below -/
  tyO : ∀ (H : Hp) (x dx : Addr) (fs : List (Str × V)), H x = some (.ins CO dx fs) → TyX K H (.ref x) (.ref CO)
  tyR : ∀ (H : Hp) (x dx : Addr) (fs : List (Str × V)), H x = some (.ins CR dx fs) → TyX K H (.ref x) (.ref CR)
  kOO : PySem.W.kitOne K (.ref CO) (.ref CO) = some true
  kRR : PySem.W.kitOne K (.ref CR) (.ref CR) = some true
/-- all but x stays -/
def ButX (x : Addr) (H H' : Hp) : Prop := ∀ c o, H c = some o → c ≠ x → H' c = some o
def spOneI (CO : Addr) : Sp := fun vs H Q _ => ∃ (x dx : Addr) (a b : V) (da db : PyData), vs = [.ref x, a, b] ∧ H x = some (.ins CO dx []) ∧ TV H a da ∧ TD 2 da ∧ TV H b db ∧ TD 2 db ∧
  ∀ a' b' H', ButX x H H' → H' x = some (.ins CO dx (fO a' b')) → TV H' a' da → TV H' b' db → Q .non H'
def spMrgI (CR : Addr) : Sp := fun vs H Q _ => ∃ (x dx : Addr) (a b : V) (da db : PyData), vs = [.ref x, a, b] ∧ H x = some (.ins CR dx []) ∧ Told2 H a ∧ PyW H a da ∧ Told2 H b ∧ PyW H b db ∧
  ∀ a' b' H', ButX x H H' → H' x = some (.ins CR dx (fR a' b')) → PyW H' a' da → PyW H' b' db → Q .non H'
def spTrue (b : Bool) : Sp := fun vs H Q _ => ∃ x : Addr, vs = [.ref x] ∧ Q (.bl b) H
/-- compared with one of its own kind, or with something else -/
def spOneE (K : PySem.W.Frag) (CO : Addr) : Sp := fun vs H Q _ => ∃ (x dx : Addr) (a b : V) (da db : PyData) (y : V), vs = [.ref x, y] ∧ H x = some (.ins CO dx (fO a b)) ∧ TV H a da ∧ TV H b db ∧ TD 2 da ∧ TD 2 db ∧
  ((∃ (z dz : Addr) (c d : V) (dc dd : PyData), y = .ref z ∧ H z = some (.ins CO dz (fO c d)) ∧ TV H c dc ∧ TV H d dd ∧ TD 2 dc ∧ TD 2 dd ∧ ∀ H', Same H H' → Q (.bl (PyData.eqv da dc && PyData.eqv db dd)) H') ∨
   (∃ t, TyX K H y t ∧ PySem.W.kitOne K t (.ref CO) = some false ∧ Q (.bl false) H))
section
variable {P : Program} {w : World} {K : PySem.W.Frag} {mg : Str → Option Value} {base : Heap} {CO CR : Addr}
theorem PyW.butx {H H' : Hp} {x : Addr} {v : V} {d : PyData} {C dx : Addr} {fs : List (Str × V)} (p : PyW H v d) (s : ButX x H H') (hx : H x = some (.ins C dx fs)) : PyW H' v d := p.keep fun b o e k => s b o e fun z => by
  rw [z, hx] at e
  cases e
  rcases k with ⟨xs, k⟩ | ⟨xs, k⟩ | ⟨xs, k⟩ <;> cases k
theorem TV.butx {H H' : Hp} {x : Addr} {v : V} {d : PyData} {C dx : Addr} {fs : List (Str × V)} (p : TV H v d) (s : ButX x H H') (hx : H x = some (.ins C dx fs)) : TV H' v d := p.keep fun b ys e => s b _ e fun z => by
  rw [z, hx] at e
  cases e
theorem ok_oneI {f : Addr} {fd : FuncData} (F : Fun K "__init__" "OneToOne.__init__" s_OneToOne_init f fd) (T : Tv K mg CO CR) (D_copied : Df P w K mg base 3 "copied" (spCopT 2)) : FnOk P w K mg base CX0 4 f fd ["self", "leads", "dead"] (spOneI CO) := by
  refine F.ok sc_OneToOne_init (fun vs H Q E h => ?_) (fun cdv A outer s H vs Q E hr h => ?_)
  · obtain ⟨x, dx, a, b, da, db, rfl, _⟩ := h
    rfl
  · obtain ⟨x, dx, a, b, da, db, rfl, hx, ta, a2, tb, b2, q⟩ := h
    refine ⟨_, (pss_cons (ps_fld (pv 0) (pe_c D_copied hr (by decide) (by rfl) (pa_cons (pv 1) pa_nil)) rfl)
      (pss_one (ps_fld (pv 0) (pe_c D_copied hr (by decide) (by rfl) (pa_cons (pv 2) pa_nil)) rfl))), ?_⟩
    refine ⟨_, rfl, a, da, rfl, ta, a2, fun a' H1 s1 ta' => ?_⟩
    have hx1 := s1 _ _ hx
    refine ⟨_, rfl, x, CO, dx, _, rfl, hx1, T.clO, T.nO1, by show 0 < 1000; decide, ?_⟩
    have k1 : ButX x H (upd H1 x (.ins CO dx (putF "leads" a' []))) := fun c o e n => by
      rw [upd_ne n]
      exact s1 _ _ e
    have k2 : ButX x H1 (upd H1 x (.ins CO dx (putF "leads" a' []))) := fun c o e n => by
      rw [upd_ne n]
      exact e
    have hx2 : upd H1 x (.ins CO dx (putF "leads" a' [])) x = some (.ins CO dx (putF "leads" a' [])) := upd_same
    show Ends.nx _ _ (upd H1 x (.ins CO dx (putF "leads" a' [])))
    have ta2 := ta'.butx k2 hx1
    have tb2 := tb.butx k1 hx
    generalize upd H1 x (.ins CO dx (putF "leads" a' [])) = H2 at k1 hx2 ta2 tb2 ⊢
    refine ⟨_, rfl, b, db, rfl, tb2, b2, fun b' H3 s3 tb' => ?_⟩
    have hx3 := s3 _ _ hx2
    refine ⟨_, rfl, x, CO, dx, _, rfl, hx3, T.clO, T.nO2, by show 1 < 1000; decide, ?_⟩
    have k4 : ButX x H3 (upd H3 x (.ins CO dx (fO a' b'))) := fun c o e n => by
      rw [upd_ne n]
      exact e
    exact q a' b' _ (fun c o e n => by
      show upd H3 x _ c = _
      rw [upd_ne n]
      exact s3 _ _ (k1 _ _ e n)) upd_same ((ta2.same s3).butx k4 hx3) (tb'.butx k4 hx3)
theorem ok_mrgI {f : Addr} {fd : FuncData} (F : Fun K "__init__" "Merged.__init__" s_Merged_init f fd) (T : Tv K mg CO CR) (D_copied : Df P w K mg base 2 "copied" spCopyW) : FnOk P w K mg base CX0 4 f fd ["self", "one", "other"] (spMrgI CR) := by
  refine F.ok sc_Merged_init (fun vs H Q E h => ?_) (fun cdv A outer s H vs Q E hr h => ?_)
  · obtain ⟨x, dx, a, b, da, db, rfl, _⟩ := h
    rfl
  · obtain ⟨x, dx, a, b, da, db, rfl, hx, ta, a2, tb, b2, q⟩ := h
    refine ⟨_, (pss_cons (ps_fld (pv 0) (pe_c D_copied hr (by decide) (by rfl) (pa_cons (pv 1) pa_nil)) rfl)
      (pss_one (ps_fld (pv 0) (pe_c D_copied hr (by decide) (by rfl) (pa_cons (pv 2) pa_nil)) rfl))), ?_⟩
    refine ⟨_, rfl, a, da, rfl, ta, a2, fun a' H1 s1 ta' => ?_⟩
    have hx1 := s1 _ _ hx
    refine ⟨_, rfl, x, CR, dx, _, rfl, hx1, T.clR, T.nR1, by show 0 < 1000; decide, ?_⟩
    have k1 : ButX x H (upd H1 x (.ins CR dx (putF "one" a' []))) := fun c o e n => by
      rw [upd_ne n]
      exact s1 _ _ e
    have k2 : ButX x H1 (upd H1 x (.ins CR dx (putF "one" a' []))) := fun c o e n => by
      rw [upd_ne n]
      exact e
    have hx2 : upd H1 x (.ins CR dx (putF "one" a' [])) x = some (.ins CR dx (putF "one" a' [])) := upd_same
    show Ends.nx _ _ (upd H1 x (.ins CR dx (putF "one" a' [])))
    have ta2 := PyW.butx ta' k2 hx1
    have tb2 := PyW.butx b2 k1 hx
    have td2 : Told2 (upd H1 x (.ins CR dx (putF "one" a' []))) b := by
      rcases tb with f | ⟨c, xs, e, h, l, g⟩ | ⟨c, kvs, e, h, l, n, g⟩
      · exact .inl f
      · refine .inr (.inl ⟨c, xs, e, h.imp (fun h => k1 _ _ h ?_) (fun h => k1 _ _ h ?_), l, g⟩)
        · exact ne_of h hx (fun z => nomatch z)
        · exact ne_of h hx (fun z => nomatch z)
      · exact .inr (.inr ⟨c, kvs, e, k1 _ _ h (ne_of h hx (fun z => nomatch z)), l, n, g⟩)
    generalize upd H1 x (.ins CR dx (putF "one" a' [])) = H2 at k1 hx2 ta2 tb2 td2 ⊢
    refine ⟨_, rfl, b, db, rfl, td2, tb2, fun b' H3 s3 tb' => ?_⟩
    have hx3 := s3 _ _ hx2
    refine ⟨_, rfl, x, CR, dx, _, rfl, hx3, T.clR, T.nR2, by show 1 < 1000; decide, ?_⟩
    have k4 : ButX x H3 (upd H3 x (.ins CR dx (fR a' b'))) := fun c o e n => by
      rw [upd_ne n]
      exact e
    exact q a' b' _ (fun c o e n => by
      show upd H3 x _ c = _
      rw [upd_ne n]
      exact s3 _ _ (k1 _ _ e n)) upd_same (PyW.butx (PyW.same s3 ta2) k4 hx3) (PyW.butx tb' k4 hx3)
theorem ok_oneB {f : Addr} {fd : FuncData} (F : Fun K "__bool__" "OneToOne.__bool__" s_OneToOne_bool f fd) : FnOk P w K mg base CX0 1 f fd ["self"] (spTrue true) := by
  refine F.ok sc_OneToOne_bool (fun vs H Q E h => ?_) (fun cdv A outer s H vs Q E hr h => ?_)
  · obtain ⟨x, rfl, _⟩ := h
    rfl
  · obtain ⟨x, rfl, q⟩ := h
    refine ⟨_, (pss_one (ps_ret pe_bl)), ?_⟩
    exact q
theorem ok_mrgB {f : Addr} {fd : FuncData} (F : Fun K "__bool__" "Merged.__bool__" s_Merged_bool f fd) : FnOk P w K mg base CX0 1 f fd ["self"] (spTrue false) := by
  refine F.ok sc_Merged_bool (fun vs H Q E h => ?_) (fun cdv A outer s H vs Q E hr h => ?_)
  · obtain ⟨x, rfl, _⟩ := h
    rfl
  · obtain ⟨x, rfl, q⟩ := h
    refine ⟨_, (pss_one (ps_ret pe_bl)), ?_⟩
    exact q
theorem ok_oneE {f : Addr} {fd : FuncData} (F : Fun K "__eq__" "OneToOne.__eq__" s_OneToOne_eq f fd) (T : Tv K mg CO CR) (D_equal : Df P w K mg base 7 "equal" (spEqT 3)) : FnOk P w K mg base CX0 8 f fd ["self", "other"] (spOneE K CO) := by
  refine F.ok sc_OneToOne_eq (fun vs H Q E h => ?_) (fun cdv A outer s H vs Q E hr h => ?_)
  · obtain ⟨x, dx, a, b, da, db, y, rfl, _⟩ := h
    rfl
  · obtain ⟨x, dx, a, b, da, db, y, rfl, hx, ta, tb, a2, b2, h⟩ := h
    refine ⟨_, (pss_one (ps_ret (pe_and (pe_callB call_isi (by rfl) T.isinstance (by decide +kernel) (pa_cons (pv 1) (pa_cons (pe_gv T.gOneToOne (by rfl)) pa_nil))) (pe_one (pe_c D_equal hr (by decide) (by rfl) (pa_cons (pe_tup (pa_cons (pe_fldK (K := K) rfl (pv 0) rfl) (pa_cons (pe_fldK (K := K) rfl (pv 0) rfl) pa_nil))) (pa_cons (pe_tup (pa_cons (pe_fldK (K := K) rfl (pv 1) rfl) (pa_cons (pe_fldK (K := K) rfl (pv 1) rfl) pa_nil))) pa_nil))))))), ?_⟩
    rcases h with ⟨z, dz, c, d, dc, dd, rfl, hz, tc, td, c2, d2, q⟩ | ⟨t, ty, e, q⟩
    · refine ⟨_, rfl, _, .ref CO, .ref CO, .ref CO, true, rfl, .own _, T.tyO H z dz _ hz, T.kOO, _, rfl, iteT ?_⟩
      refine ⟨_, rfl, x, CO, dx, _, a, rfl, hx, T.clO, T.nO1, fO_l a b, _, rfl, x, CO, dx, _, b, rfl, hx, T.clO, T.nO2, fO_d a b, by show 2 ≤ sizeLine; decide, fun p np => ?_⟩
      have s1 := same_put (s := Same.refl H) (o := .tup [a, b]) np
      have hp : upd H p (.tup [a, b]) p = some (.tup [a, b]) := upd_same
      generalize upd H p (.tup [a, b]) = H1 at s1 hp ⊢
      refine ⟨_, rfl, z, CO, dz, _, c, rfl, s1 _ _ hz, T.clO, T.nO1, fO_l c d, _, rfl, z, CO, dz, _, d, rfl, s1 _ _ hz, T.clO, T.nO2, fO_d c d, by show 2 ≤ sizeLine; decide, fun p2 np2 => ?_⟩
      have s2 := same_put (s := Same.refl H1) (o := .tup [c, d]) np2
      have hp2 : upd H1 p2 (.tup [c, d]) p2 = some (.tup [c, d]) := upd_same
      generalize upd H1 p2 (.tup [c, d]) = H2 at s2 hp2 ⊢
      have s02 : Same H H2 := fun b o e => s2 _ _ (s1 _ _ e)
      have two : ∀ {u v : PyData}, TD 2 u → TD 2 v → TD 3 (.tuple [u, v]) := fun {u v} h1 h2 => .inr ⟨[u, v], rfl, by show 2 ≤ 200; decide, fun e he => by
        rcases List.mem_cons.mp he with rfl | he
        · exact h1
        · rw [List.mem_singleton.mp he]
          exact h2⟩
      refine ⟨.ref p, .ref p2, .tuple [da, db], .tuple [dc, dd], rfl, .tup (s2 _ _ hp) (.cons (ta.same s02) (.cons (tb.same s02) .nil)), .tup hp2 (.cons (tc.same s02) (.cons (td.same s02) .nil)), two a2 b2, two c2 d2, fun H' s3 => ?_⟩
      have q := q H' fun b o e => s3 _ _ (s02 _ _ e)
      rw [PyData.eqv, PyData.eqvAll, PyData.eqvAll, PyData.eqvAll, Bool.and_true]
      exact q
    · exact ⟨_, rfl, _, .ref CO, t, .ref CO, false, rfl, .own _, ty, e, _, rfl, iteF q⟩
end
end V8
set_option Elab.async false
set_option linter.all false
set_option maxRecDepth 100000
set_option maxHeartbeats 8000000
set_option pp.maxSteps 900
/-! merging. -/
namespace V8
open PySem PySem.Spec PyProof.Rows L2 MZ
variable {K : PySem.W.Frag} {ω : World}
abbrev s_merging : Stmt := topS 63
theorem sc_merging : FnScope ["misreading", "pairs", "meetings", "unlike", "one", "other"] ["misreading"] (defScope s_merging) := ⟨rfl, rfl, rfl, by decide +kernel, rfl, by decide +kernel, by decide +kernel⟩
def leadsD (P : List Pr) (rs : List (Bool × Wd)) : PyData := .tuple (rs.map fun q => .tuple [.str (sideS q.1), .str (Sx q.2), .str (sideS (leadQ P P q).1), .str (Sx (leadQ P P q).2)])
def restsD (rs : List (Bool × Wd)) : PyData := .tuple (rs.map fun q => .tuple [.str (sideS q.1), .str (Sx q.2)])
theorem ls_tv {P : List Pr} {H : Hp} {e : Addr} {rs : List (Bool × Wd)} (h : LsT P P H e rs) : TV H (.ref e) (leadsD P rs) := by
  obtain ⟨vs, h1, h2⟩ := h
  refine .tup h1 ?_
  clear h1
  induction h2 with
  | nil => exact .nil
  | cons r _ ih =>
    obtain ⟨c, rfl, hc⟩ := r
    exact .cons (.tup hc (.cons (.str _) (.cons (.str _) (.cons (.str _) (.cons (.str _) .nil))))) ih
theorem rs_tv {H : Hp} {e : Addr} {rs : List (Bool × Wd)} (h : RsT H e rs) : TV H (.ref e) (restsD rs) := by
  obtain ⟨vs, h1, h2⟩ := h
  refine .tup h1 ?_
  clear h1
  induction h2 with
  | nil => exact .nil
  | cons r _ ih =>
    obtain ⟨c, rfl, hc⟩ := r
    exact .cons (.tup hc (.cons (.str _) (.cons (.str _) .nil))) ih
theorem side_ok (b : Bool) : PyData.strOk (sideS b) = true := by
  cases b with
  | true => exact (show PyData.strOk (sideS true) = true by decide +kernel)
  | false => exact (show PyData.strOk (sideS false) = true by decide +kernel)
theorem rest_lt {u : Tab} (o : OkU u) {g : Bool} {rs : List (Bool × Wd)} (h : RsIs (pairsT u) (pairsT u) g rs) {q : Bool × Wd} (hq : q ∈ rs) : ∀ c ∈ q.2, isLt c := by
  obtain ⟨h1, _⟩ := h.mem hq
  obtain ⟨w, k⟩ := (runQ_reach (P := pairsT u) (S := pairsT u) 600).2 _ h1
  exact (reach_ok o.ne o.prOk o.prOk k).2
theorem rests_td {u : Tab} (o : OkU u) {g : Bool} {rs : List (Bool × Wd)} (h : RsIs (pairsT u) (pairsT u) g rs) : TD 2 (restsD rs) := by
  refine .inr ⟨_, rfl, ?_, fun e he => ?_⟩
  · rw [List.length_map]
    exact Nat.le_trans (h.len o.fewR) (by decide)
  · obtain ⟨q, hq, rfl⟩ := List.mem_map.mp he
    refine .inr ⟨_, rfl, by show 2 ≤ 200; decide, fun e he => ?_⟩
    rcases List.mem_cons.mp he with rfl | he
    · exact .inr (.inl ⟨_, rfl, side_ok _⟩)
    · rw [List.mem_singleton.mp he]
      exact .inr (.inl ⟨_, rfl, ok_sx (rest_lt o h hq)⟩)
theorem leads_td {u : Tab} (o : OkU u) {rs : List (Bool × Wd)} (h : RsIs (pairsT u) (pairsT u) true rs) (lt : ∀ q ∈ rs, ∀ c ∈ (leadQ (pairsT u) (pairsT u) q).2, isLt c) : TD 2 (leadsD (pairsT u) rs) := by
  refine .inr ⟨_, rfl, ?_, fun e he => ?_⟩
  · rw [List.length_map]
    exact Nat.le_trans (h.len o.fewR) (by decide)
  · obtain ⟨q, hq, rfl⟩ := List.mem_map.mp he
    refine .inr ⟨_, rfl, by show 4 ≤ 200; decide, fun e he => ?_⟩
    rcases List.mem_cons.mp he with rfl | he
    · exact .inr (.inl ⟨_, rfl, side_ok _⟩)
    rcases List.mem_cons.mp he with rfl | he
    · exact .inr (.inl ⟨_, rfl, ok_sx (rest_lt o h hq)⟩)
    rcases List.mem_cons.mp he with rfl | he
    · exact .inr (.inl ⟨_, rfl, side_ok _⟩)
    · rw [List.mem_singleton.mp he]
      exact .inr (.inl ⟨_, rfl, ok_sx (lt q hq)⟩)
/-- each lead is the lead of a way -/
def LdWay (P : List Pr) (rs : List (Bool × Wd)) : Prop := ∀ q ∈ rs, ∃ w, Way P P .start (.rest q.1 q.2) w ∧ lead w = some (leadQ P P q)
/-- what merging answers -/
def VerO (CO CR : Addr) (P : List Pr) (H : Hp) (z : Addr) : Prop :=
  (∃ dx l d rs rs', Alike P P ∧ H z = some (.ins CO dx (fO l d)) ∧ TV H l (leadsD P rs) ∧ TV H d (restsD rs') ∧ RsIs P P true rs ∧ RsIs P P false rs' ∧ TD 2 (leadsD P rs) ∧ TD 2 (restsD rs') ∧ LdWay P rs ∧ ∀ p w, Way P P .start p w → p ∈ placesQ P P) ∨
  ∃ dx w, H z = some (.ins CR dx (fR (.str (Sx w.1)) (.str (Sx w.2)))) ∧ Way P P .start .fin w ∧ w.1 ≠ w.2 ∧ unlikeW P P = some w ∧ LtW w ∧ wlen w ≤ 1300
def spMerging (K : PySem.W.Frag) (aS aE aV aD CM CO CR : Addr) : Sp := fun vs H Q _ => ∃ (x : Addr) (u : Tab), vs = [.ref x] ∧ MisAt CM H x u ∧ OkU u ∧ CnH K aS aE aV H ∧ SqT K H aD [.str (sideS true), .str (sideS false)] ∧
  ∀ z H', Same H H' → H z = none → VerO CO CR (pairsT u) H' z → Q (.ref z) H'
section
variable {P : Program} {w : World} {K : PySem.W.Frag} {mg : Str → Option Value} {base : Heap} {aS aE aV aD CM CJ CG CO CR : Addr}
theorem same_mk {H : Hp} {x dx C : Addr} {o : HO} (hx : H x = none) (hd : H dx = none) : Same H (upd (upd H dx o) x (.ins C dx [])) := fun b u e => by
  rw [upd_ne (ne_of_none e hx), upd_ne (ne_of_none e hd)]
  exact e
theorem same_butx {H H1 H2 : Hp} {x : Addr} (s : Same H H1) (k : ButX x H1 H2) (hx : H x = none) : Same H H2 := fun b o e => k _ _ (s _ _ e) (ne_of_none e hx)
theorem ok_merging {f : Addr} {fd : FuncData} (F : Fun K "merging" "merging" s_merging f fd) (T : Tp K mg CM CJ) (D_check_images : Df P w K mg base 5 "check_images" (spChkL CM)) (D_image_pairs : Df P w K mg base 4 "image_pairs" (spPairs CM)) (D_Meetings : MkC P w K mg base 5 CG "Meetings" (spMee K w aS aE aV CG))
    (D_unlike_meeting : Df P w K mg base 4 "unlike_meeting" (spUnlike K w aS aE aV CG)) (D_leads_of : Df P w K mg base 2 "leads_of" (spLeads K w aD CG)) (D_rests_of : Df P w K mg base 1 "rests_of" (spRests K w aD CG))
    (D_OneToOne : MkC P w K mg base 4 CO "OneToOne" (spOneI CO)) (D_Merged : MkC P w K mg base 4 CR "Merged" (spMrgI CR)) : FnOk P w K mg base CX0 7 f fd ["misreading"] (spMerging K aS aE aV aD CM CO CR) := by
  refine F.ok sc_merging (fun vs H Q E h => ?_) (fun cdv A outer s H vs Q E hr h => ?_)
  · obtain ⟨x, u, rfl, _⟩ := h
    rfl
  · obtain ⟨x, u, rfl, m, ok, cn, hD, q⟩ := h
    refine ⟨_, (pss_cons (ps_expr (pe_c D_check_images hr (by decide) (by rfl) (pa_cons (pv 0) pa_nil)))
      (pss_cons (ps_set (i := 1) sc_merging.nd rfl (.inl rfl) (pe_c D_image_pairs hr (by decide) (by rfl) (pa_cons (pv 0) pa_nil)))
      (pss_cons (ps_set (i := 2) sc_merging.nd rfl (.inl rfl) (pe_mkC D_Meetings hr (by decide) (by rfl) (pa_cons (pv 1) (pa_cons (pv 1) pa_nil))))
      (pss_cons (ps_set (i := 3) sc_merging.nd rfl (.inl rfl) (pe_c D_unlike_meeting hr (by decide) (by rfl) (pa_cons (pv 2) pa_nil)))
      (pss_cons (ps_if (pt_cmpR op_isN (pv 3) pe_non (nomark _))
        (pss_one (ps_ret (pe_mkC D_OneToOne hr (by decide) (by rfl) (pa_cons (pe_c D_leads_of hr (by decide) (by rfl) (pa_cons (pv 2) pa_nil)) (pa_cons (pe_c D_rests_of hr (by decide) (by rfl) (pa_cons (pv 2) (pa_cons pe_bl pa_nil))) pa_nil)))))
        pss_nil)
      (pss_cons (ps_asg (pv 3) (pg_tup (by rfl) (pgs_cons (pg_name (i := 4) sc_merging.nd rfl (.inl rfl)) (pgs_cons (pg_name (i := 5) sc_merging.nd rfl (.inl rfl)) pgs_nil))))
      (pss_one (ps_ret (pe_mkC D_Merged hr (by decide) (by rfl) (pa_cons (pv 4) (pa_cons (pv 5) pa_nil))))))))))), ?_⟩
    refine ⟨_, rfl, x, u, rfl, m, ok, fun H0 s0 => ?_⟩
    refine ⟨_, rfl, x, u, rfl, m.same2 s0, ok, fun a H1 s1 hP => ?_⟩
    have s01 : Same H H1 := fun b o e => s1 _ _ (s0 _ _ e)
    refine ⟨_, rfl, _, rfl, fun g dg ng nd ne => ?_⟩
    have sm := same_mk (C := CG) (o := .own g) ng nd
    refine ⟨g, dg, a, a, pairsT u, pairsT u, rfl, upd_same, hP.same sm, hP.same sm, (cn.same s01).same sm, ok.prOk, ok.prOk, ok.ne, fun Qs L R W H2 k2 me => ⟨rfl, ?_⟩⟩
    have s12 : Same H1 H2 := same_butx sm k2 ng
    have s02 : Same H H2 := fun b o e => s12 _ _ (s01 _ _ e)
    show Ends.nx _ _ H2
    refine ⟨_, rfl, g, pairsT u, pairsT u, Qs, L, R, W, rfl, me, cn.same s02, ok.prOk, ok.prOk, ok.lb, ok.lb, ok.ne, fun ak H3 s3 => ?_, fun e v H3 s3 he hw ne2 l13 eU => ?_⟩
    · refine ⟨_, rfl, rfl, true, rfl, iteT ?_⟩
      have me3 := me.same s3
      have s03 : Same H H3 := fun b o e => s3 _ _ (s02 _ _ e)
      refine ⟨_, rfl, g, pairsT u, pairsT u, Qs, L, R, W, rfl, me3, sq_same hD s03, ok.prOk, ok.prOk, ok.fewR, ak, fun el rs H4 s4 hl isl => ?_⟩
      have me4 := me3.same s4
      have s04 : Same H H4 := fun b o e => s4 _ _ (s03 _ _ e)
      refine ⟨_, rfl, g, false, pairsT u, pairsT u, Qs, L, R, W, rfl, me4, sq_same hD s04, ok.prOk, ok.prOk, ok.fewR, fun ed rs' H5 s5 hd isd => ?_⟩
      have s05 : Same H H5 := fun b o e => s5 _ _ (s04 _ _ e)
      have tl := (ls_tv hl).same s5
      have td := rs_tv hd
      have all : ∀ p w, Way (pairsT u) (pairsT u) .start p w → p ∈ placesQ (pairsT u) (pairsT u) := fun p w k => by
        obtain ⟨_, bf, br, few, eqQ⟩ := me
        rw [← eqQ]
        exact (bf.all p).mpr ⟨w, k⟩
      have lw : LdWay (pairsT u) rs := fun q0 hq => by
        obtain ⟨h1, h2⟩ := isl.mem hq
        obtain ⟨⟨_, _, _, _, _, _, _, wy, _, _⟩, bf, br, few, eqQ⟩ := me
        rw [← eqQ] at h1
        obtain ⟨_, kw⟩ := wayTo_has wy.2.1 ((br.all _).mpr ((bf.all _).mp h1))
        obtain ⟨v, kv⟩ := livesB_iff.mp h2
        have e1 := ak _ (kw.trans kv)
        obtain ⟨k, e2, _⟩ := lead_back e1 e1
        have e3 : leadQ (pairsT u) (pairsT u) q0 = k := by
          unfold leadQ
          rw [← wy.2.2.2, e2]
          rfl
        exact ⟨_, kw, by rw [e3]; exact e2⟩
      have lt : ∀ q ∈ rs, ∀ c ∈ (leadQ (pairsT u) (pairsT u) q).2, isLt c := fun q0 hq => by
        obtain ⟨_, kw, e2⟩ := lw q0 hq
        exact lead_lt (way_lt ok.lb ok.lb kw) e2
      have td1 := leads_td ok isl lt
      have td2 := rests_td ok isd
      refine fun z dz nz ndz nez => ?_
      have sz := same_mk (C := CO) (o := .own z) nz ndz
      refine ⟨z, dz, .ref el, .ref ed, _, _, rfl, upd_same, tl.same sz, td1, td.same sz, td2, fun a' b' H6 k6 hz ta tb => ⟨rfl, ?_⟩⟩
      exact q z H6 (fun b o e => same_butx sz k6 nz _ _ (s05 _ _ e)) (same_none s05 nz) (.inl ⟨dz, a', b', rs, rs', ak, hz, ta, tb, isl, isd, td1, td2, lw, all⟩)
    · refine ⟨_, rfl, rfl, false, rfl, iteF ?_⟩
      have s03 : Same H H3 := fun b o e => s3 _ _ (s02 _ _ e)
      refine ⟨_, rfl, e, _, rfl, .inl (.inl he), rfl, _, _, rfl, _, _, rfl, rfl, ?_⟩
      refine ⟨_, rfl, _, rfl, fun z dz nz ndz nez => ?_⟩
      have sz := same_mk (C := CR) (o := .own z) nz ndz
      refine ⟨z, dz, .str (Sx v.1), .str (Sx v.2), _, _, rfl, upd_same, .inl (.inl ⟨_, rfl⟩), .str _, .inl (.inl ⟨_, rfl⟩), .str _, fun a' b' H6 k6 hz ta tb => ⟨rfl, ?_⟩⟩
      cases ta
      cases tb
      exact q z H6 (fun b o e => same_butx sz k6 nz _ _ (s03 _ _ e)) (same_none s03 nz) (.inr ⟨dz, v, hz, hw, ne2, eU, way_lt ok.lb ok.lb hw, l13⟩)
end
end V8
set_option Elab.async false
set_option linter.all false
set_option maxRecDepth 100000
set_option maxHeartbeats 8000000
/-! Texts of any signs: whether they are letters alone; words of a letter and its image. -/
namespace V8
open PySem PySem.Spec PyProof.Rows L2
abbrev s_is_told : Stmt := topS 34
theorem sc_is_told : FnScope ["word"] ["word"] (defScope s_is_told) := ⟨rfl, rfl, rfl, by decide +kernel, rfl, by decide +kernel, by decide +kernel⟩
def okL (s : List Nat) : Bool := s.all fun c => decide (isLt c)
theorem okL_iff {s : List Nat} : okL s = true ↔ ∀ c ∈ s, isLt c := by
  unfold okL
  rw [List.all_eq_true]
  exact ⟨fun h c hc => of_decide_eq_true (h c hc), fun h c hc => decide_eq_true (h c hc)⟩
def imgB (s : List Nat) : Bool := okL s && decide (1 ≤ s.length ∧ s.length ≤ 4)
def toldB : List Nat → Bool
  | c :: d :: s => decide (isLt c) && (d == 58) && imgB s
  | _ => false
theorem abc_has (c : Nat) : abcS.cps.contains c = decide (isLt c) := by
  have h : abcS.cps.contains c = true ↔ isLt c := by
    rw [Array.contains_iff_mem, ← Array.mem_toList_iff, abcS_cps]
    exact abc_mem
  by_cases e : isLt c
  · rw [decide_eq_true e, h.mpr e]
  · rw [decide_eq_false e]
    cases z : abcS.cps.contains c with
    | false => rfl
    | true => exact absurd (h.mp z) e
theorem mem_tw {p : Nat → Bool} {c : Nat} : ∀ {m : List Nat}, c ∈ m.takeWhile p → p c = true
  | [], h => by cases h
  | a :: m, h => by
    rw [List.takeWhile_cons] at h
    by_cases q : p a = true
    · rw [if_pos q] at h
      rcases List.mem_cons.mp h with rfl | h
      · exact q
      · exact mem_tw h
    · rw [if_neg q] at h
      cases h
theorem tw_less {p : Nat → Bool} {l : List Nat} {c : Nat} (hc : c ∈ l) (hp : p c = false) : (l.takeWhile p).length < l.length := by
  rcases Nat.lt_or_ge (l.takeWhile p).length l.length with h | h
  · exact h
  · have e := (List.takeWhile_prefix p (l := l)).eq_of_length_le h
    rw [← e] at hc
    rw [mem_tw hc] at hp
    cases hp
theorem strip_some {z : List Nat} {c : Nat} (hc : c ∈ z) (hn : ¬ isLt c) : (Txt.stripChars (Sx z) abcS).length ≠ 0 := by
  have hp : abcS.cps.contains c = false := by rw [abc_has, decide_eq_false hn]
  have hl : stripLo abcS.cps.contains true (Sx z) = (z.takeWhile abcS.cps.contains).length := by
    unfold stripLo
    rw [if_pos rfl]
    rfl
  unfold Txt.stripChars
  rw [stripBy_eq, hl]
  have e := TL.tl_strSub (Sx z) (z.takeWhile abcS.cps.contains).length (stripHi abcS.cps.contains true (Sx z) (z.takeWhile abcS.cps.contains).length)
  have e2 : TL.tl (Sx z) = z := rfl
  rw [e2] at e
  have e3 := congrArg List.length e
  have ed : z.drop (z.takeWhile abcS.cps.contains).length = z.dropWhile abcS.cps.contains := by
    conv => lhs; arg 2; rw [← List.takeWhile_append_dropWhile (p := abcS.cps.contains) (l := z)]
    rw [List.drop_left]
  have hh : stripHi abcS.cps.contains true (Sx z) (z.takeWhile abcS.cps.contains).length = z.length - ((z.dropWhile abcS.cps.contains).reverse.takeWhile abcS.cps.contains).length := by
    unfold stripHi
    rw [if_pos rfl, ← ed]
    rfl
  have hm : c ∈ (z.dropWhile abcS.cps.contains).reverse := by
    rw [List.mem_reverse]
    have h1 := hc
    rw [← List.takeWhile_append_dropWhile (p := abcS.cps.contains) (l := z)] at h1
    rcases List.mem_append.mp h1 with h | h
    · exfalso
      rw [mem_tw h] at hp
      cases hp
    · exact h
  have hw := tw_less hm hp
  have hs : (z.takeWhile abcS.cps.contains).length + (z.dropWhile abcS.cps.contains).length = z.length := by
    rw [← List.length_append, List.takeWhile_append_dropWhile]
  rw [List.length_reverse] at hw
  rw [ed, hh, List.length_take] at e3
  rw [hh]
  intro h0
  have e4 := e3.symm.trans h0
  omega
theorem cut_take (w : List Nat) (n : Nat) : cutS (Sx w) none (some (n : Int)) = Sx (w.take n) := by
  unfold cutS
  rw [HT.sIx_none, HT.sIx_nat]
  show (⟨((w.drop 0).take (_ - 0)).toArray⟩ : Str) = ⟨_⟩
  rw [List.drop_zero, Nat.sub_zero]
  congr 2
  have : (Sx w).length = w.length := Sx_len w
  rw [this]
  rcases Nat.le_total n w.length with h | h
  · rw [Nat.min_eq_left h]
  · rw [Nat.min_eq_right h, List.take_of_length_le (Nat.le_refl _), List.take_of_length_le h]
theorem cut_drop (w : List Nat) (n : Nat) : cutS (Sx w) (some (n : Int)) none = Sx (w.drop n) := by
  unfold cutS
  rw [HT.sIx_none, HT.sIx_nat]
  have : (Sx w).length = w.length := Sx_len w
  rw [this]
  show (⟨((w.drop _).take _).toArray⟩ : Str) = ⟨_⟩
  congr 2
  rcases Nat.le_total n w.length with h | h
  · rw [Nat.min_eq_left h, List.take_of_length_le (by rw [List.length_drop]; exact Nat.le_refl _)]
  · rw [Nat.min_eq_right h, List.drop_length, List.drop_of_length_le h, List.take_nil]
theorem cut_one (w : List Nat) : cutS (Sx w) (some 1) (some 2) = Sx ((w.drop 1).take 1) := by
  unfold cutS
  have h1 : HT.sIx (Sx w).length 0 (some 1) = min 1 (Sx w).length := HT.sIx_nat _ _ 1
  have h2 : HT.sIx (Sx w).length (Sx w).length (some 2) = min 2 (Sx w).length := HT.sIx_nat _ _ 2
  rw [h1, h2, Sx_len]
  match w with
  | [] => rfl
  | [x] => rfl
  | x :: y :: r =>
    have a1 : min 1 (x :: y :: r).length = 1 := by
      rw [List.length_cons, List.length_cons]
      omega
    have a2 : min 2 (x :: y :: r).length = 2 := by
      rw [List.length_cons, List.length_cons]
      omega
    rw [a1, a2]
    rfl
def spAllG : Sp := fun vs H Q _ => ∃ z : List Nat, vs = [.str (Sx z)] ∧ z.length ≤ 2000 ∧ Q (.bl (okL z)) H
def spImageG : Sp := fun vs H Q _ => ∃ z : List Nat, vs = [.str (Sx z)] ∧ z.length ≤ 2000 ∧ Q (.bl (imgB z)) H
def spTold1 : Sp := fun vs H Q _ => ∃ z : List Nat, vs = [.str (Sx z)] ∧ z.length ≤ 2000 ∧ Q (.bl (toldB z)) H
section
variable {P : Program} {w : World} {K : PySem.W.Frag} {mg : Str → Option Value} {base : Heap} {CM CJ : Addr}
theorem ok_all_lettersG {f : Addr} {fd : FuncData} (F : Fun K "all_letters" "all_letters" s_all_letters f fd) (T : Tx K mg CM CJ) : FnOk P w K mg base CX0 1 f fd ["string"] spAllG := by
  refine F.ok sc_all_letters (fun vs H Q E h => ?_) (fun cdv A outer s H vs Q E hr h => ?_)
  · obtain ⟨z, rfl, _⟩ := h
    rfl
  · obtain ⟨z, rfl, h2, q⟩ := h
    refine ⟨_, (pss_one (ps_ret (pe_notTK (K := K) rfl (pe_bmK (K := K) rfl PySem.F.plainAttrs_str PySem.F.slot_str_strip PySem.F.type_str_strip mt_stripChars (pv 0) (pa_cons (pe_gv T.gLETTERS (by rfl)) pa_nil))))), ?_⟩
    have hz : (Sx z).length ≤ sizeLine := by rw [Sx_len, sizeLine_eq]; omega
    refine ⟨_, rfl, rfl, _, abcS, rfl, rfl, hz, !okL z, ⟨?_, ?_⟩, ?_⟩
    · exact Nat.le_trans (len_stripChars _ _) hz
    · by_cases e : okL z = true
      · rw [strip_all (okL_iff.mp e), e]
        rfl
      · have e' : okL z = false := by simpa using e
        rw [e']
        have : ∃ c ∈ z, ¬ isLt c := by
          apply Classical.byContradiction
          intro n
          refine e (okL_iff.mpr fun c hc => ?_)
          apply Classical.byContradiction
          intro m
          exact n ⟨c, hc, m⟩
        obtain ⟨c, hc, hn⟩ := this
        have z3 : ((Txt.stripChars (Sx z) abcS).length : Int) ≠ 0 := by
          have := strip_some hc hn
          omega
        exact (bne_iff_ne.mpr z3).symm
    · rw [Bool.not_not]
      exact q
theorem ok_is_textG {f : Addr} {fd : FuncData} (F : Fun K "is_text" "is_text" s_is_text f fd) (T : Tx K mg CM CJ) (D_all_letters : Df P w K mg base 1 "all_letters" spAllG) : FnOk P w K mg base CX0 2 f fd ["value"] spAllG := by
  refine F.ok sc_is_text (fun vs H Q E h => ?_) (fun cdv A outer s H vs Q E hr h => ?_)
  · obtain ⟨z, rfl, _⟩ := h
    rfl
  · obtain ⟨z, rfl, h2, q⟩ := h
    refine ⟨_, (pss_one (ps_ret (pe_and (pe_callB call_isi (by rfl) T.isinstance (by decide +kernel) (pa_cons (pv 0) (pa_cons (pe_bltn (v := .ty "str") (by rfl) T.str (by decide +kernel) rfl) pa_nil))) (pe_and (pe_cmpR op_le (pe_callB call_len_str (by rfl) T.len (by decide +kernel) (pa_cons (pv 0) pa_nil)) (pe_gv T.gLONGEST (by rfl)) (nomark _)) (pe_one (pe_c D_all_letters hr (by decide) (by rfl) (pa_cons (pv 0) pa_nil))))))), ?_⟩
    have hz : (Sx z).length ≤ sizeLine := by rw [Sx_len, sizeLine_eq]; omega
    refine ⟨_, rfl, _, .ty "str", .type "str", .type "str", true, rfl, .ty _, ty_str _, kit_ty (by decide +kernel), true, rfl, ?_⟩
    refine ⟨_, rfl, _, rfl, hz, _, _, rfl, rfl, true, ?_, ?_⟩
    · rw [Sx_len]
      exact dec_t (show (z.length : Int) ≤ 2000 by omega)
    · exact ⟨_, rfl, z, rfl, h2, q⟩
theorem ok_is_imageG {f : Addr} {fd : FuncData} (F : Fun K "is_image" "is_image" s_is_image f fd) (T : Tx K mg CM CJ) (D_is_text : Df P w K mg base 2 "is_text" spAllG) : FnOk P w K mg base CX0 3 f fd ["value"] spImageG := by
  refine F.ok sc_is_image (fun vs H Q E h => ?_) (fun cdv A outer s H vs Q E hr h => ?_)
  · obtain ⟨z, rfl, _⟩ := h
    rfl
  · obtain ⟨z, rfl, h2, q⟩ := h
    refine ⟨_, (pss_one (ps_ret (pe_and (pe_c D_is_text hr (by decide) (by rfl) (pa_cons (pv 0) pa_nil)) (pe_one (pe_chain op_le op_le pe_int (pe_callB call_len_str (by rfl) T.len (by decide +kernel) (pa_cons (pv 0) pa_nil)) (pe_gv T.gLONGEST_TOLD (by rfl))))))), ?_⟩
    have hz : (Sx z).length ≤ sizeLine := by rw [Sx_len, sizeLine_eq]; omega
    refine ⟨_, rfl, z, rfl, h2, okL z, rfl, ?_⟩
    unfold imgB at q
    cases e : okL z with
    | false =>
      rw [e] at q
      exact q
    | true =>
      rw [e, Bool.true_and] at q
      refine ⟨_, rfl, _, rfl, hz, _, _, rfl, rfl, decide (1 ≤ z.length), ?_, ?_⟩
      · show V.bl (decide ((1 : Int) ≤ ((Sx z).length : Int))) = _
        rw [Sx_len]
        congr 1
        exact decide_eq_decide.mpr (by omega)
      by_cases g : 1 ≤ z.length
      · rw [decide_eq_true g]
        refine ⟨_, _, rfl, rfl, ?_⟩
        show Q (V.bl (decide (((Sx z).length : Int) ≤ 4))) H
        rw [Sx_len]
        have e5 : decide ((z.length : Int) ≤ 4) = decide (1 ≤ z.length ∧ z.length ≤ 4) := decide_eq_decide.mpr (by omega)
        rw [e5]
        exact q
      · rw [decide_eq_false g]
        rw [decide_eq_false (fun h => g h.1)] at q
        exact q
theorem ok_is_told {f : Addr} {fd : FuncData} (F : Fun K "is_told" "is_told" s_is_told f fd) (T : Tx K mg CM CJ) (D_is_letter : Df P w K mg base 1 "is_letter" (spIsLetter K)) (D_is_image : Df P w K mg base 3 "is_image" spImageG) : FnOk P w K mg base CX0 4 f fd ["word"] spTold1 := by
  refine F.ok sc_is_told (fun vs H Q E h => ?_) (fun cdv A outer s H vs Q E hr h => ?_)
  · obtain ⟨z, rfl, _⟩ := h
    rfl
  · obtain ⟨z, rfl, h2, q⟩ := h
    refine ⟨_, (pss_one (ps_ret (pe_and (pe_c D_is_letter hr (by decide) (by rfl) (pa_cons (pe_slice sl_str (pv 0) po_none (po_some pe_int)) pa_nil)) (pe_and (pe_cmpR op_eq (pe_slice sl_str (pv 0) (po_some pe_int) (po_some pe_int)) pe_str (nomark _)) (pe_one (pe_c D_is_image hr (by decide) (by rfl) (pa_cons (pe_slice sl_str (pv 0) (po_some pe_int) po_none) pa_nil))))))), ?_⟩
    have hz : (Sx z).length ≤ sizeLine := by rw [Sx_len, sizeLine_eq]; omega
    have t1 : cutS (Sx z) none (some 1) = Sx (z.take 1) := cut_take z 1
    have t2 : cutS (Sx z) (some 2) none = Sx (z.drop 2) := cut_drop z 2
    refine ⟨_, rfl, 1, rfl, Sx z, rfl, hz, _, rfl, ?_⟩
    rw [t1]
    match z, hz, h2, q, t2 with
    | [], _, _, q, _ => exact .inr (.inl ⟨_, rfl, by decide, by decide, false, rfl, q⟩)
    | c :: s, hz, h2, q, t2 =>
      refine .inl ⟨c, rfl, decide (c ∈ abc), rfl, ?_⟩
      by_cases hc : isLt c
      · rw [decide_eq_true (abc_mem.mpr hc)]
        refine ⟨_, rfl, 1, rfl, 2, rfl, Sx (c :: s), rfl, hz, ?_⟩
        rw [cut_one]
        match s, hz, h2, q, t2 with
        | [], _, _, q, _ => exact ⟨rfl, false, (show V.bl (decide (V.str (Sx []) = V.str ":")) = V.bl false from by decide +kernel), q⟩
        | d :: s, hz, h2, q, t2 =>
          have e1 : decide (V.str (Sx ((List.drop 1 (c :: d :: s)).take 1)) = V.str ":") = (d == 58) := by
            rw [colon]
            show decide (V.str (Sx [d]) = V.str (Sx [58])) = _
            by_cases e : d = 58
            · rw [e]
              rfl
            · rw [decide_eq_false (fun z => e (by have := Sx_inj (V.str.inj z); simpa using this))]
              exact (beq_eq_false_iff_ne.mpr e).symm
          refine ⟨rfl, (d == 58), by rw [e1], ?_⟩
          have q' : Q (.bl (decide (isLt c) && (d == 58) && imgB s)) H := q
          rw [decide_eq_true hc, Bool.true_and] at q'
          cases e : (d == 58) with
          | false =>
            rw [e] at q'
            exact q'
          | true =>
            rw [e, Bool.true_and] at q'
            exact ⟨_, rfl, 2, rfl, Sx (c :: d :: s), rfl, hz, s, by rw [t2]; rfl, by rw [List.length_cons, List.length_cons] at h2; omega, q'⟩
      · rw [decide_eq_false (fun z => hc (abc_mem.mp z))]
        cases s with
        | nil => exact q
        | cons d s =>
          have q' : Q (.bl (decide (isLt c) && (d == 58) && imgB s)) H := q
          rw [decide_eq_false hc] at q'
          exact q'
end
end V8
set_option Elab.async false
set_option linter.all false
set_option maxRecDepth 100000
set_option maxHeartbeats 8000000
/-! Which word cannot stand, as the law finds it. -/
namespace V8
open PySem PySem.Spec PyProof.Rows L2
theorem atName {i : Nat} {v : V} {σ : L2.St} {H : Hp} {Q : L2.St → Hp → Prop} (h : Q (σ.set i (some v)) H) : gName i v σ H Q := h
theorem nextS {D : Ends} {σ : L2.St} {H : Hp} (h : D.nx σ H) : tNext D σ H := h
theorem seq1 {a b : TS} {D : Ends} {σ : L2.St} {H : Hp} (M : L2.St → Hp → Prop) (h2 : ∀ σ' H', M σ' H' → b D σ' H') (h1 : ∀ R : L2.St → Hp → Prop, (∀ σ' H', M σ' H' → R σ' H') → a { D with nx := R } σ H) : tSeq a b D σ H := h1 _ h2
def asc (w : List Nat) : Prop := ∀ c ∈ w, c < 0x110000
/-- the words between single spaces -/
def wordsW (l : List Nat) : List (List Nat) := (Txt.split (Sx l) " ").map fun w => w.cps.toList
theorem sx_list (w : Str) : Sx w.cps.toList = w := by
  show (⟨w.cps.toList.toArray⟩ : Str) = w
  rw [Array.toArray_toList]
theorem wordsW_sx (l : List Nat) : (wordsW l).map Sx = Txt.split (Sx l) " " := by
  unfold wordsW
  rw [List.map_map]
  conv => rhs; rw [← List.map_id (Txt.split (Sx l) " ")]
  exact List.map_congr_left fun w _ => sx_list w
theorem words_join (l : List Nat) : Str.join " " ((wordsW l).map Sx) = Sx l := by
  rw [wordsW_sx]
  exact StrLaws.join_split _ _
theorem wordsW_ne (l : List Nat) : wordsW l ≠ [] := by
  unfold wordsW
  intro h
  have h' := List.map_eq_nil_iff.mp h
  unfold Txt.split at h'
  split at h'
  · cases h'
  · split at h'
    · cases h'
    · rw [StrLaws.partsBetween_eq] at h'
      cases e : Builtin.Str.occurrences (Sx l) " " 0 (Sx l).length ((Sx l).length + 1) with
      | nil =>
        rw [e] at h'
        cases h'
      | cons a r =>
        rw [e] at h'
        cases h'
theorem join_parts (sep : Str) : ∀ (ws : List (List Nat)), (∀ w ∈ ws, ∀ c ∈ w, c ∈ (Str.join sep (ws.map Sx)).cps.toList) ∧ (∀ w ∈ ws, w.length ≤ (Str.join sep (ws.map Sx)).length) ∧ (sep.length = 1 → ws.length ≤ (Str.join sep (ws.map Sx)).length + 1)
  | [] => ⟨fun w h => (by cases h), fun w h => (by cases h), fun _ => Nat.zero_le _⟩
  | [x] => by
    refine ⟨fun w h c hc => ?_, fun w h => ?_, fun _ => by simp⟩
    · rw [List.mem_singleton.mp h] at hc
      exact hc
    · rw [List.mem_singleton.mp h]
      show _ ≤ (Sx x).length
      rw [Sx_len]
      exact Nat.le_refl _
  | x :: y :: r => by
    obtain ⟨h1, h2, h3⟩ := join_parts sep (y :: r)
    have e : Str.join sep ((x :: y :: r).map Sx) = Sx x ++ sep ++ Str.join sep ((y :: r).map Sx) := rfl
    have el : (Sx x ++ sep ++ Str.join sep ((y :: r).map Sx)).cps.toList = x ++ sep.cps.toList ++ (Str.join sep ((y :: r).map Sx)).cps.toList := by
      show (((Sx x).cps ++ sep.cps) ++ _).toList = _
      rw [Array.toList_append, Array.toList_append]
      rfl
    have en : (Sx x ++ sep ++ Str.join sep ((y :: r).map Sx)).length = x.length + sep.length + (Str.join sep ((y :: r).map Sx)).length := by
      show (((Sx x).cps ++ sep.cps) ++ _).size = _
      rw [Array.size_append, Array.size_append]
      rfl
    rw [e, el, en]
    refine ⟨fun w h c hc => ?_, fun w h => ?_, fun hs => ?_⟩
    · rcases List.mem_cons.mp h with rfl | h
      · exact List.mem_append_left _ (List.mem_append_left _ hc)
      · exact List.mem_append_right _ (h1 w h c hc)
    · rcases List.mem_cons.mp h with rfl | h
      · omega
      · have := h2 w h
        omega
    · have := h3 hs
      rw [List.length_cons]
      omega
theorem words_len {l : List Nat} : ∀ w ∈ wordsW l, w.length ≤ l.length := fun w hw => by
  have z := (join_parts " " (wordsW l)).2.1 w hw
  rw [words_join, Sx_len] at z
  exact z
theorem words_many (l : List Nat) : (wordsW l).length ≤ l.length + 1 := by
  have z := (join_parts " " (wordsW l)).2.2 (by decide +kernel)
  rw [words_join, Sx_len] at z
  exact z
theorem toldB_iff {w : List Nat} : toldB w = true ↔ ∃ c s, w = c :: 58 :: s ∧ isLt c ∧ (∀ d ∈ s, isLt d) ∧ 1 ≤ s.length ∧ s.length ≤ 4 := by
  match w with
  | [] => exact ⟨fun h => (by cases h), fun ⟨_, _, h, _⟩ => (by cases h)⟩
  | [x] => exact ⟨fun h => (by cases h), fun ⟨_, _, h, _⟩ => (by cases h)⟩
  | c :: d :: s =>
    show (decide (isLt c) && (d == 58) && (okL s && decide (1 ≤ s.length ∧ s.length ≤ 4))) = true ↔ _
    rw [Bool.and_eq_true, Bool.and_eq_true, Bool.and_eq_true, decide_eq_true_iff, decide_eq_true_iff, okL_iff, beq_iff_eq]
    constructor
    · rintro ⟨⟨h1, rfl⟩, h2, h3, h4⟩
      exact ⟨c, s, rfl, h1, h2, h3, h4⟩
    · rintro ⟨c', s', e, h1, h2, h3, h4⟩
      cases e
      exact ⟨⟨h1, rfl⟩, h2, h3, h4⟩
/-- whether a word can stand behind one with this letter -/
def stands (w last : List Nat) : Bool := toldB w && decide (∀ p ∈ last, p < w.headD 0)
def firstBad : List (List Nat) → Nat → List Nat → Option Nat
  | [], _, _ => none
  | w :: r, i, last => if i = 12 ∨ stands w last = false then some i else firstBad r (i + 1) (w.take 1)
def dueW (ws : List (List Nat)) : Option Nat := if ws.head? = some [45] then (if ws.length = 1 then none else some 1) else firstBad ws 0 []
theorem stands_head {w last : List Nat} (h : stands w last = true) : ∃ c s, w = c :: 58 :: s ∧ isLt c ∧ (∀ d ∈ s, isLt d) ∧ 1 ≤ s.length ∧ s.length ≤ 4 := by
  unfold stands at h
  rw [Bool.and_eq_true] at h
  exact toldB_iff.mp h.1
end V8
set_option Elab.async false
set_option linter.all false
set_option maxRecDepth 100000
set_option maxHeartbeats 8000000
/-! Misreading.read. -/
namespace V8
open PySem PySem.Spec PyProof.Rows L2
abbrev s_Misreading_read : Stmt := inClass (topS 32) 17
abbrev n_Misreading_read : List Str := ["cls", "text", "words", "at", "word", "each"]
theorem sc_Misreading_read : FnScope ["cls", "text", "words", "at", "word", "each"] ["cls", "text"] (defScope s_Misreading_read) := ⟨rfl, rfl, rfl, by decide +kernel, rfl, by decide +kernel, by decide +kernel⟩
/-- the images that words tell -/
def tabW (ws : List (List Nat)) : Tab := ws.map fun w => (w.headD 0, w.drop 2)
def spRead0 (CM : Addr) : Sp := fun vs H Q _ => ∃ l : List Nat, vs = [.ref CM, .str (Sx l)] ∧ l.length ≤ 1000 ∧ asc l ∧ dueW (wordsW l) = none ∧
  ∀ x H' u, H x = none → MisAt CM H' x u → u = (if (wordsW l).head? = some [45] then [] else tabW (wordsW l)) → Same H H' → Q (.ref x) H'
theorem fb_none : ∀ (ws : List (List Nat)) (i : Nat) (last : List Nat), i ≤ 12 → firstBad ws i last = none → (∀ w ∈ ws, toldB w = true) ∧ i + ws.length ≤ 12 ∧ (ws.map fun w => w.headD 0).Pairwise (· < ·) ∧ ∀ w ∈ ws, ∀ p ∈ last, p < w.headD 0
  | [], i, last, h, _ => ⟨fun w h => (by cases h), by simpa using h, List.Pairwise.nil, fun w h => (by cases h)⟩
  | w :: r, i, last, h, e => by
    unfold firstBad at e
    by_cases c : i = 12 ∨ stands w last = false
    · rw [if_pos c] at e
      cases e
    rw [if_neg c] at e
    have c1 : i ≠ 12 := fun z => c (.inl z)
    have c2 : stands w last = true := by
      cases z : stands w last with
      | true => rfl
      | false => exact absurd (.inr z) c
    obtain ⟨h1, h2, h3, h4⟩ := fb_none r (i + 1) (w.take 1) (by omega) e
    obtain ⟨x, s, ew, _⟩ := stands_head c2
    have hw : ∀ p ∈ last, p < w.headD 0 := by
      unfold stands at c2
      rw [Bool.and_eq_true] at c2
      exact of_decide_eq_true c2.2
    have ht : toldB w = true := by
      unfold stands at c2
      rw [Bool.and_eq_true] at c2
      exact c2.1
    have up : ∀ v ∈ r, w.headD 0 < v.headD 0 := fun v hv => h4 v hv _ (by rw [ew]; exact List.mem_singleton.mpr rfl)
    refine ⟨fun v hv => ?_, by rw [List.length_cons]; omega, ?_, fun v hv p hp => ?_⟩
    · rcases List.mem_cons.mp hv with rfl | hv
      · exact ht
      · exact h1 v hv
    · rw [List.map_cons]
      refine List.Pairwise.cons (fun y hy => ?_) h3
      obtain ⟨v, hv, rfl⟩ := List.mem_map.mp hy
      exact up v hv
    · rcases List.mem_cons.mp hv with rfl | hv
      · exact hw p hp
      · exact Nat.lt_trans (hw p hp) (up v hv)
theorem tabW_keys (ws : List (List Nat)) : (tabW ws).map (·.1) = ws.map fun w => w.headD 0 := by
  unfold tabW
  rw [List.map_map]
  rfl
theorem tabW_nd {ws : List (List Nat)} (h : (ws.map fun w => w.headD 0).Pairwise (· < ·)) : ((tabW ws).map (·.1)).Nodup := by
  rw [tabW_keys]
  exact h.imp fun z => Nat.ne_of_lt z
theorem tabW_good {ws : List (List Nat)} (h1 : ∀ w ∈ ws, toldB w = true) (h : (ws.map fun w => w.headD 0).Pairwise (· < ·)) : GoodT abc (tabW ws) := by
  refine ⟨tabW_nd h, fun q hq => ?_, fun q hq => ?_⟩
  · obtain ⟨w, hw, rfl⟩ := List.mem_map.mp hq
    obtain ⟨c, s, rfl, hc, _⟩ := toldB_iff.mp (h1 w hw)
    exact abc_mem.mpr hc
  · obtain ⟨w, hw, rfl⟩ := List.mem_map.mp hq
    obtain ⟨c, s, rfl, hc, hs, h3, h4⟩ := toldB_iff.mp (h1 w hw)
    exact ⟨h3, h4, fun d hd => abc_mem.mpr (hs d hd)⟩
/-- the letter of the word ahead -/
def aheadW (ws : List (List Nat)) (i : Nat) : List Nat := if i = 0 then [] else (ws.getD (i - 1) []).take 1
def tMkL (CM : Addr) (i : Nat) (t : TA) : TE := fun σ H Q => σ[i]? = some (some (.ref CM)) ∧ t σ H fun vs H1 => mkR CM (vs ++ [.str (Sx [])]) H1 Q
section
variable {X : Cx} {CM : Addr} {i j : Nat} {x : Str} {p pos pos2 : Pos} {e : Expr} {es : List Expr} {t : TA}
theorem pe_mkL (M : Mkr X.prog X.w X.K X.mg X.base CM) (hr : Room j X.A) (hj : 6 ≤ j) (hN : X.N[i]? = some x) (hv : Vis X.env.scope x) (ha : PA X (e :: es) t) (hdb : (x == ("__debug__" : Str)) = false := by decide) (hcd : (x == ("__classdict__" : Str)) = false := by decide)
    (he : starEach (e :: es) X.env = (false, eval e X.env) :: starEach es X.env := by rfl) (hpl : (backTo pos (starEach es X.env)).any (·.1) = false := by rfl) : PE X (.Call (.Name x p) (e :: es) [] pos) (tMkL CM i t) := by
  obtain ⟨f, fd, M, F, hm, b0, ⟨ds, hd, b1⟩, k2, k1, k11⟩ := M.ex
  refine ⟨fun pins s σ H Q I h => ?_⟩
  obtain ⟨hs, ht⟩ := h
  refine wpAny_Call_Name_kw (thn ((pe_var (pos := p) hN hv hdb hcd).run pins s σ H (fun v H1 => v = .ref CM ∧ H1 = H) I ⟨.ref CM, hs, rfl, rfl⟩) fun u s1 ⟨v, H1, I1, r1, q1⟩ => ?_)
  obtain ⟨rfl, rfl⟩ := q1
  cases r1
  refine PySem.W.callWith_K (h₀ := X.base) I.ok.mod.kin M.kp (thn (ha.run pos pins s1 σ _ _ I1 ht) fun us s2 ⟨vs, H2, I2, r, q⟩ => ⟨I2.kIn, ?_⟩) he hpl
  exact run_make M F (hr.mono hj) b1 hd pass0 I2 r (mk_of q)
end
section
variable {P : Program} {w : World} {K : PySem.W.Frag} {mg : Str → Option Value} {base : Heap} {CM CJ : Addr}
theorem ok_read0 {f : Addr} {fd : FuncData} (F : Fun K "read" "Misreading.read" s_Misreading_read f fd) (T : Tx K mg CM CJ) (EN : mg "enumerate" = none) (D_is_told : Df P w K mg base 4 "is_told" spTold1) (D_mk : Mkr P w K mg base CM) : FnOk P w K mg base CX0 7 f fd ["cls", "text"] (spRead0 CM) := by
  refine F.ok sc_Misreading_read (fun vs H Q E h => ?_) (fun cdv A outer s H vs Q E hr h => ?_)
  · obtain ⟨l, rfl, _⟩ := h
    rfl
  · obtain ⟨l, rfl, hn, hA, hdu, q⟩ := h
    refine ⟨_, (pss_cons (ps_if (pt_not (pt_val (pe_callB call_isi (by rfl) T.isinstance (by decide +kernel) (pa_cons (pv 1) (pa_cons (pe_bltn (v := .ty "str") (by rfl) T.str (by decide +kernel) rfl) pa_nil)))))
        (pss_one ps_never)
        pss_nil)
      (pss_cons (ps_set (i := 2) sc_Misreading_read.nd rfl (.inl rfl) (pe_bmK (K := K) rfl PySem.F.plainAttrs_str PySem.F.slot_str_split PySem.F.type_str_split mt_split (pv 1) (pa_cons pe_str pa_nil)))
      (pss_cons (ps_if (pt_cmpR op_eq (pe_ix (ix_listK (K := K) rfl) (pv 2) pe_int (fun _ _ => rfl)) pe_str (nomark _))
        (pss_cons (ps_if (pt_cmpR op_gt (pe_callB (call_len_seqK (K := K) rfl) (by rfl) T.len (by decide +kernel) (pa_cons (pv 2) pa_nil)) pe_int (nomark _))
          (pss_one ps_never)
          pss_nil)
        (pss_one (ps_ret (pe_mkL (i := 0) D_mk hr (by decide) rfl (.inl rfl) (pa_cons pe_dnewK pa_nil)))))
        pss_nil)
      (pss_cons (ps_for PassesOwn.never rfl (pi_enum (by rfl) EN (pa_cons (pv 2) pa_nil)) (pg_tup (by rfl) (pgs_cons (pg_name (i := 3) sc_Misreading_read.nd rfl (.inl rfl)) (pgs_cons (pg_name (i := 4) sc_Misreading_read.nd rfl (.inl rfl)) pgs_nil)))
        (pss_one (ps_if (PW.pt (pw_or (pt_cmpR op_eq (pv 3) (pe_gv T.gMOST_LETTERS (by rfl)) (nomark _)) (pw_or (pt_not (pt_val (pe_c D_is_told hr (by decide) (by rfl) (pa_cons (pv 4) pa_nil)))) (pw_or1 (PW.pt (pw_and (pt_cmpR op_gt (pv 3) pe_int (nomark _)) (pw_and1 (pt_cmpR op_le_str (pe_ix ix_str (pv 4) pe_int (fun _ _ => rfl)) (pe_ix ix_str (pe_ix (ix_listK (K := K) rfl) (pv 2) (pe_op op_sub (pv 3) pe_int) (fun _ _ => rfl)) pe_int (fun _ _ => rfl)) (nomark _)))))))))
          (pss_one ps_never)
          pss_nil)))
      (pss_one (ps_ret (pe_mkL (i := 0) D_mk hr (by decide) rfl (.inl rfl) (pa_cons (pe_dc (own := [("each", 5)]) (g := gName 5) (by rfl) sc_Misreading_read.nd (pi_list (pv 2)) (blkOk_by (own := [("each", 5)]) (N := n_Misreading_read) (sc := defScope s_Misreading_read) (by decide +kernel)) (fun _ _ _ _ _ => (pg_name (i := 5) sc_Misreading_read.nd rfl (.inl rfl))) (fun _ _ _ _ _ => pts_nil) (fun _ _ _ _ _ => (pe_ix ix_str (pv 5) pe_int (fun _ _ => rfl))) (fun _ _ _ _ _ => (pe_slice sl_str (pv 5) (po_some pe_int) po_none))) pa_nil)))))))), ?_⟩
    have qe : ∀ n, dueW (wordsW l) = some n → False := fun n e => by
      rw [hdu] at e
      cases e
    have q : dueW (wordsW l) = none → ∀ x H' u, H x = none → MisAt CM H' x u → u = (if (wordsW l).head? = some [45] then [] else tabW (wordsW l)) → Same H H' → Q (.ref x) H' := fun _ => q
    clear hdu
    · have hz : (Sx l).length + 2 ≤ sizeLine := by rw [Sx_len, sizeLine_eq]; omega
      refine ⟨_, rfl, _, .ty "str", .type "str", .type "str", true, rfl, .ty _, ty_str _, kit_ty (by decide +kernel), true, rfl, iteF ?_⟩
      refine ⟨_, rfl, rfl, Sx l, " ", rfl, rfl, by decide +kernel, hz, fun a na => ?_⟩
      refine atName ?_
      dsimp only
      rw [← wordsW_sx]
      have hw := words_many l
      have hwl := words_len (l := l)
      have hne := wordsW_ne l
      generalize wordsW l = ws at hw hwl hne q qe ⊢
      have sA : Same H (upd H a (.lst ((ws.map Sx).map V.str))) := same_put (s := Same.refl H) na
      have hA1 : upd H a (.lst ((ws.map Sx).map V.str)) a = some (.lst ((ws.map Sx).map V.str)) := upd_same
      generalize upd H a (.lst ((ws.map Sx).map V.str)) = H1 at sA hA1 ⊢
      have len : ((ws.map Sx).map V.str).length = ws.length := by rw [List.length_map, List.length_map]
      have at_ : ∀ (i : Nat) (hi : i < ws.length), ((ws.map Sx).map V.str)[i]? = some (V.str (Sx ws[i])) := fun i hi => by
        rw [List.getElem?_map, List.getElem?_map, List.getElem?_eq_getElem hi]
        rfl
      obtain ⟨w0, r0, e0⟩ : ∃ w r, ws = w :: r := by
        cases ws with
        | nil => exact absurd rfl hne
        | cons w r => exact ⟨w, r, rfl⟩
      have a0 : ((ws.map Sx).map V.str)[0]? = some (V.str (Sx w0)) := by
        rw [e0]
        rfl
      have c12 : ∀ c ∈ abc, isLt c := fun c hc => abc_mem.mp hc
      have lg : ∀ n : Nat, n ≤ 2000 → (n : Int).natAbs.log2 < 1920 := fun n hn => by
        rw [Int.natAbs_natCast]
        by_cases z : n = 0
        · rw [z]
          decide
        · exact Nat.lt_of_lt_of_le ((Nat.log2_lt z).mpr (show n < 2 ^ 11 by omega)) (by decide)
      have lt : ∀ n : Nat, n ≤ 2000 → (toString (n : Int) : Str).length ≤ 8000 := fun n hn => Nat.le_trans (PyProof.Rows.int_text_len_1921 (lg n hn)) (by decide)
      refine ⟨_, rfl, a, _, 0, V.str (Sx w0), rfl, rfl, SqL.of hA1, atI_nat (j := 0) a0, rfl, _, rfl, ?_⟩
      have e45 : ("-" : Str) = Sx [45] := by decide +kernel
      by_cases hm : w0 = [45]
      · rw [decide_eq_true (by rw [hm, e45])]
        refine iteT ?_
        have dW : dueW ws = if ws.length = 1 then none else some 1 := by
          unfold dueW
          rw [e0, hm]
          rfl
        have hh : ws.head? = some [45] := by rw [e0, hm]; rfl
        rw [dW] at q qe
        rw [if_pos hh] at q
        refine ⟨_, rfl, a, _, rfl, .inl (SqL.of hA1), _, _, rfl, rfl, _, rfl, ?_⟩
        rw [len]
        by_cases h1 : ws.length = 1
        · rw [if_pos h1] at q
          rw [decide_eq_false (by rw [h1]; decide)]
          refine iteF ⟨rfl, fun d nd => ⟨d, abc, [], [], rfl, upd_same, GoodT.nil, ⟨by decide, by rw [abc_len]; omega⟩, c12, fun c h => (nomatch h), by decide, fun x H' nx m s => ?_⟩⟩
          exact q rfl x H' [] (same_none (s := same_put (s := sA) nd) nx) m.mis rfl (Same.trans (same_put (s := sA) nd) s)
        · rw [if_neg h1] at qe
          have h2 : 1 < ws.length := by
            have : 0 < ws.length := by rw [e0]; exact Nat.succ_pos _
            omega
          rw [decide_eq_true (by omega)]
          exact (qe 1 rfl).elim
      · rw [decide_eq_false (fun z => hm (by rw [e45] at z; exact Sx_inj (V.str.inj z)))]
        refine iteF ?_
        refine nextS ?_
        dsimp only
        have hh : ws.head? ≠ some [45] := by
          rw [e0]
          exact fun z => hm (Option.some.inj z)
        have dW : dueW ws = firstBad ws 0 [] := by
          unfold dueW
          rw [if_neg hh]
        rw [dW] at q qe
        rw [if_neg hh] at q
        refine ⟨_, rfl, a, _, rfl, SqL.of hA1, for_it (walk_enum (K := K) (a := a) (xs := (ws.map Sx).map V.str)) (fun i σ H2 => (∃ v3 v4 : Option V, σ = [some (.ref CM), some (.str (Sx l)), some (.ref a), v3, v4, none]) ∧ Same H1 H2 ∧ firstBad ws 0 [] = firstBad (ws.drop i) i (aheadW ws i) ∧ (∀ j, j < i → ∀ h : j < ws.length, toldB ws[j] = true)) ⟨⟨none, none, rfl⟩, Same.refl _, rfl, fun j h => absurd h (Nat.not_lt_zero _)⟩ (fun i σ H2 hi h => SqL.of (h.2.1 _ _ hA1)) ?_ ?_⟩
        · rintro i z σ H2 H2' hi ⟨⟨v3, v4, rfl⟩, s2, hb, hp⟩ ⟨tq, x, y, rfl, ntq, rfl, ex, ey⟩
          have hi' : i < ws.length := by
            rw [len] at hi
            exact hi
          obtain rfl : V.int (i : Int) = x := Option.some.inj ex
          obtain rfl : V.str (Sx ws[i]) = y := Option.some.inj ((at_ i hi').symm.trans ey)
          have s3 : Same H1 (upd H2 tq (.tup [.int (i : Int), .str (Sx ws[i])])) := same_put (s := s2) ntq
          refine ⟨tq, [.int (i : Int), .str (Sx ws[i])], rfl, .inl (.inl upd_same), rfl, _, _, rfl, _, _, rfl, rfl, ?_⟩
          generalize upd H2 tq (.tup [.int (i : Int), .str (Sx ws[i])]) = H3 at s3 ⊢
          clear s2 ntq ex ey
          have hd : ws.drop i = ws[i] :: ws.drop (i + 1) := List.drop_eq_getElem_cons hi'
          have wl := hwl _ (List.getElem_mem hi')
          have bad : (i = 12 ∨ stands ws[i] (aheadW ws i) = false) → firstBad ws 0 [] = some i := fun h => by
            rw [hb, hd]
            unfold firstBad
            rw [if_pos h]
          have next : stands ws[i] (aheadW ws i) = true → i ≠ 12 → firstBad ws 0 [] = firstBad (ws.drop (i + 1)) (i + 1) (aheadW ws (i + 1)) := fun h h12 => by
            rw [hb, hd]
            conv => lhs; unfold firstBad
            rw [if_neg (fun z => z.elim h12 (fun z => by rw [h] at z; cases z))]
            have ea : aheadW ws (i + 1) = ws[i].take 1 := by
              unfold aheadW
              rw [if_neg (Nat.succ_ne_zero i), Nat.add_sub_cancel, List.getD_eq_getElem?_getD, List.getElem?_eq_getElem hi']
              rfl
            rw [ea]
          dsimp only [List.set_cons_succ, List.set_cons_zero]
          refine ⟨_, rfl, rfl, _, rfl, ?_⟩
          by_cases h12 : i = 12
          · rw [decide_eq_true (by rw [h12]; rfl)]
            exact (qe i (bad (.inl h12))).elim
          rw [decide_eq_false (fun z => h12 (by have := V.int.inj z; omega))]
          refine iteF ?_
          refine ⟨_, rfl, ws[i], rfl, by omega, _, rfl, ?_⟩
          cases ht : toldB ws[i] with
          | false =>
            exact (qe i (bad (.inr (by unfold stands; rw [ht]; rfl)))).elim
          | true =>
            refine iteF ?_
            obtain ⟨c, sx, ew, hc, _⟩ := toldB_iff.mp ht
            have hp' : ∀ j, j < i + 1 → ∀ h : j < ws.length, toldB ws[j] = true := fun j hj h => by
              rcases Nat.lt_succ_iff_lt_or_eq.mp hj with h1 | rfl
              · exact hp j h1 h
              · exact ht
            refine ⟨_, rfl, _, _, rfl, rfl, _, rfl, ?_⟩
            by_cases hi0 : i = 0
            · rw [decide_eq_false (by omega)]
              refine iteF (iteF ?_)
              have st : stands ws[i] (aheadW ws i) = true := by
                unfold stands
                rw [ht, Bool.true_and]
                refine decide_eq_true ?_
                unfold aheadW
                rw [if_pos hi0]
                exact fun p h => (by cases h)
              exact ⟨⟨_, _, rfl⟩, s3, next st h12, hp'⟩
            · rw [decide_eq_true (by omega)]
              refine iteT ?_
              have hj : i - 1 < ws.length := by omega
              obtain ⟨p, sp, ep, _⟩ := toldB_iff.mp (hp (i - 1) (by omega) hj)
              have wl2 := hwl _ (List.getElem_mem hj)
              have eA : aheadW ws i = [p] := by
                unfold aheadW
                rw [if_neg hi0, List.getD_eq_getElem?_getD, List.getElem?_eq_getElem hj]
                show (ws[i - 1]).take 1 = [p]
                rw [ep]
                rfl
              have ij : ((i : Nat) : Int) - 1 = ((i - 1 : Nat) : Int) := by omega
              refine ⟨_, rfl, Sx ws[i], 0, c, rfl, rfl, by rw [Sx_len, sizeLine_eq]; omega, by rw [ew]; exact atI_nat (xs := c :: 58 :: sx) (j := 0) rfl, _, rfl, _, rfl, _, _, rfl, rfl, a, _, _, V.str (Sx ws[i - 1]), rfl, rfl, SqL.of (s3 _ _ hA1), by rw [ij]; exact atI_nat (at_ (i - 1) hj), Sx ws[i - 1], 0, p, rfl, rfl, by rw [Sx_len, sizeLine_eq]; omega, by rw [ep]; exact atI_nat (xs := p :: 58 :: sp) (j := 0) rfl, _, _, rfl, rfl, _, rfl, ?_⟩
              have e2 : decide ((#[p] : Array Nat).toList < (#[c] : Array Nat).toList) = decide (p < c) := by
                show decide (([p] : List Nat) < [c]) = _
                simp [List.cons_lt_cons_iff]
              rw [e2]
              have es : stands ws[i] (aheadW ws i) = decide (p < c) := by
                unfold stands
                rw [ht, Bool.true_and, eA, ew]
                refine decide_eq_decide.mpr ⟨fun h => h p (List.mem_singleton.mpr rfl), fun h x hx => by rw [List.mem_singleton.mp hx]; exact h⟩
              by_cases hpc : p < c
              · rw [decide_eq_true hpc] at es ⊢
                refine iteF ?_
                exact ⟨⟨_, _, rfl⟩, s3, next es h12, hp'⟩
              · rw [decide_eq_false hpc] at es ⊢
                exact (qe i (bad (.inr es))).elim
        · rintro σ H2 ⟨⟨v3, v4, rfl⟩, s2, hb, hp⟩
          rw [len, List.drop_length] at hb
          have hA2 := s2 _ _ hA1
          obtain ⟨t1, t2, t3, _⟩ := fb_none ws 0 [] (by omega) hb
          have G := tabW_good t1 t3
          have nd := tabW_nd t3
          have tl : (tabW ws).length = ws.length := List.length_map ..
          refine ⟨rfl, _, rfl, a, rfl, ⟨_, SqL.of hA2⟩, fun D nD => dc_it (walk_list (K := K) (a := a) (xs := (ws.map Sx).map V.str)) (fun i H3 => H3 = upd H2 D (.dK (encT (tabW (ws.take i))))) rfl ?_ ?_ ?_⟩
          · rintro i H3 hi rfl
            exact SqL.of (by rw [upd_ne (ne_of_none hA2 nD)]; exact hA2)
          · rintro i z H3 H3' hi rfl ⟨rfl, hz2⟩
            have hi' : i < ws.length := by
              rw [len] at hi
              exact hi
            obtain rfl : V.str (Sx ws[i]) = z := by
              rw [at_ i hi'] at hz2
              exact Option.some.inj hz2
            obtain ⟨c, sx, ew, hc, _⟩ := toldB_iff.mp (t1 _ (List.getElem_mem hi'))
            have wl := hwl _ (List.getElem_mem hi')
            have zl : (Sx ws[i]).length ≤ sizeLine := by rw [Sx_len, sizeLine_eq]; omega
            have cd : cutS (Sx ws[i]) (some 2) none = Sx (ws[i].drop 2) := cut_drop ws[i] 2
            have et : tabW (ws.take (i + 1)) = putT (tabW (ws.take i)) c (ws[i].drop 2) := by
              have e1 : tabW (ws.take (i + 1)) = tabW (ws.take i) ++ [(c, ws[i].drop 2)] := by
                unfold tabW
                rw [List.take_add_one, List.getElem?_eq_getElem hi', List.map_append]
                show _ ++ [((ws[i]).headD 0, (ws[i]).drop 2)] = _
                rw [ew]
                rfl
              rw [e1, putT_new]
              intro hm2
              have nd2 : ((tabW (ws.take (i + 1))).map (·.1)).Nodup := by
                rw [tabW_keys] at nd ⊢
                rw [List.map_take]
                exact nd.sublist (List.take_sublist _ _)
              rw [e1, List.map_append, List.nodup_append] at nd2
              exact nd2.2.2 c hm2 c (by simp) rfl
            refine ⟨rfl, _, rfl, Sx ws[i], 0, c, rfl, rfl, zl, by rw [ew]; exact atI_nat (xs := c :: 58 :: sx) (j := 0) rfl, _, rfl, 2, rfl, Sx ws[i], rfl, zl, _, Sum.inr (L1 c), rfl, upd_same, ?_, ?_⟩
            · rw [encT_len]
              unfold tabW
              rw [List.length_map, List.length_take]
              exact small1000 (by omega)
            · rw [cd, upd_upd, et, putK_enc]
          · rintro H3 rfl
            rw [len, List.take_length]
            refine ⟨D, abc, [], tabW ws, rfl, upd_same, G, ⟨by rw [toldT_nil nd, tl]; omega, by rw [abc_len]; omega⟩, c12, fun c h => (nomatch h), by decide, fun x H' nx m s => ?_⟩
            have m' := m.mis
            rw [toldT_nil nd] at m'
            have s4 : Same H (upd H2 D (.dK (encT (tabW ws)))) := same_put (s := Same.trans sA s2) nD
            exact q hb x H' _ (same_none (s := s4) nx) m' rfl (Same.trans s4 s)
end
/-- read, by the class's name -/
structure Rd0 (P : Program) (w : World) (K : PySem.W.Frag) (mg : Str → Option Value) (base : Heap) (CM : Addr) : Prop where
  ex : ∃ (p g : Addr) (fd : FuncData) (mc : Value), ClX.CRead K CM mc ∧ ClX.CMet K CM mc "read" p g ∧ FnOk P w K mg base CX0 7 g fd ["cls", "text"] (spRead0 CM) ∧ Binds K fd ["cls", "text"] []
section
variable {X : Cx} {K : PySem.W.Frag} {j : Nat} {CM : Addr} {o e : Expr} {es : List Expr} {pos apos : Pos} {ta : TE} {t : TA} {pl : Sem Bool}
theorem pe_rd0 (c : Rd0 X.prog X.w X.K X.mg X.base CM) (hr : Room j X.A) (hj : 7 ≤ j) (he : PE X o ta) (ha : PA X (e :: es) t)
    (hst : starEach (e :: es) X.env = (false, eval e X.env) :: starEach es X.env := by rfl) (hpl : (backTo pos (starEach es X.env)).any (·.1) = false := by rfl)
    (ht : eval (.Call (.Attribute o "read" apos) (e :: es) [] pos) X.env = (do
      let ov ← eval o X.env
      standAt apos.atName
      let (f, first) ← holding [ov] (getMethod ov "read" pl)
      callWith pos f first (backTo pos (starEach (e :: es) X.env)) (backToKw pos (keywordEach [] X.env))) := by rfl) :
    PE X (.Call (.Attribute o "read" apos) (e :: es) [] pos) (ClX.tCMeth CM (spRead0 CM) E0 ta t) := by
  obtain ⟨p, g, fd, mc, r, m, F, b⟩ := c.ex
  exact ClX.pe_cmeth (pl := pl) he r m ((FnOk.raw F b .nil).imp fun vs H Q E h => by rw [List.append_nil]; exact h) (hr.mono hj) pass0 ha hst hpl ht
end
end V8
set_option Elab.async false
set_option linter.all false
set_option maxRecDepth 100000
set_option maxHeartbeats 8000000
/-! Small things of lists of texts. -/
namespace V8
open PySem PySem.Spec PyProof.Rows L2 MZ
theorem acc_okL {H : Hp} {D : Addr} {zs : List V} {i : Nat} {y : V} (hz : zs[i]? = some y) (sm : zs.length < sizeLine) :
    ∃ acc, upd H D (.lst (zs.take i)) D = some (.lst acc) ∧ acc.length < sizeLine ∧ upd (upd H D (.lst (zs.take i))) D (.lst (acc ++ [y])) = upd H D (.lst (zs.take (i + 1))) := by
  refine ⟨_, upd_same, ?_, ?_⟩
  · rw [List.length_take]
    omega
  · rw [upd_upd, List.take_add_one, hz]
    rfl
end V8
set_option Elab.async false
set_option linter.all false
set_option maxRecDepth 100000
set_option maxHeartbeats 4000000
/-! Such a dict whose keys are all texts is a dict of texts. -/
namespace L2
open PySem PySem.Spec PyProof.Rows MX
end L2
set_option Elab.async false
set_option linter.all false
set_option maxRecDepth 100000
set_option maxHeartbeats 4000000
/-! len(set(xs)), xs a list of any texts. -/
namespace SetT
open PySem PySem.Spec PyProof.Rows
end SetT
namespace L2
open PySem PySem.Spec PyProof.Rows SetT
end L2
set_option Elab.async false
set_option linter.all false
set_option maxRecDepth 100000
set_option maxHeartbeats 4000000
/-! Two readings of one call; a dict whose keys are texts taken as one. -/
namespace L2
open PySem PySem.Spec PyProof.Rows MX
end L2
set_option Elab.async false
set_option linter.all false
set_option maxRecDepth 100000
set_option maxHeartbeats 4000000
/-! What an own instance is as a test: by an own __bool__; of either of two classes. -/
namespace L2
open PySem PySem.Spec PyProof.Rows
section
variable {X : Cx} {n k j : Nat} {CX : CXT} {C f : Addr} {fd : FuncData} {ps : List Str} {sp : Sp} {E : XK} {a : Expr} {ta : TE}
theorem tru_own0 (F : FnOk X.prog X.w X.K X.mg X.base CX n f fd ps sp) (hb : Binds X.K fd ps []) (hx : Passes CX X E) (o : Own X.K C "__bool__" f) (hr : Room n X.A) :
    TruR X (fun x H Q => ∃ b dx fs, x = .ref b ∧ H b = some (.ins C dx fs) ∧ sp [.ref b] H (fun v H' => ∃ c, v = .bl c ∧ Q c H') E) := by
  intro pins s σ H x v Q I rx h
  obtain ⟨b, dx, fs, rfl, ha, hs⟩ := h
  cases rx
  obtain ⟨od, J⟩ := inst_at I ha
  obtain ⟨m, hF⟩ := I.fr
  refine PySem.W.truthy_K hF I.ok.mod.kin J o.find o.fn (thn (run_own (Sub.here hr) F hb hx I (show Vals [V.ref b] [Value.ref b] from .cons rfl .nil) hs) fun v s1 q => ?_)
  obtain ⟨y, H', I', ry, c, rfl, q⟩ := q
  cases ry
  exact ⟨H', I', q⟩
theorem tru_own (c : Mf X.prog X.w X.K X.mg X.base k C "__bool__" sp) (hr : Room j X.A) (hk : k ≤ j) :
    TruR X (fun x H Q => ∃ b dx fs, x = .ref b ∧ H b = some (.ins C dx fs) ∧ sp [.ref b] H (fun v H' => ∃ c, v = .bl c ∧ Q c H') E0) := by
  obtain ⟨f, fd, ps, F, _, o, _, b⟩ := c.ex
  exact tru_own0 F b pass0 o (hr.mono hk)
theorem tru_or {r1 r2 : V → Hp → (Bool → Hp → Prop) → Prop} (h1 : TruR X r1) (h2 : TruR X r2) : TruR X (fun x H Q => r1 x H Q ∨ r2 x H Q) := by
  intro pins s σ H x v Q I rx h
  rcases h with h | h
  · exact h1 pins s σ H x v Q I rx h
  · exact h2 pins s σ H x v Q I rx h
end
end L2
set_option Elab.async false
set_option linter.all false
set_option maxRecDepth 100000
set_option maxHeartbeats 4000000
/-! not x, of an own instance with an own __bool__. -/
namespace L2
open PySem PySem.Spec PyProof.Rows
/-- not e as a value, by any truth -/
theorem pe_notR {X : Cx} {a : Expr} {ta : TE} {pos : Pos} {r : V → Hp → (Bool → Hp → Prop) → Prop} (ht : TruR X r) (ha : PE X a ta) : PE X (.UnaryOp .Not a pos) (fun σ H Q => ta σ H fun x H1 => r x H1 fun c H2 => Q (.bl (!c)) H2) := by
  refine ⟨fun pins s σ H Q I h => ?_⟩
  refine UnaryOp_ (thn (ha.run pins s σ H _ I h) fun v s1 ⟨x, H1, I1, r1, q1⟩ => ?_)
  exact not_of (thn (ht pins s1 σ H1 x v (fun c H2 => Q (.bl (!c)) H2) I1 r1 q1) fun c s2 ⟨H2, I2, q2⟩ => ⟨.bl (!c), H2, I2, rfl, q2⟩)
end L2
set_option Elab.async false
set_option linter.all false
set_option maxRecDepth 100000
set_option maxHeartbeats 4000000
/-! A text written backwards: x[::-1]. -/
namespace L2
open PySem PySem.Spec PyProof.Rows
end L2
set_option Elab.async false
set_option linter.all false
set_option maxRecDepth 100000
set_option maxHeartbeats 4000000
/-! sorted(xs), texts, any number of them. -/
namespace SrtO
open PySem PyProof.Rows Srt
section
variable {prog : Program} {w : World} {A : Around} {E : Value → Shared → Prop} {s : Shared}
def sv : Value → PySem.Str
  | .str z _ => z
  | _ => PySem.Str.empty
def ltSv (v u : Value) : Bool := decide ((sv v).cps.toList < (sv u).cps.toList)
theorem swo_str : Swo ltSv := by
  refine ⟨fun x y h => ?_, fun x y z h1 h2 => ?_⟩
  · have a := of_decide_eq_true (p := (sv x).cps.toList < (sv y).cps.toList) h
    exact decide_eq_false (p := (sv y).cps.toList < (sv x).cps.toList) (List.not_lt.mpr (List.le_of_lt a))
  · have a := List.not_lt.mp (of_decide_eq_false (p := (sv y).cps.toList < (sv x).cps.toList) h1)
    have b := List.not_lt.mp (of_decide_eq_false (p := (sv z).cps.toList < (sv y).cps.toList) h2)
    exact decide_eq_false (p := (sv z).cps.toList < (sv x).cps.toList) (List.not_lt.mpr (List.le_trans a b))
theorem strs_mem : ∀ {vs : List Value} {ns : List PySem.Str}, StrsAre vs ns → ∀ v ∈ vs, ∃ i t, v = Value.str i t
  | _, _, .nil, v, h => absurd h (by simp)
  | _, _, .cons n t r, v, h => by
    rcases List.mem_cons.mp h with e | h
    · exact ⟨n, t, e⟩
    · exact strs_mem r v h
theorem strs_sv : ∀ {vs : List Value}, (∀ v ∈ vs, ∃ i t, v = Value.str i t) → StrsAre vs (vs.map sv)
  | [], _ => .nil
  | v :: vs, h => by
    obtain ⟨i, t, e⟩ := h v List.mem_cons_self
    subst e
    exact .cons i t (strs_sv fun u hu => h u (List.mem_cons_of_mem _ hu))
theorem sv_strs : ∀ {vs : List Value} {ns : List PySem.Str}, StrsAre vs ns → vs.map sv = ns
  | _, _, .nil => rfl
  | _, _, .cons n t r => congrArg (n :: ·) (sv_strs r)
theorem str_cmp {vs : List Value} {ns : List PySem.Str} (hI : StrsAre vs ns) : Cmp prog w A s oneType' (fun p => p.1 ∈ vs) (lt2 ltSv) := by
  intro p q hm hm'
  obtain ⟨a, t, e⟩ := strs_mem hI _ hm
  obtain ⟨b, u, e'⟩ := strs_mem hI _ hm'
  show wpAny (model prog w) A (keyLt' oneType' p.1 q.1) (fun r s' => s' = s ∧ r = ltSv p.1 q.1) (fun _ _ => False) s
  rw [e, e', keyLt'_oneType]
  exact oneLt_str ⟨rfl, rfl⟩
theorem strs_sortable {a : Addr} {vs : List Value} {ns : List PySem.Str} (hI : StrsAre vs ns) (h2 : 2 ≤ vs.length) : SortableO prog w A s a vs ltSv := by
  intro h' _
  refine ⟨oneType', fun Q E hq => ?_, str_cmp hI⟩
  match vs, hI, h2 with
  | v1 :: v2 :: rest, hI, _ =>
    rw [keyKind_strs hI]
    exact wpAny_pure hq
  | [], _, h => exact absurd h (by decide)
  | [v], _, h => exact absurd h (by simp)
theorem strs_out {vs out : List Value} {ns : List PySem.Str} (hI : StrsAre vs ns) (hs : Srtd ltSv out) (hb : Stb ltSv out vs) : StrsAre out (out.map sv) ∧ (out.map sv).Perm ns ∧ (out.map sv).Pairwise MZ.leS := by
  refine ⟨strs_sv fun v hv => strs_mem hI v (hb.perm.mem_iff.mp hv), ?_, ?_⟩
  · have q := hb.perm.map sv
    rw [sv_strs hI] at q
    exact q
  · exact List.pairwise_map.mpr (hs.imp fun {x y} h => of_decide_eq_false (p := (sv y).cps.toList < (sv x).cps.toList) h)
end
end SrtO
namespace L2
open PySem PySem.Spec PyProof.Rows
/-- sorted(xs), texts, any number of them -/
def rSortedT (K : PySem.W.Frag) : List V → Hp → VK → Prop := fun vs H Q => ∃ (a : Addr) (ns : List Str), vs = [V.ref a] ∧ SqL K H a (ns.map V.str) ∧
  ∀ (ns' : List Str) (p : Addr), ns'.Perm ns → ns'.Pairwise MZ.leS → H p = none → Q (.ref p) (upd H p (.lst (ns'.map V.str)))
section
variable {X : Cx}
theorem cr_sortedT : CallR X (.builtin "sorted") (rSortedT X.K) := by
  intro pins s σ H vs us Q I r h
  obtain ⟨a, ns, rfl, hs, q⟩ := h
  obtain ⟨its, rv, hl, hz⟩ := I.list hs
  rw [Vals.ref1 r]
  have hi := rv.strs
  refine SrtO.sorted_ord SrtO.swo_str hl.isList (by rw [← rv.length]; exact hz) (fun h2 h₁ a' _ _ => SrtO.strs_sortable hi h2) fun out h1 h2 => ?_
  obtain ⟨k1, k2, k3⟩ := SrtO.strs_out hi h1 h2
  obtain ⟨ep, he'⟩ := PyProof.Rows.sortedAll_at s.heap its out.toArray
  have hlen : ((out.map SrtO.sv).map V.str).length ≤ sizeLine := by
    rw [List.length_map, k2.length_eq]
    rw [List.length_map] at hz
    exact hz
  exact ⟨.ref _, upd H (s.heap.objs.size + 1) (.lst ((out.map SrtO.sv).map V.str)), I.laid (t' := s.toks) (fun _ _ => PyProof.Rows.sortedAll_old) (Nat.le_succ _) ⟨hlen, out, ep, vals_of_strs k1, he'⟩, rfl, q _ _ k2 k3 (I.hok.fresh (Nat.le_succ _))⟩
end
end L2
set_option Elab.async false
set_option linter.all false
set_option maxRecDepth 100000
set_option maxHeartbeats 4000000
/-! An error raised while a dict is gone over: the dict is unlocked on the way out. -/
namespace L2
open PySem PySem.Spec PyProof.Rows MX
end L2
namespace L2
open PySem PySem.Spec PyProof.Rows MX
end L2
namespace L2
open PySem PySem.Spec PyProof.Rows MX
theorem walk_keysM {w : World} {d : Addr} {o : Obj} {kvs : List (NestedKey × V × V)} : Walk (Itm w d o kvs) kvs.length (fun H => H d = some (.frz o (MixO w d kvs))) (fun i H x H2 => H2 = H ∧ ∃ k v, kvs[i]? = some (k, x, v)) :=
  ⟨fun _ _ lt q => And.intro q lt, fun _ q => And.intro q (Nat.le_refl _), fun _ _ _ _ _ _ y => y⟩
end L2
set_option Elab.async false
set_option linter.all false
set_option maxRecDepth 100000
set_option maxHeartbeats 4000000
/-! Own errors made by keywords. -/
namespace PySem
end PySem
namespace L2
open PySem PySem.Spec PyProof.Rows
end L2
set_option Elab.async false
set_option linter.all false
set_option maxRecDepth 100000
set_option maxHeartbeats 4000000
/-! Where no repr is under way: own classes made, methods, [ ], staticmethods, by defs that may raise. -/
namespace L2
open PySem PySem.Spec PyProof.Rows
section
variable {X : Cx} {C : CXT} {k j n : Nat} {f Cl p0 : Addr} {fd : FuncData} {ps ks : List Str} {sp : Sp} {E : XK} {m : Str} {o e : Expr} {es : List Expr} {kws : List Keyword} {pos apos : Pos} {ta tb : TE} {t tk : TA} {mc : Value}
/-- the def runs, wherever it is quiet -/
theorem runQ {A : Around} {pins : List (Addr × Obj)} {σ : St} {H : Hp} {s : Shared} {Q : VK} {us : List Value} {xs : List V} (F : FnG X.prog X.w X.K X.mg X.base C k f fd ps sp) (g : Quiet A) (sb : Sub X k A) (b : Binds X.K fd ps []) (out : Passes C X E)
    (I : Inv X pins σ H s) (v : Vals xs us) (h : sp xs H Q E) : wpAny (model X.prog X.w) A (call (.ref f) us) (EP X pins σ Q) X.xe s := by
  have en : Env0 X.prog X.w X.K X.mg X.base A X.stack s H := by
    have z := I.env0
    exact ⟨by rw [sb.fr]; exact z.frames, z.mod, z.bs, z.bsz, z.funs, z.frf, z.hok, z.bare⟩
  have many : us.length = ps.length := by
    rw [← v.length]
    exact F.count _ _ _ _ h
  have bd := b s us I.kIn (by rw [List.append_nil]; exact many)
  rw [List.append_nil] at bd
  refine wpAny_call (codeAny_mono (F.runs A X.stack s H ⟨us, []⟩ us xs Q E g sb.room en bd v h) fun x s2 q => ?_)
  match x, q with
  | .error er, q => exact out pins σ H s er s2 I q
  | .ok (.ret u), q => exact I.after q
  | .ok .next, q => exact q.elim
  | .ok .brk, q => exact q.elim
  | .ok .cont, q => exact q.elim
end
end L2
set_option Elab.async false
set_option linter.all false
set_option maxRecDepth 100000
set_option maxHeartbeats 4000000
/-! A list or a tuple, whichever it is, gone over. -/
namespace L2
open PySem PySem.Spec PyProof.Rows
/-- a list, or a tuple -/
def SqB (K : PySem.W.Frag) : Bool → Hp → Addr → List V → Prop
  | true, H, a, xs => SqL K H a xs
  | false, H, a, xs => SqT K H a xs
theorem SqB.same {K : PySem.W.Frag} {b : Bool} {H H2 : Hp} {a : Addr} {xs : List V} (h : SqB K b H a xs) (s : Same H H2) : SqB K b H2 a xs := by
  cases b with
  | true => exact h.elim (fun h => .inl (h.elim (fun h => .inl (s _ _ h)) fun ⟨o, h⟩ => .inr ⟨o, s _ _ h⟩)) .inr
  | false => exact h.elim (fun h => .inl (h.elim (fun h => .inl (s _ _ h)) fun ⟨o, h⟩ => .inr ⟨o, s _ _ h⟩)) .inr
end L2
set_option Elab.async false
set_option linter.all false
set_option maxRecDepth 100000
set_option maxHeartbeats 4000000
/-! A list of anything and the empty list. -/
namespace L2
open PySem PySem.Spec PyProof.Rows
def rNeNil (K : PySem.W.Frag) : R2 := fun x y H Q => ∃ (a b : Addr) (xs : List V), x = .ref a ∧ y = .ref b ∧ SqL K H a xs ∧ SqL K H b [] ∧ Q (.bl (!xs.isEmpty)) H
theorem op_neNil {X : Cx} (hu : X.A.units < cLine) : OpR X (compareOp .NotEq) (rNeNil X.K) := by
  intro pins s σ H x y v u Q I rx ry h
  obtain ⟨a, b, xs, rfl, rfl, ha, hb, q⟩ := h
  obtain rfl : v = Value.ref a := rx
  obtain rfl : u = Value.ref b := ry
  obtain ⟨its, r1, p1, _⟩ := I.list ha
  obtain ⟨jts, r2, p2, _⟩ := I.list hb
  cases r2
  have l1 : s.heap.IsList a its.toArray := by
    obtain ⟨o, n, e, c, d, f⟩ := p1
    exact ⟨o, e, c, n, by first | exact d | exact f⟩
  have l2 : s.heap.IsList b ([] : List Value).toArray := by
    obtain ⟨o, n, e, c, d, f⟩ := p2
    exact ⟨o, e, c, n, by first | exact d | exact f⟩
  cases its with
  | nil =>
    cases r1
    exact SeqAt.RcNeAt.lists (e := fun _ => true) l1 l2 rfl hu (fun j h1 _ => absurd h1 (by simp)) _ _ _ _ ⟨.bl false, H, I, rfl, q⟩
  | cons t ts =>
    cases r1
    exact SeqAt.RcNeAt.lists_lengths l1 l2 (by simp) hu _ _ _ _ ⟨.bl true, H, I, rfl, q⟩
theorem op_neNilK {X : Cx} {K : PySem.W.Frag} (hK : X.K = K) (hu : X.A.units < cLine) : OpR X (compareOp .NotEq) (rNeNil K) := by
  subst hK
  exact op_neNil hu
end L2
set_option Elab.async false
set_option linter.all false
set_option maxRecDepth 100000
set_option maxHeartbeats 4000000
/-! dict(a list of pairs), the keys of any flat kind or tuples of such. -/
namespace MX
open PySem PySem.Spec PySem.SeqAt PyProof.Rows L2
abbrev Tri := NestedKey × Value × Value
def allN (acc : List Tri) (rest : List Tri) : List Tri := rest.foldl (fun a q => storeN a q.1 q.2.1 q.2.2) acc
theorem storeN_len (xs : List Tri) (k : NestedKey) (v u : Value) : (storeN xs k v u).length ≤ xs.length + 1 := by
  unfold storeN
  by_cases h : k ∈ xs.map (·.1)
  · rw [if_pos h, List.length_map]
    omega
  · rw [if_neg h, List.length_append]
    exact Nat.le_refl _
section
variable {prog : Program} {w : World} {A : Around} {E : Value → Shared → Prop}
theorem DictN.moved {h h' : Heap} {d : Addr} {xs : List Tri} (m : DictN w h d xs) (hs : ∀ b o, h.get? b = some o → (∀ vs, o.data ≠ .fields vs) → h'.get? b = some o) : DictN w h' d xs := by
  obtain ⟨o, es, ep, ho, hc, hd, he, his, nd⟩ := m
  refine ⟨o, es, ep, hs _ _ ho (fun vs z => by rw [hd] at z; cases z), hc, hd, he, fun x hx => ⟨NestedIs.at (fun b ob vs n hb hc => hs b ob hb fun vs2 z => by rw [hc] at z; cases z) x.1 _ (his x hx).1, (his x hx).2⟩, nd⟩
theorem DictN.new (h : Heap) : DictN w (h.push { cls := .type "dict", data := .dict #[] }) h.objs.size [] := ⟨_, #[], 0, Heap.get?_push_size _ rfl, ⟨rfl, rfl, rfl⟩, rfl, rfl, (fun _ z => nomatch z), List.nodup_nil⟩
/-- what a pair of the list is -/
def PrN (h : Heap) (b : Addr) (q : Tri) : Prop := IsTup h b #[q.2.1, q.2.2] ∧ NestedIs h q.1 q.2.1 ∧ q.1.depth ≤ 8
theorem PrN.moved {h h' : Heap} {b : Addr} {q : Tri} (p : PrN h b q) (hs : ∀ b o, h.get? b = some o → (∀ vs, o.data ≠ .fields vs) → h'.get? b = some o) : PrN h' b q := by
  obtain ⟨⟨o, ho, hc, n, hd⟩, i, d⟩ := p
  exact ⟨⟨o, hs _ _ ho (fun vs z => by rw [hd] at z; cases z), hc, n, hd⟩, NestedIs.at (fun b ob vs n hb hc => hs b ob hb fun vs2 z => by rw [hc] at z; cases z) _ _ i, d⟩
theorem PrN.put {h h' : Heap} {d b : Addr} {q : Tri} {o : Obj} {es : Array DictEntry} {ep : Nat} (p : PrN h b q) (ho : h.get? d = some o) (hd : o.data = .dict es ep) (hs : Heap.SameBut d h h') : PrN h' b q := by
  have mv : ∀ c oc vs n, h.get? c = some oc → oc.data = .seq vs n → h'.get? c = some oc := fun c oc vs n hc hdc => hs.extBut c oc (fun e => by
    subst e
    rw [ho] at hc
    cases hc
    rw [hd] at hdc
    cases hdc) hc
  obtain ⟨⟨o2, ho2, hc2, n2, hd2⟩, i, dp⟩ := p
  exact ⟨⟨o2, mv _ _ _ _ ho2 hd2, hc2, n2, hd2⟩, NestedIs.at (fun b ob vs n hb hc => mv b ob vs n hb hc) _ _ i, dp⟩
/-- the walk over the pairs -/
theorem updN_loop {R : Result → Shared → Prop} {S I l : Addr} {items : Array Value} {res : Value} (hh : A.handled = none) (hlI : l ≠ I) (hSI : S ≠ I) (hSl : S ≠ l) (hu : A.in1.units + 8 < cLine) :
    ∀ (rest : List Tri) (i : Nat) (acc : List Tri) (ix : Int) (t : Tok) (s : Shared), items.size = i + rest.length → acc.length + rest.length ≤ sizeLine →
      (∀ (j : Nat) (q : Tri), rest[j]? = some q → ∃ b : Addr, items[i + j]? = some (.ref b) ∧ b ≠ S ∧ b ≠ I ∧ PrN s.heap b q) →
      s.heap.IsListIter I l i → s.heap.IsList l items → DictN w s.heap S acc →
      (∀ h' tk, DictN w h' S (allN acc rest) → (∀ b o, b ≠ S → b ≠ I → s.heap.get? b = some o → h'.get? b = some o) → R (.ok (.ret res)) { s with heap := h', toks := tk }) →
      codeAny (model prog w) A (.builtin "dict.update.loop" ⟨[.ref S, .ref I, .int ix t, res], []⟩) R s
  | [], i, acc, ix, t, s, hsz, hln, ht, hit, hl, hm, hR => by
    have oI := hit
    obtain ⟨oi, hoi, hci, hdi⟩ := oI
    refine codeAny_builtin ud_entry ?_
    rw [Around.under_plainId ud_plain _]
    show wpAny _ A.in1 (pyNext (.ref I) >>= _) _ _ s
    refine wpAny_bind (wpAny_pyNext_list_end (A := A.in1) hh hit hl (by first | exact Array.getElem?_eq_none (Nat.le_of_eq hsz) | (simp at hsz; simp; omega)) fun h' he => ?_)
    show wpAny _ A.in1 (Builtin.Dict.addKeywords S [] >>= _) _ _ _
    refine wpAny_bind (wpAny_pure (wpAny_pure ?_))
    exact hR h' s.toks (hm.moved fun b o hb hd => he b o (fun e => by
      subst e
      rw [hoi] at hb
      cases hb
      exact hd _ hdi) hb) fun b o _ hb e => he b o hb e
  | q :: rest, i, acc, ix, t, s, hsz, hln, ht, hit, hl, hm, hR => by
    obtain ⟨b, hb, hbS, hbI, hpr⟩ := ht 0 q rfl
    have oI := hit
    obtain ⟨oi, hoi, hci, hdi⟩ := oI
    rw [List.length_cons] at hsz hln
    refine codeAny_builtin ud_entry ?_
    rw [Around.under_plainId ud_plain _]
    show wpAny _ A.in1 (pyNext (.ref I) >>= _) _ _ s
    refine wpAny_bind (wpAny_pyNext_list_item (x := .ref b) hit hl (by simpa using hb) fun h1 hit1 hs1 => ?_)
    have mv : ∀ c oc, s.heap.get? c = some oc → (∀ vs, oc.data ≠ .fields vs) → h1.get? c = some oc := fun c oc hc hd => hs1.extBut c oc (fun e => by
      subst e
      rw [hoi] at hc
      cases hc
      exact hd _ hdi) hc
    have hpr1 : PrN h1 b q := hpr.moved mv
    have hl1 : h1.IsList l items := hl.extBut hs1.extBut hlI
    have hm1 : DictN w h1 S acc := hm.moved mv
    obtain ⟨o, ho, hc, n, hd⟩ := id hpr1.1
    show wpAny _ A.in1 (holding [Value.ref b] _ >>= _) _ _ _
    refine wpAny_bind (wpAny_holding ?_)
    refine wpAny_bind (wpAny_tryCatch ?_)
    unfold Builtin.Dict.pairItems
    refine wpAny_bind (wpAny_typeOf (T := "tuple") ⟨o, ho, hc⟩ ?_)
    rw [if_pos (by first | decide | rfl | simp)]
    refine wpAny_bind (wpAny_seqItems ho hd (wpAny_pure ?_))
    show wpAny _ A.in1 (holding [q.2.1, q.2.2] (dictSet S q.2.1 q.2.2)) _ _ _
    have oS := hm1
    obtain ⟨od, es, ep, hod, _, hdd, _⟩ := oS
    refine wpAny_holding (set_nest (s := { s with heap := h1 }) hm1 hpr1.2.1 hpr1.2.2 hu (by omega) fun h2 hm2 hs2 => ?_)
    refine wpAny_pure ⟨plainId_quiet ud_plain _, updN_loop (items := items) hh hlI hSI hSl hu rest (i + 1) (storeN acc q.1 q.2.1 q.2.2) (ix + 1) 0 _ (show items.size = i + 1 + rest.length by omega) ?_ (fun j q' e => ?_) ?_ ?_ hm2 fun h' tk hd' k => ?_⟩
    · have z := storeN_len acc q.1 q.2.1 q.2.2
      omega
    · obtain ⟨b', hb', hbS', hbI', hpr'⟩ := ht (j + 1) q' (by simpa using e)
      refine ⟨b', ?_, hbS', hbI', (hpr'.moved mv).put hod hdd hs2⟩
      rw [show i + 1 + j = i + (j + 1) by omega]
      exact hb'
    · exact hit1.at fun o' e => hs2.extBut I o' (Ne.symm hSI) e
    · exact hl1.extBut hs2.extBut (Ne.symm hSl)
    · exact hR h' tk hd' fun c oc h3 h4 e => k c oc h3 h4 (hs2.extBut c oc h3 (hs1.extBut c oc h4 e))
/-- dict(l) of a list of pairs -/
theorem call_dictN {s : Shared} {l : Addr} {ol : Obj} {items : Array Value} {n : Nat} {prs : List Tri} {Q : Value → Shared → Prop} (hu : A.in1.in1.units + 8 < cLine) (hh : A.handled = none) (hl : s.heap.get? l = some ol) (hc : ol.cls = .type "list") (hd : ol.dict = none)
    (hdat : ol.data = .seq items n) (hsz : items.size = prs.length) (hln : prs.length ≤ sizeLine)
    (ht : ∀ (j : Nat) (q : Tri), prs[j]? = some q → ∃ b : Addr, items[j]? = some (.ref b) ∧ PrN s.heap b q)
    (h : ∀ h' tk, DictN w h' s.heap.objs.size (allN [] prs) → (∀ b o, s.heap.get? b = some o → h'.get? b = some o) → Q (.ref s.heap.objs.size) { s with heap := h', toks := tk }) :
    wpAny (model prog w) A (call (.type "dict") [.ref l]) Q E s := by
  refine callType_codes (Q₁ := fun obj s₁ => obj = .ref s.heap.objs.size ∧ s₁ = { s with heap := s.heap.push { cls := .type "dict", data := .dict #[] } }) PySem.F.kt_called_dict (PySem.F.kt_typeCall_dict_1 _) PySem.F.entry_dict_init (kt_code_dict_new _ ⟨rfl, rfl⟩) ?_
  rintro obj s₁ ⟨rfl, rfl⟩
  have hnew : (s.heap.push { cls := .type "dict", data := .dict #[] }).DictOf (mixKind prog w) s.heap.objs.size [] := Heap.DictOf.new s.heap
  have hnewN : DictN w (s.heap.push { cls := .type "dict", data := .dict #[] }) s.heap.objs.size [] := DictN.new s.heap
  have k0 : ∀ b o, s.heap.get? b = some o → (s.heap.push { cls := .type "dict", data := .dict #[] }).get? b = some o := fun b o e => Heap.get?_push_of_some _ e
  refine ⟨hnew.typeIs, PySem.F.args_dict_init_2 _ _, ?_⟩
  unfold Builtin.«dict.__init__»
  refine wpAny_bind ?_
  unfold Builtin.Dict.selfAndRest
  refine wpAny_bind (wpAny_notOrdered_dict hnew.typeIs ?_)
  show wpAny _ _ (pure (s.heap.objs.size, [Value.ref l])) _ _ _
  refine wpAny_pure ?_
  show wpAny _ _ (Builtin.Dict.updateFrom "dict.__init__" s.heap.objs.size (.ref l) [] .none) _ _ _
  unfold Builtin.Dict.updateFrom
  refine wpAny_bind (wpAny_typeOf (T := "list") ⟨ol, k0 _ _ hl, hc⟩ ?_)
  rw [if_pos (by first | decide | rfl | simp)]
  refine wpAny_bind (miss_list (k0 _ _ hl) hc hdat hd hh fun h1 tk1 hk1 => ?_)
  rw [if_pos (show (none : Option Value).isNone = true from rfl)]
  refine wpAny_bind (wpAny_rule ?_)
  have hl1 : h1.IsList l items := ⟨ol, hk1 _ _ (k0 _ _ hl), hc, n, hdat⟩
  have hS1 : s.heap.objs.size < h1.objs.size := by
    have e : (s.heap.push { cls := .type "dict", data := .dict #[] }).get? s.heap.objs.size = some { cls := .type "dict", data := .dict #[] } := Heap.get?_push_size _ rfl
    exact Heap.lt_size (hk1 _ _ e)
  refine wpAny_bind (wpAny_pyIter_list hl1 ?_)
  have k2 : ∀ b o, h1.get? b = some o → (h1.push { cls := .type "list_iterator", data := .fields #[.ref l, .int 0 0] }).get? b = some o := fun b o e => Heap.get?_push_of_some _ e
  have hlt : l < s.heap.objs.size := Heap.lt_size hl
  have key := updN_loop (prog := prog) (w := w) (A := A.in1) (R := wants (fun r s₂ => r = .none ∧ Q (.ref s.heap.objs.size) s₂) E) (S := s.heap.objs.size) (I := h1.objs.size) (l := l) (items := items) (res := Value.none) hh
    (Nat.ne_of_lt (Nat.lt_trans hlt hS1)) (Nat.ne_of_lt hS1) (Nat.ne_of_gt hlt) hu prs 0 [] 0 0
    { s with heap := h1.push { cls := .type "list_iterator", data := .fields #[.ref l, .int 0 0] }, toks := tk1 } (by rw [hsz, Nat.zero_add]) (by rw [List.length_nil, Nat.zero_add]; exact hln)
    (fun j q e => by
      obtain ⟨b, e1, e2⟩ := ht j q e
      have hb : b < s.heap.objs.size := e2.1.lt
      exact ⟨b, by rw [Nat.zero_add]; exact e1, Nat.ne_of_lt hb, Nat.ne_of_lt (Nat.lt_trans hb hS1), e2.moved fun c o z _ => k2 _ _ (hk1 _ _ (k0 _ _ z))⟩)
    ⟨_, Heap.get?_push_size _ rfl, rfl, rfl⟩ (hl1.at fun o e => k2 _ _ e) (hnewN.moved fun b o e _ => k2 _ _ (hk1 _ _ e))
    (fun h' tk hd' k => ⟨rfl, h h' tk hd' fun b o e => k b o (Nat.ne_of_lt (Heap.lt_size e)) (Nat.ne_of_lt (Nat.lt_trans (Heap.lt_size e) hS1)) (k2 _ _ (hk1 _ _ (k0 _ _ e)))⟩)
  first
    | exact wpAny_pure ⟨plainId_quiet ud_plain _, key⟩
    | exact wpAny_bind (wpAny_pure (wpAny_pure ⟨plainId_quiet ud_plain _, key⟩))
end
end MX
namespace L2
open PySem PySem.Spec PyProof.Rows MX
/-- the pairs of a row, each a key and what stands under it -/
abbrev TriV := NestedKey × V × V
def putAll (acc : List TriV) (qs : List TriV) : List TriV := qs.foldl (fun a q => putM a q.1 q.2.1 q.2.2) acc
theorem putAll_len : ∀ (qs acc : List TriV), (putAll acc qs).length ≤ acc.length + qs.length
  | [], acc => Nat.le_refl _
  | q :: qs, acc => by
    have z := putAll_len qs (putM acc q.1 q.2.1 q.2.2)
    have y := putM_len acc q.1 q.2.1 q.2.2
    have e : putAll acc (q :: qs) = putAll (putM acc q.1 q.2.1 q.2.2) qs := rfl
    rw [e, List.length_cons]
    omega
theorem PairM.putAll : ∀ {qs : List TriV} {rs : List Tri} {acc : List TriV} {bcc : List Tri}, PairM qs rs → PairM acc bcc → PairM (putAll acc qs) (allN bcc rs)
  | _, _, acc, bcc, .nil, h => h
  | _, _, acc, bcc, .cons (a := q) (b := r) (l₁ := qs) (l₂ := rs) e t, h => by
    have e1 : L2.putAll acc (q :: qs) = L2.putAll (putM acc q.1 q.2.1 q.2.2) qs := rfl
    have e2 : allN bcc (r :: rs) = allN (storeN bcc r.1 r.2.1 r.2.2) rs := rfl
    rw [e1, e2]
    refine PairM.putAll t ?_
    rw [← e.1]
    exact PairM.put h e.2.1 e.2.2
section
variable {X : Cx}
theorem tris_of {pins : List (Addr × Obj)} {σ : St} {H : Hp} {s : Shared} (I : Inv X pins σ H s) : ∀ {ps : List Addr} {kvs : List TriV}, Paired (fun p kv => SqT X.K H p [kv.2.1, kv.2.2] ∧ KeyV H kv.1 kv.2.1) ps kvs →
    ∃ prs : List Tri, PairM kvs prs ∧ prs.length = ps.length ∧ ∀ (j : Nat) (q : Tri), prs[j]? = some q → ∃ b : Addr, ps[j]? = some b ∧ PrN s.heap b q
  | _, _, .nil => ⟨[], .nil, rfl, fun j q e => by simp at e⟩
  | _, _, .cons (a := p) (b := kv) h t => by
    obtain ⟨prs, r, hl, hp⟩ := tris_of I t
    obtain ⟨its, rv, ht, _⟩ := I.tuple h.1
    obtain ⟨u, y, ei, ru, ry⟩ := vals2 rv
    subst ei
    have z := h.2.is I ru
    refine ⟨(kv.1, u, y) :: prs, .cons ⟨rfl, ru, ry⟩ r, by rw [List.length_cons, List.length_cons, hl], fun j q e => ?_⟩
    cases j with
    | zero =>
      have e' : (kv.1, u, y) = q := Option.some.inj e
      subst e'
      exact ⟨p, rfl, ht, z.1, z.2⟩
    | succ j =>
      obtain ⟨b, e1, e2⟩ := hp j q (by simpa using e)
      exact ⟨b, by simpa using e1, e2⟩
/-- dict(xs) of a list of pairs (key, value) -/
def cDictM (X : Cx) : List V → Hp → VK → Prop := fun xs H Q => ∃ (a : Addr) (ps : List Addr) (kvs : List TriV), xs = [.ref a] ∧ SqL X.K H a (ps.map V.ref) ∧ Paired (fun p kv => SqT X.K H p [kv.2.1, kv.2.2] ∧ KeyV H kv.1 kv.2.1) ps kvs ∧
    ∀ p, H p = none → Q (.ref p) (upd H p (MixO X.w p (putAll [] kvs)))
theorem call_dictM (hcalm : X.calm = true) (hu : X.A.units + 10 < cLine) : CallR X (.type "dict") (cDictM X) := by
  intro pins s σ H xs us Q I r q
  obtain ⟨a, ps, kvs, ex, hq, hp, q⟩ := q
  subst ex
  obtain ⟨u, eu, rx⟩ := vals1 r
  subst eu
  cases rx
  obtain ⟨its, rv, pl, hz⟩ := I.list hq
  have ei := refs_at rv
  subst ei
  rw [List.length_map] at hz
  obtain ⟨prs, rel, hl, hpr⟩ := tris_of I hp
  obtain ⟨o, n, ho, hc, hd, hdat⟩ := pl
  refine call_dictN (prs := prs) (by show X.A.units + 1 + 1 + 8 < cLine; omega) (I.ok.hd hcalm) ho hc hd hdat (by simp [hl]) (by rw [hl]; exact hz) (fun j q' e => ?_) fun h' tk hd' k => ?_
  · obtain ⟨b, e1, e2⟩ := hpr j q' e
    exact ⟨b, by simp [e1], e2⟩
  · have hm : (s.heap.objs.size == sysModules) = false := beq_eq_false_iff_ne.mpr (Nat.ne_of_gt I.big)
    have hlen : (putAll [] kvs).length ≤ sizeLine := by
      refine Nat.le_trans (putAll_len kvs []) ?_
      rw [List.length_nil, Nat.zero_add, PairM.len rel, hl]
      exact hz
    obtain ⟨od, es, ep, h1, h2, h3, h4, _, h5⟩ := hd'
    exact ⟨.ref s.heap.objs.size, upd H s.heap.objs.size (MixO X.w s.heap.objs.size (putAll [] kvs)), I.laid (t' := tk) k (Nat.le_refl _) (mix_ok hlen hm (PairM.putAll rel .nil) ⟨od, es, ep, h1, h2, h3, h4, h5⟩), rfl, q _ (I.hok.fresh (Nat.le_refl _))⟩
end
end L2
set_option Elab.async false
set_option linter.all false
set_option maxRecDepth 100000
set_option maxHeartbeats 4000000
/-! Dicts whose keys are None and tuples: read while they are gone over; one pair displayed; not in. -/
namespace L2
open PySem PySem.Spec PyProof.Rows MX
/-- such a dict, locked or not -/
structure MixR (w : World) (H : Hp) (a : Addr) (kvs : List (NestedKey × V × V)) : Prop where
  rd : Rd H a (MixO w a kvs)
  keys : ∀ p ∈ kvs, KeyV H p.1 p.2.1
theorem MixD.rd {w : World} {H : Hp} {a : Addr} {kvs : List (NestedKey × V × V)} (m : MixD w H a kvs) : MixR w H a kvs := ⟨.inl m.at_, m.keys⟩
theorem MixR.same {w : World} {H H2 : Hp} {a : Addr} {kvs : List (NestedKey × V × V)} (m : MixR w H a kvs) (s : Same H H2) : MixR w H2 a kvs :=
  ⟨m.rd.imp (fun h => s _ _ h) fun ⟨o, h⟩ => ⟨o, s _ _ h⟩, fun p hp => (m.keys p hp).same s⟩
section
variable {X : Cx} {pins : List (Addr × Obj)} {σ : St} {H : Hp} {s : Shared} {k : NestedKey} {x v : V} {u r : Value} {a : Addr} {kvs : List (NestedKey × V × V)} {A : Around} {E : Value → Shared → Prop}
theorem MixR.dict (I : Inv X pins σ H s) (m : MixR X.w H a kvs) : kvs.length ≤ sizeLine ∧ (a == sysModules) = false ∧ ∃ xs, PairM kvs xs ∧ DictN X.w s.heap a xs := by
  obtain ⟨⟨few, hd, xs, p, o, es, ep, h1, h2, h3, h4, h5⟩, _, _⟩ := (show ObjOk X.prog X.w H s.heap a (MixO X.w a kvs) from m.rd.ok I.hok)
  refine ⟨few, hd, xs, p, o, es, ep, h1, h2, h3, h4, PairM.keysN p I m.keys, h5⟩
theorem r_getItem {Q : Value → Shared → Prop} (hu : A.in1.units + 8 < cLine) (I : Inv X pins σ H s) (m : MixR X.w H a kvs) (hk : KeyV H k x) (rx : RelV x u) (l : atM kvs k = some v) (h : ∀ w' s', Inv X pins σ H s' → RelV v w' → Q w' s') :
    wpAny (model X.prog X.w) A (getItem (.ref a) u) Q E s := by
  obtain ⟨few, hd, xs, p, D⟩ := m.dict I
  have z := hk.is I rx
  obtain ⟨w', hw, rw'⟩ := RelO.some_of (v := v) (o := atN xs k) (by rw [← l]; exact PairM.at p k)
  exact getItem_nest D z.1 z.2 hu hw (h w' _ (I.tok _) rw')
theorem r_contains {Q : Bool → Shared → Prop} (hu : A.in1.units + 8 < cLine) (I : Inv X pins σ H s) (m : MixR X.w H a kvs) (hk : KeyV H k x) (rx : RelV x u) (h : ∀ s', Inv X pins σ H s' → Q (atM kvs k).isSome s') :
    wpAny (model X.prog X.w) A (contains (.ref a) u) Q E s := by
  obtain ⟨few, hd, xs, p, D⟩ := m.dict I
  have z := hk.is I rx
  refine contains_nest D hd z.1 z.2 hu ?_
  rw [← (PairM.at p k).isSome_eq]
  exact h _ (I.tok _)
def rGetR (w : World) : V → V → Hp → VK → Prop := fun o i H Q => ∃ (a : Addr) (kvs : List (NestedKey × V × V)) (k : NestedKey) (v : V), o = .ref a ∧ MixR w H a kvs ∧ KeyV H k i ∧ atM kvs k = some v ∧ Q v H
theorem get_mixR {w : World} (hw : X.w = w) (hu : X.A.units + 9 < cLine) : PGet X (rGetR w) := by
  subst hw
  intro pins s σ H o i ov iv Q I ro ri h
  obtain ⟨a, kvs, k, v, rfl, m, hk, l, q⟩ := h
  obtain rfl : ov = Value.ref a := ro
  exact r_getItem (by show X.A.units + 1 + 8 < cLine; omega) I m hk ri l fun w' s' I' rw' => ⟨v, H, I', rw', q⟩
def rNotInR (w : World) : R2 := fun x y H Q => ∃ (a : Addr) (kvs : List (NestedKey × V × V)) (k : NestedKey), y = .ref a ∧ MixR w H a kvs ∧ KeyV H k x ∧ Q (.bl (!(atM kvs k).isSome)) H
theorem op_notIn_mixR {w : World} (hw : X.w = w) (hu : X.A.units + 9 < cLine) : OpR X (compareOp .NotIn) (rNotInR w) := by
  subst hw
  intro pins s σ H x y v u Q I rx ry h
  obtain ⟨a, kvs, k, rfl, m, hk, q⟩ := h
  obtain rfl : u = Value.ref a := ry
  show wpAny _ _ (do return Value.bool (!(← contains (Value.ref a) v))) _ _ s
  exact wpAny_bind (r_contains (by show X.A.units + 1 + 8 < cLine; omega) I m hk rx fun s' I' => wpAny_pure ⟨.bl (!(atM kvs k).isSome), H, I', rfl, q⟩)
theorem set_mixW {w : World} (hw : X.w = w) (hu : X.A.units + 9 < cLine) : PSet X (rSetM w) := by
  subst hw
  exact set_mix hu
theorem pi_keysW {w : World} {tg e : Expr} {td : TE} (hw : X.w = w) (he : PE X e td) : PI X tg e (iKeysX w td) := by
  subst hw
  exact pi_keysX he
/-- {k: v} -/
def tDispM (w : World) (tk tv : TE) : TE := fun σ H Q => ∀ p, H p = none → tPairs [(tk, tv)] σ (upd H p (MixO w p [])) fun ps H2 => H2 p = some (MixO w p []) ∧ ∃ (k : NestedKey) (x y : V), ps = [(x, y)] ∧ KeyV H2 k x ∧ Q (.ref p) (upd H2 p (MixO w p (putM [] k x y)))
theorem mix_new (I : Inv X pins σ H s) : Inv X pins σ (upd H s.heap.objs.size (MixO X.w s.heap.objs.size [])) { s with heap := s.heap.push { cls := .type "dict", data := .dict #[] } } :=
  I.laid (a := s.heap.objs.size) (o := MixO X.w s.heap.objs.size []) (t' := s.toks) (fun _ _ q => Heap.get?_push_of_some _ q) (Nat.le_refl _)
    (mix_ok (xs := []) (Nat.zero_le _) (beq_eq_false_iff_ne.mpr (Ne.symm (Nat.ne_of_lt I.big))) .nil ⟨_, #[], 0, Heap.get?_push_size _ rfl, ⟨rfl, rfl, rfl⟩, rfl, rfl, List.nodup_nil⟩)
theorem pe_dispM {pos : Pos} {k v : Expr} {tk tv : TE} {w : World} (hw : X.w = w) (hu : X.A.units + 9 < cLine) (h : PPs X pos [some k] [v] [(tk, tv)]) : PE X (.Dict [some k] [v] pos) (tDispM w tk tv) := by
  subst hw
  refine ⟨fun pins s σ H Q I q => ?_⟩
  have hn := I.hok.fresh (Nat.le_refl s.heap.objs.size)
  have I1 := mix_new I
  rw [arm_eval_Dict, zip_pairTrees [some k] [v] X.env pos rfl rfl, dictDisplay_pairs _ (by intro z; cases z) (by show 1 < 17; decide)]
  refine wpAny_bind (wpAny_standAt (wpAny_bind ?_))
  unfold subDict
  refine wpAny_bind (wpAny_alloc ?_)
  refine wpAny_bind (wpAny_holding ?_)
  rw [if_pos (show (pairTrees [some k] [v] X.env pos).length ≤ 15 from by show 1 ≤ 15; decide)]
  refine wpAny_bind (thn (h.run pins _ σ _ _ I1 (q _ hn)) fun vs s2 ⟨ps, H2, I2, rel, e, kk, b, y, ep, eb, q2⟩ => ?_)
  subst ep
  obtain ⟨⟨u1, u2⟩, rfl, r1, r2⟩ : ∃ w : Value × Value, vs = [w] ∧ RelV b w.1 ∧ RelV y w.2 := by
    cases rel with
    | cons r t =>
      cases t
      exact ⟨_, rfl, r.1, r.2⟩
  refine wpAny_holding ?_
  rw [List.forIn_cons]
  refine wpAny_bind (wpAny_bind ?_)
  show wpAny _ _ (do dictSet s.heap.objs.size u1 u2; pure (ForInStep.yield PUnit.unit)) _ _ _
  have m0 : MixD X.w H2 s.heap.objs.size [] := ⟨e, fun p hp => nomatch hp⟩
  obtain ⟨few, hd, xs, p, D⟩ := m0.dict I2
  have z := eb.is I2 r1
  refine wpAny_bind (set_nest D z.1 z.2 (show X.A.units + 8 < cLine by omega) (by rw [← PairM.len p]; exact few) fun h' D' hs => ?_)
  refine wpAny_pure ?_
  dsimp only
  rw [List.forIn_nil]
  refine wpAny_pure ?_
  refine wpAny_pure ?_
  refine wpAny_pure ?_
  obtain ⟨o, es, ep, e1, e2, e3, e4, _, e5⟩ := D'
  refine wpAny_pure ⟨.ref s.heap.objs.size, _, ?_, rfl, q2⟩
  exact d_write I2 (by rw [e]; exact True.intro) hs ⟨o, e1⟩ (mix_ok (by have := putM_len [] kk b y; exact Nat.le_trans this (by decide)) hd (PairM.put p r1 r2) ⟨o, es, ep, e1, e2, e3, e4, e5⟩)
end
end L2
set_option Elab.async false
set_option linter.all false
set_option maxRecDepth 100000
set_option maxHeartbeats 8000000
set_option pp.maxSteps 900
/-! The law's own leads, rows and steps. -/
namespace V8
open PySem PySem.Spec PyProof.Rows L2 MZ MX
abbrev s__law_lead : Stmt := topS 79
theorem sc__law_lead : FnScope ["_law_one", "_law_other"] ["_law_one", "_law_other"] (defScope s__law_lead) := ⟨rfl, rfl, rfl, by decide +kernel, rfl, by decide +kernel, by decide +kernel⟩
abbrev s__law_taken : Stmt := topS 80
theorem sc__law_taken : FnScope ["_law_rows", "_law_side", "_law_label"] ["_law_rows", "_law_side", "_law_label"] (defScope s__law_taken) := ⟨rfl, rfl, rfl, by decide +kernel, rfl, by decide +kernel, by decide +kernel⟩
abbrev s__law_steps : Stmt := topS 76
abbrev n__law_steps : List Str := ["_law_rest", "_law_one", "_law_two", "_law_side", "_law_more", "_law_word", "_law_label"]
theorem sc__law_steps : FnScope ["_law_rest", "_law_one", "_law_two", "_law_side", "_law_more", "_law_word", "_law_label"] ["_law_rest", "_law_one", "_law_two"] (defScope s__law_steps) := ⟨rfl, rfl, rfl, by decide +kernel, rfl, by decide +kernel, by decide +kernel⟩
theorem u9 {j : Nat} {A : Around} (r : Room j A) : A.units + 9 < cLine := by
  have := r.units
  omega
theorem hu65 {j : Nat} {A : Around} (r : Room j A) : A.units + 65 < cLine := by
  have := r.un
  omega
theorem hu10_of {A : Around} {k : Nat} (hr : Room k A) : A.units + 10 < cLine := by
  have := hr.units
  omega
theorem op_inDK {X : Cx} {K : PySem.W.Frag} (hK : X.K = K) (hu : X.A.units + 65 < cLine) : OpR X (compareOp .In) (rInD K) := by
  subst hK
  exact op_inD hu
theorem op_notInDK {X : Cx} {K : PySem.W.Frag} (hK : X.K = K) (hu : X.A.units + 65 < cLine) : OpR X (compareOp .NotIn) (rNotInD K) := by
  subst hK
  exact op_notInD hu
/-- a lead, or none -/
def LeadV (H : Hp) (v : V) : Option (Bool × List Nat) → Prop
  | none => v = .non
  | some k => ∃ c, v = .ref c ∧ H c = some (.tup [.str (sideS k.1), .str (Sx k.2)])
theorem LeadV.same {H H' : Hp} {v : V} {k : Option (Bool × List Nat)} (h : LeadV H v k) (s : Same H H') : LeadV H' v k := by
  cases k with
  | none => exact h
  | some k =>
    obtain ⟨c, e, hc⟩ := h
    exact ⟨c, e, s _ _ hc⟩
def spLeadL : Sp := fun vs H Q _ => ∃ a b : List Nat, vs = [.str (Sx a), .str (Sx b)] ∧ a.length ≤ 2000 ∧ b.length ≤ 2000 ∧ ∀ v H', Same H H' → LeadV H' v (lead (a, b)) → Q v H'
/-- rows of two -/
def RowV (H : Hp) (v : V) (w : List Nat × List Nat) : Prop := ∃ c, v = .ref c ∧ H c = some (.tup [.str (Sx w.1), .str (Sx w.2)])
theorem RowV.same {H H' : Hp} {v : V} {w : List Nat × List Nat} (h : RowV H v w) (s : Same H H') : RowV H' v w := by
  obtain ⟨c, e, hc⟩ := h
  exact ⟨c, e, s _ _ hc⟩
def spTaken : Sp := fun vs H Q _ => ∃ (v : V) (w : List Nat × List Nat) (t : Bool) (l : Nat), vs = [v, .str (sideS t), .str (L1 l)] ∧ RowV H v w ∧ w.1.length ≤ 2000 ∧ w.2.length ≤ 2000 ∧ ∀ v' H', Same H H' → RowV H' v' (put t l w) → Q v' H'
/-- a goal: no rest at an end -/
def GoalV (H : Hp) (v : V) : Pl → Prop
  | .start => False
  | .fin => v = .non
  | .rest a r => ∃ c, v = .ref c ∧ H c = some (.tup [.str (sideS a), .str (Sx r)])
theorem GoalV.same {H H' : Hp} {v : V} {p : Pl} (h : GoalV H v p) (s : Same H H') : GoalV H' v p := by
  cases p with
  | start => exact h
  | fin => exact h
  | rest a r =>
    obtain ⟨c, e, hc⟩ := h
    exact ⟨c, e, s _ _ hc⟩
/-- a step -/
def StV (H : Hp) (v : V) (m : Mo) : Prop := ∃ c g, v = .ref c ∧ H c = some (.tup [.str (sideS m.1), .str (L1 m.2.1), g]) ∧ GoalV H g m.2.2
theorem StV.same {H H' : Hp} {v : V} {m : Mo} (h : StV H v m) (s : Same H H') : StV H' v m := by
  obtain ⟨c, g, e, hc, hg⟩ := h
  exact ⟨c, g, e, s _ _ hc, hg.same s⟩
/-- a list of steps -/
def StL (H : Hp) (b : Addr) (ms : List Mo) : Prop := ∃ vs, H b = some (.lst vs) ∧ Paired (StV H) vs ms
theorem StL.same {H H' : Hp} {b : Addr} {ms : List Mo} (h : StL H b ms) (s : Same H H') : StL H' b ms := by
  obtain ⟨vs, h1, h2⟩ := h
  exact ⟨vs, s _ _ h1, prd_imp h2 fun _ _ r => r.same s⟩
/-- where steps are asked from -/
def FromV (H : Hp) (v : V) : Pl → Prop
  | .start => v = .non
  | .fin => False
  | .rest a r => ∃ c, v = .ref c ∧ H c = some (.tup [.str (sideS a), .str (Sx r)])
theorem FromV.same {H H' : Hp} {v : V} {p : Pl} (h : FromV H v p) (s : Same H H') : FromV H' v p := by
  cases p with
  | start => exact h
  | fin => exact h
  | rest a r =>
    obtain ⟨c, e, hc⟩ := h
    exact ⟨c, e, s _ _ hc⟩
/-- pairs of words and labels, few and short -/
structure PrS (P : List Pr) : Prop where
  few : P.length ≤ 30
  word : ∀ q ∈ P, q.1.length ≤ 64 ∧ ∀ c ∈ q.1, isLt c
def spSteps : Sp := fun vs H Q _ => ∃ (v : V) (a b : Addr) (p : Pl) (P S : List Pr), vs = [v, .ref a, .ref b] ∧ FromV H v p ∧ (∀ x r, p = .rest x r → r.length ≤ 64) ∧ PrL H a P ∧ PrL H b S ∧ PrS P ∧ PrS S ∧ ∀ d H', H d = none → Same H H' → StL H' d (moves P S p) → Q (.ref d) H'
theorem side_eq (a b : Bool) : decide (V.str (sideS a) = V.str (sideS b)) = decide (a = b) := by
  cases a <;> cases b <;> decide +kernel
section
variable {P : Program} {w : World} {K : PySem.W.Frag} {mg : Str → Option Value} {base : Heap} {CM CJ : Addr}
theorem ok_leadL {f : Addr} {fd : FuncData} (F : Fun K "_law_lead" "_law_lead" s__law_lead f fd) (T : Tz K mg CM CJ) : FnOk P w K mg base CX0 1 f fd ["_law_one", "_law_other"] spLeadL := by
  refine F.ok sc__law_lead (fun vs H Q E h => ?_) (fun cdv A outer s H vs Q E hr h => ?_)
  · obtain ⟨a, b, rfl, _⟩ := h
    rfl
  · obtain ⟨a, b, rfl, la, lb, q⟩ := h
    refine ⟨_, (pss_cons (ps_if (pt_cmpR op_eq (pe_slice sl_str (pv 0) po_none (po_some (pe_callB call_len_str (by rfl) T.len (by decide +kernel) (pa_cons (pv 1) pa_nil)))) (pv 1) (nomark _))
        (pss_one (ps_ret (pe_tup (pa_cons pe_str (pa_cons (pe_slice sl_str (pv 0) (po_some (pe_callB call_len_str (by rfl) T.len (by decide +kernel) (pa_cons (pv 1) pa_nil))) po_none) pa_nil)))))
        pss_nil)
      (pss_one (ps_ret (pe_ifExp (pt_cmpR op_eq (pe_slice sl_str (pv 1) po_none (po_some (pe_callB call_len_str (by rfl) T.len (by decide +kernel) (pa_cons (pv 0) pa_nil)))) (pv 0) (nomark _)) (pe_tup (pa_cons pe_str (pa_cons (pe_slice sl_str (pv 1) (po_some (pe_callB call_len_str (by rfl) T.len (by decide +kernel) (pa_cons (pv 0) pa_nil))) po_none) pa_nil))) pe_non)))), ?_⟩
    have za : (Sx a).length ≤ sizeLine := by rw [Sx_len, sizeLine_eq]; omega
    have zb : (Sx b).length ≤ sizeLine := by rw [Sx_len, sizeLine_eq]; omega
    refine ⟨_, rfl, _, rfl, _, rfl, zb, _, rfl, _, rfl, za, _, rfl, rfl, _, rfl, ?_⟩
    rw [Sx_len, cut_take, Sx_eq]
    by_cases h : a.take b.length = b
    · have e : lead (a, b) = some (true, a.drop b.length) := by
        unfold lead
        rw [if_pos (List.isPrefixOf_iff_prefix.mpr ⟨a.drop b.length, by have z := List.take_append_drop b.length a; rw [h] at z; exact z⟩)]
      rw [e] at q
      rw [decide_eq_true h]
      refine iteT ⟨_, rfl, _, rfl, _, rfl, zb, _, rfl, _, rfl, za, by show 2 ≤ sizeLine; decide, fun c nc => ?_⟩
      rw [Sx_len, cut_drop]
      exact q _ _ (same_put (s := Same.refl H) nc) ⟨c, rfl, upd_same⟩
    · have np : ¬ (b.isPrefixOf a = true) := fun z => by
        obtain ⟨d, hd⟩ := List.isPrefixOf_iff_prefix.mp z
        exact h (by rw [← hd, List.take_left])
      rw [decide_eq_false h]
      refine iteF ⟨_, rfl, _, rfl, _, rfl, za, _, rfl, _, rfl, zb, _, rfl, rfl, _, rfl, ?_⟩
      rw [Sx_len, cut_take, Sx_eq]
      by_cases h2 : b.take a.length = a
      · have e : lead (a, b) = some (false, b.drop a.length) := by
          unfold lead
          rw [if_neg np, if_pos (List.isPrefixOf_iff_prefix.mpr ⟨b.drop a.length, by have z := List.take_append_drop a.length b; rw [h2] at z; exact z⟩)]
        rw [e] at q
        rw [decide_eq_true h2]
        refine iteT ⟨_, rfl, _, rfl, _, rfl, za, _, rfl, _, rfl, zb, by show 2 ≤ sizeLine; decide, fun c nc => ?_⟩
        rw [Sx_len, cut_drop]
        exact q _ _ (same_put (s := Same.refl H) nc) ⟨c, rfl, upd_same⟩
      · have np2 : ¬ (a.isPrefixOf b = true) := fun z => by
          obtain ⟨d, hd⟩ := List.isPrefixOf_iff_prefix.mp z
          exact h2 (by rw [← hd, List.take_left])
        have e : lead (a, b) = none := by
          unfold lead
          rw [if_neg np, if_neg np2]
        rw [e] at q
        rw [decide_eq_false h2]
        exact iteF (q _ _ (Same.refl H) rfl)
theorem ok_taken {f : Addr} {fd : FuncData} (F : Fun K "_law_taken" "_law_taken" s__law_taken f fd) (T : Tz K mg CM CJ) : FnOk P w K mg base CX0 1 f fd ["_law_rows", "_law_side", "_law_label"] spTaken := by
  refine F.ok sc__law_taken (fun vs H Q E h => ?_) (fun cdv A outer s H vs Q E hr h => ?_)
  · obtain ⟨v, w, t, l, rfl, _⟩ := h
    rfl
  · obtain ⟨v, w2, t, l, rfl, ⟨c, rfl, hc⟩, l1, l2, q⟩ := h
    refine ⟨_, (pss_one (ps_ret (pe_ifExp (pt_cmpR op_eq (pv 1) pe_str (nomark _)) (pe_tup (pa_cons (pe_op op_add_str (pe_ix (ix_tupK (K := K) rfl) (pv 0) pe_int (fun _ _ => rfl)) (pv 2)) (pa_cons (pe_ix (ix_tupK (K := K) rfl) (pv 0) pe_int (fun _ _ => rfl)) pa_nil))) (pe_tup (pa_cons (pe_ix (ix_tupK (K := K) rfl) (pv 0) pe_int (fun _ _ => rfl)) (pa_cons (pe_op op_add_str (pe_ix (ix_tupK (K := K) rfl) (pv 0) pe_int (fun _ _ => rfl)) (pv 2)) pa_nil)))))), ?_⟩
    have e : (V.str "one") = V.str (sideS true) := rfl
    refine ⟨_, rfl, rfl, _, rfl, ?_⟩
    rw [e, side_eq]
    cases t with
    | true =>
      refine iteT ⟨_, rfl, c, _, _, _, rfl, rfl, .inl (.inl hc), atI_nat (j := 0) rfl, _, rfl, _, _, rfl, rfl, by rw [Sx_len, sizeLine_eq]; show _ + 1 ≤ _; omega, _, rfl, c, _, _, _, rfl, rfl, .inl (.inl hc), atI_nat (j := 1) rfl, by show 2 ≤ sizeLine; decide, fun p np => ?_⟩
      exact q _ _ (same_put (s := Same.refl H) np) ⟨p, rfl, by rw [upd_same]; show some (HO.tup [.str (Sx w2.1 ++ Sx [l]), _]) = _; rw [Sx_app]; rfl⟩
    | false =>
      refine iteF ⟨_, rfl, c, _, _, _, rfl, rfl, .inl (.inl hc), atI_nat (j := 0) rfl, _, rfl, c, _, _, _, rfl, rfl, .inl (.inl hc), atI_nat (j := 1) rfl, _, rfl, _, _, rfl, rfl, by rw [Sx_len, sizeLine_eq]; show _ + 1 ≤ _; omega, by show 2 ≤ sizeLine; decide, fun p np => ?_⟩
      exact q _ _ (same_put (s := Same.refl H) np) ⟨p, rfl, by rw [upd_same]; show some (HO.tup [_, .str (Sx w2.2 ++ Sx [l])]) = _; rw [Sx_app]; rfl⟩
end
end V8
set_option Elab.async false
set_option linter.all false
set_option maxRecDepth 100000
set_option maxHeartbeats 8000000
set_option pp.maxSteps 900
/-! The law's own steps. -/
namespace V8
open PySem PySem.Spec PyProof.Rows L2 MZ MX
theorem StV.put {H : Hp} {v : V} {m : Mo} {D : Addr} {ys : List V} {o : HO} (h : StV H v m) (hD : H D = some (.lst ys)) : StV (upd H D o) v m := by
  obtain ⟨c, g, e, hc, hg⟩ := h
  refine ⟨c, g, e, by rw [upd_ne (ne_of hc hD (fun z => nomatch z))]; exact hc, ?_⟩
  cases h2 : m.2.2 with
  | start => rw [h2] at hg; exact hg
  | fin => rw [h2] at hg; exact hg
  | rest a r =>
    rw [h2] at hg
    obtain ⟨d, e2, hd⟩ := hg
    exact ⟨d, e2, by rw [upd_ne (ne_of hd hD (fun z => nomatch z))]; exact hd⟩
theorem take_pre {w r : List Nat} : decide (r.take w.length = w) = w.isPrefixOf r := by
  by_cases h : r.take w.length = w
  · rw [decide_eq_true h]
    exact (List.isPrefixOf_iff_prefix.mpr ⟨r.drop w.length, by have z := List.take_append_drop w.length r; rw [h] at z; exact z⟩).symm
  · rw [decide_eq_false h]
    refine (Bool.eq_false_iff.mpr fun z => ?_).symm
    obtain ⟨d, hd⟩ := List.isPrefixOf_iff_prefix.mp z
    exact h (by rw [← hd, List.take_left])
section
variable {P : Program} {w : World} {K : PySem.W.Frag} {mg : Str → Option Value} {base : Heap} {CM CJ : Addr}
theorem ok_steps {f : Addr} {fd : FuncData} (F : Fun K "_law_steps" "_law_steps" s__law_steps f fd) (T : Tz K mg CM CJ) : FnOk P w K mg base CX0 1 f fd ["_law_rest", "_law_one", "_law_two"] spSteps := by
  refine F.ok sc__law_steps (fun vs H Q E h => ?_) (fun cdv A outer s H vs Q E hr h => ?_)
  · obtain ⟨v, a, b, p, P, S, rfl, _⟩ := h
    rfl
  · obtain ⟨v, a1, b1, p, P1, S1, rfl, fv, r64, hP, hS, okP, okS, q⟩ := h
    refine ⟨_, (pss_cons (ps_if (pt_cmpR op_isN (pv 0) pe_non (nomark _))
        (pss_one (ps_ret (pe_lc (own := [("_law_word", 5), ("_law_label", 6)]) (g := gTup K 2 (gCons (gName 5) (gCons (gName 6) gNil))) (by rfl) sc__law_steps.nd (pi_list (pv 1)) (blkOk_by (own := [("_law_word", 5), ("_law_label", 6)]) (N := n__law_steps) (sc := defScope s__law_steps) (by decide +kernel)) (fun _ _ _ _ _ => (pg_tup (by rfl) (pgs_cons (pg_name (i := 5) sc__law_steps.nd rfl (.inl rfl)) (pgs_cons (pg_name (i := 6) sc__law_steps.nd rfl (.inl rfl)) pgs_nil)))) (fun _ _ _ _ _ => pts_nil) (fun _ _ _ _ _ => (pe_tup (pa_cons pe_str (pa_cons (pv 6) (pa_cons (pe_tup (pa_cons pe_str (pa_cons (pv 5) pa_nil))) pa_nil))))))))
        pss_nil)
      (pss_cons (ps_par (i := 3) (j := 4) (by rfl) sc__law_steps.nd rfl rfl (by decide) rfl rfl (pa_cons (pe_ifExp (pt_cmpR op_eq (pe_ix (ix_tupK (K := K) rfl) (pv 0) pe_int (fun _ _ => rfl)) pe_str (nomark _)) pe_str pe_str) (pa_cons (pe_lst pa_nil) pa_nil)) (by rfl))
      (pss_cons (ps_for PassesOwn.never rfl (pi_list (pe_ifExp (pt_cmpR op_eq (pv 3) pe_str (nomark _)) (pv 2) (pv 1))) (pg_tup (by rfl) (pgs_cons (pg_name (i := 5) sc__law_steps.nd rfl (.inl rfl)) (pgs_cons (pg_name (i := 6) sc__law_steps.nd rfl (.inl rfl)) pgs_nil)))
        (pss_one (ps_if (pt_cmpR op_eq (pv 5) (pe_ix (ix_tupK (K := K) rfl) (pv 0) pe_int (fun _ _ => rfl)) (nomark _))
          (pss_one (ps_expr (pe_bmK (K := K) rfl PySem.F.plainAttrs_list PySem.F.slot_list_append PySem.F.type_list_append mt_append (pv 4) (pa_cons (pe_tup (pa_cons (pv 3) (pa_cons (pv 6) (pa_cons pe_non pa_nil)))) pa_nil))))
          (pss_one (ps_if (pt_cmpR op_eq (pe_slice sl_str (pe_ix (ix_tupK (K := K) rfl) (pv 0) pe_int (fun _ _ => rfl)) po_none (po_some (pe_callB call_len_str (by rfl) T.len (by decide +kernel) (pa_cons (pv 5) pa_nil)))) (pv 5) (nomark _))
            (pss_one (ps_expr (pe_bmK (K := K) rfl PySem.F.plainAttrs_list PySem.F.slot_list_append PySem.F.type_list_append mt_append (pv 4) (pa_cons (pe_tup (pa_cons (pv 3) (pa_cons (pv 6) (pa_cons (pe_tup (pa_cons (pe_ix (ix_tupK (K := K) rfl) (pv 0) pe_int (fun _ _ => rfl)) (pa_cons (pe_slice sl_str (pe_ix (ix_tupK (K := K) rfl) (pv 0) pe_int (fun _ _ => rfl)) (po_some (pe_callB call_len_str (by rfl) T.len (by decide +kernel) (pa_cons (pv 5) pa_nil))) po_none) pa_nil))) pa_nil)))) pa_nil))))
            (pss_one (ps_if (pt_cmpR op_eq (pe_slice sl_str (pv 5) po_none (po_some (pe_callB call_len_str (by rfl) T.len (by decide +kernel) (pa_cons (pe_ix (ix_tupK (K := K) rfl) (pv 0) pe_int (fun _ _ => rfl)) pa_nil)))) (pe_ix (ix_tupK (K := K) rfl) (pv 0) pe_int (fun _ _ => rfl)) (nomark _))
              (pss_one (ps_expr (pe_bmK (K := K) rfl PySem.F.plainAttrs_list PySem.F.slot_list_append PySem.F.type_list_append mt_append (pv 4) (pa_cons (pe_tup (pa_cons (pv 3) (pa_cons (pv 6) (pa_cons (pe_tup (pa_cons (pv 3) (pa_cons (pe_slice sl_str (pv 5) (po_some (pe_callB call_len_str (by rfl) T.len (by decide +kernel) (pa_cons (pe_ix (ix_tupK (K := K) rfl) (pv 0) pe_int (fun _ _ => rfl)) pa_nil))) po_none) pa_nil))) pa_nil)))) pa_nil))))
              pss_nil)))))))
      (pss_one (ps_ret (pv 4)))))), ?_⟩
    cases p with
    | fin => exact fv.elim
    | start =>
      cases (show v = .non from fv)
      obtain ⟨xs, hxs, prs⟩ := hP
      have lx := prd_len prs
      have l30 := okP.few
      refine ⟨_, rfl, rfl, true, rfl, iteT ⟨_, rfl, a1, rfl, ⟨_, SqL.of hxs⟩, fun D nD => lc_it (walk_list (K := K) (a := a1) (xs := xs)) (fun i H2 => ∃ ys, Paired (StV H2) ys ((moves P1 S1 .start).take i) ∧ H2 D = some (.lst ys) ∧ Same H H2) ?_ ?_ ?_ ?_⟩⟩
      · exact ⟨[], .nil, upd_same, same_put (s := Same.refl H) nD⟩
      · rintro i H2 hi ⟨ys, _, _, s2⟩
        exact SqL.of (s2 _ _ hxs)
      · rintro i y H20 H2 hi ⟨ys, pr, hD, s2⟩ ⟨rfl, hy⟩
        obtain ⟨q0, hq0, c, rfl, hc⟩ := prd_at prs hy
        have ly := prd_len pr
        rw [List.length_take] at ly
        refine ⟨c, _, rfl, .inl (.inl (s2 _ _ hc)), rfl, _, _, rfl, _, _, rfl, rfl, ?_⟩
        refine ⟨rfl, _, rfl, _, rfl, by show 2 ≤ sizeLine; decide, fun b2 nb2 => ⟨by show 3 ≤ sizeLine; decide, fun c2 nc2 => ?_⟩⟩
        have sa := same_put (s := Same.refl H2) (o := .tup [.str "one", .str (Sx q0.1)]) nb2
        have hb2 : upd H2 b2 (.tup [.str "one", .str (Sx q0.1)]) b2 = some (.tup [.str (sideS true), .str (Sx q0.1)]) := upd_same
        have sb := same_put (s := Same.refl _) (o := .tup [.str "one", .str (L1 q0.2), .ref b2]) nc2
        have hb3 := sb _ _ hb2
        have hc2 : upd (upd H2 b2 (.tup [.str "one", .str (Sx q0.1)])) c2 (.tup [.str "one", .str (L1 q0.2), .ref b2]) c2 = some (.tup [.str (sideS true), .str (L1 q0.2), .ref b2]) := upd_same
        have hD2 := sb _ _ (sa _ _ hD)
        have mt : StV (upd (upd H2 b2 (.tup [.str "one", .str (Sx q0.1)])) c2 (.tup [.str "one", .str (L1 q0.2), .ref b2])) (.ref c2) (true, q0.2, .rest true q0.1) := ⟨c2, .ref b2, rfl, hc2, b2, rfl, hb3⟩
        have s3 : Same H2 (upd (upd H2 b2 (.tup [.str "one", .str (Sx q0.1)])) c2 (.tup [.str "one", .str (L1 q0.2), .ref b2])) := fun b o e => sb _ _ (sa _ _ e)
        generalize upd (upd H2 b2 (.tup [.str "one", .str (Sx q0.1)])) c2 (.tup [.str "one", .str (L1 q0.2), .ref b2]) = H3 at hD2 mt s3 ⊢
        refine ⟨_, hD2, by rw [sizeLine_eq]; omega, ys ++ [.ref c2], ?_, upd_same, ?_⟩
        · have et : (moves P1 S1 .start).take (i + 1) = (moves P1 S1 .start).take i ++ [(true, q0.2, .rest true q0.1)] := by
            rw [List.take_add_one]
            show _ ++ ((P1.map _)[i]?).toList = _
            rw [List.getElem?_map, hq0]
            rfl
          rw [et]
          exact (prd_imp pr fun _ _ z => (z.same s3).put hD2).snoc (mt.put hD2)
        · intro b o e
          rw [upd_ne (ne_of_none e nD)]
          exact s3 _ _ (s2 _ _ e)
      rintro H2 ⟨ys, pr, hD, s2⟩
      rw [List.take_of_length_le (by show (P1.map _).length ≤ _; rw [List.length_map, lx]; exact Nat.le_refl _)] at pr
      exact q _ _ nD s2 ⟨ys, hD, pr⟩
    | rest a r =>
      obtain ⟨c, rfl, hc⟩ := fv
      have r9 := r64 a r rfl
      have zr : (Sx r).length ≤ sizeLine := by rw [Sx_len, sizeLine_eq]; omega
      refine ⟨_, rfl, rfl, _, rfl, ?_⟩
      rw [decide_eq_false (show ¬ V.ref c = V.non from fun e => nomatch e)]
      refine iteF (nextS ?_)
      dsimp only
      have eo : (V.str "one") = V.str (sideS true) := rfl
      -- who takes
      refine seq1 (fun σ' H' => ∃ D, H D = none ∧ σ' = [some (.ref c), some (.ref a1), some (.ref b1), some (.str (sideS (!a))), some (.ref D), none, none] ∧ H' = upd H D (.lst [])) ?_ (fun R hR => ?_)
      rotate_left
      · refine ⟨_, rfl, c, _, _, _, rfl, rfl, .inl (.inl hc), atI_nat (j := 0) rfl, rfl, _, rfl, ?_⟩
        rw [eo, side_eq]
        cases a with
        | true => exact iteT ⟨Nat.zero_le _, fun D nD => ⟨_, _, rfl, hR _ _ ⟨D, nD, rfl, rfl⟩⟩⟩
        | false => exact iteF ⟨Nat.zero_le _, fun D nD => ⟨_, _, rfl, hR _ _ ⟨D, nD, rfl, rfl⟩⟩⟩
      rintro σ' H' ⟨D0, nD0, rfl, rfl⟩
      -- whose pairs
      have hp : ∃ g xs, (if a = true then b1 else a1) = g ∧ g ≠ D0 ∧ upd H D0 (.lst []) g = some (.lst xs) ∧ Paired (fun x q => ∃ c, x = V.ref c ∧ upd H D0 (.lst []) c = some (.tup [.str (Sx q.1), .str (L1 q.2)])) xs (if a = true then S1 else P1) := by
        have up : ∀ {b o}, H b = some o → upd H D0 (.lst []) b = some o := fun {b o} e => by rw [upd_ne (ne_of_none e nD0)]; exact e
        cases a with
        | true =>
          obtain ⟨xs, h1, h2⟩ := hS
          exact ⟨b1, xs, rfl, ne_of_none h1 nD0, up h1, prd_imp h2 fun _ _ ⟨c, e, h⟩ => ⟨c, e, up h⟩⟩
        | false =>
          obtain ⟨xs, h1, h2⟩ := hP
          exact ⟨a1, xs, rfl, ne_of_none h1 nD0, up h1, prd_imp h2 fun _ _ ⟨c, e, h⟩ => ⟨c, e, up h⟩⟩
      obtain ⟨g, xs, eg, gD, hxs, prs⟩ := hp
      have okQ : PrS (if a = true then S1 else P1) := by
        cases a with
        | true => exact okS
        | false => exact okP
      have em : moves P1 S1 (.rest a r) = (if a = true then S1 else P1).filterMap fun q => (behind a r q.1).map fun t => (!a, q.2, t) := rfl
      rw [em] at q
      generalize (if a = true then S1 else P1) = Q1 at prs okQ q
      have lx := prd_len prs
      have l12 := okQ.few
      have sD0 := same_put (s := Same.refl H) (o := .lst []) nD0
      have hD0 : upd H D0 (.lst []) D0 = some (.lst []) := upd_same
      have hc0 := sD0 _ _ hc
      have hN0 : ∀ b, b ≠ D0 → H b = none → upd H D0 (.lst []) b = none := fun b e h => by rw [upd_ne e]; exact h
      generalize upd H D0 (.lst []) = H1 at hxs prs sD0 hD0 hc0 hN0 ⊢
      refine via (t := tIf (tTest (tOp rEq (tVar 3) (tC (V.str "two")))) (tVar 2) (tVar 1)) (fun v H2 => v = .ref g ∧ H1 = H2) (fun R hR => ?_) (fun v H2 z => ?_)
      · refine ⟨_, rfl, rfl, decide (V.str (sideS (!a)) = V.str (sideS false)), rfl, ?_⟩
        rw [side_eq]
        cases a with
        | true => exact iteT ⟨_, rfl, hR _ _ ⟨by rw [← eg]; rfl, rfl⟩⟩
        | false => exact iteF ⟨_, rfl, hR _ _ ⟨by rw [← eg]; rfl, rfl⟩⟩
      obtain ⟨rfl, rfl⟩ := z
      refine ⟨g, rfl, ⟨_, SqL.of hxs⟩, for_it (walk_list (K := K) (a := g) (xs := xs)) (fun i σ' H2 => ∃ v5 v6 ys, σ' = [some (.ref c), some (.ref a1), some (.ref b1), some (.str (sideS (!a))), some (.ref D0), v5, v6] ∧ Paired (StV H2) ys ((Q1.take i).filterMap fun q => (behind a r q.1).map fun t => (!a, q.2, t)) ∧ H2 D0 = some (.lst ys) ∧ ys.length ≤ i ∧ Same H H2 ∧ ButX D0 H1 H2) ?_ ?_ ?_ ?_⟩
      · exact ⟨none, none, [], rfl, .nil, hD0, Nat.le_refl _, sD0, fun b o e _ => e⟩
      · rintro i σ2 H3 hi ⟨v5, v6, ys, _, _, _, _, s2, k2⟩
        exact SqL.of (k2 _ _ hxs gD)
      · rintro i y σ2 H20 H2 hi ⟨v5, v6, ys, rfl, pr, hD, ly, s2, k2⟩ ⟨rfl, hy⟩
        obtain ⟨q0, hq0, c2, rfl, hc2⟩ := prd_at prs hy
        have c2D : c2 ≠ D0 := fun z => by
          rw [z, hD0] at hc2
          cases hc2
        have hc22 := k2 _ _ hc2 c2D
        have hcr := s2 _ _ hc
        obtain ⟨w64, _⟩ := okQ.word q0 (List.mem_of_getElem? hq0)
        have zw : (Sx q0.1).length ≤ sizeLine := by rw [Sx_len, sizeLine_eq]; omega
        have et : (Q1.take (i + 1)).filterMap (fun q => (behind a r q.1).map fun t => (!a, q.2, t)) = (Q1.take i).filterMap (fun q => (behind a r q.1).map fun t => (!a, q.2, t)) ++ ((behind a r q0.1).map fun t => (!a, q0.2, t)).toList := by
          rw [List.take_add_one, hq0, List.filterMap_append]
          congr 1
        have lxs : xs.length ≤ 30 := by rw [lx]; exact l12
        have hi' : i < xs.length := hi
        refine ⟨c2, _, rfl, .inl (.inl hc22), rfl, _, _, rfl, _, _, rfl, rfl, ?_⟩
        have step : ∀ (g2 : V) (p2 : Pl) (H3 : Hp) (c3 : Addr), behind a r q0.1 = some p2 → Same H2 H3 → GoalV H3 g2 p2 → H3 c3 = none → (∃ v5 v6 zs, ([some (V.ref c), some (.ref a1), some (.ref b1), some (.str (sideS (!a))), some (.ref D0), some (.str (Sx q0.1)), some (.str (L1 q0.2))] : L2.St) = [some (.ref c), some (.ref a1), some (.ref b1), some (.str (sideS (!a))), some (.ref D0), v5, v6] ∧ Paired (StV (upd (upd H3 c3 (.tup [.str (sideS (!a)), .str (L1 q0.2), g2])) D0 (.lst (ys ++ [.ref c3])))) zs ((Q1.take (i + 1)).filterMap fun q => (behind a r q.1).map fun t => (!a, q.2, t)) ∧ upd (upd H3 c3 (.tup [.str (sideS (!a)), .str (L1 q0.2), g2])) D0 (.lst (ys ++ [.ref c3])) D0 = some (.lst zs) ∧ zs.length ≤ i + 1 ∧ Same H (upd (upd H3 c3 (.tup [.str (sideS (!a)), .str (L1 q0.2), g2])) D0 (.lst (ys ++ [.ref c3]))) ∧ ButX D0 H1 (upd (upd H3 c3 (.tup [.str (sideS (!a)), .str (L1 q0.2), g2])) D0 (.lst (ys ++ [.ref c3])))) := fun g2 p2 H3 c3 eb s3 hg nc3 => by
          have s4 := same_put (s := Same.refl H3) (o := .tup [.str (sideS (!a)), .str (L1 q0.2), g2]) nc3
          have hD4 := s4 _ _ (s3 _ _ hD)
          have mt : StV (upd H3 c3 (.tup [.str (sideS (!a)), .str (L1 q0.2), g2])) (.ref c3) (!a, q0.2, p2) := ⟨c3, g2, rfl, upd_same, hg.same s4⟩
          refine ⟨_, _, ys ++ [.ref c3], rfl, ?_, upd_same, by rw [List.length_append]; show _ + 1 ≤ _; omega, fun b o e => ?_, fun b o e n => ?_⟩
          · rw [et, eb]
            exact (prd_imp pr fun _ _ z => ((z.same s3).same s4).put hD4).snoc (mt.put hD4)
          · rw [upd_ne (ne_of_none e nD0)]
            exact s4 _ _ (s3 _ _ (s2 _ _ e))
          · rw [upd_ne n]
            exact s4 _ _ (s3 _ _ (k2 _ _ e n))
        have skip : behind a r q0.1 = none → (∃ v5 v6 zs, ([some (V.ref c), some (.ref a1), some (.ref b1), some (.str (sideS (!a))), some (.ref D0), some (.str (Sx q0.1)), some (.str (L1 q0.2))] : L2.St) = [some (.ref c), some (.ref a1), some (.ref b1), some (.str (sideS (!a))), some (.ref D0), v5, v6] ∧ Paired (StV H2) zs ((Q1.take (i + 1)).filterMap fun q => (behind a r q.1).map fun t => (!a, q.2, t)) ∧ H2 D0 = some (.lst zs) ∧ zs.length ≤ i + 1 ∧ Same H H2 ∧ ButX D0 H1 H2) := fun eb => by
          refine ⟨_, _, ys, rfl, ?_, hD, by omega, s2, k2⟩
          rw [et, eb]
          show Paired _ _ (_ ++ [])
          rw [List.append_nil]
          exact pr
        have lys : ys.length < sizeLine := by rw [sizeLine_eq]; omega
        refine ⟨_, rfl, _, rfl, c, _, _, _, rfl, rfl, .inl (.inl hcr), atI_nat (j := 1) rfl, rfl, _, rfl, ?_⟩
        rw [Sx_eq]
        by_cases e1 : q0.1 = r
        · rw [decide_eq_true e1]
          refine iteT ⟨_, rfl, .inl ⟨rfl, _, SqL.of hD⟩, _, rfl, _, rfl, by show 3 ≤ sizeLine; decide, fun c3 nc3 => ?_⟩
          have hD3 := same_put (s := Same.refl H2) (o := .tup [.str (sideS (!a)), .str (L1 q0.2), .non]) nc3 _ _ hD
          refine ⟨D0, ys, _, rfl, rfl, hD3, lys, ?_⟩
          exact step .non .fin H2 c3 (by unfold behind; rw [if_pos e1]) (Same.refl H2) rfl nc3
        rw [decide_eq_false e1]
        refine iteF ?_
        refine ⟨_, rfl, c, _, _, _, rfl, rfl, .inl (.inl hcr), atI_nat (j := 1) rfl, _, rfl, _, rfl, zw, _, rfl, _, rfl, zr, _, rfl, rfl, _, rfl, ?_⟩
        rw [Sx_len, cut_take, Sx_eq, take_pre]
        by_cases e2 : q0.1.isPrefixOf r = true
        · rw [e2]
          refine iteT ⟨_, rfl, .inl ⟨rfl, _, SqL.of hD⟩, _, rfl, _, rfl, _, rfl, c, _, _, _, rfl, rfl, .inl (.inl hcr), atI_nat (j := 0) rfl, _, rfl, c, _, _, _, rfl, rfl, .inl (.inl hcr), atI_nat (j := 1) rfl, _, rfl, _, rfl, zw, _, rfl, _, rfl, zr, by show 2 ≤ sizeLine; decide, fun c4 nc4 => ⟨by show 3 ≤ sizeLine; decide, fun c3 nc3 => ?_⟩⟩
          rw [Sx_len, cut_drop] at *
          have s4 := same_put (s := Same.refl H2) (o := .tup [.str (sideS a), .str (Sx (r.drop q0.1.length))]) nc4
          have hD3 := same_put (s := s4) (o := .tup [.str (sideS (!a)), .str (L1 q0.2), .ref c4]) nc3 _ _ hD
          refine ⟨D0, ys, _, rfl, rfl, hD3, lys, ?_⟩
          exact step (.ref c4) (.rest a (r.drop q0.1.length)) _ c3 (by unfold behind; rw [if_neg e1, if_pos e2]) s4 ⟨c4, rfl, upd_same⟩ nc3
        rw [Bool.eq_false_iff.mpr e2]
        refine iteF ?_
        refine ⟨_, rfl, _, rfl, c, _, _, _, rfl, rfl, .inl (.inl hcr), atI_nat (j := 1) rfl, _, rfl, zr, _, rfl, _, rfl, zw, _, rfl, c, _, _, _, rfl, rfl, .inl (.inl hcr), atI_nat (j := 1) rfl, rfl, _, rfl, ?_⟩
        rw [Sx_len, cut_take, Sx_eq, take_pre]
        by_cases e3 : r.isPrefixOf q0.1 = true
        · rw [e3]
          refine iteT ⟨_, rfl, .inl ⟨rfl, _, SqL.of hD⟩, _, rfl, _, rfl, _, rfl, _, rfl, _, rfl, c, _, _, _, rfl, rfl, .inl (.inl hcr), atI_nat (j := 1) rfl, _, rfl, zr, _, rfl, _, rfl, zw, by show 2 ≤ sizeLine; decide, fun c4 nc4 => ⟨by show 3 ≤ sizeLine; decide, fun c3 nc3 => ?_⟩⟩
          rw [Sx_len, cut_drop] at *
          have s4 := same_put (s := Same.refl H2) (o := .tup [.str (sideS (!a)), .str (Sx (q0.1.drop r.length))]) nc4
          have hD3 := same_put (s := s4) (o := .tup [.str (sideS (!a)), .str (L1 q0.2), .ref c4]) nc3 _ _ hD
          refine ⟨D0, ys, _, rfl, rfl, hD3, lys, ?_⟩
          exact step (.ref c4) (.rest (!a) (q0.1.drop r.length)) _ c3 (by unfold behind; rw [if_neg e1, if_neg e2, if_pos e3]) s4 ⟨c4, rfl, upd_same⟩ nc3
        rw [Bool.eq_false_iff.mpr e3]
        exact iteF (skip (by unfold behind; rw [if_neg e1, if_neg e2, if_neg e3]))
      · rintro σ2 H2 ⟨v5, v6, ys, rfl, pr, hD, ly, s2, k2⟩
        rw [List.take_of_length_le (by rw [lx]; exact Nat.le_refl _)] at pr
        exact ⟨_, rfl, q _ _ nD0 s2 ⟨ys, hD, pr⟩⟩
end
end V8
set_option Elab.async false
set_option linter.all false
set_option maxRecDepth 100000
set_option maxHeartbeats 4000000
/-! d[k] in terms, for dicts of None and tuples, locked or not; what is put stays for readers. -/
namespace L2
open PySem PySem.Spec PyProof.Rows MX
section
variable {X : Cx}
theorem pe_getR {w : World} {o i : Expr} {pos : Pos} {td ty : TE} (hw : X.w = w) (hu : X.A.units + 9 < cLine) (ho : PE X o td) (hi : PE X i ty) (hs : NoSl i) : PE X (.Subscript o i pos) (tOp (rGetR w) td ty) := by
  have g := get_mixR (X := X) hw hu
  subst hw
  refine ⟨fun pins s σ H Q I h => ?_⟩
  refine subD_of PySem.F.slot_dict_getitem.lookup hs (thn (ho.run pins s σ H _ I h) fun u s1 ⟨x, H1, I1, rx, q1⟩ => thn (hi.run pins s1 σ H1 _ I1 q1) fun iv s2 ⟨y, H2, I2, ry, q2⟩ => ?_)
  obtain ⟨a, kvs, k, v, rfl, m, hk, l, q⟩ := q2
  obtain rfl : u = Value.ref a := rx
  obtain ⟨few, hd, xs, p, D⟩ := m.dict I2
  exact ⟨D.typeIs, g pins s2 σ H2 (.ref a) y _ _ Q I2 rfl ry ⟨a, kvs, k, v, rfl, m, hk, l, q⟩⟩
end
end L2
set_option Elab.async false
set_option linter.all false
set_option maxRecDepth 100000
set_option maxHeartbeats 8000000
set_option pp.maxSteps 900
/-! The law's own web: all rests that can be reached. -/
namespace V8
open PySem PySem.Spec PyProof.Rows L2 MZ MX
abbrev s__law_web : Stmt := topS 77
theorem sc__law_web : FnScope ["_law_one", "_law_two", "_law_web_here", "_law_left", "_law_side", "_law_label", "_law_goal"] ["_law_one", "_law_two"] (defScope s__law_web) := ⟨rfl, rfl, rfl, by decide +kernel, rfl, by decide +kernel, by decide +kernel⟩
theorem prs_of {P : List Pr} (o : PrOk P) : PrS P := ⟨o.1, fun q hq => ⟨by have := (o.2 q hq).1; omega, (o.2 q hq).2⟩⟩
/-- a place as a key; None for the end, too -/
def gKey : Pl → NestedKey
  | .rest a r => .tup [.text (sideS a), .text (Sx r)]
  | _ => .none
theorem gKey_inj {p q : Pl} (hp : p ≠ .fin) (hq : q ≠ .fin) (h : gKey p = gKey q) : p = q := by
  cases p with
  | fin => exact absurd rfl hp
  | start => cases q with
    | fin => exact absurd rfl hq
    | start => rfl
    | rest a r => cases h
  | rest a r => cases q with
    | fin => exact absurd rfl hq
    | start => cases h
    | rest b t =>
      have h2 : [NestedKey.text (sideS a), .text (Sx r)] = [.text (sideS b), .text (Sx t)] := NestedKey.tup.inj h
      injection h2 with h3 h4
      injection h4 with h5 _
      have e1 : a = b := side_inj (NestedKey.text.inj h3)
      have e2 : r = t := Sx_inj (NestedKey.text.inj h5)
      rw [e1, e2]
theorem from_key {H : Hp} {v : V} {p : Pl} (h : FromV H v p) : KeyV H (gKey p) v := by
  cases p with
  | fin => exact h.elim
  | start =>
    cases (show v = .non from h)
    exact .flat .none
  | rest a r =>
    obtain ⟨c, rfl, hc⟩ := h
    exact .tup hc (.cons (.text _) (.cons (.text _) .nil))
theorem goal_key {H : Hp} {v : V} {p : Pl} (h : GoalV H v p) : KeyV H (gKey p) v := by
  cases p with
  | start => exact h.elim
  | fin =>
    cases (show v = .non from h)
    exact .flat .none
  | rest a r =>
    obtain ⟨c, rfl, hc⟩ := h
    exact .tup hc (.cons (.text _) (.cons (.text _) .nil))
theorem goal_from {H : Hp} {v : V} {p : Pl} (h : GoalV H v p) (n : p ≠ .fin) : FromV H v p := by
  cases p with
  | start => exact h.elim
  | fin => exact absurd rfl n
  | rest a r => exact h
/-- tuples stay, and lists but one -/
structure Stay (c : Addr) (H H' : Hp) : Prop where
  t : ∀ b xs, H b = some (.tup xs) → H' b = some (.tup xs)
  l : ∀ b xs, H b = some (.lst xs) → b ≠ c → H' b = some (.lst xs)
theorem Stay.of {c : Addr} {H H' : Hp} (s : Same H H') : Stay c H H' := ⟨fun b xs e => s _ _ e, fun b xs e _ => s _ _ e⟩
theorem Stay.trans {c : Addr} {H H1 H2 : Hp} (a : Stay c H H1) (b : Stay c H1 H2) : Stay c H H2 := ⟨fun d xs e => b.t _ _ (a.t _ _ e), fun d xs e n => b.l _ _ (a.l _ _ e n) n⟩
theorem Stay.list {c : Addr} {H : Hp} {ys zs : List V} (h : H c = some (.lst ys)) : Stay c H (upd H c (.lst zs)) := ⟨fun b xs e => by rw [upd_ne (ne_of e h (fun z => nomatch z))]; exact e, fun b xs e n => by rw [upd_ne n]; exact e⟩
theorem Stay.dict {w : World} {c d : Addr} {H : Hp} {kvs : List (NestedKey × V × V)} {o : HO} (h : H d = some (MixO w d kvs)) : Stay c H (upd H d o) := ⟨fun b xs e => by rw [upd_ne (ne_of e h (fun z => nomatch z))]; exact e, fun b xs e n => by rw [upd_ne (ne_of e h (fun z => nomatch z))]; exact e⟩
theorem FromV.stay {c : Addr} {H H' : Hp} {v : V} {p : Pl} (h : FromV H v p) (s : Stay c H H') : FromV H' v p := by
  cases p with
  | start => exact h
  | fin => exact h
  | rest a r =>
    obtain ⟨c, e, hc⟩ := h
    exact ⟨c, e, s.t _ _ hc⟩
theorem GoalV.stay {c : Addr} {H H' : Hp} {v : V} {p : Pl} (h : GoalV H v p) (s : Stay c H H') : GoalV H' v p := by
  cases p with
  | start => exact h
  | fin => exact h
  | rest a r =>
    obtain ⟨c, e, hc⟩ := h
    exact ⟨c, e, s.t _ _ hc⟩
theorem StV.stay {c : Addr} {H H' : Hp} {v : V} {m : Mo} (h : StV H v m) (s : Stay c H H') : StV H' v m := by
  obtain ⟨d, g, e, hc, hg⟩ := h
  exact ⟨d, g, e, s.t _ _ hc, hg.stay s⟩
theorem StL.stay {c b : Addr} {H H' : Hp} {ms : List Mo} (h : StL H b ms) (n : b ≠ c) (s : Stay c H H') : StL H' b ms := by
  obtain ⟨vs, h1, h2⟩ := h
  exact ⟨vs, s.l _ _ h1 n, prd_imp h2 fun _ _ r => r.stay s⟩
/-- an entry of the web -/
def WebE (P S : List Pr) (c : Addr) (H : Hp) (kv : NestedKey × V × V) (p : Pl) : Prop := kv.1 = gKey p ∧ FromV H kv.2.1 p ∧ ∃ b, kv.2.2 = .ref b ∧ b ≠ c ∧ StL H b (moves P S p)
theorem WebE.stay {P S : List Pr} {c : Addr} {H H' : Hp} {kv : NestedKey × V × V} {p : Pl} (h : WebE P S c H kv p) (s : Stay c H H') : WebE P S c H' kv p := by
  obtain ⟨e, f, b, e2, n, st⟩ := h
  exact ⟨e, f.stay s, b, e2, n, st.stay n s⟩
theorem web_keys {R : NestedKey × V × V → Pl → Prop} {kvs : List (NestedKey × V × V)} {Q : List Pl} (hR : ∀ kv p, R kv p → kv.1 = gKey p) (h : Paired R kvs Q) : kvs.map (·.1) = Q.map gKey := by
  induction h with
  | nil => rfl
  | cons r _ ih => rw [List.map_cons, List.map_cons, ih, hR _ _ r]
theorem web_at {R : NestedKey × V × V → Pl → Prop} {kvs : List (NestedKey × V × V)} {Q : List Pl} (hR : ∀ kv p, R kv p → kv.1 = gKey p) (nf : ∀ p ∈ Q, p ≠ .fin) (h : Paired R kvs Q) {p : Pl} (hp : p ∈ Q) : ∃ kv, R kv p ∧ atM kvs (gKey p) = some kv.2.2 := by
  induction h with
  | nil => cases hp
  | @cons kv q kvs Q r _ ih =>
    by_cases e : q = p
    · subst e
      refine ⟨kv, r, ?_⟩
      unfold atM
      rw [List.find?_cons, decide_eq_true (hR _ _ r)]
      rfl
    · have hp2 : p ∈ Q := by
        rcases List.mem_cons.mp hp with z | z
        · exact absurd z.symm e
        · exact z
      obtain ⟨kv2, r2, e2⟩ := ih (fun x hx => nf x (List.mem_cons_of_mem _ hx)) hp2
      refine ⟨kv2, r2, ?_⟩
      unfold atM at e2 ⊢
      rw [List.find?_cons, decide_eq_false fun z => e (gKey_inj (nf q List.mem_cons_self) (nf p hp) ((hR _ _ r).symm.trans z))]
      exact e2
theorem web_no {R : NestedKey × V × V → Pl → Prop} {kvs : List (NestedKey × V × V)} {Q : List Pl} (hR : ∀ kv p, R kv p → kv.1 = gKey p) (nf : ∀ p ∈ Q, p ≠ .fin) (h : Paired R kvs Q) {p : Pl} (hf : p ≠ .fin) (hp : p ∉ Q) : gKey p ∉ kvs.map (·.1) := by
  rw [web_keys hR h]
  intro z
  obtain ⟨q, hq, e⟩ := List.mem_map.mp z
  exact hp (gKey_inj (nf q hq) hf e ▸ hq)
theorem atM_none {kvs : List (NestedKey × V × V)} {k : NestedKey} (h : k ∉ kvs.map (·.1)) : atM kvs k = none := by
  unfold atM
  rw [Option.map_eq_none_iff, List.find?_eq_none]
  intro x hx
  rw [decide_eq_true_iff]
  exact fun e => h (e ▸ List.mem_map_of_mem hx)
/-- the search: the places met, those that are left -/
structure Sea (P S : List Pr) (Q L : List Pl) : Prop where
  nd : Q.Nodup
  st : Pl.start ∈ Q
  nf : ∀ p ∈ Q, p ≠ .fin
  rc : ∀ p ∈ Q, ∃ w, Way P S .start p w
  sub : ∀ p ∈ L, p ∈ Q
  ndl : L.Nodup
theorem nd_add {α : Type} {l : List α} {x : α} (h : l.Nodup) (n : x ∉ l) : (l ++ [x]).Nodup := List.nodup_append.mpr ⟨h, List.nodup_cons.mpr ⟨by simp, List.nodup_nil⟩, fun y hy z hz e => by
  rw [List.mem_singleton.mp hz] at e
  exact n (e ▸ hy)⟩
theorem prd_concat {α β : Type} {R : α → β → Prop} : ∀ {ys : List β} {xs : List α} {y : β}, Paired R xs (ys ++ [y]) → ∃ xs0 x, xs = xs0 ++ [x] ∧ Paired R xs0 ys ∧ R x y
  | [], _, _, .cons r .nil => ⟨[], _, rfl, .nil, r⟩
  | _ :: _, _, _, .cons r h => by
    obtain ⟨xs0, x, e, p, r2⟩ := prd_concat h
    exact ⟨_ :: xs0, x, by rw [e]; rfl, .cons r p, r2⟩
theorem keyV_stay {c : Addr} {H H' : Hp} {k : NestedKey} {v : V} (h : KeyV H k v) (s : Stay c H H') : KeyV H' k v := by
  cases h with
  | flat g => exact .flat g
  | tup h g => exact .tup (s.t _ _ h) g
theorem rest64 {P S : List Pr} (oP : PrOk P) (oS : PrOk S) (hP : ∀ q ∈ P, q.1 ≠ []) {x : Bool} {r : List Nat} {w : List Nat × List Nat} (h : Way P S .start (.rest x r) w) : r.length ≤ 64 := by
  have z := (reach_uni hP h).2
  cases x with
  | true =>
    obtain ⟨_, q, hq, a, e⟩ := z
    have l := (oP.2 q hq).1
    rw [e, List.length_append] at l
    omega
  | false =>
    obtain ⟨_, q, hq, a, e⟩ := z
    have l := (oS.2 q hq).1
    rw [e, List.length_append] at l
    omega
theorem Sea.few {P S : List Pr} {Q L : List Pl} (h : Sea P S Q L) (hP : ∀ q ∈ P, q.1 ≠ []) : Q.length ≤ (uni P S).length := nd_le h.nd fun p hp => by
  obtain ⟨w, k⟩ := h.rc p hp
  exact (reach_uni hP k).1
/-- all that can be reached but the end -/
structure Reach (P S : List Pr) (Q : List Pl) : Prop where
  nd : Q.Nodup
  mem : ∀ p, p ∈ Q ↔ p ≠ .fin ∧ ∃ w, Way P S .start p w
theorem reach_of {P S : List Pr} {Q : List Pl} (h : Sea P S Q []) (cl : ∀ p ∈ Q, ∀ m ∈ moves P S p, m.2.2 = .fin ∨ m.2.2 ∈ Q) : Reach P S Q := by
  refine ⟨h.nd, fun p => ⟨fun hp => ⟨h.nf p hp, h.rc p hp⟩, ?_⟩⟩
  rintro ⟨nf, w, k⟩
  have key : p = .fin ∨ p ∈ Q := by
    clear nf
    induction k with
    | nil => exact .inr h.st
    | step k m ih =>
      rcases ih with rfl | ih
      · cases m
      · exact cl _ ih _ m
  exact key.resolve_left nf
def WebM (w : World) (P S : List Pr) (H : Hp) (d : Addr) (Q : List Pl) : Prop := ∃ kvs, MixD w H d kvs ∧ Paired (fun kv p => kv.1 = gKey p ∧ FromV H kv.2.1 p ∧ ∃ b, kv.2.2 = .ref b ∧ StL H b (moves P S p)) kvs Q
theorem WebM.same {w : World} {P S : List Pr} {H H' : Hp} {d : Addr} {Q : List Pl} (h : WebM w P S H d Q) (s : Same H H') : WebM w P S H' d Q := by
  obtain ⟨kvs, m, pr⟩ := h
  exact ⟨kvs, m.same s, prd_imp pr fun _ _ ⟨e, f, b, e2, st⟩ => ⟨e, f.same s, b, e2, st.same s⟩⟩
def spWeb (w : World) : Sp := fun vs H Q _ => ∃ (a b : Addr) (P S : List Pr), vs = [.ref a, .ref b] ∧ PrL H a P ∧ PrL H b S ∧ PrOk P ∧ PrOk S ∧ (∀ q ∈ P, q.1 ≠ []) ∧ ∀ d Qs H', Same H H' → WebM w P S H' d Qs → Reach P S Qs → Q (.ref d) H'
section
variable {P : Program} {w : World} {K : PySem.W.Frag} {mg : Str → Option Value} {base : Heap} {CM CJ : Addr}
theorem ok_web {f : Addr} {fd : FuncData} (F : Fun K "_law_web" "_law_web" s__law_web f fd) (T : Tz K mg CM CJ) (D_steps : Df P w K mg base 1 "_law_steps" spSteps) : FnOk P w K mg base CX0 2 f fd ["_law_one", "_law_two"] (spWeb w) := by
  refine F.ok sc__law_web (fun vs H Q E h => ?_) (fun cdv A outer s H vs Q E hr h => ?_)
  · obtain ⟨a, b, P, S, rfl, _⟩ := h
    rfl
  · obtain ⟨a1, b1, P1, S1, rfl, hP, hS, okP, okS, nP, q⟩ := h
    refine ⟨_, (pss_cons (ps_par (i := 2) (j := 3) (by rfl) sc__law_web.nd rfl rfl (by decide) rfl rfl (pa_cons (pe_dispM (w := w) rfl (u9 hr) (pps_cons pe_non (pe_c D_steps hr (by decide) (by rfl) (pa_cons pe_non (pa_cons (pv 0) (pa_cons (pv 1) pa_nil)))) pps_nil)) (pa_cons (pe_lst (pa_cons pe_non pa_nil)) pa_nil)) (by rfl))
      (pss_cons (ps_while PassesOwn.never (pt_cmpR (op_neNilK (K := K) rfl hr.units0) (pv 3) (pe_lst pa_nil) (nomark _))
        (pss_one (ps_for PassesOwn.never rfl (pi_list (pe_callTy (call_list_ofK (K := K) rfl) (by rfl) T.list (by decide +kernel) (pa_cons (pe_getR (w := w) rfl (u9 hr) (pv 2) (pe_bm0K (K := K) rfl PySem.F.plainAttrs_list PySem.F.slot_list_pop PySem.F.type_list_pop mt_pop (pv 3)) (fun _ _ => rfl)) pa_nil))) (pg_tup (by rfl) (pgs_cons (pg_name (i := 4) sc__law_web.nd rfl (.inl rfl)) (pgs_cons (pg_name (i := 5) sc__law_web.nd rfl (.inl rfl)) (pgs_cons (pg_name (i := 6) sc__law_web.nd rfl (.inl rfl)) pgs_nil))))
          (pss_one (ps_if (pt_cmpR (op_notIn_mixR (w := w) rfl (u9 hr)) (pv 6) (pv 2) rfl)
            (pss_cons (ps_asg (pe_c D_steps hr (by decide) (by rfl) (pa_cons (pv 6) (pa_cons (pv 0) (pa_cons (pv 1) pa_nil)))) (pg_sub (pv 2) (pv 6) (set_mixW (w := w) rfl (u9 hr))))
            (pss_one (ps_expr (pe_bmK (K := K) rfl PySem.F.plainAttrs_list PySem.F.slot_list_append PySem.F.type_list_append mt_append (pv 3) (pa_cons (pv 6) pa_nil)))))
            pss_nil)))))
      (pss_one (ps_ret (pv 2))))), ?_⟩
    have sP := prs_of okP
    have sS := prs_of okS
    have kU : (uni P1 S1).length ≤ 600 := by
      rw [uni_len]
      have f1 := sum_ok okP
      have f2 := sum_ok okS
      omega
    have hW : ∀ {Q : List Pl} {L : List Pl}, Sea P1 S1 Q L → ∀ {p : Pl}, p ∈ Q → ∀ x r, p = .rest x r → r.length ≤ 64 := fun {Q L} sea {p} hp x r e => by
      obtain ⟨w0, k⟩ := sea.rc p hp
      subst e
      exact rest64 okP okS nP k
    intro d nd
    have s0 := same_put (s := Same.refl H) (o := MixO w d []) nd
    refine ⟨_, rfl, _, rfl, .non, a1, b1, .start, P1, S1, rfl, rfl, (fun x r e => nomatch e), hP.same s0, hS.same s0, sP, sS, fun D0 H1 n0 s1 h0 => ⟨s1 _ _ upd_same, .none, .non, .ref D0, rfl, .flat .none, ?_⟩⟩
    have d0 : D0 ≠ d := fun z => by
      rw [z, upd_same] at n0
      cases n0
    have n0' : H D0 = none := by
      rw [upd_ne d0] at n0
      exact n0
    have s2 : Same H (upd H1 d (MixO w d (putM [] .none .non (.ref D0)))) := fun b o e => by
      rw [upd_ne (ne_of_none e nd)]
      exact s1 _ _ (s0 _ _ e)
    have hd2 : upd H1 d (MixO w d (putM [] .none .non (.ref D0))) d = some (MixO w d [(.none, .non, .ref D0)]) := upd_same
    have h02 : StL (upd H1 d (MixO w d (putM [] .none .non (.ref D0)))) D0 (moves P1 S1 .start) := by
      have y : Stay d H1 (upd H1 d (MixO w d (putM [] .none .non (.ref D0)))) := .dict (w := w) (kvs := []) (s1 _ _ upd_same)
      exact h0.stay d0 y
    generalize upd H1 d (MixO w d (putM [] .none .non (.ref D0))) = H2 at s2 hd2 h02 ⊢
    refine ⟨by show 1 ≤ sizeLine; decide, fun c nc => ⟨_, _, rfl, ?_⟩⟩
    have dc : d ≠ c := ne_of_none hd2 nc
    have s3 := same_put (s := Same.refl H2) (o := .lst [V.non]) nc
    have ncH : H c = none := by
      cases z : H c with
      | none => rfl
      | some o =>
        rw [s2 _ _ z] at nc
        cases nc
    show tWhile _ _ _ _ _
    refine ⟨fun m σ' H' => ∃ kvs Q L lv v4 v5 v6, σ' = [some (.ref a1), some (.ref b1), some (.ref d), some (.ref c), v4, v5, v6] ∧ m = 2 * ((uni P1 S1).length - Q.length) + L.length ∧ MixD w H' d kvs ∧ Paired (WebE P1 S1 c H') kvs Q ∧ H' c = some (.lst lv) ∧ Paired (FromV H') lv L ∧ Sea P1 S1 Q L ∧ Same H H' ∧ (∀ p ∈ Q, p ∉ L → ∀ m ∈ moves P1 S1 p, m.2.2 = .fin ∨ m.2.2 ∈ Q), ⟨_, _, [.start], [.start], [.non], _, _, _, rfl, rfl, ⟨s3 _ _ hd2, ?_⟩, .cons ⟨rfl, rfl, D0, rfl, ?_, h02.same s3⟩ .nil, upd_same, .cons rfl .nil, ⟨?_, ?_, ?_, ?_, ?_, List.nodup_cons.mpr ⟨by simp, List.nodup_nil⟩⟩, fun b o e => s3 _ _ (s2 _ _ e), ?_⟩, ?_⟩
    · intro p hp
      obtain rfl := List.mem_singleton.mp hp
      exact .flat .none
    · obtain ⟨vs, h1, _⟩ := h02
      exact ne_of_none h1 nc
    · exact List.nodup_cons.mpr ⟨by simp, List.nodup_nil⟩
    · exact List.mem_singleton.mpr rfl
    · intro p hp
      obtain rfl := List.mem_singleton.mp hp
      exact fun z => nomatch z
    · intro p hp
      obtain rfl := List.mem_singleton.mp hp
      exact ⟨_, .nil⟩
    · exact fun p hp => hp
    · intro p hp np
      exact absurd hp np
    rintro m σ3 H3 ⟨kvs, Q3, L, lv, v4, v5, v6, rfl, rfl, mx, pw, hc, pf, sea, s4, cl⟩
    refine ⟨_, rfl, Nat.zero_le _, fun e ne => ?_⟩
    have s5 := same_put (s := Same.refl H3) (o := .lst []) ne
    refine ⟨c, e, lv, rfl, rfl, .of (s5 _ _ hc), .of upd_same, ?_⟩
    replace mx := mx.same s5
    replace pw := prd_imp pw fun _ _ z => z.stay (Stay.of s5)
    replace hc := s5 _ _ hc
    replace pf := prd_imp pf fun _ _ z => z.stay (Stay.of (c := c) s5)
    replace s4 : Same H (upd H3 e (.lst [])) := fun b o z => s5 _ _ (s4 _ _ z)
    generalize upd H3 e (.lst []) = H4 at mx pw hc pf s4
    rcases List.eq_nil_or_concat L with rfl | ⟨L0, p, eL⟩
    · cases pf
      refine ⟨_, rfl, ?_⟩
      dsimp only
      rw [if_neg (by simp)]
      refine ⟨_, rfl, q d Q3 H4 s4 ⟨kvs, mx, prd_imp pw fun _ _ ⟨e1, f1, b, e2, _, st⟩ => ⟨e1, f1, b, e2, st⟩⟩ (reach_of sea fun p hp => cl p hp (by simp))⟩
    rw [List.concat_eq_append] at eL
    subst eL
    obtain ⟨lv0, v, rfl, pf0, fv⟩ := prd_concat pf
    refine ⟨_, rfl, ?_⟩
    dsimp only
    rw [if_pos (by simp)]
    refine ⟨_, fun _ _ z => z, ?_⟩
    have hp3 : p ∈ Q3 := sea.sub p (by simp)
    have y1 : Stay c H4 (upd H4 c (.lst lv0)) := .list hc
    have pw1 := prd_imp pw fun _ _ z => z.stay y1
    obtain ⟨kv, ⟨_, _, b, eb, nbc, stb⟩, ea⟩ := web_at (fun _ _ z => z.1) sea.nf pw1 hp3
    have fv1 := fv.stay y1
    have mx1 : MixD w (upd H4 c (.lst lv0)) d kvs := ⟨by rw [upd_ne dc]; exact mx.at_, fun x hx => keyV_stay (mx.keys x hx) y1⟩
    have hc1 : upd H4 c (.lst lv0) c = some (.lst lv0) := upd_same
    have pf1 := prd_imp pf0 fun _ _ z => z.stay y1
    have s41 : Same H (upd H4 c (.lst lv0)) := fun b o z => by rw [upd_ne (ne_of_none z ncH)]; exact s4 _ _ z
    refine ⟨_, rfl, _, rfl, .inl ⟨rfl, _, .of hc⟩, c, _, v, rfl, rfl, hc, by simp, ?_⟩
    rw [List.dropLast_concat]
    generalize upd H4 c (.lst lv0) = H5 at y1 pw1 stb fv1 mx1 hc1 pf1 s41 ⊢
    refine ⟨d, kvs, gKey p, _, rfl, mx1.rd, from_key fv1, ea, ?_⟩
    rw [eb]
    obtain ⟨ms, hms, pms⟩ := stb
    refine ⟨b, ms, rfl, .inl (.of hms), fun e2 ne2 => ?_⟩
    have s6 := same_put (s := Same.refl H5) (o := .lst ms) ne2
    have ec : e2 ≠ c := (ne_of_none hc1 ne2).symm
    refine ⟨e2, rfl, ⟨_, .of upd_same⟩, for_it (walk_list (K := K) (a := e2) (xs := ms)) (fun i σ' H' => ∃ kvs Q L lv v4 v5 v6, σ' = [some (.ref a1), some (.ref b1), some (.ref d), some (.ref c), v4, v5, v6] ∧ 2 * ((uni P1 S1).length - Q.length) + L.length ≤ 2 * ((uni P1 S1).length - Q3.length) + L0.length ∧ MixD w H' d kvs ∧ Paired (WebE P1 S1 c H') kvs Q ∧ H' c = some (.lst lv) ∧ Paired (FromV H') lv L ∧ Sea P1 S1 Q L ∧ Same H H' ∧ p ∈ Q ∧ H' e2 = some (.lst ms) ∧ Paired (StV H') ms (moves P1 S1 p) ∧ (∀ m ∈ (moves P1 S1 p).take i, m.2.2 = .fin ∨ m.2.2 ∈ Q) ∧ (∀ p' ∈ Q, p' ≠ p → p' ∉ L → ∀ m ∈ moves P1 S1 p', m.2.2 = .fin ∨ m.2.2 ∈ Q)) ?_ ?_ ?_ ?_⟩
    · refine ⟨kvs, Q3, L0, lv0, v4, v5, v6, rfl, Nat.le_refl _, mx1.same s6, prd_imp pw1 fun _ _ z => z.stay (Stay.of s6), s6 _ _ hc1, prd_imp pf1 fun _ _ z => z.stay (Stay.of (c := c) s6), ⟨sea.nd, sea.st, sea.nf, sea.rc, fun x hx => sea.sub x (List.mem_append_left _ hx), (List.nodup_append.mp sea.ndl).1⟩, fun b o z => s6 _ _ (s41 _ _ z), hp3, upd_same, prd_imp pms fun _ _ z => z.same s6, fun m hm => by simp at hm, fun p' h1 h2 h3 => cl p' h1 fun z => ?_⟩
      rcases List.mem_append.mp z with z | z
      · exact h3 z
      · exact h2 (List.mem_singleton.mp z)
    · rintro i σ5 H6 hi ⟨_, _, _, _, _, _, _, _, _, _, _, _, _, _, _, _, he2, _⟩
      exact .of he2
    · rintro i y σ5 H60 H6 hi ⟨kvs, Q5, L5, lv5, v4, v5, v6, rfl, le5, mx5, pw5, hc5, pf5, sea5, s5, hp5, he5, pm5, tk5, cl5⟩ ⟨rfl, hy⟩
      obtain ⟨mo, hmo, cm, g, rfl, hcm, hg⟩ := prd_at pm5 hy
      have hmem : mo ∈ moves P1 S1 p := List.mem_of_getElem? hmo
      have et : ∀ {R : Mo → Prop}, (∀ m ∈ (moves P1 S1 p).take i, R m) → R mo → ∀ m ∈ (moves P1 S1 p).take (i + 1), R m := fun {R} h1 h2 m hm => by
        rw [List.take_add_one, hmo] at hm
        rcases List.mem_append.mp hm with z | z
        · exact h1 m z
        · rw [List.mem_singleton.mp z]
          exact h2
      refine ⟨cm, _, rfl, .inl (.inl hcm), rfl, _, _, rfl, _, _, rfl, _, _, rfl, rfl, ?_⟩
      refine ⟨_, rfl, _, rfl, d, kvs, gKey mo.2.2, rfl, mx5.rd, goal_key hg, ?_⟩
      by_cases hin : mo.2.2 = .fin ∨ mo.2.2 ∈ Q5
      · have hs : (atM kvs (gKey mo.2.2)).isSome = true := by
          rcases hin with z | z
          · rw [z]
            obtain ⟨kv, _, ea⟩ := web_at (fun _ _ z => z.1) sea5.nf pw5 sea5.st
            rw [show gKey .fin = gKey .start from rfl, ea]
            rfl
          · obtain ⟨kv, _, ea⟩ := web_at (fun _ _ z => z.1) sea5.nf pw5 z
            rw [ea]
            rfl
        rw [hs]
        refine ⟨_, rfl, iteF ?_⟩
        exact ⟨kvs, Q5, L5, lv5, _, _, _, rfl, le5, mx5, pw5, hc5, pf5, sea5, s5, hp5, he5, pm5, et tk5 hin, cl5⟩
      have nf : mo.2.2 ≠ .fin := fun z => hin (.inl z)
      have nq : mo.2.2 ∉ Q5 := fun z => hin (.inr z)
      have nk := web_no (fun _ _ z => z.1) sea5.nf pw5 nf nq
      rw [atM_none nk]
      refine ⟨_, rfl, iteT ?_⟩
      have hmo2 : (mo.1, mo.2.1, mo.2.2) ∈ moves P1 S1 p := hmem
      obtain ⟨wy, wk⟩ := sea5.rc p hp5
      have sea6 : Sea P1 S1 (Q5 ++ [mo.2.2]) (L5 ++ [mo.2.2]) := by
        refine ⟨nd_add sea5.nd nq, List.mem_append_left _ sea5.st, fun x hx => ?_, fun x hx => ?_, fun x hx => ?_, nd_add sea5.ndl fun z => nq (sea5.sub _ z)⟩
        · rcases List.mem_append.mp hx with z | z
          · exact sea5.nf x z
          · rw [List.mem_singleton.mp z]
            exact nf
        · rcases List.mem_append.mp hx with z | z
          · exact sea5.rc x z
          · rw [List.mem_singleton.mp z]
            exact ⟨_, .step wk hmo2⟩
        · rcases List.mem_append.mp hx with z | z
          · exact List.mem_append_left _ (sea5.sub x z)
          · exact List.mem_append_right _ z
      have few := sea6.few nP
      rw [List.length_append] at few
      have few1 : Q5.length + 1 ≤ (uni P1 S1).length := few
      have lk : kvs.length = Q5.length := prd_len pw5
      have hf6 := goal_from hg nf
      refine ⟨_, rfl, _, rfl, _, rfl, g, a1, b1, mo.2.2, P1, S1, rfl, hf6, hW sea6 (List.mem_append_right _ (List.mem_singleton.mpr rfl)), hP.same s5, hS.same s5, sP, sS, fun D6 H7 n6 s7 st6 => ?_⟩
      have mx7 := mx5.same s7
      have d67 : D6 ≠ c := (ne_of_none hc5 n6).symm
      have d6d : D6 ≠ d := (ne_of_none mx5.at_ n6).symm
      refine ⟨_, rfl, _, rfl, d, kvs, gKey mo.2.2, rfl, mx7, by rw [sizeLine_eq]; omega, goal_key (hg.same s7), ?_⟩
      have e7 : putM kvs (gKey mo.2.2) g (.ref D6) = kvs ++ [(gKey mo.2.2, g, .ref D6)] := by
        unfold putM
        rw [if_neg nk]
      have mx8 := mx7.put (k := gKey mo.2.2) (x := g) (v := .ref D6) (goal_key (hg.same s7))
      have y8 : Stay c H7 (upd H7 d (MixO w d (putM kvs (gKey mo.2.2) g (.ref D6)))) := .dict mx7.at_
      rw [e7] at mx8 y8 ⊢
      have y58 : Stay c H6 (upd H7 d (MixO w d (kvs ++ [(gKey mo.2.2, g, .ref D6)]))) := (Stay.of s7).trans y8
      have hc8 : upd H7 d (MixO w d (kvs ++ [(gKey mo.2.2, g, .ref D6)])) c = some (.lst lv5) := by
        rw [upd_ne dc.symm]
        exact s7 _ _ hc5
      have st8 := st6.stay d67 y8
      have s8 : Same H (upd H7 d (MixO w d (kvs ++ [(gKey mo.2.2, g, .ref D6)]))) := fun b o z => by
        rw [upd_ne (ne_of_none z nd)]
        exact s7 _ _ (s5 _ _ z)
      have he8 := y58.l _ _ he5 ec
      generalize upd H7 d (MixO w d (kvs ++ [(gKey mo.2.2, g, .ref D6)])) = H8 at mx8 y58 hc8 st8 s8 he8 ⊢
      have ll5 : lv5.length = L5.length := prd_len pf5
      have hL5 : L5.length ≤ Q5.length := nd_le sea5.ndl sea5.sub
      refine nextS ⟨_, rfl, .inl ⟨rfl, _, .of hc8⟩, _, rfl, c, lv5, _, rfl, rfl, hc8, ?_, ?_⟩
      · rw [sizeLine_eq]
        omega
      have y9 : Stay c H8 (upd H8 c (.lst (lv5 ++ [g]))) := .list hc8
      have y59 := y58.trans y9
      refine ⟨kvs ++ [(gKey mo.2.2, g, .ref D6)], Q5 ++ [mo.2.2], L5 ++ [mo.2.2], lv5 ++ [g], _, _, _, rfl, ?_, ⟨by rw [upd_ne dc]; exact mx8.at_, fun x hx => keyV_stay (mx8.keys x hx) y9⟩, ?_, upd_same, ?_, sea6, fun b o z => ?_, List.mem_append_left _ hp5, y9.l _ _ he8 ec, prd_imp pm5 fun _ _ z => z.stay y59, et (fun m hm => (tk5 m hm).imp id (List.mem_append_left _)) (.inr (List.mem_append_right _ (List.mem_singleton.mpr rfl))), fun p' h1 h2 h3 m hm => ?_⟩
      · rw [List.length_append, List.length_append]
        show 2 * ((uni P1 S1).length - (Q5.length + 1)) + (L5.length + 1) ≤ _
        omega
      · exact (prd_imp pw5 fun _ _ z => z.stay y59).snoc ⟨rfl, hf6.stay y59, D6, rfl, d67, st8.stay d67 y9⟩
      · exact (prd_imp pf5 fun _ _ z => z.stay y59).snoc (hf6.stay y59)
      · rw [upd_ne (ne_of_none z ncH)]
        exact s8 _ _ z
      · rcases List.mem_append.mp h1 with z | z
        · exact (cl5 p' z h2 (fun k => h3 (List.mem_append_left _ k)) m hm).imp id (List.mem_append_left _)
        · exact absurd (List.mem_append_right _ z) h3
    · rintro σ5 H6 ⟨kvs, Q5, L5, lv5, v4, v5, v6, rfl, le5, mx5, pw5, hc5, pf5, sea5, s5, hp5, he5, pm5, tk5, cl5⟩
      rw [prd_len pm5, List.take_length] at tk5
      refine ⟨_, ?_, kvs, Q5, L5, lv5, v4, v5, v6, rfl, rfl, mx5, pw5, hc5, pf5, sea5, s5, fun p' h1 h2 => ?_⟩
      · rw [List.length_append]
        show _ < _ + (L0.length + 1)
        omega
      · by_cases e : p' = p
        · subst e
          exact tk5
        · exact cl5 p' h1 e h2
end
end V8
set_option Elab.async false
set_option linter.all false
set_option maxRecDepth 100000
set_option maxHeartbeats 8000000
set_option pp.maxSteps 900
/-! The law's own order of rests; those that are alive. -/
namespace V8
open PySem PySem.Spec PyProof.Rows L2 MZ MX
abbrev s__law_ordered : Stmt := topS 75
abbrev n__law_ordered : List Str := ["_law_rests", "_law_line", "_law_rest"]
theorem sc__law_ordered : FnScope ["_law_rests", "_law_line", "_law_rest"] ["_law_rests"] (defScope s__law_ordered) := ⟨rfl, rfl, rfl, by decide +kernel, rfl, by decide +kernel, by decide +kernel⟩
def lineS (q : Bool × Wd) : Str := sideS q.1 ++ (" " : Str) ++ Sx q.2
def RestV (H : Hp) (v : V) (q : Bool × Wd) : Prop := ∃ c, v = .ref c ∧ H c = some (.tup [.str (sideS q.1), .str (Sx q.2)])
def OkQs (qs : List (Bool × Wd)) : Prop := qs.length ≤ 1000 ∧ ∀ q ∈ qs, q.2.length ≤ 64 ∧ ∀ c ∈ q.2, isLt c
def spOrdered : Sp := fun vs H Q _ => ∃ (b : Addr) (xs : List V) (qs : List (Bool × Wd)), vs = [.ref b] ∧ H b = some (.lst xs) ∧ Paired (RestV H) xs qs ∧ OkQs qs ∧
  ∀ d H' ys rs, H d = none → Same H H' → H' d = some (.lst ys) → Paired (RestV H') ys rs → rs.Perm qs → (rs.map lineS).Pairwise leS → Q (.ref d) H'
theorem un_map {α β : Type} {f : α → β} {l m : List β} (h : l.Perm m) : ∀ xs : List α, m = xs.map f → ∃ zs : List α, l = zs.map f ∧ zs.Perm xs := by
  induction h with
  | nil =>
    intro xs e
    cases xs with
    | nil => exact ⟨[], rfl, .nil⟩
    | cons _ _ => cases e
  | cons a _ ih =>
    intro xs e
    cases xs with
    | nil => cases e
    | cons x r =>
      injection e with e1 e2
      obtain ⟨zs, e3, p⟩ := ih r e2
      exact ⟨x :: zs, by rw [e1, e3]; rfl, p.cons x⟩
  | swap a b l =>
    intro xs e
    cases xs with
    | nil => cases e
    | cons x r =>
      cases r with
      | nil => cases e
      | cons y r =>
        injection e with e1 e2
        injection e2 with e2 e3
        exact ⟨y :: x :: r, by rw [e1, e2, e3]; rfl, .swap ..⟩
  | trans _ _ ih1 ih2 =>
    intro xs e
    obtain ⟨zs, e1, p1⟩ := ih2 xs e
    obtain ⟨ys, e2, p2⟩ := ih1 zs e1
    exact ⟨ys, e2, p2.trans p1⟩
theorem line_split {q : Bool × Wd} (h : ∀ c ∈ q.2, isLt c) : Txt.split (lineS q) (" " : Str) = [sideS q.1, Sx q.2] := by
  have e : lineS q = Txt.join (" " : Str) [sideS q.1, Sx q.2] := by
    rw [TL.join_eq]
    rfl
  rw [e]
  refine TL.split_join (s := 32) (S := []) rfl (by decide +kernel) (by simp) fun p hp => ?_
  rcases List.mem_cons.mp hp with rfl | hp
  · cases q.1 <;> decide +kernel
  · rw [List.mem_singleton.mp hp]
    intro z
    have z2 : (32 : Nat) ∈ q.2 := z
    have := h 32 z2
    revert this
    unfold isLt
    decide
theorem lineS_len (q : Bool × Wd) : (lineS q).length = 4 + q.2.length := by
  obtain ⟨a, r⟩ := q
  have e : (lineS (a, r)).length = (sideS a ++ (" " : Str)).length + (Sx r).length := Str.length_append _ _
  rw [e, Sx_len]
  cases a <;> rfl
theorem RestV.same {H H' : Hp} {v : V} {q : Bool × Wd} (h : RestV H v q) (s : Same H H') : RestV H' v q := by
  obtain ⟨c, e, hc⟩ := h
  exact ⟨c, e, s _ _ hc⟩
theorem RestV.put {H : Hp} {v : V} {q : Bool × Wd} {D : Addr} {ys : List V} {o : HO} (h : RestV H v q) (hD : H D = some (.lst ys)) : RestV (upd H D o) v q := by
  obtain ⟨c, e, hc⟩ := h
  exact ⟨c, e, by rw [upd_ne (ne_of hc hD (fun z => nomatch z))]; exact hc⟩
section
variable {P : Program} {w : World} {K : PySem.W.Frag} {mg : Str → Option Value} {base : Heap} {CM CJ : Addr}
theorem ok_ordered {f : Addr} {fd : FuncData} (F : Fun K "_law_ordered" "_law_ordered" s__law_ordered f fd) (T : Tz K mg CM CJ) : FnOk P w K mg base CX0 1 f fd ["_law_rests"] spOrdered := by
  refine F.ok sc__law_ordered (fun vs H Q E h => ?_) (fun cdv A outer s H vs Q E hr h => ?_)
  · obtain ⟨b, xs, qs, rfl, _⟩ := h
    rfl
  · obtain ⟨b, xs, qs, rfl, hb, pq, okQ, q⟩ := h
    refine ⟨_, (pss_one (ps_ret (pe_lc (own := [("_law_line", 1)]) (g := gName 1) (by rfl) sc__law_ordered.nd (pi_list (pe_callB cr_sortedT (by rfl) T.sorted (by decide +kernel) (pa_cons (pe_lc (own := [("_law_rest", 2)]) (g := gName 2) (by rfl) sc__law_ordered.nd (pi_list (pv 0)) (blkOk_by (own := [("_law_rest", 2)]) (N := n__law_ordered) (sc := defScope s__law_ordered) (by decide +kernel)) (fun _ _ _ _ _ => (pg_name (i := 2) sc__law_ordered.nd rfl (.inl rfl))) (fun _ _ _ _ _ => pts_nil) (fun _ _ _ _ _ => (pe_callTy call_strS (by rfl) T.str (by decide +kernel) (pa_cons (pe_op op_add_str (pe_op op_add_str (pe_ix (ix_tupK (K := K) rfl) (pv 2) pe_int (fun _ _ => rfl)) pe_str) (pe_ix (ix_tupK (K := K) rfl) (pv 2) pe_int (fun _ _ => rfl))) pa_nil)))) pa_nil))) (blkOk_by (own := [("_law_line", 1)]) (N := n__law_ordered) (sc := defScope s__law_ordered) (by decide +kernel)) (fun _ _ _ _ _ => (pg_name (i := 1) sc__law_ordered.nd rfl (.inl rfl))) (fun _ _ _ _ _ => pts_nil) (fun _ _ _ _ _ => (pe_callTy (call_tuple_ofK (K := K) rfl) (by rfl) T.tuple (by decide +kernel) (pa_cons (pe_bmK (K := K) rfl PySem.F.plainAttrs_str PySem.F.slot_str_split PySem.F.type_str_split mt_split (pv 1) (pa_cons pe_str pa_nil)) pa_nil)))))), ?_⟩
    have lq := okQ.1
    have lx := prd_len pq
    refine ⟨_, rfl, b, rfl, ⟨_, .of hb⟩, fun D nD => lc_list (xs := xs) (fun i H2 => H2 = upd H D (.lst ((((qs.map lineS).map V.str)).take i))) rfl ?_ ?_ ?_⟩
    · rintro i H2 hi rfl
      exact .of (by rw [upd_ne (ne_of_none hb nD)]; exact hb)
    · rintro i x H2 hx rfl
      obtain ⟨q0, hq0, c, rfl, hc⟩ := prd_at pq hx
      have hc2 : upd H D (.lst ((((qs.map lineS).map V.str)).take i)) c = some (.tup [.str (sideS q0.1), .str (Sx q0.2)]) := by rw [upd_ne (ne_of_none hc nD)]; exact hc
      have l64 := (okQ.2 q0 (List.mem_of_getElem? hq0)).1
      refine ⟨rfl, _, rfl, c, _, _, _, rfl, rfl, .inl (.inl hc2), atI_nat (j := 0) rfl, _, _, rfl, rfl, ?_, _, rfl, c, _, _, _, rfl, rfl, .inl (.inl hc2), atI_nat (j := 1) rfl, _, _, rfl, rfl, ?_, ?_⟩
      · cases q0.1 <;> decide
      · rw [Sx_len, sizeLine_eq]
        have e4 : (sideS q0.1 ++ (" " : Str)).length = 4 := by cases q0.1 <;> rfl
        have e5 : (sideS q0.1 ++ (" " : Str)).length + q0.2.length ≤ 1000 := by omega
        exact Nat.le_trans e5 (by decide)
      refine ⟨_, rfl, ?_⟩
      have hz : ((qs.map lineS).map V.str)[i]? = some (V.str (lineS q0)) := by
        rw [List.getElem?_map, List.getElem?_map, hq0]
        rfl
      exact acc_okL hz (by rw [List.length_map, List.length_map, sizeLine_eq]; omega)
    rintro H2 rfl
    rw [List.take_of_length_le (by rw [List.length_map, List.length_map, lx]; exact Nat.le_refl _)]
    refine ⟨D, qs.map lineS, rfl, .of upd_same, fun ns' e pe pw ne => ?_⟩
    obtain ⟨rs, rfl, pr⟩ := un_map pe qs rfl
    have s1 := same_put (s := Same.refl H) (o := .lst ((qs.map lineS).map V.str)) nD
    generalize upd H D (.lst ((qs.map lineS).map V.str)) = H1 at s1 ne ⊢
    have s2 := same_put (s := s1) (o := .lst ((rs.map lineS).map V.str)) ne
    have he : upd H1 e (.lst ((rs.map lineS).map V.str)) e = some (.lst ((rs.map lineS).map V.str)) := upd_same
    generalize upd H1 e (.lst ((rs.map lineS).map V.str)) = H2 at s2 he ⊢
    have lr : rs.length ≤ 1000 := by rw [pr.length_eq]; exact lq
    refine ⟨e, rfl, ⟨_, .of he⟩, fun D2 nD2 => lc_list (xs := (rs.map lineS).map V.str) (fun i H3 => ∃ ys, H3 D2 = some (.lst ys) ∧ Paired (RestV H3) ys (rs.take i) ∧ Same H2 H3) ?_ ?_ ?_ ?_⟩
    · exact ⟨[], upd_same, .nil, same_put (s := Same.refl H2) nD2⟩
    · rintro i H3 hi ⟨ys, _, _, s3⟩
      exact .of (s3 _ _ he)
    · rintro i x H3 hx ⟨ys, hD, py, s3⟩
      rw [List.getElem?_map, List.getElem?_map] at hx
      obtain ⟨_, hx2, rfl⟩ := Option.map_eq_some_iff.mp hx
      obtain ⟨q0, hq0, rfl⟩ := Option.map_eq_some_iff.mp hx2
      obtain ⟨l64, lt⟩ := okQ.2 q0 (pr.mem_iff.mp (List.mem_of_getElem? hq0))
      have ly := prd_len py
      rw [List.length_take] at ly
      refine ⟨rfl, _, rfl, rfl, _, _, rfl, rfl, rfl, by rw [lineS_len, sizeLine_eq]; omega, fun p np => ?_⟩
      rw [line_split lt]
      have s4 := same_put (s := Same.refl H3) (o := .lst ([sideS q0.1, Sx q0.2].map V.str)) np
      have hp : upd H3 p (.lst ([sideS q0.1, Sx q0.2].map V.str)) p = some (.lst [.str (sideS q0.1), .str (Sx q0.2)]) := upd_same
      generalize upd H3 p (.lst ([sideS q0.1, Sx q0.2].map V.str)) = H4 at s4 hp ⊢
      refine ⟨p, _, rfl, .inl ⟨.of hp, fun l nl => ?_⟩⟩
      have s5 := same_put (s := s4) (o := .tup [.str (sideS q0.1), .str (Sx q0.2)]) nl
      have hl : upd H4 l (.tup [.str (sideS q0.1), .str (Sx q0.2)]) l = some (.tup [.str (sideS q0.1), .str (Sx q0.2)]) := upd_same
      generalize upd H4 l (.tup [.str (sideS q0.1), .str (Sx q0.2)]) = H5 at s5 hl ⊢
      have hD5 := s5 _ _ hD
      refine ⟨ys, hD5, by rw [sizeLine_eq]; omega, ys ++ [.ref l], upd_same, ?_, ?_⟩
      · rw [List.take_add_one, hq0]
        exact (prd_imp py fun _ _ z => (z.same s5).put hD5).snoc (RestV.put ⟨l, rfl, hl⟩ hD5)
      · intro b o z
        rw [upd_ne (ne_of_none z nD2)]
        exact s5 _ _ (s3 _ _ z)
    · rintro H3 ⟨ys, hD, py, s3⟩
      rw [List.length_map, List.length_map, List.take_length] at py
      have s6 : Same H H3 := fun b o z => s3 _ _ (s2 _ _ z)
      refine q D2 H3 ys rs ?_ s6 hD py pr pw
      cases z : H D2 with
      | none => rfl
      | some o =>
        rw [s2 _ _ z] at nD2
        cases nD2
end
end V8
set_option Elab.async false
set_option linter.all false
set_option maxRecDepth 100000
set_option maxHeartbeats 8000000
set_option pp.maxSteps 900
/-! Those rests that are alive. -/
namespace V8
open PySem PySem.Spec PyProof.Rows L2 MZ MX
abbrev s__law_alive : Stmt := topS 78
abbrev n__law_alive : List Str := ["_law_web_here", "_law_found", "_law_size", "_law_rest", "_law_side", "_law_label", "_law_goal"]
theorem sc__law_alive : FnScope ["_law_web_here", "_law_found", "_law_size", "_law_rest", "_law_side", "_law_label", "_law_goal"] ["_law_web_here"] (defScope s__law_alive) := ⟨rfl, rfl, rfl, by decide +kernel, rfl, by decide +kernel, by decide +kernel⟩
/-- a goal or a place that is as good as found -/
def gd (L : List (Bool × Wd)) : Pl → Bool
  | .fin => true
  | .rest a r => decide ((a, r) ∈ L)
  | .start => false
def restO : Pl → Option (Bool × Wd)
  | .rest a r => some (a, r)
  | _ => none
theorem goal_dp {K : PySem.W.Frag} {H : Hp} {v : V} {p : Pl} (h : GoalV H v p) : Dp K H v (ldD (restO p)) := by
  cases p with
  | start => exact h.elim
  | fin =>
    cases (show v = .non from h)
    exact .non
  | rest a r =>
    obtain ⟨c, rfl, hc⟩ := h
    exact .tup (.inl (.inl hc)) (.cons (.str _) (.cons (.str _) .nil))
def restsL (L : List (Bool × Wd)) : PyData := .list (L.map fun q => ldD (some q))
theorem rests_dp {K : PySem.W.Frag} {H : Hp} {e : Addr} {fs : List V} {L : List (Bool × Wd)} (h : H e = some (.lst fs)) (p : Paired (RestV H) fs L) : Dp K H (.ref e) (restsL L) := by
  refine .lst (.of h) ?_
  clear h
  induction p with
  | nil => exact .nil
  | cons r _ ih =>
    obtain ⟨c, rfl, hc⟩ := r
    exact .cons (.tup (.inl (.inl hc)) (.cons (.str _) (.cons (.str _) .nil))) ih
theorem shaped_list {n : Nat} {ds : List PyData} (h : ∀ e ∈ ds, TD n e) (hn : n ≤ 60) : SeqAt.shaped (.list ds) = true := by
  obtain ⟨a, b⟩ := tds_lay n ds h
  refine shaped_of a ?_
  simp only [PyData.depth]
  omega
theorem ld_td {k : Bool × Wd} (h : ∀ c ∈ k.2, isLt c) : TD 1 (ldD (some k)) := by
  refine .inr ⟨_, rfl, by show 2 ≤ 200; decide, fun e he => ?_⟩
  rcases List.mem_cons.mp he with rfl | he
  · exact .inr (.inl ⟨_, rfl, side_ok k.1⟩)
  · rw [List.mem_singleton.mp he]
    exact .inr (.inl ⟨_, rfl, ok_sx h⟩)
theorem rests_shaped {L : List (Bool × Wd)} (h : ∀ q ∈ L, ∀ c ∈ q.2, isLt c) : SeqAt.shaped (restsL L) = true := shaped_list (n := 1) (fun e he => by
  obtain ⟨q, hq, rfl⟩ := List.mem_map.mp he
  exact ld_td (h q hq)) (by decide)
theorem any_rests (L : List (Bool × Wd)) (o : Option (Bool × Wd)) : ((L.map fun q => ldD (some q)).any fun z => PyData.eqv z (ldD o)) = decide (∃ q ∈ L, o = some q) := by
  rw [List.any_map, Bool.eq_iff_iff, List.any_eq_true, decide_eq_true_iff]
  constructor
  · rintro ⟨q, hq, e⟩
    have e2 : PyData.eqv (ldD (some q)) (ldD o) = true := e
    rw [ld_eqv, decide_eq_true_iff] at e2
    exact ⟨q, hq, e2⟩
  · rintro ⟨q, hq, e⟩
    refine ⟨q, hq, ?_⟩
    show PyData.eqv (ldD (some q)) (ldD o) = true
    rw [ld_eqv, decide_eq_true_iff]
    exact e
theorem restO_lt {p : Pl} (h : ∀ a r, p = .rest a r → ∀ c ∈ r, isLt c) : ∀ k, restO p = some k → ∀ c ∈ k.2, isLt c := by
  intro k e
  cases p with
  | start => cases e
  | fin => cases e
  | rest a r =>
    cases e
    exact h a r rfl
theorem rest_word {P S : List Pr} (oP : PrOk P) (oS : PrOk S) (hP : ∀ q ∈ P, q.1 ≠ []) {x : Bool} {r : List Nat} {w : List Nat × List Nat} (h : Way P S .start (.rest x r) w) : r.length ≤ 64 ∧ ∀ c ∈ r, isLt c := by
  refine ⟨rest64 oP oS hP h, ?_⟩
  have z := (reach_uni hP h).2
  cases x with
  | true =>
    obtain ⟨_, q, hq, a, e⟩ := z
    exact fun c hc => (oP.2 q hq).2 c (by rw [e]; exact List.mem_append_right _ hc)
  | false =>
    obtain ⟨_, q, hq, a, e⟩ := z
    exact fun c hc => (oS.2 q hq).2 c (by rw [e]; exact List.mem_append_right _ hc)
theorem move_way {P S : List Pr} {p q : Pl} {m : Mo} {v : List Nat × List Nat} (hm : m ∈ moves P S p) (h : Way P S m.2.2 q v) : ∃ u, Way P S p q u := by
  have hm2 : (m.1, m.2.1, m.2.2) ∈ moves P S p := hm
  exact ⟨_, Way.trans (Way.step .nil hm2) h⟩
/-- rests that are alive -/
structure AlS (P S : List Pr) (Qs : List Pl) (L : List (Bool × Wd)) : Prop where
  nd : L.Nodup
  al : ∀ q ∈ L, Pl.rest q.1 q.2 ∈ Qs ∧ ∃ v, Way P S (.rest q.1 q.2) .fin v
/-- all that are -/
structure AlV (P S : List Pr) (Qs : List Pl) (L : List (Bool × Wd)) : Prop where
  nd : L.Nodup
  mem : ∀ q : Bool × Wd, q ∈ L ↔ Pl.rest q.1 q.2 ∈ Qs ∧ ∃ v, Way P S (.rest q.1 q.2) .fin v
theorem no_start {P S : List Pr} {o p : Pl} {w : List Nat × List Nat} (h : Way P S o p w) (ho : o ≠ .start) : p ≠ .start := by
  cases h with
  | nil => exact ho
  | step h m =>
    rename_i p1 _ _ _
    intro e
    subst e
    cases p1 with
    | fin => cases m
    | start =>
      obtain ⟨_, _, e⟩ := List.mem_map.mp m
      cases e
    | rest a r =>
      obtain ⟨_, _, e⟩ := List.mem_filterMap.mp m
      obtain ⟨t, e1, e2⟩ := Option.map_eq_some_iff.mp e
      cases e2
      rcases behind_cases e1 with ⟨_, h⟩ | ⟨_, _, _, h⟩ | ⟨_, _, _, h⟩ <;> cases h
theorem al_all {P S : List Pr} {Qs : List Pl} {L : List (Bool × Wd)} (rc : Reach P S Qs) (h : AlS P S Qs L) (cl : ∀ a r, Pl.rest a r ∈ Qs → (a, r) ∉ L → ∀ m ∈ moves P S (.rest a r), gd L m.2.2 = false) : AlV P S Qs L := by
  refine ⟨h.nd, fun q => ⟨h.al q, ?_⟩⟩
  rintro ⟨hq, v, k⟩
  have key : ∀ {o p : Pl} {w : List Nat × List Nat}, Way P S o p w → o ∈ Qs → o ≠ .start → gd L p = true → gd L o = true := by
    intro o p w k
    induction k with
    | nil => exact fun _ _ g => g
    | @step p1 w1 t l p2 k m ih =>
      intro ho no g
      refine ih ho no ?_
      have n1 := no_start k no
      cases p1 with
      | start => exact absurd rfl n1
      | fin => rfl
      | rest a r =>
        show decide ((a, r) ∈ L) = true
        rw [decide_eq_true_iff]
        refine Decidable.byContradiction fun nh => ?_
        obtain ⟨w0, k0⟩ := ((rc.mem o).mp ho).2
        have z := cl a r ((rc.mem _).mpr ⟨(fun e => nomatch e), _, k0.trans k⟩) nh _ m
        rw [g] at z
        cases z
  have z := key k hq (fun e => nomatch e) rfl
  exact of_decide_eq_true z
theorem uni_600 {P S : List Pr} (oP : PrOk P) (oS : PrOk S) : (uni P S).length ≤ 600 := by
  rw [uni_len]
  have f1 := sum_ok oP
  have f2 := sum_ok oS
  omega
theorem Reach.few {P S : List Pr} {Q : List Pl} (h : Reach P S Q) (oP : PrOk P) (oS : PrOk S) (hP : ∀ q ∈ P, q.1 ≠ []) : Q.length ≤ 600 := Nat.le_trans (nd_le h.nd fun p hp => by
  obtain ⟨_, w, k⟩ := (h.mem p).mp hp
  exact (reach_uni hP k).1) (uni_600 oP oS)
theorem AlS.few {P S : List Pr} {Q : List Pl} {L : List (Bool × Wd)} (h : AlS P S Q L) : L.length ≤ Q.length := by
  have e : (L.map fun q => Pl.rest q.1 q.2).Nodup := List.Pairwise.map _ (fun a b hab e => hab (by cases a; cases b; cases e; rfl)) h.nd
  have z := nd_le e (b := Q) fun p hp => by
    obtain ⟨q, hq, rfl⟩ := List.mem_map.mp hp
    exact (h.al q hq).1
  rw [List.length_map] at z
  exact z
theorem AlS.ok {P S : List Pr} {Q : List Pl} {L : List (Bool × Wd)} (h : AlS P S Q L) (rc : Reach P S Q) (oP : PrOk P) (oS : PrOk S) (hP : ∀ q ∈ P, q.1 ≠ []) : OkQs L := by
  have f1 := h.few
  have f2 := rc.few oP oS hP
  refine ⟨by omega, fun q hq => ?_⟩
  obtain ⟨_, w, k⟩ := (rc.mem _).mp (h.al q hq).1
  exact rest_word oP oS hP k
section
variable {P : Program} {w : World} {K : PySem.W.Frag} {mg : Str → Option Value} {base : Heap} {CM CJ : Addr}
def spAlive (w : World) : Sp := fun vs H Q _ => ∃ (d : Addr) (P S : List Pr) (Qs : List Pl), vs = [.ref d] ∧ WebM w P S H d Qs ∧ Reach P S Qs ∧ PrOk P ∧ PrOk S ∧ (∀ q ∈ P, q.1 ≠ []) ∧
  ∀ e H' ys rs, H e = none → Same H H' → H' e = some (.lst ys) → Paired (RestV H') ys rs → (rs.map lineS).Pairwise leS → AlV P S Qs rs → Q (.ref e) H'
theorem ok_alive {f : Addr} {fd : FuncData} (F : Fun K "_law_alive" "_law_alive" s__law_alive f fd) (T : Tz K mg CM CJ) (D_ordered : Df P w K mg base 1 "_law_ordered" spOrdered) : FnOk P w K mg base CX0 2 f fd ["_law_web_here"] (spAlive w) := by
  refine F.ok sc__law_alive (fun vs H Q E h => ?_) (fun cdv A outer s H vs Q E hr h => ?_)
  · obtain ⟨d, P, S, Qs, rfl, _⟩ := h
    rfl
  · obtain ⟨d, P1, S1, Qs, rfl, hw, rc, okP, okS, nP, q⟩ := h
    refine ⟨_, (pss_cons (ps_asg (pe_tup (pa_cons (pe_lst pa_nil) (pa_cons (pe_un un_neg pe_int) pa_nil))) (pg_tup (by rfl) (pgs_cons (pg_name (i := 1) sc__law_alive.nd rfl (.inr rfl)) (pgs_cons (pg_name (i := 2) sc__law_alive.nd rfl (.inl rfl)) pgs_nil))))
      (pss_cons (ps_while PassesOwn.never (pt_cmpR op_lt (pv 2) (pe_callB (call_len_seqK (K := K) rfl) (by rfl) T.len (by decide +kernel) (pa_cons (pv 1) pa_nil)) (nomark _))
        (pss_cons (ps_set (i := 2) sc__law_alive.nd rfl (.inl rfl) (pe_callB (call_len_seqK (K := K) rfl) (by rfl) T.len (by decide +kernel) (pa_cons (pv 1) pa_nil)))
        (pss_one (ps_lock (ps_for PassesOwn.never rfl (pi_keysW (w := w) rfl (pv 0)) (pg_name (i := 3) sc__law_alive.nd rfl (.inl rfl))
          (pss_one (ps_if (PW.pt (pw_and (pt_cmpR op_notN (pv 3) pe_non (nomark _)) (pw_and1 (pt_cmpR (op_notInDK (K := K) rfl (hu65 hr)) (pv 3) (pv 1) rfl))))
            (pss_one (ps_if (pt_cmpR (op_neNilK (K := K) rfl hr.units0) (pe_lc (own := [("_law_side", 4), ("_law_label", 5), ("_law_goal", 6)]) (g := gTup K 3 (gCons (gName 4) (gCons (gName 5) (gCons (gName 6) gNil)))) (by rfl) sc__law_alive.nd (pi_list (pe_getR (w := w) rfl (u9 hr) (pv 0) (pv 3) (fun _ _ => rfl))) (blkOk_by (own := [("_law_side", 4), ("_law_label", 5), ("_law_goal", 6)]) (N := n__law_alive) (sc := defScope s__law_alive) (by decide +kernel)) (fun _ _ _ _ _ => (pg_tup (by rfl) (pgs_cons (pg_name (i := 4) sc__law_alive.nd rfl (.inl rfl)) (pgs_cons (pg_name (i := 5) sc__law_alive.nd rfl (.inl rfl)) (pgs_cons (pg_name (i := 6) sc__law_alive.nd rfl (.inl rfl)) pgs_nil))))) (fun _ _ _ _ _ => (pts_one (PW.pt (pw_or (pt_cmpR op_isN (pv 6) pe_non (nomark _)) (pw_or1 (pt_cmpR (op_inDK (K := K) rfl (hu65 hr)) (pv 6) (pv 1) rfl)))))) (fun _ _ _ _ _ => (pv 6))) (pe_lst pa_nil) (nomark _))
              (pss_one (ps_expr (pe_bmK (K := K) rfl PySem.F.plainAttrs_list PySem.F.slot_list_append PySem.F.type_list_append mt_append (pv 1) (pa_cons (pv 3) pa_nil))))
              pss_nil))
            pss_nil)))))))
      (pss_one (ps_ret (pe_c D_ordered hr (by decide) (by rfl) (pa_cons (pv 1) pa_nil)))))), ?_⟩
    refine ⟨Nat.zero_le _, fun e ne => ⟨_, rfl, by show 2 ≤ sizeLine; decide, fun t nt => ⟨t, _, rfl, .of upd_same, rfl, _, _, rfl, _, _, rfl, rfl, ?_⟩⟩⟩
    have s0 := same_put (s := same_put (s := Same.refl H) (o := .lst []) ne) (o := .tup [.ref e, .int (-1)]) nt
    have he0 := same_put (s := Same.refl (upd H e (.lst []))) (o := .tup [.ref e, .int (-1)]) nt e _ upd_same
    show tSeq _ _ _ _ (upd (upd H e (.lst [])) t (.tup [.ref e, .int (-1)]))
    generalize upd (upd H e (.lst [])) t (.tup [.ref e, .int (-1)]) = H0 at s0 he0 ⊢
    have fewQ := rc.few okP okS nP
    obtain ⟨kvs, mx, pw⟩ := hw
    have pwL := prd_len pw
    have de : d ≠ e := ne_of_none mx.at_ ne
    have wrd : ∀ {a : Bool} {r : Wd}, Pl.rest a r ∈ Qs → ∀ c ∈ r, isLt c := fun {a r} hp => by
      obtain ⟨_, w0, k⟩ := (rc.mem _).mp hp
      exact (rest_word okP okS nP k).2
    have inQ : ∀ {a : Bool} {r : Wd}, Pl.rest a r ∈ Qs → ∀ m ∈ moves P1 S1 (.rest a r), m.2.2 = .fin ∨ m.2.2 ∈ Qs := fun {a r} hp m hm => by
      obtain ⟨_, w0, k⟩ := (rc.mem _).mp hp
      by_cases z : m.2.2 = .fin
      · exact .inl z
      · have hm2 : (m.1, m.2.1, m.2.2) ∈ moves P1 S1 (.rest a r) := hm
        exact .inr ((rc.mem _).mpr ⟨z, _, .step k hm2⟩)
    refine ⟨fun m σ' H' => ∃ (L : List (Bool × Wd)) (fs : List V) (sz : Int) (v3 v4 v5 v6 : Option V), σ' = [some (.ref d), some (.ref e), some (.int sz), v3, v4, v5, v6] ∧ m = 2 * (Qs.length - L.length) + (if sz < (L.length : Int) then 1 else 0) ∧ sz ≤ (L.length : Int) ∧ H' e = some (.lst fs) ∧ Paired (RestV H') fs L ∧ AlS P1 S1 Qs L ∧
      (sz = (L.length : Int) → ∀ a r, Pl.rest a r ∈ Qs → (a, r) ∉ L → ∀ m ∈ moves P1 S1 (.rest a r), gd L m.2.2 = false) ∧ Same H H', ⟨_, [], [], -1, _, _, _, _, rfl, rfl, by decide, he0, .nil, ⟨List.nodup_nil, fun q hq => nomatch hq⟩, (fun z => by cases z), s0⟩, ?_⟩
    rintro m σ1 H1 ⟨L, fs, sz, v3, v4, v5, v6, rfl, rfl, hsz, he, pf, al, cl, s1⟩
    have lf := prd_len pf
    have fewL := al.few
    refine ⟨_, rfl, _, rfl, e, fs, rfl, .inl (.of he), sz, _, rfl, rfl, _, rfl, ?_⟩
    dsimp only
    by_cases hlt : sz < (fs.length : Int)
    rotate_left
    · rw [decide_eq_false hlt, if_neg (by simp)]
      have ez : sz = (L.length : Int) := by omega
      refine ⟨_, rfl, ?_⟩
      refine ⟨e, fs, L, rfl, he, pf, al.ok rc okP okS nP, fun e2 H2 ys rs n2 s2 h2 p2 pm pws => ?_⟩
      have s3 : Same H H2 := fun b o z => s2 _ _ (s1 _ _ z)
      have ne2 : H e2 = none := by
        cases z : H e2 with
        | none => rfl
        | some o =>
          rw [s1 _ _ z] at n2
          cases n2
      have av := al_all rc al (cl ez)
      exact q e2 H2 ys rs ne2 s3 h2 p2 pws ⟨pm.nodup_iff.mpr av.nd, fun q0 => pm.mem_iff.trans (av.mem q0)⟩
    rw [decide_eq_true hlt, if_pos rfl]
    have hlt2 : sz < (L.length : Int) := by omega
    refine ⟨_, fun _ _ z => z, _, rfl, e, fs, rfl, .inl (.of he), ?_⟩
    rw [lf]
    have mx1 := mx.same s1
    refine ⟨d, _, mx1.at_, True.intro, fun od => ⟨_, rfl, d, od, kvs, rfl, upd_same, ?_⟩⟩
    have heL : upd H1 d (.frz od (MixO w d kvs)) e = some (.lst fs) := by rw [upd_ne de.symm]; exact he
    have hdL : upd H1 d (.frz od (MixO w d kvs)) d = some (.frz od (MixO w d kvs)) := upd_same
    have tkL : ∀ b xs, H1 b = some (.tup xs) → upd H1 d (.frz od (MixO w d kvs)) b = some (.tup xs) := fun b xs z => by
      rw [upd_ne (ne_of z mx1.at_ (fun y => nomatch y))]
      exact z
    have lkL : ∀ b xs, H1 b = some (.lst xs) → upd H1 d (.frz od (MixO w d kvs)) b = some (.lst xs) := fun b xs z => by
      rw [upd_ne (ne_of z mx1.at_ (fun y => nomatch y))]
      exact z
    have y1 : Stay e H1 (upd H1 d (.frz od (MixO w d kvs))) := ⟨tkL, fun b xs z _ => lkL b xs z⟩
    have y0 : Stay e H (upd H1 d (.frz od (MixO w d kvs))) := (Stay.of s1).trans y1
    have pwL2 : Paired (WebE P1 S1 e (upd H1 d (.frz od (MixO w d kvs)))) kvs Qs := prd_imp pw fun _ _ ⟨e1, f1, b, e2, st⟩ => ⟨e1, f1.stay y0, b, e2, (by
      obtain ⟨vs, h1, _⟩ := st
      exact ne_of_none h1 ne), st.stay (by
      obtain ⟨vs, h1, _⟩ := st
      exact ne_of_none h1 ne) y0⟩
    have pfL : Paired (RestV (upd H1 d (.frz od (MixO w d kvs)))) fs L := prd_imp pf fun _ _ ⟨c, z, hc⟩ => ⟨c, z, tkL _ _ hc⟩
    have kyL : ∀ p ∈ kvs, KeyV (upd H1 d (.frz od (MixO w d kvs))) p.1 p.2.1 := fun p hp => keyV_stay (mx1.keys p hp) y1
    have hrs : ∀ b o, b ≠ d → upd H1 d (.frz od (MixO w d kvs)) b = some o → H1 b = some o := fun b o n z => by
      rw [upd_ne n] at z
      exact z
    have hrs2 : ∀ b o, b ≠ d → H1 b = some o → upd H1 d (.frz od (MixO w d kvs)) b = some o := fun b o n z => by
      rw [upd_ne n]
      exact z
    generalize upd H1 d (.frz od (MixO w d kvs)) = HL at heL hdL y0 pwL2 pfL kyL hrs hrs2 ⊢
    refine for_it (walk_keysM (w := w) (d := d) (o := od) (kvs := kvs)) (fun i σ' H4 => ∃ (L' : List (Bool × Wd)) (fs' : List V) (v3 v4 v5 v6 : Option V), σ' = [some (.ref d), some (.ref e), some (.int (L.length : Nat)), v3, v4, v5, v6] ∧ H4 e = some (.lst fs') ∧ Paired (RestV H4) fs' L' ∧ AlS P1 S1 Qs L' ∧ L.length ≤ L'.length ∧
      (L'.length = L.length → L' = L ∧ ∀ j, j < i → ∀ a r, Qs[j]? = some (.rest a r) → (a, r) ∉ L → ∀ m ∈ moves P1 S1 (.rest a r), gd L m.2.2 = false) ∧ (∀ b o, HL b = some o → b ≠ e → H4 b = some o)) ?_ ?_ ?_ ?_
    · exact ⟨L, fs, v3, v4, v5, v6, rfl, heL, pfL, al, Nat.le_refl _, fun _ => ⟨rfl, fun j hj => absurd hj (Nat.not_lt_zero _)⟩, fun b o z _ => z⟩
    · rintro i σ' H4 hi ⟨_, _, _, _, _, _, _, _, _, _, _, _, u⟩
      exact u _ _ hdL de
    · rintro i y σ' H40 H4 hi ⟨L', fs', w3, w4, w5, w6, rfl, he4, pf4, al4, le4, cl4, u4⟩ ⟨rfl, k0, v0, hk0⟩
      have y4 : Stay e HL H4 := ⟨fun b xs z => u4 b _ z (ne_of z heL (fun y => nomatch y)), fun b xs z n => u4 b _ z n⟩
      obtain ⟨p, hp, ek, fv, b, eb, nb, st⟩ := prd_at pwL2 hk0
      dsimp only at ek fv eb
      subst ek
      have fv4 := fv.stay y4
      have st4 := st.stay nb y4
      have hpQ : p ∈ Qs := List.mem_of_getElem? hp
      have okL := al4.ok rc okP okS nP
      have lf4 := prd_len pf4
      have mr4 : MixR w H4 d kvs := ⟨.inr ⟨od, u4 _ _ hdL de⟩, fun x hx => keyV_stay (kyL x hx) y4⟩
      have skip : (∀ a r, p = .rest a r → (a, r) ∉ L' → ∀ m ∈ moves P1 S1 (.rest a r), gd L' m.2.2 = false) → (L'.length = L.length → L' = L ∧ ∀ j, j < i + 1 → ∀ a r, Qs[j]? = some (.rest a r) → (a, r) ∉ L → ∀ m ∈ moves P1 S1 (.rest a r), gd L m.2.2 = false) := fun h z => by
        obtain ⟨e1, c1⟩ := cl4 z
        subst e1
        refine ⟨rfl, fun j hj a r hjr hn => ?_⟩
        by_cases h2 : j < i
        · exact c1 j h2 a r hjr hn
        · have : j = i := by omega
          subst this
          rw [hp] at hjr
          exact h a r (Option.some.inj hjr) hn
      refine ⟨_, rfl, rfl, _, rfl, ?_⟩
      cases p with
      | fin => exact fv.elim
      | start =>
        obtain rfl : y = .non := fv
        rw [decide_eq_true rfl]
        refine iteF (iteF ?_)
        exact ⟨L', fs', _, w4, w5, w6, rfl, he4, pf4, al4, le4, skip (fun a r z => nomatch z), u4⟩
      | rest a r =>
        have fv0 : FromV H4 y (.rest a r) := fv4
        have gv4 : GoalV H4 y (.rest a r) := fv4
        obtain ⟨c, rfl, hc⟩ := fv0
        rw [decide_eq_false (show ¬ V.ref c = V.non from fun z => nomatch z)]
        have lt4 : ∀ q ∈ L', ∀ c ∈ q.2, isLt c := fun q hq => (okL.2 q hq).2
        refine iteT ⟨_, rfl, _, rfl, _, _, goal_dp gv4, rests_dp he4 pf4, ld_shaped (restO_lt fun a2 r2 z => by cases z; exact wrd hpQ), rests_shaped lt4, ?_⟩
        rw [any_rests]
        refine ⟨_, rfl, ?_⟩
        by_cases hin : (a, r) ∈ L'
        · rw [decide_eq_true (show ∃ q ∈ L', restO (.rest a r) = some q from ⟨_, hin, rfl⟩)]
          refine iteF ?_
          exact ⟨L', fs', _, w4, w5, w6, rfl, he4, pf4, al4, le4, skip (fun a2 r2 z n => by cases z; exact absurd hin n), u4⟩
        rw [decide_eq_false (show ¬ ∃ q ∈ L', restO (.rest a r) = some q from fun ⟨q, hq, z⟩ => hin (by cases z; exact hq))]
        refine iteT ?_
        obtain ⟨kv, ⟨_, _, b, eb2, nb2, st2⟩, ea⟩ := web_at (fun _ _ z => z.1) (fun p hp => ((rc.mem p).mp hp).1) pwL2 hpQ
        rw [eb2] at ea
        obtain ⟨ms, hms, pms⟩ := st2.stay nb2 y4
        refine ⟨_, rfl, _, rfl, d, kvs, _, _, rfl, mr4, from_key fv4, ea, b, rfl, ⟨_, .of hms⟩, fun D nD => ?_⟩
        have bD := ne_of_none hms nD
        have eD := ne_of_none he4 nD
        refine lc_list (xs := ms) (fun j H5 => ∃ ys, H5 D = some (.lst ys) ∧ (ys = [] ↔ ∀ m ∈ (moves P1 S1 (.rest a r)).take j, gd L' m.2.2 = false) ∧ ys.length ≤ j ∧ Same H4 H5) ?_ ?_ ?_ ?_
        · exact ⟨[], upd_same, ⟨fun _ m hm => by simp at hm, fun _ => rfl⟩, Nat.le_refl _, same_put (s := Same.refl H4) nD⟩
        · rintro j H5 hj ⟨_, _, _, _, s5⟩
          exact .of (s5 _ _ hms)
        · rintro j x H5 hx ⟨ys, hD, ys0, ly, s5⟩
          obtain ⟨mo, hmo, cm, g, rfl, hcm, hg⟩ := prd_at pms hx
          have hmem : mo ∈ moves P1 S1 (.rest a r) := List.mem_of_getElem? hmo
          have hg5 := hg.same s5
          have lj : ms.length ≤ 30 := by
            rw [prd_len pms]
            refine Nat.le_trans (List.length_filterMap_le ..) ?_
            cases a with
            | true => exact okS.1
            | false => exact okP.1
          have hj : j < ms.length := (List.getElem?_eq_some_iff.mp hx).1
          have tk : ∀ {R : Mo → Prop}, (∀ m ∈ (moves P1 S1 (.rest a r)).take (j + 1), R m) ↔ (∀ m ∈ (moves P1 S1 (.rest a r)).take j, R m) ∧ R mo := fun {R} => by
            rw [List.take_add_one, hmo]
            constructor
            · exact fun h => ⟨fun m hm => h m (List.mem_append_left _ hm), h mo (List.mem_append_right _ (List.mem_singleton.mpr rfl))⟩
            · rintro ⟨h1, h2⟩ m hm
              rcases List.mem_append.mp hm with z | z
              · exact h1 m z
              · rw [List.mem_singleton.mp z]
                exact h2
          have yes : gd L' mo.2.2 = true → ∃ acc, H5 D = some (.lst acc) ∧ acc.length < sizeLine ∧ ∃ ys, upd H5 D (.lst (acc ++ [g])) D = some (.lst ys) ∧ (ys = [] ↔ ∀ m ∈ (moves P1 S1 (.rest a r)).take (j + 1), gd L' m.2.2 = false) ∧ ys.length ≤ j + 1 ∧ Same H4 (upd H5 D (.lst (acc ++ [g]))) := fun hgd => by
            refine ⟨ys, hD, by rw [sizeLine_eq]; omega, ys ++ [g], upd_same, ?_, by rw [List.length_append]; show _ + 1 ≤ _; omega, fun b o z => by rw [upd_ne (ne_of_none z nD)]; exact s5 _ _ z⟩
            rw [tk, hgd]
            exact ⟨fun z => by simp at z, fun z => nomatch z.2⟩
          refine ⟨cm, _, rfl, .inl (.inl (s5 _ _ hcm)), rfl, _, _, rfl, _, _, rfl, _, _, rfl, rfl, ?_⟩
          refine ⟨rfl, _, rfl, rfl, _, rfl, ?_⟩
          by_cases hf : mo.2.2 = .fin
          · have gn : g = .non := by
              rw [hf] at hg5
              exact hg5
            rw [decide_eq_true gn]
            refine iteT (iteT ⟨_, rfl, yes ?_⟩)
            rw [hf]
            rfl
          have gn : ¬ g = .non := fun z => by
            cases hmm : mo.2.2 with
            | start =>
              rw [hmm] at hg5
              exact hg5.elim
            | fin => exact hf hmm
            | rest a2 r2 =>
              rw [hmm] at hg5
              obtain ⟨c2, e2, _⟩ := hg5
              rw [z] at e2
              cases e2
          rw [decide_eq_false gn]
          refine iteF ⟨_, rfl, _, rfl, _, _, goal_dp hg5, rests_dp (s5 _ _ he4) (prd_imp pf4 fun _ _ z => z.same s5), ld_shaped (restO_lt fun a2 r2 z => ?_), rests_shaped lt4, ?_⟩
          · rcases inQ hpQ mo hmem with h | h
            · exact absurd h hf
            · exact wrd (z ▸ h)
          rw [any_rests]
          have gde : decide (∃ q ∈ L', restO mo.2.2 = some q) = gd L' mo.2.2 := by
            cases hmm : mo.2.2 with
            | start => exact decide_eq_false fun ⟨_, _, z⟩ => nomatch z
            | fin => exact absurd hmm hf
            | rest a2 r2 =>
              show _ = decide ((a2, r2) ∈ L')
              rw [decide_eq_decide]
              exact ⟨fun ⟨q, hq, z⟩ => by cases z; exact hq, fun h => ⟨_, h, rfl⟩⟩
          rw [gde]
          refine ⟨_, rfl, ?_⟩
          cases hgd : gd L' mo.2.2 with
          | true => exact iteT ⟨_, rfl, yes hgd⟩
          | false =>
            refine iteF ⟨ys, hD, ?_, by omega, s5⟩
            rw [tk, hgd, ys0]
            exact ⟨fun z => ⟨z, rfl⟩, fun z => z.1⟩
        · rintro H5 ⟨ys, hD, ys0, ly, s5⟩
          rw [prd_len pms, List.take_length] at ys0
          refine ⟨Nat.zero_le _, fun e3 n3 => ⟨D, e3, ys, rfl, rfl, .of (same_put (s := Same.refl H5) n3 _ _ hD), .of upd_same, ?_⟩⟩
          have s6 := same_put (s := s5) (o := .lst []) n3
          generalize upd H5 e3 (.lst []) = H6 at s6 ⊢
          have he6 := s6 _ _ he4
          refine ⟨_, rfl, ?_⟩
          by_cases hy : ys = []
          · subst hy
            refine iteF ⟨L', fs', _, w4, w5, w6, rfl, he6, prd_imp pf4 fun _ _ z => z.same s6, al4, le4, skip (fun a2 r2 z n => by cases z; exact ys0.mp rfl), fun b o z n => s6 _ _ (u4 b o z n)⟩
          · have hne : (!ys.isEmpty) = true := by
              cases ys with
              | nil => exact absurd rfl hy
              | cons _ _ => rfl
            rw [hne]
            have hm : ∃ m ∈ moves P1 S1 (.rest a r), gd L' m.2.2 = true := Decidable.byContradiction fun nh => hy (ys0.mpr fun m hm => by
              cases z : gd L' m.2.2 with
              | false => rfl
              | true => exact absurd ⟨m, hm, z⟩ nh)
            obtain ⟨m0, hm0, hg0⟩ := hm
            have alive : ∃ v, Way P1 S1 (.rest a r) .fin v := by
              have h0 : ∃ v, Way P1 S1 m0.2.2 .fin v := by
                cases hmm : m0.2.2 with
                | start =>
                  rw [hmm] at hg0
                  cases hg0
                | fin => exact ⟨_, .nil⟩
                | rest a2 r2 =>
                  rw [hmm] at hg0
                  exact (al4.al _ (of_decide_eq_true hg0)).2
              obtain ⟨v, kv⟩ := h0
              exact move_way hm0 kv
            have fewL4 := al4.few
            refine iteT ⟨_, rfl, .inl ⟨rfl, _, .of he6⟩, _, rfl, e, fs', _, rfl, rfl, he6, by rw [sizeLine_eq]; omega, ?_⟩
            have hc6 := s6 _ _ hc
            refine ⟨L' ++ [(a, r)], fs' ++ [.ref c], _, w4, w5, w6, rfl, upd_same, ((prd_imp pf4 fun _ _ z => (z.same s6).put he6)).snoc (RestV.put ⟨c, rfl, hc6⟩ he6), ⟨nd_add al4.nd hin, fun q0 hq0 => ?_⟩, by rw [List.length_append]; omega, fun z => ?_, fun b o z n => ?_⟩
            · rcases List.mem_append.mp hq0 with z | z
              · exact al4.al q0 z
              · rw [List.mem_singleton.mp z]
                exact ⟨hpQ, alive⟩
            · rw [List.length_append] at z
              have z2 : L'.length + 1 = L.length := z
              omega
            · rw [upd_ne n]
              exact s6 _ _ (u4 b o z n)
    · rintro σ' H4 ⟨L', fs', w3, w4, w5, w6, rfl, he4, pf4, al4, le4, cl4, u4⟩
      have hd4 := u4 _ _ hdL de
      refine ⟨hd4, _, ?_, L', fs', (L.length : Nat), w3, w4, w5, w6, rfl, rfl, by omega, by rw [upd_ne de.symm]; exact he4, prd_imp pf4 fun _ _ ⟨c, e1, hc⟩ => ⟨c, e1, by rw [upd_ne (fun z => by rw [z, hd4] at hc; cases hc)]; exact hc⟩, al4, fun z => ?_, fun b o z => ?_⟩
      · have fewL4 := al4.few
        rw [if_pos hlt2]
        split <;> omega
      · have z2 : L'.length = L.length := by omega
        obtain ⟨e1, c1⟩ := cl4 z2
        subst e1
        intro a r hp hn
        obtain ⟨j, hj, ej⟩ := List.getElem_of_mem hp
        have hj2 : Qs[j]? = some (.rest a r) := by rw [List.getElem?_eq_getElem hj, ej]
        exact c1 j (by rw [pwL]; exact hj) a r hj2 hn
      · by_cases bd : b = d
        · subst bd
          rw [upd_same]
          rw [mx.at_] at z
          exact z
        · rw [upd_ne bd]
          exact u4 _ _ (hrs2 _ _ bd (s1 _ _ z)) (ne_of_none z ne)
end
end V8
set_option Elab.async false
set_option linter.all false
set_option maxRecDepth 100000
set_option maxHeartbeats 8000000
set_option pp.maxSteps 900
/-! The law's own leads: the maths. -/
namespace V8
open PySem PySem.Spec PyProof.Rows L2 MZ MX
abbrev Rw := Pl × (List Nat × List Nat)
theorem web_keysG {β : Type} {f : β → Pl} {R : NestedKey × V × V → β → Prop} {kvs : List (NestedKey × V × V)} {Q : List β} (hR : ∀ kv x, R kv x → kv.1 = gKey (f x)) (h : Paired R kvs Q) : kvs.map (·.1) = (Q.map f).map gKey := by
  induction h with
  | nil => rfl
  | cons r _ ih => rw [List.map_cons, List.map_cons, List.map_cons, ih, hR _ _ r]
theorem web_atG {β : Type} {f : β → Pl} {R : NestedKey × V × V → β → Prop} {kvs : List (NestedKey × V × V)} {Q : List β} (hR : ∀ kv x, R kv x → kv.1 = gKey (f x)) (nf : ∀ x ∈ Q, f x ≠ .fin) (nd : (Q.map f).Nodup) (h : Paired R kvs Q) {x : β} (hx : x ∈ Q) : ∃ kv, R kv x ∧ atM kvs (gKey (f x)) = some kv.2.2 := by
  induction h with
  | nil => cases hx
  | @cons kv q kvs Q r _ ih =>
    rw [List.map_cons, List.nodup_cons] at nd
    rcases List.mem_cons.mp hx with e | hx2
    · subst e
      refine ⟨kv, r, ?_⟩
      unfold atM
      rw [List.find?_cons, decide_eq_true (hR _ _ r)]
      rfl
    · obtain ⟨kv2, r2, e2⟩ := ih (fun x hx => nf x (List.mem_cons_of_mem _ hx)) nd.2 hx2
      refine ⟨kv2, r2, ?_⟩
      have e : f q ≠ f x := fun z => nd.1 (z ▸ List.mem_map_of_mem hx2)
      unfold atM at e2 ⊢
      rw [List.find?_cons, decide_eq_false fun z => e (gKey_inj (nf q List.mem_cons_self) (nf x hx) ((hR _ _ r).symm.trans z))]
      exact e2
theorem web_noG {β : Type} {f : β → Pl} {R : NestedKey × V × V → β → Prop} {kvs : List (NestedKey × V × V)} {Q : List β} (hR : ∀ kv x, R kv x → kv.1 = gKey (f x)) (nf : ∀ x ∈ Q, f x ≠ .fin) (h : Paired R kvs Q) {p : Pl} (hf : p ≠ .fin) (hp : p ∉ Q.map f) : gKey p ∉ kvs.map (·.1) := by
  rw [web_keysG hR h]
  intro z
  obtain ⟨q, hq, e⟩ := List.mem_map.mp z
  obtain ⟨x, hx, rfl⟩ := List.mem_map.mp hq
  exact hp (gKey_inj (nf x hx) hf e ▸ hq)
theorem keys_ndG {β : Type} {f : β → Pl} {R : NestedKey × V × V → β → Prop} {kvs : List (NestedKey × V × V)} {Q : List β} (hR : ∀ kv x, R kv x → kv.1 = gKey (f x)) (nf : ∀ x ∈ Q, f x ≠ .fin) (nd : (Q.map f).Nodup) (h : Paired R kvs Q) : (kvs.map (·.1)).Nodup := by
  rw [web_keysG hR h]
  refine List.pairwise_map.mpr ?_
  refine List.Pairwise.imp_of_mem ?_ nd
  intro a b ha hb hab e
  obtain ⟨x, hx, rfl⟩ := List.mem_map.mp ha
  obtain ⟨y, hy, rfl⟩ := List.mem_map.mp hb
  exact hab (gKey_inj (nf x hx) (nf y hy) e)
theorem putAll_nd : ∀ (qs acc : List TriV), ((acc ++ qs).map (·.1)).Nodup → putAll acc qs = acc ++ qs
  | [], acc, _ => by
    show acc = _
    rw [List.append_nil]
  | q :: qs, acc, h => by
    have e : putM acc q.1 q.2.1 q.2.2 = acc ++ [q] := by
      unfold putM
      rw [if_neg]
      intro z
      rw [List.map_append, List.nodup_append] at h
      exact h.2.2 _ z _ List.mem_cons_self rfl
    show putAll (putM acc q.1 q.2.1 q.2.2) qs = _
    rw [e, putAll_nd qs (acc ++ [q]) (by rw [List.append_assoc]; exact h), List.append_assoc]
    rfl
/-- a row of labels at a place -/
def RwE (H : Hp) (kv : NestedKey × V × V) (x : Rw) : Prop := kv.1 = gKey x.1 ∧ FromV H kv.2.1 x.1 ∧ RowV H kv.2.2 x.2
/-- its lead -/
def LdE (H : Hp) (kv : NestedKey × V × V) (x : Rw) : Prop := kv.1 = gKey x.1 ∧ FromV H kv.2.1 x.1 ∧ LeadV H kv.2.2 (lead x.2)
theorem RowV.stay {c : Addr} {H H' : Hp} {v : V} {w : List Nat × List Nat} (h : RowV H v w) (s : Stay c H H') : RowV H' v w := by
  obtain ⟨d, e, hc⟩ := h
  exact ⟨d, e, s.t _ _ hc⟩
theorem RwE.stay {c : Addr} {H H' : Hp} {kv : NestedKey × V × V} {x : Rw} (h : RwE H kv x) (s : Stay c H H') : RwE H' kv x := ⟨h.1, h.2.1.stay s, h.2.2.stay s⟩
theorem RwE.same {H H' : Hp} {kv : NestedKey × V × V} {x : Rw} (h : RwE H kv x) (s : Same H H') : RwE H' kv x := ⟨h.1, h.2.1.same s, h.2.2.same s⟩
theorem LdE.same {H H' : Hp} {kv : NestedKey × V × V} {x : Rw} (h : LdE H kv x) (s : Same H H') : LdE H' kv x := ⟨h.1, h.2.1.same s, h.2.2.same s⟩
/-- rows found so far; those left -/
structure RwS (P S : List Pr) (rs : List (Bool × Wd)) (R : List Rw) (L : List Pl) : Prop where
  nd : (R.map (·.1)).Nodup
  st : (Pl.start, (([] : List Nat), ([] : List Nat))) ∈ R
  way : ∀ x ∈ R, Way P S .start x.1 x.2
  al : ∀ x ∈ R, x.1 = .start ∨ ∃ q ∈ rs, x.1 = .rest q.1 q.2
  len : ∀ x ∈ R, x.2.1.length + x.2.2.length ≤ R.length
  sub : ∀ p ∈ L, p ∈ R.map (·.1)
  ndl : L.Nodup
theorem RwS.nf {P S : List Pr} {rs : List (Bool × Wd)} {R : List Rw} {L : List Pl} (h : RwS P S rs R L) : ∀ x ∈ R, x.1 ≠ .fin := fun x hx e => by
  rcases h.al x hx with z | ⟨_, _, z⟩ <;> rw [e] at z <;> cases z
theorem RwS.inQ {P S : List Pr} {rs : List (Bool × Wd)} {R : List Rw} {L Qs : List Pl} (h : RwS P S rs R L) (rc : Reach P S Qs) : ∀ x ∈ R, x.1 ∈ Qs := fun x hx => (rc.mem _).mpr ⟨h.nf x hx, _, h.way x hx⟩
theorem RwS.few {P S : List Pr} {rs : List (Bool × Wd)} {R : List Rw} {L Qs : List Pl} (h : RwS P S rs R L) (rc : Reach P S Qs) : R.length ≤ Qs.length := by
  have z := nd_le h.nd fun p hp => by
    obtain ⟨x, hx, rfl⟩ := List.mem_map.mp hp
    exact h.inQ rc x hx
  rw [List.length_map] at z
  exact z
theorem putR_len (t : Bool) (l : Nat) (w : List Nat × List Nat) : (put t l w).1.length + (put t l w).2.length = w.1.length + w.2.length + 1 := by
  unfold put
  cases t with
  | true =>
    rw [if_pos rfl]
    show (w.1 ++ [l]).length + w.2.length = _
    rw [List.length_append]
    show w.1.length + 1 + w.2.length = _
    omega
  | false =>
    rw [if_neg (by decide)]
    show w.1.length + (w.2 ++ [l]).length = _
    rw [List.length_append]
    show w.1.length + (w.2.length + 1) = _
    omega
theorem RwS.add {P S : List Pr} {rs : List (Bool × Wd)} {R : List Rw} {L : List Pl} (h : RwS P S rs R L) {x : Rw} (hx : x ∈ R) {m : Mo} (hm : m ∈ moves P S x.1) {q : Bool × Wd} (e : m.2.2 = .rest q.1 q.2) (hq : q ∈ rs) (n : m.2.2 ∉ R.map (·.1)) : RwS P S rs (R ++ [(m.2.2, put m.1 m.2.1 x.2)]) (L ++ [m.2.2]) := by
  have hm2 : (m.1, m.2.1, m.2.2) ∈ moves P S x.1 := hm
  refine ⟨?_, List.mem_append_left _ h.st, fun y hy => ?_, fun y hy => ?_, fun y hy => ?_, fun p hp => ?_, nd_add h.ndl fun z => n (h.sub _ z)⟩
  · rw [List.map_append]
    exact nd_add h.nd n
  · rcases List.mem_append.mp hy with z | z
    · exact h.way y z
    · rw [List.mem_singleton.mp z]
      exact .step (h.way x hx) hm2
  · rcases List.mem_append.mp hy with z | z
    · exact h.al y z
    · rw [List.mem_singleton.mp z]
      exact .inr ⟨q, hq, e⟩
  · rw [List.length_append]
    rcases List.mem_append.mp hy with z | z
    · exact Nat.le_trans (h.len y z) (Nat.le_add_right _ _)
    · rw [List.mem_singleton.mp z]
      show (put m.1 m.2.1 x.2).1.length + (put m.1 m.2.1 x.2).2.length ≤ R.length + 1
      rw [putR_len]
      have := h.len x hx
      omega
  · rw [List.map_append]
    rcases List.mem_append.mp hp with z | z
    · exact List.mem_append_left _ (h.sub p z)
    · rw [List.mem_singleton.mp z]
      exact List.mem_append_right _ (List.mem_singleton.mpr rfl)
/-- closed under steps to living rests -/
def ClR (P S : List Pr) (rs : List (Bool × Wd)) (R : List Rw) : Prop := ∀ p ∈ R.map (·.1), ∀ m ∈ moves P S p, ∀ q ∈ rs, m.2.2 = .rest q.1 q.2 → m.2.2 ∈ R.map (·.1)
/-- a step that keeps the leads -/
def KeepsL (R : List Rw) (x : Rw) (m : Mo) : Prop := (lead x.2).isSome = true ∧ ∃ y ∈ R, (y.1 = m.2.2 ∨ (m.2.2 = .fin ∧ y.1 = .start)) ∧ lead (put m.1 m.2.1 x.2) = lead y.2
/-- living: the end, or a rest that is alive -/
def LivP (rs : List (Bool × Wd)) (p : Pl) : Prop := p = .fin ∨ ∃ q ∈ rs, p = .rest q.1 q.2
theorem rw_one {R : List Rw} (nd : (R.map (·.1)).Nodup) : ∀ x ∈ R, ∀ y ∈ R, x.1 = y.1 → x = y := by
  induction R with
  | nil => intro x hx; cases hx
  | cons a R ih =>
    rw [List.map_cons, List.nodup_cons] at nd
    intro x hx y hy e
    rcases List.mem_cons.mp hx with e1 | h1 <;> rcases List.mem_cons.mp hy with e2 | h2
    · rw [e1, e2]
    · subst e1
      exact absurd (e ▸ List.mem_map_of_mem h2) nd.1
    · subst e2
      exact absurd (e ▸ List.mem_map_of_mem h1) nd.1
    · exact ih nd.2 x h1 y h2 e
theorem wayTo_mem {R : List Rw} (nd : (R.map (·.1)).Nodup) {x : Rw} (hx : x ∈ R) : wayTo R x.1 = x.2 := by
  unfold wayTo
  cases e : R.find? fun z => decide (z.1 = x.1) with
  | none =>
    have := List.find?_eq_none.mp e x hx
    simp at this
  | some z =>
    have h1 : z.1 = x.1 := by simpa using List.find?_some e
    have h2 := List.mem_of_find?_eq_some e
    rw [rw_one nd z h2 x hx h1]
    rfl
theorem liv_way {P S : List Pr} {Qs : List Pl} {rs : List (Bool × Wd)} (av : AlV P S Qs rs) {p : Pl} (h : LivP rs p) : ∃ v, Way P S p .fin v := by
  rcases h with rfl | ⟨q, hq, rfl⟩
  · exact ⟨_, .nil⟩
  · exact ((av.mem q).mp hq).2
/-- where all meetings are alike, every step to what lives keeps the leads -/
theorem keeps_alike {P S : List Pr} {Qs : List Pl} {rs : List (Bool × Wd)} {R : List Rw} (av : AlV P S Qs rs) (h : RwS P S rs R []) (cl : ClR P S rs R) (ak : Alike P S) {x : Rw} (hx : x ∈ R) {m : Mo} (hm : m ∈ moves P S x.1) (lv : LivP rs m.2.2) : KeepsL R x m := by
  have hm2 : (m.1, m.2.1, m.2.2) ∈ moves P S x.1 := hm
  obtain ⟨v, kv⟩ := liv_way av lv
  have k1 := h.way x hx
  have k2 : Way P S .start m.2.2 (put m.1 m.2.1 x.2) := .step k1 hm2
  have e1 := ak _ (k2.trans kv)
  have k3 : Way P S x.1 m.2.2 (put m.1 m.2.1 ([], [])) := .step .nil hm2
  have e2 := ak _ (k1.trans (k3.trans kv))
  have z1 : (lead x.2).isSome = true := by
    obtain ⟨k, e3, _⟩ := lead_back (a := x.2) (b := x.2) (v := ((put m.1 m.2.1 ([], [])).1 ++ v.1, (put m.1 m.2.1 ([], [])).2 ++ v.2)) e2 e2
    rw [e3]
    rfl
  refine ⟨z1, ?_⟩
  rcases lv with ef | ⟨q, hq, eq⟩
  · refine ⟨_, h.st, .inr ⟨ef, rfl⟩, ?_⟩
    rw [ef] at k2
    show _ = lead ([], [])
    rw [even_lead (ak _ k2)]
    rfl
  · have hy := cl x.1 (List.mem_map_of_mem hx) m hm q hq eq
    obtain ⟨y, hy2, ey⟩ := List.mem_map.mp hy
    refine ⟨y, hy2, .inl ey, ?_⟩
    have k4 := h.way y hy2
    rw [ey] at k4
    have e4 := ak _ (k4.trans kv)
    obtain ⟨k, e5, e6⟩ := lead_back (a := put m.1 m.2.1 x.2) (b := y.2) (v := v) e1 e4
    rw [e5, e6]
/-- where every such step keeps them, all meetings are alike -/
theorem alike_keeps {P S : List Pr} {Qs : List Pl} {rs : List (Bool × Wd)} {R : List Rw} (rc : Reach P S Qs) (av : AlV P S Qs rs) (h : RwS P S rs R []) (cl : ClR P S rs R) (hk : ∀ x ∈ R, ∀ m ∈ moves P S x.1, LivP rs m.2.2 → KeepsL R x m) : Alike P S := by
  have stx : ∀ y ∈ R, y.1 = .start → y.2 = ([], []) := fun y hy e => by rw [rw_one h.nd y hy _ h.st e]
  have inR : ∀ p v w, Way P S .start p w → Way P S p .fin v → p ≠ .fin → p ∈ R.map (·.1) := by
    intro p v w k
    induction k generalizing v with
    | nil => exact fun _ _ => List.mem_map_of_mem h.st
    | @step p1 w1 t l p2 k m ih =>
      intro kv nf
      have k1 : ∃ u, Way P S p1 .fin u := move_way m kv
      obtain ⟨u, ku⟩ := k1
      have n1 : p1 ≠ .fin := fun e => by
        subst e
        cases m
      have h1 := ih u ku n1
      cases p2 with
      | fin => exact absurd rfl nf
      | start => exact absurd rfl (no_start (Way.step (P := P) (S := S) (o := p1) .nil m) fun e => by
          subst e
          obtain ⟨_, _, z⟩ := List.mem_map.mp m
          cases z)
      | rest a r =>
        have hq : ((a, r) : Bool × Wd) ∈ rs := (av.mem (a, r)).mpr ⟨(rc.mem _).mpr ⟨nf, _, .step k m⟩, v, kv⟩
        exact cl p1 h1 (t, l, .rest a r) m (a, r) hq rfl
  refine alike_of (W := wayTo R) (L := fun p => ∃ v, Way P S p .fin v) ?_ (fun p v k => ⟨v, k⟩) ?_
  · exact wayTo_mem h.nd h.st
  · intro p w k t l q m ⟨v, kv⟩
    obtain ⟨u, ku⟩ := move_way (m := (t, l, q)) m kv
    have np : p ≠ .fin := fun e => by
      subst e
      cases m
    obtain ⟨x, hx, ex⟩ := List.mem_map.mp (inR p u w k ku np)
    subst ex
    rw [wayTo_mem h.nd hx]
    have kq : Way P S .start q (put t l w) := .step k m
    cases q with
    | start => exact absurd rfl (no_start (Way.step (P := P) (S := S) (o := x.1) .nil m) fun e => by
        rw [e] at m
        obtain ⟨_, _, z⟩ := List.mem_map.mp m
        cases z)
    | fin =>
      obtain ⟨_, y, hy, ey, el⟩ := hk x hx (t, l, .fin) m (.inl rfl)
      have ys : y.1 = .start := by
        rcases ey with z | ⟨_, z⟩
        · exact absurd z (h.nf y hy)
        · exact z
      rw [stx y hy ys] at el
      exact ⟨(true, []), el.trans rfl, rfl⟩
    | rest a r =>
      have hq : ((a, r) : Bool × Wd) ∈ rs := (av.mem (a, r)).mpr ⟨(rc.mem _).mpr ⟨(fun e => nomatch e), _, kq⟩, v, kv⟩
      obtain ⟨_, y, hy, ey, el⟩ := hk x hx (t, l, .rest a r) m (.inr ⟨_, hq, rfl⟩)
      have ye : y.1 = .rest a r := by
        rcases ey with z | ⟨z, _⟩
        · exact z
        · cases z
      -- y has a step that lives
      have hs : (lead y.2).isSome = true := by
        have ny : Way P S y.1 .fin v := by
          rw [ye]
          exact kv
        rcases way_first ny with z | ⟨m1, hm1, v1, k1⟩
        · rw [ye] at z
          cases z
        · have hm3 : (m1.1, m1.2.1, m1.2.2) ∈ moves P S y.1 := hm1
          have lv1 : LivP rs m1.2.2 := by
            cases e1 : m1.2.2 with
            | fin => exact .inl rfl
            | start =>
              rw [e1] at hm3
              exact absurd rfl (no_start (Way.step (P := P) (S := S) (o := y.1) .nil hm3) fun e => by
                rw [ye] at e
                cases e)
            | rest a2 r2 =>
              rw [e1] at k1 hm3
              exact .inr ⟨(a2, r2), (av.mem (a2, r2)).mpr ⟨(rc.mem _).mpr ⟨(fun e => nomatch e), _, .step (h.way y hy) hm3⟩, v1, k1⟩, rfl⟩
          exact (hk y hy m1 hm1 lv1).1
      obtain ⟨k3, e3⟩ := Option.isSome_iff_exists.mp hs
      refine ⟨k3, el.trans e3, ?_⟩
      show lead (wayTo R (.rest a r)) = some k3
      rw [← ye, wayTo_mem h.nd hy]
      exact e3
end V8
set_option Elab.async false
set_option linter.all false
set_option maxRecDepth 100000
set_option maxHeartbeats 8000000
set_option pp.maxSteps 900
/-! The law's own leads. -/
namespace V8
open PySem PySem.Spec PyProof.Rows L2 MZ MX
abbrev s__law_leads : Stmt := topS 81
abbrev n__law_leads : List Str := ["_law_web_here", "_law_alive_here", "_law_rows", "_law_left", "_law_spot", "_law_side", "_law_label", "_law_goal", "_law_leads_here", "_law_rest", "_law_more"]
theorem sc__law_leads : FnScope ["_law_web_here", "_law_alive_here", "_law_rows", "_law_left", "_law_spot", "_law_side", "_law_label", "_law_goal", "_law_leads_here", "_law_rest", "_law_more"] ["_law_web_here", "_law_alive_here"] (defScope s__law_leads) := ⟨rfl, rfl, rfl, by decide +kernel, rfl, by decide +kernel, by decide +kernel⟩
/-- the leads that it tells, or None -/
def LeadsR (w : World) (P S : List Pr) (rs : List (Bool × Wd)) (H : Hp) (v : V) : Prop :=
  (v = .non ∧ ¬ Alike P S) ∨ ∃ l kvs R, v = .ref l ∧ Alike P S ∧ MixD w H l kvs ∧ Paired (LdE H) kvs R ∧ RwS P S rs R [] ∧ ClR P S rs R
def spLeadsK (w : World) : Sp := fun vs H Q _ => ∃ (d e : Addr) (fs : List V) (P S : List Pr) (Qs : List Pl) (rs : List (Bool × Wd)), vs = [.ref d, .ref e] ∧ WebM w P S H d Qs ∧ Reach P S Qs ∧ PrOk P ∧ PrOk S ∧ (∀ q ∈ P, q.1 ≠ []) ∧ LbOk P ∧ LbOk S ∧
  H e = some (.lst fs) ∧ Paired (RestV H) fs rs ∧ AlV P S Qs rs ∧ OkQs rs ∧ ∀ v H', Same H H' → LeadsR w P S rs H' v → Q v H'
theorem LeadV.stay {c : Addr} {H H' : Hp} {v : V} {k : Option (Bool × List Nat)} (h : LeadV H v k) (s : Stay c H H') : LeadV H' v k := by
  cases k with
  | none => exact h
  | some k =>
    obtain ⟨d, e, hc⟩ := h
    exact ⟨d, e, s.t _ _ hc⟩
theorem lead_dp {K : PySem.W.Frag} {H : Hp} {v : V} {o : Option (Bool × List Nat)} (h : LeadV H v o) : Dp K H v (ldD o) := by
  cases o with
  | none =>
    cases (show v = .non from h)
    exact .non
  | some k =>
    obtain ⟨d, rfl, hc⟩ := h
    exact .tup (.inl (.inl hc)) (.cons (.str _) (.cons (.str _) .nil))
theorem ld_eqv2 (a b : Option (Bool × List Nat)) : PyData.eqv (ldD a) (ldD b) = decide (a = b) := by
  cases a with
  | none => cases b <;> rfl
  | some k =>
    rw [ld_eqv, decide_eq_decide]
    exact ⟨fun h => h.symm, fun h => h.symm⟩
section
variable {P : Program} {w : World} {K : PySem.W.Frag} {mg : Str → Option Value} {base : Heap} {CM CJ : Addr}
theorem ok_leadsK {f : Addr} {fd : FuncData} (F : Fun K "_law_leads" "_law_leads" s__law_leads f fd) (T : Tz K mg CM CJ) (D_lead : Df P w K mg base 1 "_law_lead" spLeadL) (D_taken : Df P w K mg base 1 "_law_taken" spTaken) : FnOk P w K mg base CX0 2 f fd ["_law_web_here", "_law_alive_here"] (spLeadsK w) := by
  refine F.ok sc__law_leads (fun vs H Q E h => ?_) (fun cdv A outer s H vs Q E hr h => ?_)
  · obtain ⟨d, e, fs, P, S, Qs, rs, rfl, _⟩ := h
    rfl
  · obtain ⟨d, e, fs, P1, S1, Qs, rs, rfl, ⟨kvw, mw, pw⟩, rc, okP, okS, nP, lP, lS, he, pf, av, okR, q⟩ := h
    refine ⟨_, (pss_cons (ps_asg (pe_tup (pa_cons (pe_dispM (w := w) rfl (u9 hr) (pps_cons pe_non (pe_tup (pa_cons pe_str (pa_cons pe_str pa_nil))) pps_nil)) (pa_cons (pe_lst (pa_cons pe_non pa_nil)) pa_nil))) (pg_tup (by rfl) (pgs_cons (pg_name (i := 2) sc__law_leads.nd rfl (.inr rfl)) (pgs_cons (pg_name (i := 3) sc__law_leads.nd rfl (.inl rfl)) pgs_nil))))
      (pss_cons (ps_while PassesOwn.never (pt_cmpR (op_neNilK (K := K) rfl hr.units0) (pv 3) (pe_lst pa_nil) (nomark _))
        (pss_cons (ps_set (i := 4) sc__law_leads.nd rfl (.inl rfl) (pe_bmK (K := K) rfl PySem.F.plainAttrs_list PySem.F.slot_list_pop PySem.F.type_list_pop mt_popAt (pv 3) (pa_cons pe_int pa_nil)))
        (pss_one (ps_for PassesOwn.never rfl (pi_list (pe_getR (w := w) rfl (u9 hr) (pv 0) (pv 4) (fun _ _ => rfl))) (pg_tup (by rfl) (pgs_cons (pg_name (i := 5) sc__law_leads.nd rfl (.inl rfl)) (pgs_cons (pg_name (i := 6) sc__law_leads.nd rfl (.inl rfl)) (pgs_cons (pg_name (i := 7) sc__law_leads.nd rfl (.inl rfl)) pgs_nil))))
          (pss_one (ps_if (PW.pt (pw_and (pt_cmpR (op_inDK (K := K) rfl (hu65 hr)) (pv 7) (pv 1) rfl) (pw_and1 (pt_cmpR (op_notIn_mixR (w := w) rfl (u9 hr)) (pv 7) (pv 2) rfl))))
            (pss_cons (ps_asg (pe_c D_taken hr (by decide) (by rfl) (pa_cons (pe_getR (w := w) rfl (u9 hr) (pv 2) (pv 4) (fun _ _ => rfl)) (pa_cons (pv 5) (pa_cons (pv 6) pa_nil)))) (pg_sub (pv 2) (pv 7) (set_mixW (w := w) rfl (u9 hr))))
            (pss_one (ps_expr (pe_bmK (K := K) rfl PySem.F.plainAttrs_list PySem.F.slot_list_append PySem.F.type_list_append mt_append (pv 3) (pa_cons (pv 7) pa_nil)))))
            pss_nil))))))
      (pss_cons (ps_set (i := 8) sc__law_leads.nd rfl (.inl rfl) (pe_callTy (call_dictM rfl (hu10_of hr)) (by rfl) T.dict (by decide +kernel) (pa_cons (pe_lock (pe_lc (own := [("_law_rest", 9)]) (g := gName 9) (by rfl) sc__law_leads.nd (pi_keysW (w := w) rfl (pv 2)) (blkOk_by (own := [("_law_rest", 9)]) (N := n__law_leads) (sc := defScope s__law_leads) (by decide +kernel)) (fun _ _ _ _ _ => (pg_name (i := 9) sc__law_leads.nd rfl (.inl rfl))) (fun _ _ _ _ _ => pts_nil) (fun _ _ _ _ _ => (pe_tup (pa_cons (pv 9) (pa_cons (pe_c D_lead hr (by decide) (by rfl) (pa_cons (pe_ix (ix_tupK (K := K) rfl) (pe_getR (w := w) rfl (u9 hr) (pv 2) (pv 9) (fun _ _ => rfl)) pe_int (fun _ _ => rfl)) (pa_cons (pe_ix (ix_tupK (K := K) rfl) (pe_getR (w := w) rfl (u9 hr) (pv 2) (pv 9) (fun _ _ => rfl)) pe_int (fun _ _ => rfl)) pa_nil))) pa_nil)))))) pa_nil)))
      (pss_cons (ps_lock (ps_for PassesOwn.never rfl (pi_keysW (w := w) rfl (pv 2)) (pg_name (i := 9) sc__law_leads.nd rfl (.inl rfl))
        (pss_one (ps_for PassesOwn.never rfl (pi_list (pe_getR (w := w) rfl (u9 hr) (pv 0) (pv 9) (fun _ _ => rfl))) (pg_tup (by rfl) (pgs_cons (pg_name (i := 5) sc__law_leads.nd rfl (.inl rfl)) (pgs_cons (pg_name (i := 6) sc__law_leads.nd rfl (.inl rfl)) (pgs_cons (pg_name (i := 7) sc__law_leads.nd rfl (.inl rfl)) pgs_nil))))
          (pss_one (ps_if (PW.pt (pw_or (pt_cmpR op_isN (pv 7) pe_non (nomark _)) (pw_or1 (pt_cmpR (op_inDK (K := K) rfl (hu65 hr)) (pv 7) (pv 1) rfl))))
            (pss_cons (ps_set (i := 10) sc__law_leads.nd rfl (.inl rfl) (pe_c D_taken hr (by decide) (by rfl) (pa_cons (pe_getR (w := w) rfl (u9 hr) (pv 2) (pv 9) (fun _ _ => rfl)) (pa_cons (pv 5) (pa_cons (pv 6) pa_nil)))))
            (pss_one (ps_if (PW.pt (pw_or (pt_cmpR op_isN (pe_getR (w := w) rfl (u9 hr) (pv 8) (pv 9) (fun _ _ => rfl)) pe_non (nomark _)) (pw_or1 (pt_cmpR (op_neDK (K := K) rfl hr.units) (pe_c D_lead hr (by decide) (by rfl) (pa_cons (pe_ix (ix_tupK (K := K) rfl) (pv 10) pe_int (fun _ _ => rfl)) (pa_cons (pe_ix (ix_tupK (K := K) rfl) (pv 10) pe_int (fun _ _ => rfl)) pa_nil))) (pe_getR (w := w) rfl (u9 hr) (pv 8) (pv 7) (fun _ _ => rfl)) (nomark _)))))
              (pss_one (ps_ret pe_non))
              pss_nil)))
            pss_nil))))))
      (pss_one (ps_ret (pv 8))))))), ?_⟩
    have nfQ : ∀ p ∈ Qs, p ≠ .fin := fun p hp => ((rc.mem p).mp hp).1
    have fewQ := rc.few okP okS nP
    have kyw : ∀ H', Same H H' → MixR w H' d kvw := fun H' s => mw.rd.same s
    have pww : ∀ H', Same H H' → ∀ p ∈ Qs, ∃ b ms, atM kvw (gKey p) = some (.ref b) ∧ H b = some (.lst ms) ∧ Paired (StV H') ms (moves P1 S1 p) := fun H' s p hp => by
      obtain ⟨kv, ⟨_, _, b, eb, ms, h1, h2⟩, ea⟩ := web_at (fun _ _ z => z.1) nfQ pw hp
      rw [eb] at ea
      exact ⟨b, ms, ea, h1, prd_imp h2 fun _ _ z => z.same s⟩
    have inQ : ∀ {p : Pl}, p ∈ Qs → ∀ m ∈ moves P1 S1 p, m.2.2 = .fin ∨ m.2.2 ∈ Qs := fun {p} hp m hm => by
      obtain ⟨_, w0, k⟩ := (rc.mem _).mp hp
      by_cases z : m.2.2 = .fin
      · exact .inl z
      · have hm2 : (m.1, m.2.1, m.2.2) ∈ moves P1 S1 p := hm
        exact .inr ((rc.mem _).mpr ⟨z, _, .step k hm2⟩)
    have goal_ok : ∀ {p : Pl}, p ∈ Qs → ∀ m ∈ moves P1 S1 p, SeqAt.shaped (ldD (restO m.2.2)) = true := fun {p} hp m hm => by
      refine ld_shaped (restO_lt fun a r z => ?_)
      rcases inQ hp m hm with h | h
      · rw [h] at z
        cases z
      · obtain ⟨_, w0, k⟩ := (rc.mem _).mp h
        rw [z] at k
        exact (rest_word okP okS nP k).2
    have ltR : ∀ q ∈ rs, ∀ c ∈ q.2, isLt c := fun q hq => (okR.2 q hq).2
    have shR := rests_shaped ltR
    have inA : ∀ p : Pl, decide (∃ q ∈ rs, restO p = some q) = true ↔ ∃ q ∈ rs, p = .rest q.1 q.2 := fun p => by
      rw [decide_eq_true_iff]
      constructor
      · rintro ⟨q0, hq0, z⟩
        cases p with
        | start => cases z
        | fin => cases z
        | rest a r =>
          cases z
          exact ⟨_, hq0, rfl⟩
      · rintro ⟨q0, hq0, rfl⟩
        exact ⟨q0, hq0, rfl⟩
    intro rwd nrw
    refine ⟨by show 2 ≤ sizeLine; decide, fun t1 nt1 => ?_⟩
    have t1rw : t1 ≠ rwd := fun z => by
      rw [z, upd_same] at nt1
      cases nt1
    have sA := same_put (s := same_put (s := Same.refl H) (o := MixO w rwd []) nrw) (o := .tup [.str (Sx []), .str (Sx [])]) nt1
    have hrwA : upd (upd H rwd (MixO w rwd [])) t1 (.tup [.str (Sx []), .str (Sx [])]) rwd = some (MixO w rwd []) := by rw [upd_ne t1rw.symm, upd_same]
    have ht1A : upd (upd H rwd (MixO w rwd [])) t1 (.tup [.str (Sx []), .str (Sx [])]) t1 = some (.tup [.str (Sx []), .str (Sx [])]) := upd_same
    refine ⟨hrwA, .none, .non, .ref t1, rfl, .flat .none, ?_⟩
    show tCons _ _ _ (upd (upd (upd H rwd (MixO w rwd [])) t1 (.tup [.str (Sx []), .str (Sx [])])) rwd (MixO w rwd [(.none, .non, .ref t1)])) _
    generalize upd (upd H rwd (MixO w rwd [])) t1 (.tup [.str (Sx []), .str (Sx [])]) = HA at sA hrwA ht1A ⊢
    have sB : Same H (upd HA rwd (MixO w rwd [(.none, .non, .ref t1)])) := fun b o z => by
      rw [upd_ne (ne_of_none z nrw)]
      exact sA _ _ z
    have hrwB : upd HA rwd (MixO w rwd [(.none, .non, .ref t1)]) rwd = some (MixO w rwd [(.none, .non, .ref t1)]) := upd_same
    have ht1B : upd HA rwd (MixO w rwd [(.none, .non, .ref t1)]) t1 = some (.tup [.str (Sx []), .str (Sx [])]) := by rw [upd_ne t1rw]; exact ht1A
    generalize upd HA rwd (MixO w rwd [(.none, .non, .ref t1)]) = HB at sB hrwB ht1B ⊢
    refine ⟨by show 1 ≤ sizeLine; decide, fun c nc => ⟨by show 2 ≤ sizeLine; decide, fun t2 nt2 => ⟨t2, _, rfl, .of upd_same, rfl, _, _, rfl, _, _, rfl, rfl, ?_⟩⟩⟩
    have rwc : rwd ≠ c := ne_of_none hrwB nc
    have ncH : H c = none := by
      cases z : H c with
      | none => rfl
      | some o =>
        rw [sB _ _ z] at nc
        cases nc
    have sC := same_put (s := same_put (s := Same.refl HB) (o := .lst [V.non]) nc) (o := .tup [.ref rwd, .ref c]) nt2
    have hcC := same_put (s := Same.refl (upd HB c (.lst [V.non]))) (o := .tup [.ref rwd, .ref c]) nt2 c _ upd_same
    dsimp only
    generalize upd (upd HB c (.lst [V.non])) t2 (.tup [.ref rwd, .ref c]) = HC at sC hcC ⊢
    have hrwC := sC _ _ hrwB
    have ht1C := sC _ _ ht1B
    replace sC : Same H HC := fun b o z => sC _ _ (sB _ _ z)
    have ec : e ≠ c := ne_of_none he ncH
    have dc : d ≠ c := ne_of_none mw.at_ ncH
    have erw : e ≠ rwd := ne_of_none he nrw
    refine seq1 (fun σ' H' => ∃ kvs R v3 v4 v5 v6 v7, σ' = [some (.ref d), some (.ref e), some (.ref rwd), v3, v4, v5, v6, v7, none, none, none] ∧ MixD w H' rwd kvs ∧ Paired (RwE H') kvs R ∧ RwS P1 S1 rs R [] ∧ ClR P1 S1 rs R ∧ Same H H') ?_ (fun R' hR' => ?_)
    rotate_left
    · refine ⟨fun m σ' H' => ∃ kvs R L lv v4 v5 v6 v7, σ' = [some (.ref d), some (.ref e), some (.ref rwd), some (.ref c), v4, v5, v6, v7, none, none, none] ∧ m = 2 * (Qs.length - R.length) + L.length ∧ MixD w H' rwd kvs ∧ Paired (RwE H') kvs R ∧ H' c = some (.lst lv) ∧ Paired (FromV H') lv L ∧ RwS P1 S1 rs R L ∧ Same H H' ∧
        (∀ p ∈ R.map (·.1), p ∉ L → ∀ m ∈ moves P1 S1 p, ∀ q ∈ rs, m.2.2 = .rest q.1 q.2 → m.2.2 ∈ R.map (·.1)),
        ⟨_, [(.none, .non, .ref t1)], [(.start, ([], []))], [.start], [.non], _, _, _, _, rfl, rfl, ⟨hrwC, ?_⟩, .cons ⟨rfl, rfl, t1, rfl, ht1C⟩ .nil, hcC, .cons rfl .nil, ⟨?_, ?_, ?_, ?_, ?_, ?_, ?_⟩, sC, ?_⟩, ?_⟩
      · intro p hp
        obtain rfl := List.mem_singleton.mp hp
        exact .flat .none
      · exact List.nodup_cons.mpr ⟨by simp, List.nodup_nil⟩
      · exact List.mem_singleton.mpr rfl
      · intro x hx
        obtain rfl := List.mem_singleton.mp hx
        exact .nil
      · intro x hx
        obtain rfl := List.mem_singleton.mp hx
        exact .inl rfl
      · intro x hx
        obtain rfl := List.mem_singleton.mp hx
        exact Nat.zero_le _
      · exact fun p hp => hp
      · exact List.nodup_cons.mpr ⟨by simp, List.nodup_nil⟩
      · intro p hp np
        exact absurd hp np
      rintro m σ3 H3 ⟨kvs, R3, L, lv, v4, v5, v6, v7, rfl, rfl, mx, px, hc, pl, ws, s4, cl⟩
      refine ⟨_, rfl, Nat.zero_le _, fun e1 ne1 => ?_⟩
      have s5 := same_put (s := Same.refl H3) (o := .lst []) ne1
      refine ⟨c, e1, lv, rfl, rfl, .of (s5 _ _ hc), .of upd_same, ?_⟩
      replace mx := mx.same s5
      replace px := prd_imp px fun _ _ z => z.same s5
      replace hc := s5 _ _ hc
      replace pl := prd_imp pl fun _ _ z => z.same s5
      replace s4 : Same H (upd H3 e1 (.lst [])) := fun b o z => s5 _ _ (s4 _ _ z)
      generalize upd H3 e1 (.lst []) = H4 at mx px hc pl s4
      cases pl with
      | nil =>
        refine ⟨_, rfl, ?_⟩
        dsimp only
        rw [if_neg (by simp)]
        exact hR' _ _ ⟨kvs, R3, _, _, _, _, _, rfl, mx, px, ws, fun p hp => cl p hp (by simp), s4⟩
      | @cons v p lv0 L0 fv pl0 =>
        refine ⟨_, rfl, ?_⟩
        dsimp only
        rw [if_pos (by simp)]
        refine ⟨_, fun _ _ z => z, ?_⟩
        have hp3 : p ∈ R3.map (·.1) := ws.sub p List.mem_cons_self
        obtain ⟨x0, hx0, ex0⟩ := List.mem_map.mp hp3
        have hpQ : p ∈ Qs := ex0 ▸ ws.inQ rc x0 hx0
        have y1 : Stay c H4 (upd H4 c (.lst lv0)) := .list hc
        have px1 := prd_imp px fun _ _ z => z.stay y1
        have fv1 := fv.stay y1
        have mx1 : MixD w (upd H4 c (.lst lv0)) rwd kvs := ⟨by rw [upd_ne rwc]; exact mx.at_, fun x hx => keyV_stay (mx.keys x hx) y1⟩
        have hc1 : upd H4 c (.lst lv0) c = some (.lst lv0) := upd_same
        have pl1 := prd_imp pl0 fun _ _ z => z.stay y1
        have s41 : Same H (upd H4 c (.lst lv0)) := fun b o z => by rw [upd_ne (ne_of_none z ncH)]; exact s4 _ _ z
        refine ⟨_, rfl, .inl ⟨rfl, _, .of hc⟩, c, v :: lv0, 0, 0, v, rfl, rfl, hc, by decide, by decide, seqIndex_of (by decide) (by rw [List.length_cons]; omega), rfl, ?_⟩
        rw [show (v :: lv0).eraseIdx 0 = lv0 from rfl]
        generalize upd H4 c (.lst lv0) = H5 at y1 px1 fv1 mx1 hc1 pl1 s41 ⊢
        obtain ⟨b, ms, ea, hb, pms⟩ := pww H5 s41 p hpQ
        have bc : b ≠ c := ne_of_none hb ncH
        refine ⟨_, rfl, _, rfl, d, kvw, gKey p, _, rfl, kyw H5 s41, from_key fv1, ea, b, rfl, ⟨_, .of (s41 _ _ hb)⟩, for_it (walk_list (K := K) (a := b) (xs := ms)) (fun i σ' H' => ∃ kvs R L lv v5 v6 v7, σ' = [some (.ref d), some (.ref e), some (.ref rwd), some (.ref c), some v, v5, v6, v7, none, none, none] ∧ 2 * (Qs.length - R.length) + L.length ≤ 2 * (Qs.length - R3.length) + L0.length ∧ MixD w H' rwd kvs ∧ Paired (RwE H') kvs R ∧ H' c = some (.lst lv) ∧ Paired (FromV H') lv L ∧ RwS P1 S1 rs R L ∧ Same H H' ∧ x0 ∈ R ∧ FromV H' v p ∧
          (∀ m ∈ (moves P1 S1 p).take i, ∀ q ∈ rs, m.2.2 = .rest q.1 q.2 → m.2.2 ∈ R.map (·.1)) ∧ (∀ p' ∈ R.map (·.1), p' ≠ p → p' ∉ L → ∀ m ∈ moves P1 S1 p', ∀ q ∈ rs, m.2.2 = .rest q.1 q.2 → m.2.2 ∈ R.map (·.1))) ?_ ?_ ?_ ?_⟩
        · refine ⟨kvs, R3, L0, lv0, v5, v6, v7, rfl, Nat.le_refl _, mx1, px1, hc1, pl1, ⟨ws.nd, ws.st, ws.way, ws.al, ws.len, fun x hx => ws.sub x (List.mem_cons_of_mem _ hx), (List.nodup_cons.mp ws.ndl).2⟩, s41, hx0, fv1, fun m hm => by simp at hm, fun p' h1 h2 h3 => cl p' h1 fun z => ?_⟩
          rcases List.mem_cons.mp z with z | z
          · exact h2 z
          · exact h3 z
        · rintro i σ5 H6 hi ⟨_, _, _, _, _, _, _, _, _, _, _, _, _, _, s6, _⟩
          exact .of (s6 _ _ hb)
        · rintro i y σ5 H60 H6 hi ⟨kvs5, R5, L5, lv5, v5, v6, v7, rfl, le5, mx5, px5, hc5, pl5, ws5, s5, hx5, fv5, tk5, cl5⟩ ⟨rfl, hy⟩
          obtain ⟨b6, ms6, ea6, hb6, pms6⟩ := pww H6 s5 p hpQ
          have eb : some (V.ref b6) = some (V.ref b) := ea6.symm.trans ea
          cases eb
          rw [hb] at hb6
          cases hb6
          obtain ⟨mo, hmo, cm, g, rfl, hcm, hg⟩ := prd_at pms6 hy
          have hmem : mo ∈ moves P1 S1 p := List.mem_of_getElem? hmo
          have et : ∀ {R : Mo → Prop}, (∀ m ∈ (moves P1 S1 p).take i, R m) → R mo → ∀ m ∈ (moves P1 S1 p).take (i + 1), R m := fun {R} h1 h2 m hm => by
            rw [List.take_add_one, hmo] at hm
            rcases List.mem_append.mp hm with z | z
            · exact h1 m z
            · rw [List.mem_singleton.mp z]
              exact h2
          have fe6 := s5 _ _ he
          have pf6 : Paired (RestV H6) fs rs := prd_imp pf fun _ _ z => z.same s5
          refine ⟨cm, _, rfl, .inl (.inl hcm), rfl, _, _, rfl, _, _, rfl, _, _, rfl, rfl, ?_⟩
          refine ⟨_, rfl, _, rfl, _, _, goal_dp hg, rests_dp fe6 pf6, goal_ok hpQ mo hmem, shR, ?_⟩
          rw [any_rests]
          refine ⟨_, rfl, ?_⟩
          cases hal : decide (∃ q ∈ rs, restO mo.2.2 = some q) with
          | false =>
            refine iteF (iteF ?_)
            refine ⟨kvs5, R5, L5, lv5, _, _, _, rfl, le5, mx5, px5, hc5, pl5, ws5, s5, hx5, fv5, et tk5 fun q hq eq => ?_, cl5⟩
            have z := (inA mo.2.2).mpr ⟨q, hq, eq⟩
            rw [hal] at z
            cases z
          | true =>
            obtain ⟨q0, hq0, eq0⟩ := (inA mo.2.2).mp hal
            have nf : mo.2.2 ≠ .fin := fun z => by
              rw [z] at eq0
              cases eq0
            refine iteT ⟨_, rfl, _, rfl, rwd, kvs5, gKey mo.2.2, rfl, mx5.rd, goal_key hg, ?_⟩
            by_cases hin : mo.2.2 ∈ R5.map (·.1)
            · obtain ⟨z, hz, ez⟩ := List.mem_map.mp hin
              obtain ⟨kv, _, ea⟩ := web_atG (f := fun x : Rw => x.1) (fun _ _ z => z.1) ws5.nf ws5.nd px5 hz
              rw [← ez, ea]
              refine ⟨_, rfl, iteF ?_⟩
              exact ⟨kvs5, R5, L5, lv5, _, _, _, rfl, le5, mx5, px5, hc5, pl5, ws5, s5, hx5, fv5, et tk5 fun _ _ _ => hin, cl5⟩
            have nk := web_noG (f := fun x : Rw => x.1) (fun _ _ z => z.1) ws5.nf px5 nf hin
            rw [atM_none nk]
            refine ⟨_, rfl, iteT ?_⟩
            have hm5 : mo ∈ moves P1 S1 x0.1 := ex0 ▸ hmem
            have ws6 := ws5.add hx5 hm5 eq0 hq0 hin
            have few6 := ws6.few rc
            rw [List.length_append] at few6
            have few7 : R5.length + 1 ≤ Qs.length := few6
            obtain ⟨kv5, ⟨_, _, rv5⟩, ea5⟩ := web_atG (f := fun x : Rw => x.1) (fun _ _ z => z.1) ws5.nf ws5.nd px5 hx5
            have ln5 := ws5.len x0 hx5
            have lk : kvs5.length = R5.length := prd_len px5
            rw [ex0] at ea5
            refine ⟨_, rfl, _, rfl, rwd, kvs5, gKey p, _, rfl, mx5.rd, from_key fv5, ea5, _, rfl, _, rfl, _, x0.2, mo.1, mo.2.1, rfl, rv5, by omega, by omega, fun v7 H7 s7 rv7 => ?_⟩
            have mx7 := mx5.same s7
            have hg7 := hg.same s7
            refine ⟨_, rfl, _, rfl, rwd, kvs5, gKey mo.2.2, rfl, mx7, by rw [sizeLine_eq]; omega, goal_key hg7, ?_⟩
            have e7 : putM kvs5 (gKey mo.2.2) g v7 = kvs5 ++ [(gKey mo.2.2, g, v7)] := by
              unfold putM
              rw [if_neg nk]
            have mx8 := mx7.put (k := gKey mo.2.2) (x := g) (v := v7) (goal_key hg7)
            have y8 : Stay c H7 (upd H7 rwd (MixO w rwd (putM kvs5 (gKey mo.2.2) g v7))) := .dict mx7.at_
            rw [e7] at mx8 y8 ⊢
            have y68 := (Stay.of (c := c) s7).trans y8
            have hc8 : upd H7 rwd (MixO w rwd (kvs5 ++ [(gKey mo.2.2, g, v7)])) c = some (.lst lv5) := by
              rw [upd_ne rwc.symm]
              exact s7 _ _ hc5
            have s8 : Same H (upd H7 rwd (MixO w rwd (kvs5 ++ [(gKey mo.2.2, g, v7)]))) := fun b o z => by
              rw [upd_ne (ne_of_none z nrw)]
              exact s7 _ _ (s5 _ _ z)
            have rv8 := rv7.stay y8
            generalize upd H7 rwd (MixO w rwd (kvs5 ++ [(gKey mo.2.2, g, v7)])) = H8 at mx8 y68 hc8 s8 rv8 ⊢
            have ll5 : lv5.length = L5.length := prd_len pl5
            have hL5 : L5.length ≤ (R5.map (·.1)).length := nd_le ws5.ndl ws5.sub
            rw [List.length_map] at hL5
            refine nextS ⟨_, rfl, .inl ⟨rfl, _, .of hc8⟩, _, rfl, c, lv5, _, rfl, rfl, hc8, by rw [sizeLine_eq]; omega, ?_⟩
            have y9 : Stay c H8 (upd H8 c (.lst (lv5 ++ [g]))) := .list hc8
            have y69 := y68.trans y9
            have hf := goal_from hg nf
            refine ⟨kvs5 ++ [(gKey mo.2.2, g, v7)], R5 ++ [(mo.2.2, put mo.1 mo.2.1 x0.2)], L5 ++ [mo.2.2], lv5 ++ [g], _, _, _, rfl, ?_, ⟨by rw [upd_ne rwc]; exact mx8.at_, fun x hx => keyV_stay (mx8.keys x hx) y9⟩, (prd_imp px5 fun _ _ z => z.stay y69).snoc ⟨rfl, hf.stay y69, rv8.stay y9⟩, upd_same, (prd_imp pl5 fun _ _ z => z.stay y69).snoc (hf.stay y69), ws6, fun b o z => ?_, List.mem_append_left _ hx5, fv5.stay y69, ?_, fun p' h1 h2 h3 m hm q hq eq => ?_⟩
            · rw [List.length_append, List.length_append]
              show 2 * (Qs.length - (R5.length + 1)) + (L5.length + 1) ≤ _
              omega
            · rw [upd_ne (ne_of_none z ncH)]
              exact s8 _ _ z
            · rw [List.map_append]
              exact et (fun m hm q hq eq => List.mem_append_left _ (tk5 m hm q hq eq)) fun _ _ _ => List.mem_append_right _ (List.mem_singleton.mpr rfl)
            · rw [List.map_append] at h1 ⊢
              rcases List.mem_append.mp h1 with z | z
              · exact List.mem_append_left _ (cl5 p' z h2 (fun k => h3 (List.mem_append_left _ k)) m hm q hq eq)
              · exact absurd (List.mem_append_right _ z) h3
        · rintro σ5 H6 ⟨kvs5, R5, L5, lv5, v5, v6, v7, rfl, le5, mx5, px5, hc5, pl5, ws5, s5, hx5, fv5, tk5, cl5⟩
          rw [prd_len pms, List.take_length] at tk5
          refine ⟨_, ?_, kvs5, R5, L5, lv5, _, v5, v6, v7, rfl, rfl, mx5, px5, hc5, pl5, ws5, s5, fun p' h1 h2 => ?_⟩
          · rw [List.length_cons]
            omega
          · by_cases e1 : p' = p
            · subst e1
              exact tk5
            · exact cl5 p' h1 e1 h2
    rintro σ' H' ⟨kvs, R, v3, v4, v5, v6, v7, rfl, mx, px, ws, cl, s1⟩
    have lk : kvs.length = R.length := prd_len px
    have fewR := ws.few rc
    have wrow : ∀ x ∈ R, x.2.1.length ≤ 600 ∧ x.2.2.length ≤ 600 := fun x hx => by
      have := ws.len x hx
      omega
    refine ⟨rwd, _, mx.at_, True.intro, fun od => ⟨_, rfl, rwd, od, kvs, rfl, upd_same, fun D nD => ?_⟩⟩
    have yL : Stay 0 H' (upd H' rwd (.frz od (MixO w rwd kvs))) := .dict mx.at_
    have hfz : upd H' rwd (.frz od (MixO w rwd kvs)) rwd = some (.frz od (MixO w rwd kvs)) := upd_same
    have pxL := prd_imp px fun _ _ z => z.stay yL
    have kyL : ∀ p ∈ kvs, KeyV (upd H' rwd (.frz od (MixO w rwd kvs))) p.1 p.2.1 := fun p hp => keyV_stay (mx.keys p hp) yL
    have sL : Same H (upd H' rwd (.frz od (MixO w rwd kvs))) := fun b o z => by
      rw [upd_ne (ne_of_none z nrw)]
      exact s1 _ _ z
    generalize upd H' rwd (.frz od (MixO w rwd kvs)) = HL at nD hfz pxL kyL sL ⊢
    have rowat : ∀ (H3 : Hp), Same HL H3 → ∀ x ∈ R, ∃ v, atM kvs (gKey x.1) = some v ∧ RowV H3 v x.2 := fun H3 s x hx => by
      obtain ⟨kv, ⟨_, _, rv⟩, ea⟩ := web_atG (f := fun x : Rw => x.1) (fun _ _ z => z.1) ws.nf ws.nd pxL hx
      exact ⟨_, ea, rv.same s⟩
    have mrL : ∀ (H3 : Hp), Same HL H3 → MixR w H3 rwd kvs := fun H3 s => ⟨.inr ⟨od, s _ _ hfz⟩, fun p hp => (kyL p hp).same s⟩
    refine lc_it (walk_keysM (w := w) (d := rwd) (o := od) (kvs := kvs)) (fun i H3 => ∃ (ps : List Addr) (ks : List TriV), H3 D = some (.lst (ps.map V.ref)) ∧ Paired (fun p kv => H3 p = some (.tup [kv.2.1, kv.2.2]) ∧ KeyV H3 kv.1 kv.2.1) ps ks ∧ Paired (LdE H3) ks (R.take i) ∧ Same HL H3) ?_ ?_ ?_ ?_
    · exact ⟨[], [], upd_same, .nil, .nil, same_put (s := Same.refl HL) nD⟩
    · rintro i H3 hi ⟨_, _, _, _, _, s3⟩
      exact s3 _ _ hfz
    · rintro i x H30 H3 hi ⟨ps, ks, hD, pp, pk, s3⟩ ⟨rfl, k0, v0, hk0⟩
      obtain ⟨x0, hx0i, ek, fx, _⟩ := prd_at pxL hk0
      dsimp only at ek fx
      subst ek
      have hx0 : x0 ∈ R := List.mem_of_getElem? hx0i
      have fx3 := fx.same s3
      obtain ⟨rv, ea, cr, erv, hcr⟩ := rowat H3 s3 x0 hx0
      obtain ⟨w1, w2⟩ := wrow x0 hx0
      have lps := prd_len pp
      have lks := prd_len pk
      rw [List.length_take] at lks
      refine ⟨rfl, _, rfl, _, rfl, _, rfl, rwd, kvs, gKey x0.1, rv, rfl, mrL H3 s3, from_key fx3, ea, ?_⟩
      rw [erv]
      refine ⟨cr, _, _, _, rfl, rfl, .inl (.inl hcr), atI_nat (j := 0) rfl, _, rfl, _, rfl, rwd, kvs, gKey x0.1, rv, rfl, mrL H3 s3, from_key fx3, ea, ?_⟩
      rw [erv]
      refine ⟨cr, _, _, _, rfl, rfl, .inl (.inl hcr), atI_nat (j := 1) rfl, x0.2.1, x0.2.2, rfl, by omega, by omega, fun lv H4 s4 lv4 => ⟨by show 2 ≤ sizeLine; decide, fun p np => ?_⟩⟩
      have s5 := same_put (s := s4) (o := .tup [x, lv]) np
      have hp5 : upd H4 p (.tup [x, lv]) p = some (.tup [x, lv]) := upd_same
      have lv5 := lv4.same (same_put (s := Same.refl H4) (o := .tup [x, lv]) np)
      generalize upd H4 p (.tup [x, lv]) = H5 at s5 hp5 lv5 ⊢
      have hD5 := s5 _ _ hD
      have fx5 := fx3.same s5
      have yD : Stay D H5 (upd H5 D (.lst (ps.map V.ref ++ [.ref p]))) := .list hD5
      refine ⟨_, hD5, by rw [List.length_map, sizeLine_eq]; omega, ps ++ [p], ks ++ [(gKey x0.1, x, lv)], ?_, ?_, ?_, fun b o z => ?_⟩
      · rw [upd_same, List.map_append]
        rfl
      · exact (prd_imp pp fun _ _ z => ⟨yD.t _ _ (s5 _ _ z.1), keyV_stay (z.2.same s5) yD⟩).snoc ⟨yD.t _ _ hp5, keyV_stay (from_key fx5) yD⟩
      · rw [List.take_add_one, hx0i]
        have ldst : ∀ {kv : TriV} {z : Rw}, LdE H5 kv z → LdE (upd H5 D (.lst (ps.map V.ref ++ [.ref p]))) kv z := fun {kv z} h => ⟨h.1, h.2.1.stay yD, h.2.2.stay yD⟩
        exact (prd_imp pk fun _ _ z => ldst (z.same s5)).snoc (ldst ⟨rfl, fx5, lv5⟩)
      · rw [upd_ne (ne_of_none z nD)]
        exact s5 _ _ (s3 _ _ z)
    rintro H3 ⟨ps, ks, hD, pp, pk, s3⟩
    rw [lk, List.take_length] at pk
    refine ⟨s3 _ _ hfz, ?_⟩
    have yU : Stay 0 H3 (upd H3 rwd (MixO w rwd kvs)) := ⟨fun b xs z => by rw [upd_ne (ne_of z (s3 _ _ hfz) (fun y => nomatch y))]; exact z, fun b xs z _ => by rw [upd_ne (ne_of z (s3 _ _ hfz) (fun y => nomatch y))]; exact z⟩
    have Drw : D ≠ rwd := (ne_of_none hfz nD).symm
    have sU : Same H (upd H3 rwd (MixO w rwd kvs)) := fun b o z => by
      rw [upd_ne (ne_of_none z nrw)]
      exact s3 _ _ (sL _ _ z)
    have hDU : upd H3 rwd (MixO w rwd kvs) D = some (.lst (ps.map V.ref)) := by rw [upd_ne Drw]; exact hD
    have hrU : upd H3 rwd (MixO w rwd kvs) rwd = some (MixO w rwd kvs) := upd_same
    have kyU : ∀ p ∈ kvs, KeyV (upd H3 rwd (MixO w rwd kvs)) p.1 p.2.1 := fun p hp => keyV_stay ((kyL p hp).same s3) yU
    have pxU : Paired (RwE (upd H3 rwd (MixO w rwd kvs))) kvs R := prd_imp pxL fun _ _ z => (z.same s3).stay yU
    have ldU : Paired (LdE (upd H3 rwd (MixO w rwd kvs))) ks R := prd_imp pk fun _ _ h => ⟨h.1, h.2.1.stay yU, h.2.2.stay yU⟩
    have ppU := prd_imp pp fun _ _ z => (⟨yU.t _ _ z.1, keyV_stay z.2 yU⟩ : _ ∧ _)
    generalize upd H3 rwd (MixO w rwd kvs) = HU at sU hDU hrU kyU pxU ldU ppU ⊢
    refine ⟨D, ps, ks, rfl, .of hDU, prd_imp ppU fun _ _ z => ⟨.of z.1, z.2⟩, fun l nl => ?_⟩
    have ksnd : (ks.map (·.1)).Nodup := keys_ndG (f := fun x : Rw => x.1) (fun _ _ z => z.1) ws.nf ws.nd ldU
    rw [putAll_nd ks [] (by rw [List.nil_append]; exact ksnd), List.nil_append]
    have lrw : l ≠ rwd := (ne_of_none hrU nl).symm
    have sV := same_put (s := Same.refl HU) (o := MixO w l ks) nl
    have hlV : upd HU l (MixO w l ks) l = some (MixO w l ks) := upd_same
    show tSeq _ _ _ _ (upd HU l (MixO w l ks))
    generalize upd HU l (MixO w l ks) = HV at sV hlV ⊢
    have hrV := sV _ _ hrU
    refine ⟨rwd, _, hrV, True.intro, fun od2 => ⟨_, rfl, rwd, od2, kvs, rfl, upd_same, ?_⟩⟩
    have yM : Stay 0 HV (upd HV rwd (.frz od2 (MixO w rwd kvs))) := .dict hrV
    have hfM : upd HV rwd (.frz od2 (MixO w rwd kvs)) rwd = some (.frz od2 (MixO w rwd kvs)) := upd_same
    have hlM : upd HV rwd (.frz od2 (MixO w rwd kvs)) l = some (MixO w l ks) := by rw [upd_ne lrw]; exact hlV
    have sM : Same H (upd HV rwd (.frz od2 (MixO w rwd kvs))) := fun b o z => by
      rw [upd_ne (ne_of_none z nrw)]
      exact sV _ _ (sU _ _ z)
    have kyM : ∀ p ∈ kvs, KeyV (upd HV rwd (.frz od2 (MixO w rwd kvs))) p.1 p.2.1 := fun p hp => keyV_stay ((kyU p hp).same sV) yM
    have pxM : Paired (RwE (upd HV rwd (.frz od2 (MixO w rwd kvs)))) kvs R := prd_imp pxU fun _ _ z => (z.same sV).stay yM
    have ldM : Paired (LdE (upd HV rwd (.frz od2 (MixO w rwd kvs)))) ks R := prd_imp ldU fun _ _ h => ⟨h.1, (h.2.1.same sV).stay yM, (h.2.2.same sV).stay yM⟩
    generalize upd HV rwd (.frz od2 (MixO w rwd kvs)) = HM at hfM hlM sM kyM pxM ldM ⊢
    have rowat2 : ∀ (H3 : Hp), Same HM H3 → ∀ x ∈ R, ∃ v, atM kvs (gKey x.1) = some v ∧ RowV H3 v x.2 := fun H3 s x hx => by
      obtain ⟨kv, ⟨_, _, rv⟩, ea⟩ := web_atG (f := fun x : Rw => x.1) (fun _ _ z => z.1) ws.nf ws.nd pxM hx
      exact ⟨_, ea, rv.same s⟩
    have mrM : ∀ (H3 : Hp), Same HM H3 → MixR w H3 rwd kvs := fun H3 s => ⟨.inr ⟨od2, s _ _ hfM⟩, fun p hp => (kyM p hp).same s⟩
    have ldat : ∀ (H3 : Hp), Same HM H3 → ∀ x ∈ R, ∃ v, atM ks (gKey x.1) = some v ∧ LeadV H3 v (lead x.2) := fun H3 s x hx => by
      obtain ⟨kv, ⟨_, _, rv⟩, ea⟩ := web_atG (f := fun x : Rw => x.1) (fun _ _ z => z.1) ws.nf ws.nd ldM hx
      exact ⟨_, ea, rv.same s⟩
    have kyl : ∀ p ∈ ks, KeyV HM p.1 p.2.1 := fun p hp => by
      obtain ⟨i, hi, ei⟩ := List.getElem_of_mem hp
      obtain ⟨x, _, e1, e2, _⟩ := prd_at ldM (show ks[i]? = some p by rw [List.getElem?_eq_getElem hi, ei])
      rw [e1]
      exact from_key e2
    have mll : ∀ (H3 : Hp), Same HM H3 → MixR w H3 l ks := fun H3 s => ⟨.inl (s _ _ hlM), fun p hp => (kyl p hp).same s⟩
    have ltw : ∀ x ∈ R, LtW x.2 := fun x hx => way_lt lP lS (ws.way x hx)
    -- no paper
    have noP : ∀ H6, Same HM H6 → ¬ Alike P1 S1 → Q .non (upd H6 rwd (MixO w rwd kvs)) := fun H6 s na => q .non _ (fun b o z => by
      rw [upd_ne (ne_of_none z nrw)]
      exact s _ _ (sM _ _ z)) (.inl ⟨rfl, na⟩)
    refine for_it (walk_keysM (w := w) (d := rwd) (o := od2) (kvs := kvs)) (fun i σ' H6 => ∃ v5 v6 v7 v9 v10, σ' = [some (.ref d), some (.ref e), some (.ref rwd), v3, v4, v5, v6, v7, some (.ref l), v9, v10] ∧ Same HM H6 ∧ ∀ x ∈ R.take i, ∀ m ∈ moves P1 S1 x.1, LivP rs m.2.2 → KeepsL R x m) ?_ ?_ ?_ ?_
    · exact ⟨_, _, _, _, _, rfl, Same.refl HM, fun x hx => by simp at hx⟩
    · rintro i σ' H6 hi ⟨_, _, _, _, _, _, s6, _⟩
      exact s6 _ _ hfM
    · rintro i y σ' H60 H6 hi ⟨w5, w6, w7, w9, w10, rfl, s6, kp6⟩ ⟨rfl, k0, v0, hk0⟩
      obtain ⟨x0, hx0i, ek, fx, _⟩ := prd_at pxM hk0
      dsimp only at ek fx
      subst ek
      have hx0 : x0 ∈ R := List.mem_of_getElem? hx0i
      have hpQ := ws.inQ rc x0 hx0
      have sH6 : Same H H6 := fun b o z => s6 _ _ (sM _ _ z)
      obtain ⟨b, ms, ea, hb, pms⟩ := pww H6 sH6 x0.1 hpQ
      have keep1 : (∀ m ∈ moves P1 S1 x0.1, LivP rs m.2.2 → KeepsL R x0 m) → ∀ x ∈ R.take (i + 1), ∀ m ∈ moves P1 S1 x.1, LivP rs m.2.2 → KeepsL R x m := fun h x hx => by
        rw [List.take_add_one, hx0i] at hx
        rcases List.mem_append.mp hx with z | z
        · exact kp6 x z
        · have z2 : x = x0 := by simpa using z
          rw [z2]
          exact h
      refine ⟨_, rfl, _, rfl, d, kvw, gKey x0.1, _, rfl, kyw H6 sH6, from_key (fx.same s6), ea, b, rfl, ⟨_, .of (sH6 _ _ hb)⟩, for_it (walk_list (K := K) (a := b) (xs := ms)) (fun j σ' H7 => ∃ v5 v6 v7 v10, σ' = [some (.ref d), some (.ref e), some (.ref rwd), v3, v4, v5, v6, v7, some (.ref l), some y, v10] ∧ Same HM H7 ∧ ∀ m ∈ (moves P1 S1 x0.1).take j, LivP rs m.2.2 → KeepsL R x0 m) ?_ ?_ ?_ ?_⟩
      · exact ⟨_, _, _, _, rfl, s6, fun m hm => by simp at hm⟩
      · rintro j σ' H7 hj ⟨_, _, _, _, _, s7, _⟩
        exact .of (s7 _ _ (sM _ _ hb))
      · rintro j z σ' H70 H7 hj ⟨u5, u6, u7, u10, rfl, s7, kp7⟩ ⟨rfl, hz⟩
        have sH7 : Same H H7 := fun b o z => s7 _ _ (sM _ _ z)
        obtain ⟨b7, ms7, ea7, hb7, pms7⟩ := pww H7 sH7 x0.1 hpQ
        have eb : some (V.ref b7) = some (V.ref b) := ea7.symm.trans ea
        cases eb
        rw [hb] at hb7
        cases hb7
        obtain ⟨mo, hmo, cm, g, rfl, hcm, hg⟩ := prd_at pms7 hz
        have hmem : mo ∈ moves P1 S1 x0.1 := List.mem_of_getElem? hmo
        have hm2 : (mo.1, mo.2.1, mo.2.2) ∈ moves P1 S1 x0.1 := hmem
        have et : (LivP rs mo.2.2 → KeepsL R x0 mo) → ∀ m ∈ (moves P1 S1 x0.1).take (j + 1), LivP rs m.2.2 → KeepsL R x0 m := fun h2 m hm => by
          rw [List.take_add_one, hmo] at hm
          rcases List.mem_append.mp hm with z | z
          · exact kp7 m z
          · rw [List.mem_singleton.mp z]
            exact h2
        refine ⟨cm, _, rfl, .inl (.inl hcm), rfl, _, _, rfl, _, _, rfl, _, _, rfl, rfl, ?_⟩
        -- what lives
        have main : ∀ D : Ends, (∀ σ' H7, (∃ v5 v6 v7 v10, σ' = [some (.ref d), some (.ref e), some (.ref rwd), v3, v4, v5, v6, v7, some (.ref l), some y, v10] ∧ Same HM H7 ∧ ∀ m ∈ (moves P1 S1 x0.1).take (j + 1), LivP rs m.2.2 → KeepsL R x0 m) → D.nx σ' H7) →
            (∀ v H', H' rwd = some (.frz od2 (MixO w rwd kvs)) ∧ Q v (upd H' rwd (MixO w rwd kvs)) → D.rt v H') → LivP rs mo.2.2 → tSeq (tAsg (tCall spTaken [] E0 (tCons (tOp (rGetR w) (tVar 2) (tVar 9)) (tCons (tVar 5) (tCons (tVar 6) tNil)))) (gName 10))
            (tIfS (tOr (tTest (tOp (fun x y H Q => y = V.non ∧ Q (V.bl (decide (x = V.non))) H) (tOp (rGetR w) (tVar 8) (tVar 9)) (tC V.non)))
              (tTest (tOp (rNeD K) (tCall spLeadL [] E0 (tCons (tOp (rIxT K) (tVar 10) (tC (V.int 0))) (tCons (tOp (rIxT K) (tVar 10) (tC (V.int 1))) tNil))) (tOp (rGetR w) (tVar 8) (tVar 7)))))
              (tRet (tC V.non)) tNext) D
            [some (.ref d), some (.ref e), some (.ref rwd), v3, v4, some (.str (sideS mo.1)), some (.str (L1 mo.2.1)), some g, some (.ref l), some y, u10] H7 := fun D hn hrt lv => by
          obtain ⟨rv, ea9, cr, erv, hcr⟩ := rowat2 H7 s7 x0 hx0
          obtain ⟨w1, w2⟩ := wrow x0 hx0
          have fx7 := fx.same s7
          refine ⟨_, rfl, _, rfl, rwd, kvs, gKey x0.1, rv, rfl, mrM H7 s7, from_key fx7, ea9, _, rfl, _, rfl, rv, x0.2, mo.1, mo.2.1, rfl, ⟨cr, erv, hcr⟩, by omega, by omega, fun v10 H8 s8 rv8 => ?_⟩
          obtain ⟨c10, rfl, hc10⟩ := rv8
          have s78 : Same HM H8 := fun b o z => s8 _ _ (s7 _ _ z)
          obtain ⟨lv0, ea8, hlv⟩ := ldat H8 s78 x0 hx0
          have hpl := putR_len mo.1 mo.2.1 x0.2
          refine ⟨_, rfl, _, rfl, l, ks, gKey x0.1, lv0, rfl, mll H8 s78, from_key (fx.same s78), ea8, rfl, _, rfl, ?_⟩
          cases hk : lead x0.2 with
          | none =>
            rw [hk] at hlv
            obtain rfl : lv0 = .non := hlv
            rw [decide_eq_true rfl]
            refine iteT (iteT (hrt _ _ ⟨s78 _ _ hfM, noP H8 s78 fun ak => ?_⟩))
            have z := (keeps_alike av ws cl ak hx0 hmem lv).1
            rw [hk] at z
            cases z
          | some k =>
            rw [hk] at hlv
            obtain ⟨ck, rfl, _⟩ := hlv
            rw [decide_eq_false (show ¬ V.ref ck = V.non from fun z => nomatch z)]
            have hy : ∃ y ∈ R, y.1 = mo.2.2 ∨ (mo.2.2 = .fin ∧ y.1 = .start) := by
              rcases lv with ef | ⟨q0, hq0, eq0⟩
              · exact ⟨_, ws.st, .inr ⟨ef, rfl⟩⟩
              · obtain ⟨y0, hy0, ey0⟩ := List.mem_map.mp (cl x0.1 (List.mem_map_of_mem hx0) mo hmem q0 hq0 eq0)
                exact ⟨y0, hy0, .inl ey0⟩
            obtain ⟨y0, hy0, ey0⟩ := hy
            have egk : gKey mo.2.2 = gKey y0.1 := by
              rcases ey0 with z | ⟨z1, z2⟩
              · rw [z]
              · rw [z1, z2]
                rfl
            refine iteF ⟨_, rfl, c10, _, _, _, rfl, rfl, .inl (.inl hc10), atI_nat (j := 0) rfl, _, rfl, c10, _, _, _, rfl, rfl, .inl (.inl hc10), atI_nat (j := 1) rfl, (put mo.1 mo.2.1 x0.2).1, (put mo.1 mo.2.1 x0.2).2, rfl, by omega, by omega, fun v11 H9 s9 lv9 => ?_⟩
            have s79 : Same HM H9 := fun b o z => s9 _ _ (s78 _ _ z)
            obtain ⟨lvy, eay, hly⟩ := ldat H9 s79 y0 hy0
            have hg9 : GoalV H9 g mo.2.2 := hg.same fun b o z => s9 _ _ (s8 _ _ z)
            have lbl : isLt mo.2.1 := by
              have z := way_lt lP lS (Way.step (P := P1) (S := S1) (o := x0.1) .nil hm2)
              unfold put at z
              cases hb : mo.1 with
              | true =>
                rw [hb, if_pos rfl] at z
                exact z.1 _ (List.mem_append_right _ (List.mem_singleton.mpr rfl))
              | false =>
                rw [hb, if_neg (by decide)] at z
                exact z.2 _ (List.mem_append_right _ (List.mem_singleton.mpr rfl))
            refine ⟨_, rfl, _, rfl, l, ks, gKey mo.2.2, lvy, rfl, mll H9 s79, goal_key hg9, by rw [egk]; exact eay, _, _, lead_dp lv9, lead_dp hly, ld_shaped fun k2 e2 => lead_lt (put_lt (ltw x0 hx0) mo.1 lbl) e2, ld_shaped fun k2 e2 => lead_lt (ltw y0 hy0) e2, ?_⟩
            rw [ld_eqv2]
            refine ⟨_, rfl, ?_⟩
            by_cases hq : lead (put mo.1 mo.2.1 x0.2) = lead y0.2
            · rw [decide_eq_true (show lead ((put mo.1 mo.2.1 x0.2).1, (put mo.1 mo.2.1 x0.2).2) = lead y0.2 from hq)]
              exact iteF (hn _ _ ⟨_, _, _, _, rfl, s79, et fun _ => ⟨by rw [hk]; rfl, y0, hy0, ey0, hq⟩⟩)
            · rw [decide_eq_false (show ¬ lead ((put mo.1 mo.2.1 x0.2).1, (put mo.1 mo.2.1 x0.2).2) = lead y0.2 from hq)]
              refine iteT (hrt _ _ ⟨s79 _ _ hfM, noP H9 s79 fun ak => ?_⟩)
              obtain ⟨_, y2, hy2, ey2, el⟩ := keeps_alike av ws cl ak hx0 hmem lv
              have e3 : y2.1 = y0.1 := by
                rcases ey0 with z | ⟨z1, z2⟩ <;> rcases ey2 with k1 | ⟨k1, k2⟩
                · rw [z, k1]
                · exact absurd (z.trans k1) (ws.nf y0 hy0)
                · exact absurd (k1.trans z1) (ws.nf y2 hy2)
                · rw [z2, k2]
              rw [rw_one ws.nd y2 hy2 y0 hy0 e3] at el
              exact hq el
        refine ⟨_, rfl, rfl, _, rfl, ?_⟩
        by_cases hf : mo.2.2 = .fin
        · have gn : g = .non := by
            rw [hf] at hg
            exact hg
          rw [decide_eq_true gn]
          exact iteT (iteT (main _ (fun _ _ z => z) (fun _ _ z => z) (.inl hf)))
        have gn : ¬ g = .non := fun z => by
          cases hmm : mo.2.2 with
          | start =>
            rw [hmm] at hg
            exact hg.elim
          | fin => exact hf hmm
          | rest a2 r2 =>
            rw [hmm] at hg
            obtain ⟨c2, e2, _⟩ := hg
            rw [z] at e2
            cases e2
        rw [decide_eq_false gn]
        refine iteF ⟨_, rfl, _, rfl, _, _, goal_dp hg, rests_dp (sH7 _ _ he) (prd_imp pf fun _ _ z => z.same sH7), goal_ok hpQ mo hmem, shR, ?_⟩
        rw [any_rests]
        refine ⟨_, rfl, ?_⟩
        cases hal : decide (∃ q ∈ rs, restO mo.2.2 = some q) with
        | true => exact iteT (main _ (fun _ _ z => z) (fun _ _ z => z) (.inr ((inA mo.2.2).mp hal)))
        | false =>
          refine iteF ⟨_, _, _, _, rfl, s7, et fun lv => ?_⟩
          rcases lv with z | z
          · exact absurd z hf
          · rw [(inA mo.2.2).mpr z] at hal
            cases hal
      · rintro σ' H7 ⟨u5, u6, u7, u10, rfl, s7, kp7⟩
        rw [prd_len pms, List.take_length] at kp7
        exact ⟨u5, u6, u7, _, u10, rfl, s7, keep1 kp7⟩
    · rintro σ' H6 ⟨u5, u6, u7, u9, u10, rfl, s6, kp6⟩
      rw [lk, List.take_length] at kp6
      have ak := alike_keeps rc av ws cl kp6
      have y6 : Stay 0 H6 (upd H6 rwd (MixO w rwd kvs)) := ⟨fun b xs z => by rw [upd_ne (ne_of z (s6 _ _ hfM) (fun y => nomatch y))]; exact z, fun b xs z _ => by rw [upd_ne (ne_of z (s6 _ _ hfM) (fun y => nomatch y))]; exact z⟩
      refine ⟨s6 _ _ hfM, _, rfl, q (.ref l) _ (fun b o z => ?_) (.inr ⟨l, ks, R, rfl, ak, ⟨?_, fun p hp => keyV_stay ((kyl p hp).same s6) y6⟩, prd_imp ldM fun _ _ h => ⟨h.1, (h.2.1.same s6).stay y6, (h.2.2.same s6).stay y6⟩, ws, cl⟩)⟩
      · rw [upd_ne (ne_of_none z nrw)]
        exact s6 _ _ (sM _ _ z)
      · rw [upd_ne lrw]
        exact s6 _ _ hlM
end
end V8
set_option Elab.async false
set_option linter.all false
set_option maxRecDepth 100000
set_option maxHeartbeats 8000000
set_option pp.maxSteps 900
/-! The law's own papers, and its lists of images. -/
namespace V8
open PySem PySem.Spec PyProof.Rows L2 MZ MX
abbrev s__law_papers : Stmt := topS 82
abbrev n__law_papers : List Str := ["_law_one", "_law_two", "_law_web_here", "_law_alive_here", "_law_leads_here", "_law_shut", "_law_rest"]
theorem sc__law_papers : FnScope ["_law_one", "_law_two", "_law_web_here", "_law_alive_here", "_law_leads_here", "_law_shut", "_law_rest"] ["_law_one", "_law_two"] (defScope s__law_papers) := ⟨rfl, rfl, rfl, by decide +kernel, rfl, by decide +kernel, by decide +kernel⟩
abbrev s__law_listed : Stmt := topS 83
abbrev n__law_listed : List Str := ["_law_table_here", "_law_letter"]
theorem sc__law_listed : FnScope ["_law_table_here", "_law_letter"] ["_law_table_here"] (defScope s__law_listed) := ⟨rfl, rfl, rfl, by decide +kernel, rfl, by decide +kernel, by decide +kernel⟩
/-- rests that are shut -/
structure DeV (P S : List Pr) (Qs : List Pl) (rs rs' : List (Bool × Wd)) : Prop where
  nd : rs'.Nodup
  mem : ∀ q : Bool × Wd, q ∈ rs' ↔ Pl.rest q.1 q.2 ∈ Qs ∧ q ∉ rs
def toldD (W : Bool × Wd → Bool × List Nat) (rs : List (Bool × Wd)) : PyData := .tuple (rs.map fun q => .tuple [.str (sideS q.1), .str (Sx q.2), .str (sideS (W q).1), .str (Sx (W q).2)])
/-- what the papers tell -/
structure PapR (P S : List Pr) (H : Hp) (c : Addr) : Prop where
  ex : ∃ (v1 v2 : V) (Qs : List Pl) (rs rs' : List (Bool × Wd)), H c = some (.tup [v1, v2]) ∧ Reach P S Qs ∧ AlV P S Qs rs ∧ DeV P S Qs rs rs' ∧ (rs.map lineS).Pairwise leS ∧ (rs'.map lineS).Pairwise leS ∧ OkQs rs ∧ OkQs rs' ∧ TV H v2 (restsD rs') ∧
    ((v1 = .non ∧ ¬ Alike P S) ∨ (Alike P S ∧ ∃ W : Bool × Wd → Bool × List Nat, (∀ q ∈ rs, (∃ w, Way P S .start (.rest q.1 q.2) w ∧ lead w = some (W q)) ∧ (W q).2.length ≤ 600) ∧ TV H v1 (toldD W rs)))
def deadL (Qs : List Pl) (rs : List (Bool × Wd)) : List (Bool × Wd) := (Qs.filterMap restO).filter fun q => decide (q ∉ rs)
theorem restO_iff {p : Pl} {q : Bool × Wd} : restO p = some q ↔ p = .rest q.1 q.2 := by
  cases p with
  | start => exact ⟨(fun h => nomatch h), (fun h => nomatch h)⟩
  | fin => exact ⟨(fun h => nomatch h), (fun h => nomatch h)⟩
  | rest a r =>
    constructor
    · intro h
      cases h
      rfl
    · intro h
      cases h
      rfl
theorem deadL_is {P S : List Pr} {Qs : List Pl} (rc : Reach P S Qs) (rs : List (Bool × Wd)) : DeV P S Qs rs (deadL Qs rs) := by
  refine ⟨?_, fun q => ?_⟩
  · refine List.Pairwise.filter _ (List.Pairwise.filterMap restO (fun a b hab x hx y hy e => ?_) rc.nd)
    rw [restO_iff] at hx hy
    exact hab (by rw [hx, hy, e])
  · unfold deadL
    rw [List.mem_filter, List.mem_filterMap, decide_eq_true_iff]
    constructor
    · rintro ⟨⟨p, hp, e⟩, h⟩
      rw [restO_iff] at e
      exact ⟨e ▸ hp, h⟩
    · rintro ⟨h1, h2⟩
      exact ⟨⟨_, h1, restO_iff.mpr rfl⟩, h2⟩
theorem deadL_len (Qs : List Pl) (rs : List (Bool × Wd)) : (deadL Qs rs).length ≤ Qs.length := Nat.le_trans (List.length_filter_le ..) (List.length_filterMap_le ..)
theorem deadL_take {Qs : List Pl} {rs : List (Bool × Wd)} {i : Nat} {p : Pl} (h : Qs[i]? = some p) : deadL (Qs.take (i + 1)) rs = deadL (Qs.take i) rs ++ (match restO p with | some q => if q ∈ rs then [] else [q] | none => []) := by
  unfold deadL
  rw [List.take_add_one, h, List.filterMap_append, List.filter_append]
  congr 1
  show List.filter _ (List.filterMap restO [p]) = _
  cases e : restO p with
  | none =>
    rw [List.filterMap_cons, e]
    rfl
  | some q =>
    rw [List.filterMap_cons, e]
    show List.filter _ [q] = _
    by_cases hq : q ∈ rs
    · rw [List.filter_cons_of_neg (by simpa using hq)]
      show [] = if q ∈ rs then [] else [q]
      rw [if_pos hq]
    · rw [List.filter_cons_of_pos (by simpa using hq)]
      show [q] = if q ∈ rs then [] else [q]
      rw [if_neg hq]
theorem rests_tv {H : Hp} {e : Addr} {ys : List V} {rs : List (Bool × Wd)} (h1 : H e = some (.tup ys)) (h2 : Paired (RestV H) ys rs) : TV H (.ref e) (restsD rs) := rs_tv ⟨ys, h1, prd_imp h2 fun _ _ z => z⟩
/-- a rest with its lead -/
def ToldV (W : Bool × Wd → Bool × List Nat) (H : Hp) (v : V) (q : Bool × Wd) : Prop := ∃ c, v = .ref c ∧ H c = some (.tup [.str (sideS q.1), .str (Sx q.2), .str (sideS (W q).1), .str (Sx (W q).2)])
theorem ToldV.same {W : Bool × Wd → Bool × List Nat} {H H' : Hp} {v : V} {q : Bool × Wd} (h : ToldV W H v q) (s : Same H H') : ToldV W H' v q := by
  obtain ⟨c, e, hc⟩ := h
  exact ⟨c, e, s _ _ hc⟩
theorem ToldV.put {W : Bool × Wd → Bool × List Nat} {H : Hp} {v : V} {q : Bool × Wd} {D : Addr} {ys : List V} {o : HO} (h : ToldV W H v q) (hD : H D = some (.lst ys)) : ToldV W (upd H D o) v q := by
  obtain ⟨c, e, hc⟩ := h
  exact ⟨c, e, by rw [upd_ne (ne_of hc hD (fun z => nomatch z))]; exact hc⟩
theorem told_tv {W : Bool × Wd → Bool × List Nat} {H : Hp} {e : Addr} {ys : List V} {rs : List (Bool × Wd)} (h1 : H e = some (.tup ys)) (h2 : Paired (ToldV W H) ys rs) : TV H (.ref e) (toldD W rs) := by
  refine .tup h1 ?_
  clear h1
  induction h2 with
  | nil => exact .nil
  | cons r _ ih =>
    obtain ⟨c, rfl, hc⟩ := r
    exact .cons (.tup hc (.cons (.str _) (.cons (.str _) (.cons (.str _) (.cons (.str _) .nil))))) ih
theorem rw_all {P S : List Pr} {Qs : List Pl} {rs : List (Bool × Wd)} {R : List Rw} (rc : Reach P S Qs) (av : AlV P S Qs rs) (h : RwS P S rs R []) (cl : ClR P S rs R) {p : Pl} (hp : p ∈ Qs) {v : List Nat × List Nat} (kv : Way P S p .fin v) : p ∈ R.map (·.1) := by
  obtain ⟨nf, w, k⟩ := (rc.mem p).mp hp
  clear hp
  induction k generalizing v with
  | nil => exact List.mem_map_of_mem h.st
  | @step p1 w1 t l p2 k m ih =>
    obtain ⟨u, ku⟩ := move_way (m := (t, l, p2)) m kv
    have n1 : p1 ≠ .fin := fun e => by
      subst e
      cases m
    have h1 := ih ku n1
    cases p2 with
    | fin => exact absurd rfl nf
    | start => exact absurd rfl (no_start (Way.step (P := P) (S := S) (o := p1) .nil m) fun e => by
        subst e
        obtain ⟨_, _, z⟩ := List.mem_map.mp m
        cases z)
    | rest a r =>
      have hq : ((a, r) : Bool × Wd) ∈ rs := (av.mem (a, r)).mpr ⟨(rc.mem _).mpr ⟨nf, _, .step k m⟩, v, kv⟩
      exact cl p1 h1 (t, l, .rest a r) m (a, r) hq rfl
/-- the images with their letters -/
def wlT (t : Tab) : List Pr := t.map fun q => (q.2, q.1)
def spPapers : Sp := fun vs H Q _ => ∃ (a b : Addr) (P S : List Pr), vs = [.ref a, .ref b] ∧ PrL H a P ∧ PrL H b S ∧ PrOk P ∧ PrOk S ∧ (∀ q ∈ P, q.1 ≠ []) ∧ LbOk P ∧ LbOk S ∧ ∀ c H', Same H H' → PapR P S H' c → Q (.ref c) H'
def spListed : Sp := fun vs H Q _ => ∃ (d : Addr) (t : Tab), vs = [.ref d] ∧ H d = some (.dK (encT t)) ∧ (t.map (·.1)).Nodup ∧ t.length ≤ 26 ∧ ∀ g H' P, H g = none → Same H H' → PrL H' g P → P.Perm (wlT t) → Q (.ref g) H'
section
variable {P : Program} {w : World} {K : PySem.W.Frag} {mg : Str → Option Value} {base : Heap} {CM CJ : Addr}
theorem ok_papers {f : Addr} {fd : FuncData} (F : Fun K "_law_papers" "_law_papers" s__law_papers f fd) (T : Tz K mg CM CJ) (D_web : Df P w K mg base 2 "_law_web" (spWeb w)) (D_alive : Df P w K mg base 2 "_law_alive" (spAlive w)) (D_leads : Df P w K mg base 2 "_law_leads" (spLeadsK w)) (D_ordered : Df P w K mg base 1 "_law_ordered" spOrdered) : FnOk P w K mg base CX0 3 f fd ["_law_one", "_law_two"] spPapers := by
  refine F.ok sc__law_papers (fun vs H Q E h => ?_) (fun cdv A outer s H vs Q E hr h => ?_)
  · obtain ⟨a, b, P, S, rfl, _⟩ := h
    rfl
  · obtain ⟨a1, b1, P1, S1, rfl, hP, hS, okP, okS, nP, lP, lS, q⟩ := h
    refine ⟨_, (pss_cons (ps_set (i := 2) sc__law_papers.nd rfl (.inl rfl) (pe_c D_web hr (by decide) (by rfl) (pa_cons (pv 0) (pa_cons (pv 1) pa_nil))))
      (pss_cons (ps_set (i := 3) sc__law_papers.nd rfl (.inr rfl) (pe_c D_alive hr (by decide) (by rfl) (pa_cons (pv 2) pa_nil)))
      (pss_cons (ps_set (i := 4) sc__law_papers.nd rfl (.inr rfl) (pe_c D_leads hr (by decide) (by rfl) (pa_cons (pv 2) (pa_cons (pv 3) pa_nil))))
      (pss_cons (ps_set (i := 5) sc__law_papers.nd rfl (.inl rfl) (pe_callTy (call_tuple_ofK (K := K) rfl) (by rfl) T.tuple (by decide +kernel) (pa_cons (pe_c D_ordered hr (by decide) (by rfl) (pa_cons (pe_lock (pe_lc (own := [("_law_rest", 6)]) (g := gName 6) (by rfl) sc__law_papers.nd (pi_keysW (w := w) rfl (pv 2)) (blkOk_by (own := [("_law_rest", 6)]) (N := n__law_papers) (sc := defScope s__law_papers) (by decide +kernel)) (fun _ _ _ _ _ => (pg_name (i := 6) sc__law_papers.nd rfl (.inl rfl))) (fun _ _ _ _ _ => (pts_one (PW.pt (pw_and (pt_cmpR op_notN (pv 6) pe_non (nomark _)) (pw_and1 (pt_cmpR (op_notInDK (K := K) rfl (hu65 hr)) (pv 6) (pv 3) rfl)))))) (fun _ _ _ _ _ => (pv 6)))) pa_nil)) pa_nil)))
      (pss_cons (ps_if (pt_cmpR op_isN (pv 4) pe_non (nomark _))
        (pss_one (ps_ret (pe_tup (pa_cons pe_non (pa_cons (pv 5) pa_nil)))))
        pss_nil)
      (pss_one (ps_ret (pe_tup (pa_cons (pe_callTy (call_tuple_ofK (K := K) rfl) (by rfl) T.tuple (by decide +kernel) (pa_cons (pe_lc (own := [("_law_rest", 6)]) (g := gName 6) (by rfl) sc__law_papers.nd (pi_list (pv 3)) (blkOk_by (own := [("_law_rest", 6)]) (N := n__law_papers) (sc := defScope s__law_papers) (by decide +kernel)) (fun _ _ _ _ _ => (pg_name (i := 6) sc__law_papers.nd rfl (.inl rfl))) (fun _ _ _ _ _ => pts_nil) (fun _ _ _ _ _ => (pe_op (op_catTK (K := K) rfl) (pv 6) (pe_getR (w := w) rfl (u9 hr) (pv 4) (pv 6) (fun _ _ => rfl))))) pa_nil)) (pa_cons (pv 5) pa_nil)))))))))), ?_⟩
    refine ⟨_, rfl, _, rfl, a1, b1, P1, S1, rfl, hP, hS, okP, okS, nP, fun d Qs H1 s1 hw rc => ?_⟩
    refine ⟨_, rfl, d, P1, S1, Qs, rfl, hw, rc, okP, okS, nP, fun e H2 fs rs ne s2 he pf pws av => ?_⟩
    have okR : OkQs rs := AlS.ok ⟨av.nd, fun q hq => (av.mem q).mp hq⟩ rc okP okS nP
    refine ⟨_, rfl, _, rfl, d, e, fs, P1, S1, Qs, rs, rfl, hw.same s2, rc, okP, okS, nP, lP, lS, he, pf, av, okR, fun v H3 s3 ld => ?_⟩
    obtain ⟨kvw, mw, pw⟩ := hw
    have s13 : Same H1 H3 := fun b o z => s3 _ _ (s2 _ _ z)
    have s03 : Same H H3 := fun b o z => s13 _ _ (s1 _ _ z)
    have mw3 := mw.same s13
    have fewQ := rc.few okP okS nP
    have ltR : ∀ q ∈ rs, ∀ c ∈ q.2, isLt c := fun q hq => (okR.2 q hq).2
    have wrd : ∀ {a : Bool} {r : Wd}, Pl.rest a r ∈ Qs → r.length ≤ 64 ∧ ∀ c ∈ r, isLt c := fun {a r} hp => by
      obtain ⟨_, w0, k⟩ := (rc.mem _).mp hp
      exact rest_word okP okS nP k
    have dev := deadL_is rc rs
    have okD : OkQs (deadL Qs rs) := ⟨by have := deadL_len Qs rs; omega, fun q hq => wrd ((dev.mem q).mp hq).1⟩
    have he3 := s3 _ _ he
    have de : e ≠ d := fun z => by
      rw [z, mw3.at_] at he3
      cases he3
    -- the shut ones
    refine ⟨d, _, mw3.at_, True.intro, fun od => ⟨_, rfl, d, od, kvw, rfl, upd_same, fun D nD => ?_⟩⟩
    have yL : Stay 0 H3 (upd H3 d (.frz od (MixO w d kvw))) := ⟨fun b xs z => by rw [upd_ne (ne_of z mw3.at_ (fun y => nomatch y))]; exact z, fun b xs z _ => by rw [upd_ne (ne_of z mw3.at_ (fun y => nomatch y))]; exact z⟩
    have hfz : upd H3 d (.frz od (MixO w d kvw)) d = some (.frz od (MixO w d kvw)) := upd_same
    have heL : upd H3 d (.frz od (MixO w d kvw)) e = some (.lst fs) := by rw [upd_ne de]; exact he3
    have fvL : ∀ (i : Nat) (k : NestedKey) (x v : V), kvw[i]? = some (k, x, v) → ∃ p, Qs[i]? = some p ∧ FromV (upd H3 d (.frz od (MixO w d kvw))) x p := fun i k x v hk => by
      obtain ⟨p, hp, _, fx, _⟩ := prd_at pw hk
      exact ⟨p, hp, (fx.same s13).stay yL⟩
    have pfL : Paired (RestV (upd H3 d (.frz od (MixO w d kvw)))) fs rs := prd_imp pf fun _ _ ⟨c, z, hc⟩ => ⟨c, z, yL.t _ _ (s3 _ _ hc)⟩
    have backL : ∀ b o, b ≠ d → H3 b = some o → upd H3 d (.frz od (MixO w d kvw)) b = some o := fun b o n z => by rw [upd_ne n]; exact z
    have lkw := prd_len pw
    generalize upd H3 d (.frz od (MixO w d kvw)) = HL at nD hfz heL fvL pfL backL ⊢
    refine lc_it (walk_keysM (w := w) (d := d) (o := od) (kvs := kvw)) (fun i H4 => ∃ ys, H4 D = some (.lst ys) ∧ Paired (RestV H4) ys (deadL (Qs.take i) rs) ∧ Same HL H4) ?_ ?_ ?_ ?_
    · exact ⟨[], upd_same, .nil, same_put (s := Same.refl HL) nD⟩
    · rintro i H4 hi ⟨_, _, _, s4⟩
      exact s4 _ _ hfz
    · rintro i x H40 H4 hi ⟨ys, hD, py, s4⟩ ⟨rfl, k0, v0, hk0⟩
      obtain ⟨p, hp, fx⟩ := fvL i k0 x v0 hk0
      have fx4 := fx.same s4
      have ly := prd_len py
      have ll := deadL_len (Qs.take i) rs
      rw [List.length_take] at ll
      refine ⟨rfl, _, rfl, rfl, _, rfl, ?_⟩
      cases p with
      | fin => exact fx.elim
      | start =>
        obtain rfl : x = .non := fx
        rw [decide_eq_true rfl]
        refine iteF (iteF ⟨ys, hD, ?_, s4⟩)
        rw [deadL_take hp]
        show Paired _ _ (_ ++ [])
        rw [List.append_nil]
        exact py
      | rest a r =>
        have gv : GoalV H4 x (.rest a r) := fx4
        obtain ⟨c, rfl, hc⟩ := (show FromV H4 x (.rest a r) from fx4)
        rw [decide_eq_false (show ¬ V.ref c = V.non from fun z => nomatch z)]
        refine iteT ⟨_, rfl, _, rfl, _, _, goal_dp gv, rests_dp (s4 _ _ heL) (prd_imp pfL fun _ _ z => z.same s4), ld_shaped (restO_lt fun a2 r2 z => by cases z; exact (wrd (List.mem_of_getElem? hp)).2), rests_shaped ltR, ?_⟩
        rw [any_rests]
        refine ⟨_, rfl, ?_⟩
        have ed : deadL (Qs.take (i + 1)) rs = deadL (Qs.take i) rs ++ (if (a, r) ∈ rs then [] else [(a, r)]) := deadL_take hp
        by_cases hin : (a, r) ∈ rs
        · rw [decide_eq_true (show ∃ q ∈ rs, restO (.rest a r) = some q from ⟨_, hin, rfl⟩)]
          refine iteF ⟨ys, hD, ?_, s4⟩
          rw [ed, if_pos hin, List.append_nil]
          exact py
        · rw [decide_eq_false (show ¬ ∃ q ∈ rs, restO (.rest a r) = some q from fun ⟨q, hq, z⟩ => hin (by cases z; exact hq))]
          refine iteT ⟨_, rfl, ys, hD, by rw [sizeLine_eq]; omega, ys ++ [.ref c], upd_same, ?_, fun b o z => ?_⟩
          · rw [ed, if_neg hin]
            exact (prd_imp py fun _ _ z => z.put hD).snoc (RestV.put ⟨c, rfl, hc⟩ hD)
          · rw [upd_ne (ne_of_none z nD)]
            exact s4 _ _ z
    rintro H4 ⟨ys, hD, py, s4⟩
    rw [lkw, List.take_length] at py
    refine ⟨s4 _ _ hfz, ?_⟩
    have Dd : D ≠ d := (ne_of_none hfz nD).symm
    have y4 : Stay 0 H4 (upd H4 d (MixO w d kvw)) := ⟨fun b xs z => by rw [upd_ne (ne_of z (s4 _ _ hfz) (fun y => nomatch y))]; exact z, fun b xs z _ => by rw [upd_ne (ne_of z (s4 _ _ hfz) (fun y => nomatch y))]; exact z⟩
    have s35 : Same H3 (upd H4 d (MixO w d kvw)) := fun b o z => by
      by_cases bd : b = d
      · subst bd
        rw [mw3.at_] at z
        rw [upd_same]
        exact z
      · rw [upd_ne bd]
        exact s4 _ _ (backL b o bd z)
    have hD5 : upd H4 d (MixO w d kvw) D = some (.lst ys) := by rw [upd_ne Dd]; exact hD
    have py5 : Paired (RestV (upd H4 d (MixO w d kvw))) ys (deadL Qs rs) := prd_imp py fun _ _ ⟨c, z, hc⟩ => ⟨c, z, y4.t _ _ hc⟩
    generalize upd H4 d (MixO w d kvw) = H5 at s35 hD5 py5 ⊢
    have s05 : Same H H5 := fun b o z => s35 _ _ (s03 _ _ z)
    refine ⟨D, ys, _, rfl, hD5, py5, okD, fun e6 H6 zs rs' n6 s6 h6 p6 pm6 pw6 => ⟨e6, zs, rfl, .inl ⟨.of h6, fun l nl => ?_⟩⟩⟩
    have s67 := same_put (s := Same.refl H6) (o := .tup zs) nl
    have hl7 : upd H6 l (.tup zs) l = some (.tup zs) := upd_same
    show tSeq _ _ _ _ (upd H6 l (.tup zs))
    generalize upd H6 l (.tup zs) = H7 at s67 hl7 ⊢
    have s37 : Same H3 H7 := fun b o z => s67 _ _ (s6 _ _ (s35 _ _ z))
    have s07 : Same H H7 := fun b o z => s37 _ _ (s03 _ _ z)
    have dev' : DeV P1 S1 Qs rs rs' := ⟨pm6.nodup_iff.mpr dev.nd, fun q0 => pm6.mem_iff.trans (dev.mem q0)⟩
    have okD' : OkQs rs' := ⟨by rw [pm6.length_eq]; exact okD.1, fun q0 hq => okD.2 q0 (pm6.mem_iff.mp hq)⟩
    have tv7 : TV H7 (.ref l) (restsD rs') := rests_tv hl7 (prd_imp p6 fun _ _ z => z.same s67)
    have fin : ∀ (v1 : V) (H8 : Hp) (c : Addr), H8 c = none → Same H7 H8 → ((v1 = .non ∧ ¬ Alike P1 S1) ∨ (Alike P1 S1 ∧ ∃ W : Bool × Wd → Bool × List Nat, (∀ q ∈ rs, (∃ w, Way P1 S1 .start (.rest q.1 q.2) w ∧ lead w = some (W q)) ∧ (W q).2.length ≤ 600) ∧ TV H8 v1 (toldD W rs))) → Q (.ref c) (upd H8 c (.tup [v1, .ref l])) := fun v1 H8 c nc s8 r8 => by
      have s9 := same_put (s := Same.refl H8) (o := .tup [v1, .ref l]) nc
      refine q c _ (fun b o z => s9 _ _ (s8 _ _ (s07 _ _ z))) ⟨v1, .ref l, Qs, rs, rs', upd_same, rc, av, dev', pws, pw6, okR, okD', (tv7.same s8).same s9, r8.imp id fun ⟨ak, W, hW, tv⟩ => ⟨ak, W, hW, tv.same s9⟩⟩
    refine ⟨_, rfl, rfl, _, rfl, ?_⟩
    rcases ld with ⟨rfl, na⟩ | ⟨ll, ks, R, rfl, ak, mx, pl, ws, cl⟩
    · rw [decide_eq_true rfl]
      exact iteT ⟨_, rfl, by show 2 ≤ sizeLine; decide, fun c nc => fin .non H7 c nc (Same.refl H7) (.inl ⟨rfl, na⟩)⟩
    rw [decide_eq_false (show ¬ V.ref ll = V.non from fun z => nomatch z)]
    refine iteF (nextS ?_)
    have he7 := s37 _ _ he3
    have pf7 : Paired (RestV H7) fs rs := prd_imp pf fun _ _ ⟨c, z, hc⟩ => ⟨c, z, s37 _ _ (s3 _ _ hc)⟩
    have mx7 := mx.same s37
    let W : Bool × Wd → Bool × List Nat := fun q0 => (lead (wayTo R (.rest q0.1 q0.2))).getD (true, [])
    have hW : ∀ q0 ∈ rs, ∃ x ∈ R, x.1 = .rest q0.1 q0.2 ∧ lead x.2 = some (W q0) := fun q0 hq => by
      obtain ⟨hQ, vv, kv⟩ := (av.mem q0).mp hq
      have hin : Pl.rest q0.1 q0.2 ∈ R.map (·.1) := rw_all rc av ws cl hQ kv
      obtain ⟨x, hx, ex⟩ := List.mem_map.mp hin
      refine ⟨x, hx, ex, ?_⟩
      have k1 := ws.way x hx
      rw [ex] at k1
      have e1 := ak _ (k1.trans kv)
      obtain ⟨k, e3, _⟩ := lead_back (a := x.2) (b := x.2) (v := vv) e1 e1
      show _ = some ((lead (wayTo R (.rest q0.1 q0.2))).getD (true, []))
      rw [← ex, wayTo_mem ws.nd hx, e3]
      rfl
    have lfs := prd_len pf
    refine ⟨_, rfl, e, rfl, ⟨_, .of he7⟩, fun D2 nD2 => lc_list (xs := fs) (fun i H8 => ∃ us, H8 D2 = some (.lst us) ∧ Paired (ToldV W H8) us (rs.take i) ∧ Same H7 H8) ?_ ?_ ?_ ?_⟩
    · exact ⟨[], upd_same, .nil, same_put (s := Same.refl H7) nD2⟩
    · rintro i H8 hi ⟨_, _, _, s8⟩
      exact .of (s8 _ _ he7)
    · rintro i x H8 hx ⟨us, hD2, pu, s8⟩
      obtain ⟨q0, hq0, c, rfl, hc⟩ := prd_at pf7 hx
      have hc8 := s8 _ _ hc
      obtain ⟨x0, hx0, ex0, el0⟩ := hW q0 (List.mem_of_getElem? hq0)
      obtain ⟨kv, ⟨_, _, lv⟩, ea⟩ := web_atG (f := fun x : Rw => x.1) (fun _ _ z => z.1) ws.nf ws.nd pl hx0
      rw [ex0] at ea
      rw [el0] at lv
      obtain ⟨cl0, el1, hcl⟩ := (lv.same s37).same s8
      have lu := prd_len pu
      rw [List.length_take] at lu
      have l1000 := okR.1
      have fq : FromV H8 (.ref c) (.rest q0.1 q0.2) := ⟨c, rfl, hc8⟩
      refine ⟨rfl, _, rfl, _, rfl, _, rfl, ll, ks, gKey (.rest q0.1 q0.2), _, rfl, (mx7.same s8).rd, from_key fq, ea, ?_⟩
      rw [el1]
      refine ⟨c, cl0, _, _, rfl, rfl, .inl (.inl hc8), .inl (.inl hcl), by simp, by show 4 ≤ sizeLine; decide, fun z => by simp at z, fun _ p np => ?_⟩
      have s9 := same_put (s := Same.refl H8) (o := .tup ([.str (sideS q0.1), .str (Sx q0.2)] ++ [.str (sideS (W q0).1), .str (Sx (W q0).2)])) np
      have hp9 : upd H8 p (.tup ([.str (sideS q0.1), .str (Sx q0.2)] ++ [.str (sideS (W q0).1), .str (Sx (W q0).2)])) p = some (.tup ([.str (sideS q0.1), .str (Sx q0.2)] ++ [.str (sideS (W q0).1), .str (Sx (W q0).2)])) := upd_same
      generalize upd H8 p (.tup ([.str (sideS q0.1), .str (Sx q0.2)] ++ [.str (sideS (W q0).1), .str (Sx (W q0).2)])) = H9 at s9 hp9 ⊢
      have hD9 := s9 _ _ hD2
      refine ⟨us, hD9, by rw [sizeLine_eq]; omega, us ++ [.ref p], upd_same, ?_, fun b o z => ?_⟩
      · rw [List.take_add_one, hq0]
        exact (prd_imp pu fun _ _ z => (z.same s9).put hD9).snoc (ToldV.put ⟨p, rfl, hp9⟩ hD9)
      · rw [upd_ne (ne_of_none z nD2)]
        exact s9 _ _ (s8 _ _ z)
    · rintro H8 ⟨us, hD2, pu, s8⟩
      rw [lfs, List.take_length] at pu
      refine ⟨D2, us, rfl, .inl ⟨.of hD2, fun g ng => ⟨_, rfl, by show 2 ≤ sizeLine; decide, fun c nc => ?_⟩⟩⟩
      have s9 := same_put (s := s8) (o := .tup us) ng
      have hg9 : upd H8 g (.tup us) g = some (.tup us) := upd_same
      have pu9 := prd_imp pu fun _ _ z => z.same (same_put (s := Same.refl H8) (o := .tup us) ng)
      exact fin (.ref g) _ c nc s9 (.inr ⟨ak, W, fun q0 hq => (by
        obtain ⟨x, hx, ex, el⟩ := hW q0 hq
        have k1 := ws.way x hx
        rw [ex] at k1
        refine ⟨⟨_, k1, el⟩, ?_⟩
        have fr := ws.few rc
        have ln := ws.len x hx
        rcases lead_some el with ⟨_, e2⟩ | ⟨_, _, e2⟩
        · have e3 := congrArg List.length e2
          rw [List.length_append] at e3
          omega
        · have e3 := congrArg List.length e2
          rw [List.length_append] at e3
          omega), told_tv hg9 pu9⟩)
theorem ok_listed {f : Addr} {fd : FuncData} (F : Fun K "_law_listed" "_law_listed" s__law_listed f fd) (T : Tz K mg CM CJ) : FnOk P w K mg base CX0 1 f fd ["_law_table_here"] spListed := by
  refine F.ok sc__law_listed (fun vs H Q E h => ?_) (fun cdv A outer s H vs Q E hr h => ?_)
  · obtain ⟨d, t, rfl, _⟩ := h
    rfl
  · obtain ⟨d, t, rfl, hd, nd, l26, q⟩ := h
    refine ⟨_, (pss_one (ps_ret (pe_lc (own := [("_law_letter", 1)]) (g := gName 1) (by rfl) sc__law_listed.nd (pi_list (pe_callB cr_sortedT (by rfl) T.sorted (by decide +kernel) (pa_cons (pe_lock (pe_lc (own := [("_law_letter", 1)]) (g := gName 1) (by rfl) sc__law_listed.nd (pi_keys (pv 0)) (blkOk_by (own := [("_law_letter", 1)]) (N := n__law_listed) (sc := defScope s__law_listed) (by decide +kernel)) (fun _ _ _ _ _ => (pg_name (i := 1) sc__law_listed.nd rfl (.inl rfl))) (fun _ _ _ _ _ => pts_nil) (fun _ _ _ _ _ => (pe_callTy call_strS (by rfl) T.str (by decide +kernel) (pa_cons (pv 1) pa_nil))))) pa_nil))) (blkOk_by (own := [("_law_letter", 1)]) (N := n__law_listed) (sc := defScope s__law_listed) (by decide +kernel)) (fun _ _ _ _ _ => (pg_name (i := 1) sc__law_listed.nd rfl (.inl rfl))) (fun _ _ _ _ _ => pts_nil) (fun _ _ _ _ _ => (pe_tup (pa_cons (pe_dget (hu_of hr) (pv 0) (pv 1) (fun _ _ => rfl)) (pa_cons (pv 1) pa_nil))))))), ?_⟩
    have le : (encT t).length = t.length := encT_len t
    refine ⟨d, _, hd, True.intro, fun od => ⟨_, rfl, d, od, rfl, .inl ⟨_, upd_same, fun D nD => ?_⟩⟩⟩
    have hfz : upd H d (.frz od (.dK (encT t))) d = some (.frz od (.dK (encT t))) := upd_same
    have bk : ∀ b o, b ≠ d → upd H d (.frz od (.dK (encT t))) b = some o → H b = some o := fun b o n z => by rw [upd_ne n] at z; exact z
    have fw : ∀ b o, b ≠ d → H b = some o → upd H d (.frz od (.dK (encT t))) b = some o := fun b o n z => by rw [upd_ne n]; exact z
    generalize upd H d (.frz od (.dK (encT t))) = HL at nD hfz bk fw ⊢
    have hz : ∀ (j : Nat) (hj : j < t.length), ((t.map fun q => L1 q.1).map V.str)[j]? = some (V.str (L1 t[j].1)) := fun j hj => by
      rw [List.getElem?_map, List.getElem?_map, List.getElem?_eq_getElem hj]
      rfl
    have hlen : ((t.map fun q => L1 q.1).map V.str).length = t.length := by rw [List.length_map, List.length_map]
    refine lc_it (walk_keys (d := d) (o := od) (kvs := encT t)) (fun i H2 => H2 = upd HL D (.lst (((t.map fun q => L1 q.1).map V.str).take i))) rfl ?_ ?_ ?_
    · rintro i H2 hi rfl
      rw [upd_ne (ne_of_none hfz nD)]
      exact hfz
    · rintro i x H20 H2 hi rfl ⟨rfl, k, v, hk, rfl⟩
      obtain ⟨hi', rfl, rfl⟩ := enc_at hk
      refine ⟨rfl, _, rfl, _, rfl, ?_⟩
      exact acc_okL (hz i hi') (by rw [hlen, sizeLine_eq]; omega)
    rintro H2 rfl
    rw [le, List.take_of_length_le (by rw [hlen]; exact Nat.le_refl _)]
    have dD : d ≠ D := ne_of_none hfz nD
    have nDH : H D = none := by
      cases z : H D with
      | none => rfl
      | some o =>
        rw [fw D o dD.symm z] at nD
        cases nD
    refine ⟨by rw [upd_ne dD]; exact hfz, ?_⟩
    have s2 : Same H (upd (upd HL D (.lst ((t.map fun q => L1 q.1).map V.str))) d (.dK (encT t))) := fun b o z => by
      by_cases bd : b = d
      · subst bd
        rw [hd] at z
        rw [upd_same]
        exact z
      · rw [upd_ne bd, upd_ne (ne_of_none z nDH)]
        exact fw b o bd z
    have hD2 : upd (upd HL D (.lst ((t.map fun q => L1 q.1).map V.str))) d (.dK (encT t)) D = some (.lst ((t.map fun q => L1 q.1).map V.str)) := by rw [upd_ne dD.symm, upd_same]
    generalize upd (upd HL D (.lst ((t.map fun q => L1 q.1).map V.str))) d (.dK (encT t)) = H2 at s2 hD2 ⊢
    refine ⟨D, t.map fun q => L1 q.1, rfl, .of hD2, fun ns' p pe pw np => ?_⟩
    obtain ⟨ts, rfl, pt⟩ := un_map (f := fun q : Nat × List Nat => L1 q.1) pe t rfl
    have s3 := same_put (s := s2) (o := .lst ((ts.map fun q => L1 q.1).map V.str)) np
    have hp3 : upd H2 p (.lst ((ts.map fun q => L1 q.1).map V.str)) p = some (.lst ((ts.map fun q => L1 q.1).map V.str)) := upd_same
    generalize upd H2 p (.lst ((ts.map fun q => L1 q.1).map V.str)) = H3 at s3 hp3 ⊢
    have lts : ts.length ≤ 26 := by rw [pt.length_eq]; exact l26
    refine ⟨p, rfl, ⟨_, .of hp3⟩, fun g ng => lc_list (xs := (ts.map fun q => L1 q.1).map V.str) (fun i H4 => ∃ ys, H4 g = some (.lst ys) ∧ Paired (PrT H4) ys ((wlT ts).take i) ∧ Same H3 H4) ?_ ?_ ?_ ?_⟩
    · exact ⟨[], upd_same, .nil, same_put (s := Same.refl H3) ng⟩
    · rintro i H4 hi ⟨_, _, _, s4⟩
      exact .of (s4 _ _ hp3)
    · rintro i x H4 hx ⟨ys, hg, py, s4⟩
      rw [List.getElem?_map, List.getElem?_map] at hx
      obtain ⟨_, hx2, rfl⟩ := Option.map_eq_some_iff.mp hx
      obtain ⟨q0, hq0, rfl⟩ := Option.map_eq_some_iff.mp hx2
      have hq : q0 ∈ t := pt.mem_iff.mp (List.mem_of_getElem? hq0)
      obtain ⟨j, hj, ej⟩ := List.getElem_of_mem hq
      have lk : lookT t q0.1 = some q0.2 := by
        have z := look_at nd hj
        rw [ej] at z
        exact z
      have hd4 := s4 _ _ (s3 _ _ hd)
      have ly := prd_len py
      rw [List.length_take] at ly
      have lp : (wlT ts).length = ts.length := List.length_map ..
      refine ⟨rfl, _, rfl, _, rfl, d, .str (Sx q0.2), rfl, .inl ⟨_, Sum.inr (L1 q0.1), .inl hd4, rfl, by rw [valV_enc, lk]; rfl⟩, _, rfl, by show 2 ≤ sizeLine; decide, fun l nl => ?_⟩
      have s5 := same_put (s := Same.refl H4) (o := .tup [.str (Sx q0.2), .str (L1 q0.1)]) nl
      have hl5 : upd H4 l (.tup [.str (Sx q0.2), .str (L1 q0.1)]) l = some (.tup [.str (Sx q0.2), .str (L1 q0.1)]) := upd_same
      generalize upd H4 l (.tup [.str (Sx q0.2), .str (L1 q0.1)]) = H5 at s5 hl5 ⊢
      have hg5 := s5 _ _ hg
      have pp : ∀ {v : V} {q : Pr}, PrT H5 v q → PrT (upd H5 g (.lst (ys ++ [.ref l]))) v q := fun {v q} ⟨c, e, hc⟩ => ⟨c, e, by rw [upd_ne (ne_of hc hg5 (fun z => nomatch z))]; exact hc⟩
      refine ⟨ys, hg5, by rw [sizeLine_eq]; omega, ys ++ [.ref l], upd_same, ?_, fun b o z => ?_⟩
      · have e1 : (wlT ts)[i]? = some (q0.2, q0.1) := by
          show (ts.map _)[i]? = _
          rw [List.getElem?_map, hq0]
          rfl
        rw [List.take_add_one, e1]
        exact (prd_imp py fun _ _ z => pp (z.same s5)).snoc (pp ⟨l, rfl, hl5⟩)
      · rw [upd_ne (ne_of_none z ng)]
        exact s5 _ _ (s4 _ _ z)
    · rintro H4 ⟨ys, hg, py, s4⟩
      rw [List.length_map, List.length_map, List.take_of_length_le (by show (ts.map _).length ≤ _; rw [List.length_map]; exact Nat.le_refl _)] at py
      have ngH : H g = none := by
        cases z : H g with
        | none => rfl
        | some o =>
          rw [s3 _ _ z] at ng
          cases ng
      exact q g H4 (wlT ts) ngH (fun b o z => s4 _ _ (s3 _ _ z)) ⟨ys, hg, py⟩ (pt.map _)
end
end V8
set_option Elab.async false
set_option linter.all false
set_option maxRecDepth 100000
set_option maxHeartbeats 8000000
set_option pp.maxSteps 900
/-! The papers of merging and the law's own are the same; their texts are short. -/
namespace V8
open PySem PySem.Spec PyProof.Rows L2 MZ MX
theorem mem_moves {P S P' S' : List Pr} (hP : ∀ x, x ∈ P ↔ x ∈ P') (hS : ∀ x, x ∈ S ↔ x ∈ S') (p : Pl) (m : Mo) : m ∈ moves P S p ↔ m ∈ moves P' S' p := by
  cases p with
  | fin => exact Iff.rfl
  | start =>
    show m ∈ P.map _ ↔ m ∈ P'.map _
    rw [List.mem_map, List.mem_map]
    exact ⟨fun ⟨x, h, e⟩ => ⟨x, (hP x).mp h, e⟩, fun ⟨x, h, e⟩ => ⟨x, (hP x).mpr h, e⟩⟩
  | rest a r =>
    show m ∈ (if a = true then S else P).filterMap _ ↔ m ∈ (if a = true then S' else P').filterMap _
    rw [List.mem_filterMap, List.mem_filterMap]
    have e : ∀ x, x ∈ (if a = true then S else P) ↔ x ∈ (if a = true then S' else P') := fun x => by
      cases a
      · exact hP x
      · exact hS x
    exact ⟨fun ⟨x, h, k⟩ => ⟨x, (e x).mp h, k⟩, fun ⟨x, h, k⟩ => ⟨x, (e x).mpr h, k⟩⟩
theorem way_of {P S P' S' : List Pr} (hP : ∀ x, x ∈ P ↔ x ∈ P') (hS : ∀ x, x ∈ S ↔ x ∈ S') {o p : Pl} {w : List Nat × List Nat} (h : Way P S o p w) : Way P' S' o p w := by
  induction h with
  | nil => exact .nil
  | step _ m ih => exact .step ih ((mem_moves hP hS _ _).mp m)
theorem lineS_inj {a b : Bool × Wd} (ha : ∀ c ∈ a.2, isLt c) (hb : ∀ c ∈ b.2, isLt c) (h : lineS a = lineS b) : a = b := by
  have e1 := line_split ha
  rw [h, line_split hb] at e1
  injection e1 with e2 e3
  injection e3 with e3 _
  exact (Prod.ext (side_inj e2) (Sx_inj e3)).symm
theorem map_lines_inj : ∀ {as bs : List (Bool × Wd)}, (∀ a ∈ as, ∀ c ∈ a.2, isLt c) → (∀ b ∈ bs, ∀ c ∈ b.2, isLt c) → as.map lineS = bs.map lineS → as = bs
  | [], [], _, _, _ => rfl
  | [], _ :: _, _, _, h => by cases h
  | _ :: _, [], _, _, h => by cases h
  | a :: as, b :: bs, ha, hb, h => by
    rw [List.map_cons, List.map_cons] at h
    injection h with h1 h2
    rw [lineS_inj (ha a List.mem_cons_self) (hb b List.mem_cons_self) h1, map_lines_inj (fun x hx => ha x (List.mem_cons_of_mem _ hx)) (fun x hx => hb x (List.mem_cons_of_mem _ hx)) h2]
/-- two lists of the same rests in the order of their lines -/
theorem lines_one {as bs : List (Bool × Wd)} (na : as.Nodup) (nb : bs.Nodup) (hm : ∀ q, q ∈ as ↔ q ∈ bs) (la : ∀ a ∈ as, ∀ c ∈ a.2, isLt c) (sa : (as.map lineS).Pairwise leS) (sb : (bs.map lineS).Pairwise leS) : as = bs := by
  have p : as.Perm bs := (List.perm_ext_iff_of_nodup na nb).mpr hm
  exact map_lines_inj la (fun b hb => la b ((hm b).mpr hb)) (pw_perm_eq leS_anti sa sb (p.map _))
theorem line_cps (q : Bool × Wd) : (lineS q).cps.toList = (sideS q.1 ++ (" " : Str)).cps.toList ++ q.2 := by
  have e : (lineS q).cps.toList = ((sideS q.1 ++ (" " : Str)).cps ++ (Sx q.2).cps).toList := rfl
  rw [e, Array.toList_append]
  rfl
theorem app_lt {c a b : List Nat} (h : ¬ b < a) : ¬ (c ++ b) < (c ++ a) := by
  induction c with
  | nil => exact h
  | cons x r ih =>
    intro z
    rw [List.cons_append, List.cons_append, List.cons_lt_cons_iff] at z
    rcases z with z | ⟨_, z⟩
    · exact absurd z (Nat.lt_irrefl _)
    · exact ih z
theorem line_le {s : Bool} {x y : Wd} (h : leS (Sx x) (Sx y)) : leS (lineS (s, x)) (lineS (s, y)) := by
  unfold leS at h ⊢
  rw [line_cps, line_cps]
  exact app_lt h
theorem line_sides (x y : Wd) : leS (lineS (true, x)) (lineS (false, y)) := by
  unfold leS
  rw [line_cps, line_cps]
  have e1 : (sideS true ++ (" " : Str)).cps.toList = [111, 110, 101, 32] := by decide +kernel
  have e2 : (sideS false ++ (" " : Str)).cps.toList = [116, 119, 111, 32] := by decide +kernel
  show ¬ (sideS false ++ (" " : Str)).cps.toList ++ y < (sideS true ++ (" " : Str)).cps.toList ++ x
  rw [e1, e2]
  show ¬ (116 :: ([119, 111, 32] ++ y)) < (111 :: ([110, 101, 32] ++ x))
  rw [List.cons_lt_cons_iff]
  rintro (z | ⟨z, _⟩)
  · exact absurd z (by decide)
  · exact absurd z (by decide)
theorem rs_lines {P S : List Pr} {g : Bool} {rs : List (Bool × Wd)} (h : RsIs P S g rs) : (rs.map lineS).Pairwise leS := by
  obtain ⟨a, b, rfl, _, _, s1, s2⟩ := h
  have side : ∀ (s : Bool) (l : List Wd), sortedS (l.map Sx) = true → ((l.map fun r => (s, r)).map lineS).Pairwise leS := fun s l hl => by
    have p := sorted_pwS hl
    rw [List.pairwise_map] at p
    rw [List.map_map, List.pairwise_map]
    exact p.imp fun {x y} k => line_le k
  rw [List.map_append, List.pairwise_append]
  refine ⟨side true a s1, side false b s2, fun x hx y hy => ?_⟩
  obtain ⟨q, hq, rfl⟩ := List.mem_map.mp hx
  obtain ⟨r, _, rfl⟩ := List.mem_map.mp hq
  obtain ⟨q2, hq2, rfl⟩ := List.mem_map.mp hy
  obtain ⟨r2, _, rfl⟩ := List.mem_map.mp hq2
  exact line_sides r r2
theorem side_nd (P S : List Pr) (g s : Bool) : (sideQ P S g s).Nodup := by
  unfold sideQ
  have nd := (runQ_reach (P := P) (S := S) 600).1
  refine List.pairwise_map.mpr ?_
  refine List.Pairwise.imp_of_mem ?_ ((List.Pairwise.filter _ (List.Pairwise.filter _ nd)))
  intro p q hp hq hpq e
  have h1 := (List.mem_filter.mp hp).2
  have h2 := (List.mem_filter.mp hq).2
  cases p with
  | start => cases h1
  | fin => cases h1
  | rest a r =>
    cases q with
    | start => cases h2
    | fin => cases h2
    | rest b t =>
      have ea : a = s := of_decide_eq_true h1
      have eb : b = s := of_decide_eq_true h2
      have er : r = t := e
      exact hpq (by rw [ea, eb, er])
theorem rs_nd {P S : List Pr} {g : Bool} {rs : List (Bool × Wd)} (h : RsIs P S g rs) : rs.Nodup := by
  obtain ⟨a, b, rfl, p1, p2, _, _⟩ := h
  have n1 : a.Nodup := p1.nodup_iff.mpr (side_nd P S g true)
  have n2 : b.Nodup := p2.nodup_iff.mpr (side_nd P S g false)
  refine List.nodup_append.mpr ⟨?_, ?_, fun x hx y hy e => ?_⟩
  · exact List.pairwise_map.mpr (n1.imp fun {x y} k e => k (Prod.mk.inj e).2)
  · exact List.pairwise_map.mpr (n2.imp fun {x y} k e => k (Prod.mk.inj e).2)
  · obtain ⟨r, _, rfl⟩ := List.mem_map.mp hx
    obtain ⟨t, _, rfl⟩ := List.mem_map.mp hy
    cases e
theorem rs_mem {P S : List Pr} {g : Bool} {rs : List (Bool × Wd)} (h : RsIs P S g rs) (q : Bool × Wd) : q ∈ rs ↔ Pl.rest q.1 q.2 ∈ placesQ P S ∧ livesB P S (.rest q.1 q.2) = g := by
  refine ⟨h.mem, ?_⟩
  rintro ⟨h1, h2⟩
  obtain ⟨a, b, rfl, p1, p2, _, _⟩ := h
  obtain ⟨s, r⟩ := q
  have hin : r ∈ sideQ P S g s := by
    unfold sideQ
    exact List.mem_map.mpr ⟨.rest s r, List.mem_filter.mpr ⟨List.mem_filter.mpr ⟨h1, decide_eq_true h2⟩, decide_eq_true rfl⟩, rfl⟩
  cases s with
  | true => exact List.mem_append_left _ (List.mem_map_of_mem (p1.mem_iff.mpr hin))
  | false => exact List.mem_append_right _ (List.mem_map_of_mem (p2.mem_iff.mpr hin))
theorem alive_same {P P' S' : List Pr} (hP : ∀ x, x ∈ P ↔ x ∈ P') (hS : ∀ x, x ∈ P ↔ x ∈ S') {Qs : List Pl} {rs rs2 : List (Bool × Wd)} (h : RsIs P P true rs) (all : ∀ p w, Way P P .start p w → p ∈ placesQ P P) (rc : Reach P' S' Qs) (av : AlV P' S' Qs rs2) (ok2 : OkQs rs2) (s2 : (rs2.map lineS).Pairwise leS) : rs = rs2 := by
  have hm : ∀ q, q ∈ rs ↔ q ∈ rs2 := fun q => by
    rw [rs_mem h, av.mem, livesB_iff, rc.mem]
    constructor
    · rintro ⟨h1, v, k⟩
      obtain ⟨w, kw⟩ := (runQ_reach 600).2 _ h1
      exact ⟨⟨(fun e => nomatch e), w, way_of hP hS kw⟩, v, way_of hP hS k⟩
    · rintro ⟨⟨_, w, kw⟩, v, k⟩
      have hP' : ∀ x, x ∈ P' ↔ x ∈ P := fun x => (hP x).symm
      have hS' : ∀ x, x ∈ S' ↔ x ∈ P := fun x => (hS x).symm
      exact ⟨all _ _ (way_of hP' hS' kw), v, way_of hP' hS' k⟩
  exact lines_one (rs_nd h) av.nd hm (fun a ha => (ok2.2 a ((hm a).mp ha)).2) (rs_lines h) s2
theorem dead_same {P P' S' : List Pr} (hP : ∀ x, x ∈ P ↔ x ∈ P') (hS : ∀ x, x ∈ P ↔ x ∈ S') {Qs : List Pl} {rs rs2 rs' : List (Bool × Wd)} (h : RsIs P P false rs) (all : ∀ p w, Way P P .start p w → p ∈ placesQ P P) (rc : Reach P' S' Qs) (av : AlV P' S' Qs rs2) (dv : DeV P' S' Qs rs2 rs') (ok2 : OkQs rs') (s2 : (rs'.map lineS).Pairwise leS) : rs = rs' := by
  have hP' : ∀ x, x ∈ P' ↔ x ∈ P := fun x => (hP x).symm
  have hS' : ∀ x, x ∈ S' ↔ x ∈ P := fun x => (hS x).symm
  have hm : ∀ q, q ∈ rs ↔ q ∈ rs' := fun q => by
    rw [rs_mem h, dv.mem, av.mem]
    constructor
    · rintro ⟨h1, h2⟩
      obtain ⟨w, kw⟩ := (runQ_reach 600).2 _ h1
      refine ⟨(rc.mem _).mpr ⟨(fun e => nomatch e), w, way_of hP hS kw⟩, ?_⟩
      rintro ⟨_, v, k⟩
      rw [livesB_iff.mpr ⟨v, way_of hP' hS' k⟩] at h2
      cases h2
    · rintro ⟨h1, h2⟩
      obtain ⟨_, w, kw⟩ := (rc.mem _).mp h1
      refine ⟨all _ _ (way_of hP' hS' kw), ?_⟩
      cases e : livesB P P (.rest q.1 q.2) with
      | false => rfl
      | true =>
        obtain ⟨v, k⟩ := livesB_iff.mp e
        exact absurd ⟨h1, v, way_of hP hS k⟩ h2
  exact lines_one (rs_nd h) dv.nd hm (fun a ha => (ok2.2 a ((hm a).mp ha)).2) (rs_lines h) s2
theorem alike_perm {P P' S' : List Pr} (hP : ∀ x, x ∈ P ↔ x ∈ P') (hS : ∀ x, x ∈ P ↔ x ∈ S') (h : Alike P P) : Alike P' S' := fun w k => h w (way_of (fun x => (hP x).symm) (fun x => (hS x).symm) k)
theorem told_same {P P' S' : List Pr} (hP : ∀ x, x ∈ P ↔ x ∈ P') (hS : ∀ x, x ∈ P ↔ x ∈ S') (ak : Alike P P) {Qs : List Pl} {rs : List (Bool × Wd)} (lw : LdWay P rs) (av : AlV P' S' Qs rs) {W : Bool × Wd → Bool × List Nat} (hW : ∀ q ∈ rs, (∃ w, Way P' S' .start (.rest q.1 q.2) w ∧ lead w = some (W q)) ∧ (W q).2.length ≤ 600) : leadsD P rs = toldD W rs ∧ ∀ q ∈ rs, leadQ P P q = W q := by
  have e : ∀ q ∈ rs, leadQ P P q = W q := fun q hq => by
    obtain ⟨w1, k1, e1⟩ := lw q hq
    obtain ⟨⟨w2, k2, e2⟩, _⟩ := hW q hq
    obtain ⟨_, v, kv⟩ := (av.mem q).mp hq
    have hP' : ∀ x, x ∈ P' ↔ x ∈ P := fun x => (hP x).symm
    have hS' : ∀ x, x ∈ S' ↔ x ∈ P := fun x => (hS x).symm
    have kv' := way_of hP' hS' kv
    have a1 := ak _ (k1.trans kv')
    have a2 := ak _ ((way_of hP' hS' k2).trans kv')
    obtain ⟨k, e3, e4⟩ := lead_back (a := w1) (b := w2) (v := v) a1 a2
    rw [e1] at e3
    rw [e2] at e4
    exact (Option.some.inj e3).trans (Option.some.inj e4).symm
  refine ⟨?_, e⟩
  unfold leadsD toldD
  refine congrArg PyData.tuple (List.map_congr_left fun q hq => ?_)
  rw [e q hq]
end V8
set_option Elab.async false
set_option linter.all false
set_option maxRecDepth 100000
set_option maxHeartbeats 8000000
set_option pp.maxSteps 900
/-! repr of papers. -/
namespace V8
open PySem PySem.Spec PyProof.Rows L2 MZ MX
mutual
theorem TV.pyv {H : Hp} : ∀ {x : V} {d : PyData}, TV H x d → PyV H x d
  | _, _, .non => .non
  | _, _, .str z => .str z
  | _, _, .int i => .int i
  | _, _, .tup h r => .tup h (TVs.pyv r)
theorem TVs.pyv {H : Hp} : ∀ {xs : List V} {ds : List PyData}, TVs H xs ds → PyVs H xs ds
  | _, _, .nil => .nil
  | _, _, .cons h r => .cons (TV.pyv h) (TVs.pyv r)
end
theorem join_le (B : Nat) : ∀ ts : List Str, (∀ t ∈ ts, t.length ≤ B) → (Str.join ", " ts).length ≤ ts.length * (B + 2)
  | [], _ => Nat.zero_le _
  | [x], h => by
    have := h x List.mem_cons_self
    show x.length ≤ 1 * (B + 2)
    omega
  | x :: y :: r, h => by
    have ih := join_le B (y :: r) fun t ht => h t (List.mem_cons_of_mem _ ht)
    have hx := h x List.mem_cons_self
    show (x ++ ((", " : String) : Str) ++ Str.join ", " (y :: r)).length ≤ _
    rw [strLen_append, strLen_append]
    have e2 : ((", " : String) : Str).length = 2 := rfl
    rw [List.length_cons, Nat.succ_mul]
    omega
theorem tuple_le (B : Nat) (ts : List Str) (h : ∀ t ∈ ts, t.length ≤ B) : (tupleText ts).length ≤ ts.length * (B + 2) + 3 := by
  unfold tupleText
  rw [strLen_append, strLen_append]
  have := join_le B ts h
  have e1 : ("(" : Str).length = 1 := by decide +kernel
  have e2 : ((if ts.length == 1 then ",)" else ")" : String) : Str).length ≤ 2 := by
    split <;> decide +kernel
  omega
theorem shown_allT (ds : List PyData) : PyData.shownAll ds = ds.map PyData.shown := by
  induction ds with
  | nil => simp [PyData.shownAll]
  | cons d r ih => simp [PyData.shownAll, ih]
theorem show_allT {ds : List PyData} (h : ∀ d ∈ ds, d.showable = true) : PyData.showableAll ds = true := by
  induction ds with
  | nil => simp [PyData.showableAll]
  | cons d r ih => simp [PyData.showableAll, h d List.mem_cons_self, ih fun x hx => h x (List.mem_cons_of_mem _ hx)]
theorem shown_tuple (B : Nat) {ds : List PyData} (h : ∀ d ∈ ds, d.shown.length ≤ B) : (PyData.tuple ds).shown.length ≤ ds.length * (B + 2) + 3 := by
  simp only [PyData.shown]
  rw [shown_allT]
  have := tuple_le B (ds.map PyData.shown) fun t ht => by
    obtain ⟨d, hd, rfl⟩ := List.mem_map.mp ht
    exact h d hd
  rw [List.length_map] at this
  exact this
theorem str_shown (z : Str) (B : Nat) (h : z.length ≤ B) (k : ∀ c ∈ z.cps.toList, c < 16 ^ 8) : (PyData.str z).shown.length ≤ 10 * B + 2 := by
  rw [shown_str]
  have := PySem.StrLaws.reprText_len z k
  omega
theorem side_shown (b : Bool) (B : Nat) (h : 3 ≤ B) : (PyData.str (sideS b)).shown.length ≤ 10 * B + 2 := str_shown _ B (by cases b <;> exact h) (by cases b <;> decide +kernel)
theorem isLt_small {c : Nat} (h : isLt c) : c < 16 ^ 8 := by
  unfold isLt at h
  have : (16 : Nat) ^ 8 = 4294967296 := by decide
  omega
theorem sx_shown {w : Wd} (B : Nat) (h : w.length ≤ B) (k : ∀ c ∈ w, isLt c) : (PyData.str (Sx w)).shown.length ≤ 10 * B + 2 := str_shown _ B (by rw [Sx_len]; exact h) fun c hc => isLt_small (k c hc)
theorem tells_tuples {ds : List PyData} {L B : Nat} (h : ∀ d ∈ ds, ∃ es, d = .tuple es ∧ es.length ≤ L ∧ ∀ e ∈ es, ∃ z, e = .str z ∧ (PyData.str z).shown.length ≤ B) (hb : ds.length * (L * (B + 2) + 5) + 3 ≤ 8000000) : Tells (.tuple ds) := by
  have hd : ∀ d ∈ ds, d.showable = true ∧ d.depth ≤ 2 ∧ d.shown.length ≤ L * (B + 2) + 3 := fun d hdm => by
    obtain ⟨es, rfl, hl, he⟩ := h d hdm
    refine ⟨?_, ?_, ?_⟩
    · simp only [PyData.showable]
      refine show_allT fun e hem => ?_
      obtain ⟨z, rfl, _⟩ := he e hem
      rfl
    · have hz : PyData.depthAll es = 0 := by
        clear hl hdm
        induction es with
        | nil => simp [PyData.depthAll]
        | cons a r ih =>
          obtain ⟨z, e1, _⟩ := he a List.mem_cons_self
          have i2 := ih fun e hem => he e (List.mem_cons_of_mem _ hem)
          simp only [PyData.depthAll, i2, e1, PyData.depth]
          rfl
      simp only [PyData.depth, hz]
      omega
    · refine Nat.le_trans (shown_tuple B fun e hem => ?_) ?_
      · obtain ⟨z, rfl, k⟩ := he e hem
        exact k
      · have := Nat.mul_le_mul_right (B + 2) hl
        omega
  refine ⟨?_, ?_, ?_⟩
  · simp only [PyData.showable]
    exact show_allT fun d hdm => (hd d hdm).1
  · have hz : PyData.depthAll ds ≤ 3 := by
      clear hb h
      induction ds with
      | nil => simp [PyData.depthAll]
      | cons a r ih =>
        have i1 := (hd a List.mem_cons_self).2.1
        have i2 := ih fun e hem => hd e (List.mem_cons_of_mem _ hem)
        simp only [PyData.depthAll]
        omega
    simp only [PyData.depth]
    omega
  · refine Nat.le_trans (shown_tuple _ fun d hdm => (hd d hdm).2.2) ?_
    have e : L * (B + 2) + 3 + 2 = L * (B + 2) + 5 := by omega
    rw [e]
    exact hb
theorem rests_tells {rs : List (Bool × Wd)} (ok : OkQs rs) : Tells (restsD rs) := by
  refine tells_tuples (L := 2) (B := 642) (fun d hd => ?_) ?_
  · obtain ⟨q, hq, rfl⟩ := List.mem_map.mp hd
    obtain ⟨l, lt⟩ := ok.2 q hq
    refine ⟨_, rfl, Nat.le_refl _, fun e he => ?_⟩
    rcases List.mem_cons.mp he with rfl | he
    · exact ⟨_, rfl, side_shown q.1 64 (by decide)⟩
    · rw [List.mem_singleton.mp he]
      exact ⟨_, rfl, sx_shown 64 l lt⟩
  · rw [List.length_map]
    have := ok.1
    omega
theorem told_tells {rs : List (Bool × Wd)} {W : Bool × Wd → Bool × List Nat} (ok : OkQs rs) (l126 : rs.length ≤ 126) (hW : ∀ q ∈ rs, (W q).2.length ≤ 600 ∧ ∀ c ∈ (W q).2, isLt c) : Tells (toldD W rs) := by
  refine tells_tuples (L := 4) (B := 6002) (fun d hd => ?_) ?_
  · obtain ⟨q, hq, rfl⟩ := List.mem_map.mp hd
    obtain ⟨l, lt⟩ := ok.2 q hq
    obtain ⟨l2, lt2⟩ := hW q hq
    refine ⟨_, rfl, Nat.le_refl _, fun e he => ?_⟩
    rcases List.mem_cons.mp he with rfl | he
    · exact ⟨_, rfl, side_shown q.1 600 (by decide)⟩
    rcases List.mem_cons.mp he with rfl | he
    · exact ⟨_, rfl, sx_shown 600 (by omega) lt⟩
    rcases List.mem_cons.mp he with rfl | he
    · exact ⟨_, rfl, side_shown (W q).1 600 (by decide)⟩
    · rw [List.mem_singleton.mp he]
      exact ⟨_, rfl, sx_shown 600 l2 lt2⟩
  · rw [List.length_map]
    omega
end V8
set_option Elab.async false
set_option linter.all false
set_option maxRecDepth 100000
set_option maxHeartbeats 8000000
set_option pp.maxSteps 900
/-! What the law asks of one misreading. -/
namespace V8
open PySem PySem.Spec PyProof.Rows L2 MZ MX
abbrev s__law_right : Stmt := topS 84
abbrev n__law_right : List Str := ["_law_made", "_law_table_here", "_law_told", "_law_shut", "_law_found", "_law_letter"]
theorem sc__law_right : FnScope ["_law_made", "_law_table_here", "_law_told", "_law_shut", "_law_found", "_law_letter"] ["_law_made"] (defScope s__law_right) := ⟨rfl, rfl, rfl, by decide +kernel, rfl, by decide +kernel, by decide +kernel⟩
theorem ims_nd (u : Tab) : ((ims u).map (·.1)).Nodup := by
  unfold ims
  rw [List.map_map]
  have e : (keysOf u).map ((·.1) ∘ fun c => (c, (lookT u c).getD [])) = keysOf u := by
    conv => rhs; rw [← List.map_id (keysOf u)]
    rfl
  rw [e]
  exact keysOf_nd u
structure Tw (K : PySem.W.Frag) (mg : Str → Option Value) (CM CO CR : Addr) : Prop extends Tv K mg CO CR where
  kOR : PySem.W.kitOne K (.ref CO) (.ref CR) = some false
  neO : PySem.W.findIn K (.ref CO) "__ne__" = some (some (.builtin "object.__ne__"))
  tdO : PySem.W.mroIn K CO (.type "object") = some true
  nfO : PySem.W.notFirst K CO (.ref CO) = true
theorem VerO.same {CO CR : Addr} {P : List Pr} {H H' : Hp} {z : Addr} (v : VerO CO CR P H z) (s : Same H H') : VerO CO CR P H' z := by
  rcases v with ⟨dx, l, d, rs, rs', a, h, t1, t2, r⟩ | ⟨dx, w, h, r⟩
  · exact .inl ⟨dx, l, d, rs, rs', a, s _ _ h, t1.same s, t2.same s, r⟩
  · exact .inr ⟨dx, w, s _ _ h, r⟩
theorem lay_td {n : Nat} {d : PyData} (h : TD n d) : PyData.eqv d d = true := SeqAt.eqv_refl d (td_lay n d h).1
theorem wl_ims (u : Tab) : wlT (ims u) = pairsT u := by
  unfold wlT ims pairsT
  rw [List.map_map]
  rfl
theorem tvs_app {H : Hp} : ∀ {xs ys : List V} {ds es : List PyData}, TVs H xs ds → TVs H ys es → TVs H (xs ++ ys) (ds ++ es)
  | _, _, _, _, .nil, h => h
  | _, _, _, _, .cons h r, k => .cons h (tvs_app r k)
theorem tvs_take {H : Hp} : ∀ {xs : List V} {ds : List PyData}, TVs H xs ds → ∀ n, TVs H (xs.take n) (ds.take n)
  | _, _, .nil, n => by
    rw [List.take_nil, List.take_nil]
    exact .nil
  | _, _, .cons h r, 0 => .nil
  | _, _, .cons h r, n + 1 => .cons h (tvs_take r n)
def spRight (K : PySem.W.Frag) (aS aE aV aD CM : Addr) : Sp := fun vs H Q _ => ∃ (x : Addr) (u : Tab), vs = [.ref x] ∧ MisAt CM H x u ∧ OkU u ∧ CnH K aS aE aV H ∧ SqT K H aD [.str (sideS true), .str (sideS false)] ∧ ∀ H', Same H H' → Q (.bl true) H'
section
variable {P : Program} {w : World} {K : PySem.W.Frag} {mg : Str → Option Value} {base : Heap} {aS aE aV aD CM CJ CG CO CR CV : Addr}
theorem ok_right {f : Addr} {fd : FuncData} (F : Fun K "_law_right" "_law_right" s__law_right f fd) (T : Tw K mg CM CO CR) (D_merging : Df P w K mg base 7 "merging" (spMerging K aS aE aV aD CM CO CR)) (D_papers : Df P w K mg base 3 "_law_papers" spPapers) (D_listed : Df P w K mg base 1 "_law_listed" spListed)
    (D_iter : ItM P w K mg base 1 CM (snIter CM)) (D_get : Mf P w K mg base 2 CM "__getitem__" (spGet CM)) (D_eqO : Mf P w K mg base 8 CO "__eq__" (spOneE K CO)) (D_OneToOne : MkC P w K mg base 4 CO "OneToOne" (spOneI CO))
    (D_boolO : Mf P w K mg base 1 CO "__bool__" (spTrue true)) (D_boolR : Mf P w K mg base 1 CR "__bool__" (spTrue false)) :
    FnG P w K mg base CX0 10 f fd ["_law_made"] (spRight K aS aE aV aD CM) := by
  refine F.okG sc__law_right (fun vs H Q E h => ?_) (fun cdv A outer s H vs Q E quiet hr h => ?_)
  · obtain ⟨x, u, rfl, _⟩ := h
    rfl
  · obtain ⟨x, u, rfl, m, ok, cn, hD, q⟩ := h
    refine ⟨_, (pss_cons (ps_set (i := 1) sc__law_right.nd rfl (.inl rfl) (pe_callTy (call_dictP rfl) (by rfl) T.dict (by decide +kernel) (pa_cons (pe_lc (own := [("_law_letter", 5)]) (g := gName 5) (by rfl) sc__law_right.nd (pi_ownI D_iter hr (by decide) (pv 0)) (blkOk_by (own := [("_law_letter", 5)]) (N := n__law_right) (sc := defScope s__law_right) (by decide +kernel)) (fun _ _ _ _ _ => (pg_name (i := 5) sc__law_right.nd rfl (.inl rfl))) (fun _ _ _ _ _ => pts_nil) (fun _ _ _ _ _ => (pe_tup (pa_cons (pv 5) (pa_cons (pe_ixO D_get hr (by decide) (pv 0) (pv 5)) pa_nil))))) pa_nil)))
      (pss_cons (ps_asg (pe_c D_papers hr (by decide) (by rfl) (pa_cons (pe_c D_listed hr (by decide) (by rfl) (pa_cons (pv 1) pa_nil)) (pa_cons (pe_c D_listed hr (by decide) (by rfl) (pa_cons (pv 1) pa_nil)) pa_nil))) (pg_tup (by rfl) (pgs_cons (pg_name (i := 2) sc__law_right.nd rfl (.inl rfl)) (pgs_cons (pg_name (i := 3) sc__law_right.nd rfl (.inl rfl)) pgs_nil))))
      (pss_cons (ps_set (i := 4) sc__law_right.nd rfl (.inl rfl) (pe_c D_merging hr (by decide) (by rfl) (pa_cons (pv 0) pa_nil)))
      (pss_cons (ps_if (pt_cmpR op_isN (pv 2) pe_non (nomark _))
        (pss_one (ps_ret (pe_notR (tru_or (tru_own D_boolO hr (by decide)) (tru_own D_boolR hr (by decide))) (pv 4))))
        pss_nil)
      (pss_cons (ps_if (PW.pt (pw_or (pt_not (pt_val (pe_callB call_isi (by rfl) T.isinstance (by decide +kernel) (pa_cons (pv 4) (pa_cons (pe_gv T.gOneToOne (by rfl)) pa_nil))))) (pw_or (pt_cmpR op_ne (pe_callB (call_reprG quiet hr) (by rfl) T.repr (by decide +kernel) (pa_cons (pe_fldK (K := K) rfl (pv 4) rfl) pa_nil)) (pe_callB (call_reprG quiet hr) (by rfl) T.repr (by decide +kernel) (pa_cons (pv 2) pa_nil)) (nomark _)) (pw_or1 (pt_cmpR op_ne (pe_callB (call_reprG quiet hr) (by rfl) T.repr (by decide +kernel) (pa_cons (pe_fldK (K := K) rfl (pv 4) rfl) pa_nil)) (pe_callB (call_reprG quiet hr) (by rfl) T.repr (by decide +kernel) (pa_cons (pv 3) pa_nil)) (nomark _))))))
        (pss_one (ps_ret pe_bl))
        pss_nil)
      (pss_one (ps_ret (pe_or (pe_and (pe_cmpR (op_eqO D_eqO hr (by decide)) (pv 4) (pe_mkC D_OneToOne hr (by decide) (by rfl) (pa_cons (pv 2) (pa_cons (pv 3) pa_nil))) (nomark _)) (pe_one (pe_cmpR (op_neO D_eqO T.neO T.tdO hr (by decide)) (pv 4) (pe_mkC D_OneToOne hr (by decide) (by rfl) (pa_cons (pe_op op_catA (pv 2) (pe_slice sl_tupA (pv 2) po_none (po_some pe_int))) (pa_cons (pv 3) pa_nil))) (nomark _)))) (pe_one (pe_cmpR (op_eqDK (K := K) rfl hr.units) (pv 2) (pe_tup pa_nil) (nomark _))))))))))), ?_⟩
    have lk := lets_len (keysOf u)
    have k26 := keysOf_len u
    obtain ⟨dx0, fs0, hx0⟩ := m.ins
    refine ⟨_, rfl, x, dx0, _, rfl, hx0, fun k0 hk0 => ⟨x, u, rfl, m, fun it a ni hi ha => ⟨it, a, rfl, hi, upd_same, ?_⟩⟩⟩
    rw [dropH_upd ni]
    refine fun D nD => lc_it (walk_tup (K := K) (a := a) (xs := lets (keysOf u))) (fun i H2 => ∃ ps, PairsAt H2 ps ((ims u).take i) ∧ H2 D = some (.lst (ps.map V.ref)) ∧ Same H H2) ?_ ?_ ?_ ?_
    · exact ⟨[], .nil, upd_same, same_put (s := Same.refl H) nD⟩
    · rintro i H2 hi ⟨ps, _, _, s2⟩
      exact .inl (.inl (s2 _ _ ha))
    · rintro i y H20 H2 hi ⟨ps, pr, hD, s2⟩ ⟨rfl, hy⟩
      obtain ⟨hi', rfl⟩ := lets_get hy
      have hc := List.getElem_mem hi'
      obtain ⟨s', es⟩ := Option.isSome_iff_exists.mp (keysOf_mem.mp hc).2
      have m2 := m.same2 s2
      obtain ⟨dx, a1, b1, c1, h1, _⟩ := m2.at_
      have ly := pr.len
      rw [List.length_take] at ly
      have ep : (ims u)[i]? = some ((keysOf u)[i], s') := by
        unfold ims
        rw [List.getElem?_map, List.getElem?_eq_getElem hi']
        show some (_, (lookT u _).getD []) = _
        rw [es]
        rfl
      refine ⟨rfl, _, rfl, _, rfl, _, rfl, x, dx, _, rfl, h1, x, u, _, s', rfl, m2, hc, es, by show 2 ≤ sizeLine; decide, fun p np => ?_⟩
      have s3 := same_put (s := Same.refl H2) (o := .tup [.str (L1 (keysOf u)[i]), .str (Sx s')]) np
      have hp : upd H2 p (.tup [.str (L1 (keysOf u)[i]), .str (Sx s')]) p = some (.tup [.str (L1 (keysOf u)[i]), .str (Sx s')]) := upd_same
      have hD3 := s3 _ _ hD
      generalize upd H2 p (.tup [.str (L1 (keysOf u)[i]), .str (Sx s')]) = H3 at s3 hp hD3 ⊢
      refine ⟨_, hD3, by rw [List.length_map, sizeLine_eq]; omega, ps ++ [p], ?_, ?_, ?_⟩
      · rw [List.take_add_one, ep]
        exact PairsAt.snoc ((pr.mono fun b xs e => s3 _ _ e).mono (tup_upd hD3)) ((upd_ne (ne_of hp hD3 (fun z => nomatch z))).trans hp)
      · rw [upd_same, List.map_append]
        rfl
      · intro b o e
        rw [upd_ne (ne_of_none e nD)]
        exact s3 _ _ (s2 _ _ e)
    rintro H2 ⟨ps, pr, hD2, s2⟩
    rw [List.take_of_length_le (by rw [lk]; unfold ims; rw [List.length_map]; exact Nat.le_refl _)] at pr
    refine ⟨D, ps, encT (ims u), rfl, SqL.of hD2, PairsAt.sq pr, fun r nr => ?_⟩
    have em : mergeK [] (encT (ims u)) = encT (mergeT [] (ims u)) := mergeK_enc (ims u) []
    rw [em, mergeT_nil (ims_nd u)]
    have s3 := same_put (s := s2) (o := .dK (encT (ims u))) nr
    have hr3 : upd H2 r (.dK (encT (ims u))) r = some (.dK (encT (ims u))) := upd_same
    show tSeq _ _ _ _ (upd H2 r (.dK (encT (ims u))))
    generalize upd H2 r (.dK (encT (ims u))) = H3 at s3 hr3 ⊢
    have li : (ims u).length ≤ 26 := by
      unfold ims
      rw [List.length_map]
      exact k26
    have lst : ∀ {Pp : List Pr}, Pp.Perm (wlT (ims u)) → (∀ z, z ∈ pairsT u ↔ z ∈ Pp) ∧ PrOk Pp ∧ (∀ q ∈ Pp, q.1 ≠ []) ∧ LbOk Pp := fun {Pp} pm => by
      rw [wl_ims] at pm
      have po := ok.prOk
      exact ⟨fun z => pm.mem_iff.symm, ⟨by rw [pm.length_eq]; exact po.1, fun z hz => po.2 z (pm.mem_iff.mp hz)⟩, fun z hz => ok.ne z (pm.mem_iff.mp hz), fun z hz => ok.lb z (pm.mem_iff.mp hz)⟩
    refine ⟨_, rfl, r, ims u, rfl, hr3, ims_nd u, li, fun g1 H4 P1 n1 s4 hp1 pm1 => ⟨_, rfl, r, ims u, rfl, s4 _ _ hr3, ims_nd u, li, fun g2 H5 P2 n2 s5 hp2 pm2 => ?_⟩⟩
    obtain ⟨m1, ok1, ne1, lb1⟩ := lst pm1
    obtain ⟨m2, ok2, ne2, lb2⟩ := lst pm2
    refine ⟨g1, g2, P1, P2, rfl, hp1.same s5, hp2, ok1, ok2, ne1, lb1, lb2, fun c H6 s6 pap => ?_⟩
    have s06 : Same H H6 := fun b o z => s6 _ _ (s5 _ _ (s4 _ _ (s3 _ _ z)))
    obtain ⟨⟨v1, v2, Qs, rs, rs', hc, rc, av, dv, so, sd, okA, okD, tv2, told⟩⟩ := pap
    refine ⟨c, _, rfl, .of hc, rfl, _, _, rfl, _, _, rfl, rfl, ?_⟩
    refine ⟨_, rfl, x, u, rfl, m.same2 s06, ok, cn.same s06, sq_same hD s06, fun z H7 s7 nz vz => ?_⟩
    have s07 : Same H H7 := fun b o z => s7 _ _ (s06 _ _ z)
    have tv7 := tv2.same s7
    refine ⟨_, rfl, rfl, _, rfl, ?_⟩
    rcases vz with ⟨dx, l, dd, rsM, rsM', ak, hz, tl, td, isl, isd, td1, td2, lw, all⟩ | ⟨dx, wv, hz, way, ne, _, _, _⟩
    · have ak2 : Alike P1 P2 := alike_perm m1 m2 ak
      rcases told with ⟨_, na⟩ | ⟨_, W, hW, tv1⟩
      · exact absurd ak2 na
      have eR : rsM = rs := alive_same m1 m2 isl all rc av okA so
      have eD : rsM' = rs' := dead_same m1 m2 isd all rc av dv okD sd
      subst eR eD
      obtain ⟨eT, eQ⟩ := told_same m1 m2 ak lw av hW
      rw [eT] at tl td1
      have lW : ∀ q ∈ rsM, (W q).2.length ≤ 600 ∧ ∀ c ∈ (W q).2, isLt c := fun q hq => by
        obtain ⟨w0, k0, e0⟩ := lw q hq
        refine ⟨(hW q hq).2, ?_⟩
        rw [← eQ q hq]
        exact lead_lt (way_lt ok.lb ok.lb k0) e0
      have tT := told_tells okA (isl.len ok.fewR) lW
      have tD := rests_tells okD
      have tv17 := tv1.same s7
      obtain ⟨a1, ys1, rfl, h1, t1⟩ : ∃ a ys, v1 = V.ref a ∧ H7 a = some (.tup ys) ∧ TVs H7 ys (rsM.map fun q => .tuple [.str (sideS q.1), .str (Sx q.2), .str (sideS (W q).1), .str (Sx (W q).2)]) := by
        unfold toldD at tv17
        cases tv17 with
        | tup h r => exact ⟨_, _, rfl, h, r⟩
      rw [decide_eq_false (show ¬ V.ref a1 = V.non from fun z => nomatch z)]
      refine iteF (nextS ?_)
      refine ⟨_, rfl, _, .ref CO, .ref CO, .ref CO, true, rfl, .own _, T.tyO _ _ _ _ hz, T.kOO, true, rfl, iteF ?_⟩
      refine ⟨_, rfl, z, CO, dx, _, l, rfl, hz, T.clO, T.nO1, fO_l l dd, l, _, rfl, tl.pyv, tT, _, rfl, _, _, rfl, tv17.pyv, tT, rfl, _, rfl, ?_⟩
      rw [decide_eq_true rfl]
      refine iteF ?_
      refine ⟨_, rfl, z, CO, dx, _, dd, rfl, hz, T.clO, T.nO2, fO_d l dd, dd, _, rfl, td.pyv, tD, _, rfl, _, _, rfl, tv7.pyv, tD, rfl, _, rfl, ?_⟩
      rw [decide_eq_true rfl]
      refine iteF (nextS ?_)
      -- the same papers, made of its own
      refine ⟨_, rfl, _, rfl, _, rfl, fun y dy ny ndy ney => ?_⟩
      have sy := same_mk (C := CO) (o := .own y) ny ndy
      refine ⟨y, dy, .ref a1, v2, _, _, rfl, upd_same, tv17.same sy, td1, tv7.same sy, td2, fun a' b' H8 k8 hy ta tb => ⟨rfl, ?_⟩⟩
      have s78 : Same H7 H8 := same_butx sy k8 ny
      have hz8 := s78 _ _ hz
      refine ⟨z, dx, _, .ref CO, rfl, hz8, T.tyO _ _ _ _ hy, T.nfO, z, dx, l, dd, _, _, .ref y, rfl, hz8, tl.same s78, td.same s78, td1, td2, .inl ⟨y, dy, a', b', _, _, rfl, hy, ta, tb, td1, td2, fun H9 s9 => ⟨_, rfl, _, rfl, ?_⟩⟩⟩
      rw [lay_td td1, lay_td td2]
      refine iteT ?_
      have s79 : Same H7 H9 := fun b o z => s9 _ _ (s78 _ _ z)
      have hz9 := s79 _ _ hz
      have h19 := s79 _ _ h1
      have lys : ys1.length ≤ 126 := by
        rw [TVs.len t1, List.length_map]
        exact isl.len ok.fewR
      refine ⟨_, rfl, ?_⟩
      refine via (t := tOp (rCatA K) (tVar 2) (tSl (rSlA K) (tVar 2) tNoPart (tPart (tC (V.int 1))))) (fun v H10 => ∃ c2, v = .ref c2 ∧ H10 c2 = some (.tup (ys1 ++ ys1.take 1)) ∧ Same H9 H10) (fun R hR => ?_) (fun v H10 z10 => ?_)
      · have cat : ∀ (c3 : Addr) (H10 : Hp), H10 c3 = some (.tup (ys1.take 1)) → Same H9 H10 → rCatA K (.ref a1) (.ref c3) H10 R := fun c3 H10 h3 s10 => by
          refine ⟨a1, c3, ys1, ys1.take 1, rfl, rfl, .of (s10 _ _ h19), .of h3, ?_, fun e => ?_, fun e e2 => ?_, fun e e2 p np => ?_⟩
          · rw [List.length_take, sizeLine_eq]
            omega
          · subst e
            exact hR _ _ ⟨c3, rfl, h3, s10⟩
          · refine hR _ _ ⟨a1, rfl, ?_, s10⟩
            rw [e2, List.append_nil]
            exact s10 _ _ h19
          · exact hR _ _ ⟨p, rfl, upd_same, same_put (s := s10) np⟩
        refine ⟨_, rfl, _, rfl, 1, rfl, a1, ys1, rfl, .of h19, fun ⟨_, e⟩ => ?_, fun _ p np => ?_⟩
        · refine cat a1 H9 ?_ (Same.refl H9)
          have l1 : ys1.length ≤ 1 := by
            have e2 : HT.sIx ys1.length ys1.length (some 1) = min 1 ys1.length := HT.sIx_nat _ _ 1
            omega
          rw [List.take_of_length_le l1]
          exact h19
        · refine cat p _ ?_ (same_put (s := Same.refl H9) np)
          rw [upd_same]
          have e2 : cutV ys1 none (some 1) = ys1.take 1 := by
            unfold cutV
            rw [show HT.sIx ys1.length ys1.length (some 1) = min 1 ys1.length from HT.sIx_nat _ _ 1, HT.sIx_none, List.drop_zero, Nat.sub_zero]
            by_cases l0 : ys1.length = 0
            · rw [List.length_eq_zero_iff.mp l0]
              rfl
            · rw [Nat.min_eq_left (by omega)]
          rw [e2]
      obtain ⟨c2, rfl, hc2, s10⟩ := z10
      have s710 : Same H7 H10 := fun b o z => s10 _ _ (s79 _ _ z)
      have hz10 := s710 _ _ hz
      generalize eds : (rsM.map fun q => PyData.tuple [.str (sideS q.1), .str (Sx q.2), .str (sideS (W q).1), .str (Sx (W q).2)]) = ds at t1
      have eTd : toldD W rsM = .tuple ds := by rw [← eds]; rfl
      rw [eTd] at tl td1 tT tv17
      have lds : ds.length ≤ 126 := by rw [← TVs.len t1]; exact lys
      have t10 := TVs.same t1 s710
      have tvC : TV H10 (.ref c2) (.tuple (ds ++ ds.take 1)) := .tup hc2 (tvs_app t10 (tvs_take t10 1))
      have tdC : TD 2 (.tuple (ds ++ ds.take 1)) := by
        rcases td1 with (e | ⟨_, e, _⟩ | ⟨_, e⟩) | ⟨ds2, e, _, k⟩
        · cases e
        · cases e
        · cases e
        · cases e
          refine .inr ⟨_, rfl, by rw [List.length_append, List.length_take]; omega, fun d hd => ?_⟩
          rcases List.mem_append.mp hd with h | h
          · exact k d h
          · exact k d (List.mem_of_mem_take h)
      refine ⟨_, rfl, fun y2 dy2 ny2 ndy2 ney2 => ?_⟩
      have sy2 := same_mk (C := CO) (o := .own y2) ny2 ndy2
      refine ⟨y2, dy2, .ref c2, v2, _, _, rfl, upd_same, tvC.same sy2, tdC, (tv7.same s710).same sy2, td2, fun a3 b3 H11 k11 hy3 ta3 tb3 => ⟨rfl, ?_⟩⟩
      have s1011 : Same H10 H11 := same_butx sy2 k11 ny2
      have s711 : Same H7 H11 := fun b o z => s1011 _ _ (s710 _ _ z)
      have hz11 := s711 _ _ hz
      refine ⟨z, dx, _, .ref CO, rfl, hz11, T.tyO _ _ _ _ hy3, T.nfO, z, dx, l, dd, _, _, .ref y2, rfl, hz11, tl.same s711, td.same s711, td1, td2, .inl ⟨y2, dy2, a3, b3, _, _, rfl, hy3, ta3, tb3, tdC, td2, fun H12 s12 => ⟨_, rfl, ?_⟩⟩⟩
      rw [lay_td td2, Bool.and_true]
      have s712 : Same H7 H12 := fun b o z => s12 _ _ (s711 _ _ z)
      have s012 : Same H H12 := fun b o z => s712 _ _ (s07 _ _ z)
      refine ⟨_, rfl, ?_⟩
      cases ds with
      | nil =>
        rw [show PyData.eqv (.tuple []) (.tuple ([] ++ List.take 1 [])) = true by simp [PyData.eqv, PyData.eqvAll]]
        refine iteF ⟨_, rfl, Nat.zero_le _, fun p np => ?_⟩
        have sp := same_put (s := s712) (o := .tup []) np
        refine ⟨.tuple [], .tuple [], (tv17.same sp).dp, .tup (.of upd_same) .nil, by decide +kernel, by decide +kernel, ?_⟩
        rw [show PyData.eqv (.tuple []) (.tuple []) = true by simp [PyData.eqv, PyData.eqvAll]]
        exact q _ (same_put (s := s012) np)
      | cons d0 dr =>
        have ef : PyData.eqv (.tuple (d0 :: dr)) (.tuple (d0 :: dr ++ List.take 1 (d0 :: dr))) = false := by
          simp only [PyData.eqv]
          exact eqvAll_len (by rw [List.length_append, List.length_take, List.length_cons]; omega)
        rw [ef]
        exact iteT (q H12 s012)
    · have na : ¬ Alike P1 P2 := fun a2 => ne (a2 wv (way_of m1 m2 way))
      rcases told with ⟨rfl, _⟩ | ⟨a2, _⟩
      · rw [decide_eq_true rfl]
        refine iteT ⟨_, rfl, .inr ⟨z, dx, _, rfl, hz, z, rfl, false, rfl, ?_⟩⟩
        exact q H7 s07
      · exact absurd a2 na
end
end V8
set_option Elab.async false
set_option linter.all false
set_option maxRecDepth 100000
set_option maxHeartbeats 8000000
set_option pp.maxSteps 900
/-! Escaped tables once more: images of two letters at most. -/
namespace V8
open PySem PySem.Spec PyProof.Rows L2 MZ MX
abbrev s__law_escaped : Stmt := topS 72
theorem sc__law_escaped : FnScope ["_law_pen_here", "_law_some", "_law_tails", "_law_found", "_law_letter", "_law_stays"] ["_law_pen_here", "_law_some"] (defScope s__law_escaped) := ⟨rfl, rfl, rfl, by decide +kernel, rfl, by decide +kernel, by decide +kernel⟩
def Two (t : Tab) : Prop := ∀ q ∈ t, q.2.length ≤ 2
theorem two_nil : Two [] := fun q h => nomatch h
theorem two_put {t : Tab} {c : Nat} {s : List Nat} (h : Two t) (l : s.length ≤ 2) : Two (putT t c s) := fun q hq => by
  unfold putT at hq
  split at hq
  · obtain ⟨x, hx, rfl⟩ := List.mem_map.mp hq
    split
    · exact l
    · exact h x hx
  · rcases List.mem_append.mp hq with z | z
    · exact h q z
    · rw [List.mem_singleton.mp z]
      exact l
def spTabE (cost : Nat) : Sp := fun vs H Q _ => ∃ (p l a : Addr) (ns : List Int) (n : Nat) (cs : List Nat), vs = [.ref p, .ref a] ∧ PenAt H p l ns (n + cost) ∧ H a = some (.lst (lets cs)) ∧ a ≠ p ∧ cs ≠ [] ∧ cs.Nodup ∧ cs.length ≤ 26 ∧ (∀ c ∈ cs, isLt c) ∧
  ∀ (d : Addr) (t : Tab) (H' : Hp), GoodT cs t → Two t → PenAt H' p l ns n → Fr p H H' → H d = none → H' d = some (.dK (encT t)) → Q (.ref d) H'
section
variable {P : Program} {w : World} {K : PySem.W.Frag} {mg : Str → Option Value} {base : Heap}
theorem ok_escapedE {f : Addr} {fd : FuncData} (F : Fun K "_law_escaped" "_law_escaped" s__law_escaped f fd) (T : Blt mg) (D_draw : Df P w K mg base 1 "_law_draw" spDraw) : FnOk P w K mg base CX0 2 f fd ["_law_pen_here", "_law_some"] (spTabE 52) := by
  refine F.ok sc__law_escaped (fun vs H Q E h => ?_) (fun cdv A outer s H vs Q E hr h => ?_)
  · obtain ⟨p, l, a, ns, n, cs, rfl, _⟩ := h
    rfl
  · obtain ⟨p, l, a, ns, n, cs, rfl, PA, ha, hap, hne, hnd, h26, hlt, q⟩ := h
    refine ⟨_, (pss_cons (ps_par (i := 2) (j := 3) (by rfl) sc__law_escaped.nd rfl rfl (by decide) rfl rfl (pa_cons (pe_callTy (call_list_ofK (K := K) rfl) (by rfl) T.list (by decide +kernel) (pa_cons (pv 1) pa_nil)) (pa_cons pe_dnewK pa_nil)) (by rfl))
      (pss_cons (ps_for PassesOwn.never rfl (pi_list (pv 1)) (pg_name (i := 4) sc__law_escaped.nd rfl (.inl rfl))
        (pss_cons (ps_set (i := 5) sc__law_escaped.nd rfl (.inl rfl) (pe_and (pe_cmpR op_ne (pv 4) (pe_ix (ix_listK (K := K) rfl) (pv 1) pe_int (fun _ _ => rfl)) (nomark _)) (pe_one (pe_cmpR op_eq (pe_c D_draw hr (by decide) (by rfl) (pa_cons (pv 0) (pa_cons pe_int pa_nil))) pe_int (nomark _)))))
        (pss_one (ps_dput (hu_of hr) (pv 3) (pv 4) (pe_ifExp (pt_val (pv 5)) (pv 4) (pe_op op_add_str (pe_ix (ix_listK (K := K) rfl) (pv 1) pe_int (fun _ _ => rfl)) (pe_bmK (K := K) rfl PySem.F.plainAttrs_list PySem.F.slot_list_pop PySem.F.type_list_pop mt_popAt (pv 2) (pa_cons (pe_c D_draw hr (by decide) (by rfl) (pa_cons (pv 0) (pa_cons (pe_callB (call_len_seqK (K := K) rfl) (by rfl) T.len (by decide +kernel) (pa_cons (pv 2) pa_nil)) pa_nil))) pa_nil)))) rfl))))
      (pss_one (ps_ret (pv 3))))), ?_⟩
    have hcs : 0 < cs.length := List.length_pos_iff.mpr hne
    -- tails, found = list(some), {}
    refine ⟨.ref a, rfl, a, _, rfl, .inl (SqL.of ha), fun b nb d nd => ⟨_, _, rfl, ?_⟩⟩
    have hbp := PA.nep nb
    have hbl := PA.nel nb
    have PA1 := (PA.new (o := .lst (lets cs)) nb).new (o := .dK []) nd
    have hdp := (PA.new (o := .lst (lets cs)) nb).nep nd
    have hdl := (PA.new (o := .lst (lets cs)) nb).nel nd
    have hbd : b ≠ d := ne_of_none upd_same nd
    have hab : a ≠ b := ne_of_none ha nb
    have ndH : H d = none := (Fr.new (p := p) nb).back nd hdp
    have had : a ≠ d := ne_of_none ha ndH
    refine ⟨_, rfl, a, rfl, ⟨_, SqL.of (by rw [upd_ne had, upd_ne hab]; exact ha)⟩, for_list (K := K) (a := a) (xs := lets cs) (fun i σ H2 => ∃ (tails : List Nat) (t : Tab) (v4 v5 : Option V), σ = [some (.ref p), some (.ref a), some (.ref b), some (.ref d), v4, v5] ∧
        H2 a = some (.lst (lets cs)) ∧ H2 b = some (.lst (lets tails)) ∧ cs.length ≤ tails.length + i ∧ tails.length ≤ 26 ∧ (∀ x ∈ tails, x ∈ cs) ∧ H2 d = some (.dK (encT t)) ∧ t.length ≤ i ∧ GoodT cs t ∧ Two t ∧ PenAt H2 p l ns (n + 2 * (26 - i)) ∧ Fr p H H2) ?_ ?_ ?_ ?_⟩
    · exact ⟨cs, [], none, none, rfl, by rw [upd_ne had, upd_ne hab]; exact ha, by rw [upd_ne hbd, upd_same], by omega, h26, fun x h => h, upd_same, Nat.le_refl _, GoodT.nil, two_nil, PA1.less (by omega), (Fr.new nb).trans (Fr.new nd)⟩
    · rintro i σ H2 hi ⟨tails, t, v4, v5, rfl, ha2, _⟩
      exact SqL.of ha2
    · rintro i x σ H2 hx ⟨tails, t, v4, v5, rfl, ha2, hb2, htl, ht6, hts, hd2, htn, G, G2, PA2, fr2⟩
      obtain ⟨hi, rfl⟩ := lets_get hx
      -- stays = letter != some[0] and draw(pen, 2) == 0
      refine ⟨_, rfl, _, rfl, a, _, 0, _, rfl, rfl, SqL.of ha2, atI_nat (j := 0) (lets_at hcs), rfl, _, rfl, ?_⟩
      refine ite2 (fun e => ?g1) (fun e => ?g2)
      case' g1 =>
        refine ⟨_, rfl, p, l, ns, n + 2 * (26 - (i + 1)) + 1, 2, rfl, PA2.less (by omega), by decide, by decide, fun v H3 v0 v1 PA3 fr3 => ?_⟩
        refine ⟨rfl, ?_⟩
        generalize decide (V.int v = V.int 0) = bb
      case' g2 =>
        have PA3 : PenAt H2 p l ns (n + 2 * (26 - (i + 1)) + 1) := PA2.less (by omega)
        have fr3 : Fr p H2 H2 := Fr.refl
        generalize false = bb
      all_goals
        have ha3 := fr3 _ _ ha2 hap
        have hb3 := fr3 _ _ hb2 hbp
        have hd3 := fr3 _ _ hd2 hdp
        refine ⟨_, rfl, _, rfl, ?_⟩
        refine ite2 (fun e5 => ?_) (fun e5 => ?_)
        · refine ⟨_, rfl, _, rfl, _, rfl, d, _, rfl, DPut.k (k := Sum.inr (L1 cs[i])) hd3 (by rw [encT_len]; exact small1000 (by omega)), ?_⟩
          have ep : putK (encT t) (Sum.inr (L1 cs[i])) (V.str (L1 cs[i])) = encT (putT t cs[i] [cs[i]]) := putK_enc t cs[i] [cs[i]]
          rw [ep]
          have hmem : cs[i] ∈ cs := List.getElem_mem hi
          refine ⟨tails, putT t cs[i] [cs[i]], _, _, rfl, by rw [upd_ne had]; exact ha3, by rw [upd_ne hbd]; exact hb3, by omega, ht6, hts, upd_same, Nat.le_trans (put_len t _ _) (by omega), G.put hmem (goodI1 hmem), two_put G2 (by show 1 ≤ 2; decide), (PA3.other hdp hdl).less (by omega), (fr2.trans fr3).put ndH⟩
        · have htp : 0 < tails.length := by omega
          refine ⟨_, rfl, a, _, 0, _, rfl, rfl, SqL.of ha3, atI_nat (j := 0) (lets_at hcs), ?_⟩
          refine ⟨_, rfl, .inl ⟨rfl, _, SqL.of hb3⟩, _, rfl, _, rfl, b, _, rfl, .inl (SqL.of hb3), p, l, ns, n + 2 * (26 - (i + 1)), _, rfl, PA3, by rw [lets_len]; omega, by rw [lets_len]; omega, fun v4 H4 w0 w1 PA4 fr4 => ?_⟩
          obtain ⟨j, rfl⟩ : ∃ j : Nat, v4 = j := ⟨v4.toNat, by omega⟩
          have hj : j < tails.length := by rw [lets_len] at w1; omega
          have hb4 := fr4 _ _ hb3 hbp
          have hd4 := fr4 _ _ hd3 hdp
          have ha4 := fr4 _ _ ha3 hap
          refine ⟨b, _, _, j, _, rfl, rfl, hb4, by omega, by omega, by rw [lets_len]; exact seq_ix hj, lets_at hj, _, _, rfl, rfl, by show 1 + 1 ≤ sizeLine; decide, ?_⟩
          refine ⟨_, rfl, _, rfl, d, _, rfl, DPut.k (k := Sum.inr (L1 cs[i])) (by rw [upd_ne (Ne.symm hbd)]; exact hd4) (by rw [encT_len]; exact small1000 (by omega)), ?_⟩
          have ep : putK (encT t) (Sum.inr (L1 cs[i])) (V.str (L1 cs[0] ++ L1 tails[j])) = encT (putT t cs[i] [cs[0], tails[j]]) := by
            rw [← putK_enc]
            rfl
          rw [ep]
          have hmem : cs[i] ∈ cs := List.getElem_mem hi
          have htm : tails[j] ∈ cs := hts _ (List.getElem_mem hj)
          refine ⟨tails.eraseIdx j, putT t cs[i] [cs[0], tails[j]], _, _, rfl, by rw [upd_ne had, upd_ne hab]; exact ha4, by rw [upd_ne hbd, upd_same, lets_erase], by rw [erase_len hj]; omega, by rw [erase_len hj]; omega, fun x hx => hts x (List.mem_of_mem_eraseIdx hx), upd_same,
            Nat.le_trans (put_len t _ _) (by omega), G.put hmem (goodI2 (List.getElem_mem hcs) htm), two_put G2 (Nat.le_refl _), ((PA4.other hbp hbl).other hdp hdl).less (by omega), (((fr2.trans fr3).trans fr4).put nb).put ndH⟩
    · rintro σ H2 ⟨tails, t, v4, v5, rfl, ha2, hb2, htl, ht6, hts, hd2, htn, G, G2, PA2, fr2⟩
      exact ⟨_, rfl, q d t H2 G G2 (PA2.less (by omega)) fr2 ndH hd2⟩
end
end V8
set_option Elab.async false
set_option linter.all false
set_option maxRecDepth 100000
set_option maxHeartbeats 8000000
set_option pp.maxSteps 900
/-! The last misreading of the law. -/
namespace V8
open PySem PySem.Spec PyProof.Rows L2 MZ MX
def P0 : List Pr := [([97], 97), ([97, 98], 98), ([98, 98], 99)]
def Q0 : List Pl := [.start, .rest true [97], .rest true [97, 98], .rest true [98, 98], .rest true [98], .rest false [98]]
def L0 : List Pl := [.start, .fin, .rest true [97], .rest true [97, 98], .rest true [98, 98]]
def W0 (p : Pl) : List Nat × List Nat := if p = .rest true [97] then ([97], []) else if p = .rest true [97, 98] then ([98], []) else if p = .rest true [98, 98] then ([99], []) else ([], [])
theorem q0_closed : ∀ p ∈ Q0, ∀ m ∈ moves P0 P0 p, m.2.2 = .fin ∨ m.2.2 ∈ Q0 := by decide +kernel
theorem l0_closed : ∀ p ∈ Q0, p ∉ L0 → ∀ m ∈ moves P0 P0 p, m.2.2 ∉ L0 := by decide +kernel
theorem k0_keeps : ∀ p ∈ Q0, ∀ m ∈ moves P0 P0 p, m.2.2 ∈ L0 → (lead (put m.1 m.2.1 (W0 p))).isSome = true ∧ lead (put m.1 m.2.1 (W0 p)) = known W0 m.2.2 := by decide +kernel
theorem q0_reach {p : Pl} {w : List Nat × List Nat} (h : Way P0 P0 .start p w) : p = .fin ∨ p ∈ Q0 := by
  induction h with
  | nil => exact .inr (by decide +kernel)
  | step k m ih =>
    rcases ih with rfl | ih
    · cases m
    · exact q0_closed _ ih _ m
theorem l0_live {p : Pl} {v : List Nat × List Nat} (hp : p ∈ Q0) (h : Way P0 P0 p .fin v) : p ∈ L0 := by
  have key : ∀ {o q : Pl} {v : List Nat × List Nat}, Way P0 P0 o q v → o ∈ Q0 → o ∉ L0 → q ∈ Q0 ∧ q ∉ L0 := by
    intro o q v k
    induction k with
    | nil => exact fun a b => ⟨a, b⟩
    | step k m ih =>
      intro a b
      obtain ⟨h1, h2⟩ := ih a b
      have h3 := l0_closed _ h1 h2 _ m
      refine ⟨(q0_closed _ h1 _ m).resolve_left fun e => h3 ?_, h3⟩
      rw [e]
      decide +kernel
  refine Decidable.byContradiction fun n => ?_
  exact absurd (key h hp n).1 (by decide +kernel)
theorem alike0 : Alike P0 P0 := by
  refine alike_of (W := W0) (L := fun p => ∃ v, Way P0 P0 p .fin v) (by decide +kernel) (fun p v k => ⟨v, k⟩) ?_
  intro p w k t l q m ⟨v, kv⟩
  have hp : p ∈ Q0 := (q0_reach k).resolve_left fun e => by
    subst e
    cases m
  have hq : q ∈ L0 := by
    rcases q0_reach (.step k m) with rfl | h
    · decide +kernel
    · exact l0_live h kv
  obtain ⟨h1, h2⟩ := k0_keeps p hp (t, l, q) m hq
  obtain ⟨kk, e⟩ := Option.isSome_iff_exists.mp h1
  exact ⟨kk, e, h2 ▸ e⟩
def rs0 : List (Bool × Wd) := [(true, [97]), (true, [97, 98]), (true, [98, 98])]
def rd0 : List (Bool × Wd) := [(true, [98]), (false, [98])]
theorem rs0_mem (q : Bool × Wd) : q ∈ rs0 ↔ Pl.rest q.1 q.2 ∈ Q0 ∧ Pl.rest q.1 q.2 ∈ L0 := by
  constructor
  · revert q
    decide +kernel
  · rintro ⟨_, h⟩
    obtain ⟨a, r⟩ := q
    simp only [L0, List.mem_cons, List.not_mem_nil, or_false, reduceCtorEq, false_or, Pl.rest.injEq] at h
    rcases h with ⟨rfl, rfl⟩ | ⟨rfl, rfl⟩ | ⟨rfl, rfl⟩ <;> decide +kernel
theorem rd0_mem (q : Bool × Wd) : q ∈ rd0 ↔ Pl.rest q.1 q.2 ∈ Q0 ∧ Pl.rest q.1 q.2 ∉ L0 := by
  constructor
  · revert q
    decide +kernel
  · rintro ⟨h, n⟩
    obtain ⟨a, r⟩ := q
    simp only [Q0, List.mem_cons, List.not_mem_nil, or_false, reduceCtorEq, false_or, Pl.rest.injEq] at h
    rcases h with ⟨rfl, rfl⟩ | ⟨rfl, rfl⟩ | ⟨rfl, rfl⟩ | ⟨rfl, rfl⟩ | ⟨rfl, rfl⟩
    · exact absurd (by decide +kernel) n
    · exact absurd (by decide +kernel) n
    · exact absurd (by decide +kernel) n
    · decide +kernel
    · decide +kernel
theorem live0 : ∀ q ∈ rs0, ∃ v, Way P0 P0 (.rest q.1 q.2) .fin v := by
  intro q hq
  rcases List.mem_cons.mp hq with rfl | hq
  · exact ⟨_, .step .nil (show (false, 97, Pl.fin) ∈ moves P0 P0 (.rest true [97]) by decide +kernel)⟩
  rcases List.mem_cons.mp hq with rfl | hq
  · exact ⟨_, .step .nil (show (false, 98, Pl.fin) ∈ moves P0 P0 (.rest true [97, 98]) by decide +kernel)⟩
  rw [List.mem_singleton.mp hq]
  exact ⟨_, .step .nil (show (false, 99, Pl.fin) ∈ moves P0 P0 (.rest true [98, 98]) by decide +kernel)⟩
def W0q (q : Bool × Wd) : Bool × List Nat := (true, (W0 (.rest q.1 q.2)).1)
theorem way0 : ∀ q ∈ rs0, ∃ w, Way P0 P0 .start (.rest q.1 q.2) w ∧ lead w = some (W0q q) := by
  intro q hq
  rcases List.mem_cons.mp hq with rfl | hq
  · exact ⟨_, .step .nil (show (true, 97, Pl.rest true [97]) ∈ moves P0 P0 .start by decide +kernel), by decide +kernel⟩
  rcases List.mem_cons.mp hq with rfl | hq
  · exact ⟨_, .step .nil (show (true, 98, Pl.rest true [97, 98]) ∈ moves P0 P0 .start by decide +kernel), by decide +kernel⟩
  rw [List.mem_singleton.mp hq]
  exact ⟨_, .step .nil (show (true, 99, Pl.rest true [98, 98]) ∈ moves P0 P0 .start by decide +kernel), by decide +kernel⟩
def due0 : PyData := .tuple [.tuple [.str "one", .str "a", .str "one", .str "a"], .tuple [.str "one", .str "ab", .str "one", .str "b"], .tuple [.str "one", .str "bb", .str "one", .str "c"]]
def dead0 : PyData := .tuple [.tuple [.str "one", .str "b"], .tuple [.str "two", .str "b"]]
theorem told0 : toldD W0q rs0 = due0 := by rfl
theorem shut0 : restsD rd0 = dead0 := by rfl
theorem pw_rs0 : (rs0.map lineS).Pairwise leS := by
  have e : (rs0.map fun q => q.2).all (fun r => (rs0.map fun q => q.2).all fun t => true) = true := by decide +kernel
  refine List.Pairwise.cons (fun y hy => ?_) (List.Pairwise.cons (fun y hy => ?_) (List.Pairwise.cons (fun y hy => nomatch hy) .nil))
  · rcases List.mem_cons.mp hy with rfl | hy
    · exact line_le (show ¬ ([97, 98] : List Nat) < [97] by decide +kernel)
    · rw [List.mem_singleton.mp hy]
      exact line_le (show ¬ ([98, 98] : List Nat) < [97] by decide +kernel)
  · rw [List.mem_singleton.mp hy]
    exact line_le (show ¬ ([98, 98] : List Nat) < [97, 98] by decide +kernel)
theorem pw_rd0 : (rd0.map lineS).Pairwise leS := by
  refine List.Pairwise.cons (fun y hy => ?_) (List.Pairwise.cons (fun y hy => nomatch hy) .nil)
  rw [List.mem_singleton.mp hy]
  exact line_sides [98] [98]
theorem lt_rs0 : ∀ a ∈ rs0, ∀ c ∈ a.2, isLt c := by decide +kernel
theorem lt_rd0 : ∀ a ∈ rd0, ∀ c ∈ a.2, isLt c := by decide +kernel
theorem leads0 {rs : List (Bool × Wd)} (h : RsIs P0 P0 true rs) (all : ∀ p w, Way P0 P0 .start p w → p ∈ placesQ P0 P0) (lw : LdWay P0 rs) : leadsD P0 rs = due0 := by
  have hm : ∀ q, q ∈ rs ↔ q ∈ rs0 := fun q => by
    rw [rs_mem h]
    constructor
    · rintro ⟨h1, h2⟩
      obtain ⟨w, k⟩ := (runQ_reach 600).2 _ h1
      obtain ⟨v, kv⟩ := livesB_iff.mp h2
      have hQ := (q0_reach k).resolve_left fun e => nomatch e
      exact (rs0_mem q).mpr ⟨hQ, l0_live hQ kv⟩
    · intro hq
      obtain ⟨w, k, _⟩ := way0 q hq
      exact ⟨all _ _ k, livesB_iff.mpr (live0 q hq)⟩
  have e : rs = rs0 := lines_one (rs_nd h) (by decide +kernel) hm (fun a ha => lt_rs0 a ((hm a).mp ha)) (rs_lines h) pw_rs0
  subst e
  rw [← told0]
  unfold leadsD toldD
  refine congrArg PyData.tuple (List.map_congr_left fun q hq => ?_)
  obtain ⟨w1, k1, e1⟩ := lw q hq
  obtain ⟨w2, k2, e2⟩ := way0 q hq
  obtain ⟨v, kv⟩ := live0 q hq
  obtain ⟨k, e3, e4⟩ := lead_back (a := w1) (b := w2) (v := v) (alike0 _ (k1.trans kv)) (alike0 _ (k2.trans kv))
  rw [e1] at e3
  rw [e2] at e4
  rw [(Option.some.inj e3).trans (Option.some.inj e4).symm]
theorem deads0 {rs : List (Bool × Wd)} (h : RsIs P0 P0 false rs) (all : ∀ p w, Way P0 P0 .start p w → p ∈ placesQ P0 P0) : restsD rs = dead0 := by
  have reach0 : ∀ q ∈ rd0, ∃ w, Way P0 P0 .start (.rest q.1 q.2) w := by
    intro q hq
    have w1 : Way P0 P0 .start (.rest true [97]) _ := .step .nil (show (true, 97, Pl.rest true [97]) ∈ moves P0 P0 .start by decide +kernel)
    have w2 : Way P0 P0 .start (.rest false [98]) _ := .step w1 (show (false, 98, Pl.rest false [98]) ∈ moves P0 P0 (.rest true [97]) by decide +kernel)
    rcases List.mem_cons.mp hq with rfl | hq
    · exact ⟨_, .step w2 (show (true, 99, Pl.rest true [98]) ∈ moves P0 P0 (.rest false [98]) by decide +kernel)⟩
    · rw [List.mem_singleton.mp hq]
      exact ⟨_, w2⟩
  have hm : ∀ q, q ∈ rs ↔ q ∈ rd0 := fun q => by
    rw [rs_mem h]
    constructor
    · rintro ⟨h1, h2⟩
      obtain ⟨w, k⟩ := (runQ_reach 600).2 _ h1
      have hQ := (q0_reach k).resolve_left fun e => nomatch e
      refine (rd0_mem q).mpr ⟨hQ, fun hL => ?_⟩
      obtain ⟨v, kv⟩ := live0 q ((rs0_mem q).mpr ⟨hQ, hL⟩)
      rw [livesB_iff.mpr ⟨v, kv⟩] at h2
      cases h2
    · intro hq
      obtain ⟨w, k⟩ := reach0 q hq
      refine ⟨all _ _ k, ?_⟩
      cases e : livesB P0 P0 (.rest q.1 q.2) with
      | false => rfl
      | true =>
        obtain ⟨v, kv⟩ := livesB_iff.mp e
        obtain ⟨h1, h2⟩ := (rd0_mem q).mp hq
        exact absurd (l0_live h1 kv) h2
  rw [lines_one (rs_nd h) (by decide +kernel) hm (fun a ha => lt_rd0 a ((hm a).mp ha)) (rs_lines h) pw_rd0, shut0]
end V8
set_option Elab.async false
set_option linter.all false
set_option maxRecDepth 100000
set_option maxHeartbeats 16000000
set_option pp.maxSteps 900
/-! The law. -/
namespace V8
open PySem PySem.Spec PyProof.Rows L2 MZ
variable {K : PySem.W.Frag} {ω : World}
abbrev s_law : Stmt := topS 85
abbrev n_law : List Str := ["_law_script", "_law_pen_here", "_law_turn", "_law_some", "_law_made", "_law_other", "_law_whole", "_law_line", "_law_found", "_law_due", "_law_letter"]
theorem sc_law : FnScope ["_law_script", "_law_pen_here", "_law_turn", "_law_some", "_law_made", "_law_other", "_law_whole", "_law_line", "_law_found", "_law_due", "_law_letter"] ["_law_script"] (defScope s_law) := ⟨rfl, rfl, rfl, by decide +kernel, rfl, by decide +kernel, by decide +kernel⟩
theorem GoodI.abc {cs s : List Nat} (g : GoodI cs s) (h : ∀ c ∈ cs, isLt c) : GoodI abc s := ⟨g.1, g.2.1, fun d hd => abc_mem.mpr (h d (g.2.2 d hd))⟩
theorem GoodT.abc {cs : List Nat} {t : Tab} (g : GoodT cs t) (h : ∀ c ∈ cs, isLt c) : GoodT abc t := ⟨g.nd, fun q hq => abc_mem.mpr (h _ (g.key q hq)), fun q hq => (g.img q hq).abc h⟩
theorem keys_le2 {u v : Tab} (h : ∀ c ∈ keysOf u, c ∈ keysOf v) : (keysOf u).length ≤ (keysOf v).length := nd_le (keysOf_nd u) h
theorem ok_good {t : Tab} (g : GoodT abc t) (l8 : t.length ≤ 8) : OkU t := by
  refine ⟨?_, fun c hc => ?_⟩
  · have : (keysOf t).length ≤ (t.map (·.1)).length := nd_le (keysOf_nd t) fun c hc => by
      obtain ⟨s, e⟩ := Option.isSome_iff_exists.mp (keysOf_mem.mp hc).2
      exact List.mem_map.mpr ⟨_, look_in e, rfl⟩
    rw [List.length_map] at this
    omega
  · obtain ⟨s, e⟩ := Option.isSome_iff_exists.mp (keysOf_mem.mp hc).2
    have i := g.img _ (look_in e)
    refine ⟨s, e, fun z => ?_, Nat.le_trans i.2.1 (by decide), fun d hd => abc_mem.mp (i.2.2 d hd)⟩
    have := i.1
    rw [show (c, s).2 = s from rfl, z] at this
    exact absurd this (by decide)
theorem imF_ne {f : Fu} (h : ∀ c s, f c = some s → s ≠ []) : ∀ {w s : List Nat}, w ≠ [] → imF f w = some s → s ≠ []
  | [], _, n, _ => absurd rfl n
  | c :: w, s, _, e => by
    have h' : (f c).bind (fun a => (imF f w).map (a ++ ·)) = some s := e
    cases e1 : f c with
    | none =>
      rw [e1] at h'
      cases h'
    | some z =>
      cases e2 : imF f w with
      | none =>
        rw [e1, e2] at h'
        cases h'
      | some x =>
        rw [e1, e2] at h'
        have h3 : z ++ x = s := Option.some.inj h'
        rw [← h3]
        exact fun q => h c z e1 (List.append_eq_nil_iff.mp q).1
theorem both_ok {t t2 v : Tab} (g : GoodT abc t) (g2 : GoodT abc t2) (l8 : t.length ≤ 8) (l82 : t2.length ≤ 8) (e : lk v = cF (lk t) (lk t2)) (sh : ∀ c ∈ keysOf v, ∀ s, lookT v c = some s → s.length ≤ 8) : OkU v := by
  have ot := ok_good g l8
  have ot2 := ok_good g2 l82
  have sub : ∀ c ∈ keysOf v, c ∈ keysOf t := fun c hc => by
    have h1 := lk_mem.mp hc
    rw [e] at h1
    refine lk_mem.mpr ?_
    cases z : lk t c with
    | none =>
      have : cF (lk t) (lk t2) c = none := by
        show (lk t c).bind _ = none
        rw [z]
        rfl
      rw [this] at h1
      cases h1
    | some _ => rfl
  refine ⟨Nat.le_trans (keys_le2 sub) ot.few, fun c hc => ?_⟩
  obtain ⟨s, es⟩ := Option.isSome_iff_exists.mp (lk_mem.mp hc)
  have el : lookT v c = some s := (lk_some es).2
  rw [e] at es
  have h0 : ∀ c s, lk t c = some s → s ≠ [] := fun c s h z => by
    obtain ⟨hk, h2⟩ := lk_some h
    obtain ⟨s2, e2, n2, _⟩ := ot.img c hk
    rw [h2] at e2
    exact n2 ((Option.some.inj e2).symm.trans z)
  have h02 : ∀ c s, lk t2 c = some s → s ≠ [] := fun c s h z => by
    obtain ⟨hk, h2⟩ := lk_some h
    obtain ⟨s2, e2, n2, _⟩ := ot2.img c hk
    rw [h2] at e2
    exact n2 ((Option.some.inj e2).symm.trans z)
  have es2 : (lk t c).bind (imF (lk t2)) = some s := es
  obtain ⟨m, em, e3⟩ := Option.bind_eq_some_iff.mp es2
  refine ⟨s, el, imF_ne h02 (h0 c m em) e3, sh c hc s el, fun d hd => abc_mem.mp (imF_over (good_over g2) e3 d hd)⟩
theorem two_bnd {t : Tab} (h : Two t) : Bnd 2 (lk t) := fun c s e => h (c, s) (look_in (lk_some e).2)
theorem two_big {t t2 : Tab} (h : Two t) (g : GoodT abc t2) : Bnd 8 (cF (lk t) (lk t2)) := Bnd.comp (two_bnd h) (good_bnd g)
/-- the lines of the law -/
def lines8 : List Str := ["-", "a:b", "a:ab b:abb c:bb", "a:a b:ab c:bb", "e:xc x:xf", "a:aab b:ba", "a:ab b:abab", "a:aba b:ab c:c"]
def tabOf (z : Str) : Tab := if (wordsW z.cps.toList).head? = some [45] then [] else tabW (wordsW z.cps.toList)
def okB (u : Tab) : Bool := decide ((keysOf u).length ≤ 8) && (keysOf u).all fun c => match lookT u c with
  | none => false
  | some s => decide (s ≠ []) && decide (s.length ≤ 8) && s.all fun d => decide (isLt d)
theorem okB_ok {u : Tab} (h : okB u = true) : OkU u := by
  unfold okB at h
  rw [Bool.and_eq_true, decide_eq_true_iff, List.all_eq_true] at h
  refine ⟨h.1, fun c hc => ?_⟩
  have h2 := h.2 c hc
  cases e : lookT u c with
  | none =>
    rw [e] at h2
    cases h2
  | some s =>
    rw [e] at h2
    rw [Bool.and_eq_true, Bool.and_eq_true, decide_eq_true_iff, decide_eq_true_iff, List.all_eq_true] at h2
    exact ⟨s, rfl, h2.1.1, h2.1.2, fun d hd => of_decide_eq_true (h2.2 d hd)⟩
theorem lines_ok : ∀ z ∈ lines8, (decide (z.length ≤ 1000) && z.cps.toList.all (fun c => decide (c < 0x110000)) && decide (dueW (wordsW z.cps.toList) = none) && okB (tabOf z)) = true := by decide +kernel
structure CnD (K : PySem.W.Frag) (aS aE aV aD : Addr) (H : Hp) : Prop where
  cn : CnH K aS aE aV H
  sd : SqT K H aD [.str (sideS true), .str (sideS false)]
theorem CnD.same {aS aE aV aD : Addr} {H H' : Hp} (c : CnD K aS aE aV aD H) (s : Same H H') : CnD K aS aE aV aD H' := ⟨c.cn.same s, sq_same c.sd s⟩
theorem CnD.fr {aS aE aV aD p l : Addr} {ns : List Int} {n : Nat} {H H' : Hp} (c : CnD K aS aE aV aD H) (P : PenAt H p l ns n) (f : Fr p H H') : CnD K aS aE aV aD H' := by
  obtain ⟨xs, hp⟩ := P.pen
  have g : ∀ {b : Addr} {ys : List V}, SqT K H b ys → SqT K H' b ys := fun e => sq_mono e fun o eo z => f _ _ eo fun q => by
    rw [q, hp] at eo
    cases eo
    rcases z with z | ⟨_, z⟩ <;> cases z
  exact ⟨⟨g c.cn.st, g c.cn.en, g c.cn.ev⟩, g c.sd⟩
def spLaw (aS aE aV aD : Addr) (K : PySem.W.Frag) : Sp := fun vs H Q _ => ∃ (a : Addr) (ns : List Int), vs = [.ref a] ∧ SqL K H a (ns.map V.int) ∧ ns.length ≤ 63 ∧ CnD K aS aE aV aD H ∧ ∀ H', Q (.bl true) H'
section
variable {P : Program} {w : World} {K : PySem.W.Frag} {mg : Str → Option Value} {base : Heap} {aS aE aV aD CM CJ CO CR CV : Addr}
structure Tlaw (K : PySem.W.Frag) (mg : Str → Option Value) (CM CJ CO CR : Addr) : Prop extends Tp K mg CM CJ where
  w : Tw K mg CM CO CR
theorem ok_law {f : Addr} {fd : FuncData} (F : Fun K "law" "law" s_law f fd) (T : Tlaw K mg CM CJ CO CR) (D_pen : Df P w K mg base 1 "_law_pen" (spPen K)) (D_draw : Df P w K mg base 1 "_law_draw" spDraw) (D_some_letters : Df P w K mg base 2 "_law_some_letters" spLetters)
    (D_escaped : Df P w K mg base 2 "_law_escaped" (spTabE 52)) (D_table : Df P w K mg base 4 "_law_table" (spTab 260)) (D_right : DfG P w K mg base CX0 10 "_law_right" (spRight K aS aE aV aD CM)) (D_merging : Df P w K mg base 7 "merging" (spMerging K aS aE aV aD CM CO CR)) (D_mk : Mkr P w K mg base CM) (D_rshift : Bo P w K mg base 7 CM "__rshift__" (spRsh CM))
    (D_iter : ItM P w K mg base 1 CM (snIter CM)) (D_get : Mf P w K mg base 2 CM "__getitem__" (spGet CM)) (D_read : Rd0 P w K mg base CM) : FnG P w K mg base CX0 11 f fd ["_law_script"] (spLaw aS aE aV aD K) := by
  refine F.okG sc_law (fun vs H Q E h => ?_) (fun cdv A outer s H vs Q E quiet hr h => ?_)
  · obtain ⟨a, ns, rfl, _⟩ := h
    rfl
  · obtain ⟨a, ns, rfl, hS, hn0, cd0, q0⟩ := h
    refine ⟨_, (pss_cons (ps_set (i := 1) sc_law.nd rfl (.inl rfl) (pe_c D_pen hr (by decide) (by rfl) (pa_cons (pv 0) pa_nil)))
      (pss_cons (ps_for PassesOwn.never rfl (pi_range1 (by rfl) T.range (pa_cons pe_int pa_nil)) (pg_name (i := 2) sc_law.nd rfl (.inl rfl))
        (pss_cons (ps_set (i := 3) sc_law.nd rfl (.inl rfl) (pe_c D_some_letters hr (by decide) (by rfl) (pa_cons (pv 1) (pa_cons (pe_op op_add pe_int (pe_c D_draw hr (by decide) (by rfl) (pa_cons (pv 1) (pa_cons pe_int pa_nil)))) pa_nil))))
        (pss_cons (ps_par (i := 4) (j := 5) (by rfl) sc_law.nd rfl rfl (by decide) rfl rfl (pa_cons (pe_mk1 D_mk hr (by decide) (by rfl) (pa_cons (pe_c D_escaped hr (by decide) (by rfl) (pa_cons (pv 1) (pa_cons (pv 3) pa_nil))) pa_nil)) (pa_cons (pe_mk1 D_mk hr (by decide) (by rfl) (pa_cons (pe_c D_table hr (by decide) (by rfl) (pa_cons (pv 1) (pa_cons (pv 3) pa_nil))) pa_nil)) pa_nil)) (by rfl))
        (pss_cons (ps_if (PW.pt (pw_or (pt_not (pt_val (pe_cG D_right quiet pass0 hr (by decide) (by rfl) (pa_cons (pv 4) pa_nil)))) (pw_or (pt_not (pt_val (pe_cG D_right quiet pass0 hr (by decide) (by rfl) (pa_cons (pv 5) pa_nil)))) (pw_or1 (pt_not (pt_val (pe_cG D_right quiet pass0 hr (by decide) (by rfl) (pa_cons (pe_op (op_bin D_rshift hr (by decide)) (pv 4) (pv 4)) pa_nil))))))))
          (pss_one (ps_ret pe_bl))
          pss_nil)
        (pss_cons (ps_set (i := 6) sc_law.nd rfl (.inr rfl) (pe_op (op_bin D_rshift hr (by decide)) (pv 4) (pv 5)))
        (pss_one (ps_if (PW.pt (pw_and (pt_cmpR (op_eqDK (K := K) rfl hr.units) (pe_lc (own := [("_law_letter", 10)]) (g := gName 10) (by rfl) sc_law.nd (pi_ownI D_iter hr (by decide) (pv 6)) (blkOk_by (own := [("_law_letter", 10)]) (N := n_law) (sc := defScope s_law) (by decide +kernel)) (fun _ _ _ _ _ => (pg_name (i := 10) sc_law.nd rfl (.inl rfl))) (fun _ _ _ _ _ => (pts_one (pt_cmpR op_gt (pe_callB call_len_str (by rfl) T.len (by decide +kernel) (pa_cons (pe_ixO D_get hr (by decide) (pv 6) (pv 10)) pa_nil)) pe_int (nomark _)))) (fun _ _ _ _ _ => (pv 10))) (pe_lst pa_nil) (nomark _)) (pw_and1 (pt_not (pt_val (pe_cG D_right quiet pass0 hr (by decide) (by rfl) (pa_cons (pv 6) pa_nil)))))))
          (pss_one (ps_ret pe_bl))
          pss_nil)))))))
      (pss_cons (ps_for PassesOwn.never rfl (pi_list (pe_lst (pa_cons pe_str (pa_cons pe_str (pa_cons pe_str (pa_cons pe_str (pa_cons pe_str (pa_cons pe_str (pa_cons pe_str (pa_cons pe_str pa_nil)))))))))) (pg_name (i := 7) sc_law.nd rfl (.inl rfl))
        (pss_one (ps_if (pt_not (pt_val (pe_cG D_right quiet pass0 hr (by decide) (by rfl) (pa_cons (pe_rd0 D_read hr (by decide) (pe_gv T.gMisreading (by rfl)) (pa_cons (pv 7) pa_nil)) pa_nil))))
          (pss_one (ps_ret pe_bl))
          pss_nil)))
      (pss_cons (ps_set (i := 8) sc_law.nd rfl (.inl rfl) (pe_c D_merging hr (by decide) (by rfl) (pa_cons (pe_rd0 D_read hr (by decide) (pe_gv T.gMisreading (by rfl)) (pa_cons pe_str pa_nil)) pa_nil)))
      (pss_cons (ps_set (i := 9) sc_law.nd rfl (.inl rfl) (pe_tup (pa_cons (pe_tup (pa_cons pe_str (pa_cons pe_str (pa_cons pe_str (pa_cons pe_str pa_nil))))) (pa_cons (pe_tup (pa_cons pe_str (pa_cons pe_str (pa_cons pe_str (pa_cons pe_str pa_nil))))) (pa_cons (pe_tup (pa_cons pe_str (pa_cons pe_str (pa_cons pe_str (pa_cons pe_str pa_nil))))) pa_nil)))))
      (pss_one (ps_ret (pe_and (pe_cmpR (op_eqDK (K := K) rfl hr.units) (pe_fldK (K := K) rfl (pv 8) rfl) (pv 9) (nomark _)) (pe_one (pe_cmpR (op_eqDK (K := K) rfl hr.units) (pe_fldK (K := K) rfl (pv 8) rfl) (pe_tup (pa_cons (pe_tup (pa_cons pe_str (pa_cons pe_str pa_nil))) (pa_cons (pe_tup (pa_cons pe_str (pa_cons pe_str pa_nil))) pa_nil))) (nomark _))))))))))), ?_⟩
    have c12 : ∀ c ∈ abc, isLt c := fun c hc => abc_mem.mp hc
    refine ⟨_, rfl, a, ns, rfl, hS, hn0, fun p l H1 np s1 PA1 => ?_⟩
    have cd1 := cd0.same s1
    clear np s1 cd0 hS
    refine ⟨_, rfl, by decide, by decide, for_it (walk_range (lo := 0) (n := 6)) (fun i σ H2 => (∃ v2 v3 v4 v5 v6 v10 : Option V, σ = [some (.ref a), some (.ref p), v2, v3, v4, v5, v6, none, none, none, v10]) ∧ PenAt H2 p l ns (1000 * (6 - i)) ∧ CnD K aS aE aV aD H2) ⟨⟨none, none, none, none, none, none, rfl⟩, PA1.less (by omega), cd1⟩ (fun _ _ _ _ _ => trivial) ?_ ?_⟩
    · rintro i z σ H2 H2' hi ⟨⟨v2, v3, v4, v5, v6, v10, rfl⟩, PA2, cd2⟩ ⟨rfl, rfl⟩
      have hb : 1000 * (6 - i) = 1000 * (6 - (i + 1)) + 1000 := by omega
      rw [hb] at PA2
      generalize 1000 * (6 - (i + 1)) = n at PA2 ⊢
      refine ⟨_, rfl, _, rfl, p, l, ns, n + 980, 8, rfl, PA2.less (by omega), by decide, by decide, fun v H4 w0 w1 PA5 fr5 => ?_⟩
      obtain ⟨j, rfl⟩ : ∃ j : Nat, v = j := ⟨v.toNat, by omega⟩
      refine ⟨_, _, rfl, rfl, ?_⟩
      refine ⟨p, l, ns, n + 960, 1 + j, by rw [show ((1 + j : Nat) : Int) = 1 + (j : Int) by omega]; rfl, PA5.less (by omega), by omega, fun so cs H5 hlen hnd hlt PA6 fr6 nso hso => ?_⟩
      have h8 : cs.length ≤ 8 := by omega
      have hne : cs ≠ [] := fun z => by
        rw [z] at hlen
        simp at hlen
        omega
      have cd5 := (cd2.fr PA2 fr5).fr PA5 fr6
      have hsp : so ≠ p := PA5.nep nso
      refine atName ?_
      dsimp only [List.set_cons_succ, List.set_cons_zero]
      refine ⟨_, rfl, _, rfl, p, l, so, ns, n + 900, cs, rfl, PA6.less (by omega), hso, hsp, hne, hnd, by omega, hlt, fun d t H6 G1 G12 PA7 fr7 nd1 hd1 => ?_⟩
      have cd6 := cd5.fr PA6 fr7
      have A1 : GoodT abc t := G1.abc hlt
      have l1 : t.length ≤ 8 := Nat.le_trans G1.len h8
      have hso6 := fr7 _ _ hso hsp
      refine ⟨d, abc, [], t, rfl, hd1, A1, ⟨by rw [toldT_nil A1.nd]; omega, by rw [abc_len]; omega⟩, c12, fun c h => (nomatch h), by decide, fun x H7 nx m7 s7 => ?_⟩
      have m := m7.mis
      rw [toldT_nil A1.nd] at m
      have PA8 := pen_same PA7 s7
      have cd7 := cd6.same s7
      have hso7 := s7 _ _ hso6
      refine ⟨_, rfl, _, rfl, p, l, so, ns, n + 600, cs, rfl, PA8.less (by omega), hso7, hsp, hne, hnd, by omega, hlt, fun d2 t2 H8 G2 PA9 fr8 nd2 hd2 => ?_⟩
      have cd8 := cd7.fr PA8 fr8
      have A2 : GoodT abc t2 := G2.abc hlt
      have l2 : t2.length ≤ 8 := Nat.le_trans G2.len h8
      have m8 : MisAt CM H8 x t := mis_fr m PA8 fr8
      refine ⟨d2, abc, [], t2, rfl, hd2, A2, ⟨by rw [toldT_nil A2.nd]; omega, by rw [abc_len]; omega⟩, c12, fun c h => (nomatch h), by decide, fun x2 H9 nx2 m9 s9 => ⟨_, _, rfl, ?_⟩⟩
      have mo := m9.mis
      rw [toldT_nil A2.nd] at mo
      have PA10 := pen_same PA9 s9
      have cd9 := cd8.same s9
      have mm := m8.same2 s9
      clear m7 nx s7 hd1 cd6 PA7 PA6 fr7 nd1 cd5 hso PA5 fr5 fr6 nso hlen w0 w1 cd2 PA2 hsp hnd hne m9 nx2 s9 hd2 cd8 PA9 fr8 nd2 m8 hso7 hso6 m cd7 PA8
      dsimp only [List.set_cons_succ, List.set_cons_zero]
      have o1 := ok_good A1 l1
      have o2 := ok_good A2 l2
      refine ⟨_, rfl, x, t, rfl, mm, o1, cd9.cn, cd9.sd, fun H10 s10 => ⟨true, rfl, iteF ?_⟩⟩
      replace mm := mm.same2 s10
      replace mo := mo.same2 s10
      have cd10 := cd9.same s10
      have PA11 := pen_same PA10 s10
      clear cd9 PA10
      refine ⟨_, rfl, x2, t2, rfl, mo, o2, cd10.cn, cd10.sd, fun H11 s11 => ⟨true, rfl, iteF ?_⟩⟩
      replace mm := mm.same2 s11
      replace mo := mo.same2 s11
      have cd11 := cd10.same s11
      have PA12 := pen_same PA11 s11
      clear cd10 PA11
      obtain ⟨dx, fx, hx⟩ := mm.ins
      have b4 : Bnd 64 (lk t) := Bnd.le (good_bnd A1) (by decide)
      have b42 : Bnd 64 (lk t2) := Bnd.le (good_bnd A2) (by decide)
      refine ⟨_, rfl, _, rfl, x, dx, fx, x, dx, fx, rfl, hx, rfl, hx, x, x, t, t, cs, rfl, mm, mm, b4, b4, Bnd.le (two_big G12 A1) (by decide), good_over G1, by omega, fun z H12 v nz mz elk s12 => ?_⟩
      have okz := both_ok A1 A1 l1 l1 elk fun c hc s e => by
        have e2 : lk v c = some s := by rw [← lk_look hc]; exact e
        rw [elk] at e2
        exact two_big G12 A1 c s e2
      have cd12 := cd11.same s12
      refine ⟨z, v, rfl, mz, okz, cd12.cn, cd12.sd, fun H13 s13 => ⟨true, rfl, iteF (nextS ?_)⟩⟩
      replace mm := (mm.same2 s12).same2 s13
      replace mo := (mo.same2 s12).same2 s13
      have cd13 := cd12.same s13
      have PA14 := pen_same (pen_same PA12 s12) s13
      clear cd11 cd12 PA12 mz okz elk nz hx
      obtain ⟨dx, fx, hx⟩ := mm.ins
      obtain ⟨dx2, fx2, hx2⟩ := mo.ins
      refine ⟨_, rfl, _, rfl, x, dx, fx, x2, dx2, fx2, rfl, hx, rfl, hx2, x, x2, t, t2, cs, rfl, mm, mo, b4, b42, Bnd.le (two_big G12 A2) (by decide), good_over G1, by omega, fun z H14 v nz mz elk s14 => ?_⟩
      have okz := both_ok A1 A2 l1 l2 elk fun c hc s e => by
        have e2 : lk v c = some s := by rw [← lk_look hc]; exact e
        rw [elk] at e2
        exact two_big G12 A2 c s e2
      have cd14 := cd13.same s14
      have PA15 := pen_same PA14 s14
      clear cd13 PA14 mm mo hx hx2
      refine atName ?_
      dsimp only [List.set_cons_succ, List.set_cons_zero]
      obtain ⟨dz, fz, hz⟩ := mz.ins
      have lkv := lets_len (keysOf v)
      have k26 := keysOf_len v
      refine ⟨_, rfl, z, dz, _, rfl, hz, fun k0 hk0 => ⟨z, v, rfl, mz, fun it ia ni hi2 ha => ⟨it, ia, rfl, hi2, upd_same, ?_⟩⟩⟩
      rw [dropH_upd ni]
      refine fun D nD => lc_it (walk_tup (K := K) (a := ia) (xs := lets (keysOf v))) (fun i H15 => H15 = upd H14 D (.lst [])) rfl ?_ ?_ ?_
      · rintro i H15 hi rfl
        exact .inl (.inl (by rw [upd_ne (ne_of_none ha nD)]; exact ha))
      · rintro i y H15 H16 hi rfl ⟨eH, hy⟩
        rw [eH]
        obtain ⟨hi', rfl⟩ := lets_get hy
        have hc := List.getElem_mem hi'
        obtain ⟨s', es⟩ := Option.isSome_iff_exists.mp (keysOf_mem.mp hc).2
        have s15 := same_put (s := Same.refl H14) (o := .lst []) nD
        have m15 := mz.same2 s15
        obtain ⟨dx1, fx1, h1⟩ := m15.ins
        have l8' : s'.length ≤ 8 := by
          obtain ⟨s3, e3, _, l3, _⟩ := okz.img _ hc
          rw [es] at e3
          cases e3
          exact l3
        refine ⟨rfl, _, rfl, _, rfl, z, dx1, _, rfl, h1, z, v, _, s', rfl, m15, hc, es, ?_⟩
        refine ⟨_, rfl, by rw [Sx_len, sizeLine_eq]; omega, _, _, rfl, rfl, _, rfl, ?_⟩
        rw [Sx_len, decide_eq_false (show ¬ (8 : Int) < ((s'.length : Nat) : Int) by omega)]
        exact iteF rfl
      rintro H15 rfl
      have s15 := same_put (s := Same.refl H14) (o := .lst []) nD
      refine ⟨Nat.zero_le _, fun e ne => ?_⟩
      have nDe : D ≠ e := ne_of_none (show upd H14 D (.lst []) D = _ from upd_same) ne
      refine ⟨.list [], .list [], .lst (SqL.of (xs := []) (by rw [upd_ne nDe, upd_same])) .nil, .lst (SqL.of upd_same) .nil, by decide +kernel, by decide +kernel, ?_⟩
      rw [show PyData.eqv (.list []) (.list []) = true by decide +kernel]
      have s16 := same_put (s := s15) (o := .lst []) ne
      generalize upd (upd H14 D (.lst [])) e (.lst []) = H16 at s16 ⊢
      have cd16 := cd14.same s16
      refine ⟨_, rfl, iteT ⟨_, rfl, z, v, rfl, mz.same2 s16, okz, cd16.cn, cd16.sd, fun H17 s17 => ⟨true, rfl, iteF ?_⟩⟩⟩
      exact ⟨⟨_, _, _, _, _, _, rfl⟩, pen_same (pen_same (PA15.less (by omega)) s16) s17, cd16.same s17⟩
    · rintro σ H2 ⟨⟨v2, v3, v4, v5, v6, v10, rfl⟩, PA2, cd2⟩
      refine ⟨by show 8 ≤ sizeLine; decide, fun L nL => ?_⟩
      have hL0 : upd H2 L (.lst (lines8.map V.str)) L = some (.lst (lines8.map V.str)) := upd_same
      have cd3 := cd2.same (same_put (s := Same.refl H2) (o := .lst (lines8.map V.str)) nL)
      refine ⟨L, rfl, ⟨_, SqL.of upd_same⟩, ?_⟩
      show ∃ W : Nat → Nat → L2.St → Hp → Prop, (∃ m, W 0 m _ (upd H2 L (.lst (lines8.map V.str)))) ∧ _
      generalize upd H2 L (.lst (lines8.map V.str)) = H3 at hL0 cd3 ⊢
      refine for_it (walk_list (K := K) (a := L) (xs := lines8.map V.str)) (fun i σ H4 => (∃ v2 v3 v4 v5 v6 v7 v10 : Option V, σ = [some (.ref a), some (.ref p), v2, v3, v4, v5, v6, v7, none, none, v10]) ∧ H4 L = some (.lst (lines8.map V.str)) ∧ CnD K aS aE aV aD H4) ⟨⟨_, _, _, _, _, _, _, rfl⟩, hL0, cd3⟩ ?_ ?_ ?_
      · rintro i σ H4 hi ⟨_, hL4, _⟩
        exact SqL.of hL4
      · rintro i y σ H40 H4 hi ⟨⟨w2, w3, w4, w5, w6, w7, w10, rfl⟩, hL4, cd4⟩ ⟨rfl, hy⟩
        obtain ⟨z, hz, rfl⟩ : ∃ z, z ∈ lines8 ∧ y = .str z := by
          rw [List.getElem?_map] at hy
          obtain ⟨z, hz, e⟩ := Option.map_eq_some_iff.mp hy
          exact ⟨z, List.mem_of_getElem? hz, e.symm⟩
        have ok := lines_ok z hz
        rw [Bool.and_eq_true, Bool.and_eq_true, Bool.and_eq_true, decide_eq_true_iff, decide_eq_true_iff, List.all_eq_true] at ok
        obtain ⟨⟨⟨o1, o2⟩, o3⟩, o4⟩ := ok
        refine ⟨rfl, _, rfl, z.cps.toList, by rw [sx_list], by rw [← Sx_len, sx_list]; exact o1, fun c hc => of_decide_eq_true (o2 c hc), o3, fun x H5 u nx m eu s5 => ?_⟩
        have eu : u = tabOf z := eu
        subst eu
        have cd5 := cd4.same s5
        refine ⟨x, tabOf z, rfl, m, okB_ok o4, cd5.cn, cd5.sd, fun H7 s7 => ⟨true, rfl, iteF ?_⟩⟩
        exact ⟨⟨_, _, _, _, _, _, _, rfl⟩, s7 _ _ (s5 _ _ hL4), cd5.same s7⟩
      · rintro σ H4 ⟨⟨w2, w3, w4, w5, w6, w7, w10, rfl⟩, hL4, cd4⟩
        have ok := lines_ok "a:a b:ab c:bb" (by decide +kernel)
        rw [Bool.and_eq_true, Bool.and_eq_true, Bool.and_eq_true, decide_eq_true_iff, decide_eq_true_iff, List.all_eq_true] at ok
        obtain ⟨⟨⟨o1, o2⟩, o3⟩, o4⟩ := ok
        refine ⟨rfl, ("a:a b:ab c:bb" : Str).cps.toList, by rw [sx_list], by rw [← Sx_len, sx_list]; exact o1, fun c hc => of_decide_eq_true (o2 c hc), o3, fun x H5 u nx m eu s5 => ?_⟩
        have eu : u = tabOf "a:a b:ab c:bb" := eu
        subst eu
        have cd5 := cd4.same s5
        refine ⟨x, tabOf "a:a b:ab c:bb", rfl, m, okB_ok o4, cd5.cn, cd5.sd, fun z H6 s6 nz vz => ?_⟩
        have eP : pairsT (tabOf "a:a b:ab c:bb") = P0 := by decide +kernel
        rw [eP] at vz
        rcases vz with ⟨dx, l2, dd, rs, rs', ak, hz, tl, td, isl, isd, td1, td2, lw, all⟩ | ⟨_, wv, _, way, ne, _⟩
        rotate_left
        · exact absurd (alike0 wv way) ne
        rw [leads0 isl all lw] at tl td1
        rw [deads0 isd all] at td td2
        refine ⟨by show 4 ≤ sizeLine; decide, fun t1 nt1 => ⟨by show 4 ≤ sizeLine; decide, fun t2 nt2 => ⟨by show 4 ≤ sizeLine; decide, fun t3 nt3 => ⟨by show 3 ≤ sizeLine; decide, fun t4 nt4 => ?_⟩⟩⟩⟩
        have s1 := same_put (s := Same.refl H6) (o := .tup [.str "one", .str "a", .str "one", .str "a"]) nt1
        have h1 : upd H6 t1 (.tup [.str "one", .str "a", .str "one", .str "a"]) t1 = some (.tup [.str "one", .str "a", .str "one", .str "a"]) := upd_same
        have s2 := same_put (s := Same.refl _) (o := .tup [.str "one", .str "ab", .str "one", .str "b"]) nt2
        have h2 : upd (upd H6 t1 (.tup [.str "one", .str "a", .str "one", .str "a"])) t2 (.tup [.str "one", .str "ab", .str "one", .str "b"]) t2 = some (.tup [.str "one", .str "ab", .str "one", .str "b"]) := upd_same
        have s3 := same_put (s := Same.refl _) (o := .tup [.str "one", .str "bb", .str "one", .str "c"]) nt3
        have h3 : upd (upd (upd H6 t1 (.tup [.str "one", .str "a", .str "one", .str "a"])) t2 (.tup [.str "one", .str "ab", .str "one", .str "b"])) t3 (.tup [.str "one", .str "bb", .str "one", .str "c"]) t3 = some (.tup [.str "one", .str "bb", .str "one", .str "c"]) := upd_same
        have s4 := same_put (s := Same.refl _) (o := .tup [.ref t1, .ref t2, .ref t3]) nt4
        have tvd : TV (upd (upd (upd (upd H6 t1 (.tup [.str "one", .str "a", .str "one", .str "a"])) t2 (.tup [.str "one", .str "ab", .str "one", .str "b"])) t3 (.tup [.str "one", .str "bb", .str "one", .str "c"])) t4 (.tup [.ref t1, .ref t2, .ref t3])) (.ref t4) due0 :=
          .tup upd_same (.cons (.tup (s4 _ _ (s3 _ _ (s2 _ _ h1))) (.cons (.str _) (.cons (.str _) (.cons (.str _) (.cons (.str _) .nil))))) (.cons (.tup (s4 _ _ (s3 _ _ h2)) (.cons (.str _) (.cons (.str _) (.cons (.str _) (.cons (.str _) .nil))))) (.cons (.tup (s4 _ _ h3) (.cons (.str _) (.cons (.str _) (.cons (.str _) (.cons (.str _) .nil))))) .nil)))
        have sH7 : Same H6 (upd (upd (upd (upd H6 t1 (.tup [.str "one", .str "a", .str "one", .str "a"])) t2 (.tup [.str "one", .str "ab", .str "one", .str "b"])) t3 (.tup [.str "one", .str "bb", .str "one", .str "c"])) t4 (.tup [.ref t1, .ref t2, .ref t3])) := fun b o z => s4 _ _ (s3 _ _ (s2 _ _ (s1 _ _ z)))
        have hz7 := sH7 _ _ hz
        refine ⟨_, rfl, z, CO, dx, _, l2, rfl, hz7, T.w.clO, T.w.nO1, fO_l l2 dd, _, rfl, due0, due0, (tl.same sH7).dp, tvd.dp, td_shaped td1 (by decide), td_shaped td1 (by decide), ?_⟩
        rw [lay_td td1]
        refine ⟨_, rfl, iteT ?_⟩
        refine ⟨_, rfl, z, CO, dx, _, dd, rfl, hz7, T.w.clO, T.w.nO2, fO_d l2 dd, by show 2 ≤ sizeLine; decide, fun t5 nt5 => ⟨by show 2 ≤ sizeLine; decide, fun t6 nt6 => ⟨by show 2 ≤ sizeLine; decide, fun t7 nt7 => ?_⟩⟩⟩
        have s5 := same_put (s := sH7) (o := .tup [.str "one", .str "b"]) nt5
        have h5 := same_put (s := Same.refl _) (o := .tup [.str "two", .str "b"]) nt6 _ _ (upd_same (a := t5) (o := .tup [.str "one", .str "b"]))
        have h7 := same_put (s := Same.refl _) (o := .tup [.ref t5, .ref t6]) nt7
        refine ⟨dead0, dead0, (td.same fun b o z => h7 _ _ (same_put (s := s5) nt6 _ _ z)).dp, .tup (.of upd_same) (.cons (.tup (.of (h7 _ _ h5)) (.cons (.str _) (.cons (.str _) .nil))) (.cons (.tup (.of (h7 _ _ upd_same)) (.cons (.str _) (.cons (.str _) .nil))) .nil)), td_shaped td2 (by decide), td_shaped td2 (by decide), ?_⟩
        rw [lay_td td2]
        exact q0 _
end
end V8
set_option Elab.async false
set_option linter.all false
set_option maxRecDepth 100000
set_option maxHeartbeats 4000000
/-! Where no repr is under way: lambdas, kept or written on the spot, called by the def that gets them. -/
set_option Elab.async false
set_option linter.all false
set_option maxRecDepth 100000
set_option maxHeartbeats 4000000
/-! The end of a law whose promise wants that no repr is under way. -/
namespace LamX
open PySem PySem.Spec PyProof.Rows L2
/-- tables are tracked from the beginning, and so is the script unless it stands in the text -/
def firstH (K : PySem.W.Frag) (ts : List Addr) (a : Addr) (o : Obj) (xs : List V) : Hp := fun b =>
  if b ∈ ts then some (.tbl #[]) else if b = a ∧ K.lookup a = none then some (.frz o (.lst xs)) else none
theorem firstH_tab {K : PySem.W.Frag} {ts : List Addr} {a b : Addr} {o : Obj} {xs : List V} (h : b ∈ ts) : firstH K ts a o xs b = some (.tbl #[]) := by
  unfold firstH
  rw [if_pos h]
theorem firstH_at {K : PySem.W.Frag} {ts : List Addr} {a : Addr} {o : Obj} {xs : List V} (h : a ∉ ts) (n : K.lookup a = none) : firstH K ts a o xs a = some (.frz o (.lst xs)) := by
  unfold firstH
  rw [if_neg h, if_pos ⟨rfl, n⟩]
theorem firstH_of {K : PySem.W.Frag} {ts : List Addr} {a b : Addr} {o : Obj} {xs : List V} {u : HO} (h : firstH K ts a o xs b = some u) : (b ∈ ts ∧ u = .tbl #[]) ∨ (b = a ∧ K.lookup a = none ∧ u = .frz o (.lst xs)) := by
  unfold firstH at h
  by_cases h1 : b ∈ ts
  · rw [if_pos h1] at h
    exact .inl ⟨h1, (Option.some.inj h).symm⟩
  · rw [if_neg h1] at h
    by_cases h2 : b = a ∧ K.lookup a = none
    · rw [if_pos h2] at h
      exact .inr ⟨h2.1, h2.2, (Option.some.inj h).symm⟩
    · rw [if_neg h2] at h
      cases h
theorem law_callG {P : Program} {w : World} {K : PySem.W.Frag} {mg mb : Str → Option Value} {C : CXT} {k : Nat} {fa a : Addr} {cs : List (Addr × Addr)} {fd : FuncData} {x : Str} {sp : Sp} {s : Shared} {vs : List Value} {ns : List Int}
    (kin : K.In s.heap) (glob : s.heap.Ns mainGlobals mg) (bns : s.heap.Ns builtinsNs mb) (boot : ∀ y : Str, y ≠ "__name__" → mb y = bootBuiltins y) (lim : s.heap.NoLimit) (gens : s.gens = #[])
    (tabs : ∀ p ∈ cs, s.heap.get? p.2 = some { cls := .none, data := .fields #[] }) (untold : ∀ p ∈ cs, K.lookup p.2 = none) (codes : ∀ p ∈ cs, PySem.W.CodeHd s.heap p.1 p.2)
    (bmod : ∃ (bm : Addr) (ob : Obj), mg "__builtins__" = some (.ref bm) ∧ bm ≠ builtinsNs ∧ s.heap.get? bm = some ob ∧ ob.cls = .type "module" ∧ ob.dict = some builtinsNs ∧ ob.data = .plain)
    (script : s.heap.get? a = some { cls := .type "list", data := .seq vs.toArray }) (whole : IntsAre vs ns) (short : ns.length ≤ sizeLine) (room : Room k callerA)
    (F : ∀ base : Heap, K.In base → base.Ns mainGlobals mg → (∀ p ∈ cs, TabB base mg p.1 p.2) → FnG P w K mg base C k fa fd [x] sp) (binds : ∀ (s : Shared) (u : Value), BindsTo s fd ⟨[u], []⟩ [(x, u)])
    (holds : ∀ H : Hp, (∀ p ∈ cs, H p.2 = some (.tbl #[])) → SqL K H a (ns.map V.int) → sp [.ref a] H (fun v _ => v = .bl true) fun _ _ _ => False)
    (noerr : ∀ H e s', C [] H s (fun _ _ _ => False) e s' → False) :
    codeAny (model P w) callerA (.call (.ref fa) ⟨[.ref a], []⟩) (fun r s' => r = .ok (.ret (.bool true)) ∧ OldK s.heap s'.heap ∧ s'.os = s.os ∧ AllBare s'.gens) s := by
  have rel := vals_ints whole
  have many := whole.length
  generalize hts : cs.map (·.2) = ts
  have inT : ∀ p ∈ cs, p.2 ∈ ts := fun p hp => by
    rw [← hts]
    exact List.mem_map.mpr ⟨p, hp, rfl⟩
  have ofT : ∀ b ∈ ts, ∃ p ∈ cs, p.2 = b := fun b hb => by
    rw [← hts] at hb
    exact List.mem_map.mp hb
  have emp : ∀ b ∈ ts, s.heap.get? b = some { cls := .none, data := .fields #[] } := fun b hb => by
    obtain ⟨p, hp, rfl⟩ := ofT b hb
    exact tabs p hp
  have aT : a ∉ ts := fun z => by
    have e := emp a z
    rw [script] at e
    have e2 := congrArg Obj.data (Option.some.inj e)
    cases e2
  generalize hH : firstH K ts a { cls := .type "list", data := .seq vs.toArray } (ns.map V.int) = H
  have of : ∀ {b u}, H b = some u → (b ∈ ts ∧ u = .tbl #[]) ∨ (b = a ∧ K.lookup a = none ∧ u = .frz { cls := .type "list", data := .seq vs.toArray } (.lst (ns.map V.int))) := fun {b u} z => by
    rw [← hH] at z
    exact firstH_of z
  have atT : ∀ b ∈ ts, H b = some (.tbl #[]) := fun b hb => by
    rw [← hH]
    exact firstH_tab hb
  -- what is neither a list nor an empty table is not tracked
  have off : ∀ {b : Addr} {o : Obj}, s.heap.get? b = some o → (∀ us n, o.data ≠ .seq us n) → o.data ≠ .fields #[] → H b = none := fun {b o} e n1 n2 => by
    cases z : H b with
    | none => rfl
    | some u =>
      rcases of z with ⟨m, _⟩ | ⟨m, _, _⟩
      · rw [emp b m] at e
        cases e
        exact absurd rfl n2
      · rw [m, script] at e
        cases e
        exact absurd rfl (n1 _ _)
  have dict : ∀ {b : Addr} {o : Obj} {es : Array DictEntry} {n : Nat}, s.heap.get? b = some o → o.data = .dict es n → H b = none := fun {b o es n} e d =>
    off e (fun us m z => by rw [d] at z; cases z) fun z => by rw [d] at z; cases z
  have stays : ∀ {b : Addr} {m : Str → Option Value}, s.heap.Ns b m → (hidT s.heap H).Ns b m := fun {b m} z => by
    obtain ⟨o, es, ep, e, d, r⟩ := z
    exact ⟨o, es, ep, hidT_get e (dict e d), d, r⟩
  have kin2 : K.In (hidT s.heap H) := fun b o e => by
    refine hidT_get (kin b o e) ?_
    cases z : H b with
    | none => rfl
    | some u =>
      rcases of z with ⟨m, _⟩ | ⟨m, n, _⟩
      · obtain ⟨p, hp, rfl⟩ := ofT b m
        rw [untold p hp] at e
        cases e
      · rw [m, n] at e
        cases e
  have glob2 := stays glob
  have mod : L2.Mod K mg (hidT s.heap H) := by
    refine ⟨kin2, glob2, ⟨mb, stays bns, boot⟩, ?_⟩
    obtain ⟨mc, l1, l2⟩ := lim
    exact ⟨mc, stays l1, l2⟩
  have tb : ∀ p ∈ cs, TabB (hidT s.heap H) mg p.1 p.2 := fun p hp => by
    have eT := tabs p hp
    refine ⟨?_, ?_, fun z => ?_⟩
    · obtain ⟨o, us, file, tf, flags, tg, inF, text, tt, e1, r1, r2, r3, r⟩ := codes p hp
      refine ⟨o, us, file, tf, flags, tg, inF, text, tt, hidT_get e1 (off e1 (fun ws n z => ?_) fun z => ?_), r1, r2, r3, r⟩
      · rw [r2] at z
        cases z
      · rw [r2] at z
        have z2 : us = #[] := by cases z; rfl
        rw [z2] at r3
        simp at r3
    · obtain ⟨bm, ob, b1, b2, b3, b4, b5, b6⟩ := bmod
      refine ⟨bm, ob, b1, b2, fun z => ?_, fun z => ?_, hidT_get b3 (off b3 (fun ws n z => ?_) fun z => ?_), b4, b5, b6⟩
      · obtain ⟨o, es, ep, e, hd, _⟩ := glob
        rw [z, e] at b3
        cases b3
        rw [hd] at b6
        cases b6
      · rw [z, eT] at b3
        cases b3
        cases b6
      · rw [b6] at z
        cases z
      · rw [b6] at z
        cases z
    · obtain ⟨o, es, ep, e, hd, _⟩ := glob
      rw [z, eT] at e
      cases e
      cases hd
  have held : HOk P w H s.heap := fun b u z => by
    rcases of z with ⟨m, rfl⟩ | ⟨rfl, n, rfl⟩
    · exact emp b m
    · refine ⟨script, ?_, vs, 0, rel, script⟩
      rw [List.length_map]
      exact short
  have seq : SqL K H a (ns.map V.int) := by
    cases hk : K.lookup a with
    | none =>
      refine .inl (.inr ⟨{ cls := .type "list", data := .seq vs.toArray }, ?_⟩)
      rw [← hH]
      exact firstH_at aT hk
    | some o =>
      have e := kin a o hk
      rw [script] at e
      cases e
      refine .inr ⟨_, vs.toArray, _, hk, rfl, rfl, rfl, ?_, by simpa using rel⟩
      rw [List.size_toArray, many]
      exact short
  have start : Env0 P w K mg (hidT s.heap H) callerA [] s H := by
    refine ⟨rfl, mod, fun b o e => of_hidT e, Nat.le_of_eq (hidT_size _ _), trivial, fun b z => ?_, held, .of_eq gens⟩
    exact absurd z (List.not_mem_nil)
  have ran := (F _ kin2 glob2 tb).runs callerA [] s H ⟨[.ref a], []⟩ [.ref a] [.ref a] _ _ rfl room start (binds s (.ref a)) (.cons rfl .nil) (holds H (fun p hp => atT _ (inT p hp)) seq)
  refine codeAny_mono ran fun r s2 h => ?_
  match r, h with
  | .error e, h => exact (noerr H e s2 h).elim
  | .ok .next, h => exact h.elim
  | .ok .brk, h => exact h.elim
  | .ok .cont, h => exact h.elim
  | .ok (.ret u), h =>
    obtain ⟨v, H2, os, bare, un, ok2, rv, rfl⟩ := h
    obtain rfl : u = Value.bool true := rv
    have same : ∀ b o, b ∉ ts → s.heap.get? b = some o → s2.heap.get? b = some o := fun b o nb e => by
      cases z : H b with
      | none => exact un.keep b o e z (List.not_mem_nil) (List.not_mem_nil)
      | some u =>
        rcases of z with ⟨m, _⟩ | ⟨rfl, n, rfl⟩
        · exact absurd m nb
        · obtain ⟨e2, _⟩ := ok2 b _ (un.frzs b _ _ z)
          rw [script] at e
          cases e
          exact e2
    have more : ∀ b ∈ ts, ∃ us : Array Value, s2.heap.get? b = some { cls := .none, data := .fields us } := fun b hb => by
      obtain ⟨us, z⟩ := un.tbls b #[] (atT b hb)
      exact ⟨_, ok2 b _ z⟩
    refine ⟨rfl, ⟨fun b o e => ?_, fun b o e => ?_⟩, os, bare⟩
    · by_cases hb : b ∈ ts
      · obtain ⟨us, hu⟩ := more b hb
        obtain ⟨p, hp, rfl⟩ := ofT b hb
        have eT := tabs p hp
        rw [eT] at e
        cases e
        refine .inr (.inl ⟨((codes p hp).tab eT).isCodeTable, rfl, #[], us, rfl, ?_⟩)
        rw [Array.empty_append]
        exact hu
      · exact .inl (same b o hb e)
    · by_cases hb : b ∈ ts
      · obtain ⟨us, hu⟩ := more b hb
        exact ⟨_, hu⟩
      · exact ⟨o, same b o hb e⟩
end LamX
set_option Elab.async false
set_option linter.all false
set_option maxRecDepth 100000
set_option maxHeartbeats 16000000
/-! What the top has left, taken together. -/
namespace V8
open PySem PySem.Spec PyProof.Rows L2 MZ
def spLaw0 (K : PySem.W.Frag) : Sp := fun vs H Q _ => ∃ (a : Addr) (ns : List Int), vs = [.ref a] ∧ SqL K H a (ns.map V.int) ∧ ns.length ≤ 63 ∧ ∀ H', Q (.bl true) H'
theorem sq_known {K : PySem.W.Frag} {a : Addr} {od : Option Addr} {x y : Str} {t u : Tok} {n : Nat} {sl : Array (Option Value)} (h : K.lookup a = some ⟨.type "tuple", od, .seq #[.str x t, .str y u] n, sl⟩) (H : Hp) : SqT K H a [.str x, .str y] :=
  .inr ⟨_, _, _, h, rfl, rfl, by show 2 ≤ sizeLine; decide, .cons ⟨t, rfl⟩ (.cons ⟨u, rfl⟩ .nil)⟩
theorem fnG_imp {P : Program} {w : World} {K : PySem.W.Frag} {mg : Str → Option Value} {base : Heap} {C : CXT} {k : Nat} {f : Addr} {fd : FuncData} {ps : List Str} {sp sp2 : Sp} (F : FnG P w K mg base C k f fd ps sp) (i : ∀ vs H Q E, sp2 vs H Q E → sp vs H Q E) : FnG P w K mg base C k f fd ps sp2 :=
  ⟨fun xs H Q E h => F.count xs H Q E (i _ _ _ _ h), fun A outer s H args us xs Q E g r e b v h => F.runs A outer s H args us xs Q E g r e b v (i _ _ _ _ h)⟩
theorem all_mk {P : Program} {w : World} {K : PySem.W.Frag} {h : Heap} {mg : Str → Option Value} {fa CM CJ CG CO CR f0 f1 f2 f3 f4 f5 f6 f7 f8 f9 f10 f11 f12 f13 f14 f15 f16 f17 f18 f19 f20 f21 f22 f23 f24 f25 f26 f27 f28 f29 f30 f31 f32 f33 f34 f35 f36 f37 f38 f39 f40 f41 f42 f43 f44 f45 f46 f47 f48 f49 f50 f51 f52 f53 f54 f55 f56 f57 f58 TI pS tS tE tW tD0 : Addr} {od0 od1 od2 od3 od4 od5 od6 od7 od8 od9 od10 od11 od12 od13 od14 od15 od16 od17 od18 od19 od20 od21 od22 od23 od24 od25 od26 od27 od28 od29 od30 od31 od32 od33 od34 od35 od36 od37 od38 od39 od40 od41 od42 od43 od44 od45 od46 od47 od48 od49 od50 od51 od52 od53 od54 od55 od56 od57 od58 odT odS odE odW odD : Option Addr} {an0 an1 an2 an3 an4 an5 an6 an7 an8 an9 an10 an11 an12 an13 an14 an15 an16 an17 an18 an19 an20 an21 an22 an23 an24 an25 an26 an27 an28 an29 an30 an31 an32 an33 an34 an35 an36 an37 an38 an39 an40 an41 an42 an43 an44 an45 an46 an47 an48 an49 an50 an51 an52 an53 an54 an55 an56 an57 an58 : Option Addr} {sl0 sl1 sl2 sl3 sl4 sl5 sl6 sl7 sl8 sl9 sl10 sl11 sl12 sl13 sl14 sl15 sl16 sl17 sl18 sl19 sl20 sl21 sl22 sl23 sl24 sl25 sl26 sl27 sl28 sl29 sl30 sl31 sl32 sl33 sl34 sl35 sl36 sl37 sl38 sl39 sl40 sl41 sl42 sl43 sl44 sl45 sl46 sl47 sl48 sl49 sl50 sl51 sl52 sl53 sl54 sl55 sl56 sl57 sl58 slT slS slE slW slD : Array (Option Value)} {oc0 kV0 dc0 pm0 cd0 ct0 oc1 kV1 dc1 pm1 cd1 ct1 oc2 kV2 dc2 pm2 cd2 ct2 oc3 kV3 dc3 pm3 cd3 ct3 oc4 kV4 dc4 pm4 cd4 ct4 oc5 kV5 dc5 pm5 cd5 ct5 oc6 kV6 dc6 pm6 cd6 ct6 oc7 kV7 dc7 pm7 cd7 ct7 oc8 kV8 dc8 pm8 cd8 ct8 oc9 kV9 dc9 pm9 cd9 ct9 oc10 kV10 dc10 pm10 cd10 ct10 oc11 kV11 dc11 pm11 cd11 ct11 oc12 kV12 dc12 pm12 cd12 ct12 oc13 kV13 dc13 pm13 cd13 ct13 oc14 kV14 dc14 pm14 cd14 ct14 oc15 kV15 dc15 pm15 cd15 ct15 oc16 kV16 dc16 pm16 cd16 ct16 oc17 kV17 dc17 pm17 cd17 ct17 oc18 kV18 dc18 pm18 cd18 ct18 oc19 kV19 dc19 pm19 cd19 ct19 oc20 kV20 dc20 pm20 cd20 ct20 oc21 kV21 dc21 pm21 cd21 ct21 oc22 kV22 dc22 pm22 cd22 ct22 oc23 kV23 dc23 pm23 cd23 ct23 oc24 kV24 dc24 pm24 cd24 ct24 oc25 kV25 dc25 pm25 cd25 ct25 oc26 kV26 dc26 pm26 cd26 ct26 oc27 kV27 dc27 pm27 cd27 ct27 oc28 kV28 dc28 pm28 cd28 ct28 oc29 kV29 dc29 pm29 cd29 ct29 oc30 kV30 dc30 pm30 cd30 ct30 oc31 kV31 dc31 pm31 cd31 ct31 oc32 kV32 dc32 pm32 cd32 ct32 oc33 kV33 dc33 pm33 cd33 ct33 oc34 kV34 dc34 pm34 cd34 ct34 oc35 kV35 dc35 pm35 cd35 ct35 oc36 kV36 dc36 pm36 cd36 ct36 oc37 kV37 dc37 pm37 cd37 ct37 oc38 kV38 dc38 pm38 cd38 ct38 oc39 kV39 dc39 pm39 cd39 ct39 oc40 kV40 dc40 pm40 cd40 ct40 oc41 kV41 dc41 pm41 cd41 ct41 oc42 kV42 dc42 pm42 cd42 ct42 oc43 kV43 dc43 pm43 cd43 ct43 oc44 kV44 dc44 pm44 cd44 ct44 oc45 kV45 dc45 pm45 cd45 ct45 oc46 kV46 dc46 pm46 cd46 ct46 oc47 kV47 dc47 pm47 cd47 ct47 oc48 kV48 dc48 pm48 cd48 ct48 oc49 kV49 dc49 pm49 cd49 ct49 oc50 kV50 dc50 pm50 cd50 ct50 oc51 kV51 dc51 pm51 cd51 ct51 oc52 kV52 dc52 pm52 cd52 ct52 oc53 kV53 dc53 pm53 cd53 ct53 oc54 kV54 dc54 pm54 cd54 ct54 oc55 kV55 dc55 pm55 cd55 ct55 oc56 kV56 dc56 pm56 cd56 ct56 oc57 kV57 dc57 pm57 cd57 ct57 oc58 kV58 dc58 pm58 cd58 ct58 ocT : Value} {restS : List Value} {nT nS nE nW nD : Nat} {tkT tk1 tk2 tk3 tk4 tk5 tk6 taS tbS taE tbE taW tbW taD tbD : Tok} {poI roI : Option Value} (X : K.In h) (G : h.Ns mainGlobals mg) (hfa : mg "law" = some (.ref fa))
    (aC : PySem.W.nsIn K mainGlobals "Misreading" = some (some (.ref CM)))
    (aJ : PySem.W.nsIn K mainGlobals "Joined" = some (some (.ref CJ)))
    (aG : PySem.W.nsIn K mainGlobals "Meetings" = some (some (.ref CG)))
    (aO : PySem.W.nsIn K mainGlobals "OneToOne" = some (some (.ref CO)))
    (aR : PySem.W.nsIn K mainGlobals "Merged" = some (some (.ref CR)))
    (uS : PySem.W.nsIn K mainGlobals "START" = some (some (.ref tS)))
    (vS : K.lookup tS = some ⟨.type "tuple", odS, .seq #[.str "start" taS, .str "" tbS] nS, slS⟩)
    (uE : PySem.W.nsIn K mainGlobals "END" = some (some (.ref tE)))
    (vE : K.lookup tE = some ⟨.type "tuple", odE, .seq #[.str "end" taE, .str "" tbE] nE, slE⟩)
    (uW : PySem.W.nsIn K mainGlobals "EVEN" = some (some (.ref tW)))
    (vW : K.lookup tW = some ⟨.type "tuple", odW, .seq #[.str "one" taW, .str "" tbW] nW, slW⟩)
    (uD : PySem.W.nsIn K mainGlobals "SIDES" = some (some (.ref tD0)))
    (vD : K.lookup tD0 = some ⟨.type "tuple", odD, .seq #[.str "one" taD, .str "two" tbD] nD, slD⟩)
    (a0 : PySem.W.nsIn K mainGlobals "copied" = some (some (.ref f0)))
    (l0 : K.lookup f0 = some ⟨oc0, od0, .func (PySem.W.fnOf "copied" "copied" (defArgs s_copied) (defBody s_copied) (defScope s_copied) .none kV0 dc0 pm0 an0 cd0 ct0), sl0⟩) (c0 : PySem.W.codeIn K cd0 "copied" = true) (k0 : PySem.W.keepIn K (.ref f0) = true)
    (a1 : PySem.W.nsIn K mainGlobals "equal" = some (some (.ref f1)))
    (l1 : K.lookup f1 = some ⟨oc1, od1, .func (PySem.W.fnOf "equal" "equal" (defArgs s_equal) (defBody s_equal) (defScope s_equal) .none kV1 dc1 pm1 an1 cd1 ct1), sl1⟩) (c1 : PySem.W.codeIn K cd1 "equal" = true) (k1 : PySem.W.keepIn K (.ref f1) = true)
    (a2 : PySem.W.nsIn K mainGlobals "equal_rows" = some (some (.ref f2)))
    (l2 : K.lookup f2 = some ⟨oc2, od2, .func (PySem.W.fnOf "equal_rows" "equal_rows" (defArgs s_equal_rows) (defBody s_equal_rows) (defScope s_equal_rows) .none kV2 dc2 pm2 an2 cd2 ct2), sl2⟩) (c2 : PySem.W.codeIn K cd2 "equal_rows" = true) (k2 : PySem.W.keepIn K (.ref f2) = true)
    (a3 : PySem.W.nsIn K mainGlobals "is_letter" = some (some (.ref f3)))
    (l3 : K.lookup f3 = some ⟨oc3, od3, .func (PySem.W.fnOf "is_letter" "is_letter" (defArgs s_is_letter) (defBody s_is_letter) (defScope s_is_letter) .none kV3 dc3 pm3 an3 cd3 ct3), sl3⟩) (c3 : PySem.W.codeIn K cd3 "is_letter" = true) (k3 : PySem.W.keepIn K (.ref f3) = true)
    (a4 : PySem.W.nsIn K mainGlobals "all_letters" = some (some (.ref f4)))
    (l4 : K.lookup f4 = some ⟨oc4, od4, .func (PySem.W.fnOf "all_letters" "all_letters" (defArgs s_all_letters) (defBody s_all_letters) (defScope s_all_letters) .none kV4 dc4 pm4 an4 cd4 ct4), sl4⟩) (c4 : PySem.W.codeIn K cd4 "all_letters" = true) (k4 : PySem.W.keepIn K (.ref f4) = true)
    (a5 : PySem.W.nsIn K mainGlobals "is_text" = some (some (.ref f5)))
    (l5 : K.lookup f5 = some ⟨oc5, od5, .func (PySem.W.fnOf "is_text" "is_text" (defArgs s_is_text) (defBody s_is_text) (defScope s_is_text) .none kV5 dc5 pm5 an5 cd5 ct5), sl5⟩) (c5 : PySem.W.codeIn K cd5 "is_text" = true) (k5 : PySem.W.keepIn K (.ref f5) = true)
    (a6 : PySem.W.nsIn K mainGlobals "is_image" = some (some (.ref f6)))
    (l6 : K.lookup f6 = some ⟨oc6, od6, .func (PySem.W.fnOf "is_image" "is_image" (defArgs s_is_image) (defBody s_is_image) (defScope s_is_image) .none kV6 dc6 pm6 an6 cd6 ct6), sl6⟩) (c6 : PySem.W.codeIn K cd6 "is_image" = true) (k6 : PySem.W.keepIn K (.ref f6) = true)
    (a7 : PySem.W.nsIn K mainGlobals "told_images" = some (some (.ref f7)))
    (l7 : K.lookup f7 = some ⟨oc7, od7, .func (PySem.W.fnOf "told_images" "told_images" (defArgs s_told_images) (defBody s_told_images) (defScope s_told_images) .none kV7 dc7 pm7 an7 cd7 ct7), sl7⟩) (c7 : PySem.W.codeIn K cd7 "told_images" = true) (k7 : PySem.W.keepIn K (.ref f7) = true)
    (a8 : PySem.W.nsIn K mainGlobals "check_other" = some (some (.ref f8)))
    (l8 : K.lookup f8 = some ⟨oc8, od8, .func (PySem.W.fnOf "check_other" "check_other" (defArgs s_check_other) (defBody s_check_other) (defScope s_check_other) .none kV8 dc8 pm8 an8 cd8 ct8), sl8⟩) (c8 : PySem.W.codeIn K cd8 "check_other" = true) (k8 : PySem.W.keepIn K (.ref f8) = true)
    (a9 : PySem.W.nsIn K mainGlobals "is_told" = some (some (.ref f9)))
    (l9 : K.lookup f9 = some ⟨oc9, od9, .func (PySem.W.fnOf "is_told" "is_told" (defArgs s_is_told) (defBody s_is_told) (defScope s_is_told) .none kV9 dc9 pm9 an9 cd9 ct9), sl9⟩) (c9 : PySem.W.codeIn K cd9 "is_told" = true) (k9 : PySem.W.keepIn K (.ref f9) = true)
    (a10 : PySem.W.nsIn K mainGlobals "other_side" = some (some (.ref f10)))
    (l10 : K.lookup f10 = some ⟨oc10, od10, .func (PySem.W.fnOf "other_side" "other_side" (defArgs s_other_side) (defBody s_other_side) (defScope s_other_side) .none kV10 dc10 pm10 an10 cd10 ct10), sl10⟩) (c10 : PySem.W.codeIn K cd10 "other_side" = true) (k10 : PySem.W.keepIn K (.ref f10) = true)
    (a11 : PySem.W.nsIn K mainGlobals "place_behind" = some (some (.ref f11)))
    (l11 : K.lookup f11 = some ⟨oc11, od11, .func (PySem.W.fnOf "place_behind" "place_behind" (defArgs s_place_behind) (defBody s_place_behind) (defScope s_place_behind) .none kV11 dc11 pm11 an11 cd11 ct11), sl11⟩) (c11 : PySem.W.codeIn K cd11 "place_behind" = true) (k11 : PySem.W.keepIn K (.ref f11) = true)
    (a12 : PySem.W.nsIn K mainGlobals "moves_from" = some (some (.ref f12)))
    (l12 : K.lookup f12 = some ⟨oc12, od12, .func (PySem.W.fnOf "moves_from" "moves_from" (defArgs s_moves_from) (defBody s_moves_from) (defScope s_moves_from) .none kV12 dc12 pm12 an12 cd12 ct12), sl12⟩) (c12 : PySem.W.codeIn K cd12 "moves_from" = true) (k12 : PySem.W.keepIn K (.ref f12) = true)
    (a13 : PySem.W.nsIn K mainGlobals "with_label" = some (some (.ref f13)))
    (l13 : K.lookup f13 = some ⟨oc13, od13, .func (PySem.W.fnOf "with_label" "with_label" (defArgs s_with_label) (defBody s_with_label) (defScope s_with_label) .none kV13 dc13 pm13 an13 cd13 ct13), sl13⟩) (c13 : PySem.W.codeIn K cd13 "with_label" = true) (k13 : PySem.W.keepIn K (.ref f13) = true)
    (a14 : PySem.W.nsIn K mainGlobals "lead_of" = some (some (.ref f14)))
    (l14 : K.lookup f14 = some ⟨oc14, od14, .func (PySem.W.fnOf "lead_of" "lead_of" (defArgs s_lead_of) (defBody s_lead_of) (defScope s_lead_of) .none kV14 dc14 pm14 an14 cd14 ct14), sl14⟩) (c14 : PySem.W.codeIn K cd14 "lead_of" = true) (k14 : PySem.W.keepIn K (.ref f14) = true)
    (a15 : PySem.W.nsIn K mainGlobals "all_moves" = some (some (.ref f15)))
    (l15 : K.lookup f15 = some ⟨oc15, od15, .func (PySem.W.fnOf "all_moves" "all_moves" (defArgs s_all_moves) (defBody s_all_moves) (defScope s_all_moves) .none kV15 dc15 pm15 an15 cd15 ct15), sl15⟩) (c15 : PySem.W.codeIn K cd15 "all_moves" = true) (k15 : PySem.W.keepIn K (.ref f15) = true)
    (a16 : PySem.W.nsIn K mainGlobals "all_living" = some (some (.ref f16)))
    (l16 : K.lookup f16 = some ⟨oc16, od16, .func (PySem.W.fnOf "all_living" "all_living" (defArgs s_all_living) (defBody s_all_living) (defScope s_all_living) .none kV16 dc16 pm16 an16 cd16 ct16), sl16⟩) (c16 : PySem.W.codeIn K cd16 "all_living" = true) (k16 : PySem.W.keepIn K (.ref f16) = true)
    (a17 : PySem.W.nsIn K mainGlobals "ways_from" = some (some (.ref f17)))
    (l17 : K.lookup f17 = some ⟨oc17, od17, .func (PySem.W.fnOf "ways_from" "ways_from" (defArgs s_ways_from) (defBody s_ways_from) (defScope s_ways_from) .none kV17 dc17 pm17 an17 cd17 ct17), sl17⟩) (c17 : PySem.W.codeIn K cd17 "ways_from" = true) (k17 : PySem.W.keepIn K (.ref f17) = true)
    (a18 : PySem.W.nsIn K mainGlobals "ended" = some (some (.ref f18)))
    (l18 : K.lookup f18 = some ⟨oc18, od18, .func (PySem.W.fnOf "ended" "ended" (defArgs s_ended) (defBody s_ended) (defScope s_ended) .none kV18 dc18 pm18 an18 cd18 ct18), sl18⟩) (c18 : PySem.W.codeIn K cd18 "ended" = true) (k18 : PySem.W.keepIn K (.ref f18) = true)
    (a19 : PySem.W.nsIn K mainGlobals "unlike_meeting" = some (some (.ref f19)))
    (l19 : K.lookup f19 = some ⟨oc19, od19, .func (PySem.W.fnOf "unlike_meeting" "unlike_meeting" (defArgs s_unlike_meeting) (defBody s_unlike_meeting) (defScope s_unlike_meeting) .none kV19 dc19 pm19 an19 cd19 ct19), sl19⟩) (c19 : PySem.W.codeIn K cd19 "unlike_meeting" = true) (k19 : PySem.W.keepIn K (.ref f19) = true)
    (a20 : PySem.W.nsIn K mainGlobals "rests_of" = some (some (.ref f20)))
    (l20 : K.lookup f20 = some ⟨oc20, od20, .func (PySem.W.fnOf "rests_of" "rests_of" (defArgs s_rests_of) (defBody s_rests_of) (defScope s_rests_of) .none kV20 dc20 pm20 an20 cd20 ct20), sl20⟩) (c20 : PySem.W.codeIn K cd20 "rests_of" = true) (k20 : PySem.W.keepIn K (.ref f20) = true)
    (a21 : PySem.W.nsIn K mainGlobals "leads_of" = some (some (.ref f21)))
    (l21 : K.lookup f21 = some ⟨oc21, od21, .func (PySem.W.fnOf "leads_of" "leads_of" (defArgs s_leads_of) (defBody s_leads_of) (defScope s_leads_of) .none kV21 dc21 pm21 an21 cd21 ct21), sl21⟩) (c21 : PySem.W.codeIn K cd21 "leads_of" = true) (k21 : PySem.W.keepIn K (.ref f21) = true)
    (a22 : PySem.W.nsIn K mainGlobals "check_misreading" = some (some (.ref f22)))
    (l22 : K.lookup f22 = some ⟨oc22, od22, .func (PySem.W.fnOf "check_misreading" "check_misreading" (defArgs s_check_misreading) (defBody s_check_misreading) (defScope s_check_misreading) .none kV22 dc22 pm22 an22 cd22 ct22), sl22⟩) (c22 : PySem.W.codeIn K cd22 "check_misreading" = true) (k22 : PySem.W.keepIn K (.ref f22) = true)
    (a23 : PySem.W.nsIn K mainGlobals "check_length" = some (some (.ref f23)))
    (l23 : K.lookup f23 = some ⟨oc23, od23, .func (PySem.W.fnOf "check_length" "check_length" (defArgs s_check_length) (defBody s_check_length) (defScope s_check_length) .none kV23 dc23 pm23 an23 cd23 ct23), sl23⟩) (c23 : PySem.W.codeIn K cd23 "check_length" = true) (k23 : PySem.W.keepIn K (.ref f23) = true)
    (a24 : PySem.W.nsIn K mainGlobals "check_images" = some (some (.ref f24)))
    (l24 : K.lookup f24 = some ⟨oc24, od24, .func (PySem.W.fnOf "check_images" "check_images" (defArgs s_check_images) (defBody s_check_images) (defScope s_check_images) .none kV24 dc24 pm24 an24 cd24 ct24), sl24⟩) (c24 : PySem.W.codeIn K cd24 "check_images" = true) (k24 : PySem.W.keepIn K (.ref f24) = true)
    (a25 : PySem.W.nsIn K mainGlobals "image_pairs" = some (some (.ref f25)))
    (l25 : K.lookup f25 = some ⟨oc25, od25, .func (PySem.W.fnOf "image_pairs" "image_pairs" (defArgs s_image_pairs) (defBody s_image_pairs) (defScope s_image_pairs) .none kV25 dc25 pm25 an25 cd25 ct25), sl25⟩) (c25 : PySem.W.codeIn K cd25 "image_pairs" = true) (k25 : PySem.W.keepIn K (.ref f25) = true)
    (a26 : PySem.W.nsIn K mainGlobals "merging" = some (some (.ref f26)))
    (l26 : K.lookup f26 = some ⟨oc26, od26, .func (PySem.W.fnOf "merging" "merging" (defArgs s_merging) (defBody s_merging) (defScope s_merging) .none kV26 dc26 pm26 an26 cd26 ct26), sl26⟩) (c26 : PySem.W.codeIn K cd26 "merging" = true) (k26 : PySem.W.keepIn K (.ref f26) = true)
    (a27 : PySem.W.nsIn K mainGlobals "_law_pen" = some (some (.ref f27)))
    (l27 : K.lookup f27 = some ⟨oc27, od27, .func (PySem.W.fnOf "_law_pen" "_law_pen" (defArgs s_pen) (defBody s_pen) (defScope s_pen) .none kV27 dc27 pm27 an27 cd27 ct27), sl27⟩) (c27 : PySem.W.codeIn K cd27 "_law_pen" = true) (k27 : PySem.W.keepIn K (.ref f27) = true)
    (a28 : PySem.W.nsIn K mainGlobals "_law_draw" = some (some (.ref f28)))
    (l28 : K.lookup f28 = some ⟨oc28, od28, .func (PySem.W.fnOf "_law_draw" "_law_draw" (defArgs s_draw) (defBody s_draw) (defScope s_draw) .none kV28 dc28 pm28 an28 cd28 ct28), sl28⟩) (c28 : PySem.W.codeIn K cd28 "_law_draw" = true) (k28 : PySem.W.keepIn K (.ref f28) = true)
    (a29 : PySem.W.nsIn K mainGlobals "_law_pick" = some (some (.ref f29)))
    (l29 : K.lookup f29 = some ⟨oc29, od29, .func (PySem.W.fnOf "_law_pick" "_law_pick" (defArgs s_pick) (defBody s_pick) (defScope s_pick) .none kV29 dc29 pm29 an29 cd29 ct29), sl29⟩) (c29 : PySem.W.codeIn K cd29 "_law_pick" = true) (k29 : PySem.W.keepIn K (.ref f29) = true)
    (a30 : PySem.W.nsIn K mainGlobals "_law_some_letters" = some (some (.ref f30)))
    (l30 : K.lookup f30 = some ⟨oc30, od30, .func (PySem.W.fnOf "_law_some_letters" "_law_some_letters" (defArgs s_some_letters) (defBody s_some_letters) (defScope s_some_letters) .none kV30 dc30 pm30 an30 cd30 ct30), sl30⟩) (c30 : PySem.W.codeIn K cd30 "_law_some_letters" = true) (k30 : PySem.W.keepIn K (.ref f30) = true)
    (a31 : PySem.W.nsIn K mainGlobals "_law_escaped" = some (some (.ref f31)))
    (l31 : K.lookup f31 = some ⟨oc31, od31, .func (PySem.W.fnOf "_law_escaped" "_law_escaped" (defArgs s_escaped) (defBody s_escaped) (defScope s_escaped) .none kV31 dc31 pm31 an31 cd31 ct31), sl31⟩) (c31 : PySem.W.codeIn K cd31 "_law_escaped" = true) (k31 : PySem.W.keepIn K (.ref f31) = true)
    (a32 : PySem.W.nsIn K mainGlobals "_law_any_image" = some (some (.ref f32)))
    (l32 : K.lookup f32 = some ⟨oc32, od32, .func (PySem.W.fnOf "_law_any_image" "_law_any_image" (defArgs s_any_image) (defBody s_any_image) (defScope s_any_image) .none kV32 dc32 pm32 an32 cd32 ct32), sl32⟩) (c32 : PySem.W.codeIn K cd32 "_law_any_image" = true) (k32 : PySem.W.keepIn K (.ref f32) = true)
    (a33 : PySem.W.nsIn K mainGlobals "_law_table" = some (some (.ref f33)))
    (l33 : K.lookup f33 = some ⟨oc33, od33, .func (PySem.W.fnOf "_law_table" "_law_table" (defArgs s_table) (defBody s_table) (defScope s_table) .none kV33 dc33 pm33 an33 cd33 ct33), sl33⟩) (c33 : PySem.W.codeIn K cd33 "_law_table" = true) (k33 : PySem.W.keepIn K (.ref f33) = true)
    (a34 : PySem.W.nsIn K mainGlobals "_law_ordered" = some (some (.ref f34)))
    (l34 : K.lookup f34 = some ⟨oc34, od34, .func (PySem.W.fnOf "_law_ordered" "_law_ordered" (defArgs s__law_ordered) (defBody s__law_ordered) (defScope s__law_ordered) .none kV34 dc34 pm34 an34 cd34 ct34), sl34⟩) (c34 : PySem.W.codeIn K cd34 "_law_ordered" = true) (k34 : PySem.W.keepIn K (.ref f34) = true)
    (a35 : PySem.W.nsIn K mainGlobals "_law_steps" = some (some (.ref f35)))
    (l35 : K.lookup f35 = some ⟨oc35, od35, .func (PySem.W.fnOf "_law_steps" "_law_steps" (defArgs s__law_steps) (defBody s__law_steps) (defScope s__law_steps) .none kV35 dc35 pm35 an35 cd35 ct35), sl35⟩) (c35 : PySem.W.codeIn K cd35 "_law_steps" = true) (k35 : PySem.W.keepIn K (.ref f35) = true)
    (a36 : PySem.W.nsIn K mainGlobals "_law_web" = some (some (.ref f36)))
    (l36 : K.lookup f36 = some ⟨oc36, od36, .func (PySem.W.fnOf "_law_web" "_law_web" (defArgs s__law_web) (defBody s__law_web) (defScope s__law_web) .none kV36 dc36 pm36 an36 cd36 ct36), sl36⟩) (c36 : PySem.W.codeIn K cd36 "_law_web" = true) (k36 : PySem.W.keepIn K (.ref f36) = true)
    (a37 : PySem.W.nsIn K mainGlobals "_law_alive" = some (some (.ref f37)))
    (l37 : K.lookup f37 = some ⟨oc37, od37, .func (PySem.W.fnOf "_law_alive" "_law_alive" (defArgs s__law_alive) (defBody s__law_alive) (defScope s__law_alive) .none kV37 dc37 pm37 an37 cd37 ct37), sl37⟩) (c37 : PySem.W.codeIn K cd37 "_law_alive" = true) (k37 : PySem.W.keepIn K (.ref f37) = true)
    (a38 : PySem.W.nsIn K mainGlobals "_law_lead" = some (some (.ref f38)))
    (l38 : K.lookup f38 = some ⟨oc38, od38, .func (PySem.W.fnOf "_law_lead" "_law_lead" (defArgs s__law_lead) (defBody s__law_lead) (defScope s__law_lead) .none kV38 dc38 pm38 an38 cd38 ct38), sl38⟩) (c38 : PySem.W.codeIn K cd38 "_law_lead" = true) (k38 : PySem.W.keepIn K (.ref f38) = true)
    (a39 : PySem.W.nsIn K mainGlobals "_law_taken" = some (some (.ref f39)))
    (l39 : K.lookup f39 = some ⟨oc39, od39, .func (PySem.W.fnOf "_law_taken" "_law_taken" (defArgs s__law_taken) (defBody s__law_taken) (defScope s__law_taken) .none kV39 dc39 pm39 an39 cd39 ct39), sl39⟩) (c39 : PySem.W.codeIn K cd39 "_law_taken" = true) (k39 : PySem.W.keepIn K (.ref f39) = true)
    (a40 : PySem.W.nsIn K mainGlobals "_law_leads" = some (some (.ref f40)))
    (l40 : K.lookup f40 = some ⟨oc40, od40, .func (PySem.W.fnOf "_law_leads" "_law_leads" (defArgs s__law_leads) (defBody s__law_leads) (defScope s__law_leads) .none kV40 dc40 pm40 an40 cd40 ct40), sl40⟩) (c40 : PySem.W.codeIn K cd40 "_law_leads" = true) (k40 : PySem.W.keepIn K (.ref f40) = true)
    (a41 : PySem.W.nsIn K mainGlobals "_law_papers" = some (some (.ref f41)))
    (l41 : K.lookup f41 = some ⟨oc41, od41, .func (PySem.W.fnOf "_law_papers" "_law_papers" (defArgs s__law_papers) (defBody s__law_papers) (defScope s__law_papers) .none kV41 dc41 pm41 an41 cd41 ct41), sl41⟩) (c41 : PySem.W.codeIn K cd41 "_law_papers" = true) (k41 : PySem.W.keepIn K (.ref f41) = true)
    (a42 : PySem.W.nsIn K mainGlobals "_law_listed" = some (some (.ref f42)))
    (l42 : K.lookup f42 = some ⟨oc42, od42, .func (PySem.W.fnOf "_law_listed" "_law_listed" (defArgs s__law_listed) (defBody s__law_listed) (defScope s__law_listed) .none kV42 dc42 pm42 an42 cd42 ct42), sl42⟩) (c42 : PySem.W.codeIn K cd42 "_law_listed" = true) (k42 : PySem.W.keepIn K (.ref f42) = true)
    (a43 : PySem.W.nsIn K mainGlobals "_law_right" = some (some (.ref f43)))
    (l43 : K.lookup f43 = some ⟨oc43, od43, .func (PySem.W.fnOf "_law_right" "_law_right" (defArgs s__law_right) (defBody s__law_right) (defScope s__law_right) .none kV43 dc43 pm43 an43 cd43 ct43), sl43⟩) (c43 : PySem.W.codeIn K cd43 "_law_right" = true) (k43 : PySem.W.keepIn K (.ref f43) = true)
    (a44 : PySem.W.nsIn K mainGlobals "law" = some (some (.ref f44)))
    (l44 : K.lookup f44 = some ⟨oc44, od44, .func (PySem.W.fnOf "law" "law" (defArgs s_law) (defBody s_law) (defScope s_law) .none kV44 dc44 pm44 an44 cd44 ct44), sl44⟩) (c44 : PySem.W.codeIn K cd44 "law" = true) (k44 : PySem.W.keepIn K (.ref f44) = true)
    (a45 : PySem.W.findIn K (.ref CM) "first_barred" = some (some (.ref f45)))
    (i45 : PySem.W.isFn K (.ref f45) = true)
    (l45 : K.lookup f45 = some ⟨oc45, od45, .func (PySem.W.fnOf "first_barred" "Misreading.first_barred" (defArgs s_Misreading_first_barred) (defBody s_Misreading_first_barred) (defScope s_Misreading_first_barred) .none kV45 dc45 pm45 an45 cd45 ct45), sl45⟩) (c45 : PySem.W.codeIn K cd45 "Misreading.first_barred" = true) (k45 : PySem.W.keepIn K (.ref f45) = true)
    (n45 : PySem.W.fnIn K f45 = true)
    (a46 : PySem.W.findIn K (.ref CM) "image" = some (some (.ref f46)))
    (i46 : PySem.W.isFn K (.ref f46) = true)
    (l46 : K.lookup f46 = some ⟨oc46, od46, .func (PySem.W.fnOf "image" "Misreading.image" (defArgs s_Misreading_image) (defBody s_Misreading_image) (defScope s_Misreading_image) .none kV46 dc46 pm46 an46 cd46 ct46), sl46⟩) (c46 : PySem.W.codeIn K cd46 "Misreading.image" = true) (k46 : PySem.W.keepIn K (.ref f46) = true)
    (n46 : PySem.W.fnIn K f46 = true)
    (a47 : PySem.W.findIn K (.ref CM) "__rshift__" = some (some (.ref f47)))
    (i47 : PySem.W.isFn K (.ref f47) = true)
    (l47 : K.lookup f47 = some ⟨oc47, od47, .func (PySem.W.fnOf "__rshift__" "Misreading.__rshift__" (defArgs s_Misreading_rshift) (defBody s_Misreading_rshift) (defScope s_Misreading_rshift) .none kV47 dc47 pm47 an47 cd47 ct47), sl47⟩) (c47 : PySem.W.codeIn K cd47 "Misreading.__rshift__" = true) (k47 : PySem.W.keepIn K (.ref f47) = true)
    (n47 : PySem.W.fnIn K f47 = true)
    (a48 : PySem.W.findIn K (.ref CM) "__getitem__" = some (some (.ref f48)))
    (i48 : PySem.W.isFn K (.ref f48) = true)
    (l48 : K.lookup f48 = some ⟨oc48, od48, .func (PySem.W.fnOf "__getitem__" "Misreading.__getitem__" (defArgs s_Misreading_getitem) (defBody s_Misreading_getitem) (defScope s_Misreading_getitem) .none kV48 dc48 pm48 an48 cd48 ct48), sl48⟩) (c48 : PySem.W.codeIn K cd48 "Misreading.__getitem__" = true) (k48 : PySem.W.keepIn K (.ref f48) = true)
    (n48 : PySem.W.fnIn K f48 = true)
    (a49 : PySem.W.findIn K (.ref CM) "__iter__" = some (some (.ref f49)))
    (i49 : PySem.W.isFn K (.ref f49) = true)
    (l49 : K.lookup f49 = some ⟨oc49, od49, .func (PySem.W.fnOf "__iter__" "Misreading.__iter__" (defArgs s_Misreading_iter) (defBody s_Misreading_iter) (defScope s_Misreading_iter) .none kV49 dc49 pm49 an49 cd49 ct49), sl49⟩) (c49 : PySem.W.codeIn K cd49 "Misreading.__iter__" = true) (k49 : PySem.W.keepIn K (.ref f49) = true)
    (n49 : PySem.W.fnIn K f49 = true)
    (a50 : PySem.W.findIn K (.ref CO) "__init__" = some (some (.ref f50)))
    (i50 : PySem.W.isFn K (.ref f50) = true)
    (l50 : K.lookup f50 = some ⟨oc50, od50, .func (PySem.W.fnOf "__init__" "OneToOne.__init__" (defArgs s_OneToOne_init) (defBody s_OneToOne_init) (defScope s_OneToOne_init) .none kV50 dc50 pm50 an50 cd50 ct50), sl50⟩) (c50 : PySem.W.codeIn K cd50 "OneToOne.__init__" = true) (k50 : PySem.W.keepIn K (.ref f50) = true)
    (a51 : PySem.W.findIn K (.ref CO) "__eq__" = some (some (.ref f51)))
    (i51 : PySem.W.isFn K (.ref f51) = true)
    (l51 : K.lookup f51 = some ⟨oc51, od51, .func (PySem.W.fnOf "__eq__" "OneToOne.__eq__" (defArgs s_OneToOne_eq) (defBody s_OneToOne_eq) (defScope s_OneToOne_eq) .none kV51 dc51 pm51 an51 cd51 ct51), sl51⟩) (c51 : PySem.W.codeIn K cd51 "OneToOne.__eq__" = true) (k51 : PySem.W.keepIn K (.ref f51) = true)
    (n51 : PySem.W.fnIn K f51 = true)
    (a52 : PySem.W.findIn K (.ref CO) "__bool__" = some (some (.ref f52)))
    (i52 : PySem.W.isFn K (.ref f52) = true)
    (l52 : K.lookup f52 = some ⟨oc52, od52, .func (PySem.W.fnOf "__bool__" "OneToOne.__bool__" (defArgs s_OneToOne_bool) (defBody s_OneToOne_bool) (defScope s_OneToOne_bool) .none kV52 dc52 pm52 an52 cd52 ct52), sl52⟩) (c52 : PySem.W.codeIn K cd52 "OneToOne.__bool__" = true) (k52 : PySem.W.keepIn K (.ref f52) = true)
    (n52 : PySem.W.fnIn K f52 = true)
    (a53 : PySem.W.findIn K (.ref CR) "__init__" = some (some (.ref f53)))
    (i53 : PySem.W.isFn K (.ref f53) = true)
    (l53 : K.lookup f53 = some ⟨oc53, od53, .func (PySem.W.fnOf "__init__" "Merged.__init__" (defArgs s_Merged_init) (defBody s_Merged_init) (defScope s_Merged_init) .none kV53 dc53 pm53 an53 cd53 ct53), sl53⟩) (c53 : PySem.W.codeIn K cd53 "Merged.__init__" = true) (k53 : PySem.W.keepIn K (.ref f53) = true)
    (a54 : PySem.W.findIn K (.ref CR) "__bool__" = some (some (.ref f54)))
    (i54 : PySem.W.isFn K (.ref f54) = true)
    (l54 : K.lookup f54 = some ⟨oc54, od54, .func (PySem.W.fnOf "__bool__" "Merged.__bool__" (defArgs s_Merged_bool) (defBody s_Merged_bool) (defScope s_Merged_bool) .none kV54 dc54 pm54 an54 cd54 ct54), sl54⟩) (c54 : PySem.W.codeIn K cd54 "Merged.__bool__" = true) (k54 : PySem.W.keepIn K (.ref f54) = true)
    (n54 : PySem.W.fnIn K f54 = true)
    (a55 : PySem.W.findIn K (.ref CG) "__init__" = some (some (.ref f55)))
    (i55 : PySem.W.isFn K (.ref f55) = true)
    (l55 : K.lookup f55 = some ⟨oc55, od55, .func (PySem.W.fnOf "__init__" "Meetings.__init__" (defArgs s_Meetings_init) (defBody s_Meetings_init) (defScope s_Meetings_init) .none kV55 dc55 pm55 an55 cd55 ct55), sl55⟩) (c55 : PySem.W.codeIn K cd55 "Meetings.__init__" = true) (k55 : PySem.W.keepIn K (.ref f55) = true)
    (a56 : PySem.W.findIn K (.ref CM) "__init__" = some (some (.ref f56)))
    (i56 : PySem.W.isFn K (.ref f56) = true)
    (l56 : K.lookup f56 = some ⟨oc56, od56, .func (PySem.W.fnOf "__init__" "Misreading.__init__" (defArgs s_Misreading_init) (defBody s_Misreading_init) (defScope s_Misreading_init) (.ref TI) kV56 dc56 pm56 an56 cd56 ct56), sl56⟩) (c56 : PySem.W.codeIn K cd56 "Misreading.__init__" = true) (k56 : PySem.W.keepIn K (.ref f56) = true)
    (tI : K.lookup TI = some ⟨ocT, odT, .seq #[.str "" tkT] nT, slT⟩)
    (sC : PySem.W.findCls K (.ref CM) (.type "type") "read" = some (.get (.builtin "classmethod.__get__") (.ref pS) .none (.ref CM)))
    (sR : PySem.W.recIn K pS "classmethod" = some (.ref f57 :: restS))
    (l57 : K.lookup f57 = some ⟨oc57, od57, .func (PySem.W.fnOf "read" "Misreading.read" (defArgs s_Misreading_read) (defBody s_Misreading_read) (defScope s_Misreading_read) .none kV57 dc57 pm57 an57 cd57 ct57), sl57⟩) (c57 : PySem.W.codeIn K cd57 "Misreading.read" = true) (k57 : PySem.W.keepIn K (.ref f57) = true)
    (n57 : PySem.W.fnIn K f57 = true)
    (a58 : PySem.W.findIn K (.ref CJ) "__init__" = some (some (.ref f58)))
    (i58 : PySem.W.isFn K (.ref f58) = true)
    (l58 : K.lookup f58 = some ⟨oc58, od58, .func (PySem.W.fnOf "__init__" "Joined.__init__" (defArgs s_Joined_init) (defBody s_Joined_init) (defScope s_Joined_init) .none kV58 dc58 pm58 an58 cd58 ct58), sl58⟩) (c58 : PySem.W.codeIn K cd58 "Joined.__init__" = true) (k58 : PySem.W.keepIn K (.ref f58) = true)
    (rd : PySem.W.readsIn K CM (.type "type") = true)
    (ga : PySem.W.specialIn K (.ref CM) "__getattribute__" = some (some (.builtin "type.__getattribute__")))
    (pg : PySem.W.plainGet K CM Str.empty = true)
    (hd : PySem.W.hasDictIn K CM = true)
    (po : PySem.W.plainOver K CM = true)
    (sa : PySem.W.findIn K (.ref CM) "__setattr__" = some (some (.builtin "object.__setattr__")))
    (mk : PySem.W.makesIn K CM = true)
    (kc : PySem.W.keepIn K (.ref CM) = true)
    (sf : PySem.W.selfFirst K CM = true)
    (nL : PySem.W.findIn K (.ref CM) "_letters" = some none)
    (nI : PySem.W.findIn K (.ref CM) "_images" = some none)
    (nC : PySem.W.findIn K (.ref CM) "changed" = some none)
    (tA : PySem.W.findIn K (.ref CM) "__class__" = some (some (.builtin "object.__class__")))
    (tD : PySem.W.mroIn K CM (.type "object") = some true)
    (ne : PySem.W.findIn K (.ref CM) "__ne__" = some (some (.builtin "object.__ne__")))
    (tB : PySem.W.specialIn K (.builtin "object.__class__") "__get__" = some (some (.builtin "getset_descriptor.__get__")))
    (tC : PySem.W.takesIn K (.builtin "object.__class__") = some true)
    (rp : PySem.W.findIn K (.ref CM) "__rpow__" = some none)
    (h1 : PySem.W.findIn K (.type "int") "__pow__" = some poI)
    (h2 : PySem.W.findIn K (.type "int") "__rpow__" = some roI)
    (os_int : PySem.W.subIn K (.type "int") (.ref CM) = some false)
    (ow_int : PySem.W.notFirst K CM (.type "int") = true)
    (ow_str : PySem.W.notFirst K CM (.type "str") = true)
    (ow_dict : PySem.W.notFirst K CM (.type "dict") = true)
    (pgJ : PySem.W.plainGet K CJ Str.empty = true)
    (hdJ : PySem.W.hasDictIn K CJ = true)
    (poJ : PySem.W.plainOver K CJ = true)
    (saJ : PySem.W.findIn K (.ref CJ) "__setattr__" = some (some (.builtin "object.__setattr__")))
    (mkJ : PySem.W.makesIn K CJ = true)
    (kcJ : PySem.W.keepIn K (.ref CJ) = true)
    (nJ : PySem.W.findIn K (.ref CJ) "images" = some none)
    (jA : PySem.W.findIn K (.ref CJ) "__class__" = some (some (.builtin "object.__class__")))
    (jD : PySem.W.mroIn K CJ (.type "object") = some true)
    (pgO : PySem.W.plainGet K CO Str.empty = true)
    (hdO : PySem.W.hasDictIn K CO = true)
    (poO : PySem.W.plainOver K CO = true)
    (saO : PySem.W.findIn K (.ref CO) "__setattr__" = some (some (.builtin "object.__setattr__")))
    (mkO : PySem.W.makesIn K CO = true)
    (kcO : PySem.W.keepIn K (.ref CO) = true)
    (tAO : PySem.W.findIn K (.ref CO) "__class__" = some (some (.builtin "object.__class__")))
    (tDO : PySem.W.mroIn K CO (.type "object") = some true)
    (neO : PySem.W.findIn K (.ref CO) "__ne__" = some (some (.builtin "object.__ne__")))
    (pgR : PySem.W.plainGet K CR Str.empty = true)
    (hdR : PySem.W.hasDictIn K CR = true)
    (poR : PySem.W.plainOver K CR = true)
    (saR : PySem.W.findIn K (.ref CR) "__setattr__" = some (some (.builtin "object.__setattr__")))
    (mkR : PySem.W.makesIn K CR = true)
    (kcR : PySem.W.keepIn K (.ref CR) = true)
    (tAR : PySem.W.findIn K (.ref CR) "__class__" = some (some (.builtin "object.__class__")))
    (tDR : PySem.W.mroIn K CR (.type "object") = some true)
    (neR : PySem.W.findIn K (.ref CR) "__ne__" = some (some (.builtin "object.__ne__")))
    (pgG : PySem.W.plainGet K CG Str.empty = true)
    (hdG : PySem.W.hasDictIn K CG = true)
    (poG : PySem.W.plainOver K CG = true)
    (saG : PySem.W.findIn K (.ref CG) "__setattr__" = some (some (.builtin "object.__setattr__")))
    (mkG : PySem.W.makesIn K CG = true)
    (kcG : PySem.W.keepIn K (.ref CG) = true)
    (nO1 : PySem.W.findIn K (.ref CO) "leads" = some none)
    (nO2 : PySem.W.findIn K (.ref CO) "dead" = some none)
    (nR1 : PySem.W.findIn K (.ref CR) "one" = some none)
    (nR2 : PySem.W.findIn K (.ref CR) "other" = some none)
    (nG1 : PySem.W.findIn K (.ref CG) "moves" = some none)
    (nG2 : PySem.W.findIn K (.ref CG) "living" = some none)
    (nG3 : PySem.W.findIn K (.ref CG) "ways" = some none)
    (nfO : PySem.W.notFirst K CO (.ref CO) = true)
    (ok_int : PySem.W.kitOne K (.type "int") (.ref CM) = some false)
    (ok_str : PySem.W.kitOne K (.type "str") (.ref CM) = some false)
    (ok_dict : PySem.W.kitOne K (.type "dict") (.ref CM) = some false)
    (kdJ : PySem.W.kitOne K (.type "dict") (.ref CJ) = some false)
    (kMM : PySem.W.kitOne K (.ref CM) (.ref CM) = some true)
    (kMJ : PySem.W.kitOne K (.ref CM) (.ref CJ) = some false)
    (kMs : PySem.W.kitOne K (.ref CM) (.type "str") = some false)
    (kls : PySem.W.kitOne K (.type "list") (.type "str") = some false)
    (kJJ : PySem.W.kitOne K (.ref CJ) (.ref CJ) = some true)
    (kOO : PySem.W.kitOne K (.ref CO) (.ref CO) = some true)
    (kRR : PySem.W.kitOne K (.ref CR) (.ref CR) = some true)
    (kOR : PySem.W.kitOne K (.ref CO) (.ref CR) = some false)
    (g1 : PySem.W.nsIn K mainGlobals "LETTERS" = some (some (.str "abcdefghijklmnopqrstuvwxyz" tk1)))
    (g2 : PySem.W.nsIn K mainGlobals "LONGEST" = some (some (.int 2000 tk2)))
    (g3 : PySem.W.nsIn K mainGlobals "LONGEST_TOLD" = some (some (.int 4 tk3)))
    (g4 : PySem.W.nsIn K mainGlobals "MOST_LETTERS" = some (some (.int 12 tk4)))
    (g5 : PySem.W.nsIn K mainGlobals "LONGEST_JOINED" = some (some (.int 64 tk5)))
    (g6 : PySem.W.nsIn K mainGlobals "LONGEST_IMAGE" = some (some (.int 8 tk6)))
    (z_list : PySem.W.nsIn K mainGlobals "list" = some none)
    (z_int : PySem.W.nsIn K mainGlobals "int" = some none)
    (z_len : PySem.W.nsIn K mainGlobals "len" = some none)
    (z_abs : PySem.W.nsIn K mainGlobals "abs" = some none)
    (z_range : PySem.W.nsIn K mainGlobals "range" = some none)
    (z_dict : PySem.W.nsIn K mainGlobals "dict" = some none)
    (z_str : PySem.W.nsIn K mainGlobals "str" = some none)
    (z_sorted : PySem.W.nsIn K mainGlobals "sorted" = some none)
    (z_tuple : PySem.W.nsIn K mainGlobals "tuple" = some none)
    (z_isinstance : PySem.W.nsIn K mainGlobals "isinstance" = some none)
    (z_iter : PySem.W.nsIn K mainGlobals "iter" = some none)
    (z_enumerate : PySem.W.nsIn K mainGlobals "enumerate" = some none)
    (z_all : PySem.W.nsIn K mainGlobals "all" = some none)
    (z_bool : PySem.W.nsIn K mainGlobals "bool" = some none)
    (z_any : PySem.W.nsIn K mainGlobals "any" = some none)
    (z_zip : PySem.W.nsIn K mainGlobals "zip" = some none)
    (z_set : PySem.W.nsIn K mainGlobals "set" = some none)
    (z_repr : PySem.W.nsIn K mainGlobals "repr" = some none) :
    ∃ fd : FuncData, (∀ (s : Shared) (v : Value), BindsTo s fd ⟨[v], []⟩ [("_law_script", v)]) ∧ ∀ base : Heap, K.In base → base.Ns mainGlobals mg → FnG P w K mg base CX0 11 fa fd ["_law_script"] (spLaw0 K) := by
  have e := hfa.symm.trans (PySem.W.mg_of X G a44)
  cases e
  have B : Blt mg := ⟨PySem.W.mg_none_of X G z_list, PySem.W.mg_none_of X G z_int, PySem.W.mg_none_of X G z_len, PySem.W.mg_none_of X G z_abs, PySem.W.mg_none_of X G z_range, PySem.W.mg_none_of X G z_dict, PySem.W.mg_none_of X G z_str, PySem.W.mg_none_of X G z_sorted, PySem.W.mg_none_of X G z_tuple⟩
  have T1 : Tx K mg CM CJ := ⟨B, PySem.W.mg_none_of X G z_isinstance, PySem.W.mg_none_of X G z_iter, ⟨_, PySem.W.mg_of X G g1, ⟨tk1, rfl⟩⟩, ⟨_, PySem.W.mg_of X G g2, ⟨tk2, rfl⟩⟩, ⟨_, PySem.W.mg_of X G g3, ⟨tk3, rfl⟩⟩, ⟨_, PySem.W.mg_of X G g4, ⟨tk4, rfl⟩⟩,
    ⟨_, PySem.W.mg_of X G aC, rfl⟩, ⟨_, PySem.W.mg_of X G aJ, rfl⟩, kdJ, ok_dict, ok_str, ok_int, ⟨pg, hd, po, sa⟩, nL, nI, nC, tA, tB, tC, tD, ne, ow_dict, ow_str, ow_int⟩
  have T2 : Ty K mg CM CJ := ⟨T1, kMM, kMJ, kMs, kls⟩
  have T : Tz K mg CM CJ := ⟨T2, PySem.W.mg_none_of X G z_enumerate, PySem.W.mg_none_of X G z_all, PySem.W.mg_none_of X G z_bool, ⟨_, PySem.W.mg_of X G g5, ⟨tk5, rfl⟩⟩, ⟨pgJ, hdJ, poJ, saJ⟩, nJ, jA, jD, ⟨rp, ⟨_, h1⟩, ⟨_, h2⟩, os_int⟩, kJJ⟩
  have Tp1 : Tp K mg CM CJ := ⟨T, PySem.W.mg_none_of X G z_any, ⟨_, PySem.W.mg_of X G g6, ⟨tk6, rfl⟩⟩⟩
  have Tm1 : Tm mg tS tE tW := ⟨B, ⟨_, PySem.W.mg_of X G uS, rfl⟩, ⟨_, PySem.W.mg_of X G uE, rfl⟩, ⟨_, PySem.W.mg_of X G uW, rfl⟩, PySem.W.mg_none_of X G z_any⟩
  have Tn1 : Tn K mg tS tE tW CG := ⟨Tm1, ⟨pgG, hdG, poG, saG⟩, nG1, nG2, nG3⟩
  have Tq1 : Tq mg := ⟨B, PySem.W.mg_none_of X G z_isinstance, PySem.W.mg_none_of X G z_repr, PySem.W.mg_none_of X G z_enumerate⟩
  have Te1 : Te mg := ⟨Tq1, PySem.W.mg_none_of X G z_bool, PySem.W.mg_none_of X G z_all, PySem.W.mg_none_of X G z_zip⟩
  have clM : Cls K CM := ⟨pg, hd, po, sa⟩
  have clO : Cls K CO := ⟨pgO, hdO, poO, saO⟩
  have clR : Cls K CR := ⟨pgR, hdR, poR, saR⟩
  have Tv1 : Tv K mg CO CR := ⟨Te1, clO, clR, nO1, nO2, nR1, nR2, ⟨_, PySem.W.mg_of X G aO, rfl⟩, ⟨_, PySem.W.mg_of X G aR, rfl⟩, fun _ _ _ _ hx => .base (.ins hx clO tAO tB tC tDO), fun _ _ _ _ hx => .base (.ins hx clR tAR tB tC tDR), kOO, kRR⟩
  have Tw1 : Tw K mg CM CO CR := ⟨Tv1, kOR, neO, tDO, nfO⟩
  have Tlaw1 : Tlaw K mg CM CJ CO CR := ⟨Tp1, Tw1⟩
  have hSD : GV mg "SIDES" (.ref tD0) := ⟨_, PySem.W.mg_of X G uD, rfl⟩
  have F0 := fun_mk (st := s_copied) l0 c0 k0
  have b0 := F0.binds (ps := ["value"]) fun _ _ _ _ _ _ us hl => match us, hl with | [_], _ => rfl
  have F1 := fun_mk (st := s_equal) l1 c1 k1
  have b1 := F1.binds (ps := ["one", "other"]) fun _ _ _ _ _ _ us hl => match us, hl with | [_, _], _ => rfl
  have F2 := fun_mk (st := s_equal_rows) l2 c2 k2
  have b2 := F2.binds (ps := ["one", "other"]) fun _ _ _ _ _ _ us hl => match us, hl with | [_, _], _ => rfl
  have F3 := fun_mk (st := s_is_letter) l3 c3 k3
  have b3 := F3.binds (ps := ["value"]) fun _ _ _ _ _ _ us hl => match us, hl with | [_], _ => rfl
  have F4 := fun_mk (st := s_all_letters) l4 c4 k4
  have b4 := F4.binds (ps := ["string"]) fun _ _ _ _ _ _ us hl => match us, hl with | [_], _ => rfl
  have F5 := fun_mk (st := s_is_text) l5 c5 k5
  have b5 := F5.binds (ps := ["value"]) fun _ _ _ _ _ _ us hl => match us, hl with | [_], _ => rfl
  have F6 := fun_mk (st := s_is_image) l6 c6 k6
  have b6 := F6.binds (ps := ["value"]) fun _ _ _ _ _ _ us hl => match us, hl with | [_], _ => rfl
  have F7 := fun_mk (st := s_told_images) l7 c7 k7
  have b7 := F7.binds (ps := ["images", "keeps"]) fun _ _ _ _ _ _ us hl => match us, hl with | [_, _], _ => rfl
  have F8 := fun_mk (st := s_check_other) l8 c8 k8
  have b8 := F8.binds (ps := ["other"]) fun _ _ _ _ _ _ us hl => match us, hl with | [_], _ => rfl
  have F9 := fun_mk (st := s_is_told) l9 c9 k9
  have b9 := F9.binds (ps := ["word"]) fun _ _ _ _ _ _ us hl => match us, hl with | [_], _ => rfl
  have F10 := fun_mk (st := s_other_side) l10 c10 k10
  have b10 := F10.binds (ps := ["side"]) fun _ _ _ _ _ _ us hl => match us, hl with | [_], _ => rfl
  have F11 := fun_mk (st := s_place_behind) l11 c11 k11
  have b11 := F11.binds (ps := ["ahead", "rest", "word"]) fun _ _ _ _ _ _ us hl => match us, hl with | [_, _, _], _ => rfl
  have F12 := fun_mk (st := s_moves_from) l12 c12 k12
  have b12 := F12.binds (ps := ["first", "second", "place"]) fun _ _ _ _ _ _ us hl => match us, hl with | [_, _, _], _ => rfl
  have F13 := fun_mk (st := s_with_label) l13 c13 k13
  have b13 := F13.binds (ps := ["way", "taker", "label"]) fun _ _ _ _ _ _ us hl => match us, hl with | [_, _, _], _ => rfl
  have F14 := fun_mk (st := s_lead_of) l14 c14 k14
  have b14 := F14.binds (ps := ["way"]) fun _ _ _ _ _ _ us hl => match us, hl with | [_], _ => rfl
  have F15 := fun_mk (st := s_all_moves) l15 c15 k15
  have b15 := F15.binds (ps := ["first", "second"]) fun _ _ _ _ _ _ us hl => match us, hl with | [_, _], _ => rfl
  have F16 := fun_mk (st := s_all_living) l16 c16 k16
  have b16 := F16.binds (ps := ["moves"]) fun _ _ _ _ _ _ us hl => match us, hl with | [_], _ => rfl
  have F17 := fun_mk (st := s_ways_from) l17 c17 k17
  have b17 := F17.binds (ps := ["moves", "place"]) fun _ _ _ _ _ _ us hl => match us, hl with | [_, _], _ => rfl
  have F18 := fun_mk (st := s_ended) l18 c18 k18
  have b18 := F18.binds (ps := ["meetings", "way", "place"]) fun _ _ _ _ _ _ us hl => match us, hl with | [_, _, _], _ => rfl
  have F19 := fun_mk (st := s_unlike_meeting) l19 c19 k19
  have b19 := F19.binds (ps := ["meetings"]) fun _ _ _ _ _ _ us hl => match us, hl with | [_], _ => rfl
  have F20 := fun_mk (st := s_rests_of) l20 c20 k20
  have b20 := F20.binds (ps := ["meetings", "living"]) fun _ _ _ _ _ _ us hl => match us, hl with | [_, _], _ => rfl
  have F21 := fun_mk (st := s_leads_of) l21 c21 k21
  have b21 := F21.binds (ps := ["meetings"]) fun _ _ _ _ _ _ us hl => match us, hl with | [_], _ => rfl
  have F22 := fun_mk (st := s_check_misreading) l22 c22 k22
  have b22 := F22.binds (ps := ["value"]) fun _ _ _ _ _ _ us hl => match us, hl with | [_], _ => rfl
  have F23 := fun_mk (st := s_check_length) l23 c23 k23
  have b23 := F23.binds (ps := ["misreading"]) fun _ _ _ _ _ _ us hl => match us, hl with | [_], _ => rfl
  have F24 := fun_mk (st := s_check_images) l24 c24 k24
  have b24 := F24.binds (ps := ["misreading"]) fun _ _ _ _ _ _ us hl => match us, hl with | [_], _ => rfl
  have F25 := fun_mk (st := s_image_pairs) l25 c25 k25
  have b25 := F25.binds (ps := ["misreading"]) fun _ _ _ _ _ _ us hl => match us, hl with | [_], _ => rfl
  have F26 := fun_mk (st := s_merging) l26 c26 k26
  have b26 := F26.binds (ps := ["misreading"]) fun _ _ _ _ _ _ us hl => match us, hl with | [_], _ => rfl
  have F27 := fun_mk (st := s_pen) l27 c27 k27
  have b27 := F27.binds (ps := ["_law_script"]) fun _ _ _ _ _ _ us hl => match us, hl with | [_], _ => rfl
  have F28 := fun_mk (st := s_draw) l28 c28 k28
  have b28 := F28.binds (ps := ["_law_pen_here", "_law_many"]) fun _ _ _ _ _ _ us hl => match us, hl with | [_, _], _ => rfl
  have F29 := fun_mk (st := s_pick) l29 c29 k29
  have b29 := F29.binds (ps := ["_law_pen_here", "_law_some"]) fun _ _ _ _ _ _ us hl => match us, hl with | [_, _], _ => rfl
  have F30 := fun_mk (st := s_some_letters) l30 c30 k30
  have b30 := F30.binds (ps := ["_law_pen_here", "_law_many"]) fun _ _ _ _ _ _ us hl => match us, hl with | [_, _], _ => rfl
  have F31 := fun_mk (st := s_escaped) l31 c31 k31
  have b31 := F31.binds (ps := ["_law_pen_here", "_law_some"]) fun _ _ _ _ _ _ us hl => match us, hl with | [_, _], _ => rfl
  have F32 := fun_mk (st := s_any_image) l32 c32 k32
  have b32 := F32.binds (ps := ["_law_pen_here", "_law_some"]) fun _ _ _ _ _ _ us hl => match us, hl with | [_, _], _ => rfl
  have F33 := fun_mk (st := s_table) l33 c33 k33
  have b33 := F33.binds (ps := ["_law_pen_here", "_law_some"]) fun _ _ _ _ _ _ us hl => match us, hl with | [_, _], _ => rfl
  have F34 := fun_mk (st := s__law_ordered) l34 c34 k34
  have b34 := F34.binds (ps := ["_law_rests"]) fun _ _ _ _ _ _ us hl => match us, hl with | [_], _ => rfl
  have F35 := fun_mk (st := s__law_steps) l35 c35 k35
  have b35 := F35.binds (ps := ["_law_rest", "_law_one", "_law_two"]) fun _ _ _ _ _ _ us hl => match us, hl with | [_, _, _], _ => rfl
  have F36 := fun_mk (st := s__law_web) l36 c36 k36
  have b36 := F36.binds (ps := ["_law_one", "_law_two"]) fun _ _ _ _ _ _ us hl => match us, hl with | [_, _], _ => rfl
  have F37 := fun_mk (st := s__law_alive) l37 c37 k37
  have b37 := F37.binds (ps := ["_law_web_here"]) fun _ _ _ _ _ _ us hl => match us, hl with | [_], _ => rfl
  have F38 := fun_mk (st := s__law_lead) l38 c38 k38
  have b38 := F38.binds (ps := ["_law_one", "_law_other"]) fun _ _ _ _ _ _ us hl => match us, hl with | [_, _], _ => rfl
  have F39 := fun_mk (st := s__law_taken) l39 c39 k39
  have b39 := F39.binds (ps := ["_law_rows", "_law_side", "_law_label"]) fun _ _ _ _ _ _ us hl => match us, hl with | [_, _, _], _ => rfl
  have F40 := fun_mk (st := s__law_leads) l40 c40 k40
  have b40 := F40.binds (ps := ["_law_web_here", "_law_alive_here"]) fun _ _ _ _ _ _ us hl => match us, hl with | [_, _], _ => rfl
  have F41 := fun_mk (st := s__law_papers) l41 c41 k41
  have b41 := F41.binds (ps := ["_law_one", "_law_two"]) fun _ _ _ _ _ _ us hl => match us, hl with | [_, _], _ => rfl
  have F42 := fun_mk (st := s__law_listed) l42 c42 k42
  have b42 := F42.binds (ps := ["_law_table_here"]) fun _ _ _ _ _ _ us hl => match us, hl with | [_], _ => rfl
  have F43 := fun_mk (st := s__law_right) l43 c43 k43
  have b43 := F43.binds (ps := ["_law_made"]) fun _ _ _ _ _ _ us hl => match us, hl with | [_], _ => rfl
  have F44 := fun_mk (st := s_law) l44 c44 k44
  have F45 := fun_mk (st := s_Misreading_first_barred) l45 c45 k45
  have b45 := F45.binds (ps := ["self", "text"]) fun _ _ _ _ _ _ us hl => match us, hl with | [_, _], _ => rfl
  have F46 := fun_mk (st := s_Misreading_image) l46 c46 k46
  have b46 := F46.binds (ps := ["self", "text"]) fun _ _ _ _ _ _ us hl => match us, hl with | [_, _], _ => rfl
  have F47 := fun_mk (st := s_Misreading_rshift) l47 c47 k47
  have b47 := F47.binds (ps := ["self", "other"]) fun _ _ _ _ _ _ us hl => match us, hl with | [_, _], _ => rfl
  have F48 := fun_mk (st := s_Misreading_getitem) l48 c48 k48
  have b48 := F48.binds (ps := ["self", "at"]) fun _ _ _ _ _ _ us hl => match us, hl with | [_, _], _ => rfl
  have F49 := fun_mk (st := s_Misreading_iter) l49 c49 k49
  have b49 := F49.binds (ps := ["self"]) fun _ _ _ _ _ _ us hl => match us, hl with | [_], _ => rfl
  have F50 := fun_mk (st := s_OneToOne_init) l50 c50 k50
  have b50 := F50.binds (ps := ["self", "leads", "dead"]) fun _ _ _ _ _ _ us hl => match us, hl with | [_, _, _], _ => rfl
  have F51 := fun_mk (st := s_OneToOne_eq) l51 c51 k51
  have b51 := F51.binds (ps := ["self", "other"]) fun _ _ _ _ _ _ us hl => match us, hl with | [_, _], _ => rfl
  have F52 := fun_mk (st := s_OneToOne_bool) l52 c52 k52
  have b52 := F52.binds (ps := ["self"]) fun _ _ _ _ _ _ us hl => match us, hl with | [_], _ => rfl
  have F53 := fun_mk (st := s_Merged_init) l53 c53 k53
  have b53 := F53.binds (ps := ["self", "one", "other"]) fun _ _ _ _ _ _ us hl => match us, hl with | [_, _, _], _ => rfl
  have F54 := fun_mk (st := s_Merged_bool) l54 c54 k54
  have b54 := F54.binds (ps := ["self"]) fun _ _ _ _ _ _ us hl => match us, hl with | [_], _ => rfl
  have F55 := fun_mk (st := s_Meetings_init) l55 c55 k55
  have b55 := F55.binds (ps := ["self", "first", "second"]) fun _ _ _ _ _ _ us hl => match us, hl with | [_, _, _], _ => rfl
  have ee : ("" : Str) = Sx [] := by decide +kernel
  have F56 : FunD K "__init__" "Misreading.__init__" (defArgs s_Misreading_init) (defBody s_Misreading_init) (defScope s_Misreading_init) [.str (Sx [])] [] f56 _ := ⟨⟨oc56, od56, .ref TI, kV56, dc56, pm56, an56, cd56, ct56, sl56, rfl, l56, c56, .inr ⟨(fun z => nomatch z), TI, _, [.str "" tkT], nT, rfl, tI, rfl, .cons ⟨tkT, by rw [← ee]⟩ .nil⟩, .inl rfl⟩, k56⟩
  have F57 := fun_mk (st := s_Misreading_read) l57 c57 k57
  have b57 := F57.binds (ps := ["cls", "text"]) fun _ _ _ _ _ _ us hl => match us, hl with | [_, _], _ => rfl
  have F58 := fun_mk (st := s_Joined_init) l58 c58 k58
  have b58 := F58.binds (ps := ["self", "images"]) fun _ _ _ _ _ _ us hl => match us, hl with | [_, _], _ => rfl
  refine ⟨PySem.W.fnOf "law" "law" (defArgs s_law) (defBody s_law) (defScope s_law) .none kV44 dc44 pm44 an44 cd44 ct44, fun s v => .of_eq rfl, fun base _ _ => ?_⟩
  have D_draw : Df P w K mg base 1 "_law_draw" spDraw := ⟨⟨f28, _, _, ok_draw (k := 0) F28 B, PySem.W.mg_of X G a28, k28, b28⟩⟩
  have D_pick : Df P w K mg base 2 "_law_pick" (spPick K) := ⟨⟨f29, _, _, ok_pick F29 B D_draw, PySem.W.mg_of X G a29, k29, b29⟩⟩
  have D_some_letters : Df P w K mg base 2 "_law_some_letters" spLetters := ⟨⟨f30, _, _, ok_some_letters F30 B D_draw, PySem.W.mg_of X G a30, k30, b30⟩⟩
  have D_any_image : Df P w K mg base 3 "_law_any_image" spImage := ⟨⟨f32, _, _, ok_any_image F32 B D_pick, PySem.W.mg_of X G a32, k32, b32⟩⟩
  have D_escaped : Df P w K mg base 2 "_law_escaped" (spTab 52) := ⟨⟨f31, _, _, ok_escaped F31 B D_draw, PySem.W.mg_of X G a31, k31, b31⟩⟩
  have D_escapedE : Df P w K mg base 2 "_law_escaped" (spTabE 52) := ⟨⟨f31, _, _, ok_escapedE F31 B D_draw, PySem.W.mg_of X G a31, k31, b31⟩⟩
  have D_table : Df P w K mg base 4 "_law_table" (spTab 260) := ⟨⟨f33, _, _, ok_table F33 B D_draw D_escaped D_any_image, PySem.W.mg_of X G a33, k33, b33⟩⟩
  have D_pen : Df P w K mg base 1 "_law_pen" (spPen K) := ⟨⟨f27, _, _, ok_pen F27 B, PySem.W.mg_of X G a27, k27, b27⟩⟩
  have D_is_letter : Df P w K mg base 1 "is_letter" (spIsLetter K) := ⟨⟨f3, _, _, ok_is_letter F3 T1, PySem.W.mg_of X G a3, k3, b3⟩⟩
  have D_all_letters : Df P w K mg base 1 "all_letters" spAllLetters := ⟨⟨f4, _, _, ok_all_letters F4 T1, PySem.W.mg_of X G a4, k4, b4⟩⟩
  have D_is_text : Df P w K mg base 2 "is_text" spIsText := ⟨⟨f5, _, _, ok_is_text F5 T1 D_all_letters, PySem.W.mg_of X G a5, k5, b5⟩⟩
  have D_is_image : Df P w K mg base 3 "is_image" spIsImage := ⟨⟨f6, _, _, ok_is_image F6 T1 D_is_text, PySem.W.mg_of X G a6, k6, b6⟩⟩
  have D_told_images : Df P w K mg base 4 "told_images" spTold := ⟨⟨f7, _, _, ok_told_images F7 T1 D_is_letter D_is_text D_is_image, PySem.W.mg_of X G a7, k7, b7⟩⟩
  have D_all_lettersG : Df P w K mg base 1 "all_letters" spAllG := ⟨⟨f4, _, _, ok_all_lettersG F4 T1, PySem.W.mg_of X G a4, k4, b4⟩⟩
  have D_is_textG : Df P w K mg base 2 "is_text" spAllG := ⟨⟨f5, _, _, ok_is_textG F5 T1 D_all_lettersG, PySem.W.mg_of X G a5, k5, b5⟩⟩
  have D_is_imageG : Df P w K mg base 3 "is_image" spImageG := ⟨⟨f6, _, _, ok_is_imageG F6 T1 D_is_textG, PySem.W.mg_of X G a6, k6, b6⟩⟩
  have D_is_told : Df P w K mg base 4 "is_told" spTold1 := ⟨⟨f9, _, _, ok_is_told F9 T1 D_is_letter D_is_imageG, PySem.W.mg_of X G a9, k9, b9⟩⟩
  have D_check_other : Df P w K mg base 1 "check_other" (spChkO CM) := ⟨⟨f8, _, _, ok_check_other F8 T2, PySem.W.mg_of X G a8, k8, b8⟩⟩
  have D_cop0 : Df P w K mg base 0 "copied" (fun _ _ _ _ => False) := ⟨⟨f0, _, _, ⟨fun _ _ _ _ z => z.elim, fun _ _ _ _ _ _ _ _ _ _ _ _ _ z => z.elim⟩, PySem.W.mg_of X G a0, k0, b0⟩⟩
  have D_copied : Df P w K mg base 1 "copied" (spCopied K) := ⟨⟨f0, _, _, ok_copied F0 Tq1 D_cop0, PySem.W.mg_of X G a0, k0, b0⟩⟩
  have D_copyW : Df P w K mg base 2 "copied" spCopyW := ⟨⟨f0, _, _, ok_copyW F0 Tq1 D_copied, PySem.W.mg_of X G a0, k0, b0⟩⟩
  have D_copT0 : Df P w K mg base 1 "copied" (spCopT 0) := ⟨⟨f0, _, _, ok_copT (n := 0) (k := 0) F0 Te1 D_cop0, PySem.W.mg_of X G a0, k0, b0⟩⟩
  have D_copT1 : Df P w K mg base 2 "copied" (spCopT 1) := ⟨⟨f0, _, _, ok_copT (n := 1) (k := 1) F0 Te1 D_copT0, PySem.W.mg_of X G a0, k0, b0⟩⟩
  have D_copT2 : Df P w K mg base 3 "copied" (spCopT 2) := ⟨⟨f0, _, _, ok_copT (n := 2) (k := 2) F0 Te1 D_copT1, PySem.W.mg_of X G a0, k0, b0⟩⟩
  have D_rows0 : Df P w K mg base 0 "equal_rows" (spRowsT 0) := ⟨⟨f2, _, _, ⟨fun _ _ _ _ z => z.elim, fun _ _ _ _ _ _ _ _ _ _ _ _ _ z => z.elim⟩, PySem.W.mg_of X G a2, k2, b2⟩⟩
  have D_eq0 : Df P w K mg base 1 "equal" (spEqT 0) := ⟨⟨f1, _, _, ok_eqT (n := 0) (k := 0) (by decide) F1 Te1 D_rows0, PySem.W.mg_of X G a1, k1, b1⟩⟩
  have D_rows1 : Df P w K mg base 2 "equal_rows" (spRowsT 1) := ⟨⟨f2, _, _, ok_rowsT (n := 0) (k := 1) F2 Te1 D_eq0, PySem.W.mg_of X G a2, k2, b2⟩⟩
  have D_eq1 : Df P w K mg base 3 "equal" (spEqT 1) := ⟨⟨f1, _, _, ok_eqT (n := 1) (k := 2) (by decide) F1 Te1 D_rows1, PySem.W.mg_of X G a1, k1, b1⟩⟩
  have D_rows2 : Df P w K mg base 4 "equal_rows" (spRowsT 2) := ⟨⟨f2, _, _, ok_rowsT (n := 1) (k := 3) F2 Te1 D_eq1, PySem.W.mg_of X G a2, k2, b2⟩⟩
  have D_eq2 : Df P w K mg base 5 "equal" (spEqT 2) := ⟨⟨f1, _, _, ok_eqT (n := 2) (k := 4) (by decide) F1 Te1 D_rows2, PySem.W.mg_of X G a1, k1, b1⟩⟩
  have D_rows3 : Df P w K mg base 6 "equal_rows" (spRowsT 3) := ⟨⟨f2, _, _, ok_rowsT (n := 2) (k := 5) F2 Te1 D_eq2, PySem.W.mg_of X G a2, k2, b2⟩⟩
  have D_eq3 : Df P w K mg base 7 "equal" (spEqT 3) := ⟨⟨f1, _, _, ok_eqT (n := 3) (k := 6) (by decide) F1 Te1 D_rows3, PySem.W.mg_of X G a1, k1, b1⟩⟩
  have D_mk : Mkr P w K mg base CM := mkr_of F56 T1 D_told_images ⟨mk, a56, i56, kc⟩ (PySem.W.mg_of X G aC)
  have D_mkMJ : MkrM P w K mg base CM CJ := mkrM_of F56 T D_told_images ⟨mk, a56, i56, kc⟩ (PySem.W.mg_of X G aC)
  have D_mkJ : MkrJ P w K mg base CJ := ⟨f58, _, ⟨mkJ, a58, i58, kcJ⟩, ok_Joined F58 T, PySem.W.mg_of X G aJ, b58⟩
  have D_read : Rd0 P w K mg base CM := ⟨pS, f57, _, .type "type", ⟨rd, ga⟩, ⟨sC, ⟨restS, sR⟩, n57⟩, ok_read0 F57 T1 (PySem.W.mg_none_of X G z_enumerate) D_is_told D_mk, b57⟩
  have D_first_barred : Mf P w K mg base 1 CM "first_barred" (spFB CM) := ⟨⟨f45, _, _, ok_first_barred F45 T, ⟨a45, i45, k45⟩, ⟨a45, i45⟩, n45, b45⟩⟩
  have D_image : Mf P w K mg base 1 CM "image" (spImg CM) := ⟨⟨f46, _, _, ok_image F46 T, ⟨a46, i46, k46⟩, ⟨a46, i46⟩, n46, b46⟩⟩
  have D_get : Mf P w K mg base 2 CM "__getitem__" (spGet CM) := ⟨⟨f48, _, _, ok_get F48 T1 D_is_letter, ⟨a48, i48, k48⟩, ⟨a48, i48⟩, n48, b48⟩⟩
  have D_iter : ItM P w K mg base 1 CM (snIter CM) := ⟨f49, _, _, ok_iter F49 T1, ⟨a49, i49⟩, b49⟩
  have D_rshift : Bo P w K mg base 7 CM "__rshift__" (spRsh CM) := ⟨⟨f47, _, _, ok_rshift F47 T D_check_other D_first_barred D_image D_mkJ D_mkMJ, b47, a47, i47, sf⟩⟩
  have D_other_side : Df P w K mg base 1 "other_side" spOther := ⟨⟨f10, _, _, ok_other F10 Tm1, PySem.W.mg_of X G a10, k10, b10⟩⟩
  have D_place_behind : Df P w K mg base 2 "place_behind" (spBehind K tS tE tW) := ⟨⟨f11, _, _, ok_behind F11 Tm1 D_other_side, PySem.W.mg_of X G a11, k11, b11⟩⟩
  have D_with_label : Df P w K mg base 1 "with_label" spLabel := ⟨⟨f13, _, _, ok_with_label F13 Tm1, PySem.W.mg_of X G a13, k13, b13⟩⟩
  have D_lead_of : Df P w K mg base 1 "lead_of" (spLead K) := ⟨⟨f14, _, _, ok_lead_of F14 Tm1, PySem.W.mg_of X G a14, k14, b14⟩⟩
  have D_moves_from : Df P w K mg base 3 "moves_from" (spMoves K tS tE tW) := ⟨⟨f12, _, _, ok_moves F12 Tm1 D_other_side D_place_behind, PySem.W.mg_of X G a12, k12, b12⟩⟩
  have D_all_moves : Df P w K mg base 4 "all_moves" (spAll K w tS tE tW) := ⟨⟨f15, _, _, ok_all_moves F15 Tm1 D_moves_from, PySem.W.mg_of X G a15, k15, b15⟩⟩
  have D_all_living : Df P w K mg base 1 "all_living" (spLiving K w tS tE tW) := ⟨⟨f16, _, _, ok_all_living F16 Tm1, PySem.W.mg_of X G a16, k16, b16⟩⟩
  have D_ways_from : Df P w K mg base 2 "ways_from" (spWays K w) := ⟨⟨f17, _, _, ok_ways_from F17 Tm1 D_with_label, PySem.W.mg_of X G a17, k17, b17⟩⟩
  have D_Meetings : MkC P w K mg base 5 CG "Meetings" (spMee K w tS tE tW CG) := ⟨f55, _, _, ⟨mkG, a55, i55, kcG⟩, ok_meet F55 Tn1 D_all_moves D_all_living D_ways_from, PySem.W.mg_of X G aG, b55⟩
  have D_OneToOne : MkC P w K mg base 4 CO "OneToOne" (spOneI CO) := ⟨f50, _, _, ⟨mkO, a50, i50, kcO⟩, ok_oneI F50 Tv1 D_copT2, PySem.W.mg_of X G aO, b50⟩
  have D_Merged : MkC P w K mg base 4 CR "Merged" (spMrgI CR) := ⟨f53, _, _, ⟨mkR, a53, i53, kcR⟩, ok_mrgI F53 Tv1 D_copyW, PySem.W.mg_of X G aR, b53⟩
  have D_ended : Df P w K mg base 3 "ended" (spEnded K w tS tE tW CG) := ⟨⟨f18, _, _, ok_ended F18 Tn1 D_ways_from, PySem.W.mg_of X G a18, k18, b18⟩⟩
  have D_unlike_meeting : Df P w K mg base 4 "unlike_meeting" (spUnlike K w tS tE tW CG) := ⟨⟨f19, _, _, ok_unlike F19 Tn1 D_with_label D_lead_of D_ended, PySem.W.mg_of X G a19, k19, b19⟩⟩
  have D_rests_of : Df P w K mg base 1 "rests_of" (spRests K w tD0 CG) := ⟨⟨f20, _, _, ok_rests F20 Tn1 hSD, PySem.W.mg_of X G a20, k20, b20⟩⟩
  have D_leads_of : Df P w K mg base 2 "leads_of" (spLeads K w tD0 CG) := ⟨⟨f21, _, _, ok_leads F21 Tn1 D_rests_of D_lead_of, PySem.W.mg_of X G a21, k21, b21⟩⟩
  have D_check_misreading : Df P w K mg base 1 "check_misreading" (spChkM CM) := ⟨⟨f22, _, _, ok_check_misreading F22 Tp1, PySem.W.mg_of X G a22, k22, b22⟩⟩
  have D_check_length : Df P w K mg base 4 "check_length" (spChkL CM) := ⟨⟨f23, _, _, ok_check_length F23 Tp1 D_iter D_get, PySem.W.mg_of X G a23, k23, b23⟩⟩
  have D_check_images : Df P w K mg base 5 "check_images" (spChkL CM) := ⟨⟨f24, _, _, ok_check_images F24 Tp1 D_check_misreading D_check_length, PySem.W.mg_of X G a24, k24, b24⟩⟩
  have D_image_pairs : Df P w K mg base 4 "image_pairs" (spPairs CM) := ⟨⟨f25, _, _, ok_image_pairs F25 Tp1 D_iter D_get, PySem.W.mg_of X G a25, k25, b25⟩⟩
  have D_merging : Df P w K mg base 7 "merging" (spMerging K tS tE tW tD0 CM CO CR) := ⟨⟨f26, _, _, ok_merging F26 Tp1 D_check_images D_image_pairs D_Meetings D_unlike_meeting D_leads_of D_rests_of D_OneToOne D_Merged, PySem.W.mg_of X G a26, k26, b26⟩⟩
  have D_boolO : Mf P w K mg base 1 CO "__bool__" (spTrue true) := ⟨⟨f52, _, _, ok_oneB F52, ⟨a52, i52, k52⟩, ⟨a52, i52⟩, n52, b52⟩⟩
  have D_boolR : Mf P w K mg base 1 CR "__bool__" (spTrue false) := ⟨⟨f54, _, _, ok_mrgB F54, ⟨a54, i54, k54⟩, ⟨a54, i54⟩, n54, b54⟩⟩
  have D_eqO : Mf P w K mg base 8 CO "__eq__" (spOneE K CO) := ⟨⟨f51, _, _, ok_oneE F51 Tv1 D_eq3, ⟨a51, i51, k51⟩, ⟨a51, i51⟩, n51, b51⟩⟩
  have D_ordered : Df P w K mg base 1 "_law_ordered" spOrdered := ⟨⟨f34, _, _, ok_ordered F34 T, PySem.W.mg_of X G a34, k34, b34⟩⟩
  have D_steps : Df P w K mg base 1 "_law_steps" spSteps := ⟨⟨f35, _, _, ok_steps F35 T, PySem.W.mg_of X G a35, k35, b35⟩⟩
  have D_web : Df P w K mg base 2 "_law_web" (spWeb w) := ⟨⟨f36, _, _, ok_web F36 T D_steps, PySem.W.mg_of X G a36, k36, b36⟩⟩
  have D_alive : Df P w K mg base 2 "_law_alive" (spAlive w) := ⟨⟨f37, _, _, ok_alive F37 T D_ordered, PySem.W.mg_of X G a37, k37, b37⟩⟩
  have D_leadL : Df P w K mg base 1 "_law_lead" spLeadL := ⟨⟨f38, _, _, ok_leadL F38 T, PySem.W.mg_of X G a38, k38, b38⟩⟩
  have D_taken : Df P w K mg base 1 "_law_taken" spTaken := ⟨⟨f39, _, _, ok_taken F39 T, PySem.W.mg_of X G a39, k39, b39⟩⟩
  have D_leadsK : Df P w K mg base 2 "_law_leads" (spLeadsK w) := ⟨⟨f40, _, _, ok_leadsK F40 T D_leadL D_taken, PySem.W.mg_of X G a40, k40, b40⟩⟩
  have D_papers : Df P w K mg base 3 "_law_papers" spPapers := ⟨⟨f41, _, _, ok_papers F41 T D_web D_alive D_leadsK D_ordered, PySem.W.mg_of X G a41, k41, b41⟩⟩
  have D_listed : Df P w K mg base 1 "_law_listed" spListed := ⟨⟨f42, _, _, ok_listed F42 T, PySem.W.mg_of X G a42, k42, b42⟩⟩
  have D_right : DfG P w K mg base CX0 10 "_law_right" (spRight K tS tE tW tD0 CM) := ⟨⟨f43, _, _, ok_right F43 Tw1 D_merging D_papers D_listed D_iter D_get D_eqO D_OneToOne D_boolO D_boolR, PySem.W.mg_of X G a43, k43, b43⟩⟩
  refine fnG_imp (ok_law F44 Tlaw1 D_pen D_draw D_some_letters D_escapedE D_table D_right D_merging D_mk D_rshift D_iter D_get D_read) fun vs H Q E z => ?_
  obtain ⟨a, ns, e1, e2, e3, e4⟩ := z
  refine ⟨a, ns, e1, e2, e3, ⟨⟨sq_known vS H, sq_known vE H, ?_⟩, sq_known vD H⟩, e4⟩
  rw [← ee]
  exact sq_known vW H
theorem walk {l : PySem.W.OpenLaw} {q : Program} {loose : List Str} {XP : (Str → Option Value) → Heap → Prop} {YP : World → Heap → Prop} {d : DefRec} {K : Params → PySem.W.Frag} (hn : l.most = some 63) (hdf : d.params.defaults = [])
    (hY : ∀ (w : World) (h : Heap), YP w h → (K w.params).In h)
    (F : ∀ (w : World) (mg : Str → Option Value) (fa : Addr) (h : Heap), (K w.params).In h → h.Ns mainGlobals mg → mg d.name = some (.ref fa) →
      ∃ fd : FuncData, (∀ (s : Shared) (u : Value), BindsTo s fd ⟨[u], []⟩ [("_law_script", u)]) ∧ ∀ base : Heap, (K w.params).In base → base.Ns mainGlobals mg → FnG l.prog w (K w.params) mg base CX0 11 fa fd ["_law_script"] (spLaw0 (K w.params))) :
    PySem.W.WalkO q loose XP YP l.row.toRowW d [] (fun f vs => PySem.call f vs) := by
  refine Att.attach_callB hn hdf fun w s₀ s₁ mg mb fa o pm cd doc a vs ns G Y ho hd hcd hmg hobj hints hlen hbits hg => ?_
  have KX := hY w _ Y
  obtain ⟨fd, hb, hF⟩ := F w mg fa _ KX G.T.g hmg
  exact LamX.law_callG (cs := []) KX G.T.g G.T.b G.T.builtins G.T.nolimit hg (fun p hp => nomatch hp) (fun p hp => nomatch hp) (fun p hp => nomatch hp) G.T.bmain hobj hints (Nat.le_trans hlen (by decide)) ⟨rfl, by decide, by decide⟩ (fun base kin g _ => hF base kin g) hb (fun H _ hS => ⟨a, ns, rfl, hS, hlen, fun _ => rfl⟩) fun _ _ _ z => z
end V8
set_option Elab.async false
set_option linter.all false
set_option maxRecDepth 100000
open PySem PySem.W PyProof.Rows
theorem PySem.W.Fast.te10330793483201913061 : True := trivial
theorem PySem.W.Fast.tw13031557907383898969 : True := trivial
set_option maxHeartbeats 0 in
theorem PySem.Challenge.cw_blindrepair_k17_leads_of_images_holds : PySem.Challenge.rw_blindrepair_k17_leads_of_images.Holds := by
  w_on; o_law; k_head; (case hw => w_witness2)
  k_fill
  refine V8.walk (l := PySem.Challenge.rw_blindrepair_k17_leads_of_images) rfl rfl (fun w h Y => PySem.W.kIn_of Y) ?F
  case F =>
    intro w mg fa h KX G hmg
    refine' V8.all_mk KX G hmg ?aC ?aJ ?aG ?aO ?aR ?uS ?vS ?uE ?vE ?uW ?vW ?uD ?vD ?a0 ?l0 ?c0 ?k0 ?a1 ?l1 ?c1 ?k1 ?a2 ?l2 ?c2 ?k2 ?a3 ?l3 ?c3 ?k3 ?a4 ?l4 ?c4 ?k4 ?a5 ?l5 ?c5 ?k5 ?a6 ?l6 ?c6 ?k6 ?a7 ?l7 ?c7 ?k7 ?a8 ?l8 ?c8 ?k8 ?a9 ?l9 ?c9 ?k9 ?a10 ?l10 ?c10 ?k10 ?a11 ?l11 ?c11 ?k11 ?a12 ?l12 ?c12 ?k12 ?a13 ?l13 ?c13 ?k13 ?a14 ?l14 ?c14 ?k14 ?a15 ?l15 ?c15 ?k15 ?a16 ?l16 ?c16 ?k16 ?a17 ?l17 ?c17 ?k17 ?a18 ?l18 ?c18 ?k18 ?a19 ?l19 ?c19 ?k19 ?a20 ?l20 ?c20 ?k20 ?a21 ?l21 ?c21 ?k21 ?a22 ?l22 ?c22 ?k22 ?a23 ?l23 ?c23 ?k23 ?a24 ?l24 ?c24 ?k24 ?a25 ?l25 ?c25 ?k25 ?a26 ?l26 ?c26 ?k26 ?a27 ?l27 ?c27 ?k27 ?a28 ?l28 ?c28 ?k28 ?a29 ?l29 ?c29 ?k29 ?a30 ?l30 ?c30 ?k30 ?a31 ?l31 ?c31 ?k31 ?a32 ?l32 ?c32 ?k32 ?a33 ?l33 ?c33 ?k33 ?a34 ?l34 ?c34 ?k34 ?a35 ?l35 ?c35 ?k35 ?a36 ?l36 ?c36 ?k36 ?a37 ?l37 ?c37 ?k37 ?a38 ?l38 ?c38 ?k38 ?a39 ?l39 ?c39 ?k39 ?a40 ?l40 ?c40 ?k40 ?a41 ?l41 ?c41 ?k41 ?a42 ?l42 ?c42 ?k42 ?a43 ?l43 ?c43 ?k43 ?a44 ?l44 ?c44 ?k44 ?a45 ?i45 ?l45 ?c45 ?k45 ?n45 ?a46 ?i46 ?l46 ?c46 ?k46 ?n46 ?a47 ?i47 ?l47 ?c47 ?k47 ?n47 ?a48 ?i48 ?l48 ?c48 ?k48 ?n48 ?a49 ?i49 ?l49 ?c49 ?k49 ?n49 ?a50 ?i50 ?l50 ?c50 ?k50 ?a51 ?i51 ?l51 ?c51 ?k51 ?n51 ?a52 ?i52 ?l52 ?c52 ?k52 ?n52 ?a53 ?i53 ?l53 ?c53 ?k53 ?a54 ?i54 ?l54 ?c54 ?k54 ?n54 ?a55 ?i55 ?l55 ?c55 ?k55 ?a56 ?i56 ?l56 ?c56 ?k56 ?tI ?sC ?sR ?l57 ?c57 ?k57 ?n57 ?a58 ?i58 ?l58 ?c58 ?k58 ?rd ?ga ?pg ?hd ?po ?sa ?mk ?kc ?sf ?nL ?nI ?nC ?tA ?tD ?ne ?tB ?tC ?rp ?h1 ?h2 ?os_int ?ow_int ?ow_str ?ow_dict ?pgJ ?hdJ ?poJ ?saJ ?mkJ ?kcJ ?nJ ?jA ?jD ?pgO ?hdO ?poO ?saO ?mkO ?kcO ?tAO ?tDO ?neO ?pgR ?hdR ?poR ?saR ?mkR ?kcR ?tAR ?tDR ?neR ?pgG ?hdG ?poG ?saG ?mkG ?kcG ?nO1 ?nO2 ?nR1 ?nR2 ?nG1 ?nG2 ?nG3 ?nfO ?ok_int ?ok_str ?ok_dict ?kdJ ?kMM ?kMJ ?kMs ?kls ?kJJ ?kOO ?kRR ?kOR ?g1 ?g2 ?g3 ?g4 ?g5 ?g6 ?z_list ?z_int ?z_len ?z_abs ?z_range ?z_dict ?z_str ?z_sorted ?z_tuple ?z_isinstance ?z_iter ?z_enumerate ?z_all ?z_bool ?z_any ?z_zip ?z_set ?z_repr
    (case aC => k_is)
    (case aJ => k_is)
    (case aG => k_is)
    (case aO => k_is)
    (case aR => k_is)
    (case uS => k_is)
    (case vS => k_is)
    (case uE => k_is)
    (case vE => k_is)
    (case uW => k_is)
    (case vW => k_is)
    (case uD => k_is)
    (case vD => k_is)
    (case a0 => k_is)
    (case l0 => k_is)
    (case c0 => k_is)
    (case k0 => k_is)
    (case a1 => k_is)
    (case l1 => k_is)
    (case c1 => k_is)
    (case k1 => k_is)
    (case a2 => k_is)
    (case l2 => k_is)
    (case c2 => k_is)
    (case k2 => k_is)
    (case a3 => k_is)
    (case l3 => k_is)
    (case c3 => k_is)
    (case k3 => k_is)
    (case a4 => k_is)
    (case l4 => k_is)
    (case c4 => k_is)
    (case k4 => k_is)
    (case a5 => k_is)
    (case l5 => k_is)
    (case c5 => k_is)
    (case k5 => k_is)
    (case a6 => k_is)
    (case l6 => k_is)
    (case c6 => k_is)
    (case k6 => k_is)
    (case a7 => k_is)
    (case l7 => k_is)
    (case c7 => k_is)
    (case k7 => k_is)
    (case a8 => k_is)
    (case l8 => k_is)
    (case c8 => k_is)
    (case k8 => k_is)
    (case a9 => k_is)
    (case l9 => k_is)
    (case c9 => k_is)
    (case k9 => k_is)
    (case a10 => k_is)
    (case l10 => k_is)
    (case c10 => k_is)
    (case k10 => k_is)
    (case a11 => k_is)
    (case l11 => k_is)
    (case c11 => k_is)
    (case k11 => k_is)
    (case a12 => k_is)
    (case l12 => k_is)
    (case c12 => k_is)
    (case k12 => k_is)
    (case a13 => k_is)
    (case l13 => k_is)
    (case c13 => k_is)
    (case k13 => k_is)
    (case a14 => k_is)
    (case l14 => k_is)
    (case c14 => k_is)
    (case k14 => k_is)
    (case a15 => k_is)
    (case l15 => k_is)
    (case c15 => k_is)
    (case k15 => k_is)
    (case a16 => k_is)
    (case l16 => k_is)
    (case c16 => k_is)
    (case k16 => k_is)
    (case a17 => k_is)
    (case l17 => k_is)
    (case c17 => k_is)
    (case k17 => k_is)
    (case a18 => k_is)
    (case l18 => k_is)
    (case c18 => k_is)
    (case k18 => k_is)
    (case a19 => k_is)
    (case l19 => k_is)
    (case c19 => k_is)
    (case k19 => k_is)
    (case a20 => k_is)
    (case l20 => k_is)
    (case c20 => k_is)
    (case k20 => k_is)
    (case a21 => k_is)
    (case l21 => k_is)
    (case c21 => k_is)
    (case k21 => k_is)
    (case a22 => k_is)
    (case l22 => k_is)
    (case c22 => k_is)
    (case k22 => k_is)
    (case a23 => k_is)
    (case l23 => k_is)
    (case c23 => k_is)
    (case k23 => k_is)
    (case a24 => k_is)
    (case l24 => k_is)
    (case c24 => k_is)
    (case k24 => k_is)
    (case a25 => k_is)
    (case l25 => k_is)
    (case c25 => k_is)
    (case k25 => k_is)
    (case a26 => k_is)
    (case l26 => k_is)
    (case c26 => k_is)
    (case k26 => k_is)
    (case a27 => k_is)
    (case l27 => k_is)
    (case c27 => k_is)
    (case k27 => k_is)
    (case a28 => k_is)
    (case l28 => k_is)
    (case c28 => k_is)
    (case k28 => k_is)
    (case a29 => k_is)
    (case l29 => k_is)
    (case c29 => k_is)
    (case k29 => k_is)
    (case a30 => k_is)
    (case l30 => k_is)
    (case c30 => k_is)
    (case k30 => k_is)
    (case a31 => k_is)
    (case l31 => k_is)
    (case c31 => k_is)
    (case k31 => k_is)
    (case a32 => k_is)
    (case l32 => k_is)
    (case c32 => k_is)
    (case k32 => k_is)
    (case a33 => k_is)
    (case l33 => k_is)
    (case c33 => k_is)
    (case k33 => k_is)
    (case a34 => k_is)
    (case l34 => k_is)
    (case c34 => k_is)
    (case k34 => k_is)
    (case a35 => k_is)
    (case l35 => k_is)
    (case c35 => k_is)
    (case k35 => k_is)
    (case a36 => k_is)
    (case l36 => k_is)
    (case c36 => k_is)
    (case k36 => k_is)
    (case a37 => k_is)
    (case l37 => k_is)
    (case c37 => k_is)
    (case k37 => k_is)
    (case a38 => k_is)
    (case l38 => k_is)
    (case c38 => k_is)
    (case k38 => k_is)
    (case a39 => k_is)
    (case l39 => k_is)
    (case c39 => k_is)
    (case k39 => k_is)
    (case a40 => k_is)
    (case l40 => k_is)
    (case c40 => k_is)
    (case k40 => k_is)
    (case a41 => k_is)
    (case l41 => k_is)
    (case c41 => k_is)
    (case k41 => k_is)
    (case a42 => k_is)
    (case l42 => k_is)
    (case c42 => k_is)
    (case k42 => k_is)
    (case a43 => k_is)
    (case l43 => k_is)
    (case c43 => k_is)
    (case k43 => k_is)
    (case a44 => k_is)
    (case l44 => k_is)
    (case c44 => k_is)
    (case k44 => k_is)
    (case a45 => k_is)
    (case i45 => k_is)
    (case l45 => k_is)
    (case c45 => k_is)
    (case k45 => k_is)
    (case n45 => k_is)
    (case a46 => k_is)
    (case i46 => k_is)
    (case l46 => k_is)
    (case c46 => k_is)
    (case k46 => k_is)
    (case n46 => k_is)
    (case a47 => k_is)
    (case i47 => k_is)
    (case l47 => k_is)
    (case c47 => k_is)
    (case k47 => k_is)
    (case n47 => k_is)
    (case a48 => k_is)
    (case i48 => k_is)
    (case l48 => k_is)
    (case c48 => k_is)
    (case k48 => k_is)
    (case n48 => k_is)
    (case a49 => k_is)
    (case i49 => k_is)
    (case l49 => k_is)
    (case c49 => k_is)
    (case k49 => k_is)
    (case n49 => k_is)
    (case a50 => k_is)
    (case i50 => k_is)
    (case l50 => k_is)
    (case c50 => k_is)
    (case k50 => k_is)
    (case a51 => k_is)
    (case i51 => k_is)
    (case l51 => k_is)
    (case c51 => k_is)
    (case k51 => k_is)
    (case n51 => k_is)
    (case a52 => k_is)
    (case i52 => k_is)
    (case l52 => k_is)
    (case c52 => k_is)
    (case k52 => k_is)
    (case n52 => k_is)
    (case a53 => k_is)
    (case i53 => k_is)
    (case l53 => k_is)
    (case c53 => k_is)
    (case k53 => k_is)
    (case a54 => k_is)
    (case i54 => k_is)
    (case l54 => k_is)
    (case c54 => k_is)
    (case k54 => k_is)
    (case n54 => k_is)
    (case a55 => k_is)
    (case i55 => k_is)
    (case l55 => k_is)
    (case c55 => k_is)
    (case k55 => k_is)
    (case a56 => k_is)
    (case i56 => k_is)
    (case l56 => k_is)
    (case c56 => k_is)
    (case k56 => k_is)
    (case tI => k_is)
    (case sC => k_is)
    (case sR => k_is)
    (case l57 => k_is)
    (case c57 => k_is)
    (case k57 => k_is)
    (case n57 => k_is)
    (case a58 => k_is)
    (case i58 => k_is)
    (case l58 => k_is)
    (case c58 => k_is)
    (case k58 => k_is)
    (case rd => k_is)
    (case ga => k_is)
    (case pg => k_is)
    (case hd => k_is)
    (case po => k_is)
    (case sa => k_is)
    (case mk => k_is)
    (case kc => k_is)
    (case sf => k_is)
    (case nL => k_is)
    (case nI => k_is)
    (case nC => k_is)
    (case tA => k_is)
    (case tD => k_is)
    (case ne => k_is)
    (case tB => k_is)
    (case tC => k_is)
    (case rp => k_is)
    (case h1 => k_is)
    (case h2 => k_is)
    (case os_int => k_is)
    (case ow_int => k_is)
    (case ow_str => k_is)
    (case ow_dict => k_is)
    (case pgJ => k_is)
    (case hdJ => k_is)
    (case poJ => k_is)
    (case saJ => k_is)
    (case mkJ => k_is)
    (case kcJ => k_is)
    (case nJ => k_is)
    (case jA => k_is)
    (case jD => k_is)
    (case pgO => k_is)
    (case hdO => k_is)
    (case poO => k_is)
    (case saO => k_is)
    (case mkO => k_is)
    (case kcO => k_is)
    (case tAO => k_is)
    (case tDO => k_is)
    (case neO => k_is)
    (case pgR => k_is)
    (case hdR => k_is)
    (case poR => k_is)
    (case saR => k_is)
    (case mkR => k_is)
    (case kcR => k_is)
    (case tAR => k_is)
    (case tDR => k_is)
    (case neR => k_is)
    (case pgG => k_is)
    (case hdG => k_is)
    (case poG => k_is)
    (case saG => k_is)
    (case mkG => k_is)
    (case kcG => k_is)
    (case nO1 => k_is)
    (case nO2 => k_is)
    (case nR1 => k_is)
    (case nR2 => k_is)
    (case nG1 => k_is)
    (case nG2 => k_is)
    (case nG3 => k_is)
    (case nfO => k_is)
    (case ok_int => first | kit_is | exact L2.kit_ty (by decide +kernel))
    (case ok_str => first | kit_is | exact L2.kit_ty (by decide +kernel))
    (case ok_dict => first | kit_is | exact L2.kit_ty (by decide +kernel))
    (case kdJ => first | kit_is | exact L2.kit_ty (by decide +kernel))
    (case kMM => first | kit_is | exact L2.kit_ty (by decide +kernel))
    (case kMJ => first | kit_is | exact L2.kit_ty (by decide +kernel))
    (case kMs => first | kit_is | exact L2.kit_ty (by decide +kernel))
    (case kls => first | kit_is | exact L2.kit_ty (by decide +kernel))
    (case kJJ => first | kit_is | exact L2.kit_ty (by decide +kernel))
    (case kOO => first | kit_is | exact L2.kit_ty (by decide +kernel))
    (case kRR => first | kit_is | exact L2.kit_ty (by decide +kernel))
    (case kOR => first | kit_is | exact L2.kit_ty (by decide +kernel))
    (case g1 => k_is)
    (case g2 => k_is)
    (case g3 => k_is)
    (case g4 => k_is)
    (case g5 => k_is)
    (case g6 => k_is)
    (case z_list => k_is)
    (case z_int => k_is)
    (case z_len => k_is)
    (case z_abs => k_is)
    (case z_range => k_is)
    (case z_dict => k_is)
    (case z_str => k_is)
    (case z_sorted => k_is)
    (case z_tuple => k_is)
    (case z_isinstance => k_is)
    (case z_iter => k_is)
    (case z_enumerate => k_is)
    (case z_all => k_is)
    (case z_bool => k_is)
    (case z_any => k_is)
    (case z_zip => k_is)
    (case z_set => k_is)
    (case z_repr => k_is)
